import PyProof.Rows.All
import Wide.All
import OpenK.AllK
import Wide.FinOn
import HandS.ForExc
import KE.KOpsOwn
import KE.KCallOwn
import HandS.OwnEq
import KE.SortKeyHeap
import HandS.SortKw
import HandS.RaiseMore
import HandS.Strs
import HandS.Zip
import HandS.Star
import HandS.ListItems
import HandS.Conv
import HandS.IterVal
import HandS.OwnIter
import PyProof.NeKinds
import HandS.TryMany
import KE.KExcInit
import HandS.ExcOwn
import HandS.ExcValue
import HandS.IsInst
import KE.KExcIs
import HandS.Comp
import HandS.DictComp
import HandS.Walk
import HandS.TupSets
import HandS.ForMost
import HandS.Set
import HandS.SetTxt0
import KE.SortData
import HandS.Dict
import KE.DataMinKey
import HandS.Steps
import HandS.Deep
import HandS.Wide
import HandS.FStr
import KE.LtData
import PySem.Challenge.RW_wishedwires_k52_whole_greatest_pairs
-- OwnOps
section
set_option Elab.async false
set_option linter.all false
set_option maxRecDepth 100000
/-! Operators of own classes, as rules over values: by this text's own hand. -/
namespace OwnOps
open PySem L2

section
variable {X : Cx} {pins : List (Addr × Obj)} {σ : St} {H : Hp} {s : Shared} {a b C dx dy g : Addr} {fs fs' : List (Str × V)}

theorem inst_at (I : Inv X pins σ H s) (e : H a = some (.ins C dx fs)) : ∃ od, PySem.W.InstAt s.heap a (PySem.W.instObj C dx) C (some od) := by
  obtain ⟨mA, O, _⟩ := ins_get I.hok e
  obtain ⟨od, J, _⟩ := O.look
  exact ⟨od, J⟩

theorem back_of {Q : Value → Shared → Prop} {s' : Shared} {v : V} {u : Value} (r : RelV v u) (q : Q u s') : PySem.W.CmpBack Q u s' := by
  cases v with
  | non => cases (show u = Value.none from r); exact q
  | bl b => cases (show u = Value.bool b from r); exact q
  | int i => obtain ⟨t, rfl⟩ := (show ∃ t, u = Value.int i t from r); exact q
  | str y => obtain ⟨t, rfl⟩ := (show ∃ t, u = Value.str y t from r); exact q
  | byt y => obtain ⟨t, rfl⟩ := (show ∃ t, u = Value.bytes y t from r); exact q
  | flt y => obtain ⟨t, rfl⟩ := (show ∃ t, u = Value.float y t from r); exact q
  | ref c => cases (show u = Value.ref c from r); exact q
  | ty n => cases (show u = Value.type n from r); exact q

variable {CX : CXT} {k : Nat} {fd : FuncData} {ps : List Str} {sp : Sp} {E : XK} {A : Around}

/-- a def's call wherever the builtins around it stand -/
theorem run_any {Q : VK} {us : List Value} {vs : List V} (F : FnOk X.prog X.w X.K X.mg X.base CX k g fd ps sp) (hr : Room k A) (e0 : Env0 X.prog X.w X.K X.mg X.base A X.stack s H)
    (hb : Binds X.K fd ps []) (hx : Passes CX X E) (I : Inv X pins σ H s) (r : Vals vs us) (h : sp vs H Q E) :
    wpAny (model X.prog X.w) A (call (.ref g) us) (EP X pins σ Q) X.xe s := by
  have hl : (us ++ []).length = ps.length := by rw [List.append_nil, ← r.length]; exact F.len _ _ _ _ h
  have hb' := hb s us I.kIn hl
  rw [List.append_nil] at hb'
  refine wpAny_call (codeAny_mono (F.run A X.stack s H ⟨us, []⟩ us vs Q E hr e0 hb' r h) fun res s' hq => ?_)
  cases res with
  | error e => exact hx pins σ H s e s' I hq
  | ok fl =>
    cases fl with
    | ret u => exact I.after hq
    | next => exact False.elim hq
    | brk => exact False.elim hq
    | cont => exact False.elim hq
end

/-- what an own class says of a two-place operator: its def, of this class -/
structure Op2 (K : PySem.W.Frag) (C g : Addr) (nm : String) : Prop where
  at_ : PySem.W.findIn K (.ref C) (PySem.dunder nm) = some (some (.ref g))
  rf : ∃ rc, PySem.W.findIn K (.ref C) (PySem.dunderR nm) = some rc ∧ (rc = none ∨ ∃ q : Addr, rc = some (.ref q))
  fn : PySem.W.isFn K (.ref g) = true
  first : PySem.W.selfFirst K C = true
/-- what is known of a built-in type beside the class at C, for the operator -/
structure Ty2 (K : PySem.W.Frag) (C : Addr) (nm T : String) : Prop where
  lf : ∃ fo, PySem.W.findIn K (.type T) (PySem.dunder nm) = some fo
  rt : ∃ ro, PySem.W.findIn K (.type T) (PySem.dunderR nm) = some ro
  sub : PySem.W.subIn K (.type T) (.ref C) = some false

/-- the reading of x op y by x's own def -/
def rOwn2 (C : Addr) (R : V → Hp → Prop) (sp : Sp) (E : XK) : R2 := fun x y H Q => ∃ a dx fs, x = .ref a ∧ H a = some (.ins C dx fs) ∧ R y H ∧ sp [x, y] H Q E
def RIns (C : Addr) : V → Hp → Prop := fun y H => ∃ b dy fs, y = .ref b ∧ H b = some (.ins C dy fs)
def RInt : V → Hp → Prop := fun y _ => ∃ i, y = .int i

section
variable {X : Cx} {CX : CXT} {C g : Addr} {k : Nat} {fd : FuncData} {ps : List Str} {sp : Sp} {E : XK} {op : Operator} {T : String}

/-- x op y, both of the class at C -/
theorem op_ins (O : Op2 X.K C g op.info.2) (F : FnOk X.prog X.w X.K X.mg X.base CX k g fd ps sp) (hr : Room k X.A) (hb : Binds X.K fd ps []) (hx : Passes CX X E) :
    OpR X (binaryOp op) (rOwn2 C (RIns C) sp E) := by
  intro pins s σ H x y v u Q I rx ry h
  obtain ⟨a, dx, fs, rfl, ha, ⟨b, dy, fs', rfl, hb'⟩, q⟩ := h
  cases (show v = Value.ref a from rx)
  cases (show u = Value.ref b from ry)
  obtain ⟨od, J⟩ := inst_at I ha
  obtain ⟨od', J'⟩ := inst_at I hb'
  obtain ⟨m, hF⟩ := I.fr
  refine PySem.W.binop_K hF I.ok.mod.kin J J'.type O.first O.at_ O.fn ?_
  refine wpAny_mono (run_any (us := [.ref a, .ref b]) (vs := [.ref a, .ref b]) F hr I.env0 hb hx I (.cons rfl (.cons rfl .nil)) q) (fun w s' z => ?_) fun _ _ e => e
  obtain ⟨z', H', I', rz, qz⟩ := id z
  exact back_of rz z

/-- x op y, y of a built-in type that tells its type at once -/
theorem op_val (O : Op2 X.K C g op.info.2) (Y : Ty2 X.K C op.info.2 T) (F : FnOk X.prog X.w X.K X.mg X.base CX k g fd ps sp) (hr : Room k X.A) (hb : Binds X.K fd ps []) (hx : Passes CX X E)
    {R : V → Hp → Prop} (hR : ∀ {y : V} {H : Hp} {u : Value}, R y H → RelV y u → typeOf u = pure (.type T)) :
    OpR X (binaryOp op) (rOwn2 C R sp E) := by
  intro pins s σ H x y v u Q I rx ry h
  obtain ⟨a, dx, fs, rfl, ha, hy, q⟩ := h
  cases (show v = Value.ref a from rx)
  obtain ⟨od, J⟩ := inst_at I ha
  obtain ⟨m, hF⟩ := I.fr
  obtain ⟨fo, hfo⟩ := Y.lf
  obtain ⟨ro, hro⟩ := Y.rt
  obtain ⟨rc, hrc, hp⟩ := O.rf
  refine PySem.W.ksp_binT hF I.ok.mod.kin J (hR hy ry) O.first O.at_ O.fn hrc hp hfo hro Y.sub ?_
  refine wpAny_mono (run_any (us := [.ref a, u]) (vs := [.ref a, y]) F hr I.env0 hb hx I (.cons rfl (.cons ry .nil)) q) (fun w s' z => ?_) fun _ _ e => e
  obtain ⟨z', H', I', rz, qz⟩ := id z
  exact back_of rz z
end
end OwnOps
end

-- OwnOps2
section
set_option Elab.async false
set_option linter.all false
set_option maxRecDepth 100000
namespace OwnOps
open PySem L2

section
variable {prog : Program} {w : World} {A : Around} {E : Value → Shared → Prop} {s : Shared} {K : PySem.W.Frag} {y C f g : Addr} {oy : Obj} {od : Option Obj} {u : Value} {T : String}

/-- u op y by y's reflected def: u's own type has no slot for it, or declines -/
theorem refl_K {op : Operator} {left : Bool} {Q : Value → Shared → Prop} (Y : K.In s.heap) (I : PySem.W.InstAt s.heap y oy C od)
    (ht : PySem.W.Looks (model prog w) s.heap (typeOf u) (.type T)) (hc : PySem.W.selfFirst K C = true)
    (hs : PySem.W.findIn K (.ref C) (PySem.dunder op.info.2) = some (some (.ref f))) (hr : PySem.W.findIn K (.ref C) (PySem.dunderR op.info.2) = some (some (.ref g)))
    (hg : PySem.W.isFn K (.ref g) = true) (hl : PySem.W.Looks (model prog w) s.heap (fillsNumberSlot (.type T) op.info.2) left)
    (hsub : PySem.W.subIn K (.ref C) (.type T) = some false)
    (hd : left = true → ∀ {Q : Option Value → Shared → Prop}, Q none s → wpAny (model prog w) A (tryMethod u (PySem.dunder op.info.2) (.ref y)) Q E s)
    (h : wpAny (model prog w) A (call (.ref g) [.ref y, u]) (PySem.W.CmpBack Q) E s) : wpAny (model prog w) A (binaryOp op u (.ref y)) Q E s := by
  obtain ⟨cd, rest, hcd, hm⟩ := PySem.W.ksp_first hc
  rcases hi : op.info with ⟨sym, nm⟩
  rw [hi] at hs hr hl hd
  dsimp only at hs hr hl hd
  have one := PySem.W.ksp_try Y I hr hg h
  obtain ⟨hh, gg, d, tt, os⟩ := s
  have L1 : PySem.W.Looks (model prog w) hh (typeOf (.ref y)) (.ref C) := I.type
  have L3 : PySem.W.Looks (model prog w) hh (fillsNumberSlot (.ref C) nm) true := PySem.W.fills_K Y hcd hm hs
  have L5 : PySem.W.Looks (model prog w) hh (isSubtype (.ref C) (.type T)) false := PySem.W.looks_subIn Y hsub
  have L7 : PySem.W.Looks (model prog w) hh (numberSlotInPython (.type T) nm) false := PySem.W.Looks.of_pure rfl
  have hne : (Value.type T == Value.ref C) = false := Bool.eq_false_iff.mpr fun q => by cases beq_iff_eq.mp q
  simp only [binaryOp, hi]
  refine wpAny_holding (wpAny_bind ?_)
  unfold binaryOp1
  refine wpAny_bind (ht.at (wpAny_bind (L1.at (wpAny_bind (hl.at ?_)))))
  simp only [hne, Bool.false_eq_true, if_false]
  cases left with
  | false =>
    ksp_lk
    refine wpAny_mono one (fun r s' hr' => ?_) fun _ _ e => e
    obtain ⟨v, rfl, hq⟩ := hr'
    ksp_lk
    exact hq
  | true =>
    ksp_lk
    refine hd rfl ?_
    ksp_lk
    refine wpAny_mono one (fun r s' hr' => ?_) fun _ _ e => e
    obtain ⟨v, rfl, hq⟩ := hr'
    ksp_lk
    exact hq
end
end OwnOps
end

-- OwnOps3
section
set_option Elab.async false
set_option linter.all false
set_option maxRecDepth 100000
namespace OwnOps
open PySem L2

section
variable {prog : Program} {w : World} {A : Around} {E : Value → Shared → Prop} {s : Shared} {K : PySem.W.Frag} {y C f g : Addr} {oy : Obj} {od : Option Obj} {n : Int} {t : Tok}
open MeetsSeq MeetsSeq2 MeetsSeq3 SeqRoads2 AutoSeq1
theorem int_call_add {Q : Value → Shared → Prop} (hy : s.heap.get? y = some oy) (hp : oy.data = .plain) (h : Q .notImplemented s) :
    wpAny (model prog w) A (call (.builtin "int.__add__") [.int n t, .ref y]) Q E s := by
  refine GQ.call_here F.slot_int_add (typeIs_int s n t) F.entry_int_add (F.args_int_add_2 _ _) ?_
  obtain ⟨c, dd, dt, sl⟩ := oy
  cases hp
  obtain ⟨hh, gg, d, tt, os⟩ := s
  wp_walk using wpAny_loadPart' hy
  exact h
theorem int_call_sub {Q : Value → Shared → Prop} (hy : s.heap.get? y = some oy) (hp : oy.data = .plain) (h : Q .notImplemented s) :
    wpAny (model prog w) A (call (.builtin "int.__sub__") [.int n t, .ref y]) Q E s := by
  refine GQ.call_here F.slot_int_sub (typeIs_int s n t) F.entry_int_sub (F.args_int_sub_2 _ _) ?_
  obtain ⟨c, dd, dt, sl⟩ := oy
  cases hp
  obtain ⟨hh, gg, d, tt, os⟩ := s
  wp_walk using wpAny_loadPart' hy
  exact h
theorem int_call_mul {Q : Value → Shared → Prop} (hy : s.heap.get? y = some oy) (hp : oy.data = .plain) (h : Q .notImplemented s) :
    wpAny (model prog w) A (call (.builtin "int.__mul__") [.int n t, .ref y]) Q E s := by
  refine GQ.call_here F.slot_int_mul (typeIs_int s n t) F.entry_int_mul (F.args_int_mul_2 _ _) ?_
  obtain ⟨c, dd, dt, sl⟩ := oy
  cases hp
  obtain ⟨hh, gg, d, tt, os⟩ := s
  wp_walk using wpAny_loadPart' hy
  exact h
theorem bool_call_mul {k : Bool} {Q : Value → Shared → Prop} (hy : s.heap.get? y = some oy) (hp : oy.data = .plain) (h : Q .notImplemented s) :
    wpAny (model prog w) A (call (.builtin "int.__mul__") [.bool k, .ref y]) Q E s := by
  refine GQ.call_here F.slot_bool_mul (typeIs_bool s k) F.entry_int_mul (F.args_int_mul_2 _ _) ?_
  obtain ⟨c, dd, dt, sl⟩ := oy
  cases hp
  obtain ⟨hh, gg, d, tt, os⟩ := s
  wp_walk using wpAny_loadPart' hy
  exact h
/-- how an int meets an instance of no built-in kind -/
theorem int_cmp_eq {Q : Value → Shared → Prop} (hy : s.heap.get? y = some oy) (hp : oy.data = .plain) (h : Q .notImplemented s) :
    wpAny (model prog w) A (call (.builtin "int.__eq__") [.int n t, .ref y]) Q E s := by
  refine GQ.call_here F.slot_int_eq (typeIs_int s n t) F.entry_int_eq (F.args_int_eq_2 _ _) ?_
  obtain ⟨c, dd, dt, sl⟩ := oy
  cases hp
  obtain ⟨hh, gg, d, tt, os⟩ := s
  wp_walk using wpAny_loadPart' hy
  exact h
theorem int_cmp_ne {Q : Value → Shared → Prop} (hy : s.heap.get? y = some oy) (hp : oy.data = .plain) (h : Q .notImplemented s) :
    wpAny (model prog w) A (call (.builtin "int.__ne__") [.int n t, .ref y]) Q E s := by
  refine GQ.call_here F.slot_int_ne (typeIs_int s n t) F.entry_int_ne (F.args_int_ne_2 _ _) ?_
  obtain ⟨c, dd, dt, sl⟩ := oy
  cases hp
  obtain ⟨hh, gg, d, tt, os⟩ := s
  wp_walk using wpAny_loadPart' hy
  exact h
theorem int_cmp_lt {Q : Value → Shared → Prop} (hy : s.heap.get? y = some oy) (hp : oy.data = .plain) (h : Q .notImplemented s) :
    wpAny (model prog w) A (call (.builtin "int.__lt__") [.int n t, .ref y]) Q E s := by
  refine GQ.call_here F.slot_int_lt (typeIs_int s n t) F.entry_int_lt (F.args_int_lt_2 _ _) ?_
  obtain ⟨c, dd, dt, sl⟩ := oy
  cases hp
  obtain ⟨hh, gg, d, tt, os⟩ := s
  wp_walk using wpAny_loadPart' hy
  exact h
theorem int_cmp_le {Q : Value → Shared → Prop} (hy : s.heap.get? y = some oy) (hp : oy.data = .plain) (h : Q .notImplemented s) :
    wpAny (model prog w) A (call (.builtin "int.__le__") [.int n t, .ref y]) Q E s := by
  refine GQ.call_here F.slot_int_le (typeIs_int s n t) F.entry_int_le (F.args_int_le_2 _ _) ?_
  obtain ⟨c, dd, dt, sl⟩ := oy
  cases hp
  obtain ⟨hh, gg, d, tt, os⟩ := s
  wp_walk using wpAny_loadPart' hy
  exact h
theorem int_cmp_gt {Q : Value → Shared → Prop} (hy : s.heap.get? y = some oy) (hp : oy.data = .plain) (h : Q .notImplemented s) :
    wpAny (model prog w) A (call (.builtin "int.__gt__") [.int n t, .ref y]) Q E s := by
  refine GQ.call_here F.slot_int_gt (typeIs_int s n t) F.entry_int_gt (F.args_int_gt_2 _ _) ?_
  obtain ⟨c, dd, dt, sl⟩ := oy
  cases hp
  obtain ⟨hh, gg, d, tt, os⟩ := s
  wp_walk using wpAny_loadPart' hy
  exact h
theorem int_cmp_ge {Q : Value → Shared → Prop} (hy : s.heap.get? y = some oy) (hp : oy.data = .plain) (h : Q .notImplemented s) :
    wpAny (model prog w) A (call (.builtin "int.__ge__") [.int n t, .ref y]) Q E s := by
  refine GQ.call_here F.slot_int_ge (typeIs_int s n t) F.entry_int_ge (F.args_int_ge_2 _ _) ?_
  obtain ⟨c, dd, dt, sl⟩ := oy
  cases hp
  obtain ⟨hh, gg, d, tt, os⟩ := s
  wp_walk using wpAny_loadPart' hy
  exact h
end
/-- int op instance, declined -/
def IntDec (op : CmpOp) : Prop := ∀ {prog : Program} {w : World} {A : Around} {E : Value → Shared → Prop} {s : Shared} {y : Addr} {oy : Obj} {n : Int} {t : Tok} {Q : Option Value → Shared → Prop}, s.heap.get? y = some oy → oy.data = .plain → Q none s →
  wpAny (model prog w) A (tryCompare (.int n t) (cmpInfo op).2.1 (.ref y)) Q E s
theorem dec_eq : IntDec .Eq := fun hy hp h => wpAny_tryCompare_declines (typeIs_int _ _ _) F.slot_int_eq (int_cmp_eq hy hp ⟨rfl, h⟩)
theorem dec_ne : IntDec .NotEq := fun hy hp h => wpAny_tryCompare_declines (typeIs_int _ _ _) F.slot_int_ne (int_cmp_ne hy hp ⟨rfl, h⟩)
theorem dec_lt : IntDec .Lt := fun hy hp h => wpAny_tryCompare_declines (typeIs_int _ _ _) F.slot_int_lt (int_cmp_lt hy hp ⟨rfl, h⟩)
theorem dec_le : IntDec .LtE := fun hy hp h => wpAny_tryCompare_declines (typeIs_int _ _ _) F.slot_int_le (int_cmp_le hy hp ⟨rfl, h⟩)
theorem dec_gt : IntDec .Gt := fun hy hp h => wpAny_tryCompare_declines (typeIs_int _ _ _) F.slot_int_gt (int_cmp_gt hy hp ⟨rfl, h⟩)
theorem dec_ge : IntDec .GtE := fun hy hp h => wpAny_tryCompare_declines (typeIs_int _ _ _) F.slot_int_ge (int_cmp_ge hy hp ⟨rfl, h⟩)
def IntDecB (op : Operator) : Prop := ∀ {prog : Program} {w : World} {A : Around} {E : Value → Shared → Prop} {s : Shared} {y : Addr} {oy : Obj} {n : Int} {t : Tok} {Q : Option Value → Shared → Prop}, s.heap.get? y = some oy → oy.data = .plain → Q none s →
  wpAny (model prog w) A (tryMethod (.int n t) (PySem.dunder op.info.2) (.ref y)) Q E s
theorem dec_add : IntDecB .Add := by
  intro prog w A E s y oy n t Q hy hp h
  show wpAny (model prog w) A (tryMethod (.int n t) (PySem.dunder "add") (.ref y)) Q E s
  have hc : wpAny (model prog w) A (call (.builtin "int.__add__") [.int n t, .ref y]) (fun v s' => v = .notImplemented ∧ Q none s') E s := int_call_add hy hp ⟨rfl, h⟩
  exact wpAny_tryMethod_declines (name := PySem.dunder "add") (id := "int.__add__") (typeIs_int s n t) F.slot_int_add hc
theorem dec_sub : IntDecB .Sub := by
  intro prog w A E s y oy n t Q hy hp h
  show wpAny (model prog w) A (tryMethod (.int n t) (PySem.dunder "sub") (.ref y)) Q E s
  have hc : wpAny (model prog w) A (call (.builtin "int.__sub__") [.int n t, .ref y]) (fun v s' => v = .notImplemented ∧ Q none s') E s := int_call_sub hy hp ⟨rfl, h⟩
  exact wpAny_tryMethod_declines (name := PySem.dunder "sub") (id := "int.__sub__") (typeIs_int s n t) F.slot_int_sub hc
theorem dec_mul : IntDecB .Mult := by
  intro prog w A E s y oy n t Q hy hp h
  show wpAny (model prog w) A (tryMethod (.int n t) (PySem.dunder "mul") (.ref y)) Q E s
  have hc : wpAny (model prog w) A (call (.builtin "int.__mul__") [.int n t, .ref y]) (fun v s' => v = .notImplemented ∧ Q none s') E s := int_call_mul hy hp ⟨rfl, h⟩
  exact wpAny_tryMethod_declines (name := PySem.dunder "mul") (id := "int.__mul__") (typeIs_int s n t) F.slot_int_mul hc

section
variable {prog : Program} {w : World} {A : Around} {E : Value → Shared → Prop} {s : Shared} {K : PySem.W.Frag} {y C f g : Addr} {oy : Obj} {od : Option Obj} {n : Int} {t : Tok}
/-- n op y by y's def for the comparison turned round -/
theorem cmp_refl {op : CmpOp} {Q : Value → Shared → Prop} (hu : A.units < cLine) (Y : K.In s.heap) (I : PySem.W.InstAt s.heap y oy C od) (hp : oy.data = .plain) (dec : IntDec op)
    (hsub : PySem.W.subIn K (.ref C) (.type "int") = some false) (hr : PySem.W.findIn K (.ref C) (cmpInfo op).2.2 = some (some (.ref g))) (hg : PySem.W.isFn K (.ref g) = true)
    (h : wpAny (model prog w) A (call (.ref g) [.ref y, .int n t]) (PySem.W.CmpBack Q) E s) : wpAny (model prog w) A (richCompare op (.int n t) (.ref y)) Q E s := by
  have one : wpAny (model prog w) A (tryCompare (.ref y) (cmpInfo op).2.2 (.int n t)) (fun r s' => ∃ v, r = some v ∧ Q v s') E s := by
    unfold tryCompare
    refine wpAny_bind (PySem.W.ifBound_K Y I hr hg (wpAny_mono h (fun v s' hv => ?_) fun _ _ e => e))
    cases v <;> first | exact hv.elim | exact wpAny_pure ⟨_, rfl, hv⟩
  have h1 : oneThing? op (.int n t) (.ref y) = none := rfl
  have hne : (Value.type "int" != Value.ref C) = true := rfl
  unfold richCompare
  simp only [h1]
  refine wpAny_holding (wpAny_bind (wpAny_cRoomFor hu ?_))
  refine wpAny_bind ((PySem.W.Looks.of_pure rfl : PySem.W.Looks (model prog w) s.heap (typeOf (.int n t)) (.type "int")).here (wpAny_bind (I.type.here ?_)))
  rw [hne]
  simp only [if_true]
  refine wpAny_bind ((PySem.W.looks_subIn Y hsub).here ?_)
  simp only [Bool.false_eq_true, if_false]
  refine wpAny_bind (dec I.at_ hp ?_)
  simp only [Bool.not_false, if_true]
  refine wpAny_bind (wpAny_mono one (fun r s' z => ?_) fun _ _ e => e)
  obtain ⟨v, rfl, hq⟩ := z
  exact wpAny_pure hq
end
end OwnOps
end

-- OwnOps4
section
set_option Elab.async false
set_option linter.all false
set_option maxRecDepth 100000
namespace OwnOps
open PySem L2

section
variable {X : Cx} {CX : CXT} {C g f : Addr} {k : Nat} {fd : FuncData} {ps : List Str} {sp : Sp} {E : XK} {op : Operator} {T : String}

/-- the reading of n op y by y's def -/
def rRef2 (C : Addr) (sp : Sp) (E : XK) : R2 := fun x y H Q => ∃ (i : Int) (b dy : Addr) (fs : List (Str × V)), x = .int i ∧ y = .ref b ∧ H b = some (.ins C dy fs) ∧ sp [y, x] H Q E

theorem op_refl {nm : String} (hnm : op.info.2 = nm) (O : Op2 X.K C f nm) (hrf : PySem.W.findIn X.K (.ref C) (PySem.dunderR nm) = some (some (.ref g))) (hg : PySem.W.isFn X.K (.ref g) = true) (hl : fillsNumberSlot (.type "int") nm = pure true)
    (hsub : PySem.W.subIn X.K (.ref C) (.type "int") = some false) (dec : IntDecB op)
    (F : FnOk X.prog X.w X.K X.mg X.base CX k g fd ps sp) (hr : Room k X.A) (hb : Binds X.K fd ps []) (hx : Passes CX X E) : OpR X (binaryOp op) (rRef2 C sp E) := by
  subst hnm
  intro pins s σ H x y v u Q I rx ry h
  obtain ⟨i, b, dy, fs, rfl, rfl, hb', q⟩ := h
  obtain ⟨t, rfl⟩ := (show ∃ t, v = Value.int i t from rx)
  cases (show u = Value.ref b from ry)
  obtain ⟨od, J⟩ := inst_at I hb'
  refine refl_K I.kIn J (PySem.W.Looks.of_pure rfl) O.first O.at_ hrf hg (PySem.W.Looks.of_pure hl) hsub (fun _ Q' q' => dec J.at_ rfl q') ?_
  refine wpAny_mono (run_any (us := [.ref b, .int i t]) (vs := [.ref b, .int i]) F hr I.env0 hb hx I (.cons rfl (.cons ⟨t, rfl⟩ .nil)) q) (fun w s' z => ?_) fun _ _ e => e
  obtain ⟨z', H', I', rz, qz⟩ := id z
  exact back_of rz z

/-- x op y (a comparison), x of the class at C -/
theorem cmp_own {op : CmpOp} (hop : ∀ a b, compareOp op a b = richCompare op a b) (hs : PySem.W.findIn X.K (.ref C) (cmpInfo op).2.1 = some (some (.ref g))) (hf : PySem.W.isFn X.K (.ref g) = true)
    (F : FnOk X.prog X.w X.K X.mg X.base CX k g fd ps sp) (hr : Room k X.A) (hb : Binds X.K fd ps []) (hx : Passes CX X E)
    {R : V → Hp → Prop} (hR : ∀ {y : V} {H : Hp} {u : Value} {pins : List (Addr × Obj)} {σ : St} {s : Shared}, L2.Inv X pins σ H s → R y H → RelV y u → ∃ tb, PySem.W.Looks (model X.prog X.w) s.heap (typeOf u) tb ∧ PySem.W.notFirst X.K C tb = true) :
    OpR X (compareOp op) (rOwn2 C R sp E) := by
  intro pins s σ H x y v u Q I rx ry h
  obtain ⟨a, dx, fs, rfl, ha, hy, q⟩ := h
  cases (show v = Value.ref a from rx)
  obtain ⟨od, J⟩ := inst_at I ha
  obtain ⟨m, hF⟩ := I.fr
  obtain ⟨tb, ht, hn⟩ := hR I hy ry
  rw [hop]
  refine PySem.W.cmp_K (op := op) hr.units0 hF I.ok.mod.kin J ht hn hs hf ?_
  refine wpAny_mono (run_any (us := [.ref a, u]) (vs := [.ref a, y]) F hr I.env0 hb hx I (.cons rfl (.cons ry .nil)) q) (fun w s' z => ?_) fun _ _ e => e
  obtain ⟨z', H', I', rz, qz⟩ := id z
  exact back_of rz z
theorem looks_ins (hsame : PySem.W.notFirst X.K C (.ref C) = true) {y : V} {H : Hp} {u : Value} {pins : List (Addr × Obj)} {σ : St} {s : Shared} (I : L2.Inv X pins σ H s) (h : RIns C y H) (ry : RelV y u) :
    ∃ tb, PySem.W.Looks (model X.prog X.w) s.heap (typeOf u) tb ∧ PySem.W.notFirst X.K C tb = true := by
  obtain ⟨b, dy, fs, rfl, hb⟩ := h
  cases (show u = Value.ref b from ry)
  obtain ⟨od, J⟩ := inst_at I hb
  exact ⟨_, J.type, hsame⟩
theorem looks_int (hi : PySem.W.notFirst X.K C (.type "int") = true) {y : V} {H : Hp} {u : Value} {pins : List (Addr × Obj)} {σ : St} {s : Shared} (I : L2.Inv X pins σ H s) (h : RInt y H) (ry : RelV y u) :
    ∃ tb, PySem.W.Looks (model X.prog X.w) s.heap (typeOf u) tb ∧ PySem.W.notFirst X.K C tb = true := by
  obtain ⟨i, rfl⟩ := h
  obtain ⟨t, rfl⟩ := (show ∃ t, u = Value.int i t from ry)
  exact ⟨_, PySem.W.Looks.of_pure rfl, hi⟩

theorem cmp_refl2 {op : CmpOp} (hop : ∀ a b, compareOp op a b = richCompare op a b) (dec : IntDec op) (hs : PySem.W.findIn X.K (.ref C) (cmpInfo op).2.2 = some (some (.ref g))) (hf : PySem.W.isFn X.K (.ref g) = true)
    (hsub : PySem.W.subIn X.K (.ref C) (.type "int") = some false)
    (F : FnOk X.prog X.w X.K X.mg X.base CX k g fd ps sp) (hr : Room k X.A) (hb : Binds X.K fd ps []) (hx : Passes CX X E) : OpR X (compareOp op) (rRef2 C sp E) := by
  intro pins s σ H x y v u Q I rx ry h
  obtain ⟨i, b, dy, fs, rfl, rfl, hb', q⟩ := h
  obtain ⟨t, rfl⟩ := (show ∃ t, v = Value.int i t from rx)
  cases (show u = Value.ref b from ry)
  obtain ⟨od, J⟩ := inst_at I hb'
  rw [hop]
  refine cmp_refl hr.units0 I.kIn J rfl dec hsub hs hf ?_
  refine wpAny_mono (run_any (us := [.ref b, .int i t]) (vs := [.ref b, .int i]) F hr I.env0 hb hx I (.cons rfl (.cons ⟨t, rfl⟩ .nil)) q) (fun w s' z => ?_) fun _ _ e => e
  obtain ⟨z', H', I', rz, qz⟩ := id z
  exact back_of rz z

/-- one-place: what x's own def hands back -/
def rOwn1 (C : Addr) (sp : Sp) (E : XK) (R : V → Prop) : V → Hp → VK → Prop := fun x H Q => ∃ a dx fs, x = .ref a ∧ H a = some (.ins C dx fs) ∧ sp [x] H (fun z H' => R z ∧ Q z H') E
theorem neg_own (hs : PySem.W.findIn X.K (.ref C) "__neg__" = some (some (.ref g))) (hf : PySem.W.isFn X.K (.ref g) = true)
    (F : FnOk X.prog X.w X.K X.mg X.base CX k g fd ps sp) (hr : Room k X.A) (hb : Binds X.K fd ps []) (hx : Passes CX X E) : UnR X (unaryOp .USub) (rOwn1 C sp E fun _ => True) := by
  intro pins s σ H x v Q I rx h
  obtain ⟨a, dx, fs, rfl, ha, q⟩ := h
  cases (show v = Value.ref a from rx)
  obtain ⟨od, J⟩ := inst_at I ha
  obtain ⟨m, hF⟩ := I.fr
  refine PySem.W.ksp_neg hF I.ok.mod.kin J hs hf ?_
  refine wpAny_mono (run_any (us := [.ref a]) (vs := [.ref a]) F hr I.env0 hb hx I (.cons rfl .nil) q) (fun w s' z => ?_) fun _ _ e => e
  obtain ⟨z', H', I', rz, _, qz⟩ := z
  exact ⟨z', H', I', rz, qz⟩

open Builtin in
theorem abs_K {prog : Program} {w : World} {A : Around} {E : Value → Shared → Prop} {s : Shared} {K : PySem.W.Frag} {x C f : Addr} {ox : Obj} {od : Option Obj} {Q : Value → Shared → Prop} (Y : K.In s.heap) (I : PySem.W.InstAt s.heap x ox C od)
    (hs : PySem.W.findIn K (.ref C) "__abs__" = some (some (.ref f))) (hf : PySem.W.isFn K (.ref f) = true)
    (h : wpAny (model prog w) A.in1 (call (.ref f) [.ref x]) Q E s) : wpAny (model prog w) A (call (.builtin "abs") [.ref x]) Q E s := by
  refine Calls.call_function_entry PyProof.Rows.kind_abs PyProof.Rows.plain_abs PyProof.Rows.entry_abs (PyProof.Rows.args_abs _) ?_
  unfold Builtin.«abs»
  refine wpAny_bind (m := oneArg "abs" _) (wpAny_pure ?_)
  refine wpAny_bind (m := callSpecial? (.ref x) (Str.ofString "__abs__")) (PySem.W.special_fn Y I hs (beq_iff_eq.mp hf) (wpAny_mono h (fun r s' z => ?_) fun _ _ e => e))
  exact wpAny_pure ⟨_, rfl, z⟩

theorem room2 {k : Nat} {A : Around} (r : Room (k + 2) A) : Room k A.in1.in1 := (Room.in1 (r.in1))

theorem call_absO (hs : PySem.W.findIn X.K (.ref C) "__abs__" = some (some (.ref g))) (hf : PySem.W.isFn X.K (.ref g) = true)
    (F : FnOk X.prog X.w X.K X.mg X.base CX k g fd ps sp) (hr : Room (k + 1) X.A) (hb : Binds X.K fd ps []) (hx : Passes CX X E) : CallR X (.builtin "abs") (fun xs H Q => ∃ x, xs = [x] ∧ rOwn1 C sp E (fun _ => True) x H Q) := by
  intro pins s σ H xs us Q I rx h
  obtain ⟨x, rfl, a, dx, fs, rfl, ha, q⟩ := h
  obtain ⟨u, rfl, ru⟩ := vals1 rx
  cases (show u = Value.ref a from ru)
  obtain ⟨od, J⟩ := inst_at I ha
  refine abs_K I.kIn J hs hf ?_
  refine wpAny_mono (run_any (us := [.ref a]) (vs := [.ref a]) F hr.in1 I.env0.in1 hb hx I (.cons rfl .nil) q) (fun w s' z => ?_) fun _ _ e => e
  obtain ⟨z', H', I', rz, _, qz⟩ := z
  exact ⟨z', H', I', rz, qz⟩

def IsStr : V → Prop := fun z => ∃ y, z = .str y
theorem strback {Q : Value → Shared → Prop} {z : V} {u : Value} {s' : Shared} (hz : IsStr z) (r : RelV z u) (q : Q u s') : PySem.W.StrBack Q u s' := by
  obtain ⟨y, rfl⟩ := hz
  obtain ⟨t, rfl⟩ := (show ∃ t, u = Value.str y t from r)
  exact q
theorem call_reprO (hs : PySem.W.findIn X.K (.ref C) "__repr__" = some (some (.ref g))) (hf : PySem.W.isFn X.K (.ref g) = true)
    (F : FnOk X.prog X.w X.K X.mg X.base CX k g fd ps sp) (hr : Room (k + 1) X.A) (hb : Binds X.K fd ps []) (hx : Passes CX X E) : CallR X (.builtin "repr") (fun xs H Q => ∃ x, xs = [x] ∧ rOwn1 C sp E IsStr x H Q) := by
  intro pins s σ H xs us Q I rx h
  obtain ⟨x, rfl, a, dx, fs, rfl, ha, q⟩ := h
  obtain ⟨u, rfl, ru⟩ := vals1 rx
  cases (show u = Value.ref a from ru)
  obtain ⟨od, J⟩ := inst_at I ha
  obtain ⟨m, hF⟩ := I.fr
  refine PySem.W.repr_K hr.in1.units0 hF I.ok.mod.kin J hs hf ?_
  refine wpAny_mono (run_any (us := [.ref a]) (vs := [.ref a]) F hr.in1 I.env0.in1 hb hx I (.cons rfl .nil) q) (fun w s' z => ?_) fun _ _ e => e
  obtain ⟨z', H', I', rz, hz, qz⟩ := z
  exact strback hz rz ⟨z', H', I', rz, qz⟩
theorem call_strO (hs : PySem.W.findIn X.K (.ref C) "__str__" = some (some (.ref g))) (hf : PySem.W.isFn X.K (.ref g) = true)
    (F : FnOk X.prog X.w X.K X.mg X.base CX k g fd ps sp) (hr : Room (k + 2) X.A) (hb : Binds X.K fd ps []) (hx : Passes CX X E) : CallR X (.type "str") (fun xs H Q => ∃ x, xs = [x] ∧ rOwn1 C sp E IsStr x H Q) := by
  intro pins s σ H xs us Q I rx h
  obtain ⟨x, rfl, a, dx, fs, rfl, ha, q⟩ := h
  obtain ⟨u, rfl, ru⟩ := vals1 rx
  cases (show u = Value.ref a from ru)
  obtain ⟨od, J⟩ := inst_at I ha
  refine PySem.W.kso_call (room2 hr).units0 I.kIn J hs hf ?_
  refine wpAny_mono (run_any (us := [.ref a]) (vs := [.ref a]) F (room2 hr) I.env0.in1.in1 hb hx I (.cons rfl .nil) q) (fun w s' z => ?_) fun _ _ e => e
  obtain ⟨z', H', I', rz, hz, qz⟩ := z
  exact strback hz rz ⟨z', H', I', rz, qz⟩

open Builtin in
theorem bool_K {prog : Program} {w : World} {A : Around} {E : Value → Shared → Prop} {s : Shared} {K : PySem.W.Frag} {x C f : Addr} {ox : Obj} {od : Option Obj} {Q : Value → Shared → Prop} {m : Str → Option Value} {h₀ : Heap} {L : Addr} (F : PyProof.Rows.Fr h₀ L s.heap m) (Y : K.In h₀) (I : PySem.W.InstAt s.heap x ox C od)
    (hs : PySem.W.findIn K (.ref C) "__bool__" = some (some (.ref f))) (hf : PySem.W.isFn K (.ref f) = true)
    (h : wpAny (model prog w) A.in1.in1 (call (.ref f) [.ref x]) (PySem.W.BoolBack fun b s' => Q (.bool b) s') E s) : wpAny (model prog w) A (call (.type "bool") [.ref x]) Q E s := by
  refine callType_codes (T := "bool") (Bi := Builtin.«object.__init__») (Q₁ := fun r s₁ => ∃ y, r = .bool y ∧ Q r s₁) PySem.F.called_bool (PySem.F.typeCall_bool_1 _) PySem.F.entry_object_init ?_ ?_
  · refine codeAny_of_tree ?_
    show wpAny _ A.in1.in1 (do checkBuiltinCall "bool.__new__" ⟨[.type "bool", .ref x], []⟩; again (.builtin "bool.__new__" ⟨[.type "bool", .ref x], []⟩)) _ _ s
    refine wpAny_bind (wpAny_of_eq (PySem.F.newCall_bool_1 _) (wpAny_pure ⟨plainId_quiet (by decide +kernel) _, codeAny_builtin PySem.F.entry_bool_new ?_⟩))
    rw [Around.under_plainId (by decide +kernel) _]
    have key : wpAny (model prog w) A.in1.in1 (truthy (.ref x)) (fun b s₁ => Q (.bool b) s₁) E s := PySem.W.truthy_K F Y I hs hf h
    have f1 := PySem.F.conv_sub_bool
    obtain ⟨hp, gg, d, tk, os⟩ := s
    repeat (any_goals (first | assumption | (with_reducible refine wpAny_bind (wpAny_mono key (fun b s1 z => ?_) fun _ _ e => e)) | wp_step))
    all_goals first | exact ⟨_, rfl, z⟩ | exact ⟨_, rfl, _, rfl, z⟩ | skip
  · rintro obj s₁ ⟨y, rfl, hq⟩
    exact ⟨typeIs_bool _ _, PySem.F.args_object_init_2 _ _, object_init_meets PySem.F.called_bool.init.lookup PySem.F.called_bool.made (by decide) prog w A.in1 _ s₁ ⟨typeIs_bool _ _, rfl, hq⟩⟩
end
end OwnOps
end

-- OwnOps5
section
set_option Elab.async false
set_option linter.all false
set_option maxRecDepth 100000
namespace OwnOps
open PySem L2

section
variable {prog : Program} {w : World} {A : Around} {E : Value → Shared → Prop} {s : Shared} {K : PySem.W.Frag} {x C g : Addr} {ox : Obj} {od : Option Obj} {u : Value} {T : String}
/-- x op u by x's own def, u of a built-in type that is told by a look -/
theorem left_K {op : Operator} {fo ro rc : Option Value} {Q : Value → Shared → Prop} (Y : K.In s.heap) (I : PySem.W.InstAt s.heap x ox C od)
    (ht : PySem.W.Looks (model prog w) s.heap (typeOf u) (.type T)) (hc : PySem.W.selfFirst K C = true)
    (hs : PySem.W.findIn K (.ref C) (PySem.dunder op.info.2) = some (some (.ref g))) (hg : PySem.W.isFn K (.ref g) = true)
    (hrc : PySem.W.findIn K (.ref C) (PySem.dunderR op.info.2) = some rc) (hp : rc = none ∨ ∃ q : Addr, rc = some (.ref q))
    (hfo : PySem.W.findIn K (.type T) (PySem.dunder op.info.2) = some fo) (hro : PySem.W.findIn K (.type T) (PySem.dunderR op.info.2) = some ro) (hsub : PySem.W.subIn K (.type T) (.ref C) = some false)
    (h : wpAny (model prog w) A (call (.ref g) [.ref x, u]) (PySem.W.CmpBack Q) E s) : wpAny (model prog w) A (binaryOp op (.ref x) u) Q E s := by
  obtain ⟨dat, tl, hcd, hmro⟩ := PySem.W.ksp_first hc
  rcases hi : op.info with ⟨sy, nam⟩
  rw [hi] at hs hrc hfo hro
  dsimp only at hs hrc hfo hro
  have one := PySem.W.ksp_try Y I hs hg h
  obtain ⟨hh, gg, d, tt, os⟩ := s
  have M1 : PySem.W.Looks (model prog w) hh (typeOf (.ref x)) (.ref C) := I.type
  have M3 : PySem.W.Looks (model prog w) hh (fillsNumberSlot (.ref C) nam) true := PySem.W.fills_K Y hcd hmro hs
  have M4 : PySem.W.Looks (model prog w) hh (fillsNumberSlot (.type T) nam) ((fo.isSome && !isSeqSlot fo) || (ro.isSome && !isSeqSlot ro)) := PySem.W.ksp_fillsT Y hfo hro
  have M5 : PySem.W.Looks (model prog w) hh (isSubtype (.type T) (.ref C)) false := PySem.W.looks_subIn Y hsub
  have M6 : PySem.W.Looks (model prog w) hh (numberSlotInPython (.ref C) nam) true := PySem.W.ksp_inPy Y hs hrc hp
  have M7 : PySem.W.Looks (model prog w) hh (numberSlotInPython (.type T) nam) false := PySem.W.Looks.of_pure rfl
  have M8 : PySem.W.Looks (model prog w) hh (typeLookup (.type T) (PySem.dunderR nam)) ro := PySem.W.looks_findIn Y hro
  generalize ((fo.isSome && !isSeqSlot fo) || (ro.isSome && !isSeqSlot ro)) = fills at M4
  have differ : (Value.ref C == Value.type T) = false := Bool.eq_false_iff.mpr fun q => by cases beq_iff_eq.mp q
  simp only [binaryOp, hi]
  refine wpAny_holding (wpAny_bind ?_)
  unfold binaryOp1
  refine wpAny_bind (M1.at (wpAny_bind (ht.at (wpAny_bind (M3.at ?_)))))
  simp only [differ, Bool.false_eq_true, if_false]
  cases fills
  all_goals
    ksp_lk
    refine wpAny_mono one (fun r s' back => ?_) fun _ _ e => e
    obtain ⟨v, rfl, hq⟩ := back
    ksp_lk
    exact hq
end
end OwnOps
end

-- SortStr
section
set_option Elab.async false
set_option linter.all false
set_option maxRecDepth 100000
/-! sorted(xs, key=str), xs texts. -/
namespace SortStr
open PySem L2 PySem.W PyProof.Rows
/-- the texts in order -/
def srtS (xs : List Str) : List Str := xs.mergeSort (dataLe false PyData.str)
theorem alikeS (xs : List Str) : AllAlike (xs.map PyData.str) := fun d hd d' hd' => by
  obtain ⟨x, _, rfl⟩ := List.mem_map.mp hd
  obtain ⟨y, _, rfl⟩ := List.mem_map.mp hd'
  rfl
theorem sortableS (xs : List Str) : Sortable (xs.map PyData.str) := .inr fun d hd => by
  obtain ⟨x, _, rfl⟩ := List.mem_map.mp hd
  exact ⟨fun e => (by cases e), fun _ e => (by cases e)⟩
theorem each_strs : ∀ {xs : List Str} {us : List Value}, Vals (xs.map V.str) us → EachIs (fun v x => ∃ t, v = Value.str x t) us xs
  | [], _, r => by cases r; exact .nil
  | x :: xs, _, r => by
    cases r with
    | cons a b => exact .cons a (each_strs b)
theorem strs_each : ∀ {xs : List Str} {us : List Value}, EachIs (fun v x => ∃ t, v = Value.str x t) us xs → Vals (xs.map V.str) us
  | _, _, .nil => .nil
  | _, _, .cons a b => .cons a (strs_each b)
def rKS (K : PySem.W.Frag) : List V → List V → Hp → VK → Prop := fun vs zs H Q => ∃ (a : Addr) (xs : List Str), vs = [.ref a] ∧ zs = [.ty "str"] ∧ SqL K H a (xs.map V.str) ∧ ∀ p, H p = none → Q (.ref p) (upd H p (.lst ((srtS xs).map V.str)))
theorem cr_sortKS {X : Cx} (hu : X.A.units + 64 < cLine) : CallRK X (.builtin "sorted") [Str.ofString "key"] (rKS X.K) := by
  intro pins s σ H vs zs us ws Q I r rz h
  obtain ⟨a, xs, rfl, rfl, hs, q⟩ := h
  obtain rfl := Vals.ref1 r
  obtain ⟨w1, rfl, e1⟩ := vals1 rz
  obtain rfl : w1 = Value.type "str" := e1
  obtain ⟨its, rv, hl, hz⟩ := I.list hs
  rw [List.length_map] at hz
  refine sorted_key_data (bs := xs) (R := fun v x => ∃ t, v = Value.str x t) (f := .type "str") (b := false) PyData.str hl.isList (each_strs rv) (alikeS xs) (sortableS xs) hz (fun x _ => ?_) (PyProof.Rows.ksk_s1 _ _) (fun _ => PyProof.Rows.ksk_l1 _ _) (fun _ => rfl)
    (fun v x hv _ h tk kp => ?_) (fun out c h' tk kp fresh at_ len each => ?_)
  · show X.A.units + 2 + PyData.depth (.str x) < cLine
    have : PyData.depth (.str x) ≤ 1 := by first | exact Nat.le_refl _ | exact Nat.zero_le _ | decide
    omega
  · obtain ⟨t, rfl⟩ := hv
    exact PySem.P.str_of_str ⟨h, tk, rfl, fun _ _ e => e, .str x t⟩
  · have e : out.length = (srtS xs).length := by rw [len]; exact (List.length_mergeSort xs).symm
    exact ⟨.ref _, upd H (s.heap.objs.size + 1) (.lst ((srtS xs).map V.str)), I.laid (t' := tk) kp (Nat.le_succ _) ⟨by rw [List.length_map, ← e, len]; exact hz, out, c, strs_each each, at_⟩, rfl, q _ (I.hok.fresh (Nat.le_succ _))⟩
/-- sorted(d, key=str), d a dict with text keys -/
def rKD : List V → List V → Hp → VK → Prop := fun vs zs H Q => ∃ (a : Addr) (kvs : List (Key × V)) (xs : List Str), vs = [.ref a] ∧ zs = [.ty "str"] ∧ Rd H a (.dK kvs) ∧ kvs.map (·.1) = xs.map Sum.inr ∧ ∀ p, H p = none → Q (.ref p) (upd H p (.lst ((srtS xs).map V.str)))
theorem cr_sortKD {X : Cx} (calm : X.calm = true) (hu : X.A.units + 64 < cLine) : CallRK X (.builtin "sorted") [Str.ofString "key"] rKD := by
  intro pins s σ H vs zs us ws Q I r rz h
  obtain ⟨a, kvs, xs, rfl, rfl, hd, hks, q⟩ := h
  obtain rfl := Vals.ref1 r
  obtain ⟨w1, rfl, e1⟩ := vals1 rz
  obtain rfl : w1 = Value.type "str" := e1
  obtain ⟨z, lo, es, rel, dd⟩ := dk_rd I.hok hd
  obtain ⟨ep, at0⟩ := dd.dictAt
  have keys : es.map (·.1) = xs.map Sum.inr := rel.keys.symm.trans hks
  have size : es.length = xs.length := by
    have e := congrArg List.length keys
    rwa [List.length_map, List.length_map] at e
  have z0 : kvs.length = xs.length := by
    have e := congrArg List.length hks
    rwa [List.length_map, List.length_map] at e
  have z16 : es.length ≤ sizeLine := by rw [size, ← z0]; exact z
  refine PyProof.Rows.call_function_entry_kw PyProof.Rows.kind_sorted PyProof.Rows.plain_sorted PyProof.Rows.entry_sorted (PyProof.Rows.ksk_s1 _ _) ?_
  unfold Builtin.«sorted»
  refine wpAny_bind (m := checkCount "sorted" 1 1 _) (wpAny_pure (wpAny_bind (kdu_collect (A := X.A.in1) (kdl_dict (knd := mixKind X.prog X.w) (kvs := es) (ep := ep) lo) (I.ok.hd calm) at0 z16 fun h1 tk acc kp got => ?_)))
  have len : acc.toList.length = xs.length := by rw [Array.length_toList, got.1, size]
  have txts : EachIs (fun v x => ∃ t, v = Value.str x t) acc.toList xs := by
    refine EachIs.of_zip len fun p hp => ?_
    obtain ⟨j, hj, ej⟩ := List.getElem_of_mem hp
    have hj1 : j < acc.toList.length := by rw [List.length_zip] at hj; omega
    have hj2 : j < xs.length := by omega
    rw [List.getElem_zip] at ej
    subst ej
    obtain ⟨k, x, e1, e2⟩ := got.2 j acc.toList[j] (by rw [← Array.getElem?_toList]; exact List.getElem?_eq_getElem hj1)
    have e3 : (es.map (·.1))[j]? = some k := by rw [List.getElem?_map, e1] <;> rfl
    rw [keys, List.getElem?_map, List.getElem?_eq_getElem hj2] at e3
    cases (show some (Sum.inr xs[j]) = some k from e3)
    exact Value.isStrOf_shape (x := xs[j]) (v := acc.toList[j]) e2
  have lenZ : acc.toList.length ≤ sizeLine := by rw [len, ← size]; exact z16
  have I1 : L2.Inv X pins σ H { s with heap := h1, toks := tk } := I.kept kp
  refine wpAny_bind (wpAny_newList ?_ lenZ)
  have newl : (h1.push (seqObj "list" acc.toList.toArray 0)).get? h1.objs.size = some (seqObj "list" acc.toList.toArray 0) := Heap.get?_push_size _ rfl
  show wpAny _ _ _ _ _ { s with heap := h1.push (seqObj "list" acc.toList.toArray 0), toks := tk }
  refine wpAny_bind (wpAny_holding ?_)
  refine list_sort_key_data (s := { s with heap := h1.push (seqObj "list" acc.toList.toArray 0), toks := tk }) (bs := xs) (R := fun v x => ∃ t, v = Value.str x t) (f := .type "str") (b := false) PyData.str newl txts (alikeS xs) (sortableS xs)
    (by rw [← len]; exact lenZ) (fun x _ => ?_) (PyProof.Rows.ksk_l1 _ _) rfl (fun v x hv _ h tk kp => ?_) (fun out c h' tk' kp' at_ len' each => ?_)
  · show X.A.units + 1 + 1 + PyData.depth (.str x) < cLine
    have : PyData.depth (.str x) ≤ 1 := by first | exact Nat.le_refl _ | exact Nat.zero_le _ | decide
    omega
  · obtain ⟨t, rfl⟩ := hv
    exact PySem.P.str_of_str ⟨h, tk, rfl, fun _ _ e => e, .str x t⟩
  · have e : out.length = (srtS xs).length := by rw [len']; exact (List.length_mergeSort xs).symm
    have old : ∀ b o, h1.get? b = some o → h'.get? b = some o := fun b o hb => kp' b o (Nat.ne_of_lt (Heap.lt_size hb)) (Heap.get?_push_of_some _ hb)
    refine wpAny_pure ⟨_, rfl, .ref h1.objs.size, upd H h1.objs.size (.lst ((srtS xs).map V.str)), I1.laid (t' := tk') old (Nat.le_refl _) ⟨by rw [List.length_map, ← e, len', ← len]; exact lenZ, out, c, strs_each each, at_⟩, rfl, q _ (I1.hok.fresh (Nat.le_refl _))⟩
theorem srtS_perm (xs : List Str) : (srtS xs).Perm xs := List.mergeSort_perm xs _
theorem srtS_len (xs : List Str) : (srtS xs).length = xs.length := List.length_mergeSort xs
end SortStr
end

-- SetStr
section
set_option Elab.async false
set_option linter.all false
set_option maxRecDepth 100000
/-! len(set(xs)), xs any texts (up to 4000). -/
namespace SetStr
open PySem PySem.Spec PyProof.Rows
/-- how many unlike ones stand among the first i -/
def cnt (xs : List Str) : Nat → Nat
  | 0 => 0
  | i + 1 => if xs.getD i Str.empty ∈ xs.take i then cnt xs i else cnt xs i + 1
theorem cnt_succ (xs : List Str) (i : Nat) : cnt xs (i + 1) = if xs.getD i Str.empty ∈ xs.take i then cnt xs i else cnt xs i + 1 := rfl
theorem cnt_le (xs : List Str) : ∀ i, cnt xs i ≤ i
  | 0 => Nat.le_refl _
  | i + 1 => by
    rw [cnt_succ]
    have := cnt_le xs i
    split <;> omega
theorem cnt_nodup {xs : List Str} (h : xs.Nodup) : ∀ i, i ≤ xs.length → cnt xs i = i
  | 0, _ => rfl
  | i + 1, hi => by
    rw [cnt_succ]
    have hl : i < xs.length := hi
    have e : xs.getD i Str.empty = xs[i] := by rw [List.getD_eq_getElem?_getD, List.getElem?_eq_getElem hl] <;> rfl
    rw [if_neg, cnt_nodup h i (by omega)]
    rw [e]
    intro z
    obtain ⟨j, hj, ej⟩ := List.getElem_of_mem z
    have hj' : j < i := by rw [List.length_take] at hj; omega
    rw [List.getElem_take] at ej
    have := (List.getElem_inj h).mp ej
    omega
theorem cnt_bad {xs : List Str} {i j : Nat} (hij : i < j) (hj : j < xs.length) (e : xs.getD i Str.empty = xs.getD j Str.empty) : ∀ k, j < k → cnt xs k < k
  | 0, h => by omega
  | k + 1, h => by
    rw [cnt_succ]
    by_cases hk : k = j
    · subst hk
      have m : xs.getD k Str.empty ∈ xs.take k := by
        rw [← e]
        have hi : i < xs.length := by omega
        have e2 : xs.getD i Str.empty = xs[i] := by rw [List.getD_eq_getElem?_getD, List.getElem?_eq_getElem hi] <;> rfl
        rw [e2, List.mem_take_iff_getElem]
        exact ⟨i, by omega, rfl⟩
      rw [if_pos m]
      have := cnt_le xs k
      omega
    · have := cnt_bad hij hj e k (by omega)
      split <;> omega
abbrev mem (xs : List Str) (i : Nat) : Str → Bool := fun k => decide (k ∈ xs.take i)
theorem mem_succ {xs : List Str} {i : Nat} (h : i < xs.length) (k : Str) : mem xs (i + 1) k = (mem xs i k || decide (k = xs.getD i Str.empty)) := by
  have e : xs.getD i Str.empty = xs[i] := by rw [List.getD_eq_getElem?_getD, List.getElem?_eq_getElem h] <;> rfl
  rw [e, ← Bool.decide_or]
  exact decide_eq_decide.mpr (by rw [List.take_succ_eq_append_getElem h, List.mem_append, List.mem_singleton])
section
variable {prog : Program} {w : World} {A : Around} {R : Result → Shared → Prop} {it : Addr} {fp wr : List Addr} {G : Array GenState → Array GenState → Prop} {n : Nat} {T : Nat → Value → Prop} {Z : Nat → Shared → Prop}
theorem fill (W : WalksS prog w A.in1 it fp wr G n T Z) (a : Addr) (out : a ∉ fp) (xs : List Str) (len : xs.length = n) (few : n ≤ 4000) (txt : ∀ i v, T i v → ∃ t, v = .str (xs.getD i Str.empty) t) :
    ∀ (k i : Nat) (s : Shared), n - i = k → i ≤ n → Z i s → s.heap.SetOf (strKind prog w) a (mem xs i) (cnt xs i) →
      (∀ s', Moved (a :: wr) G s s' → s'.heap.SetOf (strKind prog w) a (mem xs n) (cnt xs n) → R (.ok (.ret .none)) s') → codeAny (model prog w) A (.builtin "set.update.loop" ⟨[.ref a, .ref it], []⟩) R s := by
  have out' : a ∉ wr := fun h => out (W.sub _ h)
  intro k
  induction k with
  | zero =>
    intro i s hk hi hst hS fin
    cases (show n = i by omega)
    refine codeAny_builtin F.entry_set_update_loop (by
      rw [Around.under_plainId F.plain_set_update_loop _]
      refine wpAny_bind (m := pyNext (.ref it)) (W.done s _ _ hst fun s' hm => ?_)
      refine wpAny_pure (fin s' (hm.mono fun b h => List.mem_cons_of_mem _ h) ?_)
      obtain ⟨o, es, ep, t, ho, rest⟩ := hS
      exact ⟨o, es, ep, t, hm.heap a _ out' ho, rest⟩)
  | succ k ih =>
    intro i s hk hi hst hS fin
    have lt : i < n := by omega
    refine codeAny_builtin F.entry_set_update_loop (by
      rw [Around.under_plainId F.plain_set_update_loop _]
      refine wpAny_bind (m := pyNext (.ref it)) (W.item i s _ _ lt hst fun v s1 hv st1 hm => ?_)
      obtain ⟨t, rfl⟩ := txt i v hv
      have S1 : s1.heap.SetOf (strKind prog w) a (mem xs i) (cnt xs i) := let ⟨o, es, ep, tb, ho, rest⟩ := hS; ⟨o, es, ep, tb, hm.heap a _ out' ho, rest⟩
      refine wpAny_bind (m := holding [Value.str (xs.getD i Str.empty) t] (setAdd a (.str (xs.getD i Str.empty) t))) (wpAny_holding ?_)
      unfold setAdd
      refine wpAny_holding (wpAny_bind ((strKind prog w).pyHash (k := xs.getD i Str.empty) (strKind_is _ _ _ _) ?_))
      have room : cnt xs i + 1 < scanBound := by
        have := cnt_le xs i
        unfold scanBound
        omega
      refine wpAny_setAddHashed_of (knd := strKind prog w) (s := { s1 with toks := s1.toks + 1 }) (strKind_is _ _ _ _) rfl S1 room fun h' sb S2 => ?_
      have S3 : h'.SetOf (strKind prog w) a (mem xs (i + 1)) (cnt xs (i + 1)) := SetOf_congr S2 (fun k' => (mem_succ (by omega) k').symm) (by
        rw [cnt_succ]
        by_cases hm : xs.getD i Str.empty ∈ xs.take i
        · rw [if_pos hm, if_pos (decide_eq_true hm)]
        · rw [if_neg hm, if_neg (fun z => hm (of_decide_eq_true z))])
      refine wpAny_pure ⟨plainId_quiet F.plain_set_update_loop _, ih (i + 1) _ (by omega) lt (W.frame _ s1 _ _ st1 (Nat.le_succ _) fun b hb o e => (sb.2 b fun h : b = a => out (h ▸ hb)).trans e) S3 fun s2 m2 S4 => fin s2 ?_ S4⟩
      exact Moved.trans W.gtrans ((hm.mono fun b h => List.mem_cons_of_mem _ h).then_heap (Nat.le_succ _) fun b o hb e => (sb.2 b fun h : b = a => hb (h ▸ List.mem_cons_self)).trans e) m2)
end
section
variable {prog : Program} {w : World} {A : Around} {E : Value → Shared → Prop} {s : Shared}
/-- a set that holds nothing yet -/
abbrev bare (led : Bool) : Obj := { cls := .type "set", dict := none, data := .set #[] 0 (.fresh 0 0 led) }
abbrev made (s : Shared) (led : Bool) : Shared := { s with heap := s.heap.push (bare led) }
/-- what stands behind set(xs) -/
def Filled (prog : Program) (w : World) (s : Shared) (xs : List Str) (h : Heap) : Prop :=
  h.SetOf (strKind prog w) s.heap.objs.size (mem xs xs.length) (cnt xs xs.length) ∧ ∀ b o, b < s.heap.objs.size → s.heap.get? b = some o → h.get? b = some o
theorem init_set {l : Addr} {items : Array Value} {xs : List Str} {led : Bool} (calm : A.handled = none) (hl : s.heap.IsList l items) (ht : StrsAre items.toList xs) (few : xs.length ≤ 4000)
    {Q : PySem.Fin → Shared → Prop} (fin : ∀ h' tk, Filled prog w s xs h' → Q (.done (.ret .none)) { s with heap := h', toks := tk }) :
    wpAny (model prog w) A (Builtin.«set.__init__» ⟨[Value.ref s.heap.objs.size, Value.ref l], []⟩) Q E (made s led) := by
  have new : (made s led).heap.get? s.heap.objs.size = some (bare led) := Heap.get?_push_size _ rfl
  obtain ⟨o, ho, hc, nl, hd⟩ := hl
  obtain ⟨oc, od, oe, os⟩ := o
  cases hc
  cases hd
  have hl : s.heap.IsList l items := ⟨_, ho, rfl, nl, rfl⟩
  have ho1 : (made s led).heap.get? l = some { cls := .type "list", dict := od, data := .seq items nl, slots := os } := Heap.get?_push_of_some _ ho
  have hl1 : (made s led).heap.IsList l items := ⟨_, ho1, rfl, nl, rfl⟩
  have f1 := F.sub_list_set
  have f2 := F.sub_list_frozenset
  have f3 : (Value.type "list" == Value.type "dict") = false := by decide
  have lt : l < s.heap.objs.size := Heap.lt_size ho
  have sz : (made s led).heap.objs.size = s.heap.objs.size + 1 := Heap.size_push _ _
  have tx : xs.length = items.size := by rw [← StrsAre.len_eq ht, Array.length_toList]
  unfold Builtin.«set.__init__» noKeywords Builtin.Frozenset.updateFrom
  unfold made at *
  generalize hPI : pyIter = PI
  wp_walk
  subst hPI
  refine wpAny_pyIter_list hl1 (wpAny_bind (wpAny_runValue ?_))
  have apart : l ≠ (s.heap.push (bare led)).objs.size := by rw [sz]; exact Nat.ne_of_lt (Nat.lt_succ_of_lt lt)
  have out : s.heap.objs.size ∉ [(s.heap.push (bare led)).objs.size, l] := by
    rw [sz]
    simp only [List.mem_cons, List.not_mem_nil, or_false, not_or]
    exact ⟨Nat.ne_of_lt (Nat.lt_succ_self _), Nat.ne_of_gt lt⟩
  have at0 : ((s.heap.push (bare led)).push { cls := .type "list_iterator", data := .fields #[.ref l, .int 0 0] }).get? s.heap.objs.size = some (bare led) := Heap.get?_push_of_some _ new
  refine fill ((Walks.list (by simp [calm]) _ l apart items).toS) s.heap.objs.size out xs tx (by omega) (fun i v hv => SS.strs_at ht i v (by rw [Array.getElem?_toList]; exact hv)) (items.size - 0) 0 _ (by omega) (Nat.zero_le _) ⟨⟨_, Heap.get?_push_size _ rfl, rfl, rfl⟩, (hl1.push _)⟩
    (SetOf_congr ((setObjOf_fresh (knd := strKind prog w) led).setOf at0 (by unfold scanBound; omega)) (fun _ => rfl) rfl) fun s2 mv S2 => ?_
  obtain ⟨h2, g2, d2, tk, os2⟩ := s2
  cases (show g2 = s.gens from mv.gens)
  cases (show d2 = s.drawn from mv.drawn)
  cases (show os2 = s.os from mv.os)
  refine wpAny_pure (wpAny_pure (fin h2 tk ⟨by rw [tx]; exact S2, fun b o hb e => mv.heap b o ?_ (Heap.get?_push_of_some _ (Heap.get?_push_of_some _ e))⟩))
  simp only [List.mem_cons, List.not_mem_nil, or_false, not_or]
  exact ⟨Nat.ne_of_lt hb, by rw [sz]; exact Nat.ne_of_lt (Nat.lt_succ_of_lt hb)⟩
set_option maxHeartbeats 1600000 in
theorem call_set {l : Addr} {items : Array Value} {xs : List Str} {Q : Value → Shared → Prop} (calm : A.handled = none) (hl : s.heap.IsList l items) (ht : StrsAre items.toList xs) (few : xs.length ≤ 4000)
    (fin : ∀ (h' : Heap) (tk : Nat), Filled prog w s xs h' → Q (.ref s.heap.objs.size) { s with heap := h', toks := tk }) : wpAny (model prog w) A (call (.type "set") [.ref l]) Q E s := by
  obtain ⟨c, tl, hmro⟩ := F.called_set.mro
  have k1 := F.called_set.made
  have k2 := F.called_set.sub
  have k3 := F.called_set.notType
  have k4 := F.called_set.canCreate
  have k5 := F.typeCall_set_1 (.ref l)
  refine wpAny_call (codeAny_of_tree (wpAny_pure (M := model prog w) ⟨Code.quiet_builtin _ (by decide +kernel), codeAny_builtin F.entry_type_call ?_⟩))
  rw [Around.under_plain (weight_type_call_type "set" [.ref l] []) rfl]
  repeat (any_goals (first | assumption | wp_step))
  refine codeAny_mono (code_set_new_1 (.ref l) (E := E) (Q₁ := fun x s1 => ∃ led : Bool, x = .ref s.heap.objs.size ∧ s1 = made s led) fun led => ⟨led, rfl, rfl⟩) fun r s1 hr => ?_
  rcases r with e | (_ | _ | _ | x)
  · exact hr
  · exact hr.elim
  · exact hr.elim
  · exact hr.elim
  obtain ⟨led, rfl, rfl⟩ := hr
  have ty : Shared.TypeIs (made s led) (.ref s.heap.objs.size) "set" := ⟨_, Heap.get?_push_size _ rfl, rfl⟩
  have b1 := F.called_set.init.lookup
  have b2 := F.called_set.init.bind (.ref s.heap.objs.size)
  repeat (any_goals (first | assumption | wp_step))
  refine codeAny_call_builtin F.called_set.init.plain F.entry_set_init (check_set_init_1 ty (init_set (by simp [calm]) hl ht few fun h' tk fl => ?_))
  refine wpAny_pure ?_
  repeat (any_goals (first | assumption | wp_step))
  exact fin _ _ fl
end
section
variable {X : L2.Cx}
open L2
theorem strsAre : ∀ {xs : List Str} {us : List Value}, Vals (xs.map V.str) us → StrsAre us xs
  | [], _, r => by cases r; exact .nil
  | x :: xs, _, r => by
    cases r with
    | cons a b =>
      obtain ⟨t, rfl⟩ := a
      exact .cons x t (strsAre b)
/-- len(set(xs)), xs a list of texts -/
def tLenS (K : PySem.W.Frag) (ta : TE) : TE := fun σ H Q => ta σ H fun x H1 => ∃ (l : Addr) (xs : List Str), x = .ref l ∧ SqL K H1 l (xs.map V.str) ∧ xs.length ≤ 4000 ∧ Q (.int (cnt xs xs.length : Nat)) H1
theorem pe_lenS {a : Expr} {ta : TE} {p p2 q pos : Pos} (hg : Gl X "len") (hm : X.mg "len" = none) (hg2 : Gl X "set") (hm2 : X.mg "set" = none) (ha : PE X a ta) (calm : X.calm = true := by rfl)
    (one : starEach [a] X.env = (false, eval a X.env) :: starEach [] X.env := by rfl) : PE X (.Call (.Name "len" p) [.Call (.Name "set" p2) [a] [] q] [] pos) (tLenS X.K ta) := by
  refine ⟨fun pins s σ H Q I h => Call_ (ld_blt I hg hm boot_len (callWith_builtin1 (args_cons (Call_ (ld_blt I hg2 hm2 boot_set ?_)) rfl) rfl rfl))⟩
  refine callWith_type1 (args_cons (thn (ha.run pins s σ H _ I h) fun v s1 ⟨x, H1, I1, r1, l, xs, e, hq, few, fin⟩ => args_nil ?_) one) one rfl
  subst e
  cases r1
  obtain ⟨its, r, pl, hz⟩ := I1.list hq
  refine call_set (I1.ok.hd calm) pl.isList (by simpa using strsAre r) few fun h' tk fl => args_nil ?_
  obtain ⟨⟨o, es, ep, t, ho, hex, hd, _, _, _, hf, hn⟩, hk⟩ := fl
  have small : cnt xs xs.length ≤ 4000 := Nat.le_trans (cnt_le xs _) few
  have I2 : L2.Inv X pins σ H1 { s1 with heap := h', toks := tk } := I1.kept fun b o e => hk b o (Heap.lt_size e) e
  exact call_len_set ho hex hd hf (by rw [hn]; omega) ⟨.int (cnt xs xs.length : Nat), H1, I2.tok _, ⟨_, by rw [hn]⟩, fin⟩
end
end SetStr
end

-- DictList
section
set_option Elab.async false
set_option linter.all false
set_option maxRecDepth 100000
/-! list(d.values()); a star of a dict in a display. -/
namespace DictList
open PySem L2 PySem.W PyProof.Rows
theorem vals_kv : ∀ {kvs : List (Key × V)} {vs : List (Key × Value)}, KV kvs vs → Vals (kvs.map (·.2)) (vs.map (·.2))
  | _, _, .nil => .nil
  | _, _, .cons r t => .cons r.2 (vals_kv t)
section
variable {X : Cx}
/-- list(e.values()) -/
def tListV (te : TE) : TE := fun σ H Q => te σ H fun x H1 => ∃ (d : Addr) (kvs : List (Key × V)), x = .ref d ∧ Rd H1 d (.dK kvs) ∧ ∀ p, H1 p = none → Q (.ref p) (upd H1 p (.lst (kvs.map (·.2))))
theorem pe_listV {e : Expr} {te : TE} {p apos cpos pos : Pos} (he : PE X e te) (hg : Gl X "list") (hm : X.mg "list" = none) (calm : X.calm = true := by rfl) (hv : bootBuiltins "list" = some (.type "list") := by decide +kernel)
    (hbase : attributeBase e "values" X.env (eval e X.env) = eval e X.env := by rfl) (hline : (apos.endLine == cpos.line) = true := by rfl)
    (hs : starEach [.Call (.Attribute e "values" apos) [] [] cpos] X.env = (false, eval (.Call (.Attribute e "values" apos) [] [] cpos) X.env) :: starEach [] X.env := by rfl) :
    PE X (.Call (.Name "list" p) [.Call (.Attribute e "values" apos) [] [] cpos] [] pos) (tListV te) := by
  refine ⟨fun pins s σ H Q I hq => wpAny_Call_Name_kw (ld_blt I hg hm hv (callWith_type1 (by
    rw [hs]
    refine Calls.spliced_cons (wpAny_Call_method (T := "dict") (id := "dict.values") hbase rfl hline F.plainAttrs_dict F.slot_dict_values F.type_dict_values (thn (he.run pins s σ H _ I hq) fun u s1 ⟨x, H1, I1, rx, d, kvs, ex, hd, q⟩ => ?_))
    subst ex
    obtain rfl : u = Value.ref d := rx
    obtain ⟨hz, lo, vs, kv, hdo⟩ := dk_rd I1.hok hd
    obtain ⟨ep, hat⟩ := hdo.dictAt
    have lk : kvs.length = vs.length := Paired.length kv
    have I2 : L2.Inv X pins σ H1 { s1 with heap := s1.heap.push { cls := .type "dict_values", data := .fields #[.ref d] } } := I1.kept (t' := s1.toks) fun b ob q => Heap.get?_push_of_some _ q
    refine ⟨hdo.typeIs, hdo.mapOf.noDict, ?_⟩
    refine method_meetsIn F.slot_dict_values F.entry_dict_values rfl (PySem.evalArgs_none ⟨rfl, hdo.typeIs, F.args_dict_values_1 _, _, meets_dict_values (mixKind X.prog X.w) d lo, ⟨vs, hdo⟩, Calls.spliced_nil ?_⟩)
    refine kdl_call (kdl_values (knd := mixKind X.prog X.w) (kvs := vs) (ep := ep)) (I1.ok.hd calm) ⟨⟨_, Heap.get?_push_size _ rfl, rfl, rfl⟩, hat.push _⟩ (by rw [← lk]; exact hz) fun h' tk acc c hk hS got => ?_
    have e : acc.toList = vs.map (·.2) := kdl_vals_eq (kvs := vs) acc.toList (by rw [Array.length_toList]; exact got.1) fun j v hj => got.2 j v (by rw [← Array.getElem?_toList]; exact hj)
    have rv : Vals (kvs.map (·.2)) acc.toList := by rw [e]; exact vals_kv kv
    exact ⟨.ref _, upd H1 _ (.lst (kvs.map (·.2))), I2.laid (t' := tk) hk (Nat.le_refl _) ⟨by rw [List.length_map]; exact hz, acc.toList, c, rv, by rw [Array.toArray_toList]; exact hS⟩, rfl, q _ (I2.hok.fresh (Nat.le_refl _))⟩) hs rfl))⟩
/-- *e in a display, e a dict -/
def tStarD (te : TE) (t : TA) : TA := fun σ H Q => te σ H fun x H1 => ∃ (d : Addr) (kvs : List (Key × V)), x = V.ref d ∧ Rd H1 d (.dK kvs) ∧ t σ H1 fun ys H2 => Q (kvs.map (fun p => kV p.1) ++ ys) H2
theorem pa_starD {e : Expr} {es : List Expr} {te : TE} {t : TA} {p : Pos} (he : PE X e te) (hr : PA X es t) (calm : X.calm = true := by rfl) (hs : starEach (.Starred e p :: es) X.env = (true, eval e X.env) :: starEach es X.env := by rfl) : PA X (.Starred e p :: es) (tStarD te t) := by
  refine ⟨fun pos pins s σ H Q I h => items_star (thn (he.run pins s σ H _ I h) fun v s1 ⟨y, H1, I1, ry, d, kvs, ey, hd, q⟩ => ?_) hs⟩
  subst ey
  obtain rfl : v = Value.ref d := ry
  obtain ⟨hz, lo, vs, kv, hdo⟩ := dk_rd I1.hok hd
  obtain ⟨ep, hat⟩ := hdo.dictAt
  have lk : kvs.length = vs.length := Paired.length kv
  unfold StarOf notIterableAtAll
  refine wpAny_bind (wpAny_specialOf hdo.typeIs F.slot_dict_iter.lookup (wpAny_pure ⟨rfl, ?_⟩))
  refine kdu_collect (kdl_dict (knd := mixKind X.prog X.w) (kvs := vs) (ep := ep) lo) (I1.ok.hd calm) hat (by rw [← lk]; exact hz) fun h' tk acc kp got => ?_
  have I2 : L2.Inv X pins σ H1 { s1 with heap := h', toks := tk } := I1.kept kp
  have rv : Vals (kvs.map fun p => kV p.1) acc.toList := by
    refine vals_of_at (by rw [List.length_map, Array.length_toList]; exact lk.trans got.1.symm) fun j x u hx hu => ?_
    obtain ⟨k, x0, e1, e2⟩ := got.2 j u (by rw [← Array.getElem?_toList]; exact hu)
    rw [List.getElem?_map] at hx
    cases e3 : kvs[j]? with
    | none => rw [e3] at hx; cases hx
    | some kv0 =>
      rw [e3] at hx
      cases hx
      obtain ⟨y, e4, e5⟩ := LiI.paired_get kv e3
      rw [e1] at e4
      cases e4
      show RelV (kV kv0.1) u
      rw [show kv0.1 = k from e5.1]
      exact keyIs_rel e2
  exact thn (hr.run pos pins _ σ H1 _ I2 q) fun ws s3 ⟨vs3, H3, I3, r3, q3⟩ => ⟨_ ++ vs3, H3, I3, rv.append r3, q3⟩
end
end DictList
end

-- IterOwn
section
set_option Elab.async false
set_option linter.all false
set_option maxRecDepth 100000
/-! for x in o, o an instance whose __iter__ hands back a list's iterator: defs whose promise knows how many objects stood at the call. -/
namespace IterOwn
open PySem PySem.Spec L2 PyProof.Rows OwnOps
/-- a def's promise that may speak of the number of objects at the call -/
def FnY (P : Program) (w : World) (K : PySem.W.Frag) (mg : Str → Option Value) (base : Heap) (CX : CXT) (k : Nat) (f : Addr) (fd : FuncData) (ps : List Str) (sp : Nat → Sp) : Prop :=
  ∀ (A : Around) (outer : List Env) (s : Shared) (H : Hp) (args : Args) (us : List Value) (vs : List V) (Q : VK) (E : XK), Room k A → Env0 P w K mg base A outer s H → BindsTo s fd args (ps.zip us) → Vals vs us → us.length = ps.length →
    sp s.heap.objs.size vs H Q E → codeAny (model P w) A (.call (.ref f) args) (CR CX outer P w H s Q E) s
section
variable {P : Program} {w : World} {K : PySem.W.Frag} {mg : Str → Option Value} {base : Heap}
theorem okY {x qual : Str} {st : Stmt} {f : Addr} {fd : FuncData} {N ps : List Str} {k : Nat} {sp : Nat → Sp} (F : Fun K x qual st f fd) (S : FnScope N ps (defScope st))
    (body : ∀ (cdv : Value) (A : Around) (outer : List Env) (s : Shared) (H : Hp) (vs : List V) (Q : VK) (E : XK), Room k (A.deeper (envOfC qual (defScope st) s.heap.objs.size f cdv)) → sp s.heap.objs.size vs H Q E →
      ∃ t, PSs (cxOf (L2.CX P w) P w K mg base N qual (defScope st) f cdv A outer s H E) (defBody st) t ∧ t { nx := fun _ H' => Q .non H', rt := Q } (start N vs) H) : FnY P w K mg base (L2.CX P w) (k + 1) f fd ps sp := by
  obtain ⟨oc, od, kV, doc, pm, an, cdv, ct, osl, rfl, lk, code⟩ := F.ex
  intro A outer s H args us vs Q E room e0 bound rel len want
  have live : ∀ b o, base.get? b = some o → s.heap.get? b = some o := fun b o e => (e0.bs b o e).1
  have KX : K.In s.heap := e0.mod.kin.keeps live
  have kinds : ∀ y ∈ ps.zip us, (defScope st).names.lookup y.1 = some .local ∨ ((defScope st).names.lookup y.1 = some .cell ∧ ((cellsFrom (s.heap.objs.size + 1) (defScope st).names []).lookup y.1).isSome = true) := by
    rintro ⟨n, v⟩ hy
    exact (S.par n (List.of_mem_zip hy).1).imp id fun q => ⟨q, PySem.W.cellsFrom_some _ _ _ (.inl q)⟩
  refine codeAny_call_function room.depth (KX _ _ lk) rfl S.co S.gen rfl (PySem.W.codeRec_of KX code) (bound _ _ _ _ (wpAny_newFunctionEnv_cells S.kind kinds fun env he s1 x => ?_))
  subst he
  obtain ⟨t, run, got⟩ := body cdv A outer s H vs Q E (room.deeper _) want
  have I : L2.Inv (cxOf (L2.CX P w) P w K mg base N qual (defScope st) f cdv A outer s H E) [] (start N vs) H s1 := inv_start S room.hd e0 (rel.length.trans len) rel x
  refine ⟨(e0.mod.nolimit.keeps live).keeps x.toInCall.keep, codeAny_func (wpAny_mono (run.run [] s1 (start N vs) H _ I got) (fun fl s' hs => ?_) fun _ _ z => z)⟩
  rcases fl with _ | _ | _ | u
  · obtain ⟨_, H', J, q⟩ := hs
    exact ⟨V.non, H', J.os, J.bare, J.base, J.hok, rfl, q⟩
  · exact hs.choose_spec.choose_spec.2.elim
  · exact hs.choose_spec.choose_spec.2.elim
  · obtain ⟨v, _, H', J, rv, q⟩ := hs
    exact ⟨v, H', J.os, J.bare, J.base, J.hok, rv, q⟩
end
section
variable {X : Cx} {pins : List (Addr × Obj)} {σ : L2.St} {H : Hp} {s : Shared} {g : Addr} {fd : FuncData} {ps : List Str} {k : Nat} {sp : Nat → Sp} {E : XK} {A : Around}
theorem run_Y {Q : VK} {us : List Value} {vs : List V} (F : FnY X.prog X.w X.K X.mg X.base (L2.CX X.prog X.w) k g fd ps sp) (hr : Room k A) (e0 : Env0 X.prog X.w X.K X.mg X.base A X.stack s H)
    (hb : L2.Binds X.K fd ps []) (hx : Passes (L2.CX X.prog X.w) X E) (I : L2.Inv X pins σ H s) (r : Vals vs us) (len : us.length = ps.length) (h : sp s.heap.objs.size vs H Q E) :
    wpAny (model X.prog X.w) A (call (.ref g) us) (EP X pins σ Q) X.xe s := by
  have bd := hb s us I.kIn (by rw [List.append_nil]; exact len)
  rw [List.append_nil] at bd
  refine wpAny_call (codeAny_mono (F A X.stack s H ⟨us, []⟩ us vs Q E hr e0 bd r len h) fun res s' hq => ?_)
  rcases res with e | (_ | _ | _ | u)
  · exact hx pins σ H s e s' I hq
  · exact hq.elim
  · exact hq.elim
  · exact hq.elim
  · exact I.after hq
/-- an own __iter__ -/
structure ItL (K : PySem.W.Frag) (C fi : Addr) : Prop where
  it : PySem.W.findIn K (.ref C) "__iter__" = some (some (.ref fi))
  fn : PySem.W.isFn K (.ref fi) = true
def iOwn (n : Nat) (K : PySem.W.Frag) (C : Addr) (sp : Nat → Sp) (E : XK) (te : TE) : TI := fun σ H R => te σ H fun x H1 => ∃ (a dx : Addr) (fs : List (Str × V)), x = .ref a ∧ H1 a = some (.ins C dx fs) ∧
  ∀ m, n ≤ m → sp m [.ref a] H1 (fun v H2 => ∃ (it l : Addr) (i0 : Nat), v = .ref it ∧ H2 it = some (ItO l it i0) ∧ m ≤ it ∧ R (ItX.ItlF K l i0) (ItX.dropH H2 it)) E
theorem pi_own {C : Addr} {tg e : Expr} {te : TE} (he : PE X e te) (hc : ItL X.K C g) (F : FnY X.prog X.w X.K X.mg X.base (L2.CX X.prog X.w) k g fd ["self"] sp) (hr : Room k X.A) (hb : L2.Binds X.K fd ["self"] []) (hx : Passes (L2.CX X.prog X.w) X E) :
    PI X tg e (iOwn X.s_0.heap.objs.size X.K C sp E te) := by
  refine ⟨fun pins s σ H R I h => thn (he.run pins s σ H _ I h) fun u s1 ⟨x, H1, I1, r1, a, dx, fs, ex, ha, q⟩ => ?_⟩
  subst ex
  cases r1
  obtain ⟨mA, J, _⟩ := ins_get I1.hok ha
  obtain ⟨od, J, _⟩ := J.look
  obtain ⟨m0, hF⟩ := I1.fr
  refine PySem.W.owit_iter hF I1.ok.mod.kin J hc.it hc.fn (thn (run_Y (us := [.ref a]) (vs := [.ref a]) F hr I1.env0 hb hx I1 (.cons rfl .nil) rfl (q _ I1.sz)) fun u s2 ⟨v, H2, I2, r2, it, l, i0, ev, hi, yn, fin⟩ => ?_)
  subst ev
  cases r2
  have eo := itO_get I2 hi
  have ty : s2.TypeIs (.ref it) "list_iterator" := ⟨_, eo, rfl⟩
  have st : s2.heap.IsListIter it l (i0 + 0) := ⟨_, eo, rfl, rfl⟩
  unfold PySem.W.OwitIt
  refine wpAny_specialOf (name := Str.ofString "__next__") ty slot_listiter_next.lookup ⟨it, [it], _, _, ItX.dropH H2 it, rfl, ItX.inv_drop I2 hi, ItX.turn_listF l it i0, st, fun b hb => ?_, fin⟩
  rw [List.mem_singleton.mp hb]
  exact ItX.inv_fp I2 hi (Nat.le_trans I1.sz yn)
end
end IterOwn
end

-- OwnNe
section
set_option Elab.async false
set_option linter.all false
set_option maxRecDepth 100000
/-! != of two lists that are equal item by item, by an own == too. -/
namespace OwnNe
open PySem PySem.SeqAt GQ
open AutoSeq1 (wpAny_loadPart')
open MeetsSeq MeetsSeq2 MeetsSeq3 SeqRoads2
section
variable {prog : Program} {w : World} {A : Around} {R : Result → Shared → Prop} {E : Value → Shared → Prop}
/-- the loop over the items, from i on: all are equal, so the answer is no -/
theorem loopN (l b : Addr) (N : Nat) (I : Nat → Shared → Prop) (hl : ListI prog w A (fun e s' => R (.error e) s') l b N I) (fin : ∀ s, I N s → R (.ok (.ret (.bool false))) s) :
    ∀ (k i : Nat), N - i = k → i ≤ N → ∀ s, I i s → wpAny (model prog w) A.in1 (Builtin.«list.__eq__.loop» ⟨[.ref l, .ref b, rawInt i, rawInt 3], []⟩) (FinOf prog w A R) (fun e s' => R (.error e) s') s
  | 0, i, hk, hi, s, h => by
    obtain ⟨xs, ys, n, n2, hl1, hb1, z1, z2, _⟩ := hl _ _ h
    have last : i = N := by omega
    have done : R (.ok (.ret (.bool false))) s := fin s (last ▸ h)
    obtain ⟨hp, g, d, tk, os⟩ := s
    wp_walk using wpAny_loadPart' hl1, wpAny_loadPart' hb1
    have no1 : xs[((i : Nat) : Int).toNat]? = none := by simp; omega
    have no2 : ys[((i : Nat) : Int).toNat]? = none := by simp; omega
    rw [no1, no2]
    wp_walk using wpAny_loadPart' hl1, wpAny_loadPart' hb1
    show R (.ok (.ret (.bool (xs.size != ys.size)))) _
    rw [z1, z2]
    simpa using done
  | k + 1, i, hk, hi, s, h => by
    obtain ⟨xs, ys, n, n2, hl1, hb1, z1, z2, one⟩ := hl _ _ h
    have lt1 : i < xs.size := by omega
    have lt2 : i < ys.size := by omega
    have here := one lt1 lt2
    obtain ⟨hp, g, d, tk, os⟩ := s
    wp_walk using wpAny_loadPart' hl1, wpAny_loadPart' hb1
    have is1 : xs[((i : Nat) : Int).toNat]? = some xs[i] := by simp [lt1]
    have is2 : ys[((i : Nat) : Int).toNat]? = some ys[i] := by simp [lt2]
    have up : ((i : Int) + 1) = ((i + 1 : Nat) : Int) := by omega
    rw [is1, is2]
    refine wpAny_bind (wpAny_mono here (fun r s2 q => ?_) fun _ _ x => x)
    obtain ⟨hr, q⟩ := q
    subst hr
    have rest := loopN l b N I hl fin k (i + 1) (by omega) (by omega) s2 q
    obtain ⟨hp2, g2, d2, tk2, os2⟩ := s2
    wp_walk
    rw [up]
    exact ⟨plainId_quiet plain_eq_loop _, codeAny_builtin entry_eq_loop (by rw [Around.under_plainId plain_eq_loop _] <;> exact rest)⟩
theorem listN (l b : Addr) (N : Nat) (I : Nat → Shared → Prop) (hl : ListI prog w A (fun e s' => R (.error e) s') l b N I) (fin : ∀ s, I N s → R (.ok (.ret (.bool false))) s) {s : Shared} (h : I 0 s) :
    wpAny (model prog w) A.in1 (Builtin.«list.__ne__» ⟨[.ref l, .ref b], []⟩) (FinOf prog w A R) (fun e s' => R (.error e) s') s := by
  obtain ⟨xs, ys, n, n2, hl1, hb1, z1, z2, _⟩ := hl _ _ h
  have rest := loopN (A := A) (R := R) l b N I hl fin _ 0 rfl (Nat.zero_le _) s h
  obtain ⟨hp, g, d, tk, os⟩ := s
  have sub := AutoSeq1.sub_list_list
  have same : ¬ (xs.size != ys.size) = true := by simp [z1, z2]
  wp_walk using wpAny_loadPart' hl1, wpAny_loadPart' hb1
  exact ⟨plainId_quiet plain_eq_loop _, codeAny_builtin entry_eq_loop (by rw [Around.under_plainId plain_eq_loop _] <;> exact rest)⟩
theorem rcN {l b : Addr} {N : Nat} {Q : Value → Shared → Prop} {s : Shared} (hu : A.units < cLine) (I : Nat → Shared → Prop) (hl : ListI prog w A E l b N I)
    (fin : ∀ s, I N s → Q (.bool false) s) (h : I 0 s) : wpAny (model prog w) A (richCompare .NotEq (.ref l) (.ref b)) Q E s := by
  obtain ⟨xs, ys, n, n2, hl1, hb1, _, _, _⟩ := hl _ _ h
  refine wpAny_richCompare_same_room (op := .NotEq) ⟨_, hl1, rfl⟩ ⟨_, hb1, rfl⟩ F.slot_list_ne (call_here F.slot_list_ne ⟨_, hl1, rfl⟩ F.entry_list_ne (F.args_list_ne_2 _ _) ?_) hu
  exact listN (R := wants (fun v s' => v ≠ .notImplemented ∧ Q v s') E) l b N I hl (fun s' q => ⟨(fun x => nomatch x), fin s' q⟩) h
end
open L2
/-- x != y of two lists, item by item equal -/
def rNeG (D : Eqv) : R2 := fun x y H Q => DList D x y H ∧ ∀ H', Ext H H' → Q (.bl false) H'
theorem op_neG {X : Cx} {n : Nat} {D : Eqv} (hD : Mon D) (h : EqG X n D) (hr : Room (n + 1) X.A) : OpR X (compareOp .NotEq) (rNeG D) := by
  intro pins s σ H x y v u Q I rx ry hq
  obtain ⟨⟨a, b, xs, ys, rfl, rfl, ha, hb, p⟩, q⟩ := hq
  cases rx
  cases ry
  have sb : Sub X (n + 1) X.A := ⟨hr, rfl⟩
  show wpAny (model X.prog X.w) X.A (richCompare .NotEq (.ref a) (.ref b)) (EP X pins σ Q) X.xe s
  refine rcN (N := xs.length) hr.units0 (fun _ s' => LoopI X pins σ H s') (fun i s' z => ?_) (fun s' ⟨H', I', e⟩ => ⟨.bl false, H', I', rfl, q H' e⟩) ⟨H, I, Ext.rfl'⟩
  obtain ⟨H1, I1, e1⟩ := id z
  obtain ⟨zz, its, k, r, e⟩ := I1.hok a _ (e1 _ _ ha)
  obtain ⟨zz2, its2, k2, r2, e2⟩ := I1.hok b _ (e1 _ _ hb)
  refine ⟨its.toArray, its2.toArray, k, k2, e, e2, by rw [List.size_toArray, ← r.length], by rw [List.size_toArray, ← r2.length, ← p.1], fun h1 h2 => ?_⟩
  exact turnG hD h sb p r r2 i h1 h2 s' z
/-- the same thing -/
def DSame : Eqv := fun x y _ => x = y ∧ ∃ a, x = .ref a
theorem mon_same : Mon DSame := fun _ _ _ _ _ d => d
theorem eqG_same {X : Cx} {n : Nat} : EqG X n DSame := by
  intro A pins s σ H x y u v sb I rx ry d
  obtain ⟨rfl, a, rfl⟩ := d
  cases rx
  cases ry
  exact SeqAt.EqAt.same (A := A) (s := s) (.ref a) X.prog X.w X.xe _ ⟨rfl, H, I, Ext.rfl'⟩
end OwnNe
end

-- OwnNe2
section
set_option Elab.async false
set_option linter.all false
set_option maxRecDepth 100000
namespace OwnNe
open PySem L2
def rNeEmp : R2 := fun x y H Q => ∃ l b xs, x = .ref l ∧ y = .ref b ∧ H l = some (.lst xs) ∧ H b = some (.lst []) ∧ Q (.bl (!xs.isEmpty)) H
/-- a list != [] -/
theorem op_neEmp {X : Cx} (hu : X.A.units < cLine) : OpR X (compareOp .NotEq) rNeEmp := by
  intro pins s σ H x y v u Q I rx ry h
  obtain ⟨l, b, xs, rfl, rfl, hl, hb, q⟩ := h
  cases rx
  cases ry
  obtain ⟨_, its, n, r, _, e⟩ := I.lstM hl
  obtain ⟨_, its2, n2, r2, _, e2⟩ := I.lstM hb
  cases r2
  have L1 : s.heap.IsList l its.toArray := ⟨_, e, rfl, n, rfl⟩
  have L2' : s.heap.IsList b ([] : List Value).toArray := ⟨_, e2, rfl, n2, rfl⟩
  show wpAny (model X.prog X.w) X.A (richCompare .NotEq (.ref l) (.ref b)) (EP X pins σ Q) X.xe s
  cases r with
  | nil => exact PySem.SeqAt.RcNeAt.lists (e := fun _ => true) L1 L2' rfl hu (fun j h1 _ => absurd h1 (by simp)) X.prog X.w X.xe _ ⟨.bl false, H, I, rfl, q⟩
  | cons a r => exact PySem.SeqAt.RcNeAt.lists_lengths L1 L2' (by simp) hu X.prog X.w X.xe _ ⟨.bl true, H, I, rfl, q⟩
end OwnNe
end

-- OwnNe3
section
set_option Elab.async false
set_option linter.all false
set_option maxRecDepth 100000
/-! Either of two rules; != by an own == alone; == of two lists, told as a truth. -/
namespace OwnNe
open PySem PySem.SeqAt GQ L2 OwnOps
open AutoSeq1 (wpAny_loadPart')
open MeetsSeq MeetsSeq2 MeetsSeq3 SeqRoads2
theorem op_or {X : Cx} {f : Value → Value → Sem Value} {r1 r2 : R2} (h1 : OpR X f r1) (h2 : OpR X f r2) : OpR X f (fun x y H Q => r1 x y H Q ∨ r2 x y H Q) := by
  intro pins s σ H x y v u Q I rx ry h
  rcases h with h | h
  · exact h1 pins s σ H x y v u Q I rx ry h
  · exact h2 pins s σ H x y v u Q I rx ry h
section
variable {prog : Program} {w : World} {A : Around} {E : Value → Shared → Prop} {s : Shared} {K : PySem.W.Frag} {x C L f : Addr} {h₀ : Heap} {m : Str → Option Value} {ox : Obj} {od : Option Obj} {b tb : Value}
theorem entry_ne {Q : Fin → Shared → Prop} (hu : A.units < cLine) (X : K.In s.heap) (I : PySem.W.InstAt s.heap x ox C od) (he : PySem.W.findIn K (.ref C) "__eq__" = some (some (.ref f))) (hf : PySem.W.isFn K (.ref f) = true)
    (h : wpAny (model prog w) A (call (.ref f) [.ref x, b]) (fun v s' => ∃ r, v = .bool r ∧ Q (.done (.ret (.bool (!r)))) s') E s) :
    wpAny (model prog w) A (Builtin.«object.__ne__» ⟨[.ref x, b], []⟩) Q E s := by
  unfold Builtin.«object.__ne__»
  repeat (first
    | with_reducible refine wpAny_cRoomFor hu ?_
    | (refine wpAny_bind (m := callSpecialIfBound? (.ref x) (Str.ofString "__eq__") [b])
        (PySem.W.ifBound_K X I he hf (wpAny_mono h (fun r s' hr => by
          obtain ⟨b, rfl, hq⟩ := hr
          repeat (first | exact hq | exact wpAny_pure hq | exact wpAny_truthy_bool hq | (refine wpAny_bind (m := truthy (.bool _)) (wpAny_truthy_bool ?_)) | wp_step)) fun _ _ e => e)))
    | wp_step)
theorem ifBound_ne {M : Model} {args : List Value} {Q : Option Value → Shared → Prop} (X : K.In s.heap) (I : PySem.W.InstAt s.heap x ox C od) (hs : PySem.W.findIn K (.ref C) "__ne__" = some (some (.builtin "object.__ne__")))
    (h : wpAny M A (call (.builtin "object.__ne__") (.ref x :: args)) (fun v => Q (some v)) E s) : wpAny M A (callSpecialIfBound? (.ref x) "__ne__" args) Q E s := by
  simp only [callSpecialIfBound?, bindSpecialIfBound?]
  refine wpAny_holding (wpAny_bind (wpAny_bind (wpAny_bind (I.type.here ((PySem.W.looks_findIn X hs).here ?_)))))
  refine wpAny_bind (wpAny_askSetting (wpAny_ite ?_))
  have fin : wpAny M A (call (.builtin "object.__ne__") ([.ref x] ++ args) >>= fun v => pure (some v)) Q E s := wpAny_bind (wpAny_mono h (fun v s' h' => wpAny_pure h') fun _ _ h' => h')
  split
  · exact wpAny_bind (wpAny_of_eq (F.cmp_object.ne.bind _) (wpAny_pure (by exact fin)))
  · exact wpAny_tryCatch (wpAny_bind (wpAny_of_eq (F.cmp_object.ne.bind _) (wpAny_pure (by exact fin))))
/-- x != b by x's own ==: the class has no != of its own -/
theorem rc_neK {Q : Value → Shared → Prop} (hu : A.units + 1 < cLine) (X : K.In s.heap) (I : PySem.W.InstAt s.heap x ox C od) (hb : PySem.W.Looks (model prog w) s.heap (typeOf b) tb) (hn : PySem.W.notFirst K C tb = true)
    (hm : PySem.W.mroIn K C (.type "object") = some true) (hs : PySem.W.findIn K (.ref C) "__ne__" = some (some (.builtin "object.__ne__"))) (he : PySem.W.findIn K (.ref C) "__eq__" = some (some (.ref f))) (hf : PySem.W.isFn K (.ref f) = true)
    (h : wpAny (model prog w) A.in1 (call (.ref f) [.ref x, b]) (fun v s' => ∃ r, v = .bool r ∧ Q (.bool (!r)) s') E s) : wpAny (model prog w) A (richCompare .NotEq (.ref x) b) Q E s := by
  have one : wpAny (model prog w) A (tryCompare (.ref x) (cmpInfo .NotEq).2.1 b) (fun r s' => ∃ v, r = some v ∧ Q v s') E s := by
    show wpAny (model prog w) A (tryCompare (.ref x) "__ne__" b) _ E s
    unfold tryCompare
    refine wpAny_bind (ifBound_ne X I hs (wpAny_call (codeAny_call_builtin F.cmp_object.ne.plain F.cmpEntry_ne
      (PySem.W.check_slot F.cmpKind_ne F.cmpSplit_ne (I.type.andThen (PySem.W.looks_mroIn X hm)) (F.cmpArgs_ne _ _) (entry_ne (A := A.in1) hu X I he hf (wpAny_mono h (fun v s' hv => ?_) fun _ _ e => e))))))
    obtain ⟨r, rfl, q⟩ := hv
    first
      | exact ⟨r, rfl, wpAny_pure ⟨_, rfl, q⟩⟩
      | exact ⟨r, rfl, wpAny_pure (wpAny_pure ⟨_, rfl, q⟩)⟩
      | exact ⟨r, rfl, ⟨_, rfl, q⟩⟩
  unfold richCompare
  simp only [oneThing_ref]
  refine wpAny_holding (wpAny_bind (wpAny_cRoomFor (by omega) ?_))
  refine wpAny_bind (I.type.here (wpAny_bind (hb.here ?_)))
  split
  · rename_i q
    have e : PySem.W.subIn K tb (.ref C) = some false := by
      rcases Bool.or_eq_true_iff.mp hn with e | e
      · rw [beq_iff_eq.mp e] at q; simp at q
      · exact beq_iff_eq.mp e
    refine wpAny_bind ((PySem.W.looks_subIn X e).here ?_)
    simp only [Bool.false_eq_true, if_false]
    refine wpAny_bind (wpAny_mono one (fun r s' z => ?_) fun _ _ e => e)
    obtain ⟨v, rfl, hq⟩ := z
    exact wpAny_pure hq
  · refine wpAny_bind (wpAny_pure ?_)
    simp only [Bool.false_eq_true, if_false]
    refine wpAny_bind (wpAny_mono one (fun r s' z => ?_) fun _ _ e => e)
    obtain ⟨v, rfl, hq⟩ := z
    exact wpAny_pure hq
end
/-- x != y by x's own == -/
def rNeOwn (C : Addr) (R : V → Hp → Prop) (sp : Sp) (E : XK) : R2 := fun x y H Q => ∃ a dx fs, x = .ref a ∧ H a = some (.ins C dx fs) ∧ R y H ∧ sp [x, y] H (fun v H' => ∃ r, v = .bl r ∧ Q (.bl (!r)) H') E
theorem op_neOwn {X : Cx} {CX : CXT} {C g : Addr} {k : Nat} {fd : FuncData} {ps : List Str} {sp : Sp} {E : XK} (hm : PySem.W.mroIn X.K C (.type "object") = some true) (hn : PySem.W.findIn X.K (.ref C) "__ne__" = some (some (.builtin "object.__ne__")))
    (hs : PySem.W.findIn X.K (.ref C) "__eq__" = some (some (.ref g))) (hf : PySem.W.isFn X.K (.ref g) = true)
    (F : FnOk X.prog X.w X.K X.mg X.base CX k g fd ps sp) (hr : Room (k + 1) X.A) (hb : Binds X.K fd ps []) (hx : Passes CX X E)
    {R : V → Hp → Prop} (hR : ∀ {y : V} {H : Hp} {u : Value} {pins : List (Addr × Obj)} {σ : L2.St} {s : Shared}, L2.Inv X pins σ H s → R y H → RelV y u → ∃ tb, PySem.W.Looks (model X.prog X.w) s.heap (typeOf u) tb ∧ PySem.W.notFirst X.K C tb = true) :
    OpR X (compareOp .NotEq) (rNeOwn C R sp E) := by
  intro pins s σ H x y v u Q I rx ry h
  obtain ⟨a, dx, fs, rfl, ha, hy, q⟩ := h
  cases (show v = Value.ref a from rx)
  obtain ⟨od, J⟩ := inst_at I ha
  obtain ⟨tb, ht, hn2⟩ := hR I hy ry
  show wpAny (model X.prog X.w) X.A (richCompare .NotEq (.ref a) u) (EP X pins σ Q) X.xe s
  refine rc_neK (show X.A.units + 1 < cLine from hr.in1.units0) I.kIn J ht hn2 hm hn hs hf ?_
  refine wpAny_mono (run_any (us := [.ref a, u]) (vs := [.ref a, y]) F hr.in1 I.env0.in1 hb hx I (.cons rfl (.cons ry .nil)) q) (fun w s' z => ?_) fun _ _ e => e
  obtain ⟨z', H', I', rz, r, rfl, qz⟩ := id z
  cases (show w = Value.bool r from rz)
  exact ⟨r, rfl, .bl (!r), H', I', rfl, qz⟩
section
variable {prog : Program} {w : World} {A : Around} {R : Result → Shared → Prop} {E : Value → Shared → Prop}
/-- at each turn the two lists are read anew: N items each, the i-th two equal as r i says -/
def ListB (prog : Program) (w : World) (A : Around) (E : Value → Shared → Prop) (l b : Addr) (N : Nat) (r : Nat → Bool) (I : Nat → Shared → Prop) : Prop :=
  ∀ i s, I i s → ∃ (xs ys : Array Value) (n n2 : Nat), s.heap.get? l = some { cls := .type "list", data := .seq xs n } ∧ s.heap.get? b = some { cls := .type "list", data := .seq ys n2 } ∧ xs.size = N ∧ ys.size = N ∧
    ∀ (h1 : i < xs.size) (h2 : i < ys.size), wpAny (model prog w) A.in1 (eqBool xs[i] ys[i]) (fun q s' => q = r i ∧ I (i + 1) s') E s
theorem loopB (l b : Addr) (N : Nat) (r : Nat → Bool) (I : Nat → Shared → Prop) (hl : ListB prog w A (fun e s' => R (.error e) s') l b N r I)
    (fin : (∀ j, j < N → r j = true) → ∀ s, I N s → R (.ok (.ret (.bool true))) s) (bad : ∀ j, j < N → r j = false → ∀ s, I (j + 1) s → R (.ok (.ret (.bool false))) s) :
    ∀ (k i : Nat), N - i = k → i ≤ N → (∀ j, j < i → r j = true) → ∀ s, I i s → wpAny (model prog w) A.in1 (Builtin.«list.__eq__.loop» ⟨[.ref l, .ref b, rawInt i, rawInt 2], []⟩) (FinOf prog w A R) (fun e s' => R (.error e) s') s
  | 0, i, hk, hi, all, s, h => by
    obtain ⟨xs, ys, n, n2, hl1, hb1, z1, z2, _⟩ := hl _ _ h
    have last : i = N := by omega
    have done : R (.ok (.ret (.bool true))) s := fin (fun j hj => all j (by omega)) s (last ▸ h)
    obtain ⟨hp, g, d, tk, os⟩ := s
    wp_walk using wpAny_loadPart' hl1, wpAny_loadPart' hb1
    have no1 : xs[((i : Nat) : Int).toNat]? = none := by simp; omega
    have no2 : ys[((i : Nat) : Int).toNat]? = none := by simp; omega
    rw [no1, no2]
    wp_walk using wpAny_loadPart' hl1, wpAny_loadPart' hb1
    show R (.ok (.ret (.bool (xs.size == ys.size)))) _
    rw [z1, z2]
    simpa using done
  | k + 1, i, hk, hi, all, s, h => by
    obtain ⟨xs, ys, n, n2, hl1, hb1, z1, z2, one⟩ := hl _ _ h
    have lt1 : i < xs.size := by omega
    have lt2 : i < ys.size := by omega
    have here := one lt1 lt2
    obtain ⟨hp, g, d, tk, os⟩ := s
    wp_walk using wpAny_loadPart' hl1, wpAny_loadPart' hb1
    have is1 : xs[((i : Nat) : Int).toNat]? = some xs[i] := by simp [lt1]
    have is2 : ys[((i : Nat) : Int).toNat]? = some ys[i] := by simp [lt2]
    have up : ((i : Int) + 1) = ((i + 1 : Nat) : Int) := by omega
    rw [is1, is2]
    refine wpAny_bind (wpAny_mono here (fun q s2 hq => ?_) fun _ _ x => x)
    obtain ⟨hr, hq⟩ := hq
    subst hr
    cases hb : r i with
    | true =>
      have rest := loopB l b N r I hl fin bad k (i + 1) (by omega) (by omega) (fun j hj => if e : j = i then by rw [e]; exact hb else all j (by omega)) s2 hq
      obtain ⟨hp2, g2, d2, tk2, os2⟩ := s2
      wp_walk
      rw [up]
      exact ⟨plainId_quiet plain_eq_loop _, codeAny_builtin entry_eq_loop (by rw [Around.under_plainId plain_eq_loop _] <;> exact rest)⟩
    | false =>
      have done := bad i (by omega) hb s2 hq
      obtain ⟨xs2, ys2, m, m2, hl2, hb2, z3, z4, _⟩ := hl _ _ hq
      have is3 : xs2[((i : Nat) : Int).toNat]? = some (xs2[i]'(by omega)) := by
        have : i < xs2.size := by omega
        simp [this]
      have is4 : ys2[((i : Nat) : Int).toNat]? = some (ys2[i]'(by omega)) := by
        have : i < ys2.size := by omega
        simp [this]
      obtain ⟨hp2, g2, d2, tk2, os2⟩ := s2
      wp_walk using wpAny_loadPart' hl2, wpAny_loadPart' hb2
      rw [is3, is4]
      wp_walk
      exact done
theorem listB (l b : Addr) (N : Nat) (r : Nat → Bool) (I : Nat → Shared → Prop) (hl : ListB prog w A (fun e s' => R (.error e) s') l b N r I)
    (fin : (∀ j, j < N → r j = true) → ∀ s, I N s → R (.ok (.ret (.bool true))) s) (bad : ∀ j, j < N → r j = false → ∀ s, I (j + 1) s → R (.ok (.ret (.bool false))) s) {s : Shared} (h : I 0 s) :
    wpAny (model prog w) A.in1 (Builtin.«list.__eq__» ⟨[.ref l, .ref b], []⟩) (FinOf prog w A R) (fun e s' => R (.error e) s') s := by
  obtain ⟨xs, ys, n, n2, hl1, hb1, z1, z2, _⟩ := hl _ _ h
  have rest := loopB (A := A) (R := R) l b N r I hl fin bad _ 0 rfl (Nat.zero_le _) (fun j hj => absurd hj (by omega)) s h
  obtain ⟨hp, g, d, tk, os⟩ := s
  have sub := AutoSeq1.sub_list_list
  have same : ¬ (xs.size != ys.size) = true := by simp [z1, z2]
  wp_walk using wpAny_loadPart' hl1, wpAny_loadPart' hb1
  exact ⟨plainId_quiet plain_eq_loop _, codeAny_builtin entry_eq_loop (by rw [Around.under_plainId plain_eq_loop _] <;> exact rest)⟩
theorem rcB {l b : Addr} {N : Nat} {Q : Value → Shared → Prop} {s : Shared} (hu : A.units < cLine) (r : Nat → Bool) (I : Nat → Shared → Prop) (hl : ListB prog w A E l b N r I)
    (fin : (∀ j, j < N → r j = true) → ∀ s, I N s → Q (.bool true) s) (bad : ∀ j, j < N → r j = false → ∀ s, I (j + 1) s → Q (.bool false) s) (h : I 0 s) : wpAny (model prog w) A (richCompare .Eq (.ref l) (.ref b)) Q E s := by
  obtain ⟨xs, ys, n, n2, hl1, hb1, _, _, _⟩ := hl _ _ h
  refine wpAny_richCompare_same_room (op := .Eq) ⟨_, hl1, rfl⟩ ⟨_, hb1, rfl⟩ F.slot_list_eq (call_here F.slot_list_eq ⟨_, hl1, rfl⟩ F.entry_list_eq (F.args_list_eq_2 _ _) ?_) hu
  exact listB (R := wants (fun v s' => v ≠ .notImplemented ∧ Q v s') E) l b N r I hl (fun a s' q => ⟨(fun x => nomatch x), fin a s' q⟩) (fun j a b s' q => ⟨(fun x => nomatch x), bad j a b s' q⟩) h
end
/-- == gives what D says, and only makes objects -/
def EqB (X : Cx) (n : Nat) (D : V → V → Hp → Bool → Prop) : Prop :=
  ∀ (A : Around) (pins : List (Addr × Obj)) (s : Shared) (σ : L2.St) (H : Hp) (x y : V) (u v : Value) (b : Bool), Sub X n A → Inv X pins σ H s → RelV x u → RelV y v → D x y H b →
    wpAny (model X.prog X.w) A (eqBool u v) (fun r s' => r = b ∧ ∃ H', Inv X pins σ H' s' ∧ Ext H H') X.xe s
theorem EqB.eqG {X : Cx} {n : Nat} {D : V → V → Hp → Bool → Prop} (h : EqB X n D) : EqG X n (fun x y H => D x y H true) := fun A pins s σ H x y u v sb I rx ry d => h A pins s σ H x y u v true sb I rx ry d
/-- x == y of two lists of the same length -/
def rEqB (D : V → V → Hp → Bool → Prop) : R2 := fun x y H Q => ∃ a b xs ys, x = .ref a ∧ y = .ref b ∧ H a = some (.lst xs) ∧ H b = some (.lst ys) ∧ xs.length = ys.length ∧ ∃ r : Nat → Bool,
  (∀ (i : Nat) x y, xs[i]? = some x → ys[i]? = some y → D x y H (r i)) ∧ ∀ H' c, Ext H H' → (c = true ↔ ∀ j, j < xs.length → r j = true) → Q (.bl c) H'
theorem op_eqB {X : Cx} {n : Nat} {D : V → V → Hp → Bool → Prop} (hD : ∀ x y H H' b, Ext H H' → D x y H b → D x y H' b) (h : EqB X n D) (hr : Room (n + 1) X.A) : OpR X (compareOp .Eq) (rEqB D) := by
  intro pins s σ H x y v u Q I rx ry hq
  obtain ⟨a, b, xs, ys, rfl, rfl, ha, hb, len, r, p, q⟩ := hq
  cases rx
  cases ry
  have sb : Sub X (n + 1) X.A := ⟨hr, rfl⟩
  show wpAny (model X.prog X.w) X.A (richCompare .Eq (.ref a) (.ref b)) (EP X pins σ Q) X.xe s
  refine rcB (N := xs.length) hr.units0 r (fun _ s' => LoopI X pins σ H s') (fun i s' z => ?_) (fun al s' ⟨H', I', e⟩ => ⟨.bl true, H', I', rfl, q H' true e ⟨fun _ => al, fun _ => rfl⟩⟩)
    (fun j hj rj s' ⟨H', I', e⟩ => ⟨.bl false, H', I', rfl, q H' false e ⟨fun z => (nomatch z), fun al => by rw [al j hj] at rj; cases rj⟩⟩) ⟨H, I, Ext.rfl'⟩
  obtain ⟨H1, I1, e1⟩ := id z
  obtain ⟨zz, its, k, rr, e⟩ := I1.hok a _ (e1 _ _ ha)
  obtain ⟨zz2, its2, k2, rr2, e2⟩ := I1.hok b _ (e1 _ _ hb)
  refine ⟨its.toArray, its2.toArray, k, k2, e, e2, by rw [List.size_toArray, ← rr.length], by rw [List.size_toArray, ← rr2.length, ← len], fun h1 h2 => ?_⟩
  have g1 : its[i]? = some its.toArray[i] := by
    have h1' : i < its.length := by simpa using h1
    rw [List.getElem?_eq_getElem h1'] <;> simp
  have g2 : its2[i]? = some its2.toArray[i] := by
    have h2' : i < its2.length := by simpa using h2
    rw [List.getElem?_eq_getElem h2'] <;> simp
  have k1 : i < xs.length := by rw [rr.length]; simpa using h1
  have k3 : i < ys.length := by rw [rr2.length]; simpa using h2
  obtain ⟨u, hu, ru⟩ := rr.get (List.getElem?_eq_getElem k1)
  obtain ⟨v, hv, rv⟩ := rr2.get (List.getElem?_eq_getElem k3)
  rw [g1] at hu
  rw [g2] at hv
  rw [Option.some.inj hu, Option.some.inj hv]
  refine wpAny_mono (h X.A.in1 pins s' σ H1 _ _ u v _ sb.in1 I1 ru rv (hD _ _ _ _ _ e1 (p i _ _ (List.getElem?_eq_getElem k1) (List.getElem?_eq_getElem k3)))) (fun r' s2 q' => ?_) fun _ _ x => x
  obtain ⟨hr', H2, I2, e2'⟩ := q'
  exact ⟨hr', H2, I2, e1.trans e2'⟩
end OwnNe
end

-- TryAs
section
set_option Elab.async false
set_option linter.all false
set_option maxRecDepth 100000
/-! try: with several clauses «except X as n». -/
namespace TryAs
open PySem L2
/-- the ends of a clause's suite: slot i is emptied on every way out -/
def endsAs (D : Ends) (i : Nat) : Ends where
  nx := fun t K => D.nx (t.set i none) K
  rt := D.rt
  bk := fun t K => D.bk (t.set i none) K
  ct := fun t K => D.ct (t.set i none) K
abbrev Cl := Value × Nat × (Addr → Value → Option Addr → TS)
def wAll (K : PySem.W.Frag) (Wout : WX) (D : Ends) : List Cl → WX
  | [] => Wout
  | (c, i, ts) :: r => fun cls d σ H => ∃ b, PySem.W.exmOne K cls c = some b ∧
      (b = true → ∀ a, H a = none → ts a cls d (endsAs D i) (σ.set i (some (.ref a))) H) ∧ (b = false → wAll K Wout D r cls d σ H)
inductive Clauses (X : Cx) : List ExceptHandler → List Cl → Prop
  | nil : Clauses X [] []
  | cons {x n : Str} {c : Value} {i : Nat} {ts : Addr → Value → Option Addr → TS} {fst : Stmt} {suite : List Stmt} {np hpos : Pos} {hds : List ExceptHandler} {l : List Cl}
      (at_ : X.N[i]? = some n) (loc : X.env.kindOf n = some .local) (nam : Names X x c)
      (run : ∀ (a : Addr) (oe : Obj) (cls : Value) (d : Option Addr) (pn : List (Addr × Obj)), Zc cls d oe → (∃ vs, oe.data = .fields vs) → PSs (X.suite a ((a, oe) :: pn)) (fst :: suite) (ts a cls d))
      (more : Clauses X hds l) : Clauses X (.ExceptHandler (some (.Name x np)) (some n) (fst :: suite) hpos :: hds) ((c, i, ts) :: l)
section
variable {X : Cx} {body : List Stmt} {hd0 : ExceptHandler} {hds : List ExceptHandler} {l : List Cl} {pos : Pos} {tb : WX → TS} {Wout : WX}
theorem ps_try_all (stk : X.stack = X.env :: X.outer) (frm : X.env.frame = some X.env.locals) (nod : X.N.Nodup) (tk : Takes X Wout)
    (hb : ∀ (W : WX) (pn : List (Addr × Obj)) (xe : Value → Shared → Prop), Takes (X.tr pn xe) W → PassesOwn (model X.prog X.w) X.A X.env xe → PSs (X.tr pn xe) body (tb W))
    (cl : Clauses X (hd0 :: hds) l) : PS X (.Try body (hd0 :: hds) [] [] pos) (fun D σ H => tb (wAll X.K Wout D l) D σ H) := by
  constructor
  intro pins s σ H D I h
  have okX := I.ok
  have frs2 : X.A.frames = some (X.env :: X.outer) := by rw [okX.frames, stk]
  refine wpAny_Try_except ?_
  refine wpAny_mono ((hb (wAll X.K Wout D l) (X.pn ++ pins)
    (fun e s₁ => wpAny (model X.prog X.w) X.A (noteFrame e X.env)
      (fun _ s₂ => wpAny (model X.prog X.w) X.A (setFlight e none)
        (fun _ s₃ => wpAny (model X.prog X.w) X.A (handleBy e X.env (hd0 :: hds)) (SP X pins D) X.xe s₃) X.xe s₂) X.xe s₁)
    (fun u s' xx => ?_) PassesOwn.looking).run [] s σ H D (I.toTry _) h) (fun f s1 hsp => ?_) (fun e s1 he => he)
  · obtain ⟨a, B, sI, pins1, σ1, H1, cls, d, rfl, J0, nb, up, sky, na, os, ag, w⟩ := xx
    have J1 : L2.Inv X pins σ1 H1 sI := J0.ofTry okX
    have sky1 : Sky B (X.env :: X.outer) a (Zc cls d) X.env.locals s'.heap := by rw [← stk]; exact sky
    show wpAny (model X.prog X.w) X.A (noteFrame (.ref a) X.env) _ _ _
    refine Sky.land Zc.steady frs2 frm sky1 fun h3 fl3 up3 => ?_
    have J3 : L2.Inv X pins σ1 H1 { s' with heap := h3 } := J1.landed nb fl3.1 (up.trans up3) os ag
    obtain ⟨oe3, vs3, he3, hz3, hd3⟩ := fl3.there
    have apart : a ∉ frs (X.env :: X.outer) := fun hm => by
      obtain ⟨_, o', e', hnf⟩ := fl3.2.2.1.mem hm
      have q : some o' = some oe3 := e'.symm.trans he3
      cases q
      exact hnf _ hd3
    have notL : a ≠ X.env.locals := fun z => apart (List.mem_filterMap.mpr ⟨X.env, List.mem_cons_self, by rw [frm, z]⟩)
    have notF : a ∉ X.fs := fun hm => by
      obtain ⟨e, he, q⟩ := List.mem_filterMap.mp hm
      exact apart (List.mem_filterMap.mpr ⟨e, List.mem_cons_of_mem _ he, q⟩)
    have S3 := J3.suite he3 hd3 na notL notF
    have go : ∀ {hs2 : List ExceptHandler} {l2 : List Cl}, Clauses X hs2 l2 → wAll X.K Wout D l2 cls d σ1 H1 →
        wpAny (model X.prog X.w) X.A (handleBy (.ref a) X.env hs2) (SP X pins D) X.xe { s' with heap := h3 } := by
      intro hs2 l2 hk
      induction hk with
      | nil =>
        intro w
        refine wpAny_handleBy_nil ?_
        obtain ⟨k1, k2, k3, oe, vs, T, oT, ts', he, hz, hd, h1, hr⟩ := id fl3
        unfold PySem.passOn
        refine wpAny_bind (wpAny_field he hd h1 ?_)
        have tn : ¬ ((Value.ref T == Value.none) = true) := by simp
        rw [if_neg tn]
        have fin : wpAny (model X.prog X.w) X.A (setFlight (.ref a) X.env.frame) (fun _ s4 => wpAny (model X.prog X.w) X.A (throw (.ref a) : Sem Flow) (SP X pins D) X.xe s4) X.xe { s' with heap := h3 } := by
          rw [frm]
          refine HandSPX.setFlight_upZ fl3 fun h4 hh4 up4 => wpAny_throw (tk _ _ ?_)
          exact ⟨a, B, sI, pins, σ1, H1, cls, d, rfl, J1, nb, (up.trans up3).trans up4, .inr (.inr (by rw [stk]; exact hh4)), na, os, ag, w⟩
        first | exact (wpAny_bind (wpAny_pure (wpAny_bind fin))) | exact (wpAny_bind fin)
      | @cons x n c i ts fst suite np hpos hs3 l3 at_ loc nam run more ih =>
        intro w
        obtain ⟨b, hb1, yes, no⟩ := w
        have slot : Loc X.env.scope n := .inl loc
        refine wpAny_handleBy_cons (codeAny_handlers_test ?_) (by intro q; cases q)
        have Lty : PySem.W.Looks (model X.prog X.w) h3 (typeOf (.ref a)) cls := fun A Q E s k q => wpAny_typeOf_ref (k _ _ he3) (by rw [hz3.1]; exact q)
        have Lex := PySem.W.exm_one (M := model X.prog X.w) (J3.kIn) Lty hb1
        have tst : ∀ {Q : Value → Shared → Prop} {E : Value → Shared → Prop}, Q c { s' with heap := h3 } → wpAny (model X.prog X.w) (X.A.mark (some (.ref a))) (eval (.Name x np) X.env) Q E { s' with heap := h3 } := fun {Q E} q => by
          obtain ⟨hg, ndb, hm | ⟨hm, hv, nn⟩⟩ := nam
          · exact (ld_glob (X := X.suite a ((a, oe3) :: (X.pn ++ pins))) S3 hg hm q ndb)
          · exact (ld_blt (X := X.suite a ((a, oe3) :: (X.pn ++ pins))) S3 hg hm hv q nn ndb)
        refine tst (Lex.here ?_)
        cases b with
        | true =>
          refine codeAny_handlers_suite_as ?_
          refine HandSPX.lands_againZ fl3 fun h4 fl4 up4 => ?_
          have J4 : L2.Inv X pins σ1 H1 { s' with heap := h4 } := J1.landed nb fl4.1 ((up.trans up3).trans up4) os ag
          obtain ⟨oe4, vs4, he4, hz4, hd4⟩ := fl4.there
          have S4 := J4.suite he4 hd4 na notL notF
          refine store_ok (X := X.suite a ((a, oe4) :: (X.pn ++ pins))) (v := .ref a) S4 nod at_ slot rfl (fun s5 S5 => ?_) (.inr loc)
          refine wpAny_mono ((run a oe4 cls d (X.pn ++ pins) hz4 ⟨_, hd4⟩).run [] s5 _ H1 _ S5 (yes rfl a na)) (fun f s6 hsp => ?_) (fun _ _ z => False.elim z)
          have wipe : ∀ {t6 : L2.St} {K6 : Hp} {Q : Shared → Prop}, L2.Inv (X.suite a ((a, oe4) :: (X.pn ++ pins))) [] t6 K6 s6 → (∀ s7, L2.Inv X pins (t6.set i none) K6 s7 → Q s7) →
              wpAny (model X.prog X.w) X.A (do bindName X.env n .none; unbindBehindTheSuite X.env n hpos) (fun _ s7 => Q s7) X.xe s6 := fun {t6 K6 Q} S6 hq => gone_ok (S6.unsuite okX) nod at_ loc hq
          cases f with
          | next =>
            obtain ⟨t6, K6, S6, q6⟩ := hsp
            exact (wipe S6 fun s7 J7 => ⟨_, _, J7, q6⟩)
          | brk =>
            obtain ⟨t6, K6, S6, q6⟩ := hsp
            exact (wipe S6 fun s7 J7 => ⟨_, _, J7, q6⟩)
          | cont =>
            obtain ⟨t6, K6, S6, q6⟩ := hsp
            exact (wipe S6 fun s7 J7 => ⟨_, _, J7, q6⟩)
          | ret u =>
            obtain ⟨v6, t6, K6, S6, r6, q6⟩ := hsp
            exact (wipe S6 fun s7 J7 => ⟨_, _, _, J7, r6, q6⟩)
        | false =>
          show wpAny _ X.A (handleBy (.ref a) X.env hs3) _ _ _
          exact ih (no rfl)
    exact go cl w
  · cases f with
    | next =>
      obtain ⟨t1, K1, J1, q⟩ := hsp
      exact wpAny_execs_nil ⟨t1, K1, J1.ofTry okX, q⟩
    | brk =>
      obtain ⟨t1, K1, J1, q⟩ := hsp
      exact ⟨t1, K1, J1.ofTry okX, q⟩
    | cont =>
      obtain ⟨t1, K1, J1, q⟩ := hsp
      exact ⟨t1, K1, J1.ofTry okX, q⟩
    | ret u =>
      obtain ⟨v1, t1, K1, J1, r, q⟩ := hsp
      exact ⟨v1, t1, K1, J1.ofTry okX, r, q⟩
/-- an exception of a callee, wished for at every state of the slots that fits -/
def EAll (X : Cx) (W : WX) : XK := fun cls d H' => ∀ t : L2.St, t.length = X.N.length → W cls d t H'
theorem pass_all {W : WX} (tk : Takes X W) : Passes (L2.CX X.prog X.w) X (EAll X W) := fun _ _ _ _ _ _ I c =>
  tk _ _ (XE.of_call I (fun _ _ _ z => z _ I.len) c)
end
end TryAs
end

-- GivErr
section
set_option Elab.async false
set_option linter.all false
set_option maxRecDepth 100000
set_option maxHeartbeats 2000000
/-! An own error class, over any of three built-in ones, that keeps its one argument in the field `given`. -/
namespace PySem
namespace Giv
open PySem.W PySem.Calls PyProof.Rows PySem.HandSPX Builtin Builtin.ObjectAttr
/-- own classes, then the given tail -/
def tailIs (bt : List Value) : List Value → Bool
  | .ref _ :: r => tailIs bt r
  | l => l == bt
theorem tail_cases (bt : List Value) : ∀ l : List Value, tailIs bt l = true → (∃ c r, l = .ref c :: r ∧ tailIs bt r = true) ∨ l = bt := fun l e => by
  cases l with
  | nil => exact .inr (beq_iff_eq.mp e)
  | cons a r => cases a <;> first | exact .inl ⟨_, _, rfl, e⟩ | exact .inr (beq_iff_eq.mp e)
theorem tail_pass {bt : List Value} (hb : ∀ self, refuseLoop self "__setattr__" bt = pure ()) (self : Value) : ∀ l : List Value, tailIs bt l = true → refuseLoop self "__setattr__" l = pure () := fun l => by
  induction l with
  | nil => intro e; rcases tail_cases bt _ e with ⟨_, _, q, _⟩ | q; cases q; rw [q]; exact hb self
  | cons a r ih =>
    intro e
    rcases tail_cases bt (a :: r) e with ⟨c, r', q, h⟩ | q
    · cases q; rw [refuseLoop_ref]; exact ih h
    · rw [q]; exact hb self
theorem tail_has {bt : List Value} (Y : String) : ∀ l : List Value, tailIs bt l = true → l.contains (.type Y) = bt.contains (.type Y) := fun l => by
  induction l with
  | nil => intro e; rcases tail_cases bt _ e with ⟨_, _, q, _⟩ | q; cases q; rw [q]
  | cons a r ih =>
    intro e
    rcases tail_cases bt (a :: r) e with ⟨c, r', q, h⟩ | q
    · cases q; rw [List.contains_cons, ih h]; rfl
    · rw [q]
/-- what is used of the built-in base -/
structure BaseOk (B newId initId : String) (bt : List Value) : Prop where
  facts : ExcBaseFacts B newId initId bt
  pass : ∀ self, refuseLoop self "__setattr__" bt = pure ()
  obj : bt.contains (.type "object") = true
theorem ok_VE : BaseOk "ValueError" "ValueError.__new__" "ValueError.__init__" [.type "ValueError", .type "Exception", .type "BaseException", .type "object"] :=
  ⟨F.excBase_ValueError, fun self => F.store_ValueError.passes self, by decide +kernel⟩
theorem ok_ZD : BaseOk "ZeroDivisionError" "ZeroDivisionError.__new__" "ZeroDivisionError.__init__" [.type "ZeroDivisionError", .type "ArithmeticError", .type "Exception", .type "BaseException", .type "object"] :=
  ⟨F.excBase_ZeroDivisionError, fun self => F.store_ZeroDivisionError.passes self, by decide +kernel⟩

section
variable {prog : Program} {w : World} {A : Around} {E : Value → Shared → Prop} {R : Result → Shared → Prop} {hp : Heap} {g : Array GenState} {d : Drawn} {t : Nat} {os : OsState}
/-- self.name = v on a new exception -/
theorem osa_giv {K : W.Frag} {name : Str} {tk : Tok} {v : Value} {x C : Addr} {fv : Array Value} {cd : ClassData} {bt bm : List Value} (hb : ∀ self, refuseLoop self "__setattr__" bt = pure ()) (hbo : bt.contains (.type "object") = true)
    (Y : K.In hp) (hx : hp.get? x = some { cls := .ref C, data := .fields fv }) (hcd : W.clsIn K C = some cd) (hm : cd.mro = .ref C :: bm) (htl : tailIs bt bm = true) (hh : cd.hasDict = true) (hno : W.findIn K (.ref C) name = some none)
    (fin : ∀ h' tk' dx, (∀ b o, b ≠ x → hp.get? b = some o → h'.get? b = some o) → hp.objs.size ≤ dx → dx ≠ x → h'.get? x = some { cls := .ref C, dict := some dx, data := .fields fv } →
      h'.Ns1 dx (fun y => if y = name then some v else none) → R (.ok (.ret .none)) ⟨h', g, d, tk', os⟩) :
    codeAny (model prog w) A (.call (.builtin "object.__setattr__") ⟨[.ref x, .str name tk, v], []⟩) R ⟨hp, g, d, t, os⟩ := by
  have J : W.InstAt hp x { cls := .ref C, data := .fields fv } C none := ⟨hx, rfl, rfl, trivial⟩
  have SO := F.store_object
  have htail : tailIs bt cd.mro = true := by rw [hm]; exact htl
  have hob2 : cd.mro.contains (.type "object") = true := by rw [tail_has "object" _ htail]; exact hbo
  have hemp : cd.mro.isEmpty = false := by rw [hm]; rfl
  have apart : x ≠ hp.objs.size := Nat.ne_of_lt (Heap.lt_size hx)
  have Lsub : W.Looks (model prog w) hp (isInstance (.ref x) (.type "object")) true :=
    J.type.andThen (W.looks_mroIn Y (by unfold W.mroIn; rw [hcd, Option.bind_some, if_neg (by rw [hemp]; decide), hob2]))
  refine codeAny_call_builtin SO.slot.plain SO.entry (@W.check_slot (model prog w) _ _ ⟨hp, g, d, t, os⟩ "object.__setattr__" "object" "__setattr__" (.ref x)
    [.str name tk, v] [] _ SO.kind SO.split Lsub (SO.args (.ref x) (.str name tk) v) ?_)
  have Lmro : W.Looks (model prog w) hp (mroOf (.ref C)) cd.mro := (W.looks_clsIn Y hcd).andThen .now
  have Lno : W.Looks (model prog w) hp (storeTaker? none) none := .now
  have Lcd : W.Looks (model prog w) hp (classData C) cd := W.looks_clsIn Y hcd
  rw [W.osa_eq, refuse_eq]
  refine wpAny_bind (wpAny_bind (J.type.at (wpAny_bind (Lmro.at ?_))))
  rw [tail_pass hb _ _ htail]
  refine wpAny_pure (wpAny_bind (J.type.at (wpAny_bind ((W.looks_findIn Y hno).at (wpAny_bind (Lno.at ?_))))))
  show wpAny _ _ (storeInOwnDict (.ref x) (.ref C) (.str name tk) name v false) _ _ _
  obtain ⟨c1, c2, c3, c4, c5, c6, c7, c8, c9, c10, c11⟩ := cd
  dsimp only at hh
  subst hh
  unfold storeInOwnDict ownDictForStores
  repeat (first | (with_reducible refine store_in_new ?_ ?_) | (with_reducible refine wpAny_loadPart_at hx ?_) | (with_reducible refine Lcd.at ?_) | wp_step)
  · exact ⟨_, #[], _, (Heap.get?_update_ne _ _ _ _ apart.symm).trans (Heap.get?_push_at rfl rfl), rfl, fun e he => absurd he (by simp), fun _ => rfl⟩
  · intro h' tk' hn' hs
    have hx1 : (hp.push { cls := .type "dict", data := .dict #[] }).get? x = some { cls := .ref C, data := .fields fv } := Heap.get?_push_of_some _ hx
    refine fin h' tk' hp.objs.size (fun b o hb ho => ?_) (Nat.le_refl _) apart.symm ?_ hn'
    · exact (hs.2 b (Nat.ne_of_lt (Heap.lt_size ho))).trans ((Heap.get?_update_ne _ _ _ _ hb).trans (Heap.get?_push_of_some _ ho))
    · exact (hs.2 x apart).trans (Heap.get?_update_self _ hx1 rfl)
end

/-! ### the text of __init__ -/
def gA (p1 p2 : Pos) : Arguments := { posonlyargs := [], args := [{ arg := "self", annotation := none, pos := p1 }, { arg := "given", annotation := none, pos := p2 }], vararg := none, kwonlyargs := [], kw_defaults := [], kwarg := none, defaults := [] }
def gB (q1 q2 q3 q4 : Pos) : List Stmt := [.Assign [.Attribute (.Name "self" q1) "given" q2] (.Name "given" q3) q4]
def gS : Scope := { kind := .function, names := [(PySem.Str.ofString "self", .local), (PySem.Str.ofString "given", .local)], isGenerator := false, isCoroutine := false, more := [] }
/-- what the written part says of the class called cn, at C, and of its __init__, at fI -/
structure ErrTxt (K : Frag) (mg : Str → Option Value) (cn qn : Str) (newId : String) (bt : List Value) (C fI : Addr) : Prop where
  gC : mg cn = some (.ref C)
  cls : ∃ nm q N bs bm sn sub ab col dd k0 k1 k2 k3 k5, K.lookup C = some (excClassObj nm q C N bs bm true sn sub ab col dd k0 k1 k2 k3 k5 newId) ∧ tailIs bt bm = true
  sa : findIn K (.ref C) "__setattr__" = some (some (.builtin "object.__setattr__"))
  ga : findIn K (.ref C) "__getattribute__" = some (some (.builtin "BaseException.__getattribute__"))
  gg : findIn K (.ref C) "__getattr__" = some none
  noN : findIn K (.ref C) "given" = some none
  iC : findIn K (.ref C) "__init__" = some (some (.ref fI))
  tC : typeIn K (.ref fI) = some (.type "function")
  kC : keepIn K (.ref C) = true
  exC : subIn K (.ref C) (.type "BaseException") = some true
  tyC : typeIn K (.ref C) = some (.type "type")
  hdC : hasDictIn K C = true
  te : exmOne K (.ref C) (.ref C) = some true
  fn : ∃ (oc : Value) (od : Option Addr) (doc pm : Value) (an : Option Addr) (cdv ct : Value) (osl : Array (Option Value)) (p1 p2 q1 q2 q3 q4 : Pos),
    K.lookup fI = some ⟨oc, od, .func (fnOf "__init__" qn (gA p1 p2) (gB q1 q2 q3 q4) gS .none .none doc pm an cdv ct), osl⟩ ∧ codeIn K cdv qn = true
theorem one_fits (v : Value) : [v].length ≤ sizeLine := by
  rw [sizeLine_eq]
  exact (by decide : 1 ≤ 16777216)
theorem ldG {M : Model} {s : Shared} {name : Str} {scope : Scope} {L a : Addr} {cd : Value} {m : Str → Option Value} {x : Str} {pos : Pos} {v : Value} {Q : Value → Shared → Prop} {A : Around} {E : Value → Shared → Prop} (hn : s.heap.Ns L m) (hv : m x = some v) (h : Q v s)
    (hk : scope.kind = .function := by rfl) (hl : (envOfC name scope L a cd).kindOf x = some .local := by rfl) (hd : (x == ("__debug__" : Str)) = false := by decide) :
    wpAny M A (eval (.Name x pos) (envOfC name scope L a cd)) Q E s := wpAny_Name (wpAny_loadName_local hk hl hn hv h) hd
/-- what __init__ leaves -/
structure GivEnd (h h' : Heap) (x C dx t1 : Addr) (v : Value) : Prop where
  keep : ∀ b o, b ≠ x → h.get? b = some o → h'.get? b = some o
  obj : h'.get? x = some { cls := .ref C, dict := some dx, data := .fields #[.ref t1, .none, .none, .none, .bool false, .none] }
  dbig : h.objs.size ≤ dx
  dne : dx ≠ x
  ns : h'.Ns1 dx (fun y => if y = "given" then some v else none)
/-- a made one -/
structure GivMade (h h' : Heap) (e C d : Addr) (v : Value) : Prop where
  keep : ∀ b o, h.get? b = some o → h'.get? b = some o
  new : h.objs.size ≤ e
  obj : ∃ oe vs, h'.get? e = some oe ∧ oe.cls = .ref C ∧ oe.dict = some d ∧ oe.data = .fields vs ∧ vs[1]? = some .none
  dbig : h.objs.size ≤ d
  dne : d ≠ e
  ns : h'.Ns1 d (fun y => if y = "given" then some v else none)
section
variable {prog : Program} {w : World} {A : Around} {E : Value → Shared → Prop} {R : Result → Shared → Prop} {s : Shared} {K : Frag} {mg : Str → Option Value} {C fI : Addr} {cn qn : Str} {B newId initId : String} {bt : List Value}
theorem giv_init (Z : BaseOk B newId initId bt) (T : ErrTxt K mg cn qn newId bt C fI) {x t0 : Addr} {v : Value} (X : K.In s.heap) (hlim : s.heap.NoLimit) (hx : s.heap.get? x = some (excO C t0)) (hroom : A.depth < recursionLimit)
    (hq : ∀ h' tk dx, GivEnd s.heap h' x C dx t0 v → R (.ok (.ret .none)) { s with heap := h', toks := tk }) :
    codeAny (model prog w) A (.call (.ref fI) ⟨[.ref x, v], []⟩) R s := by
  obtain ⟨oc, od, doc, pm, an, cdv, ct, osl, p1, p2, q1, q2, q3, q4, ho, hcd⟩ := T.fn
  obtain ⟨nm, q, N, bs, bm, sn, sub, ab, col, dd, k0, k1, k2, k3, k5, hC, hbm⟩ := T.cls
  have hcl : clsIn K C = some { name := nm, bases := bs, mro := .ref C :: bm, ns := N, qualname := q, hasDict := true, slotNames := sn, subclasses := sub, abstract := ab, collection := col, hasDel := false } := by unfold clsIn; rw [hC] <;> rfl
  refine Att.call_fn (binds := [("self", .ref x), ("given", v)]) X hlim ho hcd hroom (BindsTo.of_eq (by first | rfl | with_unfolding_all rfl)) (by first | rfl | decide | with_unfolding_all rfl) (fun s₁ IC => ?_) rfl rfl rfl
  obtain ⟨h₁, tk₁, rfl⟩ := IC.toInCall.same
  have k : ∀ b o, s.heap.get? b = some o → h₁.get? b = some o := IC.toInCall.keep
  have hn := IC.toInCall.ns
  have X₁ : K.In h₁ := X.keeps k
  have hx₁ := k _ _ hx
  show wpAny _ _ (execs _ _) _ _ _
  refine wpAny_execs_cons (plainObj_wpAny_Assign_Attribute ?_)
  refine ldG (v := v) hn (by first | rfl | with_unfolding_all rfl | kernel_rfl) (ldG (v := .ref x) hn (by first | rfl | with_unfolding_all rfl | kernel_rfl) ?_)
  refine set_plain X₁ (ox := excO C t0) (od := none) ⟨hx₁, rfl, rfl, trivial⟩ T.sa ?_
  refine osa_giv Z.pass Z.obj X₁ hx₁ hcl rfl hbm rfl T.noN (fun h₃ tk₃ dx k₃ dn dne hx₃ hn₃ => ?_)
  show wpAny _ _ (execs _ _) _ _ _
  have z : s.heap.objs.size < h₁.objs.size := hn.lt
  exact wpAny_execs_nil (hq h₃ tk₃ dx ⟨fun b o hb e => k₃ b o hb (k b o e), hx₃, Nat.le_of_lt (Nat.lt_of_lt_of_le z dn), dne, hn₃⟩)
theorem giv_made (Z : BaseOk B newId initId bt) (T : ErrTxt K mg cn qn newId bt C fI) {v : Value} (X : K.In s.heap) (hlim : s.heap.NoLimit) (hroom : A.depth + 1 < recursionLimit)
    (hq : ∀ h' tk e d, GivMade s.heap h' e C d v → R (.ok (.ret (.ref e))) { s with heap := h', toks := tk }) :
    codeAny (model prog w) A (.call (.ref C) ⟨[v], []⟩) R s := by
  obtain ⟨nm, q, N, bs, bm, sn, sub, ab, col, dd, k0, k1, k2, k3, k5, hC, hbm⟩ := T.cls
  obtain ⟨hp, g, dr, tk, os⟩ := s
  have k : ∀ b o, hp.get? b = some o → ((hp.push (kdv_tup [v])).push (excO C hp.objs.size)).get? b = some o := fun b o e => Heap.get?_push_of_some _ (Heap.get?_push_of_some _ e)
  have hget : ((hp.push (kdv_tup [v])).push (excO C hp.objs.size)).get? (hp.objs.size + 1) = some (excO C hp.objs.size) := by heap_get
  refine call_own Z.facts (fun X => tail_has X bm hbm) (X _ _ hC) (looks_findIn X T.iC) (fun self => bind_fn X self T.tC) (one_fits v) ?_
  refine giv_init (s := ⟨(hp.push (kdv_tup [v])).push (excO C hp.objs.size), g, dr, tk, os⟩) Z T (X.keeps k) (hlim.keeps k) hget ?_ fun h' tk' dx ⟨k', hx, dn, dne, hns⟩ => ?_
  · show A.depth + 1 < recursionLimit
    exact hroom
  · have old : ∀ b o, hp.get? b = some o → h'.get? b = some o := fun b o e => k' b o (Nat.ne_of_lt (Nat.lt_succ_of_lt (Heap.lt_size e))) (k b o e)
    have z : hp.objs.size + 1 + 1 ≤ dx := by
      first
        | (simpa only [Heap.size_push] using dn)
        | exact dn
        | (have q := dn; rw [Heap.size_push, Heap.size_push] at q; exact q)
    exact ⟨rfl, hq h' tk' (hp.objs.size + 1) dx ⟨old, Nat.le_succ _, ⟨_, _, hx, rfl, rfl, rfl, rfl⟩, Nat.le_trans (Nat.le_trans (Nat.le_succ _) (Nat.le_succ _)) z, dne, hns⟩⟩
end
end Giv
end PySem
end

-- GivErr2
section
set_option Elab.async false
set_option linter.all false
set_option maxRecDepth 100000
set_option maxHeartbeats 2000000
namespace L2
open PySem PySem.Spec PyProof.Rows
theorem relO_giv {v : V} {v' : Value} (r : RelV v v') (f : Str) : RelO (List.lookup f [(("given" : Str), v)]) (if f = "given" then some v' else none) := by
  by_cases hw : f = "given"
  · subst hw
    rw [if_pos rfl]
    have q : List.lookup ("given" : Str) [(("given" : Str), v)] = some v := by simp [List.lookup]
    rw [q]
    exact r
  · rw [if_neg hw]
    have qw : (f == ("given" : Str)) = false := by simpa using hw
    have q2 : List.lookup f [(("given" : Str), v)] = none := by simp [List.lookup, qw]
    rw [q2]
    trivial
section
variable {X : Cx} {C fI : Addr} {cn qn : Str} {B newId initId : String} {bt : List Value}
/-- Err(e) -/
def tMkGiv (C : Addr) (ta : TA) : L2.St → Hp → XK → Prop := fun σ H Q => ta σ H fun vs H1 => ∃ v, vs = [v] ∧ ∀ d, H1 d = none → Q (.ref C) (some d) (upd H1 d (.xd [(("given" : Str), v)]))
theorem pmk_giv {a : Expr} {ta : TA} {p pos : Pos} {k : Nat} (Z : PySem.Giv.BaseOk B newId initId bt) (T : PySem.Giv.ErrTxt X.K X.mg cn qn newId bt C fI) (hr : Room k X.A) (ha : PA X [a] ta) (hg : Gl X cn) (hdb : (cn == ("__debug__" : Str)) = false)
    (he : starEach (a :: []) X.env = (false, eval a X.env) :: starEach [] X.env := by rfl) (hpl : (backTo pos (starEach [] X.env)).any (·.1) = false := by rfl) :
    PMk X (.Call (.Name cn p) [a] [] pos) (tMkGiv C ta) := by
  intro pins s σ H Q I h
  refine wpAny_Call_Name_kw (ld_glob I hg T.gC ?_ hdb)
  refine PySem.W.callWith_K (h₀ := X.base) I.ok.mod.kin T.kC (thn (ha.run pos pins s σ H _ I h) fun us s1 hh => ?_) he hpl
  obtain ⟨vs, H1, I1, r1, v, ev, q1⟩ := hh
  subst ev
  refine ⟨I1.kIn, ?_⟩
  cases r1 with
  | cons rv rn =>
    rename_i v' us'
    cases rn
    show wpAny _ _ (call (.ref C) [v']) _ _ _
    have hlim := I1.nolimit
    obtain ⟨hp, g, dr, tk, os⟩ := s1
    refine wpAny_call (PySem.Giv.giv_made Z T I1.kIn hlim (by have := hr.dp; omega) fun h' tk' e d M => ?_)
    show MkP X pins σ Q (.ref e) ⟨h', g, dr, tk', os⟩
    obtain ⟨oe, fv, hoe, hc, hd, hdat, h1⟩ := M.obj
    have hns := M.ns
    obtain ⟨G', g1, g2⟩ := restrict h' fun b => decide (b ≠ e)
    have gk : ∀ b, b ≠ e → G'.get? b = h'.get? b := fun b hb => g1 b (decide_eq_true hb)
    have ge : G'.get? e = none := g2 e (by simp)
    have old : ∀ b o, hp.get? b = some o → G'.get? b = some o := fun b o q => (gk b (Nat.ne_of_lt (Nat.lt_of_lt_of_le (Heap.lt_size q) M.new))).trans (M.keep b o q)
    have ob : ObjOk X.prog X.w (upd H1 d (.xd [(("given" : Str), v)])) G' d (.xd [(("given" : Str), v)]) :=
      ⟨_, hns.at (fun o q => (gk d M.dne).trans q), fun f => relO_giv rv f⟩
    have J : L2.Inv X pins σ (upd H1 d (.xd [(("given" : Str), v)])) ⟨G', g, dr, tk', os⟩ := I1.laid (t' := tk') old M.dbig ob
    refine ⟨e, oe, fv, ⟨G', g, dr, tk', os⟩, _, .ref C, some d, rfl, J, fun b o q => ?_, ge, hoe, ⟨hc, hd⟩, hdat, h1, ?_, rfl, I1.bare, raises_own T.exC T.tyC, q1 d (I1.hok.fresh M.dbig)⟩
    · by_cases hb : b = e
      · have q' : G'.get? b = some o := q
        rw [hb, ge] at q'; cases q'
      · exact (gk b hb).symm.trans q
    · rw [upd_ne (Ne.symm M.dne)]
      exact I1.hok.fresh M.new
/-- raise Err(e) -/
def tRaiseGiv (C : Addr) (W : WX) (ta : TA) : TS := fun _ σ H => tMkGiv C ta σ H fun cls d H' => W cls d σ H'
theorem ps_raiseGiv {a : Expr} {ta : TA} {W : WX} {p pos pos2 : Pos} {k : Nat} (hc : X.calm = true) (Z : PySem.Giv.BaseOk B newId initId bt) (T : PySem.Giv.ErrTxt X.K X.mg cn qn newId bt C fI) (hr : Room k X.A) (tk : Takes X W) (ha : PA X [a] ta) (hg : Gl X cn) (hdb : (cn == ("__debug__" : Str)) = false := by decide)
    (he : starEach (a :: []) X.env = (false, eval a X.env) :: starEach [] X.env := by rfl) (hpl : (backTo pos (starEach [] X.env)).any (·.1) = false := by rfl) :
    PS X (.Raise (some (.Call (.Name cn p) [a] [] pos)) none pos2) (tRaiseGiv C W ta) := ps_raise hc tk (pmk_giv Z T hr ha hg hdb he hpl)
/-- err.given, err the exception that the suite holds (at a; its class cls, its dict d) -/
def tByGiv (C : Addr) (a : Addr) (cls : Value) (d : Option Addr) (te : TE) : TE := fun σ H Q => te σ H fun x H1 => x = .ref a ∧ cls = .ref C ∧ ∃ (dd : Addr) (v : V), d = some dd ∧ H1 dd = some (.xd [(("given" : Str), v)]) ∧ Q v H1
theorem pe_byGiv {a : Addr} {oe : Obj} {cls : Value} {d : Option Addr} {pn : List (Addr × Obj)} {e : Expr} {te : TE} {pos : Pos} (T : PySem.Giv.ErrTxt X.K X.mg cn qn newId bt C fI) (hz : Zc cls d oe) (hf : ∃ vs, oe.data = .fields vs) (he : PE (X.suite a ((a, oe) :: pn)) e te)
    (hb : attributeBase e "given" X.env (eval e X.env) = eval e X.env := by rfl) :
    PE (X.suite a ((a, oe) :: pn)) (.Attribute e "given" pos) (tByGiv C a cls d te) := by
  refine ⟨fun pins s σ H Q I h => ?_⟩
  refine attr_of hb (thn (he.run pins s σ H _ I h) fun u s1 hh => ?_)
  obtain ⟨x, H1, I1, rx, ex, ec, dd, v, ed, ea, q⟩ := hh
  subst ex
  obtain rfl : u = Value.ref a := rx
  subst ec
  subst ed
  obtain ⟨ha, _⟩ := I1.pin (a, oe) (List.mem_append_left _ List.mem_cons_self)
  obtain ⟨vs, hd⟩ := hf
  have hx : ObjOk X.prog X.w H1 s1.heap dd (.xd [(("given" : Str), v)]) := I1.hok dd _ ea
  obtain ⟨mA, hns, hr⟩ := hx
  obtain ⟨od, ho, hl⟩ := lookIn_ns hns
  have l : List.lookup ("given" : Str) [(("given" : Str), v)] = some v := by simp [List.lookup]
  obtain ⟨u, hu, ru⟩ := RelO.some_of (v := v) (o := mA "given") (by rw [← l]; exact hr "given")
  have J : PySem.W.InstAt s1.heap a oe C (some od) := ⟨ha, hz.1, by unfold PySem.W.notCls; rw [hd] <;> rfl, by rw [hz.2]; exact ho⟩
  exact HandSPX.exc_get I1.kIn J T.ga T.gg T.exC (PySem.W.findObj_own T.hdC T.noN rfl (by rw [hl, hu])) (handed_of ru) ⟨v, H1, I1.tok _, ru, q⟩
end
end L2
end

-- ErrVal
section
set_option Elab.async false
set_option linter.all false
set_option maxRecDepth 100000
set_option maxHeartbeats 2000000
/-! An own error with the field `given`, held as a value. -/
namespace L2
open PySem PySem.Spec PyProof.Rows
/-- an error of the class cls at e, its dict at d -/
def ExG (cls : Value) (e d : Addr) : HO := .ext fun h => ∃ (oe : Obj) (vs : Array Value), h.get? e = some oe ∧ Zc cls (some d) oe ∧ oe.data = .fields vs ∧ vs[1]? = some .none
section
variable {X : Cx} {C fI : Addr} {cn qn : Str} {B newId initId : String} {bt : List Value}
/-- Err(x), as a value -/
theorem pe_mkGiv {a : Expr} {ta : TA} {p pos : Pos} {k : Nat} (Z : PySem.Giv.BaseOk B newId initId bt) (T : PySem.Giv.ErrTxt X.K X.mg cn qn newId bt C fI) (hr : Room k X.A) (ha : PA X [a] ta) (hg : Gl X cn) (hdb : (cn == ("__debug__" : Str)) = false := by decide)
    (he : starEach (a :: []) X.env = (false, eval a X.env) :: starEach [] X.env := by rfl) (hpl : (backTo pos (starEach [] X.env)).any (·.1) = false := by rfl) :
    PE X (.Call (.Name cn p) [a] [] pos) (fun σ H Q => ta σ H fun vs H1 => ∃ v, vs = [v] ∧ ∀ e d, H1 e = none → H1 d = none → d ≠ e → Q (.ref e) (upd (upd H1 d (.xd [(("given" : Str), v)])) e (ExG (.ref C) e d))) := by
  refine ⟨fun pins s σ H Q I h => ?_⟩
  refine wpAny_Call_Name_kw (ld_glob I hg T.gC ?_ hdb)
  refine PySem.W.callWith_K (h₀ := X.base) I.ok.mod.kin T.kC (thn (ha.run pos pins s σ H _ I h) fun us s1 hh => ?_) he hpl
  obtain ⟨vs, H1, I1, r1, v, ev, q1⟩ := hh
  subst ev
  refine ⟨I1.kIn, ?_⟩
  cases r1 with
  | cons rv rn =>
    rename_i v' us'
    cases rn
    show wpAny _ _ (call (.ref C) [v']) _ _ _
    have hlim := I1.nolimit
    obtain ⟨hp, g, dr, tk, os⟩ := s1
    refine wpAny_call (PySem.Giv.giv_made Z T I1.kIn hlim (by have := hr.dp; omega) fun h' tk' e d M => ?_)
    show EP X pins σ Q (.ref e) ⟨h', g, dr, tk', os⟩
    obtain ⟨oe, fv, hoe, hc, hd, hdat, h1⟩ := M.obj
    have hns := M.ns
    obtain ⟨G', g1, g2⟩ := restrict h' fun b => decide (b ≠ e)
    have gk : ∀ b, b ≠ e → G'.get? b = h'.get? b := fun b hb => g1 b (decide_eq_true hb)
    have ge : G'.get? e = none := g2 e (by simp)
    have old : ∀ b o, hp.get? b = some o → G'.get? b = some o := fun b o q => (gk b (Nat.ne_of_lt (Nat.lt_of_lt_of_le (Heap.lt_size q) M.new))).trans (M.keep b o q)
    have ob : ObjOk X.prog X.w (upd H1 d (.xd [(("given" : Str), v)])) G' d (.xd [(("given" : Str), v)]) :=
      ⟨_, hns.at (fun o q => (gk d M.dne).trans q), fun f => relO_giv rv f⟩
    have J : L2.Inv X pins σ (upd H1 d (.xd [(("given" : Str), v)])) ⟨G', g, dr, tk', os⟩ := I1.laid (t' := tk') old M.dbig ob
    have en : (upd H1 d (.xd [(("given" : Str), v)])) e = none := by
      rw [upd_ne (Ne.symm M.dne)]
      exact I1.hok.fresh M.new
    have J2 : L2.Inv X pins σ (upd (upd H1 d (.xd [(("given" : Str), v)])) e (ExG (.ref C) e d)) ⟨h', g, dr, tk', os⟩ := J.laidN (t' := tk') (fun b o q => by
      by_cases hb : b = e
      · rw [hb, ge] at q; cases q
      · exact (gk b hb).symm.trans q) ge en ⟨⟨oe, fv, hoe, ⟨hc, hd⟩, hdat, h1⟩, ⟨oe, hoe⟩, fun _ _ ⟨o, u, q, r⟩ k => ⟨o, u, k o q, r⟩⟩
    exact ⟨.ref e, _, J2, rfl, q1 e d (I1.hok.fresh M.new) (I1.hok.fresh M.dbig) M.dne⟩
/-- err.given, err an error held as a value -/
theorem pe_givVal {e : Expr} {te : TE} {pos : Pos} (T : PySem.Giv.ErrTxt X.K X.mg cn qn newId bt C fI) (he : PE X e te) (hb : attributeBase e "given" X.env (eval e X.env) = eval e X.env := by rfl) :
    PE X (.Attribute e "given" pos) (fun σ H Q => te σ H fun x H1 => ∃ a d v, x = .ref a ∧ H1 a = some (ExG (.ref C) a d) ∧ H1 d = some (.xd [(("given" : Str), v)]) ∧ Q v H1) := by
  refine ⟨fun pins s σ H Q I h => ?_⟩
  refine attr_of hb (thn (he.run pins s σ H _ I h) fun u s1 hh => ?_)
  obtain ⟨x, H1, I1, rx, a, d, v, ex, ea, ed, q⟩ := hh
  subst ex
  obtain rfl : u = Value.ref a := rx
  obtain ⟨⟨oe, vs, ha, hz, hd, h1⟩, _, _⟩ := (show ObjOk X.prog X.w H1 s1.heap a (ExG (.ref C) a d) from I1.hok a _ ea)
  have hx : ObjOk X.prog X.w H1 s1.heap d (.xd [(("given" : Str), v)]) := I1.hok d _ ed
  obtain ⟨mA, hns, hr⟩ := hx
  obtain ⟨od, ho, hl⟩ := lookIn_ns hns
  have l : List.lookup ("given" : Str) [(("given" : Str), v)] = some v := by simp [List.lookup]
  obtain ⟨u, hu, ru⟩ := RelO.some_of (v := v) (o := mA "given") (by rw [← l]; exact hr "given")
  have J : PySem.W.InstAt s1.heap a oe C (some od) := ⟨ha, hz.1, by unfold PySem.W.notCls; rw [hd] <;> rfl, by rw [hz.2]; exact ho⟩
  exact HandSPX.exc_get I1.kIn J T.ga T.gg T.exC (PySem.W.findObj_own T.hdC T.noN rfl (by rw [hl, hu])) (handed_of ru) ⟨v, H1, I1.tok _, ru, q⟩
end
end L2
end

-- ErrVal2
section
set_option Elab.async false
set_option linter.all false
set_option maxRecDepth 100000
/-! isinstance of an error held as a value. -/
namespace L2
open PySem PySem.Spec PyProof.Rows
/-- what is known of the error class at C for isinstance -/
structure KitG (K : PySem.W.Frag) (C : Addr) : Prop where
  ic : PySem.W.isClsIn K C = true
  ga : PySem.W.findIn K (.ref C) "__getattribute__" = some (some (.builtin "BaseException.__getattribute__"))
  gg : ∃ gt, PySem.W.findIn K (.ref C) "__getattr__" = some gt
  ex : PySem.W.subIn K (.ref C) (.type "BaseException") = some true
  ha : PySem.W.findIn K (.ref C) "__class__" = some (some (.builtin "object.__class__"))
  hn : PySem.W.specialIn K (.builtin "object.__class__") "__get__" = some (some (.builtin "getset_descriptor.__get__"))
  htk : PySem.W.takesIn K (.builtin "object.__class__") = some true
  hm : PySem.W.mroIn K C (.type "object") = some true
def rIsiG (K : PySem.W.Frag) : List V → Hp → VK → Prop := fun xs H Q => ∃ (a d C : Addr) (fs : List (Str × V)) (c : V) (u : Value) (b : Bool), xs = [.ref a, c] ∧ H a = some (ExG (.ref C) a d) ∧ H d = some (.xd fs) ∧ KitG K C ∧ ClsV c u ∧ PySem.W.kitOne K (.ref C) u = some b ∧ Q (.bl b) H
theorem call_isiG {X : Cx} : CallR X (.builtin "isinstance") (rIsiG X.K) := by
  intro pins s σ H xs us Q I r h
  obtain ⟨a, d, C, fs, c, u, b, rfl, ea, ed, G, k, e, q⟩ := h
  obtain ⟨u1, u2, rfl, r1, r2⟩ := vals2 r
  cases (show u1 = Value.ref a from r1)
  have e2 := k.eq r2
  subst e2
  obtain ⟨⟨oe, vs, ha, hz, hd, h1⟩, _, _⟩ := (show ObjOk X.prog X.w H s.heap a (ExG (.ref C) a d) from I.hok a _ ea)
  have hx : ObjOk X.prog X.w H s.heap d (.xd fs) := I.hok d _ ed
  obtain ⟨mA, hns, hr⟩ := hx
  obtain ⟨od, ho, hl⟩ := lookIn_ns hns
  have J : PySem.W.InstAt s.heap a oe C (some od) := ⟨ha, hz.1, by unfold PySem.W.notCls; rw [hd] <;> rfl, by rw [hz.2]; exact ho⟩
  obtain ⟨gt, hgt⟩ := G.gg
  exact PySem.W.kia_one (PySem.W.kitx_exc (ox := oe) (od := some od) G.ic G.ga hgt G.ex G.ha G.hn G.htk G.hm) I.kIn J e (fun z => nomatch z) fun tk => ⟨.bl b, H, I.tok tk, rfl, q⟩
end L2
end

-- OwnTry
section
set_option Elab.async false
set_option linter.all false
set_option maxRecDepth 100000
/-! Calls whose exception is wished for at just these slots; isinstance of a held error with a dict. -/
namespace OwnTry
open PySem L2
/-- W at the slots σ -/
def EA (W : WX) (σ : L2.St) : XK := fun cls d H' => W cls d σ H'
section
variable {X : Cx} {k : Nat} {f C : Addr} {fd : FuncData} {ps : List Str} {sp : Sp} {dvs : List V} {ds : List Value} {W : WX} {x m : Str} {p pos apos : Pos} {e o : Expr} {es : List Expr} {ta : TE} {t : TA}
theorem out_at {pins : List (Addr × Obj)} {σ : L2.St} {H : Hp} {s : Shared} (tk : Takes X W) (I : L2.Inv X pins σ H s) {u : Value} {s' : Shared} (c : L2.CX X.prog X.w X.stack H s (EA W σ) u s') : X.xe u s' :=
  tk _ _ (XE.of_call I (fun _ _ _ z => z) c)
/-- a def called, W wished for if it raises -/
theorem run_at {A : Around} {pins : List (Addr × Obj)} {σ : L2.St} {H : Hp} {s : Shared} {Q : VK} {us : List Value} {vs : List V} (F : FnOk X.prog X.w X.K X.mg X.base (L2.CX X.prog X.w) k f fd ps sp) (room : Room k A)
    (e0 : Env0 X.prog X.w X.K X.mg X.base A X.stack s H) (bi : L2.Binds X.K fd ps ds) (dv : Vals dvs ds) (tk : Takes X W)
    (I : L2.Inv X pins σ H s) (rel : Vals vs us) (h : sp (vs ++ dvs) H Q (EA W σ)) : wpAny (model X.prog X.w) A (call (.ref f) us) (EP X pins σ Q) X.xe s := by
  have both := rel.append dv
  have size : (us ++ ds).length = ps.length := both.length.symm.trans (F.len _ _ _ _ h)
  have body := F.run A X.stack s H ⟨us, []⟩ (us ++ ds) (vs ++ dvs) Q (EA W σ) room e0 (bi s us I.kIn size) both h
  refine wpAny_call (codeAny_mono body fun res s' got => ?_)
  match res, got with
  | .error u, got => exact out_at tk I got
  | .ok (.ret u), got => exact I.after got
  | .ok .next, got => exact got.elim
  | .ok .brk, got => exact got.elim
  | .ok .cont, got => exact got.elim
/-- o.m(e, ..) in a try -/
def tMethA (C : Addr) (m : Str) (sp : Sp) (dvs : List V) (W : WX) (ta : TE) (t : TA) : TE := fun σ H Q => ta σ H fun x H1 => ∃ a dx fs, x = .ref a ∧ H1 a = some (.ins C dx fs) ∧ fs.lookup m = none ∧ t σ H1 fun vs H2 => sp (.ref a :: (vs ++ dvs)) H2 Q (EA W σ)
theorem pe_methA {pl : Sem Bool} (he : PE X o ta) (c : Cls X.K C) (hm : Meth X.K C m f) (F : FnOk X.prog X.w X.K X.mg X.base (L2.CX X.prog X.w) k f fd ps sp) (room : Room k X.A) (bi : L2.Binds X.K fd ps ds) (dv : Vals dvs ds) (tk : Takes X W) (ha : PA X (e :: es) t)
    (hst : starEach (e :: es) X.env = (false, eval e X.env) :: starEach es X.env := by rfl) (hpl : (backTo pos (starEach es X.env)).any (·.1) = false := by rfl)
    (ht : eval (.Call (.Attribute o m apos) (e :: es) [] pos) X.env = (do
      let ov ← eval o X.env
      standAt apos.atName
      let (f, first) ← holding [ov] (getMethod ov m pl)
      callWith pos f first (backTo pos (starEach (e :: es) X.env)) (backToKw pos (keywordEach [] X.env))) := by rfl) :
    PE X (.Call (.Attribute o m apos) (e :: es) [] pos) (tMethA C m sp dvs W ta t) := by
  refine ⟨fun pins s σ H Q I h => ?_⟩
  refine PySem.W.methodCall_KW (pl := pl) (thn (he.run pins s σ H _ I h) fun u s1 hh => ?_) ht
  obtain ⟨x, H1, I1, rx, a, dx, fs, ex, ea, l, q⟩ := hh
  subst ex
  obtain rfl : u = Value.ref a := rx
  refine getmeth_ok I1 ea c hm l ?_
  refine PySem.W.callWith_K (first := [.ref a]) (h₀ := X.base) I.ok.mod.kin hm.kp (thn (ha.run pos pins s1 σ H1 _ I1 q) fun us s2 h2 => ?_) hst hpl
  obtain ⟨vs, H2, I2, r, q2⟩ := h2
  exact ⟨I2.kIn, run_at (us := .ref a :: us) (vs := .ref a :: vs) F room I2.env0 bi dv tk I2 (.cons rfl r) q2⟩
end
/-- isinstance(e, c), e the error with a dict that the suite holds -/
def rIsiH (K : PySem.W.Frag) (a : Addr) (cls : Value) (d : Option Addr) : List V → Hp → VK → Prop := fun xs H Q => ∃ (C dd : Addr) (fs : List (Str × V)) (c : V) (u : Value) (b : Bool),
  xs = [.ref a, c] ∧ cls = .ref C ∧ d = some dd ∧ H dd = some (.xd fs) ∧ KitG K C ∧ ClsV c u ∧ PySem.W.kitOne K (.ref C) u = some b ∧ Q (.bl b) H
theorem call_isiH {X : Cx} {a : Addr} {oe : Obj} {cls : Value} {d : Option Addr} {pn : List (Addr × Obj)} (hz : Zc cls d oe) (hf : ∃ vs, oe.data = .fields vs) : CallR (X.suite a ((a, oe) :: pn)) (.builtin "isinstance") (rIsiH X.K a cls d) := by
  intro pins s σ H xs us Q I r h
  obtain ⟨C, dd, fs, c, u, b, rfl, rfl, rfl, ed, G, k, e, q⟩ := h
  obtain ⟨u1, u2, rfl, r1, r2⟩ := vals2 r
  cases (show u1 = Value.ref a from r1)
  have e2 := k.eq r2
  subst e2
  obtain ⟨ha, _⟩ := I.pin (a, oe) (List.mem_append_left _ List.mem_cons_self)
  obtain ⟨vs, hd⟩ := hf
  have hx : ObjOk X.prog X.w H s.heap dd (.xd fs) := I.hok dd _ ed
  obtain ⟨mA, hns, hr⟩ := hx
  obtain ⟨od, ho, hl⟩ := lookIn_ns hns
  have J : PySem.W.InstAt s.heap a oe C (some od) := ⟨ha, hz.1, by unfold PySem.W.notCls; rw [hd] <;> rfl, by rw [hz.2]; exact ho⟩
  obtain ⟨gt, hgt⟩ := G.gg
  exact PySem.W.kia_one (PySem.W.kitx_exc (ox := oe) (od := some od) G.ic G.ga hgt G.ex G.ha G.hn G.htk G.hm) I.kIn J e (fun z => nomatch z) fun tk => ⟨.bl b, H, I.tok tk, rfl, q⟩
end OwnTry
end

-- Gen1
section
set_option Elab.async false
set_option linter.all false
set_option maxRecDepth 100000
/-! what every law's text wants again. -/
namespace G1
open PySem L2 OwnOps
theorem if_pos' {c : Bool} {A B : Prop} (hc : c = true) (h : A) : if c = true then A else B := by
  rw [if_pos hc]
  exact h
theorem if_neg' {c : Bool} {A B : Prop} (hc : c = false) (h : B) : if c = true then A else B := by
  rw [hc, if_neg Bool.false_ne_true]
  exact h
theorem same_upd {H : Hp} {p : Addr} {o : HO} (h : H p = none) : Same H (upd H p o) := fun b u e => by
  rw [upd_ne (ne_of_none e h)]
  exact e
theorem same_put {H G : Hp} {D : Addr} {o : HO} (s : Same H G) (h : H D = none) : Same H (upd G D o) := fun b u e => by
  rw [upd_ne (ne_of_none e h)]
  exact s b u e
/-- a new instance in making -/
theorem same_new {H : Hp} {x dx C : Addr} (hx : H x = none) (hd : H dx = none) : Same H (upd (upd H dx (.own x)) x (.ins C dx [])) := fun b u e => by
  rw [upd_ne (ne_of_none e hx), upd_ne (ne_of_none e hd)]
  exact e
/-- all stands but at l -/
def SameX (l : Addr) (H H' : Hp) : Prop := ∀ b u, b ≠ l → H b = some u → H' b = some u
theorem SameX.refl (l : Addr) (H : Hp) : SameX l H H := fun _ _ _ e => e
theorem SameX.trans {l : Addr} {H H1 H2 : Hp} (a : SameX l H H1) (b : SameX l H1 H2) : SameX l H H2 := fun c o n h => b c o n (a c o n h)
theorem SameX.of {l : Addr} {H H' : Hp} (a : Same H H') : SameX l H H' := fun c o _ h => a c o h
theorem SameX.upd {l : Addr} {H : Hp} {o : HO} : SameX l H (upd H l o) := fun c u n h => by
  rw [upd_ne n]
  exact h
theorem SameX.put {l a : Addr} {H H1 : Hp} {o : HO} (s : SameX l H H1) (h : H1 a = none) : SameX l H (L2.upd H1 a o) := fun c u n e => by
  rw [upd_ne (ne_of_none (s c u n e) h)]
  exact s c u n e
theorem same_made {H H' : Hp} {C x dx : Addr} (hx : H x = none) (hd : H dx = none) (sx : SameX x (upd (upd H dx (.own x)) x (.ins C dx [])) H') : Same H H' := fun b u e =>
  sx b u (ne_of_none e hx) (same_new hx hd b u e)
/-- a def of the module, called by its name -/
structure Glb (P : Program) (w : World) (K : PySem.W.Frag) (mg : Str → Option Value) (base : Heap) (x : Str) (k : Nat) (ps : List Str) (sp : Sp) : Prop where
  ex : ∃ (f : Addr) (fd : FuncData), mg x = some (.ref f) ∧ PySem.W.keepIn K (.ref f) = true ∧ FnOk P w K mg base (L2.CX P w) k f fd ps sp ∧ L2.Binds K fd ps []
/-- a method of the class, by its name -/
structure Dun (P : Program) (w : World) (K : PySem.W.Frag) (mg : Str → Option Value) (base : Heap) (C : Addr) (nm : Str) (k : Nat) (ps : List Str) (sp : Sp) : Prop where
  ex : ∃ (f : Addr) (fd : FuncData), PySem.W.findIn K (.ref C) nm = some (some (.ref f)) ∧ PySem.W.isFn K (.ref f) = true ∧ PySem.W.keepIn K (.ref f) = true ∧ FnOk P w K mg base (L2.CX P w) k f fd ps sp ∧ L2.Binds K fd ps []
section
variable {prog : Program} {w : World} {A : Around} {E : Value → Shared → Prop} {s : Shared}
theorem eqBool_rc {l : Addr} {v : Value} {Q : Bool → Shared → Prop} (ne : (Value.ref l == v) = false)
    (h : wpAny (model prog w) A (richCompare .Eq (.ref l) v) (fun x s' => ∃ r, x = .bool r ∧ Q r s') E s) : wpAny (model prog w) A (eqBool (.ref l) v) Q E s := by
  unfold eqBool
  refine wpAny_holding (wpAny_ite_split (fun z => absurd z (by rw [ne]; decide)) fun _ => wpAny_bind (wpAny_mono h ?_ fun _ _ x => x))
  rintro x s' ⟨r, rfl, q⟩
  exact wpAny_truthy_bool q
end
abbrev Fs := List (Str × V)
theorem putF_ne {n m : Str} {x y : V} {r : Fs} (h : ¬ m = n) : putF n y ((m, x) :: r) = (m, x) :: putF n y r := by
  show (if m = n then _ else _) = _
  rw [if_neg h] <;> rfl
theorem putF_eq {n : Str} {x y : V} {r : Fs} : putF n y ((n, x) :: r) = (n, y) :: r := by
  show (if n = n then _ else _) = _
  rw [if_pos rfl] <;> rfl
theorem lk_cons {n m : Str} {v : V} {l : List (Str × V)} (h : ¬ m = n) : ((m, v) :: l).lookup n = l.lookup n := by
  rw [List.lookup_cons, beq_false_of_ne (fun e => h e.symm)] <;> rfl
theorem lk_here {n : Str} {v : V} {l : List (Str × V)} : ((n, v) :: l).lookup n = some v := by
  rw [List.lookup_cons, beq_self_eq_true] <;> rfl
/-- all so far were true -/
def AllI (H : Hp) (D : Addr) (j : Nat) : Hp → Prop := fun G => Same H G ∧ G D = some (.lst ((List.replicate j true).map V.bl))
theorem all0 {H : Hp} {D : Addr} (h : H D = none) : AllI H D 0 (upd H D (.lst [])) := ⟨same_upd h, upd_same⟩
theorem AllI.step {H G G' : Hp} {D : Addr} {j : Nat} (i : AllI H D j G) (h : H D = none) (s : Same G G') : G' D = some (.lst ((List.replicate j true).map V.bl)) ∧ AllI H D (j + 1) (upd G' D (.lst ((List.replicate j true).map V.bl ++ [.bl true]))) := by
  refine ⟨s _ _ i.2, same_put (i.1.trans s) h, ?_⟩
  rw [upd_same, List.replicate_succ', List.map_append]
  rfl
theorem rep_len {j : Nat} (h : j < sizeLine) : ((List.replicate j true).map V.bl).length < sizeLine := by
  rw [List.length_map, List.length_replicate]
  exact h
theorem rep_all (j : Nat) : (List.replicate j true).all id = true := by
  rw [List.all_eq_true]
  intro x h
  rw [(List.mem_replicate.mp h).2]
  rfl
theorem map_at {xs : List Str} {j : Nat} {x : V} (h : (xs.map V.str)[j]? = some x) : ∃ t, xs[j]? = some t ∧ x = .str t := by
  rw [List.getElem?_map] at h
  cases e : xs[j]? with
  | none => rw [e] at h; cases h
  | some t =>
    rw [e] at h
    cases h
    exact ⟨t, rfl, rfl⟩
theorem yes_go {σ : L2.St} {H : Hp} {Q : Bool → Hp → Prop} (h : Q true H) : tYes σ H Q := h
end G1
end

-- EqDict
section
set_option Elab.async false
set_option linter.all false
set_option maxRecDepth 100000
/-! == of two dicts with flat values, whatever comes of it; of lists of such dicts. -/
namespace EqDict
open PySem L2 PySem.W OwnNe
abbrev Ent := List (Key × V)
/-- the same entries -/
def at1 (ls : Ent) (p : Key × V) : Bool := match valV ls p.1 with
  | none => false
  | some y => eqV p.2 y
def dEq (ks ls : Ent) : Bool := (ks.length == ls.length) && ks.all (at1 ls)
def Flt (ks : Ent) : Prop := ∀ p ∈ ks, flatV p.2 = true
theorem valV_mem {ls : Ent} {k : Key} {y : V} (h : valV ls k = some y) : ∃ p ∈ ls, p.2 = y := by
  unfold valV at h
  cases e : ls.find? (fun p => p.1 = k) with
  | none => rw [e] at h; cases h
  | some p =>
    rw [e] at h
    cases h
    exact ⟨p, List.mem_of_find?_eq_some e, rfl⟩
theorem hits {A : Around} {s : Shared} {ls : Ent} {vb : List (Key × Value)} (rb : KV ls vb) (fl : Flt ls) : ∀ {ks : Ent} {va : List (Key × Value)}, KV ks va → Flt ks →
    KeqHits A s vb va (ks.all (at1 ls))
  | _, _, .nil, _ => .nil
  | (k, x) :: ks, (k', u) :: va, .cons r t, f => by
    obtain ⟨r1, r2⟩ := r
    cases (show k = k' from r1)
    have rest := hits (A := A) (s := s) rb fl t fun p h => f p (List.mem_cons_of_mem _ h)
    rw [List.all_cons]
    unfold at1
    dsimp only
    have ro : RelO (valV ls k) (valueAt vb k) := rb.val k
    cases e : valV ls k with
    | none =>
      rw [e] at ro
      exact .miss (RelO.none_of ro)
    | some y =>
      rw [e] at ro
      obtain ⟨v, hv, rv⟩ := ro.some_of
      obtain ⟨p, hp, rfl⟩ := valV_mem e
      exact .hit hv (eqAt_V r2 rv (f _ List.mem_cons_self) (fl p hp)) rest
section
variable {X : Cx}
def rEqD (neg : Bool) : R2 := fun x y H Q => ∃ a b ks ls, x = .ref a ∧ y = .ref b ∧ Rd H a (.dK ks) ∧ Rd H b (.dK ls) ∧ Flt ks ∧ Flt ls ∧ Q (.bl (if neg then !dEq ks ls else dEq ks ls)) H
theorem op_eqDT (hu : X.A.units < cLine) : OpR X (compareOp .Eq) (rEqD false) := by
  intro pins s σ H x y v u Q I rx ry h
  obtain ⟨a, b, ks, ls, rfl, rfl, ea, eb, f1, f2, q⟩ := h
  cases rx
  cases ry
  obtain ⟨_, ya, va, ra, da⟩ := dk_rd I.hok ea
  obtain ⟨_, yb, vb, rb, db⟩ := dk_rd I.hok eb
  refine keq_eq (knd := mixKind X.prog X.w) ya yb da db hu (fun _ => hits rb f2 ra f1) ⟨.bl (dEq ks ls), H, I, ?_, q⟩
  unfold dEq
  rw [show ks.length = va.length from Paired.length ra, show ls.length = vb.length from Paired.length rb]
  rfl
theorem op_neDT (hu : X.A.units < cLine) : OpR X (compareOp .NotEq) (rEqD true) := by
  intro pins s σ H x y v u Q I rx ry h
  obtain ⟨a, b, ks, ls, rfl, rfl, ea, eb, f1, f2, q⟩ := h
  cases rx
  cases ry
  obtain ⟨_, ya, va, ra, da⟩ := dk_rd I.hok ea
  obtain ⟨_, yb, vb, rb, db⟩ := dk_rd I.hok eb
  refine keq_ne (knd := mixKind X.prog X.w) ya yb da db hu (fun _ => hits rb f2 ra f1) ⟨.bl (!dEq ks ls), H, I, ?_, q⟩
  unfold dEq
  rw [show ks.length = va.length from Paired.length ra, show ls.length = vb.length from Paired.length rb]
  rfl
/-- two dicts, apart -/
def DD : V → V → Hp → Bool → Prop := fun x y H r => ∃ a b ks ls, x = .ref a ∧ y = .ref b ∧ a ≠ b ∧ H a = some (.dK ks) ∧ H b = some (.dK ls) ∧ Flt ks ∧ Flt ls ∧ r = dEq ks ls
theorem mon_DD : ∀ x y H H' b, Ext H H' → DD x y H b → DD x y H' b := fun _ _ _ _ _ e ⟨a, b, ks, ls, h1, h2, n, h3, h4, r⟩ => ⟨a, b, ks, ls, h1, h2, n, e _ _ h3, e _ _ h4, r⟩
theorem eqB_DD : EqB X 1 DD := by
  intro A pins s σ H x y u v r sb I rx ry d
  obtain ⟨a, b, ks, ls, rfl, rfl, ne, ea, eb, f1, f2, rfl⟩ := d
  cases rx
  cases ry
  refine G1.eqBool_rc (beq_eq_false_iff_ne.mpr fun z => ne (Value.ref.inj z)) ?_
  obtain ⟨_, ya, va, ra, da⟩ := dk_rd I.hok (.inl ea)
  obtain ⟨_, yb, vb, rb, db⟩ := dk_rd I.hok (.inl eb)
  refine keq_eq (knd := mixKind X.prog X.w) ya yb da db sb.room.units0 (fun _ => hits rb f2 ra f1) ⟨_, rfl, ?_, H, I, Ext.rfl'⟩
  unfold dEq
  rw [show ks.length = va.length from Paired.length ra, show ls.length = vb.length from Paired.length rb]
end
end EqDict
end

-- OwnInv
section
set_option Elab.async false
set_option linter.all false
set_option maxRecDepth 100000
/-! own ~x and len(x). -/
namespace OwnOps
open PySem L2
section
variable {X : Cx} {CX : CXT} {C g f : Addr} {k : Nat} {fd : FuncData} {ps : List Str} {sp : Sp} {E : XK}
theorem inv_own (hs : PySem.W.findIn X.K (.ref C) "__invert__" = some (some (.ref g))) (hf : PySem.W.isFn X.K (.ref g) = true) (F : FnOk X.prog X.w X.K X.mg X.base CX k g fd ps sp) (hr : Room k X.A) (hb : Binds X.K fd ps []) (hx : Passes CX X E) :
    UnR X (unaryOp .Invert) (rOwn1 C sp E fun _ => True) := by
  intro pins s σ H x v Q I rx ⟨a, dx, fs, e, ha, q⟩
  subst e
  cases (show v = Value.ref a from rx)
  obtain ⟨od, J⟩ := inst_at I ha
  obtain ⟨m, hF⟩ := I.fr
  refine PySem.W.ksp_inv hF I.ok.mod.kin J hs hf (wpAny_mono (run_any (us := [.ref a]) (vs := [.ref a]) F hr I.env0 hb hx I (.cons rfl .nil) q) (fun w s' ⟨z', H', I', rz, _, qz⟩ => ⟨z', H', I', rz, qz⟩) fun _ _ e => e)
/-- len(x) by x's own def -/
def rLenO (C : Addr) (sp : Sp) (E : XK) : List V → Hp → VK → Prop := fun xs H Q => ∃ a dx fs, xs = [.ref a] ∧ H a = some (.ins C dx fs) ∧ sp [.ref a] H (fun v H' => ∃ n : Int, v = .int n ∧ 0 ≤ n ∧ n < 2 ^ 63 ∧ Q (.int n) H') E
theorem call_lenO (hs : PySem.W.findIn X.K (.ref C) "__len__" = some (some (.ref g))) (hf : PySem.W.isFn X.K (.ref g) = true) (F : FnOk X.prog X.w X.K X.mg X.base CX k g fd ps sp) (hr : Room (k + 1) X.A) (hb : Binds X.K fd ps []) (hx : Passes CX X E) :
    CallR X (.builtin "len") (rLenO C sp E) := by
  intro pins s σ H xs us Q I rx ⟨a, dx, fs, e, ha, q⟩
  subst e
  obtain ⟨u, rfl, ru⟩ := vals1 rx
  cases (show u = Value.ref a from ru)
  obtain ⟨od, J⟩ := inst_at I ha
  obtain ⟨m, hF⟩ := I.fr
  refine PySem.W.len_K hF I.ok.mod.kin J hs hf (wpAny_mono (run_any (us := [.ref a]) (vs := [.ref a]) F hr.in1 I.env0.in1 hb hx I (.cons rfl .nil) q) (fun w s' ⟨z', H', I', rz, n, e, n0, n1, qz⟩ => ?_) fun _ _ e => e)
  subst e
  obtain ⟨t, rfl⟩ := rz
  exact ⟨⟨n0, n1⟩, .int n, H', I'.tok _, ⟨_, rfl⟩, qz⟩
end
end OwnOps
end

-- M6m
section
set_option Elab.async false
set_option linter.all false
set_option maxRecDepth 100000
/-! maps of texts to texts. -/
namespace R6
open PySem L2 SortStr EqDict
abbrev Mp := List (Str × Str)
def dS (m : Mp) : Ent := m.map fun p => (Sum.inr p.1, V.str p.2)
abbrev ks (m : Mp) : List Str := m.map (·.1)
abbrev vs (m : Mp) : List Str := m.map (·.2)
structure One (m : Mp) : Prop where
  kn : (ks m).Nodup
  vn : (vs m).Nodup
  few : m.length ≤ 1000
theorem dS_keys (m : Mp) : (dS m).map (·.1) = (ks m).map Sum.inr := by
  unfold dS ks
  rw [List.map_map, List.map_map]
  rfl
theorem dS_kV (m : Mp) : (dS m).map (fun p => kV p.1) = (ks m).map V.str := by
  unfold dS ks
  rw [List.map_map, List.map_map]
  rfl
theorem dS_vals (m : Mp) : (dS m).map (·.2) = (vs m).map V.str := by
  unfold dS vs
  rw [List.map_map, List.map_map]
  rfl
theorem dS_len (m : Mp) : (dS m).length = m.length := List.length_map _
theorem dS_flt (m : Mp) : Flt (dS m) := fun p h => by
  obtain ⟨q, _, rfl⟩ := List.mem_map.mp h
  rfl
theorem One.line {m : Mp} (o : One m) : (dS m).length ≤ sizeLine := by
  rw [dS_len]
  exact Nat.le_trans o.few (by decide)
/-- what stands at k -/
def at_ (m : Mp) (k : Str) : Option Str := (m.find? fun p => decide (p.1 = k)).map (·.2)
theorem dS_at (m : Mp) (k : Str) : valV (dS m) (Sum.inr k) = (at_ m k).map V.str := by
  unfold valV at_ dS
  rw [List.find?_map, Option.map_map, Option.map_map]
  have e : ((fun kv : Key × V => decide (kv.1 = Sum.inr k)) ∘ fun p : Str × Str => ((Sum.inr p.1 : Key), V.str p.2)) = fun p => decide (p.1 = k) := by
    funext p
    show decide ((Sum.inr p.1 : Key) = Sum.inr k) = _
    exact decide_eq_decide.mpr ⟨fun h => Sum.inr.inj h, fun h => by rw [h]⟩
  rw [e]
  rfl
theorem at_mem {m : Mp} (h : (ks m).Nodup) {p : Str × Str} (hp : p ∈ m) : at_ m p.1 = some p.2 := by
  unfold at_
  induction m with
  | nil => cases hp
  | cons q r ih =>
    obtain ⟨h1, h2⟩ := List.nodup_cons.mp (show (q.1 :: ks r).Nodup from h)
    rw [List.find?_cons]
    by_cases e : q.1 = p.1
    · rcases List.mem_cons.mp hp with rfl | hm
      · rw [decide_eq_true rfl] <;> rfl
      · exact absurd (List.mem_map.mpr ⟨p, hm, e.symm⟩) h1
    · rw [decide_eq_false e]
      rcases List.mem_cons.mp hp with rfl | hm
      · exact absurd rfl e
      · exact ih h2 hm
theorem at_none {m : Mp} {k : Str} (h : k ∉ ks m) : at_ m k = none := by
  unfold at_
  rw [List.find?_eq_none.mpr] <;> first | rfl | skip
  intro p hp z
  exact h (List.mem_map.mpr ⟨p, hp, of_decide_eq_true z⟩)
theorem at_some {m : Mp} {k v : Str} (h : at_ m k = some v) : (k, v) ∈ m := by
  unfold at_ at h
  cases e : m.find? fun p => decide (p.1 = k) with
  | none => rw [e] at h; cases h
  | some p =>
    rw [e] at h
    cases h
    have := List.find?_some e
    rw [← of_decide_eq_true this]
    exact List.mem_of_find?_eq_some e
theorem at_key {m : Mp} {k : Str} (h : k ∈ ks m) : ∃ v, at_ m k = some v ∧ (k, v) ∈ m := by
  obtain ⟨p, hp, rfl⟩ := List.mem_map.mp h
  cases e : at_ m p.1 with
  | none =>
    unfold at_ at e
    rw [Option.map_eq_none_iff, List.find?_eq_none] at e
    exact absurd (decide_eq_true rfl) (e p hp)
  | some v => exact ⟨v, rfl, at_some e⟩
theorem dS_put {m : Mp} {k v : Str} (h : k ∉ ks m) : putK (dS m) (Sum.inr k) (.str v) = dS (m ++ [(k, v)]) := by
  unfold putK
  rw [if_neg]
  · unfold dS
    rw [List.map_append]
    rfl
  · intro z
    obtain ⟨q, hq, e⟩ := List.any_eq_true.mp z
    obtain ⟨p, hp, rfl⟩ := List.mem_map.mp hq
    exact h (List.mem_map.mpr ⟨p, hp, Sum.inr.inj (of_decide_eq_true e)⟩)
/-- m, then l -/
def thn (m l : Mp) : Mp := m.map fun p => (p.1, (at_ l p.2).getD Str.empty)
def inv (m : Mp) : Mp := m.map fun p => (p.2, p.1)
def isId (m : Mp) : Bool := m.all fun p => decide (p.1 = p.2)
theorem ks_inv (m : Mp) : ks (inv m) = vs m := by
  unfold inv
  rw [show ks (m.map fun p => (p.2, p.1)) = vs m from List.map_map ..]
theorem vs_inv (m : Mp) : vs (inv m) = ks m := by
  unfold inv
  rw [show vs (m.map fun p => (p.2, p.1)) = ks m from List.map_map ..]
theorem ks_thn (m l : Mp) : ks (thn m l) = ks m := List.map_map ..
theorem One.inv {m : Mp} (o : One m) : One (inv m) := ⟨by rw [ks_inv]; exact o.vn, by rw [vs_inv]; exact o.kn, by rw [show (R6.inv m).length = m.length from List.length_map _]; exact o.few⟩
/-- l begins where m ends -/
def Fol (m l : Mp) : Prop := (vs m).Perm (ks l)
theorem at_inj {l : Mp} (o : One l) {a b : Str} (ha : a ∈ ks l) (hb : b ∈ ks l) (e : (at_ l a).getD Str.empty = (at_ l b).getD Str.empty) : a = b := by
  obtain ⟨x, hx, mx⟩ := at_key ha
  obtain ⟨y, hy, my⟩ := at_key hb
  rw [hx, hy] at e
  have e : x = y := e
  subst e
  obtain ⟨i, hi, ei⟩ := List.getElem_of_mem mx
  obtain ⟨j, hj, ej⟩ := List.getElem_of_mem my
  have vi : (vs l)[i]'(by rw [List.length_map]; exact hi) = x := by rw [List.getElem_map, ei]
  have vj : (vs l)[j]'(by rw [List.length_map]; exact hj) = x := by rw [List.getElem_map, ej]
  have ij := (List.getElem_inj o.vn).mp (vi.trans vj.symm)
  subst ij
  rw [ei] at ej
  exact (Prod.mk.inj ej).1
theorem One.thn {m l : Mp} (o : One m) (ol : One l) (f : Fol m l) : One (thn m l) := by
  refine ⟨by rw [ks_thn]; exact o.kn, ?_, by rw [show (R6.thn m l).length = m.length from List.length_map _]; exact o.few⟩
  have e : vs (R6.thn m l) = (vs m).map fun v => (at_ l v).getD Str.empty := by
    unfold R6.thn vs
    rw [List.map_map, List.map_map]
    rfl
  rw [e]
  refine List.Pairwise.map _ (fun a b h => h) (List.Pairwise.imp_of_mem (fun {a b} ha hb ne z => ?_) o.vn)
  exact ne (at_inj ol (f.mem_iff.mp ha) (f.mem_iff.mp hb) z)
end R6
end

-- TupSet
section
set_option Elab.async false
set_option linter.all false
set_option maxRecDepth 100000
/-! Sets of tuples whose items are carried by value (texts, ints): over the tables of HandS.TupSets. -/
namespace GS
open PySem PySem.Spec PyProof.Rows L2
/-- a value that neither hashes nor compares by code -/
structure Dull (v : Value) : Prop where
  cls : ∀ n, ofAClassStatement n v = pure false
  val : ∀ n, ∃ b, hashByValue n v = pure b
theorem dull_int (i : Int) (t : Tok) : Dull (.int i t) := ⟨fun n => by cases n <;> rfl, fun n => ⟨true, by cases n <;> rfl⟩⟩
theorem dull_str (x : Str) (t : Tok) : Dull (.str x t) := ⟨fun n => by cases n <;> rfl, fun n => ⟨false, by cases n <;> rfl⟩⟩
section
variable {P : Program} {w : World} {K : Type} [DecidableEq K] {knd : KeyKind P w K} {A : Around} {E : Value → Shared → Prop} {s : Shared}
def Dulls (knd : KeyKind P w K) : Prop := ∀ k v, knd.is k v = true → Dull v
theorem items_dull (D : Dulls knd) {ks : List K} {vs : List Value} (h : ItemsAre knd ks vs) : ∀ v ∈ vs, Dull v := by
  induction h with
  | nil => exact fun _ m => nomatch m
  | cons h1 _ ih => exact fun v m => (List.mem_cons.mp m).elim (fun e => by rw [e]; exact D _ _ h1) (ih v)
theorem tup_cls (D : Dulls knd) {ks : List K} {b : Addr} {Q : Bool → Shared → Prop} (hb : IsTupleKey knd s.heap ks b) (q : Q false s) : wpAny (model P w) A (ofAClassStatement 8 (.ref b)) Q E s := by
  have ty := hb.typeIs
  obtain ⟨o, its, n, o1, _, o2, o3⟩ := hb
  unfold ofAClassStatement
  refine wpAny_bind (wpAny_typeOf ty ?_)
  dsimp only
  simp only [show (("tuple" : String) == "tuple") = true from by decide, if_true, Bool.not_true, Bool.false_eq_true, if_false]
  try refine wpAny_bind (wpAny_pure ?_)
  try simp only [Bool.not_true, Bool.false_eq_true, if_false]
  show wpAny _ _ (seqItems? (.ref b) >>= _) _ _ s
  refine wpAny_bind (wpAny_seqItems o1 o2 ?_)
  dsimp only
  refine wpAny_bind ?_
  show wpAny _ _ (forIn its _ _) _ _ s
  rw [← Array.forIn_toList]
  refine wpAny_forIn_list _ (fun left r z => r.1 = none ∧ z = s ∧ ∀ v ∈ left, Dull v) _ ?_ ?_ _ _ ⟨rfl, rfl, items_dull D o3⟩
  · rintro v left r z ⟨e1, rfl, all⟩
    rw [(all v List.mem_cons_self).cls]
    refine wpAny_bind (wpAny_pure ?_)
    simp only [Bool.false_eq_true, if_false]
    exact wpAny_pure ⟨rfl, rfl, fun u m => all u (List.mem_cons_of_mem _ m)⟩
  · rintro ⟨r1, r2⟩ z ⟨e1, rfl, _⟩
    simp only at e1
    subst e1
    exact wpAny_pure q
theorem tup_val (D : Dulls knd) {ks : List K} {b : Addr} {Q : Bool → Shared → Prop} (hb : IsTupleKey knd s.heap ks b) (q : ∀ z, Q z s) : wpAny (model P w) A (hashByValue 8 (.ref b)) Q E s := by
  have ty := hb.typeIs
  obtain ⟨o, its, n, o1, _, o2, o3⟩ := hb
  unfold hashByValue
  refine wpAny_bind (wpAny_specialOf ty F.slot_tuple_hash.lookup ?_)
  show wpAny _ _ (seqItems? (.ref b) >>= _) _ _ s
  refine wpAny_bind (wpAny_seqItems o1 o2 (wpAny_bind ?_))
  show wpAny _ _ (forIn its _ _) _ _ s
  rw [← Array.forIn_toList]
  refine wpAny_forIn_list _ (fun left r z => z = s ∧ ∀ v ∈ left, Dull v) _ ?_ ?_ _ _ ⟨rfl, items_dull D o3⟩
  · rintro v left r z ⟨rfl, all⟩
    obtain ⟨b, e⟩ := (all v List.mem_cons_self).val 7
    rw [e]
    refine wpAny_bind (wpAny_pure ?_)
    cases b with
    | true =>
      simp only [Bool.not_true, Bool.false_eq_true, if_false]
      exact wpAny_pure ⟨rfl, fun u m => all u (List.mem_cons_of_mem _ m)⟩
    | false =>
      simp only [Bool.not_false, if_true]
      exact wpAny_pure (wpAny_pure (q _))
  · rintro ⟨r1, r2⟩ z ⟨rfl, _⟩
    cases r1 with
    | none => exact wpAny_pure (q _)
    | some b => exact wpAny_pure (q _)
/-- a search among such tuples is seen by nobody -/
theorem tup_seen (D : Dulls knd) {ks : List K} {b : Addr} {Q : Bool → Shared → Prop} (hb : IsTupleKey knd s.heap ks b) {ys : List Value} (hy : ∀ y ∈ ys, ∃ k c, y = Value.ref c ∧ IsTupleKey knd s.heap k c) (q : Q false s) :
    wpAny (model P w) A (searchCouldBeSeen (.ref b) ys) Q E s := by
  unfold searchCouldBeSeen
  refine wpAny_bind ?_
  refine wpAny_forIn_list _ (fun left r z => r.1 = none ∧ z = s ∧ ∀ y ∈ left, ∃ k c, y = Value.ref c ∧ IsTupleKey knd s.heap k c) _ ?_ ?_ _ _ ⟨rfl, rfl, hy⟩
  · rintro v left r z ⟨e1, rfl, all⟩
    obtain ⟨k', c, rfl, hc⟩ := all v List.mem_cons_self
    have more : ∀ y ∈ left, ∃ k c, y = Value.ref c ∧ IsTupleKey knd z.heap k c := fun u m => all u (List.mem_cons_of_mem _ m)
    dsimp only
    by_cases hv : (b == c || (carriedByValue (.ref b) && carriedByValue (.ref c))) = true
    · exact wp_if_pos hv (wpAny_pure ⟨rfl, rfl, more⟩)
    · refine wp_if_neg hv (wpAny_bind (wpAny_eqIsQuiet_tuple hb ?_))
      simp only [Bool.not_true, Bool.false_eq_true, if_false]
      refine wpAny_bind (wpAny_eqIsQuiet_tuple hc ?_)
      simp only [Bool.not_true, Bool.false_eq_true, if_false]
      refine wpAny_bind (tup_cls D hb ?_)
      simp only [Bool.false_eq_true, if_false]
      refine wpAny_bind (tup_cls D hc ?_)
      simp only [Bool.false_eq_true, if_false]
      exact wpAny_pure ⟨rfl, rfl, more⟩
  · rintro ⟨r1, r2⟩ z ⟨e1, rfl, _⟩
    simp only at e1
    subst e1
    exact wpAny_pure q
abbrev TL (K : Type) := List (Addr × List K)
abbrev ha (knd : KeyKind P w K) (p : Addr × List K) : Int := tupleKeyHash knd p.2
abbrev ent (knd : KeyKind P w K) (p : Addr × List K) : Int × Value := (ha knd p, Value.ref p.1)
/-- at a a set of these tuples, as its table has them -/
structure SetG (knd : KeyKind P w K) (h : Heap) (a : Addr) (L : TL K) (es : Array (Int × Value)) (ep : Nat) (t : SetTable) : Prop where
  obj : ∃ o, h.get? a = some o ∧ o.ExactSet ∧ o.data = .set es ep t
  ents : es.toList = L.map (ent knd)
  tbl : TabOk t (L.map (ha knd))
  uni : (L.map Prod.snd).Nodup
  its : ∀ p ∈ L, IsTupleKey knd h p.2 p.1
  led : w.params.followText "set-order" = true ∨ t.led = true
  few : L.length < 64
  roomy : L.length * 5 < t.mask * 3
variable {a : Addr} {L : TL K} {es : Array (Int × Value)} {ep : Nat} {t : SetTable}
theorem SetG.esz (R : SetG knd s.heap a L es ep t) : es.size = L.length := by rw [← Array.length_toList, R.ents, List.length_map]
theorem SetG.psz (R : SetG knd s.heap a L es ep t) : t.place.size = L.length := by rw [R.tbl.sz, List.length_map]
theorem SetG.fit (R : SetG knd s.heap a L es ep t) : t.fits es.size = true := by
  have e1 := R.esz
  have e2 := R.psz
  have e3 := R.roomy
  unfold SetTable.fits SetTable.fill
  rw [R.tbl.dm, Bool.and_eq_true, beq_iff_eq, decide_eq_true_eq]
  refine ⟨by rw [e1, e2], ?_⟩
  show t.place.size + 0 ≤ t.mask
  omega
theorem SetG.at_ (R : SetG knd s.heap a L es ep t) {i : Nat} {p : Addr × List K} (h : L[i]? = some p) : es[i]? = some (ent knd p) := by
  rw [← Array.getElem?_toList, R.ents, List.getElem?_map, h]
  rfl
theorem SetG.odd (R : SetG knd s.heap a L es ep t) : ¬ t.gaveWay = true := by
  unfold SetTable.gaveWay
  rw [mask_odd R.tbl.mok]
  decide
theorem no_dummy (m : Nat) : ∀ (n : Nat) (p : SetTable.Probe), p.dummy = none → (nth m p n).dummy = none
  | 0, _, h => h
  | n + 1, p, h => no_dummy m n (adv m p) (by unfold adv; split <;> exact h)
abbrev at0 (t : SetTable) (g : Int) : SetTable.Probe := runAt t.mask (SetTable.bits g % (t.mask + 1)) (SetTable.bits g)
/-- looking for the tuple of x, from the c-th place of its way on -/
theorem looks (D : Dulls knd) (R : SetG knd s.heap a L es ep t) {x : Addr} {k : List K} (hx : IsTupleKey knd s.heap k x) (hu : A.units < cLine) {g : Int} (hg : g = tupleKeyHash knd k) {Z : Nat} (z1 : Z < 10 * SetTable.turns t.mask) (z2 : way t.mask g Z ∉ t.place.toList)
    (z3 : ∀ c, c < Z → way t.mask g c ∈ t.place.toList) {Q : SetFound → Shared → Prop} (old : k ∈ L.map Prod.snd → Q (.there none) s) (new : k ∉ L.map Prod.snd → Q (.free (way t.mask g Z) false) s) :
    ∀ (f c : Nat) (st : Option SetTable.Probe), st.getD (t.probeStart g) = nth t.mask (at0 t g) c → c ≤ Z → Z - c < f →
      (∀ (i : Nat) p, L[i]? = some p → p.2 = k → ∃ c', c ≤ c' ∧ c' < Z ∧ t.place.toList[i]? = some (way t.mask g c')) → wpAny (model P w) A (setSearchFrom a (.ref x) g true f st) Q E s := by
  intro f
  induction f with
  | zero => exact fun c _ _ _ hf _ => absurd hf (Nat.not_lt_zero _)
  | succ f ih =>
    intro c st hst hc hf ahead
    obtain ⟨o, o1, o2, o3⟩ := R.obj
    rw [setSearchFrom_succ]
    refine wpAny_bind (wpAny_setState_of o1 o3 R.fit ?_)
    dsimp only
    refine wp_if_neg R.odd ?_
    try refine wpAny_bind (wpAny_pure ?_)
    have hop : ∀ q, nth t.mask (nth t.mask (at0 t g) c) q = nth t.mask (at0 t g) (c + q) := fun q => (nth_add t.mask c _ q).symm
    have hopj : ∀ q, (nth t.mask (nth t.mask (at0 t g) c) q).j = way t.mask g (c + q) := fun q => congrArg SetTable.Probe.j (hop q)
    have hs : ∀ (i : Nat) p, L[i]? = some p → (es[i]?.map (·.1)).getD 0 = ha knd p := fun i p hp => by rw [R.at_ hp]; rfl
    have met := go_spec t R.tbl.ris R.tbl.dm (fun i => (es[i]?.map (·.1)).getD 0) g (10 * SetTable.turns t.mask) (Z - c) _ (no_dummy t.mask c _ rfl) (by omega)
      (fun q hq => by rw [hopj]; exact z3 (c + q) (by omega)) (by rw [hopj, show c + (Z - c) = Z by omega]; exact z2)
    rcases met with ⟨q, i, hq, hi, _, none0, pr⟩ | ⟨none0, pr⟩
    · have pr2 : t.probe (fun i => (es[i]?.map (·.1)).getD 0) g (st.getD (t.probeStart g)) = some (.candidate (way t.mask g (c + q)) i (nth t.mask (at0 t g) (c + (q + 1)))) := by
        rw [hst, ← hopj, ← hop]
        exact pr
      rw [pr2]
      dsimp only
      rw [hopj] at hi
      have il : i < L.length := by
        have := (List.getElem?_eq_some_iff.mp hi).1
        rw [Array.length_toList, R.psz] at this
        exact this
      obtain ⟨p, hp⟩ : ∃ p, L[i]? = some p := ⟨L[i], List.getElem?_eq_getElem il⟩
      have pm := List.mem_of_getElem? hp
      have go : wpAny (model P w) A (searchRest a (.ref x) g true f es t (way t.mask g (c + q)) i (nth t.mask (at0 t g) (c + (q + 1)))) Q E s := by
        unfold searchRest
        rw [R.at_ hp]
        dsimp only
        refine wpAny_bind (wpAny_holding (wpAny_eqBool_tuple hu (R.its p pm) hx ?_))
        refine wpAny_bind (wpAny_setState_of o1 o3 R.fit ?_)
        dsimp only
        by_cases same : p.2 = k
        · refine wp_if_pos (by simp [same]) (wpAny_pure (old ?_))
          rw [← same]
          exact List.mem_map_of_mem pm
        · refine wp_if_neg (by simp [same]) ?_
          try refine wpAny_bind (wpAny_pure ?_)
          rw [sameMem]
          dsimp only
          have live : t.slot (way t.mask g (c + q)) = .live i := slot_live R.tbl.ris hi
          simp only [if_true, live, R.at_ hp]
          refine wpAny_bind (wpAny_isSame_ref_self (wpAny_bind (wpAny_pure ?_)))
          simp only [if_true]
          refine wp_if_neg (by simp [same]) ?_
          refine ih (c + (q + 1)) _ rfl (by omega) (by omega) fun i0 p0 h0 e0 => ?_
          obtain ⟨c', a1, a2, a3⟩ := ahead i0 p0 h0 e0
          refine ⟨c', ?_, a2, a3⟩
          rcases Nat.lt_trichotomy c' (c + q) with lt | eq | gt
          · have := none0 (c' - c) i0 (by omega) (by rw [hopj, show c + (c' - c) = c' by omega]; exact a3)
            exact absurd ((hs i0 p0 h0).trans (by rw [hg, ← e0])) this
          · rw [eq] at a3
            have l2 := slot_live R.tbl.ris a3
            rw [live] at l2
            injection l2 with l2
            rw [← l2, hp] at h0
            exact absurd (by rw [Option.some.inj h0]; exact e0) same
          · omega
      by_cases lt : t.led = true
      · refine wp_if_neg (by simp [lt]) ?_
        try refine wpAny_bind (wpAny_pure ?_)
        exact go
      · refine wp_if_pos (by simp [lt]) ?_
        refine wpAny_bind (tup_seen D hx (fun y hy => ?_) ?_)
        · obtain ⟨e, he, rfl⟩ := List.mem_map.mp hy
          have m1 : e ∈ es ∧ e.1 = g := by simpa using he
          have m2 : e ∈ es.toList := by simpa using m1.1
          rw [R.ents] at m2
          obtain ⟨p2, hp2, rfl⟩ := List.mem_map.mp m2
          exact ⟨p2.2, p2.1, rfl, R.its p2 hp2⟩
        · refine wp_if_neg (by decide) ?_
          try refine wpAny_bind (wpAny_pure ?_)
          exact go
    · have pr2 : t.probe (fun i => (es[i]?.map (·.1)).getD 0) g (st.getD (t.probeStart g)) = some (.empty (way t.mask g Z) none) := by
        have := hopj (Z - c)
        rw [show c + (Z - c) = Z by omega] at this
        rw [hst, ← this]
        exact pr
      rw [pr2]
      dsimp only
      refine wpAny_pure (new fun m => ?_)
      obtain ⟨p0, m0, e0⟩ := List.mem_map.mp m
      obtain ⟨i0, l0, g0⟩ := List.getElem_of_mem m0
      have h0 : L[i0]? = some p0 := by rw [List.getElem?_eq_getElem l0, g0]
      obtain ⟨c', a1, a2, a3⟩ := ahead i0 p0 h0 e0
      have := none0 (c' - c) i0 (by omega) (by rw [hopj, show c + (c' - c) = c' by omega]; exact a3)
      exact this ((hs i0 p0 h0).trans (by rw [hg, ← e0]))
theorem looked (D : Dulls knd) (R : SetG knd s.heap a L es ep t) {x : Addr} {k : List K} (hx : IsTupleKey knd s.heap k x) (hu : A.units < cLine) {g : Int} (hg : g = tupleKeyHash knd k) {Q : SetFound → Shared → Prop} (old : k ∈ L.map Prod.snd → Q (.there none) s)
    (new : ∀ Z, k ∉ L.map Prod.snd → way t.mask g Z ∉ t.place.toList → (∀ c, c < Z → way t.mask g c ∈ t.place.toList) → Q (.free (way t.mask g Z) false) s) : wpAny (model P w) A (setSearch a (.ref x) g true) Q E s := by
  have rm := R.roomy
  obtain ⟨Z, z1, z2, z3⟩ := R.tbl.first (by rw [List.length_map]; omega) g
  have tn : 10 * SetTable.turns t.mask ≤ 1420 := by
    unfold SetTable.turns
    rcases R.tbl.mok with e | e | e <;> omega
  unfold setSearch
  refine looks D R hx hu hg z1 z2 z3 old (fun n => new Z n z2 z3) 100000 0 none rfl (Nat.zero_le _) (by omega) fun i p hp e => ?_
  have h1 : (L.map (ha knd))[i]? = some g := by
    rw [List.getElem?_map, hp, hg, ← e]
    rfl
  have il : i < t.place.toList.length := by
    rw [Array.length_toList, R.psz]
    exact (List.getElem?_eq_some_iff.mp hp).1
  obtain ⟨c, hc, e2⟩ := R.tbl.before z2 h1 (List.getElem?_eq_getElem il)
  exact ⟨c, Nat.zero_le _, hc, by rw [List.getElem?_eq_getElem il, e2]⟩
end
end GS
end

-- TupSet2
section
set_option Elab.async false
set_option linter.all false
set_option maxRecDepth 100000
namespace GS
open PySem PySem.Spec PyProof.Rows L2
theorem fm_all {α : Type} (L : List α) : (List.range L.length).filterMap (fun i => L[i]?) = L := by
  have go : ∀ n, n ≤ L.length → (List.range n).filterMap (fun i => L[i]?) = L.take n := by
    intro n
    induction n with
    | zero => exact fun _ => rfl
    | succ n ih =>
      intro h
      have lt : n < L.length := h
      rw [List.range_succ, List.filterMap_append, ih (Nat.le_of_lt lt), List.take_succ, List.getElem?_eq_getElem lt]
      simp [List.getElem?_eq_getElem lt]
  rw [go _ (Nat.le_refl _), List.take_length]
theorem fm_some {α β : Type} {L : List α} (f : α → β) : ∀ o : List Nat, (∀ i ∈ o, i < L.length) → ∀ d : β, (o.filterMap fun i => L[i]?).map f = o.map fun i => (L[i]?.map f).getD d
  | [], _, _ => rfl
  | i :: o, h, d => by
    have lt := h i List.mem_cons_self
    rw [List.filterMap_cons_some (List.getElem?_eq_getElem lt), List.map_cons, List.map_cons, fm_some f o (fun j hj => h j (List.mem_cons_of_mem _ hj)) d, List.getElem?_eq_getElem lt]
    rfl
theorem fm_map {α β : Type} {L : List α} {M : List β} (f : α → β) (e : M = L.map f) (o : List Nat) : o.filterMap (fun i => M[i]?) = (o.filterMap fun i => L[i]?).map f := by
  subst e
  induction o with
  | nil => rfl
  | cons i o ih =>
    rw [List.filterMap_cons, List.filterMap_cons, List.getElem?_map]
    cases L[i]? with
    | none => exact ih
    | some x => rw [Option.map_some]; simp only [List.map_cons]; rw [ih]
section
variable {P : Program} {w : World} {K : Type} [DecidableEq K] {knd : KeyKind P w K} {A : Around} {E : Value → Shared → Prop} {s : Shared}
theorem tk_but {h h' : Heap} {k : List K} {a b : Addr} {o : Obj} {es : Array (Int × Value)} {ep : Nat} {t : SetTable} (x : IsTupleKey knd h k b) (o1 : h.get? a = some o) (o2 : o.data = .set es ep t) (sb : Heap.SameBut a h h') : IsTupleKey knd h' k b := by
  obtain ⟨u, its, n, u1, u2, u3, u4⟩ := x
  refine ⟨u, its, n, (sb.2 b fun e => ?_).trans u1, u2, u3, u4⟩
  rw [e, o1] at u1
  rw [← Option.some.inj u1, o2] at u3
  cases u3
theorem tk_keep {h h' : Heap} {k : List K} {b : Addr} (x : IsTupleKey knd h k b) (kp : ∀ o, h.get? b = some o → h'.get? b = some o) : IsTupleKey knd h' k b :=
  let ⟨u, its, n, u1, u2⟩ := x
  ⟨u, its, n, kp _ u1, u2⟩
variable {a : Addr} {L : TL K} {es : Array (Int × Value)} {ep : Nat} {t : SetTable}
theorem relaid {o : Obj} (o1 : s.heap.get? a = some o) (o2 : o.ExactSet) (o3 : o.data = .set es ep t) (en : es.toList = L.map (ent knd)) (T : TabOk t (L.map (ha knd))) (fit : es.size ≤ t.mask) (uni : (L.map Prod.snd).Nodup) (its : ∀ p ∈ L, IsTupleKey knd s.heap p.2 p.1)
    (ld : w.params.followText "set-order" = true ∨ t.led = true) (few : L.length < 64) {want M : Nat} (w1 : SetTable.sizeAbove want - 1 = M) (w2 : MaskOk M) (w3 : SetTable.sizeAbove want ≤ 128) (w4 : L.length * 5 < M * 3) {Q : Unit → Shared → Prop}
    (q : ∀ h' L' es' ep' t', Heap.SameBut a s.heap h' → SetG knd h' a L' es' ep' t' → L'.Perm L → Q () { s with heap := h' }) : wpAny (model P w) A (setRelay a want) Q E s := by
  have sz : es.size = L.length := by rw [← Array.length_toList, en, List.length_map]
  have ps : t.place.size = L.length := by rw [T.sz, List.length_map]
  have ft : t.fits es.size = true := by
    unfold SetTable.fits SetTable.fill
    rw [T.dm, Bool.and_eq_true, beq_iff_eq, decide_eq_true_eq]
    refine ⟨by rw [ps, sz], ?_⟩
    show t.place.size + 0 ≤ t.mask
    omega
  obtain ⟨t', order, r1, r2, r3, r4, r5, r6, r7⟩ := relaid_ok t (hs := es.map (·.1)) (wanted := want) w1 w2 (by rw [Array.size_map, sz]; omega)
  rw [Array.size_map, sz] at r2
  have inL : ∀ i ∈ order.toList, i < L.length := fun i hi => List.mem_range.mp (r2.mem_iff.mp hi)
  have pm : (order.toList.filterMap fun i => L[i]?).Perm L := by
    have := r2.filterMap fun i => L[i]?
    rw [fm_all] at this
    exact this
  have hsh : (order.toList.filterMap fun i => L[i]?).map (ha knd) = order.toList.map fun i => (es.map (·.1)).getD i 0 := by
    rw [fm_some (ha knd) order.toList inL 0]
    refine List.map_congr_left fun i hi => ?_
    rw [Array.getD_eq_getD_getElem?, Array.getElem?_map, ← Array.getElem?_toList, en, List.getElem?_map]
    cases L[i]? <;> rfl
  have fm : (order.filterMap (es[·]?)).toList = (order.toList.filterMap fun i => L[i]?).map (ent knd) := by
    rw [Array.toList_filterMap, ← fm_map (ent knd) en]
    congr 1
    funext i
    exact Array.getElem?_toList.symm
  rw [← hsh] at r3
  generalize order.toList.filterMap (fun i => L[i]?) = L2 at pm r3 fm
  have sz2 : (order.filterMap (es[·]?)).size = es.size := by rw [← Array.length_toList, fm, List.length_map, pm.length_eq, sz]
  rw [setRelay_eq]
  refine wpAny_bind (wpAny_setState_of o1 o3 ft ?_)
  dsimp only
  refine wp_if_neg (by rw [sizeLine_eq]; omega) ?_
  try refine wpAny_bind (wpAny_pure ?_)
  rw [r1]
  dsimp only
  refine wpAny_bind ?_
  refine wp_if_neg (by rw [sz2]; simp) ?_
  try refine wpAny_bind (wpAny_pure ?_)
  refine wpAny_pure ?_
  dsimp only
  refine wpAny_storeSet_of o1 o3 ?_ (by rw [sz2, sz, sizeLine_eq]; omega)
  have sb : Heap.SameBut a s.heap (s.heap.update a (Obj.putSet (order.filterMap (es[·]?)) t')) := Heap.SameBut.update ..
  exact q _ L2 (order.filterMap (es[·]?)) (ep + 1) t' sb ⟨⟨_, store_at o1 o3, ⟨o2.1, o2.2.1, o2.2.2⟩, rfl⟩, fm, r3, (pm.map Prod.snd).nodup_iff.mpr uni, fun p hp => tk_but (its p (pm.mem_iff.mp hp)) o1 o3 sb, by rw [r5]; exact ld, by rw [pm.length_eq]; exact few, by rw [pm.length_eq, r4]; exact w4⟩ pm
theorem tab_plain {t : SetTable} {hs : List Int} (T : TabOk t hs) (b : Bool) : TabOk (if b = true then t else { t with plain := false }) hs := by
  cases b with
  | true => exact T
  | false => exact ⟨T.ris, T.dm, T.sz, T.mok, T.bd, T.reach⟩
/-- s.add(x), x a tuple -/
theorem adds (D : Dulls knd) (R : SetG knd s.heap a L es ep t) {x : Addr} {k : List K} (hx : IsTupleKey knd s.heap k x) (hu : A.units < cLine) {g : Int} (hg : g = tupleKeyHash knd k) (few : L.length + 1 < 64) {Q : Bool → Shared → Prop}
    (q : ∀ b h' L' es' ep' t', Heap.SameBut a s.heap h' → SetG knd h' a L' es' ep' t' → (k ∈ L.map Prod.snd → L' = L) → (k ∉ L.map Prod.snd → L'.Perm ((x, k) :: L)) → Q b { s with heap := h' }) : wpAny (model P w) A (setAddHashed a (.ref x) g) Q E s := by
  obtain ⟨o, o1, o2, o3⟩ := R.obj
  have sz := R.esz
  have rm := R.roomy
  unfold setAddHashed
  refine wpAny_holding ?_
  rw [show (100000 : Nat) = 99999 + 1 from rfl, setAddHashedIn_succ]
  refine wpAny_bind (wpAny_setState_of o1 o3 R.fit ?_)
  dsimp only
  refine wp_if_neg (by simp [byScan, Value.scannable]) ?_
  try refine wpAny_bind (wpAny_pure ?_)
  refine wpAny_bind (looked D R hx hu hg (fun m => ?_) fun Z m z2 z3 => ?_)
  · dsimp only
    exact wpAny_pure (q false s.heap L es ep t (Heap.SameBut.refl a s.heap) R (fun _ => rfl) fun n => absurd m n)
  dsimp only
  refine wpAny_bind (wpAny_setState_of o1 o3 R.fit ?_)
  dsimp only
  obtain ⟨p1, p2, p3, p4, p5, _, _, _, p9⟩ := R.tbl.put z2 z3
  generalize hpt : t.put (way t.mask g Z) = pt at p1 p3 p4 p5 p9 ⊢
  obtain ⟨t1, j⟩ := pt
  dsimp only at p1 p3 p4 p5 p9 ⊢
  subst p1
  have nw : (SetTable.insertAt es (SetTable.below t.place (way t.mask g Z)) (g, Value.ref x)).toList = (L.take (SetTable.below t.place (way t.mask g Z)) ++ (x, k) :: L.drop (SetTable.below t.place (way t.mask g Z))).map (ent knd) := by
    rw [SetTable.toList_insertAt, R.ents, List.map_append, List.map_cons, List.map_take, List.map_drop, hg]
  generalize SetTable.below t.place (way t.mask g Z) = j at p2 p3 nw ⊢
  have pm : (L.take j ++ (x, k) :: L.drop j).Perm ((x, k) :: L) := by
    have := List.perm_middle (a := (x, k)) (l₁ := L.take j) (l₂ := L.drop j)
    rw [List.take_append_drop] at this
    exact this
  have hs : (L.take j ++ (x, k) :: L.drop j).map (ha knd) = (L.map (ha knd)).take j ++ g :: (L.map (ha knd)).drop j := by
    rw [List.map_append, List.map_cons, List.map_take, List.map_drop, hg]
  rw [← hs] at p3
  have s1 : (SetTable.insertAt es j (g, Value.ref x)).size = L.length + 1 := by rw [← Array.length_toList, nw, List.length_map, pm.length_eq]; rfl
  generalize SetTable.insertAt es j (g, Value.ref x) = es1 at nw s1 ⊢
  have l1 := pm.length_eq
  rw [List.length_cons] at l1
  have u1 : ((L.take j ++ (x, k) :: L.drop j).map Prod.snd).Nodup := (pm.map Prod.snd).nodup_iff.mpr (by rw [List.map_cons]; exact List.nodup_cons.mpr ⟨m, R.uni⟩)
  generalize L.take j ++ (x, k) :: L.drop j = L1 at pm p3 nw l1 u1
  -- whatever the hash says of its value
  have go : ∀ b : Bool, wpAny (model P w) A (do
      storeSet a es1 (if b = true then t1 else { t1 with plain := false })
      if (!false && (if b = true then t1 else { t1 with plain := false } : SetTable).tooFull) = true then do
          setRelay a (SetTable.grown (es.size + 1))
          pure true
        else pure true) Q E s := fun b => by
    have T1 := tab_plain p3 b
    have m1 : (if b = true then t1 else { t1 with plain := false } : SetTable).mask = t.mask := by cases b <;> exact p4
    have d1 : (if b = true then t1 else { t1 with plain := false } : SetTable).led = t.led := by cases b <;> exact p5
    have f1 : (if b = true then t1 else { t1 with plain := false } : SetTable).fill = L.length + 1 := by
      rw [List.length_map] at p9
      cases b <;> exact p9
    generalize (if b = true then t1 else { t1 with plain := false } : SetTable) = t2 at T1 m1 d1 f1 ⊢
    refine wpAny_bind (wpAny_storeSet_of o1 o3 ?_ (by rw [s1, sizeLine_eq]; omega))
    have sb : Heap.SameBut a s.heap (s.heap.update a (Obj.putSet es1 t2)) := Heap.SameBut.update ..
    have ob := store_at (es' := es1) (t' := t2) o1 o3
    generalize s.heap.update a (Obj.putSet es1 t2) = h1 at sb ob ⊢
    have it1 : ∀ p ∈ L1, IsTupleKey knd h1 p.2 p.1 := fun p hp => by
      rcases List.mem_cons.mp (pm.mem_iff.mp hp) with e | hp
      · rw [e]; exact tk_but hx o1 o3 sb
      · exact tk_but (R.its p hp) o1 o3 sb
    have ld1 : w.params.followText "set-order" = true ∨ t2.led = true := by rw [d1]; exact R.led
    by_cases full : t2.tooFull = true
    · refine wp_if_pos (by simp [full]) ?_
      have big : (L.length + 1) * 5 ≥ t2.mask * 3 := by
        have h := full
        unfold SetTable.tooFull at h
        rw [decide_eq_true_eq, f1] at h
        exact h
      have two : (t.mask = 7 ∧ L.length = 4) ∨ (t.mask = 31 ∧ L.length = 18) := by
        rw [m1] at big
        rcases R.tbl.mok with e | e | e
        · exact .inl ⟨e, by rw [e] at big rm; omega⟩
        · exact .inr ⟨e, by rw [e] at big rm; omega⟩
        · rw [e] at big rm
          omega
      rw [sz]
      have fin : ∀ M, SetTable.sizeAbove (SetTable.grown (L.length + 1)) - 1 = M → MaskOk M → SetTable.sizeAbove (SetTable.grown (L.length + 1)) ≤ 128 → (L.length + 1) * 5 < M * 3 → wpAny (model P w) A (do
          setRelay a (SetTable.grown (L.length + 1))
          pure true) Q E { s with heap := h1 } := fun M a1 a2 a3 a4 => by
        refine wpAny_bind (relaid (s := { s with heap := h1 }) ob ⟨o2.1, o2.2.1, o2.2.2⟩ rfl nw T1 (by rw [s1, m1]; rcases two with ⟨e, e2⟩ | ⟨e, e2⟩ <;> omega) u1 it1 ld1 (by rw [l1]; exact few) a1 a2 a3 (by rw [l1]; exact a4) ?_)
        exact fun h2 L2 es2 ep2 t3 sb2 R2 pm2 => wpAny_pure (q true h2 L2 es2 ep2 t3 (sb.trans sb2) R2 (fun z => absurd z m) fun _ => pm2.trans pm)
      rcases two with ⟨_, e⟩ | ⟨_, e⟩
      · exact fin 31 (by rw [e, size_20]) (.inr (.inl rfl)) (by rw [e, size_20]; decide) (by omega)
      · exact fin 127 (by rw [e, size_76]) (.inr (.inr rfl)) (by rw [e, size_76]; decide) (by omega)
    · refine wp_if_neg (by simp [full]) ?_
      have room1 : L1.length * 5 < t2.mask * 3 := by
        have h := full
        unfold SetTable.tooFull at h
        rw [decide_eq_true_eq, f1] at h
        rw [l1]
        omega
      exact wpAny_pure (q true h1 L1 es1 (ep + 1) t2 sb ⟨⟨_, ob, ⟨o2.1, o2.2.1, o2.2.2⟩, rfl⟩, nw, T1, u1, it1, ld1, by rw [l1]; exact few, room1⟩ (fun z => absurd z m) fun _ => pm)
  by_cases pl : t1.plain = true
  · exact wp_if_pos pl (wpAny_bind (tup_val D hx fun b => go b))
  · exact wp_if_neg pl (wpAny_bind (wpAny_pure (go true)))
end
end GS
end

-- SetSort
section
set_option Elab.async false
set_option linter.all false
set_option maxRecDepth 100000
/-! sorted(set(t)), t a tuple of texts: some of them, in a new list. -/
namespace SetSort
open PySem PySem.Spec PyProof.Rows L2
/-- at a a set of texts, all of them among ys, with a table that can be walked -/
def TxtR (P : Program) (w : World) (h : Heap) (a : Addr) (ys : List Str) : Prop :=
  ∃ o ez ep tb, h.get? a = some o ∧ o.ExactSet ∧ o.data = .set ez ep tb ∧ ElemsOf (strKind P w) ez.toList ∧ (∀ e ∈ ez.toList, ∃ y tk, e.2 = Value.str y tk ∧ y ∈ ys) ∧ ez.size < scanBound ∧ tb.fits ez.size = true ∧
    Ris tb.place.toList ∧ (w.params.followText "set-order" = true ∨ tb.led = true) ∧ ez.size ≤ ys.length ∧ (ys ≠ [] → 0 < ez.size)
theorem TxtR.at {P : Program} {w : World} {h h' : Heap} {a : Addr} {ys : List Str} (r : TxtR P w h a ys) (k : ∀ o, h.get? a = some o → h'.get? a = some o) : TxtR P w h' a ys := by
  obtain ⟨o, ez, ep, tb, ho, r⟩ := r
  exact ⟨o, ez, ep, tb, k o ho, r⟩
section
variable {P : Program} {w : World} {A : Around} {E : Value → Shared → Prop} {s : Shared} {a : Addr}
theorem tail_t {quiet : Bool → Sem Unit} (hq : ∀ (b : Bool) (s1 : Shared) (Q1 : Unit → Shared → Prop), Q1 () s1 → wpAny (model P w) A (quiet b) Q1 E s1) {o : Obj} {e0 : Array (Int × Value)} {ep : Nat} {t0 : SetTable} (ho : s.heap.get? a = some o) (hex : o.ExactSet)
    (hd : o.data = .set e0 ep t0) {ez : Array (Int × Value)} {tb : SetTable} {ys : List Str} (el : ElemsOf (strKind P w) ez.toList) (mem : ∀ e ∈ ez.toList, ∃ y tk, e.2 = Value.str y tk ∧ y ∈ ys) (bd : ez.size < scanBound) (ft : tb.fits ez.size = true) (ri : Ris tb.place.toList)
    (le : w.params.followText "set-order" = true ∨ tb.led = true) (len : ez.size ≤ ys.length) (pos : 0 < ez.size) {dum : Bool} {R : Option Bool → Shared → Prop} (fin : ∀ h', Heap.SameBut a s.heap h' → TxtR P w h' a ys → R (some true) { s with heap := h' }) :
    wpAny (model P w) A (do
        storeSet a ez tb
        if (!dum && tb.tooFull) = true then do
            quiet (relayAll tb ez (SetTable.grown ez.size)).2.2
            storeSet a (relayAll tb ez (SetTable.grown ez.size)).1 (relayAll tb ez (SetTable.grown ez.size)).2.1
            pure (some true)
          else pure (some true)) R E s := by
  refine wpAny_bind (wpAny_storeSet_of ho hd ?_ (fits_of_scanBound bd))
  have o1 := store_at (es' := ez) (t' := tb) ho hd
  have b1 := Heap.SameBut.update s.heap a (Obj.putSet ez tb)
  split
  · have perm := relayAll_perm tb ez (SetTable.grown ez.size)
    have ft2 := relayAll_fits tb ez (SetTable.grown ez.size)
    have ri2 := relayAll_ris tb ez (SetTable.grown ez.size)
    have le2 := relayAll_led tb ez (SetTable.grown ez.size)
    generalize relayAll tb ez (SetTable.grown ez.size) = Y at perm ft2 ri2 le2 ⊢
    obtain ⟨ew, tw, gv⟩ := Y
    dsimp only at perm ft2 ri2 le2 ⊢
    have same : ew.size = ez.size := by rw [← Array.length_toList, perm.length_eq, Array.length_toList]
    have bd2 : ew.size < scanBound := by rw [same]; exact bd
    refine wpAny_bind (hq _ _ _ (wpAny_bind (wpAny_storeSet_of o1 rfl ?_ (fits_of_scanBound bd2))))
    refine wpAny_pure (fin _ (b1.trans (Heap.SameBut.update _ a _)) ⟨_, ew, _, tw, store_at (es' := ew) (t' := tw) o1 rfl, hex, rfl, fun e he => el e (perm.mem_iff.mp he), fun e he => mem e (perm.mem_iff.mp he), bd2, ft2, ri2, le.imp id fun z => by rw [le2]; exact z, by rw [same]; exact len, fun _ => by rw [same]; exact pos⟩)
  · exact wpAny_pure (fin _ b1 ⟨_, ez, _, tb, o1, hex, rfl, el, mem, bd, ft, ri, le, len, fun _ => pos⟩)
theorem add_t {y : Str} {tk : Tok} {ys : List Str} {Q : Bool → Shared → Prop} (r : TxtR P w s.heap a ys) (room : ys.length + 1 < scanBound)
    (fin : ∀ b h', Heap.SameBut a s.heap h' → TxtR P w h' a (ys ++ [y]) → Q b { s with heap := h' }) : wpAny (model P w) A (setAddHashed a (.str y tk) ((strKind P w).hash y)) Q E s := by
  obtain ⟨o, e0, ep, t0, ho, hex, hd, el, mem, bd, ft, ri, le, len, pos⟩ := r
  have key : (strKind P w).is y (.str y tk) = true := strKind_is P w y tk
  have scan : (Value.str y tk).scannable = true := rfl
  have mem' : ∀ e ∈ e0.toList, ∃ z u, e.2 = Value.str z u ∧ z ∈ ys ++ [y] := fun e he => let ⟨z, u, h1, h2⟩ := mem e he; ⟨z, u, h1, List.mem_append_left _ h2⟩
  have len2 : (ys ++ [y]).length = ys.length + 1 := by rw [List.length_append]; rfl
  unfold setAddHashed; unfold setAddHashedIn
  refine wpAny_holding (wpAny_bind (wpAny_setState_of ho hd ft ?_))
  dsimp only
  rw [byScan_of scan bd el]; simp only [↓reduceIte]
  unfold setAddByScan
  refine wpAny_bind (wpAny_bind (wpAny_rule (wpAny_bind (wpAny_setScan_of key ho hd ft el ?_))))
  cases hfi : List.findIdx? (fun e => (strKind P w).is y e.2) e0.toList with
  | some j =>
    dsimp only
    obtain ⟨hj, _, _⟩ := List.findIdx?_eq_some_iff_getElem.mp hfi
    have pos0 : 0 < e0.size := by rw [← Array.length_toList]; omega
    refine wpAny_pure (wpAny_pure (fin _ s.heap (Heap.SameBut.refl a s.heap) ⟨o, e0, ep, t0, ho, hex, hd, el, mem', bd, ft, ri, le, by rw [len2]; omega, fun _ => pos0⟩))
  | none =>
    dsimp only
    have give : ∀ (b : Bool) {s1 : Shared} {Q1 : Unit → Shared → Prop}, Q1 () s1 → wpAny (model P w) A (match b with | true => rule "set.scan.the-table-gave-way" | false => pure ()) Q1 E s1 := fun b s1 Q1 q => by
      cases b
      · exact wpAny_pure q
      · exact wpAny_rule q
    have perm := layNew_perm t0 e0 ((strKind P w).hash y) (.str y tk)
    have ft1 := layNew_fits t0 e0 ((strKind P w).hash y) (.str y tk)
    have ri1 := layNew_ris t0 e0 ((strKind P w).hash y) (.str y tk) ri
    have le1 := layNew_led t0 e0 ((strKind P w).hash y) (.str y tk)
    generalize layNew t0 e0 ((strKind P w).hash y) (.str y tk) = Y at perm ft1 ri1 le1 ⊢
    obtain ⟨ez, tb, dum, gv⟩ := Y
    dsimp only at perm ft1 ri1 le1 ⊢
    rw [Array.toList_push] at perm
    have pc : ez.toList.Perm (((strKind P w).hash y, Value.str y tk) :: e0.toList) := perm.trans (List.perm_append_singleton _ _)
    have el1 : ElemsOf (strKind P w) ez.toList := fun e he => by
      rcases List.mem_cons.mp (pc.mem_iff.mp he) with z | z
      · rw [z]
        exact ⟨⟨y, key, rfl⟩, rfl⟩
      · exact el e z
    have mem1 : ∀ e ∈ ez.toList, ∃ z u, e.2 = Value.str z u ∧ z ∈ ys ++ [y] := fun e he => by
      rcases List.mem_cons.mp (pc.mem_iff.mp he) with z | z
      · rw [z]
        exact ⟨y, tk, rfl, List.mem_append_right _ (List.mem_singleton.mpr rfl)⟩
      · exact mem' e z
    have size1 : ez.size = e0.size + 1 := by rw [← Array.length_toList, pc.length_eq, List.length_cons, Array.length_toList]
    have bd1 : ez.size < scanBound := by omega
    have lead : w.params.followText "set-order" = true ∨ tb.led = true := le.imp id fun z => by rw [le1]; exact z
    refine wpAny_bind (give _ ?_)
    split
    · refine wpAny_bind ?_
      rw [hashByValue_scannable 8 scan]
      refine wpAny_pure (tail_t (ys := ys ++ [y]) (fun b s1 Q1 q => give b q) ho hex hd el1 mem1 bd1 ?_ ?_ ?_ (by omega) (by omega) fun h' sb r => wpAny_pure (fin true h' sb r))
      · first | (split <;> first | exact ft1 | exact SetTable.fits_plain_off ft1) | exact ft1
      · first | (split <;> exact ri1) | exact ri1
      · first | (split <;> exact lead) | exact lead
    · refine wpAny_bind (wpAny_pure ?_)
      simp only [↓reduceIte]; exact tail_t (ys := ys ++ [y]) (fun b s1 Q1 q => give b q) ho hex hd el1 mem1 bd1 ft1 ri1 lead (by omega) (by omega) fun h' sb r => wpAny_pure (fin true h' sb r)
end
section
variable {P : Program} {w : World} {A : Around} {R : Result → Shared → Prop} {it : Addr} {fp wr : List Addr} {G : Array GenState → Array GenState → Prop} {n : Nat} {T : Nat → Value → Prop} {Z : Nat → Shared → Prop}
theorem fill_t (W : WalksS P w A.in1 it fp wr G n T Z) (a : Addr) (out : a ∉ fp) (xs : List Str) (len : xs.length = n) (few : n ≤ 1000) (txt : ∀ i v, T i v → ∃ t, v = Value.str (xs.getD i Str.empty) t) :
    ∀ (k i : Nat) (s : Shared), n - i = k → i ≤ n → Z i s → TxtR P w s.heap a (xs.take i) →
      (∀ s', Moved (a :: wr) G s s' → TxtR P w s'.heap a xs → R (.ok (.ret .none)) s') → codeAny (model P w) A (.builtin "set.update.loop" ⟨[.ref a, .ref it], []⟩) R s := by
  have out' : a ∉ wr := fun h => out (W.sub _ h)
  intro k
  induction k with
  | zero =>
    intro i s hk hi hst hS fin
    cases (show n = i by omega)
    rw [← len, List.take_length] at hS
    refine codeAny_builtin F.entry_set_update_loop (by
      rw [Around.under_plainId F.plain_set_update_loop _]
      refine wpAny_bind (m := pyNext (.ref it)) (W.done s _ _ hst fun s' mv => wpAny_pure (fin s' (mv.mono fun b h => List.mem_cons_of_mem _ h) (hS.at fun o e => mv.heap a o out' e))))
  | succ k ih =>
    intro i s hk hi hst hS fin
    have lt : i < n := by omega
    refine codeAny_builtin F.entry_set_update_loop (by
      rw [Around.under_plainId F.plain_set_update_loop _]
      refine wpAny_bind (m := pyNext (.ref it)) (W.item i s _ _ lt hst fun v s1 hv st1 mv => ?_)
      obtain ⟨t, rfl⟩ := txt i v hv
      have S1 : TxtR P w s1.heap a (xs.take i) := hS.at fun o e => mv.heap a o out' e
      refine wpAny_bind (m := holding [Value.str (xs.getD i Str.empty) t] (setAdd a (.str (xs.getD i Str.empty) t))) (wpAny_holding ?_)
      unfold setAdd
      refine wpAny_holding (wpAny_bind ((strKind P w).pyHash (k := xs.getD i Str.empty) (strKind_is _ _ _ _) ?_))
      refine add_t (s := { s1 with toks := s1.toks + 1 }) S1 (by rw [List.length_take]; unfold scanBound; omega) fun b h' sb S2 => ?_
      have e : xs.take i ++ [xs.getD i Str.empty] = xs.take (i + 1) := by
        have lt2 : i < xs.length := by omega
        rw [List.take_succ, List.getElem?_eq_getElem lt2, List.getD_eq_getElem?_getD, List.getElem?_eq_getElem lt2]
        rfl
      rw [e] at S2
      refine wpAny_pure ⟨plainId_quiet F.plain_set_update_loop _, ih (i + 1) _ (by omega) lt (W.frame _ s1 _ _ st1 (Nat.le_succ _) fun b hb o e => (sb.2 b fun h : b = a => out (h ▸ hb)).trans e) S2 fun s2 m2 S4 => fin s2 ?_ S4⟩
      exact Moved.trans W.gtrans ((mv.mono fun b h => List.mem_cons_of_mem _ h).then_heap (Nat.le_succ _) fun b o hb e => (sb.2 b fun h : b = a => hb (h ▸ List.mem_cons_self)).trans e) m2)
end
theorem strs_some {ys : List Str} : ∀ vs : List Value, (∀ v ∈ vs, ∃ y tk, v = Value.str y tk ∧ y ∈ ys) → ∃ zs, StrsAre vs zs ∧ ∀ z ∈ zs, z ∈ ys
  | [], _ => ⟨[], .nil, fun _ h => (nomatch h)⟩
  | v :: r, h => by
    obtain ⟨y, tk, rfl, hy⟩ := h v List.mem_cons_self
    obtain ⟨zs, h1, h2⟩ := strs_some r fun u hu => h u (List.mem_cons_of_mem _ hu)
    exact ⟨y :: zs, .cons y tk h1, fun z hz => (List.mem_cons.mp hz).elim (fun e => by rw [e]; exact hy) (h2 z)⟩
section
variable {P : Program} {w : World} {A : Around} {E : Value → Shared → Prop} {s : Shared}
abbrev bare (w : World) : Obj := { cls := .type "set", dict := none, data := .set #[] 0 (.fresh 0 0 (!w.params.followText "set-order")) }
abbrev made (w : World) (s : Shared) : Shared := { s with heap := s.heap.push (bare w) }
theorem fresh_t (s : Shared) {h : Heap} (k : ∀ o, (made w s).heap.get? s.heap.objs.size = some o → h.get? s.heap.objs.size = some o) : TxtR P w h s.heap.objs.size [] :=
  ⟨_, #[], 0, _, k _ (Heap.get?_push_size _ rfl), ⟨rfl, rfl, rfl⟩, rfl, (fun e he => by simp at he), (fun e he => by simp at he), (by decide), (by rfl), List.Pairwise.nil, by
    show _ ∨ (!w.params.followText "set-order") = true
    cases w.params.followText "set-order"
    · exact .inr rfl
    · exact .inl rfl, Nat.le_refl _, fun z => absurd rfl z⟩
theorem code_led (a : Value) {Q1 : Value → Shared → Prop} (h : Q1 (.ref s.heap.objs.size) (made w s)) : codeAny (model P w) A (.call (.builtin "set.__new__") ⟨[.type "set", a], []⟩) (wants Q1 E) s := by
  refine codeAny_of_tree (show wpAny _ A.in1 (do checkBuiltinCall "set.__new__" ⟨[.type "set", a], []⟩; again (.builtin "set.__new__" ⟨[.type "set", a], []⟩)) _ _ s from ?_)
  refine wpAny_bind (wpAny_of_eq (F.newCall_set_1 a) (wpAny_pure ⟨plainId_quiet F.plain_set_new _, codeAny_builtin F.entry_set_new (by
    rw [Around.under_plainId F.plain_set_new _]
    unfold Builtin.«set.__new__»; unfold Builtin.Frozenset.newClass
    have sub := sub_set_self
    obtain ⟨hp, g, d, tk, os⟩ := s
    dsimp only
    wp_walk
    refine wpAny_askSetting (wpAny_pure (by
      dsimp only
      simp only [newObj]
      refine wpAny_bind (wpAny_alloc (wpAny_pure (wpAny_pure h))))))⟩))
/-- what stands behind set(t) -/
def Filled (P : Program) (w : World) (s : Shared) (xs : List Str) (h : Heap) : Prop := TxtR P w h s.heap.objs.size xs ∧ ∀ b o, b < s.heap.objs.size → s.heap.get? b = some o → h.get? b = some o
theorem init_t {l : Addr} {items : Array Value} {xs : List Str} (calm : A.handled = none) (hl : s.heap.IsTuple l items) (ht : StrsAre items.toList xs) (few : xs.length ≤ 1000)
    {Q : PySem.Fin → Shared → Prop} (fin : ∀ h' tk, Filled P w s xs h' → Q (.done (.ret .none)) { s with heap := h', toks := tk }) :
    wpAny (model P w) A (Builtin.«set.__init__» ⟨[Value.ref s.heap.objs.size, Value.ref l], []⟩) Q E (made w s) := by
  have new : (made w s).heap.get? s.heap.objs.size = some (bare w) := Heap.get?_push_size _ rfl
  obtain ⟨o, ho, hc, nl, hd⟩ := hl
  obtain ⟨oc, od, oe, os⟩ := o
  cases hc
  cases hd
  have hl : s.heap.IsTuple l items := ⟨_, ho, rfl, nl, rfl⟩
  have ho1 : (made w s).heap.get? l = some { cls := .type "tuple", dict := od, data := .seq items nl, slots := os } := Heap.get?_push_of_some _ ho
  have hl1 : (made w s).heap.IsTuple l items := ⟨_, ho1, rfl, nl, rfl⟩
  have f1 := F.sub_tuple_set
  have f2 := F.sub_tuple_frozenset
  have f3 : (Value.type "tuple" == Value.type "dict") = false := by decide
  have lt : l < s.heap.objs.size := Heap.lt_size ho
  have sz : (made w s).heap.objs.size = s.heap.objs.size + 1 := Heap.size_push _ _
  have tx : xs.length = items.size := by rw [← StrsAre.len_eq ht, Array.length_toList]
  unfold Builtin.«set.__init__»; unfold noKeywords; unfold Builtin.Frozenset.updateFrom
  unfold made at *
  generalize hPI : pyIter = PI
  wp_walk
  subst hPI
  refine wpAny_pyIter_tuple hl1 (wpAny_bind (wpAny_runValue ?_))
  have apart : l ≠ (s.heap.push (bare w)).objs.size := by rw [sz]; exact Nat.ne_of_lt (Nat.lt_succ_of_lt lt)
  have out : s.heap.objs.size ∉ [(s.heap.push (bare w)).objs.size, l] := by
    rw [sz]
    simp only [List.mem_cons, List.not_mem_nil, or_false, not_or]
    exact ⟨Nat.ne_of_lt (Nat.lt_succ_self _), Nat.ne_of_gt lt⟩
  refine fill_t ((Walks.tuple (by simp [calm]) _ l apart items).toS) s.heap.objs.size out xs tx (by omega) (fun i v hv => SS.strs_at ht i v (by rw [Array.getElem?_toList]; exact hv)) (items.size - 0) 0 _ (by omega) (Nat.zero_le _) ⟨⟨_, Heap.get?_push_size _ rfl, rfl, rfl⟩, (hl1.push _)⟩
    (by rw [List.take_zero]; exact fresh_t s fun o e => Heap.get?_push_of_some _ e) fun s2 mv S2 => ?_
  obtain ⟨h2, g2, d2, tk, os2⟩ := s2
  cases (show g2 = s.gens from mv.gens)
  cases (show d2 = s.drawn from mv.drawn)
  cases (show os2 = s.os from mv.os)
  refine wpAny_pure (wpAny_pure (fin h2 tk ⟨S2, fun b o hb e => mv.heap b o ?_ (Heap.get?_push_of_some _ (Heap.get?_push_of_some _ e))⟩))
  simp only [List.mem_cons, List.not_mem_nil, or_false, not_or]
  exact ⟨Nat.ne_of_lt hb, by rw [sz]; exact Nat.ne_of_lt (Nat.lt_succ_of_lt hb)⟩
set_option maxHeartbeats 1600000 in
theorem call_t {l : Addr} {items : Array Value} {xs : List Str} {Q : Value → Shared → Prop} (calm : A.handled = none) (hl : s.heap.IsTuple l items) (ht : StrsAre items.toList xs) (few : xs.length ≤ 1000)
    (fin : ∀ (h' : Heap) (tk : Nat), Filled P w s xs h' → Q (.ref s.heap.objs.size) { s with heap := h', toks := tk }) : wpAny (model P w) A (call (.type "set") [.ref l]) Q E s := by
  obtain ⟨c, tl, hmro⟩ := F.called_set.mro
  have k1 := F.called_set.made
  have k2 := F.called_set.sub
  have k3 := F.called_set.notType
  have k4 := F.called_set.canCreate
  have k5 := F.typeCall_set_1 (.ref l)
  refine wpAny_call (codeAny_of_tree (wpAny_pure (M := model P w) ⟨Code.quiet_builtin _ (by decide +kernel), codeAny_builtin F.entry_type_call ?_⟩))
  rw [Around.under_plain (weight_type_call_type "set" [.ref l] []) rfl]
  repeat (any_goals (first | assumption | wp_step))
  refine codeAny_mono (code_led (.ref l) (E := E) (Q1 := fun x s1 => x = .ref s.heap.objs.size ∧ s1 = made w s) ⟨rfl, rfl⟩) fun r s1 hr => ?_
  rcases r with e | (_ | _ | _ | x)
  · exact hr
  · exact hr.elim
  · exact hr.elim
  · exact hr.elim
  obtain ⟨rfl, rfl⟩ := hr
  have ty : Shared.TypeIs (made w s) (.ref s.heap.objs.size) "set" := ⟨_, Heap.get?_push_size _ rfl, rfl⟩
  have b1 := F.called_set.init.lookup
  have b2 := F.called_set.init.bind (.ref s.heap.objs.size)
  repeat (any_goals (first | assumption | wp_step))
  refine codeAny_call_builtin F.called_set.init.plain F.entry_set_init (check_set_init_1 ty (init_t (by simp [calm]) hl ht few fun h' tk fl => ?_))
  refine wpAny_pure ?_
  repeat (any_goals (first | assumption | wp_step))
  exact fin _ _ fl
/-- sorted of that set -/
theorem sorted_t {a : Addr} {ys : List Str} {Q : Value → Shared → Prop} (r : TxtR P w s.heap a ys) (calm : A.handled = none) (few : ys.length < 64)
    (fin : ∀ s' p (out : Array Value) (c : Nat) (zs : List Str), (∀ b o, s.heap.get? b = some o → s'.heap.get? b = some o) → s'.gens = s.gens → s'.os = s.os → s.heap.objs.size ≤ p →
      s'.heap.get? p = some (seqObj "list" out c) → StrsAre out.toList zs → (∀ z ∈ zs, z ∈ ys) → (ys ≠ [] → zs ≠ []) → zs.length ≤ ys.length → Q (.ref p) s') :
    wpAny (model P w) A (call (.builtin "sorted") [.ref a]) Q E s := by
  obtain ⟨o, ez, ep, tb, ho, hex, hd, el, mem, bd, ft, ri, le, len, pos⟩ := r
  refine Calls.call_function_entry kind_sorted plain_sorted entry_sorted (args_sorted1 _) (by
    unfold Builtin.«sorted»
    refine wpAny_bind (m := checkCount "sorted" 1 1 _) (wpAny_pure (wpAny_bind (collect_set (A := A.in1) calm ⟨o, ho, hex.1, hd⟩ ft bd ri le fun s1 vs k1 hz g1 o1 pm => ?_)))
    have vl : vs.length = ez.size := by rw [pm.length_eq, List.length_map, Array.length_toList]
    obtain ⟨zs, hz2, memz⟩ : ∃ zs, StrsAre vs zs ∧ ∀ z ∈ zs, z ∈ ys := strs_some vs fun v hv => by
      obtain ⟨e, he, q⟩ := List.mem_map.mp (pm.mem_iff.mp hv)
      obtain ⟨y, tk, h1, h2⟩ := mem e he
      exact ⟨y, tk, by rw [← q]; exact h1, h2⟩
    have zl : zs.length = ez.size := by rw [← StrsAre.len_eq hz2]; exact vl
    refine wpAny_bind (wpAny_newList ?_ (by rw [vl, sizeLine_eq]; omega))
    have hoL : (s1.heap.push (seqObj "list" vs.toArray 0)).get? s1.heap.objs.size = some (seqObj "list" vs.toArray 0) := Heap.get?_push_size _ rfl
    refine wpAny_bind (wpAny_holding (wpAny_call_entry slot_list_sort ⟨_, hoL, rfl⟩ entry_list_sort (list_sort_treeK PyProof.Rows.strKind_oneLt hoL hz2.keysOf (fun v1 v2 rest e => keyKind_strs (by rw [← e]; exact hz2)) (by omega) fun st' hp hs => ⟨_, rfl, ?_⟩) (args_list_sort _)))
    obtain ⟨us, a1, a2, a3⟩ := sorted_out_str hz2 hp hs
    obtain ⟨c, hc⟩ := sortedHeap_at (vs := vs) (out := (arrOf st').map (·.2)) hoL
    refine wpAny_pure ⟨_, rfl, fin _ s1.heap.objs.size _ c us (fun b u e => ?_) g1 o1 hz hc a1 (fun z hz => memz z (a2.mem_iff.mp hz)) (fun ne e => ?_) (by rw [a2.length_eq, zl]; exact len)⟩
    · have q := k1 b u e
      have lt := Heap.lt_size q
      show (sortedHeap (s1.heap.push (seqObj "list" vs.toArray 0)) s1.heap.objs.size vs _).get? b = some u
      rw [sortedHeap_old (Nat.ne_of_lt lt) (by rw [size_push']; exact Nat.lt_succ_of_lt lt)]
      exact Heap.get?_push_of_some _ q
    · have := pos ne
      have l2 := a2.length_eq
      rw [e, List.length_nil] at l2
      omega)
end
end SetSort
end

-- TupSet3
section
set_option Elab.async false
set_option linter.all false
set_option maxRecDepth 100000
namespace GS
open PySem PySem.Spec PyProof.Rows L2
section
variable {P : Program} {w : World} {K : Type} [DecidableEq K] {knd : KeyKind P w K}
/-- what a set has of the first i -/
structure Have (ks : TL K) (i : Nat) (L : TL K) : Prop where
  sub : ∀ p ∈ L, p ∈ ks
  all : ∀ p ∈ ks.take i, p.2 ∈ L.map Prod.snd
  len : L.length ≤ i
theorem Have.next {ks L L' : TL K} {i : Nat} {x : Addr × List K} (g : Have ks i L) (hx : ks[i]? = some x) (h1 : x.2 ∈ L.map Prod.snd → L' = L) (h2 : x.2 ∉ L.map Prod.snd → L'.Perm (x :: L)) : Have ks (i + 1) L' := by
  have tk : ks.take (i + 1) = ks.take i ++ [x] := by rw [List.take_succ, hx]; rfl
  by_cases m : x.2 ∈ L.map Prod.snd
  · rw [h1 m]
    refine ⟨g.sub, fun p hp => ?_, Nat.le_succ_of_le g.len⟩
    rw [tk] at hp
    rcases List.mem_append.mp hp with h | h
    · exact g.all p h
    · rw [List.mem_singleton.mp h]; exact m
  · have pm := h2 m
    refine ⟨fun p hp => ?_, fun p hp => ?_, by rw [pm.length_eq]; exact Nat.succ_le_succ g.len⟩
    · rcases List.mem_cons.mp (pm.mem_iff.mp hp) with e | h
      · rw [e]; exact List.mem_of_getElem? hx
      · exact g.sub p h
    · rw [(pm.map Prod.snd).mem_iff, List.map_cons]
      rw [tk] at hp
      rcases List.mem_append.mp hp with h | h
      · exact List.mem_cons_of_mem _ (g.all p h)
      · rw [List.mem_singleton.mp h]; exact List.mem_cons_self
variable {A : Around} {R : Result → Shared → Prop} {it : Addr} {fp wr : List Addr} {G : Array GenState → Array GenState → Prop} {n : Nat} {T : Nat → Value → Prop} {Z : Nat → Shared → Prop}
theorem fills (D : Dulls knd) (W : WalksS P w A.in1 it fp wr G n T Z) (hu : A.units + 8 < cLine) (a : Addr) (out : a ∉ fp) (ks : TL K) (len : ks.length = n) (few : n < 64) (txt : ∀ i v, T i v → ∃ p, ks[i]? = some p ∧ v = Value.ref p.1) (off : ∀ p ∈ ks, p.1 ∉ wr) :
    ∀ (k i : Nat) (s : Shared), n - i = k → i ≤ n → Z i s → (∀ p ∈ ks, IsTupleKey knd s.heap p.2 p.1) → (∃ L es ep t, SetG knd s.heap a L es ep t ∧ Have ks i L) →
      (∀ s', Moved (a :: wr) G s s' → (∃ L es ep t, SetG knd s'.heap a L es ep t ∧ Have ks n L) → R (.ok (.ret .none)) s') → codeAny (model P w) A (.builtin "set.update.loop" ⟨[.ref a, .ref it], []⟩) R s := by
  have out' : a ∉ wr := fun h => out (W.sub _ h)
  intro k
  induction k with
  | zero =>
    intro i s hk hi hst ht hS fin
    cases (show n = i by omega)
    obtain ⟨L, es, ep, t, S, g⟩ := hS
    obtain ⟨o, o1, o2⟩ := S.obj
    refine codeAny_builtin F.entry_set_update_loop (by
      rw [Around.under_plainId F.plain_set_update_loop _]
      exact wpAny_bind (m := pyNext (.ref it)) (W.done s _ _ hst fun s' mv => wpAny_pure (fin s' (mv.mono fun b h => List.mem_cons_of_mem _ h) ⟨L, es, ep, t, ⟨⟨o, mv.heap a o out' o1, o2⟩, S.ents, S.tbl, S.uni, fun p hp => tk_keep (S.its p hp) fun o e => mv.heap _ o (off p (g.sub p hp)) e, S.led, S.few, S.roomy⟩, g⟩)))
  | succ k ih =>
    intro i s hk hi hst ht hS fin
    have lt : i < n := by omega
    refine codeAny_builtin F.entry_set_update_loop (by
      rw [Around.under_plainId F.plain_set_update_loop _]
      refine wpAny_bind (m := pyNext (.ref it)) (W.item i s _ _ lt hst fun v s1 hv st1 mv => ?_)
      obtain ⟨p, hp, rfl⟩ := txt i v hv
      have pm := List.mem_of_getElem? hp
      obtain ⟨L, es, ep, t, S, g⟩ := hS
      obtain ⟨o, o1, o2⟩ := S.obj
      have S1 : SetG knd s1.heap a L es ep t := ⟨⟨o, mv.heap a o out' o1, o2⟩, S.ents, S.tbl, S.uni, fun p hp => tk_keep (S.its p hp) fun o e => mv.heap _ o (off p (g.sub p hp)) e, S.led, S.few, S.roomy⟩
      have t1 : ∀ p ∈ ks, IsTupleKey knd s1.heap p.2 p.1 := fun q hq => tk_keep (ht q hq) fun o e => mv.heap _ o (off q hq) e
      refine wpAny_bind (m := holding [Value.ref p.1] (setAdd a (.ref p.1))) (wpAny_holding ?_)
      unfold setAdd
      refine wpAny_holding (wpAny_bind (wpAny_pyHash_tuple (by show A.units + 1 < cLine; omega) (t1 p pm) ?_))
      refine adds (s := { s1 with toks := s1.toks + (p.2.length + 1) }) D S1 (t1 p pm) (by show A.units + 1 < cLine; omega) rfl (by have := g.len; omega) fun b h' L' es' ep' t' sb S2 e1 e2 => ?_
      obtain ⟨oa, oa1, oa2, oa3⟩ := S1.obj
      refine wpAny_pure ⟨plainId_quiet F.plain_set_update_loop _, ih (i + 1) _ (by omega) lt (W.frame _ s1 _ _ st1 (Nat.le_add_right _ _) fun b hb o e => (sb.2 b fun h : b = a => out (h ▸ hb)).trans e) (fun q hq => tk_but (t1 q hq) oa1 oa3 sb) ⟨L', es', ep', t', S2, g.next hp e1 e2⟩ fun s2 m2 S4 => fin s2 ?_ S4⟩
      exact Moved.trans W.gtrans ((mv.mono fun b h => List.mem_cons_of_mem _ h).then_heap (Nat.le_add_right _ _) fun b o hb e => (sb.2 b fun h : b = a => hb (h ▸ List.mem_cons_self)).trans e) m2)
end
section
variable {P : Program} {w : World} {K : Type} [DecidableEq K] {knd : KeyKind P w K} {A : Around} {E : Value → Shared → Prop} {s : Shared}
theorem empty_g {h : Heap} {a : Addr} {led : Bool} (hl : w.params.followText "set-order" = true ∨ led = true) (ho : h.get? a = some { cls := .type "set", dict := none, data := .set #[] 0 (.fresh 0 0 led) }) : SetG knd h a [] #[] 0 (.fresh 0 0 led) where
  obj := ⟨_, ho, ⟨rfl, rfl, rfl⟩, rfl⟩
  ents := rfl
  tbl := ⟨List.Pairwise.nil, rfl, rfl, .inl rfl, fun _ h => by simp [SetTable.fresh] at h, fun i h j e => by simp at e⟩
  uni := .nil
  its := fun _ h => nomatch h
  led := hl
  few := by show 0 < 64; decide
  roomy := by show 0 < 7 * 3; decide
def FilledG (knd : KeyKind P w K) (s : Shared) (ks : TL K) (h : Heap) : Prop := (∃ L es ep t, SetG knd h s.heap.objs.size L es ep t ∧ Have ks ks.length L) ∧ ∀ b o, b < s.heap.objs.size → s.heap.get? b = some o → h.get? b = some o
theorem init_g (D : Dulls knd) {l : Addr} {items : Array Value} {ks : TL K} (calm : A.handled = none) (hu : A.units + 40 < cLine) (hl : s.heap.IsList l items) (ht : items.toList = ks.map fun p => Value.ref p.1) (hk : ∀ p ∈ ks, IsTupleKey knd s.heap p.2 p.1) (few : ks.length < 64)
    {Q : PySem.Fin → Shared → Prop} (fin : ∀ h' tk, FilledG knd s ks h' → Q (.done (.ret .none)) { s with heap := h', toks := tk }) :
    wpAny (model P w) A (Builtin.«set.__init__» ⟨[Value.ref s.heap.objs.size, Value.ref l], []⟩) Q E (SetSort.made w s) := by
  have new : (SetSort.made w s).heap.get? s.heap.objs.size = some (SetSort.bare w) := Heap.get?_push_size _ rfl
  obtain ⟨o, ho, hc, nl, hd⟩ := hl
  obtain ⟨oc, od, oe, os⟩ := o
  cases hc
  cases hd
  have hl : s.heap.IsList l items := ⟨_, ho, rfl, nl, rfl⟩
  have ho1 : (SetSort.made w s).heap.get? l = some { cls := .type "list", dict := od, data := .seq items nl, slots := os } := Heap.get?_push_of_some _ ho
  have hl1 : (SetSort.made w s).heap.IsList l items := ⟨_, ho1, rfl, nl, rfl⟩
  have f1 := F.sub_list_set
  have f2 := F.sub_list_frozenset
  have f3 : (Value.type "list" == Value.type "dict") = false := by decide
  have lt : l < s.heap.objs.size := Heap.lt_size ho
  have sz : (SetSort.made w s).heap.objs.size = s.heap.objs.size + 1 := Heap.size_push _ _
  have tx : ks.length = items.size := by rw [← Array.length_toList, ht, List.length_map]
  unfold Builtin.«set.__init__»; unfold noKeywords; unfold Builtin.Frozenset.updateFrom
  unfold SetSort.made at *
  generalize hPI : pyIter = PI
  wp_walk
  subst hPI
  refine wpAny_pyIter_list hl1 (wpAny_bind (wpAny_runValue ?_))
  have apart : l ≠ (s.heap.push (SetSort.bare w)).objs.size := by rw [sz]; exact Nat.ne_of_lt (Nat.lt_succ_of_lt lt)
  have out : s.heap.objs.size ∉ [(s.heap.push (SetSort.bare w)).objs.size, l] := by
    rw [sz]
    simp only [List.mem_cons, List.not_mem_nil, or_false, not_or]
    exact ⟨Nat.ne_of_lt (Nat.lt_succ_self _), Nat.ne_of_gt lt⟩
  have old : ∀ p ∈ ks, p.1 < s.heap.objs.size := fun p hp => by
    obtain ⟨_, _, _, e, _⟩ := hk p hp
    exact Heap.lt_size e
  refine fills D ((Walks.list (by simp [calm]) _ l apart items).toS) ?hu s.heap.objs.size out ks tx (by omega) (fun i v hv => ?_) (fun p hp => ?_) (items.size - 0) 0 _ (by omega) (Nat.zero_le _) ⟨⟨_, Heap.get?_push_size _ rfl, rfl, rfl⟩, (hl1.push _)⟩
    (fun p hp => tk_keep (hk p hp) fun o e => Heap.get?_push_of_some _ (Heap.get?_push_of_some _ e)) ⟨[], #[], 0, _, empty_g ?led (Heap.get?_push_of_some _ new), ⟨fun _ h => (nomatch h), fun _ h => by simp at h, Nat.le_refl _⟩⟩ fun s2 mv S2 => ?_
  case hu => first | (show A.units + 8 < cLine; omega) | (show A.units + 1 + 8 < cLine; omega) | (show A.units + 1 + 1 + 8 < cLine; omega) | (simp [Around.under, Code.cUnits]; omega)
  case led =>
    show _ ∨ (!w.params.followText "set-order") = true
    cases w.params.followText "set-order"
    · exact .inr rfl
    · exact .inl rfl
  · have hv' : items.toList[i]? = some v := by rw [Array.getElem?_toList]; exact hv
    rw [ht, List.getElem?_map] at hv'
    cases e : ks[i]? with
    | none => rw [e] at hv'; cases hv'
    | some p =>
      rw [e] at hv'
      exact ⟨p, rfl, (Option.some.inj hv').symm⟩
  · have := old p hp
    simp only [List.mem_cons, List.not_mem_nil, or_false]
    rw [sz]
    exact Nat.ne_of_lt (Nat.lt_succ_of_lt this)
  obtain ⟨h2, g2, d2, tk, os2⟩ := s2
  cases (show g2 = s.gens from mv.gens)
  cases (show d2 = s.drawn from mv.drawn)
  cases (show os2 = s.os from mv.os)
  refine wpAny_pure (wpAny_pure (fin h2 tk ⟨by rw [tx]; exact S2, fun b o hb e => mv.heap b o ?_ (Heap.get?_push_of_some _ (Heap.get?_push_of_some _ e))⟩))
  simp only [List.mem_cons, List.not_mem_nil, or_false, not_or]
  exact ⟨Nat.ne_of_lt hb, by rw [sz]; exact Nat.ne_of_lt (Nat.lt_succ_of_lt hb)⟩
set_option maxHeartbeats 1600000 in
theorem call_g (D : Dulls knd) {l : Addr} {items : Array Value} {ks : TL K} {Q : Value → Shared → Prop} (calm : A.handled = none) (hu : A.units + 100 < cLine) (hl : s.heap.IsList l items) (ht : items.toList = ks.map fun p => Value.ref p.1) (hk : ∀ p ∈ ks, IsTupleKey knd s.heap p.2 p.1) (few : ks.length < 64)
    (fin : ∀ (h' : Heap) (tk : Nat), FilledG knd s ks h' → Q (.ref s.heap.objs.size) { s with heap := h', toks := tk }) : wpAny (model P w) A (call (.type "set") [.ref l]) Q E s := by
  obtain ⟨c, tl, hmro⟩ := F.called_set.mro
  have k1 := F.called_set.made
  have k2 := F.called_set.sub
  have k3 := F.called_set.notType
  have k4 := F.called_set.canCreate
  have k5 := F.typeCall_set_1 (.ref l)
  refine wpAny_call (codeAny_of_tree (wpAny_pure (M := model P w) ⟨Code.quiet_builtin _ (by decide +kernel), codeAny_builtin F.entry_type_call ?_⟩))
  rw [Around.under_plain (weight_type_call_type "set" [.ref l] []) rfl]
  repeat (any_goals (first | assumption | wp_step))
  refine codeAny_mono (SetSort.code_led (.ref l) (E := E) (Q1 := fun x s1 => x = .ref s.heap.objs.size ∧ s1 = SetSort.made w s) ⟨rfl, rfl⟩) fun r s1 hr => ?_
  rcases r with e | (_ | _ | _ | x)
  · exact hr
  · exact hr.elim
  · exact hr.elim
  · exact hr.elim
  obtain ⟨rfl, rfl⟩ := hr
  have ty : Shared.TypeIs (SetSort.made w s) (.ref s.heap.objs.size) "set" := ⟨_, Heap.get?_push_size _ rfl, rfl⟩
  have b1 := F.called_set.init.lookup
  have b2 := F.called_set.init.bind (.ref s.heap.objs.size)
  repeat (any_goals (first | assumption | wp_step))
  refine codeAny_call_builtin F.called_set.init.plain F.entry_set_init (check_set_init_1 ty (init_g D (by simp [calm]) ?_ hl ht hk few fun h' tk fl => ?_))
  · first | (show A.units + 40 < cLine; omega) | (show A.units + 1 + 40 < cLine; omega) | (show A.units + 1 + 1 + 40 < cLine; omega) | (simp [Around.under, Code.cUnits]; omega)
  refine wpAny_pure ?_
  repeat (any_goals (first | assumption | wp_step))
  exact fin _ _ fl
end
end GS
end

-- TupSet4
section
set_option Elab.async false
set_option linter.all false
set_option maxRecDepth 100000
/-! sorted(set(xs)), xs a list of tuples of texts and ints. -/
namespace GS
open PySem PySem.Spec PyProof.Rows L2
def encK : L2.Key → PyData
  | .inl i => .int i
  | .inr x => .str x
def encT (k : List L2.Key) : PyData := .tuple (k.map encK)
theorem toksK_inj {a b : L2.Key} {r q : List (Int ⊕ List Nat)} (e : W.keyToks (encK a) ++ r = W.keyToks (encK b) ++ q) : a = b ∧ r = q := by
  cases a with
  | inl i => cases b with
    | inl j =>
      simp only [encK, W.keyToks, List.cons_append, List.nil_append, List.cons.injEq, Sum.inl.injEq] at e
      exact ⟨by rw [e.1], e.2⟩
    | inr y => simp [encK, W.keyToks] at e
  | inr x => cases b with
    | inl j => simp [encK, W.keyToks] at e
    | inr y =>
      simp only [encK, W.keyToks, List.cons_append, List.nil_append, List.cons.injEq, Sum.inr.injEq] at e
      exact ⟨by rw [W.str_of_cps e.1], e.2⟩
theorem toksT_inj : ∀ {a b : List L2.Key}, W.keyToksAll (a.map encK) = W.keyToksAll (b.map encK) → a = b
  | [], [], _ => rfl
  | [], _ :: _, e => by simp [W.keyToksAll] at e
  | _ :: _, [], e => by simp [W.keyToksAll] at e
  | x :: xs, y :: ys, e => by
    simp only [List.map_cons, W.keyToksAll, List.cons.injEq, true_and] at e
    obtain ⟨e1, e2⟩ := toksK_inj e
    rw [e1, toksT_inj e2]
/-- a before b, or the same -/
def leT (a b : List L2.Key) : Bool := !W.dataLt (encT b) (encT a)
theorem leT_anti {a b : List L2.Key} (h : leT a b = true) (h' : leT b a = true) : a = b := by
  unfold leT W.dataLt at h h'
  have := PyProof.Rows.lex_total (O := PyProof.Rows.itemOrd) _ _ (by simpa using h') (by simpa using h)
  exact toksT_inj (by simpa [encT, W.keyToks] using this)
theorem leT_total (a b : List L2.Key) : (leT a b || leT b a) = true := by
  unfold leT W.dataLt
  cases h : PyProof.Rows.lexLt PyProof.Rows.itemOrd (W.keyToks (encT b)) (W.keyToks (encT a)) with
  | false => rfl
  | true =>
    cases h' : PyProof.Rows.lexLt PyProof.Rows.itemOrd (W.keyToks (encT a)) (W.keyToks (encT b)) with
    | false => rfl
    | true => exact absurd (PyProof.Rows.lex_trans (O := PyProof.Rows.itemOrd) _ _ _ h h') (by rw [PyProof.Rows.lex_irrefl]; simp)
theorem leT_trans (a b c : List L2.Key) (h : leT a b = true) (h' : leT b c = true) : leT a c = true := by
  unfold leT W.dataLt at *
  cases e : PyProof.Rows.lexLt PyProof.Rows.itemOrd (W.keyToks (encT c)) (W.keyToks (encT a)) with
  | false => rfl
  | true =>
    rcases PyProof.Rows.lex_negTrans (O := PyProof.Rows.itemOrd) _ (W.keyToks (encT b)) _ e with z | z
    · rw [z] at h'; cases h'
    · rw [z] at h; cases h
/-- each once -/
def dd {α : Type} [DecidableEq α] : List α → List α
  | [] => []
  | x :: r => if x ∈ dd r then dd r else x :: dd r
theorem mem_dd {α : Type} [DecidableEq α] {x : α} : ∀ {l : List α}, x ∈ dd l ↔ x ∈ l
  | [] => by simp [dd]
  | y :: r => by
    unfold dd
    split
    · rename_i h
      rw [mem_dd, List.mem_cons]
      exact ⟨Or.inr, fun e => e.elim (fun z => by rw [z]; exact mem_dd.mp h) id⟩
    · rw [List.mem_cons, List.mem_cons, mem_dd]
theorem nodup_dd {α : Type} [DecidableEq α] : ∀ l : List α, (dd l).Nodup
  | [] => List.nodup_nil
  | y :: r => by
    unfold dd
    split
    · exact nodup_dd r
    · exact List.nodup_cons.mpr ⟨by assumption, nodup_dd r⟩
/-- what sorted(set(..)) tells -/
def srtT (ks : List (List L2.Key)) : List (List L2.Key) := (dd ks).mergeSort leT
theorem mem_srtT {ks : List (List L2.Key)} {k : List L2.Key} : k ∈ srtT ks ↔ k ∈ ks := by
  unfold srtT
  rw [(List.mergeSort_perm _ _).mem_iff, mem_dd]
theorem nodup_srtT (ks : List (List L2.Key)) : (srtT ks).Nodup := (List.mergeSort_perm _ _).nodup_iff.mpr (nodup_dd ks)
theorem pw_srtT (ks : List (List L2.Key)) : (srtT ks).Pairwise fun a b => leT a b = true := List.pairwise_mergeSort leT_trans leT_total _
theorem sorted_one {α : Type} {R : α → α → Prop} (anti : ∀ a b, R a b → R b a → a = b) : ∀ {l m : List α}, l.Perm m → l.Pairwise R → m.Pairwise R → l = m
  | [], m, p, _, _ => (List.nil_perm.mp p).symm ▸ rfl
  | x :: l, [], p, _, _ => by cases List.perm_nil.mp p
  | x :: l, y :: m, p, h, h' => by
    have e : x = y := by
      rcases List.mem_cons.mp (p.mem_iff.mp List.mem_cons_self) with z | z
      · exact z
      · rcases List.mem_cons.mp (p.mem_iff.mpr List.mem_cons_self) with u | u
        · exact u.symm
        · exact anti _ _ ((List.pairwise_cons.mp h).1 y u) ((List.pairwise_cons.mp h').1 x z)
    subst e
    rw [sorted_one anti p.cons_inv (List.pairwise_cons.mp h).2 (List.pairwise_cons.mp h').2]
theorem same_mem_perm {α : Type} [DecidableEq α] {l m : List α} (h : l.Nodup) (h' : m.Nodup) (e : ∀ x, x ∈ l ↔ x ∈ m) : l.Perm m := (List.perm_ext_iff_of_nodup h h').mpr e
theorem srtT_uniq {ks zs : List (List L2.Key)} (h : zs.Nodup) (m : ∀ k, k ∈ zs ↔ k ∈ ks) (p : zs.Pairwise fun a b => leT a b = true) : zs = srtT ks :=
  sorted_one (fun _ _ => leT_anti) (same_mem_perm h (nodup_srtT ks) fun k => (m k).trans mem_srtT.symm) p (pw_srtT ks)
theorem perm_map_inv {α β : Type} {f : α → β} {vs M : List β} (p : vs.Perm M) : ∀ L : List α, M = L.map f → ∃ L' : List α, L'.Perm L ∧ vs = L'.map f := by
  induction p with
  | nil => exact fun L e => ⟨[], by rw [List.map_eq_nil_iff.mp e.symm], rfl⟩
  | cons x _ ih =>
    intro L e
    cases L with
    | nil => cases e
    | cons y L =>
      rw [List.map_cons] at e
      injection e with e1 e2
      obtain ⟨L', h1, h2⟩ := ih L e2
      exact ⟨y :: L', h1.cons y, by rw [List.map_cons, e1, h2]⟩
  | swap x y l =>
    intro L e
    cases L with
    | nil => cases e
    | cons a L =>
      cases L with
      | nil => cases e
      | cons b L =>
        rw [List.map_cons, List.map_cons] at e
        injection e with e1 e
        injection e with e2 e3
        exact ⟨b :: a :: L, List.Perm.swap a b L, by rw [List.map_cons, List.map_cons, e1, e2, e3]⟩
  | trans _ _ ih1 ih2 =>
    intro L e
    obtain ⟨L1, h1, h2⟩ := ih2 L e
    obtain ⟨L2, h3, h4⟩ := ih1 L1 h2
    exact ⟨L2, h3.trans h1, h4⟩
section
variable {P : Program} {w : World} {A : Around} {E : Value → Shared → Prop} {s : Shared}
theorem reads_items {h : Heap} : ∀ {ks : List L2.Key} {vs : List Value}, ItemsAre (mixKind P w) ks vs → ReadsAll h vs (ks.map encK) []
  | _, _, .nil => .nil
  | k :: ks, _, .cons h1 h2 => by
    refine ReadsAll.cons (as := []) ?_ (reads_items h2)
    rcases keyIs_shape h1 with ⟨i, t, rfl, rfl⟩ | ⟨x, t, rfl, rfl⟩
    · exact .int i t
    · exact .str x t
theorem reads_tup {h : Heap} {k : List L2.Key} {b : Addr} (t : IsTupleKey (mixKind P w) h k b) : Reads h (.ref b) (encT k) [] := by
  obtain ⟨o, its, n, o1, o2, o3, o4⟩ := t
  exact .tuple o1 o2 o3 (reads_items o4)
theorem depthT (k : List L2.Key) : (encT k).depth ≤ 1 := by
  have : ∀ l : List L2.Key, PyData.depthAll (l.map encK) = 0 := fun l => by
    induction l with
    | nil => simp [PyData.depthAll]
    | cons x l ih =>
      rw [List.map_cons, PyData.depthAll, ih]
      cases x <;> simp [encK, PyData.depth]
  unfold encT
  rw [PyData.depth, this]
  exact Nat.le_refl _
theorem dulls_mix : Dulls (mixKind P w) := fun k v h => by
  rcases keyIs_shape h with ⟨i, t, rfl, rfl⟩ | ⟨x, t, rfl, rfl⟩
  · exact dull_int i t
  · exact dull_str x t
theorem eachIs_map {β : Type} {R : Value → β → Prop} {f : β → Value} (h : ∀ b, R (f b) b) : ∀ l : List β, W.EachIs R (l.map f) l
  | [] => .nil
  | b :: l => .cons (h b) (eachIs_map h l)
theorem eachIs_eq {β : Type} {f : β → Value} : ∀ {vs : List Value} {l : List β}, W.EachIs (fun v b => v = f b) vs l → vs = l.map f
  | _, _, .nil => rfl
  | _, _, .cons e t => by rw [List.map_cons, e, eachIs_eq t]
theorem sorted_g {a : Addr} {ks L : TL L2.Key} {es : Array (Int × Value)} {ep : Nat} {t : SetTable} {Q : Value → Shared → Prop} (R : SetG (mixKind P w) s.heap a L es ep t) (g : Have ks ks.length L) (calm : A.handled = none) (hu : A.units + 20 < cLine)
    (al : ∀ p ∈ ks, ∀ q ∈ ks, W.alike (encT p.2) (encT q.2) = true) (ne : ∀ p ∈ ks, p.2 ≠ [])
    (fin : ∀ s' p (out : Array Value) (c : Nat) (Z : TL L2.Key), (∀ b o, s.heap.get? b = some o → s'.heap.get? b = some o) → s'.gens = s.gens → s'.os = s.os → s.heap.objs.size ≤ p →
      s'.heap.get? p = some (seqObj "list" out c) → out.toList = Z.map (fun p => Value.ref p.1) → (∀ z ∈ Z, z ∈ ks) → Z.map Prod.snd = srtT (ks.map Prod.snd) → Q (.ref p) s') :
    wpAny (model P w) A (call (.builtin "sorted") [.ref a]) Q E s := by
  obtain ⟨o, ho, hex, hd⟩ := R.obj
  refine Calls.call_function_entry kind_sorted plain_sorted entry_sorted (args_sorted1 _) (by
    unfold Builtin.«sorted»
    refine wpAny_bind (m := checkCount "sorted" 1 1 _) (wpAny_pure (wpAny_bind (collect_set (A := A.in1) calm ⟨o, ho, hex.1, hd⟩ R.fit (by have := R.esz; have := R.few; unfold scanBound; omega) R.tbl.ris R.led fun s1 vs k1 hz g1 o1 pm => ?_)))
    have ee : es.toList.map (·.2) = L.map fun p => Value.ref p.1 := by
      rw [R.ents, List.map_map]
      rfl
    rw [ee] at pm
    obtain ⟨L', pl, rfl⟩ := perm_map_inv pm L rfl
    have fewL := R.few
    have ll : L'.length = L.length := pl.length_eq
    have inK : ∀ p ∈ L', p ∈ ks := fun p hp => g.sub p (pl.mem_iff.mp hp)
    refine wpAny_bind (wpAny_newList ?_ (by rw [List.length_map, sizeLine_eq]; omega))
    have hoL : (s1.heap.push (seqObj "list" (L'.map fun p => Value.ref p.1).toArray 0)).get? s1.heap.objs.size = some (seqObj "list" (L'.map fun p => Value.ref p.1).toArray 0) := Heap.get?_push_size _ rfl
    have rd : ∀ p ∈ L', Reads (s1.heap.push (seqObj "list" (L'.map fun p => Value.ref p.1).toArray 0)) (.ref p.1) (encT p.2) [] := fun p hp => reads_tup (tk_keep (R.its p (pl.mem_iff.mp hp)) fun o e => Heap.get?_push_of_some _ (k1 _ _ e))
    have er : W.EachIs (fun v (b : Addr × List L2.Key) => ∃ as, Reads (s1.heap.push (seqObj "list" (L'.map fun p => Value.ref p.1).toArray 0)) v (encT b.2) as ∧ s1.heap.objs.size ∉ as) (L'.map fun p => Value.ref p.1) L' := by
      generalize s1.heap.push (seqObj "list" (L'.map fun p => Value.ref p.1).toArray 0) = hh at rd
      clear hoL ll inK pm pl
      induction L' with
      | nil => exact .nil
      | cons x l ih => exact .cons ⟨[], rd x List.mem_cons_self, fun h => nomatch h⟩ (ih fun p hp => rd p (List.mem_cons_of_mem _ hp))
    refine wpAny_bind (wpAny_holding (W.list_sort_data (R := fun v (b : Addr × List L2.Key) => v = Value.ref b.1) (enc := fun b => encT b.2) hoL (eachIs_map (f := fun b : Addr × List L2.Key => Value.ref b.1) (fun b => rfl) L') er ?al ?so (by rw [sizeLine_eq]; omega) (fun b hb => ?hu) fun out lo eo => ?_))
    case al =>
      intro d hd d' hd'
      obtain ⟨p, hp, rfl⟩ := List.mem_map.mp hd
      obtain ⟨q, hq, rfl⟩ := List.mem_map.mp hd'
      exact al p (inK p hp) q (inK q hq)
    case so =>
      refine .inl fun d hd => ?_
      obtain ⟨p, hp, rfl⟩ := List.mem_map.mp hd
      have := ne p (inK p hp)
      cases e : p.2 with
      | nil => exact absurd e this
      | cons x r => exact ⟨encK x, r.map encK, rfl⟩
    case hu =>
      have := depthT b.2
      first | (show A.units + 1 + (encT b.2).depth < cLine; omega) | (show A.units + 1 + 1 + (encT b.2).depth < cLine; omega)
    obtain ⟨c, hc⟩ := sortedHeap_at (vs := L'.map fun p => Value.ref p.1) (out := out.toArray) hoL
    have zs : (L'.mergeSort (W.dataLe false fun b => encT b.2)).Perm L' := List.mergeSort_perm _ _
    refine wpAny_pure ⟨_, rfl, fin _ s1.heap.objs.size _ c (L'.mergeSort (W.dataLe false fun b => encT b.2)) (fun b u e => ?_) g1 o1 hz hc (by simpa using eachIs_eq (f := fun b : Addr × List L2.Key => Value.ref b.1) eo) (fun z hz => inK z (zs.mem_iff.mp hz)) ?_⟩
    · have q := k1 b u e
      have lt := Heap.lt_size q
      show (sortedHeap (s1.heap.push (seqObj "list" (L'.map fun p => Value.ref p.1).toArray 0)) s1.heap.objs.size (L'.map fun p => Value.ref p.1) _).get? b = some u
      rw [sortedHeap_old (Nat.ne_of_lt lt) (by rw [size_push']; exact Nat.lt_succ_of_lt lt)]
      exact Heap.get?_push_of_some _ q
    · refine srtT_uniq (((zs.trans pl).map Prod.snd).nodup_iff.mpr R.uni) (fun k => ?_) ?_
      · rw [((zs.trans pl).map Prod.snd).mem_iff]
        refine ⟨fun h => ?_, fun h => ?_⟩
        · obtain ⟨p, hp, rfl⟩ := List.mem_map.mp h
          exact List.mem_map.mpr ⟨p, g.sub p hp, rfl⟩
        · obtain ⟨p, hp, rfl⟩ := List.mem_map.mp h
          exact g.all p (by rw [List.take_length]; exact hp)
      · rw [List.pairwise_map]
        exact List.pairwise_mergeSort (le := W.dataLe false fun b : Addr × List L2.Key => encT b.2) (fun a b c => leT_trans a.2 b.2 c.2) (fun a b => leT_total a.2 b.2) L')
end
end GS
end

-- J5m
section
set_option Elab.async false
set_option linter.all false
set_option maxRecDepth 100000
/-! pairs of names: owners, certificates, paths: pure. -/
namespace R9
open PySem R6 GS
abbrev Sec := List (Str × List Str)
abbrev fs (S : Sec) : List Str := S.map (·.1)
def sq? (S : Sec) (f : Str) : Option (List Str) := (S.find? fun p => decide (p.1 = f)).map (·.2)
def sq (S : Sec) (f : Str) : List Str := (sq? S f).getD []
def Cert (S : Sec) (O : Mp) (f : Str) : Prop := ∃ A R : List Str, f ∈ A ∧ (∀ a ∈ A, ∀ s ∈ sq S a, s ∈ R) ∧ ∀ r ∈ R, ∃ o ∈ A, at_ O r = some o
theorem Cert.owned {S : Sec} {O : Mp} {f s : Str} (c : Cert S O f) (h : s ∈ sq S f) : ∃ o, at_ O s = some o ∧ Cert S O o := by
  obtain ⟨A, R, h1, h2, h3⟩ := c
  obtain ⟨o, ho, e⟩ := h3 s (h2 f h1 s h)
  exact ⟨o, e, A, R, ho, h2, h3⟩
structure Mtc (S : Sec) (O : Mp) (dn : List Str) : Prop where
  kn : (ks O).Nodup
  inj : ∀ s t f, at_ O s = some f → at_ O t = some f → s = t
  sub : ∀ s f, at_ O s = some f → s ∈ sq S f ∧ f ∈ fs S ∧ f ∈ dn
  cert : ∀ f ∈ dn, (∃ s, at_ O s = some f) ∨ Cert S O f
theorem at_in {m : Mp} {k : Str} (h : k ∈ ks m) : ∃ v, at_ m k = some v := let ⟨v, e, _⟩ := at_key h; ⟨v, e⟩
theorem in_of_at {m : Mp} {k v : Str} (h : at_ m k = some v) : k ∈ ks m := List.mem_map.mpr ⟨_, at_some h, rfl⟩
theorem not_in {m : Mp} {k : Str} (h : at_ m k = none) : k ∉ ks m := fun z => by
  obtain ⟨v, e⟩ := at_in z
  rw [e] at h; cases h
theorem at_app {m n : Mp} {k : Str} : at_ (m ++ n) k = (at_ m k).or (at_ n k) := by
  unfold at_
  rw [List.find?_append]
  cases m.find? fun p => decide (p.1 = k) <;> rfl
theorem at_cons {p : Str × Str} {m : Mp} {k : Str} : at_ (p :: m) k = if p.1 = k then some p.2 else at_ m k := by
  unfold at_
  rw [List.find?_cons]
  by_cases e : p.1 = k
  · rw [decide_eq_true e, if_pos e]; rfl
  · rw [decide_eq_false e, if_neg e]
theorem at_more {m n : Mp} {k v : Str} (h : at_ m k = some v) : at_ (m ++ n) k = some v := by rw [at_app, h]; rfl
theorem at_new {m : Mp} {k v : Str} (h : k ∉ ks m) : at_ (m ++ [(k, v)]) k = some v := by rw [at_app, at_none h, at_cons, if_pos rfl]; rfl
theorem at_old {m : Mp} {k v x : Str} (h : x ≠ k) : at_ (m ++ [(k, v)]) x = at_ m x := by
  rw [at_app, at_cons, if_neg (fun e => h e.symm)]
  cases at_ m x <;> rfl
theorem ks_snoc (m : Mp) (k v : Str) : ks (m ++ [(k, v)]) = ks m ++ [k] := by unfold ks; rw [List.map_append]; rfl
theorem mem_snoc {α : Type} {l : List α} {x y : α} : x ∈ l ++ [y] ↔ x ∈ l ∨ x = y := by rw [List.mem_append, List.mem_singleton]
theorem nd_snoc {α : Type} {l : List α} {y : α} (h : l.Nodup) (n : y ∉ l) : (l ++ [y]).Nodup :=
  List.nodup_append.mpr ⟨h, List.nodup_cons.mpr ⟨(fun z => nomatch z), List.nodup_nil⟩, fun a ha b hb e => n (by rw [← List.mem_singleton.mp hb, ← e]; exact ha)⟩
/-- m with v at k -/
def pt (m : Mp) (k v : Str) : Mp := if k ∈ ks m then m.map fun p => if p.1 = k then (p.1, v) else p else m ++ [(k, v)]
theorem ks_pt (m : Mp) (k v : Str) : ks (pt m k v) = if k ∈ ks m then ks m else ks m ++ [k] := by
  unfold pt
  split
  · unfold ks
    rw [List.map_map]
    refine List.map_congr_left fun p _ => ?_
    show (if p.1 = k then (p.1, v) else p).1 = p.1
    split <;> rfl
  · unfold ks
    rw [List.map_append]; rfl
theorem at_pt (m : Mp) (k v x : Str) : at_ (pt m k v) x = if x = k then some v else at_ m x := by
  unfold pt
  split
  · rename_i h
    induction m with
    | nil => cases h
    | cons p r ih =>
      rw [List.map_cons, at_cons]
      by_cases e : p.1 = k
      · rw [if_pos e]
        by_cases ex : x = k
        · rw [if_pos (by rw [ex]; exact e), if_pos ex]
        · rw [if_neg (fun z => ex (by rw [← z]; exact e)), if_neg ex, at_cons, if_neg (fun z => ex (by rw [← z]; exact e))]
          by_cases hr : k ∈ ks r
          · rw [ih hr, if_neg ex]
          · have : r.map (fun p => if p.1 = k then (p.1, v) else p) = r := by
              refine (List.map_congr_left fun q hq => ?_).trans (List.map_id r)
              rw [if_neg (fun z => hr (List.mem_map.mpr ⟨q, hq, z⟩))]; rfl
            rw [this]
      · have hr : k ∈ ks r := by
          rcases List.mem_cons.mp (show k ∈ p.1 :: ks r from h) with z | z
          · exact absurd z.symm e
          · exact z
        rw [if_neg e, at_cons, ih hr]
        by_cases ep : p.1 = x
        · rw [if_pos ep, if_pos ep, if_neg (fun z => e (ep.trans z))]
        · rw [if_neg ep, if_neg ep]
  · rename_i h
    by_cases ex : x = k
    · rw [if_pos ex, ex, at_new h]
    · rw [if_neg ex, at_old ex]
theorem nd_pt {m : Mp} (k v : Str) (h : (ks m).Nodup) : (ks (pt m k v)).Nodup := by
  rw [ks_pt]
  split
  · exact h
  · rename_i n
    exact nd_snoc h n
def ovr (O M : Mp) : Mp := M.foldl (fun m p => pt m p.1 p.2) O
theorem nd_ovr : ∀ (M : Mp) {O : Mp}, (ks O).Nodup → (ks (ovr O M)).Nodup
  | [], _, h => h
  | p :: M, _, h => nd_ovr M (nd_pt p.1 p.2 h)
theorem at_ovr : ∀ (M : Mp) (O : Mp) (x : Str), (ks M).Nodup → at_ (ovr O M) x = (at_ M x).or (at_ O x)
  | [], _, _, _ => rfl
  | p :: M, O, x, h => by
    obtain ⟨h1, h2⟩ := List.nodup_cons.mp (show (p.1 :: ks M).Nodup from h)
    show at_ (ovr (pt O p.1 p.2) M) x = _
    rw [at_ovr M _ x h2, at_pt, at_cons]
    by_cases e : p.1 = x
    · rw [if_pos e, if_pos e.symm, at_none (by rw [← e]; exact h1)]; rfl
    · rw [if_neg e, if_neg (fun z => e z.symm)]
theorem len_pt (m : Mp) (k v : Str) : (pt m k v).length ≤ m.length + 1 := by
  unfold pt
  split
  · rw [List.length_map]; exact Nat.le_succ _
  · rw [List.length_append]; exact Nat.le_refl _
theorem len_ovr : ∀ (M O : Mp), (ovr O M).length ≤ O.length + M.length
  | [], _ => Nat.le_refl _
  | p :: M, O => by
    have := len_ovr M (pt O p.1 p.2)
    have := len_pt O p.1 p.2
    show (ovr (pt O p.1 p.2) M).length ≤ O.length + (M.length + 1)
    omega
/-! the way back -/
inductive Pth (c t : Mp) (st : Str) : Str → Mp → Prop
  | base {s : Str} : at_ c s = some st → Pth c t st s [(s, st)]
  | step {s f s' : Str} {M : Mp} : at_ c s = some f → f ≠ st → at_ t f = some s' → Pth c t st s' M → Pth c t st s ((s, f) :: M)
theorem Pth.det {c t : Mp} {st s : Str} {M N : Mp} (h : Pth c t st s M) (h' : Pth c t st s N) : M = N := by
  induction h generalizing N with
  | base e =>
    cases h' with
    | base _ => rfl
    | step e2 n _ _ => rw [e] at e2; exact absurd (Option.some.inj e2).symm n
  | step e n e1 _ ih =>
    cases h' with
    | base e2 => rw [e] at e2; exact absurd (Option.some.inj e2) n
    | step e2 _ e3 p =>
      rw [e] at e2
      cases e2
      rw [e1] at e3
      cases e3
      rw [ih p]
theorem Pth.mono {c t c' t' : Mp} {st s : Str} {M : Mp} (h : Pth c t st s M) (hc : ∀ x v, at_ c x = some v → at_ c' x = some v) (ht : ∀ x v, at_ t x = some v → at_ t' x = some v) : Pth c' t' st s M := by
  induction h with
  | base e => exact .base (hc _ _ e)
  | step e n e1 _ ih => exact .step (hc _ _ e) n (ht _ _ e1) ih
theorem Pth.on {c t : Mp} {st s : Str} {M : Mp} (h : Pth c t st s M) : ∀ p ∈ M, at_ c p.1 = some p.2 := by
  induction h with
  | base e => intro p hp; rw [List.mem_singleton.mp hp]; exact e
  | step e _ _ _ ih =>
    intro p hp
    rcases List.mem_cons.mp hp with rfl | hp
    · exact e
    · exact ih p hp
theorem Pth.head {c t : Mp} {st s : Str} {M : Mp} (h : Pth c t st s M) : ∃ f M', M = (s, f) :: M' ∧ at_ c s = some f := by
  cases h with
  | base e => exact ⟨_, _, rfl, e⟩
  | step e _ _ _ => exact ⟨_, _, rfl, e⟩
/-- the values behind the exchange -/
theorem Pth.aug {c t O : Mp} {st s : Str} {M : Mp} (h : Pth c t st s M) (th : ∀ o x, at_ t o = some x → at_ O x = some o) (nd : (ks M).Nodup) (inj : ∀ s t f, at_ O s = some f → at_ O t = some f → s = t) (no : ∀ x, at_ O x ≠ some st) :
    (∀ x y g, (at_ M x).or (at_ O x) = some g → (at_ M y).or (at_ O y) = some g → x = y) ∧ ∀ g, (∃ x, (at_ M x).or (at_ O x) = some g) ↔ (g = st ∨ ((∃ x, at_ O x = some g) ∧ at_ O s ≠ some g)) := by
  induction h with
  | @base s e =>
    have look : ∀ x, (at_ [(s, st)] x).or (at_ O x) = if s = x then some st else at_ O x := fun x => by
      rw [at_cons]
      split <;> rfl
    refine ⟨fun x y g hx hy => ?_, fun g => ⟨fun ⟨x, hx⟩ => ?_, fun h => ?_⟩⟩
    · rw [look] at hx hy
      by_cases ex : s = x
      · by_cases ey : s = y
        · exact ex.symm.trans ey
        · rw [if_pos ex] at hx
          rw [if_neg ey, ← hx] at hy
          exact absurd hy (no y)
      · by_cases ey : s = y
        · rw [if_pos ey] at hy
          rw [if_neg ex, ← hy] at hx
          exact absurd hx (no x)
        · rw [if_neg ex] at hx
          rw [if_neg ey] at hy
          exact inj x y g hx hy
    · rw [look] at hx
      by_cases ex : s = x
      · rw [if_pos ex] at hx
        exact .inl (Option.some.inj hx).symm
      · rw [if_neg ex] at hx
        exact .inr ⟨⟨x, hx⟩, fun z => ex (inj _ _ _ z hx)⟩
    · rcases h with rfl | ⟨⟨x, hx⟩, n⟩
      · exact ⟨s, by rw [look, if_pos rfl]⟩
      · refine ⟨x, by rw [look, if_neg (fun z => n (by rw [z]; exact hx))]; exact hx⟩
  | @step s f s' M e n e1 p ih =>
    obtain ⟨h1, h2⟩ := List.nodup_cons.mp (show (s :: ks M).Nodup from nd)
    obtain ⟨i1, i2⟩ := ih h2
    have os' := th _ _ e1
    have look : ∀ x, (at_ ((s, f) :: M) x).or (at_ O x) = if s = x then some f else (at_ M x).or (at_ O x) := fun x => by
      rw [at_cons]
      split <;> rfl
    have nf : ∀ x, (at_ M x).or (at_ O x) ≠ some f := fun x hx => by
      rcases (i2 f).mp ⟨x, hx⟩ with z | z
      · exact n z
      · exact z.2 os'
    have ss' : s ≠ s' := fun z => by
      obtain ⟨g, M', rfl, _⟩ := p.head
      exact h1 (by rw [z]; exact List.mem_cons_self)
    have os : (at_ M s).or (at_ O s) = at_ O s := by rw [at_none h1]; rfl
    refine ⟨fun x y g hx hy => ?_, fun g => ⟨fun ⟨x, hx⟩ => ?_, fun h => ?_⟩⟩
    · rw [look] at hx hy
      by_cases ex : s = x
      · by_cases ey : s = y
        · exact ex.symm.trans ey
        · rw [if_pos ex] at hx
          rw [if_neg ey, ← hx] at hy
          exact absurd hy (nf y)
      · by_cases ey : s = y
        · rw [if_pos ey] at hy
          rw [if_neg ex, ← hy] at hx
          exact absurd hx (nf x)
        · rw [if_neg ex] at hx
          rw [if_neg ey] at hy
          exact i1 x y g hx hy
    · rw [look] at hx
      by_cases ex : s = x
      · rw [if_pos ex] at hx
        cases hx
        exact .inr ⟨⟨s', os'⟩, fun z => ss' (inj _ _ _ z os')⟩
      · rw [if_neg ex] at hx
        rcases (i2 g).mp ⟨x, hx⟩ with z | ⟨z1, z2⟩
        · exact .inl z
        · refine .inr ⟨z1, fun z => ex ?_⟩
          exact i1 s x g (os.trans z) hx
    · rcases h with rfl | ⟨⟨x, hx⟩, ng⟩
      · obtain ⟨x, hx⟩ := (i2 g).mpr (.inl rfl)
        refine ⟨x, ?_⟩
        rw [look, if_neg]
        · exact hx
        · intro z
          rw [← z, os] at hx
          exact no s hx
      · by_cases eg : g = f
        · exact ⟨s, by rw [look, if_pos rfl, eg]⟩
        · obtain ⟨y, hy⟩ := (i2 g).mpr (.inr ⟨⟨x, hx⟩, fun z => eg (Option.some.inj (os'.symm.trans z)).symm⟩)
          refine ⟨y, ?_⟩
          rw [look, if_neg]
          · exact hy
          · intro z
            rw [← z, os] at hy
            exact ng hy
/-- a certificate's seconds aren't on it -/
theorem Pth.off {c t O : Mp} {S : Sec} {st s : Str} {M : Mp} (h : Pth c t st s M) (th : ∀ o x, at_ t o = some x → at_ O x = some o) (cs : ∀ x g, at_ c x = some g → x ∈ sq S g) {A R : List Str} (h2 : ∀ a ∈ A, ∀ s ∈ sq S a, s ∈ R) (h3 : ∀ r ∈ R, ∃ o ∈ A, at_ O r = some o)
    (no : s ∉ R) : ∀ x ∈ ks M, x ∉ R := by
  induction h with
  | base e => intro x hx; rw [List.mem_singleton.mp hx]; exact no
  | step e n e1 p ih =>
    intro x hx
    rcases List.mem_cons.mp hx with rfl | hx
    · exact no
    · refine ih (fun z => no ?_) x hx
      obtain ⟨o, ho, eo⟩ := h3 _ z
      rw [th _ _ e1] at eo
      cases eo
      exact h2 _ ho _ (cs _ _ e)
theorem Cert.keep {c t O : Mp} {S : Sec} {st s u : Str} {M : Mp} (h : Pth c t st s M) (th : ∀ o x, at_ t o = some x → at_ O x = some o) (cs : ∀ x g, at_ c x = some g → x ∈ sq S g) (free : at_ O s = none) (nd : (ks M).Nodup) (x : Cert S O u) : Cert S (ovr O M) u := by
  obtain ⟨A, R, h1, h2, h3⟩ := x
  have off := h.off th cs h2 h3 (fun z => by
    obtain ⟨o, _, e⟩ := h3 _ z
    rw [free] at e; cases e)
  refine ⟨A, R, h1, h2, fun r hr => ?_⟩
  obtain ⟨o, ho, e⟩ := h3 r hr
  refine ⟨o, ho, ?_⟩
  rw [at_ovr M O r nd, at_none (fun z => off r z hr)]
  exact e
/-! the search -/
structure Bs where
  c : Mp
  t : Mp
  w : List Str
def vis (O : Mp) (f : Str) : List Str → Bs → Bs ⊕ (Bs × Str)
  | [], b => .inl b
  | s :: r, b => if s ∈ ks b.c then vis O f r b else match at_ O s with
    | none => .inr (⟨b.c ++ [(s, f)], b.t, b.w⟩, s)
    | some o => vis O f r ⟨b.c ++ [(s, f)], b.t ++ [(o, s)], b.w ++ [o]⟩
inductive Run (S : Sec) (O : Mp) : Bs → Option (Bs × Str) → Prop
  | stop {b : Bs} : b.w = [] → Run S O b none
  | found {b : Bs} {w : List Str} {f : Str} {r : Bs × Str} : b.w = w ++ [f] → vis O f (sq S f) ⟨b.c, b.t, w⟩ = .inr r → Run S O b (some r)
  | step {b b' : Bs} {w : List Str} {f : Str} {x : Option (Bs × Str)} : b.w = w ++ [f] → vis O f (sq S f) ⟨b.c, b.t, w⟩ = .inl b' → Run S O b' x → Run S O b x
theorem snoc_inj {α : Type} {a b : List α} {x y : α} (h : a ++ [x] = b ++ [y]) : a = b ∧ x = y := by
  have := List.append_inj' h rfl
  exact ⟨this.1, List.singleton_inj.mp this.2⟩
theorem Run.det {S : Sec} {O : Mp} {b : Bs} {x y : Option (Bs × Str)} (h : Run S O b x) (h' : Run S O b y) : x = y := by
  induction h generalizing y with
  | stop e =>
    cases h' with
    | stop _ => rfl
    | found e2 _ => rw [e] at e2; simp at e2
    | step e2 _ _ => rw [e] at e2; simp at e2
  | found e v =>
    cases h' with
    | stop e2 => rw [e] at e2; simp at e2
    | found e2 v2 =>
      rw [e] at e2
      obtain ⟨rfl, rfl⟩ := snoc_inj e2
      rw [v] at v2
      cases v2
      rfl
    | step e2 v2 _ =>
      rw [e] at e2
      obtain ⟨rfl, rfl⟩ := snoc_inj e2
      rw [v] at v2
      cases v2
  | step e v _ ih =>
    cases h' with
    | stop e2 => rw [e] at e2; simp at e2
    | found e2 v2 =>
      rw [e] at e2
      obtain ⟨rfl, rfl⟩ := snoc_inj e2
      rw [v] at v2
      cases v2
    | step e2 v2 r2 =>
      rw [e] at e2
      obtain ⟨rfl, rfl⟩ := snoc_inj e2
      rw [v] at v2
      cases v2
      exact ih r2
/-- owners behind one more start -/
def Enl (S : Sec) (O : Mp) (st : Str) (O' : Mp) : Prop := (Run S O ⟨[], [], [st]⟩ none ∧ O' = O) ∨ ∃ b s M, Run S O ⟨[], [], [st]⟩ (some (b, s)) ∧ Pth b.c b.t st s M ∧ O' = ovr O M
theorem Enl.det {S : Sec} {O : Mp} {st : Str} {O' O2 : Mp} (h : Enl S O st O') (h' : Enl S O st O2) : O' = O2 := by
  rcases h with ⟨h1, rfl⟩ | ⟨b, s, M, h1, h2, rfl⟩ <;> rcases h' with ⟨k1, rfl⟩ | ⟨b', s', M', k1, k2, rfl⟩
  · rfl
  · cases h1.det k1
  · cases h1.det k1
  · cases h1.det k1
    rw [h2.det k2]
/-- owners behind these starts, the last one first -/
def Owns (S : Sec) : List Str → Mp → Prop
  | [], O => O = []
  | f :: r, O => ∃ O1, Owns S r O1 ∧ Enl S O1 f O
theorem Owns.det {S : Sec} : ∀ {l : List Str} {O O' : Mp}, Owns S l O → Owns S l O' → O = O'
  | [], _, _, h, h' => by rw [show _ = _ from h, show _ = _ from h']
  | _ :: _, _, _, ⟨O1, h1, h2⟩, ⟨O2, k1, k2⟩ => by
    cases Owns.det h1 k1
    exact h2.det k2
/-- where the search stands; ex: a first name whose seconds are just being visited -/
structure Bi (S : Sec) (O : Mp) (st : Str) (ex : List Str) (b : Bs) : Prop where
  kn : (ks b.c).Nodup
  cs : ∀ x g, at_ b.c x = some g → x ∈ sq S g ∧ (g = st ∨ g ∈ ks b.t)
  own : ∀ s ∈ ks b.c, ∃ o, at_ O s = some o ∧ at_ b.t o = some s
  thr : ∀ o s, at_ b.t o = some s → s ∈ ks b.c ∧ at_ O s = some o
  wk : ∀ f ∈ b.w, f = st ∨ f ∈ ks b.t
  cl : ∀ f, (f = st ∨ f ∈ ks b.t) → f ∈ b.w ∨ f ∈ ex ∨ ∀ s ∈ sq S f, s ∈ ks b.c
  pth : ∀ s ∈ ks b.c, ∃ M, Pth b.c b.t st s M ∧ M.Sublist b.c.reverse
  sz : b.t.length = b.c.length ∧ b.w.length ≤ b.c.length + 1
theorem Bi.start (S : Sec) (O : Mp) (st : Str) : Bi S O st [] ⟨[], [], [st]⟩ :=
  ⟨.nil, fun _ _ h => (nomatch h), fun _ h => (nomatch h), fun _ _ h => (nomatch h), fun _ h => .inl (List.mem_singleton.mp h), fun f h => h.elim (fun e => .inl (by rw [e]; exact List.mem_singleton.mpr rfl)) fun h => (nomatch h), fun _ h => (nomatch h), rfl, Nat.le_refl _⟩
theorem Bi.pop {S : Sec} {O : Mp} {st f : Str} {b : Bs} {w : List Str} (h : Bi S O st [] b) (e : b.w = w ++ [f]) : Bi S O st [f] ⟨b.c, b.t, w⟩ :=
  ⟨h.kn, h.cs, h.own, h.thr, fun g hg => h.wk g (by rw [e]; exact List.mem_append_left _ hg), fun g hg => by
    rcases h.cl g hg with z | z | z
    · rw [e] at z
      rcases List.mem_append.mp z with z | z
      · exact .inl z
      · exact .inr (.inl z)
    · cases z
    · exact .inr (.inr z), h.pth, h.sz.1, by
      have := h.sz.2
      rw [e, List.length_append] at this
      show w.length ≤ b.c.length + 1
      omega⟩
theorem Bi.path {S : Sec} {O : Mp} {st f s : Str} {b : Bs} {ex : List Str} (h : Bi S O st ex b) (hf : f = st ∨ f ∈ ks b.t) (new : s ∉ ks b.c) (t' : Mp) (ht : ∀ x v, at_ b.t x = some v → at_ t' x = some v) :
    ∀ x ∈ ks (b.c ++ [(s, f)]), ∃ M, Pth (b.c ++ [(s, f)]) t' st x M ∧ M.Sublist (b.c ++ [(s, f)]).reverse := by
  intro x hx
  have hm : ∀ x v, at_ b.c x = some v → at_ (b.c ++ [(s, f)]) x = some v := fun x v e => at_more e
  have rv : (b.c ++ [(s, f)]).reverse = (s, f) :: b.c.reverse := by simp
  rw [rv]
  have old : ∀ y ∈ ks b.c, ∃ M, Pth (b.c ++ [(s, f)]) t' st y M ∧ M.Sublist b.c.reverse := fun y hy => by
    obtain ⟨M, h1, h2⟩ := h.pth y hy
    exact ⟨M, h1.mono hm ht, h2⟩
  have hx : x ∈ ks b.c ∨ x = s := by
    unfold ks at hx
    rw [List.map_append] at hx
    rcases List.mem_append.mp hx with z | z
    · exact .inl z
    · exact .inr (List.mem_singleton.mp z)
  rcases hx with hx | rfl
  · obtain ⟨M, h1, h2⟩ := old x hx
    exact ⟨M, h1, h2.cons _⟩
  · by_cases ef : f = st
    · subst ef
      exact ⟨[(x, f)], .base (at_new new), by simpa using (List.nil_sublist _ : ([] : Mp).Sublist b.c.reverse).cons_cons (x, f)⟩
    · have hf := hf.resolve_left ef
      obtain ⟨s', e⟩ := at_in hf
      obtain ⟨M, h1, h2⟩ := old s' (h.thr _ _ e).1
      exact ⟨(x, f) :: M, .step (at_new new) ef (ht _ _ e) h1, h2.cons_cons _⟩
theorem Bi.more {S : Sec} {O : Mp} {st f s o : Str} {b : Bs} (h : Bi S O st [f] b) (inj : ∀ s t f, at_ O s = some f → at_ O t = some f → s = t) (hf : f = st ∨ f ∈ ks b.t) (hs : s ∈ sq S f) (new : s ∉ ks b.c) (ho : at_ O s = some o) :
    o ∉ ks b.t ∧ Bi S O st [f] ⟨b.c ++ [(s, f)], b.t ++ [(o, s)], b.w ++ [o]⟩ := by
  have no : o ∉ ks b.t := fun z => by
    obtain ⟨x, e⟩ := at_in z
    obtain ⟨h1, h2⟩ := h.thr _ _ e
    rw [inj _ _ _ h2 ho] at h1
    exact new h1
  refine ⟨no, ?_, ?_, ?_, ?_, ?_, ?_, h.path hf new _ (fun x v e => at_more e), ?_⟩
  · show (ks (b.c ++ [(s, f)])).Nodup
    rw [ks_snoc]; exact nd_snoc h.kn new
  · intro x g e
    show x ∈ sq S g ∧ (g = st ∨ g ∈ ks (b.t ++ [(o, s)]))
    rw [ks_snoc]
    by_cases ex : x = s
    · subst ex
      rw [at_new new] at e
      cases e
      exact ⟨hs, hf.imp id fun z => List.mem_append_left _ z⟩
    · have e : at_ (b.c ++ [(s, f)]) x = some g := e
      rw [at_old ex] at e
      obtain ⟨h1, h2⟩ := h.cs _ _ e
      exact ⟨h1, h2.imp id fun z => List.mem_append_left _ z⟩
  · intro x hx
    have hx : x ∈ ks (b.c ++ [(s, f)]) := hx
    rw [ks_snoc] at hx
    rcases mem_snoc.mp hx with hx | rfl
    · obtain ⟨o', h1, h2⟩ := h.own x hx
      exact ⟨o', h1, at_more h2⟩
    · exact ⟨o, ho, at_new no⟩
  · intro o' x e
    have e : at_ (b.t ++ [(o, s)]) o' = some x := e
    show x ∈ ks (b.c ++ [(s, f)]) ∧ _
    rw [ks_snoc]
    by_cases eo : o' = o
    · subst eo
      rw [at_new no] at e
      cases e
      exact ⟨List.mem_append_right _ List.mem_cons_self, ho⟩
    · rw [at_old eo] at e
      obtain ⟨h1, h2⟩ := h.thr _ _ e
      exact ⟨List.mem_append_left _ h1, h2⟩
  · intro g hg
    show g = st ∨ g ∈ ks (b.t ++ [(o, s)])
    rw [ks_snoc]
    rcases mem_snoc.mp hg with hg | rfl
    · exact (h.wk g hg).imp id fun z => List.mem_append_left _ z
    · exact .inr (List.mem_append_right _ List.mem_cons_self)
  · intro g hg
    show g ∈ b.w ++ [o] ∨ g ∈ [f] ∨ ∀ x ∈ sq S g, x ∈ ks (b.c ++ [(s, f)])
    have hg : g = st ∨ g ∈ ks (b.t ++ [(o, s)]) := hg
    rw [ks_snoc] at hg ⊢
    have old : (g = st ∨ g ∈ ks b.t) → g ∈ b.w ++ [o] ∨ g ∈ [f] ∨ ∀ x ∈ sq S g, x ∈ ks b.c ++ [s] := fun hg => by
      rcases h.cl g hg with z | z | z
      · exact .inl (List.mem_append_left _ z)
      · exact .inr (.inl z)
      · exact .inr (.inr fun x hx => List.mem_append_left _ (z x hx))
    rcases hg with hg | hg
    · exact old (.inl hg)
    · rcases mem_snoc.mp hg with hg | rfl
      · exact old (.inr hg)
      · exact .inl (List.mem_append_right _ List.mem_cons_self)
  · obtain ⟨h1, h2⟩ := h.sz
    show (b.t ++ [(o, s)]).length = (b.c ++ [(s, f)]).length ∧ (b.w ++ [o]).length ≤ (b.c ++ [(s, f)]).length + 1
    simp only [List.length_append, List.length_cons, List.length_nil]
    omega
theorem Bi.close {S : Sec} {O : Mp} {st f : Str} {b : Bs} (h : Bi S O st [f] b) (all : ∀ s ∈ sq S f, s ∈ ks b.c) : Bi S O st [] b :=
  ⟨h.kn, h.cs, h.own, h.thr, h.wk, fun g hg => by
    rcases h.cl g hg with z | z | z
    · exact .inl z
    · rw [List.mem_singleton.mp z]; exact .inr (.inr all)
    · exact .inr (.inr z), h.pth, h.sz⟩
theorem Bi.len {S : Sec} {O : Mp} {st : Str} {ex : List Str} {b : Bs} (h : Bi S O st ex b) : b.c.length ≤ O.length := by
  have : (ks b.c).length ≤ (ks O).length := List.Nodup.length_le_of_subset h.kn fun x hx => by
    obtain ⟨o, e, _⟩ := h.own x hx
    exact in_of_at e
  simpa using this
/-- no way: a certificate -/
theorem Bi.stuck {S : Sec} {O : Mp} {st : Str} {b : Bs} (h : Bi S O st [] b) (e : b.w = []) : Cert S O st := by
  refine ⟨st :: ks b.t, ks b.c, List.mem_cons_self, fun a ha s hs => ?_, fun r hr => ?_⟩
  · rcases h.cl a (List.mem_cons.mp ha) with z | z | z
    · rw [e] at z; cases z
    · cases z
    · exact z s hs
  · obtain ⟨o, h1, h2⟩ := h.own r hr
    exact ⟨o, List.mem_cons_of_mem _ (in_of_at h2), h1⟩
theorem Mtc.stuck {S : Sec} {O : Mp} {dn : List Str} {st : Str} (m : Mtc S O dn) (c : Cert S O st) : Mtc S O (dn ++ [st]) :=
  ⟨m.kn, m.inj, fun s f e => let ⟨a, b, c⟩ := m.sub s f e; ⟨a, b, List.mem_append_left _ c⟩, fun f hf => by
    rcases mem_snoc.mp hf with h | rfl
    · exact m.cert f h
    · exact .inr c⟩
/-- what was found: the way back and what it makes -/
theorem Mtc.found {S : Sec} {O : Mp} {dn : List Str} {st f s : Str} {b : Bs} (m : Mtc S O dn) (hst : st ∈ fs S) (nd : st ∉ dn) (h : Bi S O st [f] b) (hf : f = st ∨ f ∈ ks b.t) (hs : s ∈ sq S f) (new : s ∉ ks b.c) (free : at_ O s = none) :
    ∃ M, Pth (b.c ++ [(s, f)]) b.t st s M ∧ (ks M).Nodup ∧ M.length ≤ O.length + 1 ∧ Mtc S (ovr O M) (dn ++ [st]) := by
  obtain ⟨M, h1, h2⟩ := h.path hf new b.t (fun _ _ e => e) s (by rw [ks_snoc]; exact List.mem_append_right _ List.mem_cons_self)
  have ndM : (ks M).Nodup := by
    have : (ks (b.c ++ [(s, f)]).reverse).Nodup := by
      unfold ks
      rw [List.map_reverse, (List.reverse_perm _).nodup_iff]
      have := nd_snoc h.kn new
      rw [← ks_snoc b.c s f] at this
      exact this
    exact (h2.map _).nodup this
  have lenM : M.length ≤ O.length + 1 := by
    have := h2.length_le
    rw [List.length_reverse, List.length_append] at this
    have := h.len
    simp at *
    omega
  have th : ∀ o x, at_ b.t o = some x → at_ O x = some o := fun o x e => (h.thr o x e).2
  have cs : ∀ x g, at_ (b.c ++ [(s, f)]) x = some g → x ∈ sq S g ∧ (g = st ∨ g ∈ ks b.t) := fun x g e => by
    by_cases ex : x = s
    · subst ex
      rw [at_new new] at e
      cases e
      exact ⟨hs, hf⟩
    · rw [at_old ex] at e
      exact h.cs _ _ e
  have no : ∀ x, at_ O x ≠ some st := fun x e => nd (m.sub _ _ e).2.2
  obtain ⟨a1, a2⟩ := h1.aug th ndM m.inj no
  refine ⟨M, h1, ndM, lenM, nd_ovr M m.kn, fun x y g hx hy => ?_, fun x g hx => ?_, fun g hg => ?_⟩
  · rw [at_ovr M O _ ndM] at hx hy
    exact a1 x y g hx hy
  · have hd : g ∈ dn ++ [st] := by
      rw [at_ovr M O _ ndM] at hx
      rcases (a2 g).mp ⟨x, hx⟩ with rfl | ⟨⟨y, hy⟩, _⟩
      · exact List.mem_append_right _ List.mem_cons_self
      · exact List.mem_append_left _ (m.sub _ _ hy).2.2
    rw [at_ovr M O _ ndM] at hx
    cases e : at_ M x with
    | none =>
      rw [e] at hx
      obtain ⟨k1, k2, _⟩ := m.sub _ _ hx
      exact ⟨k1, k2, hd⟩
    | some v =>
      rw [e] at hx
      cases hx
      obtain ⟨k1, k2⟩ := cs _ _ (h1.on _ (at_some e))
      refine ⟨k1, ?_, hd⟩
      rcases k2 with rfl | k2
      · exact hst
      · obtain ⟨y, ey⟩ := at_in k2
        exact (m.sub _ _ (th _ _ ey)).2.1
  · have val : (∃ x, (at_ M x).or (at_ O x) = some g) → ∃ x, at_ (ovr O M) x = some g := fun ⟨x, hx⟩ => ⟨x, by rw [at_ovr M O _ ndM]; exact hx⟩
    rcases mem_snoc.mp hg with h' | rfl
    · rcases m.cert g h' with z | z
      · exact .inl (val ((a2 g).mpr (.inr ⟨z, by rw [free]; simp⟩)))
      · exact .inr (z.keep h1 th (fun x g e => (cs x g e).1) free ndM)
    · exact .inl (val ((a2 g).mpr (.inl rfl)))
end R9
end

-- WalkIt
section
set_option Elab.async false
set_option linter.all false
set_option maxRecDepth 100000
namespace G1
open PySem L2 OwnOps
theorem pg_two {X : Cx} {i j : Nat} {x y : Str} {p1 p2 pos : Pos} {kk : Nat} (hc : X.calm = true) (hN : X.N.Nodup) (hi : X.N[i]? = some x) (hx : Loc X.env.scope x) (hj : X.N[j]? = some y) (hy : Loc X.env.scope y)
    (hf : X.fn x = true ∨ X.env.scope.names.lookup x = some .local := by first | exact .inl rfl | exact .inr rfl) (hg : X.fn y = true ∨ X.env.scope.names.lookup y = some .local := by first | exact .inl rfl | exact .inr rfl) :
    PG X (.Tuple [.Name x p1, .Name y p2] kk pos) (gTup X.K 2 (gCons (gName i) (gCons (gName j) gNil))) := pg_tup hc (pgs_cons (pg_name (i := i) hN hi hx hf) (pgs_cons (pg_name (i := j) hN hj hy hg) pgs_nil))
/-- a walk, whatever its turn is -/
theorem walk_it {J : It} {n : Nat} {G : Hp → Prop} {Y : Nat → Hp → V → Hp → Prop} (w : Walk J n G Y) {turn : V → Hp → (Hp → Prop) → Prop} {Fin : Hp → Prop} {H0 : Hp} (Pv : Nat → Hp → Prop) (h0 : Pv 0 H0) (hG : ∀ i H, i ≤ n → Pv i H → G H)
    (hs : ∀ i x H H', i < n → Pv i H → Y i H x H' → turn x H' (Pv (i + 1))) (hd : ∀ H, Pv n H → Fin H) :
    ∃ W : Nat → Nat → Hp → Prop, (∃ m, W 0 m H0) ∧ ∀ i m H, W i m H → (J.stop i H ∧ Fin H) ∨ (J.go i H ∧ ∃ Nx : Hp → Prop, (∀ H', Nx H' → ∃ m', m' < m ∧ W (i + 1) m' H') ∧ ∀ x H', J.yld i H x H' → turn x H' Nx) := by
  refine ⟨fun i m H => m + i = n ∧ Pv i H, ⟨n, rfl, h0⟩, fun i m H ⟨e, p⟩ => ?_⟩
  have q := hG i H (by omega) p
  by_cases lt : i < n
  · exact .inr ⟨w.goes i H lt q, Pv (i + 1), fun H' p' => ⟨m - 1, by omega, by omega, p'⟩, fun x H' y => hs i x H H' lt p (w.yields i H x H' lt q y)⟩
  · cases (show i = n by omega)
    exact .inl ⟨w.stops H q, hd H p⟩
theorem same_unlock {H G : Hp} {d : Addr} {u : HO} {od : Obj} (hd : H d = some u) (s : Same (upd H d (.frz od u)) G) : G d = some (.frz od u) ∧ Same H (upd G d u) := by
  refine ⟨s _ _ upd_same, fun b o e => ?_⟩
  by_cases h : b = d
  · subst h
    rw [hd] at e
    cases e
    exact upd_same
  · rw [upd_ne h]
    exact s b o (by rw [upd_ne h]; exact e)
theorem rd_lock {H : Hp} {d a : Addr} {u v : HO} {od : Obj} (hd : H d = some u) (m : Mut (some u)) (r : Rd H a v) : Rd (upd H d (.frz od u)) a v := by
  by_cases h : a = d
  · subst h
    rcases r with r | ⟨o, r⟩
    · rw [hd] at r
      cases r
      exact .inr ⟨od, upd_same⟩
    · rw [hd] at r
      cases r
      exact m.elim
  · rcases r with r | ⟨o, r⟩
    · exact .inl (by rw [upd_ne h]; exact r)
    · exact .inr ⟨o, by rw [upd_ne h]; exact r⟩
theorem SameX.none {p x : Addr} {H G : Hp} {u : HO} (s : SameX p H G) (hp : G p = some u) (h : G x = none) : H x = none := by
  cases e : H x with
  | none => rfl
  | some o =>
    by_cases n : x = p
    · subst n
      rw [hp] at h
      cases h
    · rw [s x o n e] at h
      cases h
theorem Same.none {x : Addr} {H G : Hp} (s : Same H G) (h : G x = none) : H x = none := by
  cases e : H x with
  | none => rfl
  | some o =>
    rw [s x o e] at h
    cases h
end G1
end

-- DictSet
section
set_option Elab.async false
set_option linter.all false
set_option maxRecDepth 100000
/-! y = {k: v for ..}, y a plain local name. -/
namespace G1
open PySem L2
theorem swD {kx vx : Expr} {gs : List Comprehension} {scope : Scope} {pos py : Pos} {y : Str} {l : Nat} {env : Env} (hk : env.scope.kind = .function) (hy : env.scope.names.lookup y = some .local) (hl : (py.line == pos.line) = true)
    (ha : (scope.names.any fun (n, k) => n == y && (k == .local || k == .cell)) = false) : swapsWith (.DictComp kx vx gs scope pos) (some (.Name y py)) l env = pure true := by
  have e1 : env.kindOf y = some .local := hy
  have e2 : env.blockKind = .function := by
    unfold Env.blockKind
    rw [hk]
    rfl
  unfold swapsWith
  simp only [e2, e1, ha, Expr.pos, hl]
  rfl
section
variable {X : Cx}
theorem ps_setDc {i : Nat} {y : Str} {py : Pos} {kx vx tg iter : Expr} {ifs : List Expr} {scope : Scope} {own : List (Str × Nat)} {pos spos : Pos} {wi : TI} {g : TG} {tt : TT} {tk tv : TE} (hc : X.calm = true) (hN : X.N.Nodup) (hy : X.N[i]? = some y) (loc : X.env.scope.names.lookup y = some .local)
    (sw : swapsWith (.DictComp kx vx [⟨tg, iter, ifs, 0⟩] scope pos) (some (.Name y py)) spos.line X.env = pure true) (hi : PI X tg iter wi) (ok : BlkOk X.N X.env.scope scope own)
    (hg : ∀ (s : Shared) (H : Hp) (C : Addr) (cl : List (Str × Addr)) (fp : List Addr), PG (X.blk s H scope (compEnvC scope cl C X.env) fp) tg g) (ht : ∀ (s : Shared) (H : Hp) (C : Addr) (cl : List (Str × Addr)) (fp : List Addr), PTs (X.blk s H scope (compEnvC scope cl C X.env) fp) ifs tt)
    (hk : ∀ (s : Shared) (H : Hp) (C : Addr) (cl : List (Str × Addr)) (fp : List Addr), PE (X.blk s H scope (compEnvC scope cl C X.env) fp) kx tk) (he : ∀ (s : Shared) (H : Hp) (C : Addr) (cl : List (Str × Addr)) (fp : List Addr), PE (X.blk s H scope (compEnvC scope cl C X.env) fp) vx tv)
    (hs : ∀ x, foldedSetIterable iter X.env x = pure x := by intro _; rfl) : PS X (.Assign [.Name y py] (.DictComp kx vx [⟨tg, iter, ifs, 0⟩] scope pos) spos) (tAsg (tDc wi g tt tk tv (own.map (·.2))) (gName i)) := by
  refine ⟨fun pins s σ H D I h => ?_⟩
  rw [exec_Assign_Name_used _ _ _ _ sw]
  have h : tDc wi g tt tk tv (own.map (·.2)) σ H (fun x H1 => gName i x σ H1 D.nx) := h
  refine wpAny_bind (wpAny_standAt (wpAny_bind (wpAny_bind (m := comprehension (.DictComp kx vx [⟨tg, iter, ifs, 0⟩] scope pos) scope X.env (firstIterPos [⟨tg, iter, ifs, 0⟩] pos) newDict false (eval iter X.env) (some (assign (.Name y py) X.env)))
    (L2.thn (dc_core (Qf := fun _ s' => SP X pins D .next s') hc hN I hi ok hg ht hk he hs h fun L C s' m H' I' q hn f => ?_) fun _ s' hq => wpAny_pure (wpAny_pure hq)))))
  refine wpAny_assign_Name (store_ok2 (v := V.ref L) I' hN hy (.inl loc) rfl (fun s2 I2 ⟨a, sb, ha⟩ => ?_) (.inr loc))
  obtain ⟨f0, f1, f2, f3, f4, f5⟩ := f
  exact ⟨m, hn.sameBut sb (ha.elim (fun z => z ▸ f1) fun z e => f4 y a z e.symm), fun h3 sb3 => ⟨_, H', I2.turned (t' := s2.toks) (fun b o hb e => (sb3.2 b hb).trans e) f0 f1 f3 f4 f5, q⟩⟩
end
end G1
end

-- DictJoin
section
set_option Elab.async false
set_option linter.all false
set_option maxRecDepth 100000
/-! {**a, **b}. -/
namespace DJoin
open PySem PyProof.Rows
section
variable {prog : Program} {w : World} {K : Type} [DecidableEq K] {knd : KeyKind prog w K} {A : Around} {E : Value → Shared → Prop} {s : Shared}
theorem put_pairs {d : Addr} {kvs : List (K × Value)} {k : K} {key v : Value} {Q : Unit → Shared → Prop} (hkey : knd.is k key = true) (hm : s.heap.DictOf knd d kvs)
    (hQ : ∀ h', h'.DictOf knd d (stored kvs k v) → Heap.SameBut d s.heap h' → Q () { s with heap := h' }) (hsz : kvs.length ≤ sizeLine) :
    wpAny (model prog w) A (dictPut d (knd.hash k) key v) Q E s := by
  obtain ⟨o, es, ep, ho, hc, hd, hk, hp, hn⟩ := hm
  have hes : es.size ≤ sizeLine := by
    have e1 := hp.length
    have e2 : es.toList.length = es.size := by simp
    omega
  unfold dictPut
  refine wpAny_bind (wpAny_dictFind_of hkey ho hd hk ?_)
  have hidx : (es.findIdx? fun e => knd.is k e.key) = kvs.findIdx? fun kv => decide (kv.1 = k) := by
    rw [← hp.findIdx k]; obtain ⟨l⟩ := es; simp
  cases hi : es.findIdx? fun e => knd.is k e.key with
  | some i =>
    refine wpAny_updateDict ho hd (hQ _ ⟨_, _, ep, Heap.get?_update_self _ ho (Obj.isFreed_of_dict (Obj.data_mapDict hd _)),
      hc.mapDict _, Obj.data_mapDict hd _, hk.modify _ _, ?_, ?_⟩ (Heap.SameBut.update ..))
    · rw [stored, if_pos (any_of_findIdx_some (hidx ▸ hi))]
      have hl : (es.toList.findIdx? fun e => knd.is k e.key) = some i := by rw [← hi]; obtain ⟨l⟩ := es; simp
      have := hp.modify hn hl v
      obtain ⟨l⟩ := es
      simpa using this
    · rw [stored, if_pos (any_of_findIdx_some (hidx ▸ hi)), keys_map_store]; exact hn
  | none =>
    have hnot : k ∉ kvs.map (·.1) := not_mem_of_findIdx_none (hidx ▸ hi)
    have hany : ¬ (kvs.any fun kv => decide (kv.1 = k)) = true := by
      rw [List.any_eq_true]; rintro ⟨kv, hkv, he⟩
      exact hnot (List.mem_map.mpr ⟨kv, hkv, of_decide_eq_true he⟩)
    refine wpAny_updateDictKeys (hz := hes) ho hd (hQ _ ⟨_, _, ep + 1, Heap.get?_update_self _ ho (Obj.isFreed_of_dict (Obj.data_mapDictKeys hd _)),
      hc.mapDictKeys _, Obj.data_mapDictKeys hd _, hk.push hkey _, ?_, ?_⟩ (Heap.SameBut.update ..))
    · rw [stored, if_neg hany]
      have := hp.append hkey (knd.hash k) v
      obtain ⟨l⟩ := es
      simpa using this
    · rw [stored, if_neg hany, List.map_append, List.nodup_append]
      refine ⟨hn, by simp, ?_⟩
      intro a ha b hb
      simp only [List.map_cons, List.map_nil, List.mem_singleton] at hb
      subst hb
      exact fun e => hnot (e ▸ ha)
theorem merge_map {d o : Addr} {kvs more : List (K × Value)} {Q : Unit → Shared → Prop} (hdo : d ≠ o) (hoS : (o == sysModules) = false) (nr : ∀ k b, knd.is k (.ref b) = false)
    (hd : s.heap.DictOf knd d kvs) (ho : s.heap.DictOf knd o more)
    (hQ : ∀ h', h'.DictOf knd d (merged kvs more) → h'.DictOf knd o more → Heap.SameBut d s.heap h' → Q () { s with heap := h' })
    (hsz : kvs.length + more.length ≤ sizeLine) :
    wpAny (model prog w) A (mergeMapping d (.ref o) false) Q E s := by
  obtain ⟨od, esd, epd, hod, hcd, hdd, hkd, hpd, hnd⟩ := id hd
  obtain ⟨oo, eso, epo, hoo, hco, hdo', hko, hpo, hno⟩ := id ho
  have hlen : more.length = eso.size := by rw [← hpo.length]; simp
  unfold mergeMapping
  refine wpAny_bind (wpAny_isInstance ho.typeIs isSubtype_dict_dict ?_)
  dsimp only
  rw [if_pos rfl]
  refine wpAny_bind (wpAny_specialOf ho.typeIs F.slot_dict_iter.lookup (wpAny_bind (wpAny_pure ?_)))
  simp only [beq_self_eq_true]
  rw [if_neg (by rw [hoS]; exact Bool.false_ne_true)]
  simp only [Bool.false_eq_true, if_false]
  refine wpAny_bind (wpAny_dictEntries hod hdd ?_)
  have loop : ∀ jp : Unit → Sem Unit, jp = (fun _ => do
        let l ← dictEntries o
        let epoch ← dictEpoch o
        forIn (List.range l.size) PUnit.unit fun i (_ : PUnit) => (do
            let l' ← dictEntries o
            match l'[i]? with
              | some e => do
                holding [e.key, e.val] (dictPut d e.hash e.key e.val)
                let ep' ← dictEpoch o
                if (ep' != epoch) = true then do
                    (unsupported "dict.changed-during-merge" : Sem PUnit)
                    pure (ForInStep.yield PUnit.unit)
                  else pure (ForInStep.yield PUnit.unit)
              | _ => do
                (unsupported "dict.changed-during-merge" : Sem PUnit)
                pure (ForInStep.yield PUnit.unit) : Sem (ForInStep PUnit))
        pure ()) → wpAny (model prog w) A (jp ()) Q E s := by
    rintro jp rfl
    refine wpAny_bind (wpAny_dictEntries hoo hdo' ?_)
    refine wpAny_bind (wpAny_dictEpoch hoo hdo' ?_)
    refine wpAny_bind ?_
    refine wpAny_forIn_list _
      (fun rest _ s' => ∃ h' i, s' = { s with heap := h' } ∧ rest = List.range' i (eso.size - i) ∧ i ≤ eso.size ∧ h'.DictOf knd d (merged kvs (more.take i)) ∧ h'.get? o = some oo ∧ Heap.SameBut d s.heap h')
      _ ?_ ?_ _ _ ⟨s.heap, 0, rfl, by simp [List.range_eq_range'], Nat.zero_le _, by simpa [merged] using hd, hoo, Heap.SameBut.refl _ _⟩
    · rintro x rest b s' ⟨h', i, rfl, hr, hi, hd', hoo', hs'⟩
      have hlt : i < eso.size := by
        rcases Nat.lt_or_ge i eso.size with h | h
        · exact h
        · rw [Nat.sub_eq_zero_of_le h] at hr; simp at hr
      obtain ⟨rfl, hrest⟩ : x = i ∧ rest = List.range' (i + 1) (eso.size - (i + 1)) := by
        have e : eso.size - i = (eso.size - (i + 1)) + 1 := by omega
        rw [e, List.range'_succ] at hr
        injection hr with h1 h2
        exact ⟨h1, h2⟩
      refine wpAny_bind (wpAny_dictEntries hoo' hdo' ?_)
      rw [Array.getElem?_eq_getElem hlt]
      obtain ⟨kv, hkv⟩ : ∃ kv, more[x]? = some kv := ⟨more[x]'(by rw [hlen]; exact hlt), List.getElem?_eq_getElem _⟩
      obtain ⟨k, v⟩ := kv
      obtain ⟨hkey, hval⟩ := hpo.get? (e := eso[x]) (by simp [hlt]) hkv
      obtain ⟨k', hkey', hhash⟩ := hko eso[x] (Array.getElem_mem hlt)
      obtain rfl : k' = k := knd.inj _ _ _ hkey' hkey
      show wpAny _ _ (holding [eso[x].key, eso[x].val] (dictPut d eso[x].hash eso[x].key eso[x].val) >>= _) _ _ _
      rw [hhash, hval]
      have hmx : (merged kvs (more.take x)).length ≤ sizeLine := by
        have e1 := merged_length_le kvs (more.take x)
        have e2 : (more.take x).length ≤ more.length := by rw [List.length_take]; omega
        omega
      refine wpAny_bind (wpAny_holding (put_pairs (hsz := hmx) hkey hd' fun h'' hd'' hs'' => ?_))
      have hoo'' : h''.get? o = some oo := (hs''.2 o (Ne.symm hdo)).trans hoo'
      refine wpAny_bind (wpAny_dictEpoch hoo'' hdo' ?_)
      rw [if_neg (by simp)]
      exact wpAny_pure ⟨h'', x + 1, rfl, hrest, hlt, by rw [merged_take_succ kvs more x (k', v) hkv]; exact hd'', hoo'', hs'.trans hs''⟩
    · rintro b s' ⟨h', i, rfl, hr, hi, hd', hoo', hs'⟩
      have hin : i = eso.size := by
        rcases Nat.lt_or_ge i eso.size with h | h
        · have e : eso.size - i = (eso.size - (i + 1)) + 1 := by omega
          rw [e, List.range'_succ] at hr; exact nomatch hr
        · exact Nat.le_antisymm hi h
      refine wpAny_pure (hQ h' ?_ ⟨oo, eso, epo, hoo', hco, hdo', hko, hpo, hno⟩ hs')
      rw [hin, ← hlen, List.take_length] at hd'; exact hd'
  split
  · refine wpAny_bind (wpAny_dictEntries hoo hdo' (wpAny_bind ?_))
    rw [← Array.forIn_toList]
    refine wpAny_forIn_list _ (fun rest _ s' => s' = s ∧ ∀ e ∈ rest, e ∈ eso.toList) _ ?_ ?_ _ _ ⟨rfl, fun _ h => h⟩
    · rintro e rest b s' ⟨es, hm⟩
      obtain ⟨k, hk, _⟩ := hko e (by simpa using hm e List.mem_cons_self)
      cases hkk : e.key with
      | ref b => rw [hkk, nr] at hk; cases hk
      | _ => exact wpAny_pure ⟨es, fun e h => hm e (List.mem_cons_of_mem _ h)⟩
    · rintro b s' ⟨e, _⟩
      rw [e]
      exact loop _ rfl
  · exact loop _ rfl
end
section
open L2 PySem.Spec
theorem mix_noref {P : Program} {w : World} (k : Key) (b : Addr) : (mixKind P w).is k (.ref b) = false := by
  cases e : (mixKind P w).is k (.ref b) with
  | false => rfl
  | true => rcases keyIs_shape e with ⟨i, t, _, h⟩ | ⟨x, t, _, h⟩ <;> cases h
/-- {**a, **b} -/
def tJoin (ta tb : TE) : TE := fun σ H Q => ∀ p, H p = none → ta σ (upd H p (.dK [])) fun x H1 => ∃ la kvs, x = .ref la ∧ H1 p = some (.dK []) ∧ Rd H1 la (.dK kvs) ∧ la ≠ p ∧
  tb σ (upd H1 p (.dK (mergeK [] kvs))) fun y H2 => ∃ lb kvs2, y = .ref lb ∧ H2 p = some (.dK (mergeK [] kvs)) ∧ Rd H2 lb (.dK kvs2) ∧ lb ≠ p ∧ kvs.length + kvs2.length ≤ sizeLine ∧ Q (.ref p) (upd H2 p (.dK (mergeK (mergeK [] kvs) kvs2)))
variable {X : Cx} {pins : List (Addr × Obj)} {σ : L2.St} {H : Hp} {s : Shared} {E : Value → Shared → Prop}
theorem merge_inv (I : L2.Inv X pins σ H s) {d o : Addr} {kvs more : List (Key × V)} {Q : Unit → Shared → Prop} (hd : H d = some (.dK kvs)) (ho : Rd H o (.dK more)) (ne : o ≠ d) (hz : kvs.length + more.length ≤ sizeLine)
    (h : ∀ s', L2.Inv X pins σ (upd H d (.dK (mergeK kvs more))) s' → Q () s') : wpAny (model X.prog X.w) X.A (mergeMapping d (.ref o) false) Q E s := by
  obtain ⟨z1, y1, vs1, r1, d1⟩ := dk_of I.hok hd
  obtain ⟨z2, y2, vs2, r2, d2⟩ := dk_rd I.hok ho
  refine merge_map (Ne.symm ne) y2 mix_noref d1 d2 (fun h' dd _ sb => h _ ?_) (by rw [← r1.length, ← r2.length]; exact hz)
  have he : ∃ q, h'.get? d = some q := let ⟨q, _, _, hq, _⟩ := dd; ⟨q, hq⟩
  exact d_write I (by rw [hd]; exact True.intro) sb he (dk_new (Nat.le_trans (length_mergeK _ _) hz) y1 (r2.merge r1) dd)
theorem pe_join {a b : Expr} {ta tb : TE} {pos : Pos} (ha : PE X a ta) (hb : PE X b tb) : PE X (.Dict [none, none] [a, b] pos) (tJoin ta tb) := by
  refine ⟨fun pins s σ H Q I q => ?_⟩
  have hn := I.hok.fresh (Nat.le_refl s.heap.objs.size)
  have I1 := I.laid (a := s.heap.objs.size) (o := .dK []) (h' := s.heap.push { cls := .type "dict", data := .dict #[] }) (t' := s.toks) (fun _ _ q => Heap.get?_push_of_some _ q) (Nat.le_refl _) (dk_empty s.heap I.big)
  rw [arm_eval_Dict]
  refine wpAny_bind (wpAny_standAt ?_)
  show wpAny _ _ (dictDisplay [(none, do let x ← eval a X.env; standAt pos; pure x), (none, do let x ← eval b X.env; standAt pos; pure x)]) _ _ s
  unfold dictDisplay
  simp only [List.forIn_cons, List.forIn_nil, bind_assoc, pure_bind, List.isEmpty_nil, if_true]
  have dp : (upd H s.heap.objs.size (HO.dK [])) s.heap.objs.size = some (.dK []) := upd_same
  refine wpAny_bind (wpAny_alloc (wpAny_bind (wpAny_holding (wpAny_bind (thn (ha.run pins _ σ _ _ I1 (q _ hn)) fun u s1 ⟨x, H1, I2, r1, la, kvs, e1, h1, rd1, ne1, q1⟩ => wpAny_bind (wpAny_standAt (wpAny_pure ?_)))))))
  subst e1
  cases r1
  obtain ⟨z1, _, _⟩ := dk_rd I2.hok rd1
  refine wpAny_bind (wpAny_onRaise (wpAny_tryCatch (wpAny_onRaise (wpAny_holding (merge_inv I2 h1 rd1 ne1 (by simpa using z1) fun s2 I3 => ?_)))))
  refine wpAny_bind (wpAny_holding (wpAny_bind (thn (hb.run pins _ σ _ _ I3 q1) fun u s3 ⟨y, H2, I4, r2, lb, kvs2, e2, h2, rd2, ne2, few, q2⟩ => wpAny_bind (wpAny_standAt (wpAny_pure ?_)))))
  subst e2
  cases r2
  refine wpAny_bind (wpAny_onRaise (wpAny_tryCatch (wpAny_onRaise (wpAny_holding (merge_inv I4 h2 rd2 ne2 ?_ fun s5 I5 => ?_)))))
  · have := length_mergeK kvs []
    simp only [List.length_nil, Nat.zero_add] at this
    omega
  · exact wpAny_pure ⟨.ref s.heap.objs.size, _, I5, rfl, q2⟩
end
end DJoin
end

-- SrtEq
section
set_option Elab.async false
set_option linter.all false
set_option maxRecDepth 100000
namespace SortStr
open PySem L2 PySem.W PyProof.Rows
theorem srtS_eq {xs ys : List Str} (h : xs.Perm ys) : srtS xs = srtS ys := by
  have le : dataLe false PyData.str = fun a b : Str => decide (a.cps.toList ≤ b.cps.toList) := dataLe_str (fun b : Str => b)
  unfold srtS
  rw [le]
  have tr : ∀ a b c : Str, decide (a.cps.toList ≤ b.cps.toList) = true → decide (b.cps.toList ≤ c.cps.toList) = true → decide (a.cps.toList ≤ c.cps.toList) = true := fun a b c p q => decide_eq_true (List.le_trans (of_decide_eq_true p) (of_decide_eq_true q))
  have tot : ∀ a b : Str, (decide (a.cps.toList ≤ b.cps.toList) || decide (b.cps.toList ≤ a.cps.toList)) = true := fun a b => by
    rcases List.le_total a.cps.toList b.cps.toList with z | z
    · rw [decide_eq_true z] <;> rfl
    · rw [decide_eq_true z, Bool.or_true]
  refine List.Perm.eq_of_pairwise (le := fun a b : Str => decide (a.cps.toList ≤ b.cps.toList) = true) (fun a b _ _ p q => ?_) (List.pairwise_mergeSort tr tot xs) (List.pairwise_mergeSort tr tot ys) (((List.mergeSort_perm xs _).trans h).trans (List.mergeSort_perm ys _).symm)
  have e : a.cps.toList = b.cps.toList := List.le_antisymm (of_decide_eq_true p) (of_decide_eq_true q)
  cases a
  cases b
  congr
  exact Array.toList_inj.mp e
end SortStr
end

-- SrtEq2
section
set_option Elab.async false
set_option linter.all false
set_option maxRecDepth 100000
namespace SortStr
open PySem L2 PySem.W PyProof.Rows PySem.Spec
theorem rising_all : ∀ (l : List Str) (p : Str), risingS p l = true → (∀ x ∈ l, p.cps.toList ≤ x.cps.toList) ∧ l.Pairwise fun a b => a.cps.toList ≤ b.cps.toList
  | [], _, _ => ⟨fun _ h => (nomatch h), .nil⟩
  | x :: r, p, h => by
    have h : (!ltCps x.cps.toList p.cps.toList && risingS x r) = true := h
    rw [Bool.and_eq_true, ltCps_eq] at h
    have le : p.cps.toList ≤ x.cps.toList := List.not_lt.mp (of_decide_eq_false (by simpa using h.1))
    obtain ⟨h1, h2⟩ := rising_all r x h.2
    refine ⟨fun y hy => ?_, .cons h1 h2⟩
    rcases List.mem_cons.mp hy with rfl | hy
    · exact le
    · exact List.le_trans le (h1 y hy)
theorem srtS_uniq {xs ys : List Str} (s : sortedS ys = true) (p : ys.Perm xs) : ys = srtS xs := by
  have pw : ys.Pairwise fun a b => a.cps.toList ≤ b.cps.toList := by
    cases ys with
    | nil => exact .nil
    | cons x r =>
      obtain ⟨h1, h2⟩ := rising_all r x s
      exact .cons h1 h2
  have le : dataLe false PyData.str = fun a b : Str => decide (a.cps.toList ≤ b.cps.toList) := dataLe_str (fun b : Str => b)
  unfold srtS
  rw [le]
  have tr : ∀ a b c : Str, decide (a.cps.toList ≤ b.cps.toList) = true → decide (b.cps.toList ≤ c.cps.toList) = true → decide (a.cps.toList ≤ c.cps.toList) = true := fun a b c p q => decide_eq_true (List.le_trans (of_decide_eq_true p) (of_decide_eq_true q))
  have tot : ∀ a b : Str, (decide (a.cps.toList ≤ b.cps.toList) || decide (b.cps.toList ≤ a.cps.toList)) = true := fun a b => by
    rcases List.le_total a.cps.toList b.cps.toList with z | z
    · rw [decide_eq_true z] <;> rfl
    · rw [decide_eq_true z, Bool.or_true]
  refine List.Perm.eq_of_pairwise (le := fun a b : Str => decide (a.cps.toList ≤ b.cps.toList) = true) (fun a b _ _ p q => ?_) (pw.imp fun h => decide_eq_true h) (List.pairwise_mergeSort tr tot xs) (p.trans (List.mergeSort_perm xs _).symm)
  have e : a.cps.toList = b.cps.toList := List.le_antisymm (of_decide_eq_true p) (of_decide_eq_true q)
  cases a
  cases b
  congr
  exact Array.toList_inj.mp e
end SortStr
end

-- SetSortE
section
set_option Elab.async false
set_option linter.all false
set_option maxRecDepth 100000
/-! sorted(set(t)), t a tuple of texts: some of them, in a new list. -/
namespace SSE
open PySem PySem.Spec PyProof.Rows L2 SetSort
theorem str_of_is {P : Program} {w : World} {x : Str} {v : Value} (h : (strKind P w).is x v = true) : ∃ t, v = .str x t := by
  cases v <;> simp_all [PySem.strKind, Value.isStrOf]
/-- the entries are these texts, each once -/
def Exa (l : List (Int × Value)) (ys : List Str) : Prop := ∃ zs, StrsAre (l.map (·.2)) zs ∧ zs.Nodup ∧ ∀ y, y ∈ zs ↔ y ∈ ys
theorem strs_perm {vs ws : List Value} (p : vs.Perm ws) : ∀ {zs : List Str}, StrsAre ws zs → ∃ zs', StrsAre vs zs' ∧ zs'.Perm zs := by
  induction p with
  | nil => exact fun h => ⟨_, h, List.Perm.refl _⟩
  | cons x _ ih =>
    intro zs h
    cases h with
    | cons y t r =>
      obtain ⟨z', h1, h2⟩ := ih r
      exact ⟨_, .cons y t h1, h2.cons y⟩
  | swap x y l =>
    intro zs h
    cases h with
    | cons y t r =>
      cases r with
      | cons z u r => exact ⟨_, .cons z u (.cons y t r), List.Perm.swap _ _ _⟩
  | trans _ _ ih1 ih2 =>
    intro zs h
    obtain ⟨z1, h1, p1⟩ := ih2 h
    obtain ⟨z2, h2, p2⟩ := ih1 h1
    exact ⟨z2, h2, p2.trans p1⟩
theorem Exa.perm {l m : List (Int × Value)} {ys : List Str} (e : Exa m ys) (p : l.Perm m) : Exa l ys := by
  obtain ⟨zs, h1, h2, h3⟩ := e
  obtain ⟨z', h4, h5⟩ := strs_perm (p.map (·.2)) h1
  exact ⟨z', h4, h5.nodup_iff.mpr h2, fun y => h5.mem_iff.trans (h3 y)⟩
theorem strs_mem {vs : List Value} {zs : List Str} (h : StrsAre vs zs) : ∀ y, y ∈ zs ↔ ∃ t, Value.str y t ∈ vs := by
  induction h with
  | nil => simp
  | cons z t _ ih =>
    intro y
    rw [List.mem_cons, ih]
    constructor
    · rintro (rfl | ⟨u, h⟩)
      · exact ⟨t, List.mem_cons_self⟩
      · exact ⟨u, List.mem_cons_of_mem _ h⟩
    · rintro ⟨u, h⟩
      rcases List.mem_cons.mp h with e | h
      · injection e with e1 _
        exact .inl e1
      · exact .inr ⟨u, h⟩
/-- at a a set of just the texts of ys, with a table that can be walked -/
def TxtR (P : Program) (w : World) (h : Heap) (a : Addr) (ys : List Str) : Prop :=
  ∃ o ez ep tb, h.get? a = some o ∧ o.ExactSet ∧ o.data = .set ez ep tb ∧ ElemsOf (strKind P w) ez.toList ∧ Exa ez.toList ys ∧ ez.size < scanBound ∧ tb.fits ez.size = true ∧
    Ris tb.place.toList ∧ (w.params.followText "set-order" = true ∨ tb.led = true) ∧ ez.size ≤ ys.length
theorem TxtR.at {P : Program} {w : World} {h h' : Heap} {a : Addr} {ys : List Str} (r : TxtR P w h a ys) (k : ∀ o, h.get? a = some o → h'.get? a = some o) : TxtR P w h' a ys := by
  obtain ⟨o, ez, ep, tb, ho, r⟩ := r
  exact ⟨o, ez, ep, tb, k o ho, r⟩
section
variable {P : Program} {w : World} {A : Around} {E : Value → Shared → Prop} {s : Shared} {a : Addr}
theorem tail_t {quiet : Bool → Sem Unit} (hq : ∀ (b : Bool) (s1 : Shared) (Q1 : Unit → Shared → Prop), Q1 () s1 → wpAny (model P w) A (quiet b) Q1 E s1) {o : Obj} {e0 : Array (Int × Value)} {ep : Nat} {t0 : SetTable} (ho : s.heap.get? a = some o) (hex : o.ExactSet)
    (hd : o.data = .set e0 ep t0) {ez : Array (Int × Value)} {tb : SetTable} {ys : List Str} (el : ElemsOf (strKind P w) ez.toList) (mem : Exa ez.toList ys) (bd : ez.size < scanBound) (ft : tb.fits ez.size = true) (ri : Ris tb.place.toList)
    (le : w.params.followText "set-order" = true ∨ tb.led = true) (len : ez.size ≤ ys.length) {dum : Bool} {R : Option Bool → Shared → Prop} (fin : ∀ h', Heap.SameBut a s.heap h' → TxtR P w h' a ys → R (some true) { s with heap := h' }) :
    wpAny (model P w) A (do
        storeSet a ez tb
        if (!dum && tb.tooFull) = true then do
            quiet (relayAll tb ez (SetTable.grown ez.size)).2.2
            storeSet a (relayAll tb ez (SetTable.grown ez.size)).1 (relayAll tb ez (SetTable.grown ez.size)).2.1
            pure (some true)
          else pure (some true)) R E s := by
  refine wpAny_bind (wpAny_storeSet_of ho hd ?_ (fits_of_scanBound bd))
  have o1 := store_at (es' := ez) (t' := tb) ho hd
  have b1 := Heap.SameBut.update s.heap a (Obj.putSet ez tb)
  split
  · have perm := relayAll_perm tb ez (SetTable.grown ez.size)
    have ft2 := relayAll_fits tb ez (SetTable.grown ez.size)
    have ri2 := relayAll_ris tb ez (SetTable.grown ez.size)
    have le2 := relayAll_led tb ez (SetTable.grown ez.size)
    generalize relayAll tb ez (SetTable.grown ez.size) = Y at perm ft2 ri2 le2 ⊢
    obtain ⟨ew, tw, gv⟩ := Y
    dsimp only at perm ft2 ri2 le2 ⊢
    have same : ew.size = ez.size := by rw [← Array.length_toList, perm.length_eq, Array.length_toList]
    have bd2 : ew.size < scanBound := by rw [same]; exact bd
    refine wpAny_bind (hq _ _ _ (wpAny_bind (wpAny_storeSet_of o1 rfl ?_ (fits_of_scanBound bd2))))
    refine wpAny_pure (fin _ (b1.trans (Heap.SameBut.update _ a _)) ⟨_, ew, _, tw, store_at (es' := ew) (t' := tw) o1 rfl, hex, rfl, fun e he => el e (perm.mem_iff.mp he), mem.perm perm, bd2, ft2, ri2, le.imp id fun z => by rw [le2]; exact z, by rw [same]; exact len⟩)
  · exact wpAny_pure (fin _ b1 ⟨_, ez, _, tb, o1, hex, rfl, el, mem, bd, ft, ri, le, len⟩)
theorem add_t {y : Str} {tk : Tok} {ys : List Str} {Q : Bool → Shared → Prop} (r : TxtR P w s.heap a ys) (room : ys.length + 1 < scanBound)
    (fin : ∀ b h', Heap.SameBut a s.heap h' → TxtR P w h' a (ys ++ [y]) → Q b { s with heap := h' }) : wpAny (model P w) A (setAddHashed a (.str y tk) ((strKind P w).hash y)) Q E s := by
  obtain ⟨o, e0, ep, t0, ho, hex, hd, el, ⟨zs, hz1, hz2, hz3⟩, bd, ft, ri, le, len⟩ := r
  have key : (strKind P w).is y (.str y tk) = true := strKind_is P w y tk
  have scan : (Value.str y tk).scannable = true := rfl
  have len2 : (ys ++ [y]).length = ys.length + 1 := by rw [List.length_append]; rfl
  unfold setAddHashed; unfold setAddHashedIn
  refine wpAny_holding (wpAny_bind (wpAny_setState_of ho hd ft ?_))
  dsimp only
  rw [byScan_of scan bd el]; simp only [↓reduceIte]
  unfold setAddByScan
  refine wpAny_bind (wpAny_bind (wpAny_rule (wpAny_bind (wpAny_setScan_of key ho hd ft el ?_))))
  cases hfi : List.findIdx? (fun e => (strKind P w).is y e.2) e0.toList with
  | some j =>
    dsimp only
    obtain ⟨hj, hj2, _⟩ := List.findIdx?_eq_some_iff_getElem.mp hfi
    have yz : y ∈ zs := by
      rw [strs_mem hz1]
      obtain ⟨t, et⟩ := str_of_is hj2
      exact ⟨t, List.mem_map.mpr ⟨_, List.getElem_mem hj, et⟩⟩
    refine wpAny_pure (wpAny_pure (fin _ s.heap (Heap.SameBut.refl a s.heap) ⟨o, e0, ep, t0, ho, hex, hd, el, ⟨zs, hz1, hz2, fun u => (hz3 u).trans ⟨fun h => List.mem_append_left _ h, fun h => (List.mem_append.mp h).elim id fun h => by rw [List.mem_singleton.mp h]; exact (hz3 y).mp yz⟩⟩, bd, ft, ri, le, by rw [len2]; omega⟩))
  | none =>
    dsimp only
    have give : ∀ (b : Bool) {s1 : Shared} {Q1 : Unit → Shared → Prop}, Q1 () s1 → wpAny (model P w) A (match b with | true => rule "set.scan.the-table-gave-way" | false => pure ()) Q1 E s1 := fun b s1 Q1 q => by
      cases b
      · exact wpAny_pure q
      · exact wpAny_rule q
    have perm := layNew_perm t0 e0 ((strKind P w).hash y) (.str y tk)
    have ft1 := layNew_fits t0 e0 ((strKind P w).hash y) (.str y tk)
    have ri1 := layNew_ris t0 e0 ((strKind P w).hash y) (.str y tk) ri
    have le1 := layNew_led t0 e0 ((strKind P w).hash y) (.str y tk)
    generalize layNew t0 e0 ((strKind P w).hash y) (.str y tk) = Y at perm ft1 ri1 le1 ⊢
    obtain ⟨ez, tb, dum, gv⟩ := Y
    dsimp only at perm ft1 ri1 le1 ⊢
    rw [Array.toList_push] at perm
    have pc : ez.toList.Perm (((strKind P w).hash y, Value.str y tk) :: e0.toList) := perm.trans (List.perm_append_singleton _ _)
    have el1 : ElemsOf (strKind P w) ez.toList := fun e he => by
      rcases List.mem_cons.mp (pc.mem_iff.mp he) with z | z
      · rw [z]
        exact ⟨⟨y, key, rfl⟩, rfl⟩
      · exact el e z
    have mem1 : Exa ez.toList (ys ++ [y]) := by
      refine Exa.perm (m := ((strKind P w).hash y, Value.str y tk) :: e0.toList) ⟨y :: zs, .cons y tk hz1, List.nodup_cons.mpr ⟨fun h => ?_, hz2⟩, fun u => ?_⟩ pc
      · obtain ⟨t, ht⟩ := (strs_mem hz1 y).mp h
        obtain ⟨e, he, ee⟩ := List.mem_map.mp ht
        have := List.findIdx?_eq_none_iff.mp hfi e he
        rw [ee] at this
        exact absurd (strKind_is P w y t) (by rw [this]; simp)
      · rw [List.mem_cons, List.mem_append, List.mem_singleton, hz3, or_comm]
    have size1 : ez.size = e0.size + 1 := by rw [← Array.length_toList, pc.length_eq, List.length_cons, Array.length_toList]
    have bd1 : ez.size < scanBound := by omega
    have lead : w.params.followText "set-order" = true ∨ tb.led = true := le.imp id fun z => by rw [le1]; exact z
    refine wpAny_bind (give _ ?_)
    split
    · refine wpAny_bind ?_
      rw [hashByValue_scannable 8 scan]
      refine wpAny_pure (tail_t (ys := ys ++ [y]) (fun b s1 Q1 q => give b q) ho hex hd el1 mem1 bd1 ?_ ?_ ?_ (by omega) fun h' sb r => wpAny_pure (fin true h' sb r))
      · first | (split <;> first | exact ft1 | exact SetTable.fits_plain_off ft1) | exact ft1
      · first | (split <;> exact ri1) | exact ri1
      · first | (split <;> exact lead) | exact lead
    · refine wpAny_bind (wpAny_pure ?_)
      simp only [↓reduceIte]; exact tail_t (ys := ys ++ [y]) (fun b s1 Q1 q => give b q) ho hex hd el1 mem1 bd1 ft1 ri1 lead (by omega) fun h' sb r => wpAny_pure (fin true h' sb r)
end
section
variable {P : Program} {w : World} {A : Around} {R : Result → Shared → Prop} {it : Addr} {fp wr : List Addr} {G : Array GenState → Array GenState → Prop} {n : Nat} {T : Nat → Value → Prop} {Z : Nat → Shared → Prop}
theorem fill_t (W : WalksS P w A.in1 it fp wr G n T Z) (a : Addr) (out : a ∉ fp) (xs : List Str) (len : xs.length = n) (few : n ≤ 1000) (txt : ∀ i v, T i v → ∃ t, v = Value.str (xs.getD i Str.empty) t) :
    ∀ (k i : Nat) (s : Shared), n - i = k → i ≤ n → Z i s → TxtR P w s.heap a (xs.take i) →
      (∀ s', Moved (a :: wr) G s s' → TxtR P w s'.heap a xs → R (.ok (.ret .none)) s') → codeAny (model P w) A (.builtin "set.update.loop" ⟨[.ref a, .ref it], []⟩) R s := by
  have out' : a ∉ wr := fun h => out (W.sub _ h)
  intro k
  induction k with
  | zero =>
    intro i s hk hi hst hS fin
    cases (show n = i by omega)
    rw [← len, List.take_length] at hS
    refine codeAny_builtin F.entry_set_update_loop (by
      rw [Around.under_plainId F.plain_set_update_loop _]
      refine wpAny_bind (m := pyNext (.ref it)) (W.done s _ _ hst fun s' mv => wpAny_pure (fin s' (mv.mono fun b h => List.mem_cons_of_mem _ h) (hS.at fun o e => mv.heap a o out' e))))
  | succ k ih =>
    intro i s hk hi hst hS fin
    have lt : i < n := by omega
    refine codeAny_builtin F.entry_set_update_loop (by
      rw [Around.under_plainId F.plain_set_update_loop _]
      refine wpAny_bind (m := pyNext (.ref it)) (W.item i s _ _ lt hst fun v s1 hv st1 mv => ?_)
      obtain ⟨t, rfl⟩ := txt i v hv
      have S1 : TxtR P w s1.heap a (xs.take i) := hS.at fun o e => mv.heap a o out' e
      refine wpAny_bind (m := holding [Value.str (xs.getD i Str.empty) t] (setAdd a (.str (xs.getD i Str.empty) t))) (wpAny_holding ?_)
      unfold setAdd
      refine wpAny_holding (wpAny_bind ((strKind P w).pyHash (k := xs.getD i Str.empty) (strKind_is _ _ _ _) ?_))
      refine add_t (s := { s1 with toks := s1.toks + 1 }) S1 (by rw [List.length_take]; unfold scanBound; omega) fun b h' sb S2 => ?_
      have e : xs.take i ++ [xs.getD i Str.empty] = xs.take (i + 1) := by
        have lt2 : i < xs.length := by omega
        rw [List.take_succ, List.getElem?_eq_getElem lt2, List.getD_eq_getElem?_getD, List.getElem?_eq_getElem lt2]
        rfl
      rw [e] at S2
      refine wpAny_pure ⟨plainId_quiet F.plain_set_update_loop _, ih (i + 1) _ (by omega) lt (W.frame _ s1 _ _ st1 (Nat.le_succ _) fun b hb o e => (sb.2 b fun h : b = a => out (h ▸ hb)).trans e) S2 fun s2 m2 S4 => fin s2 ?_ S4⟩
      exact Moved.trans W.gtrans ((mv.mono fun b h => List.mem_cons_of_mem _ h).then_heap (Nat.le_succ _) fun b o hb e => (sb.2 b fun h : b = a => hb (h ▸ List.mem_cons_self)).trans e) m2)
end
section
variable {P : Program} {w : World} {A : Around} {E : Value → Shared → Prop} {s : Shared}
theorem fresh_t (s : Shared) {h : Heap} (k : ∀ o, (made w s).heap.get? s.heap.objs.size = some o → h.get? s.heap.objs.size = some o) : TxtR P w h s.heap.objs.size [] :=
  ⟨_, #[], 0, _, k _ (Heap.get?_push_size _ rfl), ⟨rfl, rfl, rfl⟩, rfl, (fun e he => by simp at he), ⟨[], .nil, .nil, fun _ => Iff.rfl⟩, (by decide), (by rfl), List.Pairwise.nil, by
    show _ ∨ (!w.params.followText "set-order") = true
    cases w.params.followText "set-order"
    · exact .inr rfl
    · exact .inl rfl, Nat.le_refl _⟩
/-- what stands behind set(t) -/
def Filled (P : Program) (w : World) (s : Shared) (xs : List Str) (h : Heap) : Prop := TxtR P w h s.heap.objs.size xs ∧ ∀ b o, b < s.heap.objs.size → s.heap.get? b = some o → h.get? b = some o
theorem init_t {l : Addr} {items : Array Value} {xs : List Str} (calm : A.handled = none) (hl : s.heap.IsList l items) (ht : StrsAre items.toList xs) (few : xs.length ≤ 1000)
    {Q : PySem.Fin → Shared → Prop} (fin : ∀ h' tk, Filled P w s xs h' → Q (.done (.ret .none)) { s with heap := h', toks := tk }) :
    wpAny (model P w) A (Builtin.«set.__init__» ⟨[Value.ref s.heap.objs.size, Value.ref l], []⟩) Q E (made w s) := by
  have new : (made w s).heap.get? s.heap.objs.size = some (bare w) := Heap.get?_push_size _ rfl
  obtain ⟨o, ho, hc, nl, hd⟩ := hl
  obtain ⟨oc, od, oe, os⟩ := o
  cases hc
  cases hd
  have hl : s.heap.IsList l items := ⟨_, ho, rfl, nl, rfl⟩
  have ho1 : (made w s).heap.get? l = some { cls := .type "list", dict := od, data := .seq items nl, slots := os } := Heap.get?_push_of_some _ ho
  have hl1 : (made w s).heap.IsList l items := ⟨_, ho1, rfl, nl, rfl⟩
  have f1 := F.sub_list_set
  have f2 := F.sub_list_frozenset
  have f3 : (Value.type "list" == Value.type "dict") = false := by decide
  have lt : l < s.heap.objs.size := Heap.lt_size ho
  have sz : (made w s).heap.objs.size = s.heap.objs.size + 1 := Heap.size_push _ _
  have tx : xs.length = items.size := by rw [← StrsAre.len_eq ht, Array.length_toList]
  unfold Builtin.«set.__init__»; unfold noKeywords; unfold Builtin.Frozenset.updateFrom
  unfold made at *
  generalize hPI : pyIter = PI
  wp_walk
  subst hPI
  refine wpAny_pyIter_list hl1 (wpAny_bind (wpAny_runValue ?_))
  have apart : l ≠ (s.heap.push (bare w)).objs.size := by rw [sz]; exact Nat.ne_of_lt (Nat.lt_succ_of_lt lt)
  have out : s.heap.objs.size ∉ [(s.heap.push (bare w)).objs.size, l] := by
    rw [sz]
    simp only [List.mem_cons, List.not_mem_nil, or_false, not_or]
    exact ⟨Nat.ne_of_lt (Nat.lt_succ_self _), Nat.ne_of_gt lt⟩
  refine fill_t ((Walks.list (by simp [calm]) _ l apart items).toS) s.heap.objs.size out xs tx (by omega) (fun i v hv => SS.strs_at ht i v (by rw [Array.getElem?_toList]; exact hv)) (items.size - 0) 0 _ (by omega) (Nat.zero_le _) ⟨⟨_, Heap.get?_push_size _ rfl, rfl, rfl⟩, (hl1.push _)⟩
    (by rw [List.take_zero]; exact fresh_t s fun o e => Heap.get?_push_of_some _ e) fun s2 mv S2 => ?_
  obtain ⟨h2, g2, d2, tk, os2⟩ := s2
  cases (show g2 = s.gens from mv.gens)
  cases (show d2 = s.drawn from mv.drawn)
  cases (show os2 = s.os from mv.os)
  refine wpAny_pure (wpAny_pure (fin h2 tk ⟨S2, fun b o hb e => mv.heap b o ?_ (Heap.get?_push_of_some _ (Heap.get?_push_of_some _ e))⟩))
  simp only [List.mem_cons, List.not_mem_nil, or_false, not_or]
  exact ⟨Nat.ne_of_lt hb, by rw [sz]; exact Nat.ne_of_lt (Nat.lt_succ_of_lt hb)⟩
set_option maxHeartbeats 1600000 in
theorem call_t {l : Addr} {items : Array Value} {xs : List Str} {Q : Value → Shared → Prop} (calm : A.handled = none) (hl : s.heap.IsList l items) (ht : StrsAre items.toList xs) (few : xs.length ≤ 1000)
    (fin : ∀ (h' : Heap) (tk : Nat), Filled P w s xs h' → Q (.ref s.heap.objs.size) { s with heap := h', toks := tk }) : wpAny (model P w) A (call (.type "set") [.ref l]) Q E s := by
  obtain ⟨c, tl, hmro⟩ := F.called_set.mro
  have k1 := F.called_set.made
  have k2 := F.called_set.sub
  have k3 := F.called_set.notType
  have k4 := F.called_set.canCreate
  have k5 := F.typeCall_set_1 (.ref l)
  refine wpAny_call (codeAny_of_tree (wpAny_pure (M := model P w) ⟨Code.quiet_builtin _ (by decide +kernel), codeAny_builtin F.entry_type_call ?_⟩))
  rw [Around.under_plain (weight_type_call_type "set" [.ref l] []) rfl]
  repeat (any_goals (first | assumption | wp_step))
  refine codeAny_mono (code_led (.ref l) (E := E) (Q1 := fun x s1 => x = .ref s.heap.objs.size ∧ s1 = made w s) ⟨rfl, rfl⟩) fun r s1 hr => ?_
  rcases r with e | (_ | _ | _ | x)
  · exact hr
  · exact hr.elim
  · exact hr.elim
  · exact hr.elim
  obtain ⟨rfl, rfl⟩ := hr
  have ty : Shared.TypeIs (made w s) (.ref s.heap.objs.size) "set" := ⟨_, Heap.get?_push_size _ rfl, rfl⟩
  have b1 := F.called_set.init.lookup
  have b2 := F.called_set.init.bind (.ref s.heap.objs.size)
  repeat (any_goals (first | assumption | wp_step))
  refine codeAny_call_builtin F.called_set.init.plain F.entry_set_init (check_set_init_1 ty (init_t (by simp [calm]) hl ht few fun h' tk fl => ?_))
  refine wpAny_pure ?_
  repeat (any_goals (first | assumption | wp_step))
  exact fin _ _ fl
/-- sorted of that set -/
theorem sorted_t {a : Addr} {ys : List Str} {Q : Value → Shared → Prop} (r : TxtR P w s.heap a ys) (calm : A.handled = none) (few : ys.length < 64)
    (fin : ∀ s' p (out : Array Value) (c : Nat) (zs : List Str), (∀ b o, s.heap.get? b = some o → s'.heap.get? b = some o) → s'.gens = s.gens → s'.os = s.os → s.heap.objs.size ≤ p →
      s'.heap.get? p = some (seqObj "list" out c) → StrsAre out.toList zs → sortedS zs = true → zs.Nodup → (∀ z, z ∈ zs ↔ z ∈ ys) → zs.length ≤ ys.length → Q (.ref p) s') :
    wpAny (model P w) A (call (.builtin "sorted") [.ref a]) Q E s := by
  obtain ⟨o, ez, ep, tb, ho, hex, hd, el, ex, bd, ft, ri, le, len⟩ := r
  refine Calls.call_function_entry kind_sorted plain_sorted entry_sorted (args_sorted1 _) (by
    unfold Builtin.«sorted»
    refine wpAny_bind (m := checkCount "sorted" 1 1 _) (wpAny_pure (wpAny_bind (collect_set (A := A.in1) calm ⟨o, ho, hex.1, hd⟩ ft bd ri le fun s1 vs k1 hz g1 o1 pm => ?_)))
    have vl : vs.length = ez.size := by rw [pm.length_eq, List.length_map, Array.length_toList]
    obtain ⟨z0, h0, n0, m0⟩ := ex
    obtain ⟨zs, hz2, zp⟩ := strs_perm pm h0
    have zl : zs.length = ez.size := by rw [← StrsAre.len_eq hz2]; exact vl
    refine wpAny_bind (wpAny_newList ?_ (by rw [vl, sizeLine_eq]; omega))
    have hoL : (s1.heap.push (seqObj "list" vs.toArray 0)).get? s1.heap.objs.size = some (seqObj "list" vs.toArray 0) := Heap.get?_push_size _ rfl
    refine wpAny_bind (wpAny_holding (wpAny_call_entry slot_list_sort ⟨_, hoL, rfl⟩ entry_list_sort (list_sort_treeK PyProof.Rows.strKind_oneLt hoL hz2.keysOf (fun v1 v2 rest e => keyKind_strs (by rw [← e]; exact hz2)) (by omega) fun st' hp hs => ⟨_, rfl, ?_⟩) (args_list_sort _)))
    obtain ⟨us, a1, a2, a3⟩ := sorted_out_str hz2 hp hs
    obtain ⟨c, hc⟩ := sortedHeap_at (vs := vs) (out := (arrOf st').map (·.2)) hoL
    have up : us.Perm z0 := a2.trans zp
    refine wpAny_pure ⟨_, rfl, fin _ s1.heap.objs.size _ c us (fun b u e => ?_) g1 o1 hz hc a1 a3 (up.nodup_iff.mpr n0) (fun z => up.mem_iff.trans (m0 z)) (by rw [a2.length_eq, zl]; exact len)⟩
    have q := k1 b u e
    have lt := Heap.lt_size q
    show (sortedHeap (s1.heap.push (seqObj "list" vs.toArray 0)) s1.heap.objs.size vs _).get? b = some u
    rw [sortedHeap_old (Nat.ne_of_lt lt) (by rw [size_push']; exact Nat.lt_succ_of_lt lt)]
    exact Heap.get?_push_of_some _ q)
end
/-- what sorted(set(..)) tells -/
def srtE (xs : List Str) : List Str := SortStr.srtS (GS.dd xs)
theorem srtE_uniq {xs zs : List Str} (s : sortedS zs = true) (n : zs.Nodup) (m : ∀ z, z ∈ zs ↔ z ∈ xs) : zs = srtE xs := SortStr.srtS_uniq s (GS.same_mem_perm n (GS.nodup_dd xs) fun z => (m z).trans GS.mem_dd.symm)
def tSortedE (K : PySem.W.Frag) (ta : TE) : TE := fun σ H Q => ta σ H fun x H1 => ∃ (l : Addr) (xs : List Str), x = .ref l ∧ SqL K H1 l (xs.map V.str) ∧ xs.length < 64 ∧ ∀ (p : Addr), H1 p = none → Q (.ref p) (upd H1 p (.lst ((srtE xs).map V.str)))
theorem pe_sortedE {X : Cx} {a : Expr} {ta : TE} {p p2 q pos : Pos} (hg : Gl X "sorted") (hm : X.mg "sorted" = none) (hg2 : Gl X "set") (hm2 : X.mg "set" = none) (ha : PE X a ta) (calm : X.calm = true := by rfl)
    (one : starEach [a] X.env = (false, eval a X.env) :: starEach [] X.env := by rfl) : PE X (.Call (.Name "sorted" p) [.Call (.Name "set" p2) [a] [] q] [] pos) (tSortedE X.K ta) := by
  refine ⟨fun pins s σ H Q I h => Call_ (ld_blt I hg hm (show bootBuiltins "sorted" = some (.builtin "sorted") by decide +kernel) (callWith_builtin1 (args_cons (Call_ (ld_blt I hg2 hm2 boot_set ?_)) rfl) rfl rfl))⟩
  refine callWith_type1 (args_cons (thn (ha.run pins s σ H _ I h) fun v s1 ⟨x, H1, I1, r1, l, xs, e, hq, few, fin⟩ => args_nil ?_) one) one rfl
  subst e
  cases r1
  obtain ⟨its, r, pl, hz⟩ := I1.list hq
  refine call_t (I1.ok.hd calm) pl.isList (by simpa using SetStr.strsAre r) (by omega) fun h' tk fl => args_nil ?_
  obtain ⟨tx, hk⟩ := fl
  have old : ∀ b o, s1.heap.get? b = some o → h'.get? b = some o := fun b o e => hk b o (Heap.lt_size e) e
  have I2 : L2.Inv X pins σ H1 { s1 with heap := h', toks := tk } := I1.kept old
  refine sorted_t (s := { s1 with heap := h', toks := tk }) tx (I2.ok.hd calm) few fun s' p out c zs k g o hp hg hi hs nd mem hl => ?_
  rw [srtE_uniq hs nd mem] at hi hl
  have hn : H1 p = none := I2.hok.fresh hp
  have hlen : ((srtE xs).map V.str).length ≤ sizeLine := by rw [List.length_map, sizeLine_eq]; omega
  have k' : ∀ b u, s1.heap.get? b = some u → s'.heap.get? b = some u := fun b u e => k b u (old b u e)
  have hp' : s1.heap.objs.size ≤ p := by
    obtain ⟨o, ez, ep, tb, ho, _⟩ := tx
    have := Heap.lt_size ho
    exact Nat.le_of_lt (Nat.lt_of_lt_of_le this hp)
  have J : L2.Inv X pins σ (upd H1 p (.lst ((srtE xs).map V.str))) { s1 with heap := s'.heap, gens := s'.gens, drawn := s'.drawn, toks := s'.toks } :=
    I1.call (ch := []) (Un.laid k' hp' hn) (I1.hok.laid k' hp' ⟨hlen, out.toList, c, vals_of_strs hi, hg⟩) (by rw [g]; exact I1.bare) (fun _ z => nomatch z)
  have e : s' = { s1 with heap := s'.heap, gens := s'.gens, drawn := s'.drawn, toks := s'.toks } := by
    cases s'
    cases s1
    cases o
    rfl
  rw [e]
  exact ⟨.ref p, _, J, rfl, fin p hn⟩
end SSE
end

-- MinKey
section
set_option Elab.async false
set_option linter.all false
set_option maxRecDepth 100000
set_option maxHeartbeats 2000000
/-! min(ns, key=int), max(ns, key=int), ns whole numbers in a list. -/
namespace MinKey
open PySem PySem.Spec PyProof.Rows L2
abbrev at0 (ns : List Int) (i : Nat) : Int := ns.getD i 0
theorem ints_at {vs : Array Value} {ns : List Int} (h : IntsAre vs.toList ns) (i : Nat) (v : Value) (hv : vs[i]? = some v) : ∃ t, v = Value.int (at0 ns i) t := by
  obtain ⟨n, t, rfl, e⟩ := IntsAre.at h i v (by rw [Array.getElem?_toList]; exact hv)
  exact ⟨t, by rw [at0, List.getD_eq_getElem?_getD, e]; rfl⟩

section
variable {prog : Program} {w : World} {A : Around} {R : Result → Shared → Prop} {it : Addr} {fp wr : List Addr} {G : Array GenState → Array GenState → Prop} {n : Nat} {T : Nat → Value → Prop} {Z : Nat → Shared → Prop}
theorem go_min (W : WalksS prog w A.in1 it fp wr G n T Z) (z : Addr) (out : z ∉ fp) (ns : List Int) (val : ∀ i v, T i v → ∃ t, v = Value.int (at0 ns i) t) :
    ∀ (k i : Nat) (s : Shared) (m : Nat) (t u : Tok) (c : Nat), n - (i + 1) = k → i + 1 ≤ n → Z (i + 1) s → m ≤ i → (∀ j, j ≤ i → at0 ns m ≤ at0 ns j) →
      s.heap.get? z = some { cls := .type "list", dict := none, data := .seq #[.int (at0 ns m) t, .int (at0 ns m) u] c, slots := #[] } →
      (∀ s' m t, m < n → (∀ j, j < n → at0 ns m ≤ at0 ns j) → Moved (z :: wr) G s s' → R (.ok (.ret (.int (at0 ns m) t))) s') → codeAny (model prog w) A (.builtin "min.loop" ⟨[.ref it, .type "int", .ref z], []⟩) R s := by
  have nw : z ∉ wr := fun h => out (W.sub _ h)
  have up : ∀ b ∈ wr, b ∈ z :: wr := fun b hb => List.mem_cons_of_mem _ hb
  have nm : (toString "min" ++ toString ".loop" : String) = "min.loop" := by decide
  have off : ∀ {b : Addr}, b ∉ z :: wr → z ≠ b := fun hb h => hb (h ▸ List.mem_cons_self)
  intro k
  induction k with
  | zero =>
    intro i s m t u c hk hi hst hm hbest hz fin
    have last : i + 1 = n := by omega
    refine codeAny_builtin F.entry_min_loop (by
      rw [Around.under_plainId F.plain_min_loop _]
      show wpAny _ A.in1 (seqItems? (.ref z) >>= _) _ _ s
      refine wpAny_bind (wpAny_seqItems hz rfl ?_)
      show wpAny _ A.in1 (tryCatch (pyNext (.ref it)) _ >>= _) _ _ s
      refine wpAny_bind (wpAny_tryCatch (W.done s _ _ (last ▸ hst) fun s' mv => ?_))
      show wpAny _ A.in1 (updateSeq z (fun _ => #[]) >>= _) _ _ _
      refine wpAny_bind (wpAny_updateSeq (mv.heap z _ nw hz) rfl (wpAny_bind (wpAny_letGo (wpAny_pure ?_))))
      exact fin _ m t (by omega) (fun j hj => hbest j (by omega)) ((mv.mono up).then_heap (tk := s'.toks) (Nat.le_refl _) fun b o hb e => (Heap.get?_update_other _ _ (off hb)).trans e))
  | succ k ih =>
    intro i s m t u c hk hi hst hm hbest hz fin
    have more : i + 1 < n := by omega
    refine codeAny_builtin F.entry_min_loop (by
      rw [Around.under_plainId F.plain_min_loop _]
      show wpAny _ A.in1 (seqItems? (.ref z) >>= _) _ _ s
      refine wpAny_bind (wpAny_seqItems hz rfl ?_)
      show wpAny _ A.in1 (tryCatch (pyNext (.ref it)) _ >>= _) _ _ s
      refine wpAny_bind (wpAny_tryCatch (W.item (i + 1) s _ _ more hst fun v s1 hv st1 mv => ?_))
      obtain ⟨t1, rfl⟩ := val _ v hv
      have z1 := mv.heap z _ nw hz
      show wpAny _ A.in1 (tryCatch (holding [Value.int (at0 ns (i + 1)) t1] (call (.type "int") [Value.int (at0 ns (i + 1)) t1])) _ >>= _) _ _ _
      refine wpAny_bind (wpAny_tryCatch (wpAny_holding (call_int_int ?_)))
      show wpAny _ A.in1 (tryCatch (holding [Value.int (at0 ns (i + 1)) t1, Value.int (at0 ns (i + 1)) t1] (richCompare .Lt (Value.int (at0 ns (i + 1)) t1) (.int (at0 ns m) u) >>= _)) _ >>= _) _ _ _
      refine wpAny_bind (wpAny_tryCatch (wpAny_holding (wpAny_bind (lt_int ?_))))
      refine wpAny_bind (wpAny_holding (wpAny_truthy_bool ?_))
      refine wpAny_bind (wpAny_letGo (wpAny_pure ?_))
      cases hb : decide (at0 ns (i + 1) < at0 ns m) with
      | true =>
        have hb := of_decide_eq_true hb
        simp only [if_true]
        refine wpAny_bind (wpAny_updateSeq z1 rfl (wpAny_bind (wpAny_letGo ?_)))
        rw [nm]
        refine wpAny_pure ⟨plainId_quiet F.plain_min_loop _, ih (i + 1) _ (i + 1) t1 t1 _ (by omega) more (W.frame _ s1 _ s1.toks st1 (Nat.le_refl _) fun b hbf o e => (Heap.get?_update_other _ _ (fun h : z = b => out (h ▸ hbf))).trans e) (Nat.le_refl _) (fun j hj => ?_) (Heap.get?_update_self _ z1 rfl) fun s2 m2 t2 h2 b2 mv2 => fin s2 m2 t2 h2 b2 ?_⟩
        · by_cases e : j = i + 1
          · rw [e]
            exact Int.le_refl _
          · have := hbest j (by omega)
            omega
        · exact Moved.trans W.gtrans ((mv.mono up).then_heap (tk := s1.toks) (Nat.le_refl _) fun b o hb e => (Heap.get?_update_other _ _ (off hb)).trans e) mv2
      | false =>
        have hb := of_decide_eq_false hb
        simp only [Bool.false_eq_true, if_false]
        refine wpAny_bind (wpAny_letGo ?_)
        rw [nm]
        refine wpAny_pure ⟨plainId_quiet F.plain_min_loop _, ih (i + 1) _ m t u c (by omega) more st1 (by omega) (fun j hj => ?_) z1 fun s2 m2 t2 h2 b2 mv2 => fin s2 m2 t2 h2 b2 (Moved.trans W.gtrans (mv.mono up) mv2)⟩
        by_cases e : j = i + 1
        · rw [e]
          omega
        · exact hbest j (by omega))
theorem goes_min (W : WalksS prog w A.in1 it fp wr G n T Z) (z : Addr) (out : z ∉ fp) (ns : List Int) (val : ∀ i v, T i v → ∃ t, v = Value.int (at0 ns i) t) (some_ : 0 < n) {s : Shared} {c : Nat} (hst : Z 0 s)
    (hz : s.heap.get? z = some { cls := .type "list", dict := none, data := .seq #[] c, slots := #[] })
    (fin : ∀ s' m t, m < n → (∀ j, j < n → at0 ns m ≤ at0 ns j) → Moved (z :: wr) G s s' → R (.ok (.ret (.int (at0 ns m) t))) s') : codeAny (model prog w) A (.builtin "min.loop" ⟨[.ref it, .type "int", .ref z], []⟩) R s := by
  have nw : z ∉ wr := fun h => out (W.sub _ h)
  have up : ∀ b ∈ wr, b ∈ z :: wr := fun b hb => List.mem_cons_of_mem _ hb
  have nm : (toString "min" ++ toString ".loop" : String) = "min.loop" := by decide
  have off : ∀ {b : Addr}, b ∉ z :: wr → z ≠ b := fun hb h => hb (h ▸ List.mem_cons_self)
  refine codeAny_builtin F.entry_min_loop (by
    rw [Around.under_plainId F.plain_min_loop _]
    show wpAny _ A.in1 (seqItems? (.ref z) >>= _) _ _ s
    refine wpAny_bind (wpAny_seqItems hz rfl ?_)
    show wpAny _ A.in1 (tryCatch (pyNext (.ref it)) _ >>= _) _ _ s
    refine wpAny_bind (wpAny_tryCatch (W.item 0 s _ _ some_ hst fun v s1 hv st1 mv => ?_))
    obtain ⟨t1, rfl⟩ := val _ v hv
    have z1 := mv.heap z _ nw hz
    show wpAny _ A.in1 (tryCatch (holding [Value.int (at0 ns 0) t1] (call (.type "int") [Value.int (at0 ns 0) t1])) _ >>= _) _ _ _
    refine wpAny_bind (wpAny_tryCatch (wpAny_holding (call_int_int ?_)))
    show wpAny _ A.in1 (updateSeq z (fun _ => #[Value.int (at0 ns 0) t1, Value.int (at0 ns 0) t1]) >>= _) _ _ _
    refine wpAny_bind (wpAny_updateSeq z1 rfl ?_)
    rw [nm]
    refine wpAny_pure ⟨plainId_quiet F.plain_min_loop _, go_min W z out ns val _ 0 _ 0 t1 t1 _ rfl some_ (W.frame _ s1 _ s1.toks st1 (Nat.le_refl _) fun b hbf o e => (Heap.get?_update_other _ _ (fun h : z = b => out (h ▸ hbf))).trans e) (Nat.le_refl _) (fun j hj => ?_) (Heap.get?_update_self _ z1 rfl) fun s2 m2 t2 h2 b2 mv2 => fin s2 m2 t2 h2 b2 ?_⟩
    · rw [show j = 0 by omega]
      exact Int.le_refl _
    · exact Moved.trans W.gtrans ((mv.mono up).then_heap (tk := s1.toks) (Nat.le_refl _) fun b o hb e => (Heap.get?_update_other _ _ (off hb)).trans e) mv2)
end
section
variable {prog : Program} {w : World} {A : Around} {E : Value → Shared → Prop} {s : Shared}
theorem call_min {l : Addr} {items : Array Value} {ns : List Int} {Q : Value → Shared → Prop} (calm : A.handled = none) (hl : s.heap.IsList l items) (hints : IntsAre items.toList ns) (some_ : 0 < ns.length)
    (fin : ∀ h' tk m t, m ∈ ns → (∀ y ∈ ns, m ≤ y) → (∀ b o, s.heap.get? b = some o → h'.get? b = some o) → Q (.int m t) { s with heap := h', toks := tk }) :
    wpAny (model prog w) A (call (.builtin "min") [.ref l] [(Str.ofString "key", .type "int")]) Q E s := by
  have nm : (toString "min" ++ toString ".loop" : String) = "min.loop" := by decide
  have sz : ns.length = items.size := by rw [← IntsAre.length hints, Array.length_toList]
  refine PyProof.Rows.kmk_tree F.kind_min F.plain_min F.entry_min (PyProof.Rows.kmk_min_key _ _) ?_
  show wpAny _ A.in1 (Builtin.Builtins.bindParams "min" ["key", "default"] 0 ⟨[], [(Str.ofString "key", .type "int")]⟩ >>= _) _ _ s
  refine wpAny_bind (wpAny_of_eq (show Builtin.Builtins.bindParams "min" ["key", "default"] 0 ⟨[], [(Str.ofString "key", .type "int")]⟩ = pure [some (.type "int"), none] from rfl) ?_)
  refine wpAny_bind (wpAny_pure ?_)
  refine wpAny_bind (PySem.W.iter_listW (A := A.in1) (by simp [calm]) hl fun s2 e2 W st fpb old kp => ?_)
  refine wpAny_bind (wpAny_newObj_type ?_)
  have out : s2.heap.objs.size ∉ [s.heap.objs.size, l] := fun hm => Nat.lt_irrefl _ (fpb _ hm)
  rw [nm]
  have st2 := W.frame 0 s2 (s2.heap.push { cls := .type "list", data := .seq #[] 0 }) s2.toks st (Nat.le_refl _) fun b _ o e => Heap.get?_push_of_some _ e
  refine wpAny_pure ⟨plainId_quiet F.plain_min_loop _, goes_min W s2.heap.objs.size out ns (fun i v hv => ints_at hints i v hv) (by omega) st2 (Heap.get?_push_size _ rfl) fun s3 m t hm best mv => ?_⟩
  have kp3 : ∀ b o, s.heap.get? b = some o → s3.heap.get? b = some o := fun b o e => mv.heap b o (fun hb => by
    rcases List.mem_cons.mp hb with rfl | hb
    · exact absurd (Heap.lt_size (kp _ _ e)) (Nat.lt_irrefl _)
    · exact old b o e hb) (Heap.get?_push_of_some _ (kp b o e))
  subst e2
  obtain ⟨h3, g3, d3, tk3, os3⟩ := s3
  cases (show g3 = s.gens from mv.gens)
  cases (show d3 = s.drawn from mv.drawn)
  cases (show os3 = s.os from mv.os)
  have lt : m < ns.length := by omega
  have em : at0 ns m = ns[m] := by rw [at0, List.getD_eq_getElem?_getD, List.getElem?_eq_getElem lt]; rfl
  refine fin h3 tk3 (at0 ns m) t (by rw [em]; exact List.getElem_mem _) (fun y hy => ?_) kp3
  obtain ⟨j, hj, rfl⟩ := List.getElem_of_mem hy
  have := best j (by omega)
  rw [show at0 ns j = ns[j] by rw [at0, List.getD_eq_getElem?_getD, List.getElem?_eq_getElem hj]; rfl] at this
  exact this
end
def rminK (K : PySem.W.Frag) : List V → List V → Hp → VK → Prop := fun vs zs H Q => ∃ (a : Addr) (ns : List Int), vs = [V.ref a] ∧ zs = [.ty "int"] ∧ SqL K H a (ns.map V.int) ∧ 0 < ns.length ∧ ∀ m, m ∈ ns → (∀ y ∈ ns, m ≤ y) → Q (.int m) H
theorem cr_minK {X : Cx} (calm : X.calm = true) : CallRK X (.builtin "min") [Str.ofString "key"] (rminK X.K) := by
  intro pins s σ H vs zs us ws Q I r rz h
  obtain ⟨a, ns, rfl, rfl, hs, hne, q⟩ := h
  obtain rfl := Vals.ref1 r
  obtain ⟨w1, rfl, e1⟩ := vals1 rz
  obtain rfl : w1 = Value.type "int" := e1
  obtain ⟨its, rv, hl, _⟩ := I.list hs
  exact call_min (I.ok.hd calm) hl.isList rv.ints hne fun h' tk m t h1 h2 hk => ⟨.int m, H, I.kept hk, ⟨_, rfl⟩, q m h1 h2⟩

section
variable {prog : Program} {w : World} {A : Around} {R : Result → Shared → Prop} {it : Addr} {fp wr : List Addr} {G : Array GenState → Array GenState → Prop} {n : Nat} {T : Nat → Value → Prop} {Z : Nat → Shared → Prop}
theorem go_max (W : WalksS prog w A.in1 it fp wr G n T Z) (z : Addr) (out : z ∉ fp) (ns : List Int) (val : ∀ i v, T i v → ∃ t, v = Value.int (at0 ns i) t) :
    ∀ (k i : Nat) (s : Shared) (m : Nat) (t u : Tok) (c : Nat), n - (i + 1) = k → i + 1 ≤ n → Z (i + 1) s → m ≤ i → (∀ j, j ≤ i → at0 ns m ≥ at0 ns j) →
      s.heap.get? z = some { cls := .type "list", dict := none, data := .seq #[.int (at0 ns m) t, .int (at0 ns m) u] c, slots := #[] } →
      (∀ s' m t, m < n → (∀ j, j < n → at0 ns m ≥ at0 ns j) → Moved (z :: wr) G s s' → R (.ok (.ret (.int (at0 ns m) t))) s') → codeAny (model prog w) A (.builtin "max.loop" ⟨[.ref it, .type "int", .ref z], []⟩) R s := by
  have nw : z ∉ wr := fun h => out (W.sub _ h)
  have up : ∀ b ∈ wr, b ∈ z :: wr := fun b hb => List.mem_cons_of_mem _ hb
  have nm : (toString "max" ++ toString ".loop" : String) = "max.loop" := by decide
  have off : ∀ {b : Addr}, b ∉ z :: wr → z ≠ b := fun hb h => hb (h ▸ List.mem_cons_self)
  intro k
  induction k with
  | zero =>
    intro i s m t u c hk hi hst hm hbest hz fin
    have last : i + 1 = n := by omega
    refine codeAny_builtin F.entry_max_loop (by
      rw [Around.under_plainId F.plain_max_loop _]
      show wpAny _ A.in1 (seqItems? (.ref z) >>= _) _ _ s
      refine wpAny_bind (wpAny_seqItems hz rfl ?_)
      show wpAny _ A.in1 (tryCatch (pyNext (.ref it)) _ >>= _) _ _ s
      refine wpAny_bind (wpAny_tryCatch (W.done s _ _ (last ▸ hst) fun s' mv => ?_))
      show wpAny _ A.in1 (updateSeq z (fun _ => #[]) >>= _) _ _ _
      refine wpAny_bind (wpAny_updateSeq (mv.heap z _ nw hz) rfl (wpAny_bind (wpAny_letGo (wpAny_pure ?_))))
      exact fin _ m t (by omega) (fun j hj => hbest j (by omega)) ((mv.mono up).then_heap (tk := s'.toks) (Nat.le_refl _) fun b o hb e => (Heap.get?_update_other _ _ (off hb)).trans e))
  | succ k ih =>
    intro i s m t u c hk hi hst hm hbest hz fin
    have more : i + 1 < n := by omega
    refine codeAny_builtin F.entry_max_loop (by
      rw [Around.under_plainId F.plain_max_loop _]
      show wpAny _ A.in1 (seqItems? (.ref z) >>= _) _ _ s
      refine wpAny_bind (wpAny_seqItems hz rfl ?_)
      show wpAny _ A.in1 (tryCatch (pyNext (.ref it)) _ >>= _) _ _ s
      refine wpAny_bind (wpAny_tryCatch (W.item (i + 1) s _ _ more hst fun v s1 hv st1 mv => ?_))
      obtain ⟨t1, rfl⟩ := val _ v hv
      have z1 := mv.heap z _ nw hz
      show wpAny _ A.in1 (tryCatch (holding [Value.int (at0 ns (i + 1)) t1] (call (.type "int") [Value.int (at0 ns (i + 1)) t1])) _ >>= _) _ _ _
      refine wpAny_bind (wpAny_tryCatch (wpAny_holding (call_int_int ?_)))
      show wpAny _ A.in1 (tryCatch (holding [Value.int (at0 ns (i + 1)) t1, Value.int (at0 ns (i + 1)) t1] (richCompare .Gt (Value.int (at0 ns (i + 1)) t1) (.int (at0 ns m) u) >>= _)) _ >>= _) _ _ _
      refine wpAny_bind (wpAny_tryCatch (wpAny_holding (wpAny_bind (gt_int ?_))))
      refine wpAny_bind (wpAny_holding (wpAny_truthy_bool ?_))
      refine wpAny_bind (wpAny_letGo (wpAny_pure ?_))
      cases hb : decide (at0 ns m < at0 ns (i + 1)) with
      | true =>
        have hb := of_decide_eq_true hb
        simp only [if_true]
        refine wpAny_bind (wpAny_updateSeq z1 rfl (wpAny_bind (wpAny_letGo ?_)))
        rw [nm]
        refine wpAny_pure ⟨plainId_quiet F.plain_max_loop _, ih (i + 1) _ (i + 1) t1 t1 _ (by omega) more (W.frame _ s1 _ s1.toks st1 (Nat.le_refl _) fun b hbf o e => (Heap.get?_update_other _ _ (fun h : z = b => out (h ▸ hbf))).trans e) (Nat.le_refl _) (fun j hj => ?_) (Heap.get?_update_self _ z1 rfl) fun s2 m2 t2 h2 b2 mv2 => fin s2 m2 t2 h2 b2 ?_⟩
        · by_cases e : j = i + 1
          · rw [e]
            exact Int.le_refl _
          · have := hbest j (by omega)
            omega
        · exact Moved.trans W.gtrans ((mv.mono up).then_heap (tk := s1.toks) (Nat.le_refl _) fun b o hb e => (Heap.get?_update_other _ _ (off hb)).trans e) mv2
      | false =>
        have hb := of_decide_eq_false hb
        simp only [Bool.false_eq_true, if_false]
        refine wpAny_bind (wpAny_letGo ?_)
        rw [nm]
        refine wpAny_pure ⟨plainId_quiet F.plain_max_loop _, ih (i + 1) _ m t u c (by omega) more st1 (by omega) (fun j hj => ?_) z1 fun s2 m2 t2 h2 b2 mv2 => fin s2 m2 t2 h2 b2 (Moved.trans W.gtrans (mv.mono up) mv2)⟩
        by_cases e : j = i + 1
        · rw [e]
          omega
        · exact hbest j (by omega))
theorem goes_max (W : WalksS prog w A.in1 it fp wr G n T Z) (z : Addr) (out : z ∉ fp) (ns : List Int) (val : ∀ i v, T i v → ∃ t, v = Value.int (at0 ns i) t) (some_ : 0 < n) {s : Shared} {c : Nat} (hst : Z 0 s)
    (hz : s.heap.get? z = some { cls := .type "list", dict := none, data := .seq #[] c, slots := #[] })
    (fin : ∀ s' m t, m < n → (∀ j, j < n → at0 ns m ≥ at0 ns j) → Moved (z :: wr) G s s' → R (.ok (.ret (.int (at0 ns m) t))) s') : codeAny (model prog w) A (.builtin "max.loop" ⟨[.ref it, .type "int", .ref z], []⟩) R s := by
  have nw : z ∉ wr := fun h => out (W.sub _ h)
  have up : ∀ b ∈ wr, b ∈ z :: wr := fun b hb => List.mem_cons_of_mem _ hb
  have nm : (toString "max" ++ toString ".loop" : String) = "max.loop" := by decide
  have off : ∀ {b : Addr}, b ∉ z :: wr → z ≠ b := fun hb h => hb (h ▸ List.mem_cons_self)
  refine codeAny_builtin F.entry_max_loop (by
    rw [Around.under_plainId F.plain_max_loop _]
    show wpAny _ A.in1 (seqItems? (.ref z) >>= _) _ _ s
    refine wpAny_bind (wpAny_seqItems hz rfl ?_)
    show wpAny _ A.in1 (tryCatch (pyNext (.ref it)) _ >>= _) _ _ s
    refine wpAny_bind (wpAny_tryCatch (W.item 0 s _ _ some_ hst fun v s1 hv st1 mv => ?_))
    obtain ⟨t1, rfl⟩ := val _ v hv
    have z1 := mv.heap z _ nw hz
    show wpAny _ A.in1 (tryCatch (holding [Value.int (at0 ns 0) t1] (call (.type "int") [Value.int (at0 ns 0) t1])) _ >>= _) _ _ _
    refine wpAny_bind (wpAny_tryCatch (wpAny_holding (call_int_int ?_)))
    show wpAny _ A.in1 (updateSeq z (fun _ => #[Value.int (at0 ns 0) t1, Value.int (at0 ns 0) t1]) >>= _) _ _ _
    refine wpAny_bind (wpAny_updateSeq z1 rfl ?_)
    rw [nm]
    refine wpAny_pure ⟨plainId_quiet F.plain_max_loop _, go_max W z out ns val _ 0 _ 0 t1 t1 _ rfl some_ (W.frame _ s1 _ s1.toks st1 (Nat.le_refl _) fun b hbf o e => (Heap.get?_update_other _ _ (fun h : z = b => out (h ▸ hbf))).trans e) (Nat.le_refl _) (fun j hj => ?_) (Heap.get?_update_self _ z1 rfl) fun s2 m2 t2 h2 b2 mv2 => fin s2 m2 t2 h2 b2 ?_⟩
    · rw [show j = 0 by omega]
      exact Int.le_refl _
    · exact Moved.trans W.gtrans ((mv.mono up).then_heap (tk := s1.toks) (Nat.le_refl _) fun b o hb e => (Heap.get?_update_other _ _ (off hb)).trans e) mv2)
end
section
variable {prog : Program} {w : World} {A : Around} {E : Value → Shared → Prop} {s : Shared}
theorem call_max {l : Addr} {items : Array Value} {ns : List Int} {Q : Value → Shared → Prop} (calm : A.handled = none) (hl : s.heap.IsList l items) (hints : IntsAre items.toList ns) (some_ : 0 < ns.length)
    (fin : ∀ h' tk m t, m ∈ ns → (∀ y ∈ ns, m ≥ y) → (∀ b o, s.heap.get? b = some o → h'.get? b = some o) → Q (.int m t) { s with heap := h', toks := tk }) :
    wpAny (model prog w) A (call (.builtin "max") [.ref l] [(Str.ofString "key", .type "int")]) Q E s := by
  have nm : (toString "max" ++ toString ".loop" : String) = "max.loop" := by decide
  have sz : ns.length = items.size := by rw [← IntsAre.length hints, Array.length_toList]
  refine PyProof.Rows.kmk_tree F.kind_max F.plain_max F.entry_max (PyProof.Rows.kmk_max_key _ _) ?_
  show wpAny _ A.in1 (Builtin.Builtins.bindParams "max" ["key", "default"] 0 ⟨[], [(Str.ofString "key", .type "int")]⟩ >>= _) _ _ s
  refine wpAny_bind (wpAny_of_eq (show Builtin.Builtins.bindParams "max" ["key", "default"] 0 ⟨[], [(Str.ofString "key", .type "int")]⟩ = pure [some (.type "int"), none] from rfl) ?_)
  refine wpAny_bind (wpAny_pure ?_)
  refine wpAny_bind (PySem.W.iter_listW (A := A.in1) (by simp [calm]) hl fun s2 e2 W st fpb old kp => ?_)
  refine wpAny_bind (wpAny_newObj_type ?_)
  have out : s2.heap.objs.size ∉ [s.heap.objs.size, l] := fun hm => Nat.lt_irrefl _ (fpb _ hm)
  rw [nm]
  have st2 := W.frame 0 s2 (s2.heap.push { cls := .type "list", data := .seq #[] 0 }) s2.toks st (Nat.le_refl _) fun b _ o e => Heap.get?_push_of_some _ e
  refine wpAny_pure ⟨plainId_quiet F.plain_max_loop _, goes_max W s2.heap.objs.size out ns (fun i v hv => ints_at hints i v hv) (by omega) st2 (Heap.get?_push_size _ rfl) fun s3 m t hm best mv => ?_⟩
  have kp3 : ∀ b o, s.heap.get? b = some o → s3.heap.get? b = some o := fun b o e => mv.heap b o (fun hb => by
    rcases List.mem_cons.mp hb with rfl | hb
    · exact absurd (Heap.lt_size (kp _ _ e)) (Nat.lt_irrefl _)
    · exact old b o e hb) (Heap.get?_push_of_some _ (kp b o e))
  subst e2
  obtain ⟨h3, g3, d3, tk3, os3⟩ := s3
  cases (show g3 = s.gens from mv.gens)
  cases (show d3 = s.drawn from mv.drawn)
  cases (show os3 = s.os from mv.os)
  have lt : m < ns.length := by omega
  have em : at0 ns m = ns[m] := by rw [at0, List.getD_eq_getElem?_getD, List.getElem?_eq_getElem lt]; rfl
  refine fin h3 tk3 (at0 ns m) t (by rw [em]; exact List.getElem_mem _) (fun y hy => ?_) kp3
  obtain ⟨j, hj, rfl⟩ := List.getElem_of_mem hy
  have := best j (by omega)
  rw [show at0 ns j = ns[j] by rw [at0, List.getD_eq_getElem?_getD, List.getElem?_eq_getElem hj]; rfl] at this
  exact this
end
def rmaxK (K : PySem.W.Frag) : List V → List V → Hp → VK → Prop := fun vs zs H Q => ∃ (a : Addr) (ns : List Int), vs = [V.ref a] ∧ zs = [.ty "int"] ∧ SqL K H a (ns.map V.int) ∧ 0 < ns.length ∧ ∀ m, m ∈ ns → (∀ y ∈ ns, m ≥ y) → Q (.int m) H
theorem cr_maxK {X : Cx} (calm : X.calm = true) : CallRK X (.builtin "max") [Str.ofString "key"] (rmaxK X.K) := by
  intro pins s σ H vs zs us ws Q I r rz h
  obtain ⟨a, ns, rfl, rfl, hs, hne, q⟩ := h
  obtain rfl := Vals.ref1 r
  obtain ⟨w1, rfl, e1⟩ := vals1 rz
  obtain rfl : w1 = Value.type "int" := e1
  obtain ⟨its, rv, hl, _⟩ := I.list hs
  exact call_max (I.ok.hd calm) hl.isList rv.ints hne fun h' tk m t h1 h2 hk => ⟨.int m, H, I.kept hk, ⟨_, rfl⟩, q m h1 h2⟩
end MinKey
end

-- MinLen
section
set_option Elab.async false
set_option linter.all false
set_option maxRecDepth 100000
set_option maxHeartbeats 2000000
/-! min(ts, key=len), ts tuples in a list: one of them. -/
namespace MinKey
open PySem PySem.Spec PyProof.Rows L2
section
variable {prog : Program} {w : World} {A : Around} {E : Value → Shared → Prop} {s : Shared}
structure Kept (s s' : Shared) : Prop where
  heap : ∀ b o, s.heap.get? b = some o → s'.heap.get? b = some o
  gens : s'.gens = s.gens
  drawn : s'.drawn = s.drawn
  os : s'.os = s.os
theorem call_minLen {l : Addr} {items : Array Value} {Q : Value → Shared → Prop} (calm : A.handled = none) (hl : s.heap.IsList l items) (some_ : 0 < items.size) (sz : Nat → Nat)
    (tups : ∀ (i : Nat) (v : Value), items[i]? = some v → ∃ a xs, v = Value.ref a ∧ s.heap.IsTuple a xs ∧ xs.size = sz i ∧ ((xs.size : Nat) : Int) < 2 ^ 63)
    (fin : ∀ (h' : Heap) (tk : Nat) (i : Nat) (v : Value), items[i]? = some v → (∀ b o, s.heap.get? b = some o → h'.get? b = some o) → Q v { s with heap := h', toks := tk }) :
    wpAny (model prog w) A (call (.builtin "min") [.ref l] [(Str.ofString "key", .builtin "len")]) Q E s := by
  refine PySem.call_min_walkKB (PySem.W.iter_listW (A := A.in1) (by simp [calm]) hl fun s2 e2 W st fpb old kp => ?_)
  have f2 : s2.gens = s.gens ∧ s2.drawn = s.drawn ∧ s2.os = s.os := by subst e2; exact ⟨rfl, rfl, rfl⟩
  refine ⟨_, _, _, _, _, _, _, fun s' => Kept s s', fun i k _ => ∃ t, k = Value.int (sz i) t, fun i j => decide ((sz i : Int) < (sz j : Int)), rfl, W, st, fpb, some_, ⟨?_, ?_, ?_, ?_⟩, ⟨kp, f2.1, f2.2.1, f2.2.2⟩, fun v s' hv k => ?_⟩
  · intro s1 s3 k mv
    refine ⟨fun b o e => mv.heap b o (fun hb => ?_) (k.heap b o e), mv.gens.trans k.gens, mv.drawn.trans k.drawn, mv.os.trans k.os⟩
    rcases List.mem_cons.mp hb with rfl | hb
    · exact absurd (Heap.lt_size (kp _ _ e)) (Nat.lt_irrefl _)
    · exact old b o e hb
  · exact fun _ _ _ _ h _ => h
  · intro i v s1 o Q1 E1 hi hv k st1 ho q
    obtain ⟨a, xs, rfl, hx, hs, hf⟩ := tups i v hv
    have hx1 : s1.heap.IsTuple a xs := hx.at (k.heap _)
    refine len_tuple hx1 hf (q _ _ ⟨k.heap, k.gens, k.drawn, k.os⟩ (W.frame (i + 1) s1 s1.heap _ st1 (by show s1.toks ≤ s1.toks + 1 + 1; omega) fun _ _ _ e => e) ho ⟨_, by rw [hs]⟩ fun _ _ h => h)
  · rintro i j _ _ s1 Q1 E1 _ ⟨t, rfl⟩ ⟨u, rfl⟩ q
    exact lt_int q
  · obtain ⟨h3, g3, d3, tk3, os3⟩ := s'
    cases (show g3 = s.gens from k.gens)
    cases (show d3 = s.drawn from k.drawn)
    cases (show os3 = s.os from k.os)
    exact fin h3 tk3 _ v hv k.heap
end
end MinKey
namespace MinKey
open PySem PySem.Spec PyProof.Rows L2
/-- min(e, key=len) -/
def tMinLen (K : PySem.W.Frag) (t : TA) : TE := fun σ H Q => t σ H fun vs H1 => ∃ (a : Addr) (us : List Addr) (f : Addr → List V), vs = [V.ref a] ∧ SqL K H1 a (us.map V.ref) ∧ 0 < us.length ∧ (∀ u ∈ us, SqT K H1 u (f u)) ∧ ∀ u ∈ us, Q (.ref u) H1
theorem pe_minLen {X : Cx} {e : Expr} {t : TA} {p p2 kpos pos : Pos} (ha : PA X [e] t) (hg : Gl X "min") (hm : X.mg "min" = none) (hg2 : Gl X "len") (hm2 : X.mg "len" = none) (calm : X.calm = true := by rfl)
    (h1 : backTo pos (starEach [e] X.env) = (false, eval e X.env) :: backTo pos (starEach [] X.env) := by rfl) (h2 : (backTo pos (starEach [e] X.env)).any (·.1) = false := by rfl) :
    PE X (.Call (.Name "min" p) [e] [⟨some "key", .Name "len" p2, kpos⟩] pos) (tMinLen X.K t) := by
  refine ⟨fun pins s σ H Q I h => ?_⟩
  refine wpAny_Call_Name_kw (ld_blt I hg hm (show bootBuiltins "min" = some (.builtin "min") by decide +kernel) ?_)
  refine PyProof.Rows.callWith_kw (thn (ha.run pos pins s σ H _ I h) fun us s1 ⟨vs, H1, I1, r1, a, as, f, ev, hs, hne, tp, q⟩ => ?_) h1 h2 rfl rfl
  · subst ev
    obtain rfl := Vals.ref1 r1
    show wpAny _ _ (evalAll [do let v ← eval (.Name "len" p2) X.env; standAt pos; pure v]) _ _ s1
    refine wpAny_evalAll_cons (wpAny_bind (ld_blt I1 hg2 hm2 (show bootBuiltins "len" = some (.builtin "len") by decide +kernel) (wpAny_bind (wpAny_standAt (wpAny_pure (wpAny_evalAll_nil ?_))))))
    obtain ⟨its, rv, hl, hz⟩ := I1.list hs
    have ln := rv.length
    rw [List.length_map] at ln
    have ref : ∀ (i : Nat) (v : Value), its.toArray[i]? = some v → ∃ u ∈ as, v = Value.ref u := fun i v hv => by
      have hv : its[i]? = some v := by rw [← hv]; simp
      have lt : i < as.length := by rw [ln]; exact (List.getElem?_eq_some_iff.mp hv).1
      obtain ⟨y, e1, e2⟩ := LiI.paired_get rv (i := i) (x := V.ref as[i]) (by rw [List.getElem?_map, List.getElem?_eq_getElem lt] <;> rfl)
      rw [hv] at e1
      cases e1
      exact ⟨as[i], List.getElem_mem _, e2⟩
    have tup : ∀ u ∈ as, ∃ xs, s1.heap.IsTuple u xs ∧ ((xs.size : Nat) : Int) < 2 ^ 63 := fun u hu => by
      obtain ⟨xs, rx, hx, hz2⟩ := I1.tuple (tp u hu)
      have := line63
      have := rx.length
      exact ⟨_, hx, by simp only [List.size_toArray]; omega⟩
    refine call_minLen (I1.ok.hd calm) hl.isList (by rw [List.size_toArray, ← ln]; exact hne) (fun i => match its.toArray[i]? with
      | some (.ref u) => if h : u ∈ as then (Classical.choose (tup u h)).size else 0
      | _ => 0) (fun i v hv => ?_) (fun h' tk i v hv kp => ?_)
    · obtain ⟨u, hu, rfl⟩ := ref i v hv
      have c := Classical.choose_spec (tup u hu)
      refine ⟨u, Classical.choose (tup u hu), rfl, c.1, ?_, c.2⟩
      rw [hv]
      dsimp only
      rw [dif_pos hu]
    · obtain ⟨u, hu, rfl⟩ := ref i v hv
      exact ⟨.ref u, H1, I1.kept kp, rfl, q u hu⟩
end MinKey
end

-- SetSort2
section
set_option Elab.async false
set_option linter.all false
set_option maxRecDepth 100000
set_option maxHeartbeats 1600000
namespace SetSort
open PySem PySem.Spec PyProof.Rows L2 SetStr
def tSortedS (K : PySem.W.Frag) (ta : TE) : TE := fun σ H Q => ta σ H fun x H1 => ∃ (l : Addr) (xs : List Str), x = .ref l ∧ SqT K H1 l (xs.map V.str) ∧ xs.length < 64 ∧ ∀ (zs : List Str) (p : Addr), (∀ z ∈ zs, z ∈ xs) → (xs ≠ [] → zs ≠ []) → zs.length ≤ xs.length → H1 p = none → Q (.ref p) (upd H1 p (.lst (zs.map V.str)))
theorem pe_sortedS {X : Cx} {a : Expr} {ta : TE} {p p2 q pos : Pos} (hg : Gl X "sorted") (hm : X.mg "sorted" = none) (hg2 : Gl X "set") (hm2 : X.mg "set" = none) (ha : PE X a ta) (calm : X.calm = true := by rfl)
    (one : starEach [a] X.env = (false, eval a X.env) :: starEach [] X.env := by rfl) : PE X (.Call (.Name "sorted" p) [.Call (.Name "set" p2) [a] [] q] [] pos) (tSortedS X.K ta) := by
  refine ⟨fun pins s σ H Q I h => Call_ (ld_blt I hg hm (show bootBuiltins "sorted" = some (.builtin "sorted") by decide +kernel) (callWith_builtin1 (args_cons (Call_ (ld_blt I hg2 hm2 boot_set ?_)) rfl) rfl rfl))⟩
  refine callWith_type1 (args_cons (thn (ha.run pins s σ H _ I h) fun v s1 ⟨x, H1, I1, r1, l, xs, e, hq, few, fin⟩ => args_nil ?_) one) one rfl
  subst e
  cases r1
  obtain ⟨its, r, pl, hz⟩ := I1.tuple hq
  refine call_t (I1.ok.hd calm) pl (by simpa using strsAre r) (by omega) fun h' tk fl => args_nil ?_
  obtain ⟨tx, hk⟩ := fl
  have old : ∀ b o, s1.heap.get? b = some o → h'.get? b = some o := fun b o e => hk b o (Heap.lt_size e) e
  have I2 : L2.Inv X pins σ H1 { s1 with heap := h', toks := tk } := I1.kept old
  refine sorted_t (s := { s1 with heap := h', toks := tk }) tx (I2.ok.hd calm) few fun s' p out c zs k g o hp hg hi hs ne hl => ?_
  have hn : H1 p = none := I2.hok.fresh hp
  have hlen : (zs.map V.str).length ≤ sizeLine := by rw [List.length_map, sizeLine_eq]; omega
  have k' : ∀ b u, s1.heap.get? b = some u → s'.heap.get? b = some u := fun b u e => k b u (old b u e)
  have hp' : s1.heap.objs.size ≤ p := by
    obtain ⟨o, ez, ep, tb, ho, _⟩ := tx
    have := Heap.lt_size ho
    exact Nat.le_of_lt (Nat.lt_of_lt_of_le this hp)
  have J : Inv X pins σ (upd H1 p (.lst (zs.map V.str))) { s1 with heap := s'.heap, gens := s'.gens, drawn := s'.drawn, toks := s'.toks } :=
    I1.call (ch := []) (Un.laid k' hp' hn) (I1.hok.laid k' hp' ⟨hlen, out.toList, c, vals_of_strs hi, hg⟩) (by rw [g]; exact I1.bare) (fun _ z => nomatch z)
  have e : s' = { s1 with heap := s'.heap, gens := s'.gens, drawn := s'.drawn, toks := s'.toks } := by
    cases s'
    cases s1
    cases o
    rfl
  rw [e]
  exact ⟨.ref p, _, J, rfl, fin zs p hs ne hl hn⟩
end SetSort
end

-- TupSet5
section
set_option Elab.async false
set_option linter.all false
set_option maxRecDepth 100000
set_option maxHeartbeats 1600000
namespace GS
open PySem PySem.Spec PyProof.Rows L2 SetStr
/-- the items are tuples with these keys -/
abbrev Tups (K : PySem.W.Frag) (H : Hp) : List V → List (List L2.Key) → Prop := Paired fun x k => ∃ t, x = .ref t ∧ SqT K H t (k.map kV)
def tSortedG (K : PySem.W.Frag) (ta : TE) : TE := fun σ H Q => ta σ H fun x H1 => ∃ (l : Addr) (xs : List V) (ks : List (List L2.Key)), x = .ref l ∧ SqL K H1 l xs ∧ Tups K H1 xs ks ∧ xs.length < 64 ∧
  (∀ k ∈ ks, ∀ q ∈ ks, W.alike (encT k) (encT q) = true) ∧ (∀ k ∈ ks, k ≠ []) ∧ ∀ (ys : List V) (p : Addr), Tups K H1 ys (srtT ks) → (∀ y ∈ ys, y ∈ xs) → H1 p = none → Q (.ref p) (upd H1 p (.lst ys))
section
variable {X : Cx} {pins : List (Addr × Obj)} {σ : L2.St} {H : Hp} {s : Shared}
theorem tups_tl (I : L2.Inv X pins σ H s) : ∀ {xs : List V} {ks : List (List L2.Key)} {us : List Value}, Tups X.K H xs ks → Vals xs us → ∃ L : TL L2.Key, us = L.map (fun p => Value.ref p.1) ∧ xs = L.map (fun p => V.ref p.1) ∧ L.map Prod.snd = ks ∧ (∀ p ∈ L, IsTupleKey (mixKind X.prog X.w) s.heap p.2 p.1) ∧ ∀ p ∈ L, SqT X.K H p.1 (p.2.map kV)
  | _, _, _, .nil, r => by
    cases r
    exact ⟨[], rfl, rfl, rfl, fun _ h => (nomatch h), fun _ h => (nomatch h)⟩
  | _, _, _, .cons (b := k) ⟨t, e, ht⟩ h2, r => by
    subst e
    cases r with
    | cons r1 r2 =>
      cases r1
      obtain ⟨L, e1, e2, e3, h3, h4⟩ := tups_tl I h2 r2
      obtain ⟨its, rv, ⟨o, o1, o2, n, o3⟩, _⟩ := I.tuple ht
      refine ⟨(t, k) :: L, by rw [e1]; rfl, by rw [e2]; rfl, by rw [← e3]; rfl, fun p hp => ?_, fun p hp => ?_⟩
      · rcases List.mem_cons.mp hp with rfl | hp
        · exact ⟨o, its.toArray, n, o1, o2, o3, by simpa using items_are rv⟩
        · exact h3 p hp
      · rcases List.mem_cons.mp hp with rfl | hp
        · exact ht
        · exact h4 p hp
theorem tl_tups {K : PySem.W.Frag} : ∀ {Z : TL L2.Key}, (∀ p ∈ Z, SqT K H p.1 (p.2.map kV)) → Tups K H (Z.map fun p => V.ref p.1) (Z.map Prod.snd)
  | [], _ => .nil
  | p :: Z, h => .cons ⟨p.1, rfl, h p List.mem_cons_self⟩ (tl_tups fun q hq => h q (List.mem_cons_of_mem _ hq))
theorem tl_vals : ∀ Z : TL L2.Key, Vals (Z.map fun p => V.ref p.1) (Z.map fun p => Value.ref p.1)
  | [] => .nil
  | p :: Z => .cons (show RelV (.ref p.1) (.ref p.1) from rfl) (tl_vals Z)
end
theorem pe_sortedG {X : Cx} {a : Expr} {ta : TE} {p p2 q pos : Pos} (hun : X.A.units + 100 < cLine) (hg : Gl X "sorted") (hm : X.mg "sorted" = none) (hg2 : Gl X "set") (hm2 : X.mg "set" = none) (ha : PE X a ta) (calm : X.calm = true := by rfl)
    (one : starEach [a] X.env = (false, eval a X.env) :: starEach [] X.env := by rfl) : PE X (.Call (.Name "sorted" p) [.Call (.Name "set" p2) [a] [] q] [] pos) (tSortedG X.K ta) := by
  refine ⟨fun pins s σ H Q I h => Call_ (ld_blt I hg hm (show bootBuiltins "sorted" = some (.builtin "sorted") by decide +kernel) (callWith_builtin1 (args_cons (Call_ (ld_blt I hg2 hm2 boot_set ?_)) rfl) rfl rfl))⟩
  refine callWith_type1 (args_cons (thn (ha.run pins s σ H _ I h) fun v s1 ⟨x, H1, I1, r1, l, xs, ks, e, hq, tp, few, al, ne, fin⟩ => args_nil ?_) one) one rfl
  subst e
  cases r1
  obtain ⟨its, r, pl, hz⟩ := I1.list hq
  obtain ⟨L, e1, e2, e3, hk, hS⟩ := tups_tl I1 tp r
  have lenL : L.length < 64 := by rw [e2, List.length_map] at few; exact few
  refine call_g dulls_mix (I1.ok.hd calm) hun pl.isList (by simpa using e1) hk lenL fun h' tk fl => args_nil ?_
  obtain ⟨⟨M, es, ep, t, SG, hv⟩, hold⟩ := fl
  have old : ∀ b o, s1.heap.get? b = some o → h'.get? b = some o := fun b o e => hold b o (Heap.lt_size e) e
  have I2 : L2.Inv X pins σ H1 { s1 with heap := h', toks := tk } := I1.kept old
  refine sorted_g (s := { s1 with heap := h', toks := tk }) SG hv (I2.ok.hd calm) (by omega) (fun p hp q hq => al _ (by rw [← e3]; exact List.mem_map.mpr ⟨p, hp, rfl⟩) _ (by rw [← e3]; exact List.mem_map.mpr ⟨q, hq, rfl⟩))
    (fun p hp => ne _ (by rw [← e3]; exact List.mem_map.mpr ⟨p, hp, rfl⟩)) fun s' p out c Z k g o hp hg hi hs hsrt => ?_
  have hn : H1 p = none := I2.hok.fresh hp
  have zl : Z.length ≤ L.length := by
    have h1 : (Z.map Prod.snd).length ≤ (L.map Prod.snd).length := by
      rw [hsrt]
      exact List.Nodup.length_le_of_subset (nodup_srtT _) fun k hk => mem_srtT.mp hk
    simpa using h1
  have hlen : (Z.map fun p => V.ref p.1).length ≤ sizeLine := by rw [List.length_map, sizeLine_eq]; omega
  have k' : ∀ b u, s1.heap.get? b = some u → s'.heap.get? b = some u := fun b u e => k b u (old b u e)
  have hp' : s1.heap.objs.size ≤ p := by
    obtain ⟨o, ho, _⟩ := SG.obj
    have := Heap.lt_size ho
    exact Nat.le_of_lt (Nat.lt_of_lt_of_le this hp)
  have J : L2.Inv X pins σ (upd H1 p (.lst (Z.map fun p => V.ref p.1))) { s1 with heap := s'.heap, gens := s'.gens, drawn := s'.drawn, toks := s'.toks } :=
    I1.call (ch := []) (Un.laid k' hp' hn) (I1.hok.laid k' hp' ⟨hlen, out.toList, c, by rw [hi]; exact tl_vals Z, hg⟩) (by rw [g]; exact I1.bare) (fun _ z => nomatch z)
  have e : s' = { s1 with heap := s'.heap, gens := s'.gens, drawn := s'.drawn, toks := s'.toks } := by
    cases s'
    cases s1
    cases o
    rfl
  rw [e]
  exact ⟨.ref p, _, J, rfl, fin _ p (by rw [← e3, ← hsrt]; exact tl_tups fun z hz => hS z (hs z hz)) (fun y hy => by
    obtain ⟨z, hz, rfl⟩ := List.mem_map.mp hy
    rw [e2]
    exact List.mem_map.mpr ⟨z, hs z hz, rfl⟩) hn⟩
end GS
end

-- J5a
section
set_option Elab.async false
set_option linter.all false
set_option maxRecDepth 100000
namespace R9
open PySem L2 OwnOps OwnNe G1 EqDict SortStr R6 GS
def top (i : Nat) : Stmt := PySem.Challenge.pw_wishedwires_k52_whole_greatest_pairs.main.body.getD i (.Pass ⟨0, 0, 0, 0⟩)
abbrev sPath : Stmt := top 7
structure Txt (mg : Str → Option Value) : Prop where
  isi : mg "isinstance" = none
  str : mg "str" = none
  int : mg "int" = none
  tuple : mg "tuple" = none
  list : mg "list" = none
  len : mg "len" = none
  set : mg "set" = none
  all : mg "all" = none
  sorted : mg "sorted" = none
  range : mg "range" = none
theorem passOwn {X : Cx} {K : Value → Shared → Prop} {E₁ : Value → Shared → Prop} (hx : X.xe = fun e s' => wpAny (model X.prog X.w) X.A (leaving X.env e) (fun _ s'' => K e s'') E₁ s' := by rfl) : PassesOwn (model X.prog X.w) X.A X.env X.xe := passes_of hx
def dlen (H : Hp) (c : Addr) : Nat := match H c with
  | some (.dK xs) => xs.length
  | _ => 0
theorem dS_pt (m : Mp) (k v : Str) : putK (dS m) (Sum.inr k) (.str v) = dS (pt m k v) := by
  by_cases h : k ∈ ks m
  · unfold putK pt
    rw [if_pos h, if_pos]
    · unfold dS
      rw [List.map_map, List.map_map]
      refine List.map_congr_left fun p _ => ?_
      show (if (Sum.inr p.1 : Key) = Sum.inr k then _ else _) = _
      show _ = (Sum.inr (if p.1 = k then (p.1, v) else p).1, V.str (if p.1 = k then (p.1, v) else p).2)
      by_cases e : p.1 = k
      · rw [if_pos (by rw [e]), if_pos e]
      · rw [if_neg (fun z => e (Sum.inr.inj z)), if_neg e]
    · obtain ⟨p, hp, rfl⟩ := List.mem_map.mp h
      exact List.any_eq_true.mpr ⟨_, List.mem_map.mpr ⟨p, hp, rfl⟩, decide_eq_true rfl⟩
  · rw [dS_put h]
    unfold pt
    rw [if_neg h]
theorem dS_merge : ∀ (M O : Mp), mergeK (dS O) (dS M) = dS (ovr O M)
  | [], _ => rfl
  | p :: M, O => by
    show mergeK (putK (dS O) (Sum.inr p.1) (.str p.2)) (dS M) = _
    rw [dS_pt, dS_merge M]
    rfl
theorem ovr_self : ∀ (M O : Mp), (ks (O ++ M)).Nodup → ovr O M = O ++ M
  | [], O, _ => by show O = O ++ []; rw [List.append_nil]
  | p :: M, O, h => by
    have e : pt O p.1 p.2 = O ++ [p] := by
      unfold pt
      rw [if_neg]
      intro z
      unfold ks at h
      rw [List.map_append, List.map_cons, List.nodup_append] at h
      exact h.2.2 _ z _ List.mem_cons_self rfl
    show ovr (pt O p.1 p.2) M = _
    rw [e, ovr_self M (O ++ [p]) (by rw [List.append_assoc]; exact h), List.append_assoc]
    rfl
theorem dS_copy {O : Mp} (h : (ks O).Nodup) : mergeK [] (dS O) = dS O := by
  have := dS_merge O []
  rw [ovr_self O [] h] at this
  exact this
section
variable {P : Program} {w : World} {K : PySem.W.Frag} {mg : Str → Option Value} {base : Heap}
def spPath : Sp := fun vs H Q _ => ∃ (st s : Str) (a b : Addr) (c t M : Mp), vs = [.str st, .str s, .ref a, .ref b] ∧ H a = some (.dK (dS c)) ∧ H b = some (.dK (dS t)) ∧ Pth c t st s M ∧ (ks M).Nodup ∧ M.length ≤ 1000 ∧
  ∀ d H', H d = none → Same H H' → H' d = some (.dK (dS M)) → Q (.ref d) H'
abbrev NPath : List Str := ["start", "second", "came", "through", "path"]
theorem ok_path {f : Addr} {fd : FuncData} (F : Fun K "_path" "_path" sPath f fd) : FnOk P w K mg base (L2.CX P w) 1 f fd ["start", "second", "came", "through"] spPath := by
  have sc : FnScope NPath ["start", "second", "came", "through"] (defScope sPath) := ⟨rfl, rfl, rfl, by decide +kernel, rfl, by decide +kernel, by decide +kernel⟩
  refine F.okX sc (fun vs H Q E h => ?_) (fun cdv A outer s H vs Q E hr h => ?_)
  · obtain ⟨st, s, a, b, c, t, M, rfl, _⟩ := h
    rfl
  · obtain ⟨st, s, a, b, c, t, M, rfl, ha, hb, pth, nd, few, fin⟩ := h
    have hu := hu_of hr
    refine ⟨_, pss_cons (ps_set (i := 4) sc.nd rfl (Or.inl rfl) (pe_disp (pps_cons (pv 1) (pe_dget hu (pv 2) (pv 1) (fun _ _ => rfl)) pps_nil) rfl rfl (by decide) (by decide)))
      (pss_cons (ps_while passOwn (pt_cmpR op_ne (pe_dget hu (pv 2) (pv 1) (fun _ _ => rfl)) (pv 0) (nomark _))
        (pss_cons (ps_set (i := 1) sc.nd rfl (Or.inl rfl) (pe_dget hu (pv 3) (pe_dget hu (pv 2) (pv 1) (fun _ _ => rfl)) (fun _ _ => rfl)))
        (pss_one (ps_dput hu (pv 4) (pv 1) (pe_dget hu (pv 2) (pv 1) (fun _ _ => rfl)) rfl))))
      (pss_one (ps_ret (pv 4)))), ?_⟩
    intro d nd0
    have look : ∀ {x v : Str} {G : Hp}, G a = some (.dK (dS c)) → at_ c x = some v → DGet G a (.str x) (some (.str v)) := fun {x v G} h e => .inl ⟨_, Sum.inr x, .inl h, rfl, by rw [dS_at, e] <;> rfl⟩
    have lookT : ∀ {x v : Str} {G : Hp}, G b = some (.dK (dS t)) → at_ t x = some v → DGet G b (.str x) (some (.str v)) := fun {x v G} h e => .inl ⟨_, Sum.inr x, .inl h, rfl, by rw [dS_at, e] <;> rfl⟩
    have s1 := same_upd (o := .dK []) nd0
    obtain ⟨f0, M0, rfl, e0⟩ := pth.head
    refine ⟨_, rfl, _, rfl, _, rfl, a, _, rfl, look (s1 _ _ ha) e0, upd_same, [(Sum.inr s, .str f0)], rfl, (by show 1 ≤ 15; decide), ?_⟩
    have hd0 : (upd (upd H d (.dK [])) d (.dK (mergeK [] [(Sum.inr s, V.str f0)]))) d = some (.dK (dS [(s, f0)])) := upd_same
    have s2 := same_put (o := .dK (mergeK [] [(Sum.inr s, V.str f0)])) s1 nd0
    generalize upd (upd H d (.dK [])) d (.dK (mergeK [] [(Sum.inr s, V.str f0)])) = B at hd0 s2 ⊢
    refine while_by (fun σ G => ∃ x pre g r, σ = [some (.str st), some (.str x), some (.ref a), some (.ref b), some (.ref d)] ∧ Same H G ∧ G d = some (.dK (dS (pre ++ [(x, g)]))) ∧ pre ++ (x, g) :: r = (s, f0) :: M0 ∧ Pth c t st x ((x, g) :: r))
      (fun _ G => (M0.length + 1) - dlen G d) ⟨s, [], f0, M0, rfl, s2, hd0, rfl, pth⟩ ?_ ?_
    · rintro σ G ⟨x, pre, g, r, rfl, sm, hd, eq, pt⟩
      have ga := sm _ _ ha
      have gb := sm _ _ hb
      have ag : at_ c x = some g := pt.on _ List.mem_cons_self
      refine ⟨_, rfl, _, rfl, a, _, rfl, look ga ag, _, rfl, rfl, _, rfl, ?_⟩
      cases pt with
      | base e =>
        refine if_neg' (by rw [decide_eq_true rfl]; rfl) ?_
        refine ⟨_, rfl, ?_⟩
        exact fin d G nd0 sm (by rw [← eq]; exact hd)
      | @step _ _ s' _ e n e1 p =>
        refine if_pos' (by rw [decide_eq_false (fun z => n (V.str.inj z))]; rfl) ?_
        obtain ⟨g', r', rfl, eg⟩ := p.head
        refine ⟨_, rfl, _, rfl, _, rfl, a, _, rfl, look ga ag, b, _, rfl, lookT gb e1, ?_⟩
        refine ⟨_, rfl, _, rfl, a, _, rfl, look ga eg, ?_⟩
        have new : s' ∉ ks (pre ++ [(x, g)]) := fun z => by
          have nd' := nd
          rw [← eq, show pre ++ (x, g) :: (s', g') :: r' = (pre ++ [(x, g)]) ++ (s', g') :: r' by simp] at nd'
          unfold ks at nd' z
          rw [List.map_append, List.nodup_append] at nd'
          exact nd'.2.2 _ z _ List.mem_cons_self rfl
        have len : pre.length + 2 ≤ M0.length + 1 := by
          have := congrArg List.length eq
          simp only [List.length_append, List.length_cons] at this
          omega
        refine ⟨_, rfl, _, rfl, d, _, rfl, .inl ⟨_, Sum.inr _, hd, rfl, ?_, rfl⟩, ⟨s', pre ++ [(x, g)], g', r', rfl, same_put sm nd0, ?_, by rw [← eq]; simp, p⟩, ?_⟩
        · rw [dS_len, List.length_append]
          have : ((s, f0) :: M0).length = M0.length + 1 := rfl
          exact Nat.lt_of_lt_of_le (m := 1001) (by simp only [List.length_cons, List.length_nil]; omega) (by decide)
        · rw [upd_same, dS_put new]
        · unfold dlen
          rw [upd_same, hd, dS_put new]
          simp only [dS_len, List.length_append, List.length_cons, List.length_nil]
          omega
    · rintro σ G Q1 Q2 hq ⟨z1, z2, z3, z4, z5, z6, z7, z8, z9, z10, z11, z12, z13, z14⟩
      exact ⟨z1, z2, z3, z4, z5, z6, z7, z8, z9, z10, z11, z12, z13, hq _ _ z14⟩
end
end R9
end

-- J5b
section
set_option Elab.async false
set_option linter.all false
set_option maxRecDepth 100000
namespace R9
open PySem L2 OwnOps OwnNe G1 EqDict SortStr R6 GS
abbrev sEnl : Stmt := top 6
abbrev sAll : Stmt := top 4
theorem pw_of_nodup {α β : Type} {f : α → β} : ∀ {l : List α}, l.Nodup → (∀ a ∈ l, ∀ b ∈ l, f a = f b → a = b) → (l.map f).Nodup
  | [], _, _ => List.nodup_nil
  | a :: l, h, i => by
    obtain ⟨h1, h2⟩ := List.nodup_cons.mp h
    rw [List.map_cons, List.nodup_cons]
    refine ⟨fun z => ?_, pw_of_nodup h2 fun x hx y hy e => i x (List.mem_cons_of_mem _ hx) y (List.mem_cons_of_mem _ hy) e⟩
    obtain ⟨b, hb, e⟩ := List.mem_map.mp z
    exact h1 (by rw [i a List.mem_cons_self b (List.mem_cons_of_mem _ hb) e.symm]; exact hb)
theorem nd_of_ks : ∀ {m : Mp}, (ks m).Nodup → m.Nodup
  | [], _ => List.nodup_nil
  | p :: m, h => by
    obtain ⟨h1, h2⟩ := List.nodup_cons.mp (show (p.1 :: ks m).Nodup from h)
    exact List.nodup_cons.mpr ⟨fun z => h1 (List.mem_map.mpr ⟨p, z, rfl⟩), nd_of_ks h2⟩
theorem Mtc.vn {S : Sec} {O : Mp} {dn : List Str} (m : Mtc S O dn) : (vs O).Nodup := pw_of_nodup (nd_of_ks m.kn) fun p hp q hq e => by
  have h1 := at_mem m.kn hp
  have h2 := at_mem m.kn hq
  have k := m.inj p.1 q.1 p.2 h1 (by rw [h2]; exact congrArg some e.symm)
  exact Prod.ext k e
theorem Mtc.len {S : Sec} {O : Mp} {dn : List Str} (m : Mtc S O dn) : O.length ≤ dn.length := by
  have : (vs O).length ≤ dn.length := List.Nodup.length_le_of_subset m.vn fun f hf => by
    obtain ⟨p, hp, rfl⟩ := List.mem_map.mp hf
    exact (m.sub _ _ (at_mem m.kn hp)).2.2
  simpa using this
/-- the dict of the seconds -/
abbrev SP (H : Hp) : List (Key × V) → Sec → Prop := Paired fun p q => p.1 = Sum.inr q.1 ∧ ∃ t, p.2 = V.ref t ∧ H t = some (.tup (q.2.map V.str))
def SecD (H : Hp) (a : Addr) (S : Sec) : Prop := ∃ kvs, H a = some (.dK kvs) ∧ SP H kvs S
theorem SP.same {H H' : Hp} {kvs : List (Key × V)} {S : Sec} (h : SP H kvs S) (s : Same H H') : SP H' kvs S := by
  induction h with
  | nil => exact .nil
  | cons r _ ih =>
    obtain ⟨e, t, e2, ht⟩ := r
    exact .cons ⟨e, t, e2, s _ _ ht⟩ ih
theorem SecD.same {H H' : Hp} {a : Addr} {S : Sec} (h : SecD H a S) (s : Same H H') : SecD H' a S := let ⟨kvs, h1, h2⟩ := h; ⟨kvs, s _ _ h1, h2.same s⟩
theorem SP.get {H : Hp} {kvs : List (Key × V)} {S : Sec} (h : SP H kvs S) (f : Str) : (sq? S f = none ∧ valV kvs (Sum.inr f) = none) ∨ ∃ ns t, sq? S f = some ns ∧ valV kvs (Sum.inr f) = some (.ref t) ∧ H t = some (.tup (ns.map V.str)) := by
  induction h with
  | nil => exact .inl ⟨rfl, rfl⟩
  | @cons p q ps qs r _ ih =>
    obtain ⟨e, t, e2, ht⟩ := r
    by_cases c : q.1 = f
    · refine .inr ⟨q.2, t, ?_, ?_, ht⟩
      · unfold sq?
        rw [List.find?_cons, decide_eq_true c]; rfl
      · rw [valV_pos (by rw [e, c]), e2]
    · have n1 : sq? (q :: qs) f = sq? qs f := by
        unfold sq?
        rw [List.find?_cons, decide_eq_false c]
      have n2 : valV (p :: ps) (Sum.inr f) = valV ps (Sum.inr f) := valV_neg (by rw [e]; exact fun z => c (Sum.inr.inj z))
      rw [n1, n2]
      exact ih
theorem sq_in {S : Sec} {f : Str} (h : f ∈ fs S) : ∃ ns, sq? S f = some ns := by
  obtain ⟨p, hp, rfl⟩ := List.mem_map.mp h
  unfold sq?
  cases e : S.find? fun q => decide (q.1 = p.1) with
  | none => exact absurd (decide_eq_true (rfl : p.1 = p.1)) (List.find?_eq_none.mp e p hp)
  | some q => exact ⟨q.2, rfl⟩
/-- seconds[first] -/
theorem SecD.get {H : Hp} {a : Addr} {S : Sec} (h : SecD H a S) {f : Str} (hf : f ∈ fs S) : ∃ t, DGet H a (.str f) (some (.ref t)) ∧ H t = some (.tup ((sq S f).map V.str)) := by
  obtain ⟨kvs, h1, h2⟩ := h
  obtain ⟨ns, e⟩ := sq_in hf
  rcases h2.get f with ⟨z, _⟩ | ⟨ns', t, e1, e2, ht⟩
  · rw [e] at z; cases z
  · rw [e] at e1
    cases e1
    exact ⟨t, .inl ⟨kvs, Sum.inr f, .inl h1, rfl, e2.symm⟩, by unfold sq; rw [e]; exact ht⟩
theorem last_of {α : Type} {l : List α} (h : l ≠ []) : ∃ w f, l = w ++ [f] := ⟨l.dropLast, l.getLast h, (List.dropLast_concat_getLast h).symm⟩
theorem none_upd {H : Hp} {a b : Addr} {o : HO} (h : upd H a o b = none) : b ≠ a ∧ H b = none := by
  by_cases e : b = a
  · rw [e, upd_same] at h; cases h
  · rw [upd_ne e] at h; exact ⟨e, h⟩
def lenAt (H : Hp) (c : Addr) : Nat := match H c with
  | some (.lst xs) => xs.length
  | _ => 0
section
variable {P : Program} {w : World} {K : PySem.W.Frag} {mg : Str → Option Value} {base : Heap}
def spEnl : Sp := fun vs H Q _ => ∃ (a q : Addr) (st : Str) (O : Mp) (S : Sec) (dn : List Str), vs = [.ref a, .ref q, .str st] ∧ H a = some (.dK (dS O)) ∧ SecD H q S ∧ Mtc S O dn ∧ st ∈ fs S ∧ st ∉ dn ∧ dn.length ≤ 100 ∧
  ∀ d O' H', Same H H' → H' d = some (.dK (dS O')) → Enl S O st O' → Mtc S O' (dn ++ [st]) → Q (.ref d) H'
abbrev NEnl : List Str := ["owners", "seconds", "start", "came", "through", "waiting", "first", "second"]
theorem ok_enl {f : Addr} {fd : FuncData} (F : Fun K "_enlarged" "_enlarged" sEnl f fd) (GP : Glb P w K mg base "_path" 1 ["start", "second", "came", "through"] spPath) : FnOk P w K mg base (L2.CX P w) 2 f fd ["owners", "seconds", "start"] spEnl := by
  obtain ⟨fP, fdP, mP, kP, GP, bP⟩ := GP.ex
  have sc : FnScope NEnl ["owners", "seconds", "start"] (defScope sEnl) := ⟨rfl, rfl, rfl, by decide +kernel, rfl, by decide +kernel, by decide +kernel⟩
  refine F.okX sc (fun vs H Q E h => ?_) (fun cdv A outer s H vs Q E hr h => ?_)
  · obtain ⟨a, q, st, O, S, dn, rfl, _⟩ := h
    rfl
  · obtain ⟨a, q, st, O, S, dn, rfl, ha, hq, mt, hst, nst, few, fin⟩ := h
    have hu := hu_of hr
    refine ⟨_, pss_cons (ps_par (i := 3) (j := 4) rfl sc.nd rfl rfl (by decide) rfl rfl (pa_cons pe_dnewK (pa_cons pe_dnewK pa_nil)) (by rfl))
      (pss_cons (ps_set (i := 5) sc.nd rfl (Or.inl rfl) (pe_lst (pa_cons (pv 2) pa_nil)))
      (pss_cons (ps_while passOwn (pt_truth (pv 5) (fun _ => rfl))
        (pss_cons (ps_set (i := 6) sc.nd rfl (Or.inl rfl) (pe_bm0 PySem.F.plainAttrs_list PySem.F.slot_list_pop PySem.F.type_list_pop mt_pop (pv 5)))
        (pss_one (ps_for passOwn rfl (pi_tup (pe_dget hu (pv 1) (pv 6) (fun _ _ => rfl))) (pg_name (i := 7) sc.nd rfl (Or.inl rfl))
          (pss_one (ps_if (pt_cmp (pc_dnotin hu (pv 7) (pv 3)))
            (pss_cons (ps_dput hu (pv 3) (pv 7) (pv 6) rfl)
            (pss_cons (ps_if (pt_cmp (pc_dnotin hu (pv 7) (pv 0)))
              (pss_one (ps_ret (DJoin.pe_join (pv 0) (pe_call GP hr (by rfl) mP kP bP .nil passL (pa_cons (pv 2) (pa_cons (pv 7) (pa_cons (pv 3) (pa_cons (pv 4) pa_nil))))))))
              pss_nil)
            (pss_cons (ps_dput hu (pv 4) (pe_dget hu (pv 0) (pv 7) (fun _ _ => rfl)) (pv 7) rfl)
            (pss_one (ps_expr (pe_bm PySem.F.plainAttrs_list PySem.F.slot_list_append PySem.F.type_list_append mt_append (pv 5) (pa_cons (pe_dget hu (pv 0) (pv 7) (fun _ _ => rfl)) pa_nil)))))))
            pss_nil))))))
      (pss_one (ps_ret (pv 0))))), ?_⟩
    intro c nc t nt
    refine ⟨_, _, rfl, _, rfl, (by show 1 ≤ sizeLine; decide), fun wt nw => ?_⟩
    obtain ⟨tc, nt⟩ := none_upd nt
    obtain ⟨wt', nw⟩ := none_upd nw
    obtain ⟨wc, nw⟩ := none_upd nw
    have s0 : Same H (upd (upd (upd H c (.dK [])) t (.dK [])) wt (.lst [V.str st])) := same_put (same_put (same_upd nc) nt) nw
    have c0 : (upd (upd (upd H c (.dK [])) t (.dK [])) wt (.lst [V.str st])) c = some (.dK (dS [])) := by rw [upd_ne (Ne.symm wc), upd_ne (Ne.symm tc), upd_same]; rfl
    have t0 : (upd (upd (upd H c (.dK [])) t (.dK [])) wt (.lst [V.str st])) t = some (.dK (dS [])) := by rw [upd_ne (Ne.symm wt'), upd_same]; rfl
    have w0 : (upd (upd (upd H c (.dK [])) t (.dK [])) wt (.lst [V.str st])) wt = some (.lst ([st].map V.str)) := upd_same
    generalize upd (upd (upd H c (.dK [])) t (.dK [])) wt (.lst [V.str st]) = B at s0 c0 t0 w0 ⊢
    have lenO := mt.len
    dsimp only [gName, tSeq]
    refine while_by (fun σ G => ∃ b v6 v7, σ = [some (.ref a), some (.ref q), some (.str st), some (.ref c), some (.ref t), some (.ref wt), v6, v7] ∧ Same H G ∧ G c = some (.dK (dS b.c)) ∧ G t = some (.dK (dS b.t)) ∧ G wt = some (.lst (b.w.map V.str)) ∧ Bi S O st [] b ∧ ∀ x, Run S O b x → Run S O ⟨[], [], [st]⟩ x)
      (fun _ G => lenAt G wt + (O.length - dlen G c)) ⟨⟨[], [], [st]⟩, _, _, rfl, s0, c0, t0, w0, Bi.start S O st, fun _ h => h⟩ ?_ ?_
    · rintro σ G ⟨⟨bc, bt, bw⟩, v6, v7, rfl, sm, gc, gt, gw, bi, run⟩
      have gc : G c = some (.dK (dS bc)) := gc
      have gt : G t = some (.dK (dS bt)) := gt
      have gw : G wt = some (.lst (bw.map V.str)) := gw
      have ga := sm _ _ ha
      refine ⟨_, rfl, _, .inl ⟨_, SqL.of gw, rfl⟩, ?_⟩
      by_cases e : bw = []
      · subst e
        refine if_neg' rfl ?_
        exact ⟨_, rfl, fin a O G sm ga (.inl ⟨run _ (.stop rfl), rfl⟩) (mt.stuck (bi.stuck rfl))⟩
      · obtain ⟨w1, f, rfl⟩ := last_of e
        refine if_pos' (by simp) ?_
        have hl : ((w1 ++ [f]).map V.str)[((w1 ++ [f]).map V.str).length - 1]? = some (.str f) := by simp
        refine ⟨_, rfl, .inl ⟨rfl, _, SqL.of gw⟩, wt, _, _, rfl, rfl, gw, hl, ?_⟩
        have hdl : ((w1 ++ [f]).map V.str).dropLast = w1.map V.str := by simp
        rw [hdl]
        have sm1 := same_put (o := .lst (w1.map V.str)) sm nw
        have gc1 : (upd G wt (.lst (w1.map V.str))) c = some (.dK (dS bc)) := by rw [upd_ne (Ne.symm wc)]; exact gc
        have gt1 : (upd G wt (.lst (w1.map V.str))) t = some (.dK (dS bt)) := by rw [upd_ne (Ne.symm wt')]; exact gt
        have gw1 : (upd G wt (.lst (w1.map V.str))) wt = some (.lst (w1.map V.str)) := upd_same
        have mu : lenAt G wt + (O.length - dlen G c) = w1.length + 1 + (O.length - bc.length) := by
          unfold lenAt dlen
          rw [gw, gc]
          simp only [List.length_map, List.length_append, List.length_cons, List.length_nil, dS_len]
        rw [mu]
        clear mu
        generalize upd G wt (.lst (w1.map V.str)) = G1 at sm1 gc1 gt1 gw1 ⊢
        have bp := bi.pop (f := f) (w := w1) rfl
        have hf : f = st ∨ f ∈ ks bt := bi.wk f (List.mem_append_right _ List.mem_cons_self)
        have hfS : f ∈ fs S := by
          rcases hf with rfl | hf
          · exact hst
          · obtain ⟨x, ex⟩ := at_in hf
            exact (mt.sub _ _ (bi.thr _ _ ex).2).2.1
        obtain ⟨ts, get, hts⟩ := (hq.same sm1).get hfS
        refine ⟨_, rfl, _, rfl, q, _, rfl, get, ts, rfl, ⟨_, SqT.of hts⟩, for_it walk_tup (fun j σ G => ∃ b v7, σ = [some (.ref a), some (.ref q), some (.str st), some (.ref c), some (.ref t), some (.ref wt), some (.str f), v7] ∧ Same H G ∧ G c = some (.dK (dS b.c)) ∧ G t = some (.dK (dS b.t)) ∧ G wt = some (.lst (b.w.map V.str)) ∧ Same G1 G1 ∧ G ts = some (.tup ((sq S f).map V.str)) ∧ Bi S O st [f] b ∧ (f = st ∨ f ∈ ks b.t) ∧ vis O f (sq S f) ⟨bc, bt, w1⟩ = vis O f ((sq S f).drop j) b ∧ (∀ s ∈ (sq S f).take j, s ∈ ks b.c) ∧ b.w.length + (O.length - b.c.length) = w1.length + (O.length - bc.length))
          ⟨⟨bc, bt, w1⟩, _, rfl, sm1, gc1, gt1, gw1, fun _ _ h => h, hts, bp, hf, rfl, fun _ h => (nomatch h), rfl⟩ (fun j σ G _ ⟨_, _, _, _, _, _, _, _, h, _⟩ => SqT.of h) (fun j x σ G G' hj ⟨b, v7, e1, sm2, gc2, gt2, gw2, _, hts2, bi2, hf2, vi, tk, mu⟩ ⟨e2, hx⟩ => ?_) (fun σ G ⟨b, v7, e1, sm2, gc2, gt2, gw2, _, hts2, bi2, hf2, vi, tk, mu⟩ => ?_)⟩
        · subst e1
          have e2 := e2.symm
          subst e2
          obtain ⟨s, hs, rfl⟩ := map_at hx
          have sIn := List.mem_of_getElem? hs
          rw [List.length_map] at hj
          have dj : (sq S f).drop j = s :: (sq S f).drop (j + 1) := by
            have := List.drop_eq_getElem_cons hj
            rw [this, (List.getElem?_eq_some_iff.mp hs).2]
          have tj : (sq S f).take (j + 1) = (sq S f).take j ++ [s] := by rw [List.take_succ, hs]; rfl
          rw [dj] at vi
          obtain ⟨b1, b2, b3⟩ := b
          have gc2 : G c = some (.dK (dS b1)) := gc2
          have gt2 : G t = some (.dK (dS b2)) := gt2
          have gw2 : G wt = some (.lst (b3.map V.str)) := gw2
          have mu : b3.length + (O.length - b1.length) = w1.length + (O.length - bc.length) := mu
          by_cases hin : s ∈ ks b1
          · obtain ⟨v, ev⟩ := at_in hin
            refine ⟨_, rfl, _, rfl, c, _, rfl, .inl ⟨_, Sum.inr s, .inl gc2, rfl, by rw [dS_at, ev] <;> rfl⟩, _, rfl, if_neg' rfl ?_⟩
            refine ⟨⟨b1, b2, b3⟩, _, rfl, sm2, gc2, gt2, gw2, fun _ _ h => h, hts2, bi2, hf2, ?_, fun x hx => ?_, mu⟩
            · rw [vi]
              show (if s ∈ ks b1 then _ else _) = _
              rw [if_pos hin]
            · rw [tj] at hx
              rcases mem_snoc.mp hx with hx | rfl
              · exact tk x hx
              · exact hin
          · refine ⟨_, rfl, _, rfl, c, _, rfl, .inl ⟨_, Sum.inr s, .inl gc2, rfl, by rw [dS_at, at_none hin] <;> rfl⟩, _, rfl, if_pos' rfl ?_⟩
            have blen : b1.length ≤ O.length := bi2.len
            refine ⟨_, rfl, _, rfl, _, rfl, c, _, rfl, .inl ⟨_, Sum.inr s, gc2, rfl, ?_, rfl⟩, ?_⟩
            · rw [dS_len]
              exact Nat.lt_of_le_of_lt (m := 200) (by omega) (by decide)
            rw [dS_put hin]
            have gc3 : (upd G c (.dK (dS (b1 ++ [(s, f)])))) c = some (.dK (dS (b1 ++ [(s, f)]))) := upd_same
            have gt3 : (upd G c (.dK (dS (b1 ++ [(s, f)])))) t = some (.dK (dS b2)) := by rw [upd_ne tc]; exact gt2
            have gw3 : (upd G c (.dK (dS (b1 ++ [(s, f)])))) wt = some (.lst (b3.map V.str)) := by rw [upd_ne wc]; exact gw2
            have sm3 := same_put (o := .dK (dS (b1 ++ [(s, f)]))) sm2 nc
            have hts3 : (upd G c (.dK (dS (b1 ++ [(s, f)])))) ts = some (.tup ((sq S f).map V.str)) := by
              rw [upd_ne (ne_of hts2 gc2 (fun z => nomatch z))]
              exact hts2
            generalize upd G c (.dK (dS (b1 ++ [(s, f)]))) = G3 at gc3 gt3 gw3 sm3 hts3 ⊢
            have ga3 := sm3 _ _ ha
            cases ho : at_ O s with
            | none =>
              refine ⟨_, rfl, _, rfl, a, _, rfl, .inl ⟨_, Sum.inr s, .inl ga3, rfl, by rw [dS_at, ho] <;> rfl⟩, _, rfl, if_pos' rfl ?_⟩
              obtain ⟨M, m1, m2, m3, m4⟩ := mt.found hst nst bi2 hf2 sIn hin ho
              have fnd : Enl S O st (ovr O M) := .inr ⟨⟨b1 ++ [(s, f)], b2, b3⟩, s, M, run _ (.found rfl (by
                show vis O f (sq S f) ⟨bc, bt, w1⟩ = _
                rw [vi]
                show (if s ∈ ks b1 then _ else _) = _
                rw [if_neg hin, ho])), m1, rfl⟩
              intro p np
              have sp := same_upd (o := .dK []) np
              refine ⟨_, rfl, a, _, rfl, upd_same, .inl (sp _ _ ga3), ne_of_none ga3 np, ?_⟩
              have sp2 : Same G3 (upd (upd G3 p (.dK [])) p (.dK (mergeK [] (dS O)))) := same_put sp np
              have gp2 : (upd (upd G3 p (.dK [])) p (.dK (mergeK [] (dS O)))) p = some (.dK (mergeK [] (dS O))) := upd_same
              generalize upd (upd G3 p (.dK [])) p (.dK (mergeK [] (dS O))) = G4 at sp2 gp2 ⊢
              refine ⟨_, rfl, _, rfl, _, rfl, _, rfl, ?_⟩
              refine ⟨st, s, c, t, _, _, M, rfl, sp2 _ _ gc3, sp2 _ _ gt3, m1, m2, by omega, fun d G5 nd s5 hd => ?_⟩
              refine ⟨d, _, rfl, s5 _ _ gp2, .inl hd, (fun z => by rw [z, gp2] at nd; cases nd), ?_, ?_⟩
              · rw [dS_len, dS_len]
                exact Nat.le_trans (m := 1000) (by omega) (by decide)
              · rw [dS_copy mt.kn, dS_merge]
                exact fin p _ _ (same_put (sm3.trans (sp2.trans s5)) (_root_.G1.Same.none sm3 np)) upd_same fnd m4
            | some o =>
              refine ⟨_, rfl, _, rfl, a, _, rfl, .inl ⟨_, Sum.inr s, .inl ga3, rfl, by rw [dS_at, ho] <;> rfl⟩, _, rfl, if_neg' rfl ?_⟩
              obtain ⟨no, bi3⟩ := bi2.more mt.inj hf2 sIn hin ho
              have no : o ∉ ks b2 := no
              have look : ∀ {G : Hp}, G a = some (.dK (dS O)) → DGet G a (.str s) (some (.str o)) := fun h => .inl ⟨_, Sum.inr s, .inl h, rfl, by rw [dS_at, ho] <;> rfl⟩
              have tlen : b2.length = b1.length := bi2.sz.1
              have wlen : b3.length ≤ b1.length + 1 := bi2.sz.2
              refine ⟨_, rfl, _, rfl, _, rfl, _, rfl, a, _, rfl, look ga3, t, _, rfl, .inl ⟨_, Sum.inr o, gt3, rfl, ?_, rfl⟩, ?_⟩
              · rw [dS_len]
                exact Nat.lt_of_le_of_lt (m := 200) (by omega) (by decide)
              rw [dS_put no]
              have gc4 : (upd G3 t (.dK (dS (b2 ++ [(o, s)])))) c = some (.dK (dS (b1 ++ [(s, f)]))) := by rw [upd_ne (Ne.symm tc)]; exact gc3
              have gt4 : (upd G3 t (.dK (dS (b2 ++ [(o, s)])))) t = some (.dK (dS (b2 ++ [(o, s)]))) := upd_same
              have gw4 : (upd G3 t (.dK (dS (b2 ++ [(o, s)])))) wt = some (.lst (b3.map V.str)) := by rw [upd_ne wt']; exact gw3
              have sm4 := same_put (o := .dK (dS (b2 ++ [(o, s)]))) sm3 nt
              have hts4 : (upd G3 t (.dK (dS (b2 ++ [(o, s)])))) ts = some (.tup ((sq S f).map V.str)) := by
                rw [upd_ne (ne_of hts3 gt3 (fun z => nomatch z))]
                exact hts3
              generalize upd G3 t (.dK (dS (b2 ++ [(o, s)]))) = G4 at gc4 gt4 gw4 sm4 hts4 ⊢
              refine ⟨_, rfl, .inl ⟨rfl, _, SqL.of gw4⟩, _, rfl, _, rfl, a, _, rfl, look (sm4 _ _ ha), wt, _, _, rfl, rfl, gw4, ?_, ?_⟩
              · rw [List.length_map]
                exact Nat.lt_of_le_of_lt (m := 300) (by omega) (by decide)
              have ew : b3.map V.str ++ [V.str o] = (b3 ++ [o]).map V.str := by rw [List.map_append]; rfl
              rw [ew]
              refine ⟨⟨b1 ++ [(s, f)], b2 ++ [(o, s)], b3 ++ [o]⟩, _, rfl, same_put sm4 nw, ?_, ?_, upd_same, fun _ _ h => h, ?_, bi3, ?_, ?_, fun x hx => ?_, ?_⟩
              · rw [upd_ne (Ne.symm wc)]; exact gc4
              · rw [upd_ne (Ne.symm wt')]; exact gt4
              · rw [upd_ne (ne_of hts4 gw4 (fun z => nomatch z))]; exact hts4
              · rw [ks_snoc]
                exact hf2.imp id fun z => List.mem_append_left _ z
              · rw [vi]
                show (if s ∈ ks b1 then _ else _) = _
                rw [if_neg hin, ho]
              · rw [tj] at hx
                show x ∈ ks (b1 ++ [(s, f)])
                rw [ks_snoc]
                rcases mem_snoc.mp hx with hx | rfl
                · exact List.mem_append_left _ (tk x hx)
                · exact List.mem_append_right _ List.mem_cons_self
              · have l3 : (b1 ++ [(s, f)]).length ≤ O.length := bi3.len
                show (b3 ++ [o]).length + (O.length - (b1 ++ [(s, f)]).length) = _
                rw [List.length_append] at l3 ⊢
                rw [List.length_append]
                simp only [List.length_cons, List.length_nil] at l3 ⊢
                omega
        · rw [List.length_map] at vi tk
          rw [List.drop_length] at vi
          rw [List.take_length] at tk
          subst e1
          have bi3 := bi2.close tk
          refine ⟨⟨b, _, _, rfl, sm2, gc2, gt2, gw2, bi3, fun x hx => run x (.step rfl vi hx)⟩, ?_⟩
          unfold lenAt dlen
          rw [gw2, gc2]
          simp only [List.length_map, dS_len]
          omega
    · rintro σ G Q1 Q2 hq ⟨z1, z2, z3, z4, z5⟩
      exact ⟨z1, z2, z3, z4, hq _ _ z5⟩
end
end R9
end

-- J5c
section
set_option Elab.async false
set_option linter.all false
set_option maxRecDepth 100000
namespace R9
open PySem L2 OwnOps OwnNe G1 EqDict SortStr R6 GS StX
abbrev sSec : Stmt := top 3
abbrev Pr := Str × Str
def PK (p : Pr) : List Key := [.inr p.1, .inr p.2]
theorem PK_inj {p q : Pr} (h : PK p = PK q) : p = q := by
  unfold PK at h
  injection h with h1 h2
  injection h2 with h2 _
  exact Prod.ext (Sum.inr.inj h1) (Sum.inr.inj h2)
def unPK : List Key → Pr
  | [.inr a, .inr b] => (a, b)
  | _ => (Str.empty, Str.empty)
theorem un_PK (p : Pr) : unPK (PK p) = p := rfl
/-- the pairs, each once, ascending -/
def srtP (P : List Pr) : List Pr := (srtT (P.map PK)).map unPK
theorem srtP_eq (P : List Pr) : srtT (P.map PK) = (srtP P).map PK := by
  unfold srtP
  rw [List.map_map]
  refine ((List.map_congr_left fun k hk => ?_).trans (List.map_id _)).symm
  obtain ⟨p, _, rfl⟩ := List.mem_map.mp (mem_srtT.mp hk)
  rfl
theorem mem_srtP {P : List Pr} {p : Pr} : p ∈ srtP P ↔ p ∈ P := by
  have : PK p ∈ srtT (P.map PK) ↔ p ∈ P := by
    rw [mem_srtT]
    exact ⟨fun h => let ⟨q, hq, e⟩ := List.mem_map.mp h; PK_inj e ▸ hq, fun h => List.mem_map.mpr ⟨p, h, rfl⟩⟩
  rw [← this, srtP_eq]
  exact ⟨fun h => List.mem_map.mpr ⟨p, h, rfl⟩, fun h => let ⟨q, hq, e⟩ := List.mem_map.mp h; PK_inj e ▸ hq⟩
theorem nd_srtP (P : List Pr) : (srtP P).Nodup := by
  have := nodup_srtT (P.map PK)
  rw [srtP_eq] at this
  exact List.Pairwise.of_map PK (fun a b h e => h (by rw [e])) this
theorem alike_PK (p q : Pr) : W.alike (encT (PK p)) (encT (PK q)) = true := by
  simp [encT, PK, encK, W.alike, W.alikeAll]
/-- S with ns at f -/
def pts (S : Sec) (f : Str) (ns : List Str) : Sec := if f ∈ fs S then S.map fun p => if p.1 = f then (p.1, ns) else p else S ++ [(f, ns)]
theorem fs_pts (S : Sec) (f : Str) (ns : List Str) : fs (pts S f ns) = if f ∈ fs S then fs S else fs S ++ [f] := by
  unfold pts
  split
  · unfold fs
    rw [List.map_map]
    refine List.map_congr_left fun p _ => ?_
    show (if p.1 = f then (p.1, ns) else p).1 = p.1
    split <;> rfl
  · unfold fs
    rw [List.map_append]; rfl
theorem sq_cons {p : Str × List Str} {S : Sec} {x : Str} : sq (p :: S) x = if p.1 = x then p.2 else sq S x := by
  unfold sq sq?
  rw [List.find?_cons]
  by_cases e : p.1 = x
  · rw [decide_eq_true e, if_pos e]; rfl
  · rw [decide_eq_false e, if_neg e]
theorem sq_out {S : Sec} {x : Str} (h : x ∉ fs S) : sq S x = [] := by
  unfold sq sq?
  rw [List.find?_eq_none.mpr] <;> first | rfl | skip
  intro p hp z
  exact h (List.mem_map.mpr ⟨p, hp, of_decide_eq_true z⟩)
theorem sq_pts (S : Sec) (f : Str) (ns : List Str) (x : Str) : sq (pts S f ns) x = if x = f then ns else sq S x := by
  unfold pts
  split
  · rename_i h
    induction S with
    | nil => cases h
    | cons p r ih =>
      rw [List.map_cons, sq_cons]
      by_cases e : p.1 = f
      · rw [if_pos e]
        by_cases ex : x = f
        · rw [if_pos (by rw [ex]; exact e), if_pos ex]
        · rw [if_neg (fun z => ex (by rw [← z]; exact e)), if_neg ex, sq_cons, if_neg (fun z => ex (by rw [← z]; exact e))]
          by_cases hr : f ∈ fs r
          · rw [ih hr, if_neg ex]
          · have : r.map (fun p => if p.1 = f then (p.1, ns) else p) = r := by
              refine (List.map_congr_left fun q hq => ?_).trans (List.map_id r)
              rw [if_neg (fun z => hr (List.mem_map.mpr ⟨q, hq, z⟩))]; rfl
            rw [this]
      · have hr : f ∈ fs r := by
          rcases List.mem_cons.mp (show f ∈ p.1 :: fs r from h) with z | z
          · exact absurd z.symm e
          · exact z
        rw [if_neg e, sq_cons, ih hr]
        by_cases ep : p.1 = x
        · rw [if_pos ep, if_pos ep, if_neg (fun z => e (ep.trans z))]
        · rw [if_neg ep, if_neg ep]
  · rename_i h
    have app : ∀ (S : Sec), sq (S ++ [(f, ns)]) x = if x ∈ fs S then sq S x else if f = x then ns else [] := fun S => by
      induction S with
      | nil =>
        rw [List.nil_append, sq_cons]
        have : ¬ x ∈ fs ([] : Sec) := fun z => nomatch z
        rw [if_neg this]; rfl
      | cons p r ih =>
        rw [List.cons_append, sq_cons, ih, sq_cons]
        by_cases ep : p.1 = x
        · rw [if_pos ep, if_pos ep, if_pos (by rw [← ep]; exact List.mem_cons_self)]
        · rw [if_neg ep, if_neg ep]
          by_cases hx : x ∈ fs r
          · have : x ∈ fs (p :: r) := List.mem_cons_of_mem _ hx
            rw [if_pos hx, if_pos this]
          · have : ¬ x ∈ fs (p :: r) := fun z => (List.mem_cons.mp z).elim (fun e => ep e.symm) hx
            rw [if_neg hx, if_neg this]
    rw [app]
    by_cases ex : x = f
    · rw [if_neg (by rw [ex]; exact h), if_pos ex.symm, if_pos ex]
    · rw [if_neg ex, if_neg (fun z : f = x => ex z.symm)]
      by_cases hx : x ∈ fs S
      · rw [if_pos hx]
      · rw [if_neg hx, sq_out hx]
def put1 (S : Sec) (p : Pr) : Sec := pts S p.1 (sq S p.1 ++ [p.2])
def secOf (Z : List Pr) : Sec := Z.foldl put1 []
theorem sec_snoc (Z : List Pr) (p : Pr) : secOf (Z ++ [p]) = put1 (secOf Z) p := by unfold secOf; rw [List.foldl_append]; rfl
theorem snoc_ind {α : Type} {motive : List α → Prop} (h0 : motive []) (h1 : ∀ l x, motive l → motive (l ++ [x])) (l : List α) : motive l := by
  have : ∀ r : List α, motive r.reverse := fun r => by
    induction r with
    | nil => exact h0
    | cons x r ih => rw [List.reverse_cons]; exact h1 _ _ ih
  have := this l.reverse
  rwa [List.reverse_reverse] at this
theorem sec_nd (Z : List Pr) : (fs (secOf Z)).Nodup := by
  induction Z using snoc_ind with
  | h0 => exact List.nodup_nil
  | h1 l p ih =>
    rw [sec_snoc]
    unfold put1
    rw [fs_pts]
    split
    · exact ih
    · exact nd_snoc ih (by assumption)
theorem sec_mem (Z : List Pr) (f s : Str) : s ∈ sq (secOf Z) f ↔ (f, s) ∈ Z := by
  induction Z using snoc_ind generalizing f s with
  | h0 => exact ⟨fun h => (nomatch h), fun h => (nomatch h)⟩
  | h1 l p ih =>
    rw [sec_snoc, mem_snoc]
    unfold put1
    rw [sq_pts]
    by_cases e : f = p.1
    · rw [if_pos e, mem_snoc, ← e, ih]
      exact ⟨fun h => h.imp id fun z => Prod.ext e z, fun h => h.imp id fun z => congrArg Prod.snd z⟩
    · rw [if_neg e, ih]
      exact ⟨.inl, fun h => h.elim id fun z => absurd (congrArg Prod.fst z) e⟩
theorem sec_len (Z : List Pr) : (secOf Z).length ≤ Z.length := by
  induction Z using snoc_ind with
  | h0 => exact Nat.le_refl _
  | h1 l p ih =>
    rw [sec_snoc, List.length_append]
    unfold put1 pts
    split
    · rw [List.length_map]; exact Nat.le_succ_of_le ih
    · rw [List.length_append]; exact Nat.succ_le_succ ih
theorem sec_in (Z : List Pr) (f s : Str) (h : (f, s) ∈ Z) : f ∈ fs (secOf Z) := by
  by_cases e : f ∈ fs (secOf Z)
  · exact e
  · have := (sec_mem Z f s).mpr h
    rw [sq_out e] at this; cases this
theorem sq_len (Z : List Pr) (f : Str) : (sq (secOf Z) f).length ≤ Z.length := by
  induction Z using snoc_ind generalizing f with
  | h0 => exact Nat.le_refl _
  | h1 l p ih =>
    rw [sec_snoc, List.length_append]
    unfold put1
    rw [sq_pts]
    split
    · rw [List.length_append]; exact Nat.succ_le_succ (ih _)
    · exact Nat.le_succ_of_le (ih _)
theorem SP.put {H : Hp} {kvs : List (Key × V)} {S : Sec} (h : SP H kvs S) {f : Str} {ns : List Str} {t : Addr} (ht : H t = some (.tup (ns.map V.str))) : SP H (putK kvs (Sum.inr f) (.ref t)) (pts S f ns) := by
  have any : (kvs.any fun kv => decide (kv.1 = Sum.inr f)) = decide (f ∈ fs S) := by
    induction h with
    | nil => rfl
    | @cons p q ps qs r _ ih =>
      obtain ⟨e, _⟩ := r
      rw [List.any_cons, ih, e, Bool.eq_iff_iff, Bool.or_eq_true, decide_eq_true_iff, decide_eq_true_iff, decide_eq_true_iff]
      show _ ↔ f ∈ q.1 :: fs qs
      rw [List.mem_cons]
      exact ⟨fun h => h.imp (fun z => (Sum.inr.inj z).symm) id, fun h => h.imp (fun z => by rw [z]) id⟩
  unfold putK pts
  rw [any]
  by_cases c : f ∈ fs S
  · rw [if_pos (decide_eq_true c), if_pos c]
    clear any c
    induction h with
    | nil => exact .nil
    | @cons p q ps qs r _ ih =>
      rw [List.map_cons, List.map_cons]
      refine .cons ?_ ih
      obtain ⟨e, t', e2, ht'⟩ := r
      by_cases c : q.1 = f
      · rw [if_pos (by rw [e, c]), if_pos c]
        exact ⟨e, t, rfl, ht⟩
      · rw [if_neg (by rw [e]; exact fun z => c (Sum.inr.inj z)), if_neg c]
        exact ⟨e, t', e2, ht'⟩
  · rw [if_neg (by rw [decide_eq_false c]; exact Bool.false_ne_true), if_neg c]
    clear any c
    induction h with
    | nil => exact .cons ⟨rfl, t, rfl, ht⟩ .nil
    | cons r _ ih => exact .cons r ih
theorem SP.len {H : Hp} {kvs : List (Key × V)} {S : Sec} (h : SP H kvs S) : kvs.length = S.length := Paired.length h
theorem tups_at {K : PySem.W.Frag} {H : Hp} {xs : List V} {P : List Pr} (h : Tups K H xs (P.map PK)) : ∀ {j : Nat} {x : V}, xs[j]? = some x → ∃ p t, P[j]? = some p ∧ x = .ref t ∧ SqT K H t [.str p.1, .str p.2] := by
  intro j x hx
  have len := Paired.length h
  rw [List.length_map] at len
  have lt : j < xs.length := (List.getElem?_eq_some_iff.mp hx).1
  have : ∀ {xs : List V} {ks : List (List Key)}, Tups K H xs ks → ∀ {j : Nat} {x : V}, xs[j]? = some x → ∃ k t, ks[j]? = some k ∧ x = .ref t ∧ SqT K H t (k.map kV) := by
    intro xs ks h
    induction h with
    | nil => intro j x e; simp at e
    | cons r _ ih =>
      intro j x e
      cases j with
      | zero =>
        simp at e
        subst e
        obtain ⟨t, e2, ht⟩ := r
        exact ⟨_, t, rfl, e2, ht⟩
      | succ j => exact ih (by simpa using e)
  obtain ⟨k, t, e, e2, ht⟩ := this h hx
  rw [List.getElem?_map] at e
  cases ep : P[j]? with
  | none => rw [ep] at e; cases e
  | some p =>
    rw [ep] at e
    cases e
    exact ⟨p, t, rfl, e2, ht⟩
theorem sqT_same {K : PySem.W.Frag} {H H' : Hp} {a : Addr} {xs : List V} (h : SqT K H a xs) (e : Same H H') : SqT K H' a xs :=
  h.elim (fun h => .inl (h.elim (fun h => .inl (e _ _ h)) fun ⟨o, h⟩ => .inr ⟨o, e _ _ h⟩)) fun h => .inr h
theorem sqL_same {K : PySem.W.Frag} {H H' : Hp} {a : Addr} {xs : List V} (h : SqL K H a xs) (e : Same H H') : SqL K H' a xs :=
  h.elim (fun h => .inl (h.elim (fun h => .inl (e _ _ h)) fun ⟨o, h⟩ => .inr ⟨o, e _ _ h⟩)) fun h => .inr h
theorem hu100 {k : Nat} {A : Around} (r : Room k A) : A.units + 100 < cLine := by have := r.un; omega
theorem Tups.same {K : PySem.W.Frag} {H H' : Hp} {xs : List V} {ks : List (List Key)} (h : Tups K H xs ks) (s : Same H H') : Tups K H' xs ks := by
  induction h with
  | nil => exact .nil
  | cons r _ ih =>
    obtain ⟨t, e, ht⟩ := r
    exact .cons ⟨t, e, sqT_same ht s⟩ ih
theorem sqT_sameX {K : PySem.W.Frag} {H G : Hp} {a d : Addr} {xs : List V} {kvs : List (Key × V)} (hd : H d = some (.dK kvs)) (h : SqT K H a xs) (s : SameX d H G) : SqT K G a xs := by
  rcases h with (h | ⟨o, h⟩) | h
  · exact .inl (.inl (s _ _ (ne_of h hd (fun z => nomatch z)) h))
  · exact .inl (.inr ⟨o, s _ _ (ne_of h hd (fun z => nomatch z)) h⟩)
  · exact .inr h
theorem SP.sameX {H G : Hp} {d : Addr} {kvs ls : List (Key × V)} {S : Sec} (h : SP H kvs S) (hd : H d = some (.dK ls)) (s : SameX d H G) : SP G kvs S := by
  induction h with
  | nil => exact .nil
  | cons r _ ih =>
    obtain ⟨e, t, e2, ht⟩ := r
    exact .cons ⟨e, t, e2, s _ _ (ne_of ht hd (fun z => nomatch z)) ht⟩ ih
section
variable {P : Program} {w : World} {K : PySem.W.Frag} {mg : Str → Option Value} {base : Heap}
def spSec (K : PySem.W.Frag) : Sp := fun vs H Q _ => ∃ (l : Addr) (xs : List V) (Z : List Pr), vs = [.ref l] ∧ SqL K H l xs ∧ Tups K H xs (Z.map PK) ∧ Z.length < 64 ∧ ∀ d H', Same H H' → SecD H' d (secOf (srtP Z)) → Q (.ref d) H'
abbrev NSec : List Str := ["pairs", "seconds", "first", "second"]
theorem ok_sec {f : Addr} {fd : FuncData} (F : Fun K "second_names" "second_names" sSec f fd) (T : Txt mg) : FnOk P w K mg base (L2.CX P w) 1 f fd ["pairs"] (spSec K) := by
  have sc : FnScope NSec ["pairs"] (defScope sSec) := ⟨rfl, rfl, rfl, by decide +kernel, rfl, by decide +kernel, by decide +kernel⟩
  refine F.okX sc (fun vs H Q E h => ?_) (fun cdv A outer s H vs Q E hr h => ?_)
  · obtain ⟨l, xs, Z, rfl, _⟩ := h
    rfl
  · obtain ⟨l, xs, Z, rfl, hl, tp, few, fin⟩ := h
    have hu := hu_of hr
    refine ⟨_, pss_cons (ps_set (i := 1) sc.nd rfl (Or.inl rfl) pe_dnewK)
      (pss_cons (ps_for passOwn rfl (pi_list (pe_sortedG (hu100 hr) (by rfl) T.sorted (by rfl) T.set (pv 0))) (pg_two (i := 2) (j := 3) rfl sc.nd rfl (Or.inl rfl) rfl (Or.inl rfl))
        (pss_one (ps_dput hu (pv 1) (pv 2) (pe_tup (pa_star (pe_dget2 hu (pv 1) (pv 2) (pe_tup pa_nil) ⟨rfl, rfl, rfl, rfl⟩) (pa_cons (pv 3) pa_nil))) rfl)))
      (pss_one (ps_ret (pv 1)))), ?_⟩
    intro d nd
    have sB : Same H (upd H d (.dK [])) := same_upd nd
    have hB : (upd H d (.dK [])) d = some (.dK []) := upd_same
    generalize upd H d (.dK []) = B at sB hB ⊢
    have lenX : xs.length = Z.length := by
      have := Paired.length tp
      rwa [List.length_map] at this
    refine ⟨_, rfl, l, xs, Z.map PK, rfl, sqL_same hl sB, Tups.same tp sB, by omega, ?_, ?_, fun ys p hy _ np => ?_⟩
    · intro k hk q hq
      obtain ⟨x, _, rfl⟩ := List.mem_map.mp hk
      obtain ⟨y, _, rfl⟩ := List.mem_map.mp hq
      exact alike_PK x y
    · intro k hk
      obtain ⟨x, _, rfl⟩ := List.mem_map.mp hk
      exact fun z => nomatch z
    rw [srtP_eq] at hy
    have lenY : ys.length = (srtP Z).length := by
      have := Paired.length hy
      rwa [List.length_map] at this
    have lenZ : (srtP Z).length ≤ Z.length := List.Nodup.length_le_of_subset (nd_srtP Z) fun x hx => mem_srtP.mp hx
    have s2 := same_upd (o := .lst ys) np
    have pd : p ≠ d := fun z => by rw [z, hB] at np; cases np
    have h2 : (upd B p (.lst ys)) p = some (.lst ys) := upd_same
    have hd2 := s2 _ _ hB
    have hy2 := Tups.same hy s2
    have sH2 := sB.trans s2
    generalize upd B p (.lst ys) = C at s2 h2 hd2 hy2 sH2 ⊢
    refine ⟨p, rfl, ⟨_, SqL.of h2⟩, for_it walk_list (fun j σ G => (∃ v2 v3, σ = [some (.ref l), some (.ref d), v2, v3]) ∧ Same H G ∧ SameX d C G ∧ ∃ kvs, G d = some (.dK kvs) ∧ SP G kvs (secOf ((srtP Z).take j)))
      ⟨⟨_, _, rfl⟩, sH2, SameX.refl _ _, [], hd2, .nil⟩ (fun j σ G _ ⟨_, _, sx, _⟩ => SqL.of (sx _ _ pd h2)) (fun j x σ G G' hj ⟨⟨v2, v3, e⟩, sm, sx, kvs, hd, sp⟩ ⟨e2, hx⟩ => ?_) (fun σ G ⟨⟨v2, v3, e⟩, sm, sx, kvs, hd, sp⟩ => ?_)⟩
    · subst e
      have e2 := e2.symm
      subst e2
      obtain ⟨⟨f, s⟩, t, hp, rfl, ht⟩ := tups_at hy2 hx
      have htG := sqT_sameX hd2 ht sx
      have tk : (srtP Z).take (j + 1) = (srtP Z).take j ++ [(f, s)] := by rw [List.take_succ, hp]; rfl
      refine ⟨t, _, rfl, htG, rfl, _, _, rfl, _, _, rfl, rfl, ?_⟩
      refine ⟨_, rfl, d, rfl, .inl ⟨_, .inl hd⟩, _, rfl, (by show 0 ≤ sizeLine; decide), fun e0 ne0 => ?_⟩
      have s3 := same_upd (o := .tup []) ne0
      have he0 : (upd G e0 (.tup [])) e0 = some (.tup []) := upd_same
      have hd3 := s3 _ _ hd
      have sp3 := SP.same sp s3
      have sm3 := sm.trans s3
      have sx3 := sx.trans (SameX.of s3)
      generalize upd G e0 (.tup []) = G3 at s3 he0 hd3 sp3 sm3 sx3 ⊢
      obtain ⟨o, q, get, eo, hq⟩ : ∃ o q, DGet G3 d (.str f) o ∧ o.getD (V.ref e0) = .ref q ∧ G3 q = some (.tup ((sq (secOf ((srtP Z).take j)) f).map V.str)) := by
        rcases sp3.get f with ⟨z1, z2⟩ | ⟨ns, t, z1, z2, z3⟩
        · refine ⟨none, e0, .inl ⟨kvs, Sum.inr f, .inl hd3, rfl, z2.symm⟩, rfl, ?_⟩
          unfold sq
          rw [z1]
          exact he0
        · refine ⟨some (.ref t), t, .inl ⟨kvs, Sum.inr f, .inl hd3, rfl, z2.symm⟩, rfl, ?_⟩
          unfold sq
          rw [z1]
          exact z3
      have lsq := sq_len ((srtP Z).take j) f
      have ltk : ((srtP Z).take j).length ≤ (srtP Z).length := by rw [List.length_take]; exact Nat.min_le_right _ _
      refine ⟨o, get, q, _, eo, .inl (SqT.of hq), _, rfl, ?_, fun t1 nt1 => ?_⟩
      · rw [List.length_append, List.length_map]
        exact Nat.le_trans (m := 100) (by simp only [List.length_cons, List.length_nil]; omega) (by decide)
      have ens : (sq (secOf ((srtP Z).take j)) f).map V.str ++ [V.str s] = (sq (secOf ((srtP Z).take j)) f ++ [s]).map V.str := by rw [List.map_append]; rfl
      rw [ens]
      have s4 := same_upd (o := .tup ((sq (secOf ((srtP Z).take j)) f ++ [s]).map V.str)) nt1
      have ht1 : (upd G3 t1 (.tup ((sq (secOf ((srtP Z).take j)) f ++ [s]).map V.str))) t1 = some (.tup ((sq (secOf ((srtP Z).take j)) f ++ [s]).map V.str)) := upd_same
      have hd4 := s4 _ _ hd3
      have sp4 := SP.same sp3 s4
      have sm4 := sm3.trans s4
      have sx4 := sx3.trans (SameX.of s4)
      generalize upd G3 t1 (.tup ((sq (secOf ((srtP Z).take j)) f ++ [s]).map V.str)) = G4 at s4 ht1 hd4 sp4 sm4 sx4 ⊢
      have ksz := sp4.len
      have ssz := sec_len ((srtP Z).take j)
      refine ⟨_, rfl, _, rfl, d, _, rfl, .inl ⟨kvs, Sum.inr f, hd4, rfl, ?_, rfl⟩, ⟨_, _, rfl⟩, same_put sm4 nd, sx4.trans SameX.upd, _, upd_same, ?_⟩
      · exact Nat.lt_of_le_of_lt (m := 100) (by omega) (by decide)
      · rw [tk, sec_snoc]
        have := sp4.put (f := f) ht1
        exact SP.sameX this hd4 SameX.upd
    · subst e
      rw [lenY, List.take_length] at sp
      exact ⟨_, rfl, fin d G sm ⟨kvs, hd, sp⟩⟩
end
end R9
end

-- J5d
section
set_option Elab.async false
set_option linter.all false
set_option maxRecDepth 100000
namespace R9
open PySem L2 OwnOps OwnNe G1 EqDict SortStr R6 GS StX DictList SetStr
theorem inV_strs (n : Str) : ∀ t : List Str, inV (V.str n) (t.map V.str) = decide (n ∈ t)
  | [] => rfl
  | x :: r => by
    have ih := inV_strs n r
    unfold inV at ih ⊢
    rw [List.map_cons, List.any_cons, ih]
    show ((x == n) || decide (n ∈ r)) = decide (n ∈ x :: r)
    rw [Bool.eq_iff_iff, Bool.or_eq_true, decide_eq_true_iff, decide_eq_true_iff, List.mem_cons, beq_iff_eq]
    exact ⟨fun h => h.imp Eq.symm id, fun h => h.imp Eq.symm id⟩
theorem flat_strs (t : List Str) : (t.map V.str).all flatV = true := by
  rw [List.all_map, List.all_eq_true]
  exact fun _ _ => rfl
theorem SP.key {H : Hp} {kvs : List (Key × V)} {S : Sec} (h : SP H kvs S) : ∀ {i : Nat} {k : Key} {v : V}, kvs[i]? = some (k, v) → ∃ p, S[i]? = some p ∧ k = .inr p.1 := by
  induction h with
  | nil => intro i k v e; simp at e
  | @cons p q _ _ r _ ih =>
    intro i k v e
    cases i with
    | zero =>
      simp at e
      subst e
      exact ⟨q, rfl, r.1⟩
    | succ i => exact ih (by simpa using e)
/-- Owns by what was done so far -/
theorem Mtc.nil (S : Sec) : Mtc S [] [] := ⟨List.nodup_nil, fun _ _ _ h => (nomatch h), fun _ _ h => (nomatch h), fun _ h => (nomatch h)⟩
section
variable {P : Program} {w : World} {K : PySem.W.Frag} {mg : Str → Option Value} {base : Heap}
def spAll : Sp := fun vs H Q _ => ∃ (q o : Addr) (S : Sec), vs = [.ref q, .ref o] ∧ SecD H q S ∧ H o = some (.dK (dS [])) ∧ (fs S).Nodup ∧ (fs S).length ≤ 64 ∧
  ∀ d O H', Same H H' → H' d = some (.dK (dS O)) → Owns S (fs S).reverse O → Mtc S O (fs S) → Q (.ref d) H'
abbrev NAll : List Str := ["seconds", "owners", "owned", "name", "first"]
theorem ok_all {f : Addr} {fd : FuncData} (F : Fun K "all_owners" "all_owners" sAll f fd) (T : Txt mg) (GE : Glb P w K mg base "_enlarged" 2 ["owners", "seconds", "start"] spEnl) : FnOk P w K mg base (L2.CX P w) 3 f fd ["seconds", "owners"] spAll := by
  obtain ⟨fE, fdE, mE, kE, GE, bE⟩ := GE.ex
  have sc : FnScope NAll ["seconds", "owners"] (defScope sAll) := ⟨rfl, rfl, rfl, by decide +kernel, rfl, by decide +kernel, by decide +kernel⟩
  refine F.okX sc (fun vs H Q E h => ?_) (fun cdv A outer s H vs Q E hr h => ?_)
  · obtain ⟨q, o, S, rfl, _⟩ := h
    rfl
  · obtain ⟨q, o, S, rfl, hq, ho, nd, few, fin⟩ := h
    have hu := hu_of hr
    refine ⟨_, pss_cons (ps_set (i := 2) sc.nd rfl (Or.inr rfl) (pe_listV (pv 1) (by rfl) T.list))
      (pss_cons (ps_for passOwn rfl (pi_list (pe_lock (pe_lc (own := [("name", 3)]) (g := gName 3) (tt := tTest (tOp (rIn K true) (tVar 3) (tVar 2))) rfl sc.nd (pi_keys (pv 0)) (blkOk_by (N := NAll) (sc := defScope sAll) (by decide +kernel)) (fun _ _ _ _ _ => pg_name (i := 3) sc.nd rfl (Or.inl rfl))
          (fun _ _ _ _ _ => pts_one (pt_cmpR (op := .NotIn) (show OpR _ (compareOp .NotIn) (rIn K true) from op_notIn_seq) (pv 3) (pv 2) (by rfl))) (fun _ _ _ _ _ => pv 3)))) (pg_name (i := 4) sc.nd rfl (Or.inl rfl))
        (pss_one (ps_set (i := 1) sc.nd rfl (Or.inl rfl) (pe_call GE hr (by rfl) mE kE bE .nil passL (pa_cons (pv 1) (pa_cons (pv 0) (pa_cons (pv 4) pa_nil)))))))
      (pss_one (ps_ret (pv 1)))), ?_⟩
    refine ⟨_, rfl, o, _, rfl, .inl ho, fun ow now => ?_⟩
    have s1 := same_upd (o := .lst ((dS []).map (·.2))) now
    have how : (upd H ow (.lst ((dS []).map (·.2)))) ow = some (.lst (([] : List Str).map V.str)) := upd_same
    have hq1 := hq.same s1
    have ho1 := s1 _ _ ho
    generalize upd H ow (.lst ((dS []).map (·.2))) = H1 at s1 how hq1 ho1 ⊢
    obtain ⟨kvs, hk, sp⟩ := hq1
    refine ⟨q, _, hk, trivial, fun od => ?_⟩
    have hA : (upd H1 q (.frz od (.dK kvs))) q = some (.frz od (.dK kvs)) := upd_same
    have rd : ∀ {G : Hp}, Same (upd H1 q (.frz od (.dK kvs))) G → G ow = some (.lst (([] : List Str).map V.str)) := fun s => s _ _ (by rw [upd_ne (ne_of how hk (fun z => nomatch z))]; exact how)
    have lenK := sp.len
    refine ⟨_, rfl, q, od, rfl, .inl ⟨kvs, hA, fun D nD => ?_⟩⟩
    refine walk_it walk_keys (fun j G => Same (upd H1 q (.frz od (.dK kvs))) G ∧ G D = some (.lst (((fs S).take j).map V.str))) ⟨same_upd nD, upd_same⟩ (fun j G _ ⟨sm, _⟩ => sm _ _ hA) (fun j x G G' hj ⟨sm, hD⟩ ⟨e, k, v, hkv, e2⟩ => ?_) (fun G ⟨sm, hD⟩ => ?_)
    · subst e e2
      obtain ⟨p, hp, rfl⟩ := sp.key hkv
      have hf : (fs S)[j]? = some p.1 := by unfold fs; rw [List.getElem?_map, hp]; rfl
      refine ⟨rfl, _, rfl, _, rfl, ow, _, rfl, .inl (SqL.of (rd sm)), rfl, flat_strs [], _, rfl, if_pos' rfl ⟨_, rfl, _, hD, ?_, same_put sm nD, ?_⟩⟩
      · rw [List.length_map, List.length_take]
        exact Nat.lt_of_le_of_lt (m := 64) (by omega) (by decide)
      · rw [upd_same, List.take_succ, hf, List.map_append]
        rfl
    · rw [lenK, List.take_of_length_le (by rw [List.length_map]; exact Nat.le_refl _)] at hD
      obtain ⟨u1, u2⟩ := same_unlock hk sm
      refine ⟨u1, ?_⟩
      have Dq : D ≠ q := ne_of hD u1 (fun z => nomatch z)
      have hD2 : (upd G q (.dK kvs)) D = some (.lst ((fs S).map V.str)) := by rw [upd_ne Dq]; exact hD
      have smH := s1.trans u2
      have hq2 := hq.same smH
      have ho2 := smH _ _ ho
      generalize upd G q (.dK kvs) = C at u2 hD2 smH hq2 ho2 ⊢
      refine ⟨D, rfl, ⟨_, SqL.of hD2⟩, for_it walk_list (fun j σ G => ∃ d O v4, σ = [some (.ref q), some (.ref d), some (.ref ow), none, v4] ∧ Same C G ∧ G d = some (.dK (dS O)) ∧ Owns S ((fs S).take j).reverse O ∧ Mtc S O ((fs S).take j))
        ⟨o, [], _, rfl, fun _ _ h => h, ho2, rfl, Mtc.nil S⟩ (fun j σ G _ ⟨_, _, _, _, sm, _⟩ => SqL.of (sm _ _ hD2)) (fun j x σ G G' hj ⟨d, O, v4, e, sm, hd, own, mt⟩ ⟨e2, hx⟩ => ?_) (fun σ G ⟨d, O, v4, e, sm, hd, own, mt⟩ => ?_)⟩
      · subst e
        have e2 := e2.symm
        subst e2
        obtain ⟨x, hy, rfl⟩ := map_at hx
        have tk : (fs S).take (j + 1) = (fs S).take j ++ [x] := by rw [List.take_succ, hy]; rfl
        have xin := List.mem_of_getElem? hy
        have xno : x ∉ (fs S).take j := fun z => by
          have := nd
          rw [← List.take_append_drop (j + 1) (fs S), tk, List.append_assoc, List.nodup_append] at this
          exact this.2.2 x z x List.mem_cons_self rfl
        refine ⟨_, rfl, _, rfl, _, rfl, d, q, x, O, S, _, rfl, hd, hq2.same sm, mt, xin, xno, by rw [List.length_take]; omega, fun d' O' G2 s2 hd' enl mt' => ?_⟩
        exact ⟨d', O', _, rfl, sm.trans s2, hd', by rw [tk, List.reverse_append]; exact ⟨O, own, enl⟩, by rw [tk]; exact mt'⟩
      · subst e
        rw [List.length_map, List.take_length] at own mt
        exact ⟨_, rfl, fin d O G (smH.trans sm) hd own mt⟩
end
end R9
end

-- J5e
section
set_option Elab.async false
set_option linter.all false
set_option maxRecDepth 100000
namespace R9
open PySem L2 OwnOps OwnNe G1 EqDict SortStr R6 GS StX DictList SetStr
abbrev sTou : Stmt := top 5
theorem vs_at {S : Sec} {O : Mp} {dn : List Str} (m : Mtc S O dn) {f : Str} : f ∈ vs O ↔ ∃ s, at_ O s = some f :=
  ⟨fun h => let ⟨p, hp, e⟩ := List.mem_map.mp h; ⟨p.1, by rw [at_mem m.kn hp]; exact congrArg some e⟩, fun ⟨s, h⟩ => List.mem_map.mpr ⟨_, at_some h, rfl⟩⟩
/-- what was reached -/
structure Ti (S : Sec) (O : Mp) (ex R w : List Str) : Prop where
  nd : R.Nodup
  own : ∀ s ∈ R, ∃ o, at_ O s = some o
  ct : ∀ f ∈ w, Cert S O f ∧ f ∈ fs S
  cl : ∀ f ∈ fs S, (f ∉ vs O ∨ ∃ s ∈ R, at_ O s = some f) → f ∈ w ∨ f ∈ ex ∨ ∀ s ∈ sq S f, s ∈ R
  sz : w.length ≤ 64 + R.length
theorem Ti.start {S : Sec} {O : Mp} (m : Mtc S O (fs S)) (few : (fs S).length ≤ 64) : Ti S O [] [] ((fs S).filter fun f => decide (f ∉ vs O)) := by
  refine ⟨.nil, fun _ h => (nomatch h), fun f h => ?_, fun f hf h => ?_, Nat.le_trans (List.length_filter_le _ _) (by simpa using few)⟩
  · obtain ⟨h1, h2⟩ := List.mem_filter.mp h
    have h2 := of_decide_eq_true h2
    rcases m.cert f h1 with z | z
    · exact absurd ((vs_at m).mpr z) h2
    · exact ⟨z, h1⟩
  · rcases h with h | ⟨s, hs, _⟩
    · exact .inl (List.mem_filter.mpr ⟨hf, decide_eq_true h⟩)
    · cases hs
theorem Ti.len {S : Sec} {O : Mp} {ex R w : List Str} (t : Ti S O ex R w) : R.length ≤ O.length := by
  have : R.length ≤ (ks O).length := List.Nodup.length_le_of_subset t.nd fun x hx => by
    obtain ⟨o, e⟩ := t.own x hx
    exact in_of_at e
  simpa using this
theorem Ti.pop {S : Sec} {O : Mp} {R w : List Str} {f : Str} (t : Ti S O [] R (w ++ [f])) : Ti S O [f] R w := by
  refine ⟨t.nd, t.own, fun g hg => t.ct g (List.mem_append_left _ hg), fun g hg h => ?_, ?_⟩
  · rcases t.cl g hg h with z | z | z
    · rcases List.mem_append.mp z with z | z
      · exact .inl z
      · exact .inr (.inl z)
    · cases z
    · exact .inr (.inr z)
  · have := t.sz
    rw [List.length_append] at this
    omega
theorem Ti.more {S : Sec} {O : Mp} {R w : List Str} {f s o : Str} (m : Mtc S O (fs S)) (t : Ti S O [f] R w) (c : Cert S O f) (hs : s ∈ sq S f) (new : s ∉ R) (ho : at_ O s = some o) : Ti S O [f] (R ++ [s]) (w ++ [o]) := by
  obtain ⟨o', e, co⟩ := c.owned hs
  rw [ho] at e
  cases e
  refine ⟨nd_snoc t.nd new, fun x hx => ?_, fun g hg => ?_, fun g hg h => ?_, ?_⟩
  · rcases mem_snoc.mp hx with hx | rfl
    · exact t.own x hx
    · exact ⟨o, ho⟩
  · rcases mem_snoc.mp hg with hg | rfl
    · exact t.ct g hg
    · exact ⟨co, (m.sub _ _ ho).2.1⟩
  · have old : (g ∉ vs O ∨ ∃ s ∈ R, at_ O s = some g) → g ∈ w ++ [o] ∨ g ∈ [f] ∨ ∀ x ∈ sq S g, x ∈ R ++ [s] := fun h => by
      rcases t.cl g hg h with z | z | z
      · exact .inl (List.mem_append_left _ z)
      · exact .inr (.inl z)
      · exact .inr (.inr fun x hx => List.mem_append_left _ (z x hx))
    rcases h with h | ⟨x, hx, e⟩
    · exact old (.inl h)
    · rcases mem_snoc.mp hx with hx | rfl
      · exact old (.inr ⟨x, hx, e⟩)
      · rw [ho] at e
        cases e
        exact .inl (List.mem_append_right _ List.mem_cons_self)
  · have := t.sz
    rw [List.length_append, List.length_append]
    simp only [List.length_cons, List.length_nil]
    omega
theorem Ti.close {S : Sec} {O : Mp} {R w : List Str} {f : Str} (t : Ti S O [f] R w) (all : ∀ s ∈ sq S f, s ∈ R) : Ti S O [] R w :=
  ⟨t.nd, t.own, t.ct, fun g hg h => by
    rcases t.cl g hg h with z | z | z
    · exact .inl z
    · rw [List.mem_singleton.mp z]; exact .inr (.inr all)
    · exact .inr (.inr z), t.sz⟩
/-- the firsts that aren't reached -/
def frs (O : Mp) (R : List Str) : List Str := (O.filter fun p => decide (p.1 ∉ R)).map (·.2)
theorem filter_split {α : Type} (p : α → Bool) : ∀ l : List α, (l.filter p).length + (l.filter fun x => !p x).length = l.length
  | [] => rfl
  | x :: l => by
    have := filter_split p l
    rw [List.filter_cons, List.filter_cons]
    cases p x
    · simp only [Bool.false_eq_true, if_false, Bool.not_false, if_true, List.length_cons]; omega
    · simp only [Bool.false_eq_true, if_false, Bool.not_true, if_true, List.length_cons]; omega
theorem Ti.count {S : Sec} {O : Mp} {R : List Str} (m : Mtc S O (fs S)) (t : Ti S O [] R []) : (frs O R).length + R.length = O.length := by
  have h1 : (O.filter fun p => decide (p.1 ∈ R)).length = R.length := by
    have : ((O.filter fun p => decide (p.1 ∈ R)).map (·.1)).Perm R := by
      refine (List.perm_ext_iff_of_nodup ?_ t.nd).mpr fun x => ⟨fun h => ?_, fun h => ?_⟩
      · exact List.Nodup.sublist (List.filter_sublist.map _) m.kn
      · obtain ⟨p, hp, rfl⟩ := List.mem_map.mp h
        exact of_decide_eq_true (List.mem_filter.mp hp).2
      · obtain ⟨o, e⟩ := t.own x h
        exact List.mem_map.mpr ⟨(x, o), List.mem_filter.mpr ⟨at_some e, decide_eq_true h⟩, rfl⟩
    have := this.length_eq
    rwa [List.length_map] at this
  have h2 := filter_split (fun p : Str × Str => decide (p.1 ∈ R)) O
  have h3 : (O.filter fun p => !decide (p.1 ∈ R)) = O.filter fun p => decide (p.1 ∉ R) := List.filter_congr fun p _ => by simp
  rw [h3, h1] at h2
  unfold frs
  rw [List.length_map]
  omega
theorem frs_nd {S : Sec} {O : Mp} {R dn : List Str} (m : Mtc S O dn) : (frs O R).Nodup := List.Nodup.sublist (List.filter_sublist.map _) m.vn
theorem Ti.touch {S : Sec} {O : Mp} {R : List Str} (m : Mtc S O (fs S)) (t : Ti S O [] R []) {f s : Str} (h : s ∈ sq S f) : f ∈ frs O R ∨ s ∈ R := by
  have hf : f ∈ fs S := by
    by_cases e : f ∈ fs S
    · exact e
    · rw [sq_out e] at h; cases h
  have fin : (f ∉ vs O ∨ ∃ s ∈ R, at_ O s = some f) → s ∈ R := fun z => by
    rcases t.cl f hf z with y | y | y
    · cases y
    · cases y
    · exact y s h
  by_cases e : f ∈ vs O
  · obtain ⟨x, hx⟩ := (vs_at m).mp e
    by_cases hr : x ∈ R
    · exact .inr (fin (.inr ⟨x, hr, hx⟩))
    · exact .inl (List.mem_map.mpr ⟨(x, f), List.mem_filter.mpr ⟨at_some hx, decide_eq_true hr⟩, rfl⟩)
  · exact .inr (fin (.inl e))
/-- the dict of what was reached -/
def rS (R : List Str) : List (Key × V) := R.map fun s => (Sum.inr s, V.bl true)
theorem rS_at (R : List Str) (s : Str) : valV (rS R) (Sum.inr s) = if s ∈ R then some (.bl true) else none := by
  induction R with
  | nil => rfl
  | cons x r ih =>
    unfold rS at *
    rw [List.map_cons]
    by_cases e : x = s
    · rw [valV_pos (by rw [e]), if_pos (by rw [e]; exact List.mem_cons_self)]
    · rw [valV_neg (fun z => e (Sum.inr.inj z)), ih]
      by_cases h : s ∈ r
      · rw [if_pos h, if_pos (List.mem_cons_of_mem _ h)]
      · rw [if_neg h, if_neg (fun z => (List.mem_cons.mp z).elim (fun y => e y.symm) h)]
theorem rS_put {R : List Str} {s : Str} (h : s ∉ R) : putK (rS R) (Sum.inr s) (.bl true) = rS (R ++ [s]) := by
  unfold putK
  rw [if_neg]
  · unfold rS
    rw [List.map_append]
    rfl
  · intro z
    obtain ⟨q, hq, e⟩ := List.any_eq_true.mp z
    obtain ⟨p, hp, rfl⟩ := List.mem_map.mp hq
    have e := of_decide_eq_true e
    exact h (by rw [← Sum.inr.inj e]; exact hp)
theorem rS_keys (R : List Str) : (rS R).map (·.1) = R.map Sum.inr := by
  unfold rS
  rw [List.map_map]
  rfl
section
variable {P : Program} {w : World} {K : PySem.W.Frag} {mg : Str → Option Value} {base : Heap}
def spTou : Sp := fun vs H Q _ => ∃ (q o : Addr) (S : Sec) (O : Mp), vs = [.ref q, .ref o] ∧ SecD H q S ∧ H o = some (.dK (dS O)) ∧ Mtc S O (fs S) ∧ (fs S).length ≤ 64 ∧
  ∀ r t1 t2 F R H', Same H H' → H' r = some (.tup [.ref t1, .ref t2]) → H' t1 = some (.tup ((srtS F).map V.str)) → H' t2 = some (.tup ((srtS R).map V.str)) → F.Nodup → R.Nodup → F.length + R.length = O.length → (∀ f s, s ∈ sq S f → f ∈ F ∨ s ∈ R) → (∀ x ∈ F, ∃ s, at_ O s = some x) → (∀ s ∈ R, ∃ o, at_ O s = some o) → Q (.ref r) H'
abbrev NTou : List Str := ["seconds", "owners", "owned", "first", "waiting", "reached", "second", "firsts"]
theorem ok_tou {f : Addr} {fd : FuncData} (F : Fun K "touched" "touched" sTou f fd) (T : Txt mg) : FnOk P w K mg base (L2.CX P w) 1 f fd ["seconds", "owners"] spTou := by
  have sc : FnScope NTou ["seconds", "owners"] (defScope sTou) := ⟨rfl, rfl, rfl, by decide +kernel, rfl, by decide +kernel, by decide +kernel⟩
  refine F.okX sc (fun vs H Q E h => ?_) (fun cdv A outer s H vs Q E hr h => ?_)
  · obtain ⟨q, o, S, O, rfl, _⟩ := h
    rfl
  · obtain ⟨q, o, S, O, rfl, hq, ho, mt, few, fin⟩ := h
    have hu := hu_of hr
    refine ⟨_, pss_cons (ps_set (i := 2) sc.nd rfl (Or.inr rfl) (pe_listV (pv 1) (by rfl) T.list))
      (pss_cons (ps_lock (ps_setLc (i := 4) (own := [("first", 3)]) (g := gName 3) (tt := tTest (tOp (rIn K true) (tVar 3) (tVar 2))) rfl sc.nd rfl rfl rfl (pi_keys (pv 0)) (blkOk_by (N := NTou) (sc := defScope sTou) (by decide +kernel)) (fun _ _ _ _ _ => pg_name (i := 3) sc.nd rfl (Or.inl rfl))
          (fun _ _ _ _ _ => pts_one (pt_cmpR (op := .NotIn) (show OpR _ (compareOp .NotIn) (rIn K true) from op_notIn_seq) (pv 3) (pv 2) (by rfl))) (fun _ _ _ _ _ => pv 3)))
      (pss_cons (ps_set (i := 5) sc.nd rfl (Or.inr rfl) pe_dnewK)
      (pss_cons (ps_while passOwn (pt_truth (pv 4) (fun _ => rfl))
        (pss_cons (ps_set (i := 3) sc.nd rfl (Or.inl rfl) (pe_bm0 PySem.F.plainAttrs_list PySem.F.slot_list_pop PySem.F.type_list_pop mt_pop (pv 4)))
        (pss_one (ps_for passOwn rfl (pi_tup (pe_dget hu (pv 0) (pv 3) (fun _ _ => rfl))) (pg_name (i := 6) sc.nd rfl (Or.inl rfl))
          (pss_one (ps_if (pt_cmp (pc_dnotin hu (pv 6) (pv 5)))
            (pss_cons (ps_dput hu (pv 5) (pv 6) pe_bl rfl)
            (pss_one (ps_expr (pe_bm PySem.F.plainAttrs_list PySem.F.slot_list_append PySem.F.type_list_append mt_append (pv 4) (pa_cons (pe_dget hu (pv 1) (pv 6) (fun _ _ => rfl)) pa_nil)))))
            pss_nil))))))
      (pss_cons (ps_lock (ps_setLc (i := 7) (own := [("second", 6), ("first", 3)]) (g := gTup K 2 (gCons (gName 6) (gCons (gName 3) gNil))) (tt := tB (tDNotIn (tVar 6) (tVar 5))) rfl sc.nd rfl rfl rfl (pi_items (pv 1)) (blkOk_by (N := NTou) (sc := defScope sTou) (by decide +kernel)) (fun _ _ _ _ _ => pg_two (i := 6) (j := 3) rfl sc.nd rfl (Or.inl rfl) rfl (Or.inl rfl))
          (fun _ _ _ _ _ => pts_one (pt_cmp (pc_dnotin hu (pv 6) (pv 5)))) (fun _ _ _ _ _ => pv 3)))
      (pss_one (ps_ret (pe_tup (pa_cons (pe_callTy call_tuple_of (by rfl) T.tuple (by decide +kernel) (pa_cons (pe_callBK (cr_sortKS hr.units) (by rfl) T.sorted (by decide +kernel) (pa_cons (pv 7) pa_nil) (pk_cons (pe_bltn (v := .ty "str") (by rfl) T.str (by decide +kernel) rfl) pk_nil)) pa_nil))
        (pa_cons (pe_callTy call_tuple_of (by rfl) T.tuple (by decide +kernel) (pa_cons (pe_callBK (cr_sortKD rfl hr.units) (by rfl) T.sorted (by decide +kernel) (pa_cons (pv 5) pa_nil) (pk_cons (pe_bltn (v := .ty "str") (by rfl) T.str (by decide +kernel) rfl) pk_nil)) pa_nil)) pa_nil))))))))), ?_⟩
    refine ⟨_, rfl, o, _, rfl, .inl ho, fun ow now => ?_⟩
    have s1 := same_upd (o := .lst ((dS O).map (·.2))) now
    have how : (upd H ow (.lst ((dS O).map (·.2)))) ow = some (.lst ((vs O).map V.str)) := by rw [upd_same, dS_vals]
    have hq1 := hq.same s1
    generalize upd H ow (.lst ((dS O).map (·.2))) = H1 at s1 how hq1 ⊢
    obtain ⟨kvs, hk, sp⟩ := hq1
    refine ⟨q, _, hk, trivial, fun od => ?_⟩
    have hA : (upd H1 q (.frz od (.dK kvs))) q = some (.frz od (.dK kvs)) := upd_same
    have rd : ∀ {G : Hp}, Same (upd H1 q (.frz od (.dK kvs))) G → G ow = some (.lst ((vs O).map V.str)) := fun s => s _ _ (by rw [upd_ne (ne_of how hk (fun z => nomatch z))]; exact how)
    have lenK := sp.len
    refine ⟨_, rfl, q, od, rfl, .inl ⟨kvs, hA, fun D nD => ?_⟩⟩
    refine walk_it walk_keys (fun j G => Same (upd H1 q (.frz od (.dK kvs))) G ∧ G D = some (.lst ((((fs S).take j).filter fun f => decide (f ∉ vs O)).map V.str))) ⟨same_upd nD, upd_same⟩ (fun j G _ ⟨sm, _⟩ => sm _ _ hA) (fun j x G G' hj ⟨sm, hD⟩ ⟨e, k, v, hkv, e2⟩ => ?_) (fun G ⟨sm, hD⟩ => ?_)
    · subst e e2
      obtain ⟨p, hp, rfl⟩ := sp.key hkv
      have hf : (fs S)[j]? = some p.1 := by unfold fs; rw [List.getElem?_map, hp]; rfl
      have tk : (((fs S).take (j + 1)).filter fun f => decide (f ∉ vs O)) = (((fs S).take j).filter fun f => decide (f ∉ vs O)) ++ if p.1 ∉ vs O then [p.1] else [] := by
        rw [List.take_succ, hf, List.filter_append]
        show _ ++ [p.1].filter _ = _
        by_cases h : p.1 ∉ vs O
        · rw [if_pos h, List.filter_cons, decide_eq_true h, if_pos rfl, List.filter_nil]
        · rw [if_neg h, List.filter_cons, decide_eq_false h, if_neg Bool.false_ne_true, List.filter_nil]
      refine ⟨rfl, _, rfl, _, rfl, ow, _, rfl, .inl (SqL.of (rd sm)), rfl, flat_strs _, _, rfl, ?_⟩
      have ev : (if true = true then !inV (kV (Sum.inr p.1)) ((vs O).map V.str) else inV (kV (Sum.inr p.1)) ((vs O).map V.str)) = !decide (p.1 ∈ vs O) := by
        rw [if_pos rfl]
        exact congrArg _ (inV_strs p.1 (vs O))
      rw [ev]
      by_cases h : p.1 ∈ vs O
      · refine if_neg' (by rw [decide_eq_true h]; rfl) ⟨sm, ?_⟩
        rw [tk, if_neg (fun z => z h), List.append_nil]
        exact hD
      · refine if_pos' (by rw [decide_eq_false h]; rfl) ⟨_, rfl, _, hD, ?_, same_put sm nD, ?_⟩
        · rw [List.length_map]
          have := List.length_filter_le (fun f => decide (f ∉ vs O)) ((fs S).take j)
          rw [List.length_take] at this
          exact Nat.lt_of_le_of_lt (m := 64) (by omega) (by decide)
        · rw [upd_same, tk, if_pos h, List.map_append]
          rfl
    rw [lenK, List.take_of_length_le (by rw [List.length_map]; exact Nat.le_refl _)] at hD
    obtain ⟨u1, u2⟩ := same_unlock hk sm
    refine ⟨u1, ?_⟩
    have Dq : D ≠ q := ne_of hD u1 (fun z => nomatch z)
    have nD0 : H D = none := _root_.G1.Same.none s1 (by
      have := nD
      rw [upd_ne Dq] at this
      exact this)
    have hD2 : (upd G q (.dK kvs)) D = some (.lst (((fs S).filter fun f => decide (f ∉ vs O)).map V.str)) := by rw [upd_ne Dq]; exact hD
    have smH := s1.trans u2
    clear sm hD u1
    generalize upd G q (.dK kvs) = C at u2 hD2 smH ⊢
    have t0 := Ti.start mt few
    generalize (fs S).filter (fun f => decide (f ∉ vs O)) = w0 at hD2 t0
    intro r nr
    have rD : D ≠ r := ne_of_none hD2 nr
    have nr0 : H r = none := _root_.G1.Same.none smH nr
    have s3 := same_upd (o := .dK []) nr
    have hD3 := s3 _ _ hD2
    have hr3 : (upd C r (.dK [])) r = some (.dK (rS [])) := upd_same
    have sH3 := smH.trans s3
    generalize upd C r (.dK []) = B at s3 hD3 hr3 sH3 ⊢
    have lenO := mt.len
    dsimp only [gName, tSeq]
    refine while_by (fun σ G => ∃ R w v3 v6, σ = [some (.ref q), some (.ref o), some (.ref ow), v3, some (.ref D), some (.ref r), v6, none] ∧ Same H G ∧ G D = some (.lst (w.map V.str)) ∧ G r = some (.dK (rS R)) ∧ Ti S O [] R w)
      (fun _ G => lenAt G D + (O.length - dlen G r)) ⟨[], w0, _, _, rfl, sH3, hD3, hr3, t0⟩ ?_ ?_
    · rintro σ G ⟨R, w, v3, v6, rfl, sm, gw, gr, ti⟩
      refine ⟨_, rfl, _, .inl ⟨_, SqL.of gw, rfl⟩, ?_⟩
      by_cases e : w = []
      · subst e
        refine if_neg' rfl ?_
        have hoG := sm _ _ ho
        refine ⟨o, _, hoG, trivial, fun od2 => ?_⟩
        have hA2 : (upd G o (.frz od2 (.dK (dS O)))) o = some (.frz od2 (.dK (dS O))) := upd_same
        have hrA : (upd G o (.frz od2 (.dK (dS O)))) r = some (.dK (rS R)) := by
          rw [upd_ne]
          · exact gr
          · intro z
            rw [z] at nr0
            rw [nr0] at ho; cases ho
        refine ⟨_, rfl, o, od2, dS O, rfl, hA2, fun L nL => walk_it walk_items (fun j G' => Same (upd G o (.frz od2 (.dK (dS O)))) G' ∧ G' L = some (.lst ((frs (O.take j) R).map V.str))) ⟨same_upd nL, upd_same⟩ (fun j G' _ ⟨sm, _⟩ => sm _ _ hA2) (fun j x G2 G3 hj ⟨sm2, hL⟩ ⟨U, u, v, e1, nU, e2, hu', hv'⟩ => ?_) (fun G2 ⟨sm2, hL⟩ => ?_)⟩
        · subst e1 e2
          rw [dS_len] at hj
          have hp : O[j]? = some O[j] := List.getElem?_eq_getElem hj
          generalize O[j] = p at hp
          have hd : (dS O)[j]? = some (Sum.inr p.1, V.str p.2) := by unfold dS; rw [List.getElem?_map, hp]; rfl
          dsimp only at hu' hv'
          rw [hd] at hu' hv'
          cases hu'
          cases hv'
          have tk : frs (O.take (j + 1)) R = frs (O.take j) R ++ if p.1 ∉ R then [p.2] else [] := by
            unfold frs
            rw [List.take_succ, hp, List.filter_append, List.map_append]
            show _ ++ ([p].filter _).map _ = _
            by_cases h : p.1 ∉ R
            · rw [if_pos h, List.filter_cons, decide_eq_true h, if_pos rfl, List.filter_nil]; rfl
            · rw [if_neg h, List.filter_cons, decide_eq_false h, if_neg Bool.false_ne_true, List.filter_nil]; rfl
          have s4 := same_upd (o := .tup [kV (Sum.inr p.1), V.str p.2]) nU
          have sm4 := sm2.trans s4
          have hL4 := s4 _ _ hL
          refine ⟨U, _, rfl, SqT.of upd_same, rfl, _, _, rfl, _, _, rfl, rfl, rfl, _, rfl, _, rfl, r, _, rfl, .inl ⟨_, Sum.inr p.1, .inl (sm4 _ _ hrA), rfl, (rS_at R p.1).symm⟩, _, rfl, ?_⟩
          by_cases h : p.1 ∈ R
          · refine if_neg' (by rw [if_pos h]; rfl) ⟨sm4, ?_⟩
            rw [tk, if_neg (fun z => z h), List.append_nil]
            exact hL4
          · refine if_pos' (by rw [if_neg h]; rfl) ⟨_, rfl, _, hL4, ?_, same_put sm4 nL, ?_⟩
            · rw [List.length_map]
              have := List.length_filter_le (fun p : Str × Str => decide (p.1 ∉ R)) (O.take j)
              rw [List.length_take] at this
              unfold frs
              rw [List.length_map]
              exact Nat.lt_of_le_of_lt (m := 100) (by omega) (by decide)
            · rw [upd_same, tk, if_pos h, List.map_append]
              rfl
        rw [dS_len, List.take_length] at hL
        obtain ⟨v1, v2⟩ := same_unlock hoG sm2
        refine ⟨v1, ?_⟩
        have Lo : L ≠ o := ne_of hL v1 (fun z => nomatch z)
        have hL5 : (upd G2 o (.dK (dS O))) L = some (.lst ((frs O R).map V.str)) := by rw [upd_ne Lo]; exact hL
        have sm5 := sm.trans v2
        have gr5 := v2 _ _ gr
        clear v1 sm2 hL
        generalize upd G2 o (.dK (dS O)) = G5 at v2 hL5 sm5 gr5 ⊢
        refine ⟨_, rfl, L, frs O R, rfl, rfl, SqL.of hL5, fun p np => ⟨p, _, rfl, .inl ⟨SqL.of upd_same, fun t1 nt1 => ?_⟩⟩⟩
        have s6 : Same G5 (upd (upd G5 p (.lst ((srtS (frs O R)).map V.str))) t1 (.tup ((srtS (frs O R)).map V.str))) := (same_upd np).trans (same_upd nt1)
        have ht1 : (upd (upd G5 p (.lst ((srtS (frs O R)).map V.str))) t1 (.tup ((srtS (frs O R)).map V.str))) t1 = some (.tup ((srtS (frs O R)).map V.str)) := upd_same
        generalize upd (upd G5 p (.lst ((srtS (frs O R)).map V.str))) t1 (.tup ((srtS (frs O R)).map V.str)) = G6 at s6 ht1 ⊢
        have gr6 := s6 _ _ gr5
        refine ⟨_, rfl, r, rS R, R, rfl, rfl, .inl gr6, rS_keys R, fun p2 np2 => ⟨p2, _, rfl, .inl ⟨SqL.of upd_same, fun t2 nt2 => ?_⟩⟩⟩
        have s7 : Same G6 (upd (upd G6 p2 (.lst ((srtS R).map V.str))) t2 (.tup ((srtS R).map V.str))) := (same_upd np2).trans (same_upd nt2)
        have ht2 : (upd (upd G6 p2 (.lst ((srtS R).map V.str))) t2 (.tup ((srtS R).map V.str))) t2 = some (.tup ((srtS R).map V.str)) := upd_same
        generalize upd (upd G6 p2 (.lst ((srtS R).map V.str))) t2 (.tup ((srtS R).map V.str)) = G7 at s7 ht2 ⊢
        refine ⟨(by show 2 ≤ sizeLine; decide), fun res nres => ?_⟩
        have s8 := same_upd (o := .tup [.ref t1, .ref t2]) nres
        exact fin res t1 t2 (frs O R) R _ (sm5.trans (s6.trans (s7.trans s8))) upd_same (s8 _ _ (s7 _ _ ht1)) (s8 _ _ ht2) (frs_nd mt) ti.nd (ti.count mt) (fun f s h => ti.touch mt h) (fun x hx => by
          obtain ⟨p, hp, rfl⟩ := List.mem_map.mp hx
          exact ⟨p.1, at_mem mt.kn (List.mem_filter.mp hp).1⟩) ti.own
      · obtain ⟨w1, f, rfl⟩ := last_of e
        refine if_pos' (by simp) ?_
        have hl : ((w1 ++ [f]).map V.str)[((w1 ++ [f]).map V.str).length - 1]? = some (.str f) := by simp
        refine ⟨_, rfl, .inl ⟨rfl, _, SqL.of gw⟩, D, _, _, rfl, rfl, gw, hl, ?_⟩
        have hdl : ((w1 ++ [f]).map V.str).dropLast = w1.map V.str := by simp
        rw [hdl]
        have sm1 := same_put (o := .lst (w1.map V.str)) sm nD0
        have gr1 : (upd G D (.lst (w1.map V.str))) r = some (.dK (rS R)) := by rw [upd_ne (Ne.symm rD)]; exact gr
        have gw1 : (upd G D (.lst (w1.map V.str))) D = some (.lst (w1.map V.str)) := upd_same
        have mu : lenAt G D + (O.length - dlen G r) = w1.length + 1 + (O.length - R.length) := by
          unfold lenAt dlen
          rw [gw, gr]
          simp only [List.length_map, List.length_append, List.length_cons, List.length_nil, rS]
        rw [mu]
        clear mu
        generalize upd G D (.lst (w1.map V.str)) = G1 at sm1 gr1 gw1 ⊢
        obtain ⟨cf, hfS⟩ := ti.ct f (List.mem_append_right _ List.mem_cons_self)
        have tp := ti.pop
        obtain ⟨ts, get, hts⟩ := (hq.same sm1).get hfS
        refine ⟨_, rfl, _, rfl, q, _, rfl, get, ts, rfl, ⟨_, SqT.of hts⟩, for_it walk_tup (fun j σ G => ∃ R2 w2 v6, σ = [some (.ref q), some (.ref o), some (.ref ow), some (.str f), some (.ref D), some (.ref r), v6, none] ∧ Same H G ∧ G D = some (.lst (w2.map V.str)) ∧ G r = some (.dK (rS R2)) ∧ G ts = some (.tup ((sq S f).map V.str)) ∧ Ti S O [f] R2 w2 ∧ (∀ s ∈ (sq S f).take j, s ∈ R2) ∧ w2.length + (O.length - R2.length) = w1.length + (O.length - R.length))
          ⟨R, w1, _, rfl, sm1, gw1, gr1, hts, tp, fun _ h => (nomatch h), rfl⟩ (fun j σ G _ ⟨_, _, _, _, _, _, _, h, _⟩ => SqT.of h) (fun j x σ G G' hj ⟨R2, w2, v6, e1, sm2, gw2, gr2, hts2, ti2, tk, mu⟩ ⟨e2, hx⟩ => ?_) (fun σ G ⟨R2, w2, v6, e1, sm2, gw2, gr2, hts2, ti2, tk, mu⟩ => ?_)⟩
        · subst e1
          have e2 := e2.symm
          subst e2
          obtain ⟨s, hs, rfl⟩ := map_at hx
          have sIn := List.mem_of_getElem? hs
          have tj : (sq S f).take (j + 1) = (sq S f).take j ++ [s] := by rw [List.take_succ, hs]; rfl
          by_cases hin : s ∈ R2
          · refine ⟨_, rfl, _, rfl, r, _, rfl, .inl ⟨_, Sum.inr s, .inl gr2, rfl, by rw [rS_at, if_pos hin] <;> rfl⟩, _, rfl, if_neg' rfl ?_⟩
            refine ⟨R2, w2, _, rfl, sm2, gw2, gr2, hts2, ti2, fun x hx => ?_, mu⟩
            rw [tj] at hx
            rcases mem_snoc.mp hx with hx | rfl
            · exact tk x hx
            · exact hin
          · refine ⟨_, rfl, _, rfl, r, _, rfl, .inl ⟨_, Sum.inr s, .inl gr2, rfl, by rw [rS_at, if_neg hin] <;> rfl⟩, _, rfl, if_pos' rfl ?_⟩
            have rl := ti2.len
            have wl := ti2.sz
            obtain ⟨ow2, hos, _⟩ := cf.owned sIn
            have t3 := ti2.more mt cf sIn hin hos
            refine ⟨_, rfl, _, rfl, r, _, rfl, .inl ⟨_, Sum.inr s, gr2, rfl, ?_, rfl⟩, ?_⟩
            · unfold rS
              rw [List.length_map]
              exact Nat.lt_of_le_of_lt (m := 200) (by omega) (by decide)
            rw [rS_put hin]
            have gr3 : (upd G r (.dK (rS (R2 ++ [s])))) r = some (.dK (rS (R2 ++ [s]))) := upd_same
            have gw3 : (upd G r (.dK (rS (R2 ++ [s])))) D = some (.lst (w2.map V.str)) := by rw [upd_ne rD]; exact gw2
            have sm3 := same_put (o := .dK (rS (R2 ++ [s]))) sm2 nr0
            have hts3 : (upd G r (.dK (rS (R2 ++ [s])))) ts = some (.tup ((sq S f).map V.str)) := by
              rw [upd_ne (ne_of hts2 gr2 (fun z => nomatch z))]
              exact hts2
            generalize upd G r (.dK (rS (R2 ++ [s]))) = G3 at gr3 gw3 sm3 hts3 ⊢
            have look : ∀ {G : Hp}, G o = some (.dK (dS O)) → DGet G o (.str s) (some (.str ow2)) := fun h => .inl ⟨_, Sum.inr s, .inl h, rfl, by rw [dS_at, hos] <;> rfl⟩
            refine ⟨_, rfl, .inl ⟨rfl, _, SqL.of gw3⟩, _, rfl, _, rfl, o, _, rfl, look (sm3 _ _ ho), D, _, _, rfl, rfl, gw3, ?_, ?_⟩
            · rw [List.length_map]
              exact Nat.lt_of_le_of_lt (m := 300) (by omega) (by decide)
            have ew : w2.map V.str ++ [V.str ow2] = (w2 ++ [ow2]).map V.str := by rw [List.map_append]; rfl
            rw [ew]
            refine ⟨R2 ++ [s], w2 ++ [ow2], _, rfl, same_put sm3 nD0, upd_same, ?_, ?_, t3, fun x hx => ?_, ?_⟩
            · rw [upd_ne (Ne.symm rD)]; exact gr3
            · rw [upd_ne (ne_of hts3 gw3 (fun z => nomatch z))]; exact hts3
            · rw [tj] at hx
              rcases mem_snoc.mp hx with hx | rfl
              · exact List.mem_append_left _ (tk x hx)
              · exact List.mem_append_right _ List.mem_cons_self
            · have l3 := t3.len
              rw [List.length_append] at l3 ⊢
              rw [List.length_append]
              simp only [List.length_cons, List.length_nil] at l3 ⊢
              omega
        · rw [List.length_map, List.take_length] at tk
          subst e1
          refine ⟨⟨R2, w2, _, _, rfl, sm2, gw2, gr2, ti2.close tk⟩, ?_⟩
          unfold lenAt dlen
          rw [gw2, gr2]
          simp only [List.length_map, rS]
          omega
    · rintro σ G Q1 Q2 hq ⟨z1, z2, z3, z4, z5⟩
      exact ⟨z1, z2, z3, z4, hq _ _ z5⟩
end
end R9
end

-- J5f
section
set_option Elab.async false
set_option linter.all false
set_option maxRecDepth 100000
namespace R9
open PySem L2 OwnOps OwnNe G1 EqDict SortStr R6 GS StX DictList SetStr
abbrev sGP : Stmt := top 1
abbrev sTS : Stmt := top 2
def swp (O : Mp) : List Pr := O.map fun p => (p.2, p.1)
theorem sqT_x {K : PySem.W.Frag} {H G : Hp} {a d : Addr} {xs ys : List V} (hd : H d = some (.lst ys)) (h : SqT K H a xs) (s : SameX d H G) : SqT K G a xs := by
  rcases h with (h | ⟨o, h⟩) | h
  · exact .inl (.inl (s _ _ (ne_of h hd (fun z => nomatch z)) h))
  · exact .inl (.inr ⟨o, s _ _ (ne_of h hd (fun z => nomatch z)) h⟩)
  · exact .inr h
theorem Tups.x {K : PySem.W.Frag} {H G : Hp} {d : Addr} {xs ys : List V} {ks : List (List Key)} (hd : H d = some (.lst ys)) (h : Tups K H xs ks) (s : SameX d H G) : Tups K G xs ks := by
  induction h with
  | nil => exact .nil
  | cons r _ ih =>
    obtain ⟨t, e, ht⟩ := r
    exact .cons ⟨t, e, sqT_x hd ht s⟩ ih
theorem Tups.snoc {K : PySem.W.Frag} {H : Hp} {xs : List V} {ks : List (List Key)} (h : Tups K H xs ks) {t : Addr} {k : List Key} (ht : SqT K H t (k.map kV)) : Tups K H (xs ++ [.ref t]) (ks ++ [k]) := by
  induction h with
  | nil => exact .cons ⟨t, rfl, ht⟩ .nil
  | cons r _ ih => exact .cons r ih
theorem sec_few {Z : List Pr} (h : Z.length < 64) : (fs (secOf (srtP Z))).length < 64 := by
  have h1 := sec_len (srtP Z)
  have h2 : (srtP Z).length ≤ Z.length := List.Nodup.length_le_of_subset (nd_srtP Z) fun x hx => mem_srtP.mp hx
  rw [List.length_map]
  omega
section
variable {P : Program} {w : World} {K : PySem.W.Frag} {mg : Str → Option Value} {base : Heap}
def spGP (K : PySem.W.Frag) : Sp := fun vs H Q _ => ∃ (l : Addr) (xs : List V) (Z : List Pr), vs = [.ref l] ∧ SqL K H l xs ∧ Tups K H xs (Z.map PK) ∧ Z.length < 64 ∧
  ∀ t ys O H', Same H H' → H' t = some (.tup ys) → Tups K H' ys ((srtP (swp O)).map PK) → Owns (secOf (srtP Z)) (fs (secOf (srtP Z))).reverse O → Mtc (secOf (srtP Z)) O (fs (secOf (srtP Z))) → Q (.ref t) H'
abbrev NGP : List Str := ["pairs", "owners", "second", "first"]
theorem ok_GP {f : Addr} {fd : FuncData} (F : Fun K "greatest_pairs" "greatest_pairs" sGP f fd) (T : Txt mg) (GA : Glb P w K mg base "all_owners" 3 ["seconds", "owners"] spAll) (GS : Glb P w K mg base "second_names" 1 ["pairs"] (spSec K)) : FnOk P w K mg base (L2.CX P w) 4 f fd ["pairs"] (spGP K) := by
  obtain ⟨fA, fdA, mA, kA, GA, bA⟩ := GA.ex
  obtain ⟨fS, fdS, mS, kS, GS, bS⟩ := GS.ex
  have sc : FnScope NGP ["pairs"] (defScope sGP) := ⟨rfl, rfl, rfl, by decide +kernel, rfl, by decide +kernel, by decide +kernel⟩
  refine F.okX sc (fun vs H Q E h => ?_) (fun cdv A outer s H vs Q E hr h => ?_)
  · obtain ⟨l, xs, Z, rfl, _⟩ := h
    rfl
  · obtain ⟨l, xs, Z, rfl, hl, tp, few, fin⟩ := h
    refine ⟨_, pss_cons (ps_set (i := 1) sc.nd rfl (Or.inl rfl) (pe_call GA hr (by rfl) mA kA bA .nil passL (pa_cons (pe_call GS (hr.mono (by decide)) (by rfl) mS kS bS .nil passL (pa_cons (pv 0) pa_nil)) (pa_cons pe_dnewK pa_nil))))
      (pss_one (ps_ret (pe_callTy call_tuple_of (by rfl) T.tuple (by decide +kernel) (pa_cons (pe_sortedG (hu100 hr) (by rfl) T.sorted (by rfl) T.set
        (pe_lock (pe_lc (own := [("second", 2), ("first", 3)]) (g := gTup K 2 (gCons (gName 2) (gCons (gName 3) gNil))) (tt := tYes) (te := tTup (tCons (tVar 3) (tCons (tVar 2) tNil))) rfl sc.nd (pi_items (pv 1)) (blkOk_by (N := NGP) (sc := defScope sGP) (by decide +kernel)) (fun _ _ _ _ _ => pg_two (i := 2) (j := 3) rfl sc.nd rfl (Or.inl rfl) rfl (Or.inl rfl))
          (fun _ _ _ _ _ => pts_nil) (fun _ _ _ _ _ => pe_tup (pa_cons (pv 3) (pa_cons (pv 2) pa_nil)))))) pa_nil)))), ?_⟩
    refine ⟨_, rfl, l, xs, Z, rfl, hl, tp, few, fun q H1 s1 hq => ?_⟩
    intro o no
    have s2 := same_upd (o := .dK []) no
    have hq2 := hq.same s2
    have ho2 : (upd H1 o (.dK [])) o = some (.dK (dS [])) := upd_same
    have S2 := s1.trans s2
    generalize upd H1 o (.dK []) = H2 at s2 hq2 ho2 S2 ⊢
    have sf := sec_few few
    refine ⟨q, o, _, rfl, hq2, ho2, sec_nd _, Nat.le_of_lt sf, fun d O H3 s3 hd own mt => ?_⟩
    have S3 := S2.trans s3
    have lenO := mt.len
    refine ⟨d, _, hd, trivial, fun od => ?_⟩
    have hA : (upd H3 d (.frz od (.dK (dS O)))) d = some (.frz od (.dK (dS O))) := upd_same
    refine ⟨_, rfl, d, od, dS O, rfl, hA, fun L nL => walk_it walk_items (fun j G => Same (upd H3 d (.frz od (.dK (dS O)))) G ∧ ∃ ys, G L = some (.lst ys) ∧ Tups K G ys ((swp (O.take j)).map PK)) ⟨same_upd nL, [], upd_same, .nil⟩ (fun j G _ ⟨sm, _⟩ => sm _ _ hA) (fun j x G G' hj ⟨sm, ys, hL, ty⟩ ⟨U, u, v, e1, nU, e2, hu', hv'⟩ => ?_) (fun G ⟨sm, ys, hL, ty⟩ => ?_)⟩
    · subst e1 e2
      rw [dS_len] at hj
      have hp : O[j]? = some O[j] := List.getElem?_eq_getElem hj
      generalize O[j] = p at hp
      have hd' : (dS O)[j]? = some (Sum.inr p.1, V.str p.2) := by unfold dS; rw [List.getElem?_map, hp]; rfl
      dsimp only at hu' hv'
      rw [hd'] at hu' hv'
      cases hu'
      cases hv'
      have tk : (swp (O.take (j + 1))).map PK = (swp (O.take j)).map PK ++ [PK (p.2, p.1)] := by
        unfold swp
        rw [List.take_succ, hp, List.map_append, List.map_append]
        rfl
      have s4 := same_upd (o := .tup [kV (Sum.inr p.1), V.str p.2]) nU
      refine ⟨U, _, rfl, SqT.of upd_same, rfl, _, _, rfl, _, _, rfl, rfl, rfl, yes_go (iteT ⟨_, rfl, _, rfl, (by show 2 ≤ sizeLine; decide), fun t nt => ?_⟩)⟩
      have sm4 := sm.trans s4
      have hL4 := s4 _ _ hL
      have ty4 := Tups.same ty s4
      generalize upd G U (.tup [kV (Sum.inr p.1), V.str p.2]) = G4 at s4 sm4 hL4 ty4 nt ⊢
      have s5 := same_upd (o := .tup [V.str p.2, V.str p.1]) nt
      have ht : (upd G4 t (.tup [V.str p.2, V.str p.1])) t = some (.tup [V.str p.2, V.str p.1]) := upd_same
      have hL5 := s5 _ _ hL4
      have ty5 := Tups.same ty4 s5
      have sm5 := sm4.trans s5
      have ly := Paired.length ty
      refine ⟨_, hL5, ?_, same_put sm5 nL, _, upd_same, ?_⟩
      · rw [ly, List.length_map]
        unfold swp
        rw [List.length_map, List.length_take]
        exact Nat.lt_of_le_of_lt (m := 64) (by omega) (by decide)
      · rw [tk]
        exact Tups.snoc (Tups.x hL5 ty5 SameX.upd) (k := PK (p.2, p.1)) (SqT.of (by rw [upd_ne (ne_of ht hL5 (fun z => nomatch z))]; exact ht))
    rw [dS_len, List.take_length] at ty
    obtain ⟨v1, v2⟩ := same_unlock hd sm
    refine ⟨v1, ?_⟩
    have Ld : L ≠ d := ne_of hL v1 (fun z => nomatch z)
    have hL5 : (upd G d (.dK (dS O))) L = some (.lst ys) := by rw [upd_ne Ld]; exact hL
    have ty5 : Tups K (upd G d (.dK (dS O))) ys ((swp O).map PK) := by
      have sx : SameX d G (upd G d (.dK (dS O))) := SameX.upd
      have : ∀ {xs : List V} {ks : List (List Key)}, Tups K G xs ks → Tups K (upd G d (.dK (dS O))) xs ks := fun h => by
        induction h with
        | nil => exact .nil
        | cons r _ ih =>
          obtain ⟨t, e, ht⟩ := r
          refine .cons ⟨t, e, ?_⟩ ih
          rcases ht with (h | ⟨o, h⟩) | h
          · exact .inl (.inl (sx _ _ (ne_of h v1 (fun z => nomatch z)) h))
          · exact .inl (.inr ⟨o, sx _ _ (ne_of h v1 (fun z => nomatch z)) h⟩)
          · exact .inr h
      exact this ty
    have S5 := S3.trans v2
    clear v1 sm hL ty
    generalize upd G d (.dK (dS O)) = G5 at v2 hL5 ty5 S5 ⊢
    have ly := Paired.length ty5
    have lsw : (swp O).length = O.length := List.length_map _
    rw [List.length_map, lsw] at ly
    refine ⟨L, ys, (swp O).map PK, rfl, SqL.of hL5, ty5, by omega, ?_, ?_, fun zs p tz _ np => ?_⟩
    · intro k hk q hq
      obtain ⟨x, _, rfl⟩ := List.mem_map.mp hk
      obtain ⟨y, _, rfl⟩ := List.mem_map.mp hq
      exact alike_PK x y
    · intro k hk
      obtain ⟨x, _, rfl⟩ := List.mem_map.mp hk
      exact fun z => nomatch z
    rw [srtP_eq] at tz
    have s6 := same_upd (o := .lst zs) np
    refine ⟨p, zs, rfl, .inl ⟨SqL.of upd_same, fun t nt => ?_⟩⟩
    have s7 := same_upd (o := .tup zs) nt
    exact fin t zs O _ (S5.trans (s6.trans s7)) upd_same (Tups.same tz (s6.trans s7)) own mt
def spTS (K : PySem.W.Frag) : Sp := fun vs H Q _ => ∃ (l : Addr) (xs : List V) (Z : List Pr), vs = [.ref l] ∧ SqL K H l xs ∧ Tups K H xs (Z.map PK) ∧ Z.length < 64 ∧
  ∀ r t1 t2 F R O H', Same H H' → H' r = some (.tup [.ref t1, .ref t2]) → H' t1 = some (.tup ((srtS F).map V.str)) → H' t2 = some (.tup ((srtS R).map V.str)) → F.Nodup → R.Nodup → F.length + R.length = O.length → (∀ f s, (f, s) ∈ Z → f ∈ F ∨ s ∈ R) → (∀ x ∈ F, ∃ s, (x, s) ∈ Z) → (∀ s ∈ R, ∃ x, (x, s) ∈ Z) →
    Owns (secOf (srtP Z)) (fs (secOf (srtP Z))).reverse O → Mtc (secOf (srtP Z)) O (fs (secOf (srtP Z))) → Q (.ref r) H'
theorem ok_TS {f : Addr} {fd : FuncData} (F : Fun K "touching_set" "touching_set" sTS f fd) (GA : Glb P w K mg base "all_owners" 3 ["seconds", "owners"] spAll) (GS : Glb P w K mg base "second_names" 1 ["pairs"] (spSec K)) (GT : Glb P w K mg base "touched" 1 ["seconds", "owners"] spTou) : FnOk P w K mg base (L2.CX P w) 4 f fd ["pairs"] (spTS K) := by
  obtain ⟨fA, fdA, mA, kA, GA, bA⟩ := GA.ex
  obtain ⟨fS, fdS, mS, kS, GS, bS⟩ := GS.ex
  obtain ⟨fT, fdT, mT, kT, GT, bT⟩ := GT.ex
  have sc : FnScope ["pairs", "seconds"] ["pairs"] (defScope sTS) := ⟨rfl, rfl, rfl, by decide +kernel, rfl, by decide +kernel, by decide +kernel⟩
  refine F.okX sc (fun vs H Q E h => ?_) (fun cdv A outer s H vs Q E hr h => ?_)
  · obtain ⟨l, xs, Z, rfl, _⟩ := h
    rfl
  · obtain ⟨l, xs, Z, rfl, hl, tp, few, fin⟩ := h
    refine ⟨_, pss_cons (ps_set (i := 1) sc.nd rfl (Or.inl rfl) (pe_call GS (hr.mono (by decide)) (by rfl) mS kS bS .nil passL (pa_cons (pv 0) pa_nil)))
      (pss_one (ps_ret (pe_call GT (hr.mono (by decide)) (by rfl) mT kT bT .nil passL (pa_cons (pv 1) (pa_cons (pe_call GA hr (by rfl) mA kA bA .nil passL (pa_cons (pv 1) (pa_cons pe_dnewK pa_nil))) pa_nil))))), ?_⟩
    refine ⟨_, rfl, l, xs, Z, rfl, hl, tp, few, fun q H1 s1 hq => ?_⟩
    refine ⟨_, rfl, _, rfl, ?_⟩
    intro o no
    have s2 := same_upd (o := .dK []) no
    have hq2 := hq.same s2
    have ho2 : (upd H1 o (.dK [])) o = some (.dK (dS [])) := upd_same
    have S2 := s1.trans s2
    generalize upd H1 o (.dK []) = H2 at s2 hq2 ho2 S2 ⊢
    have sf := sec_few few
    refine ⟨q, o, _, rfl, hq2, ho2, sec_nd _, Nat.le_of_lt sf, fun d O H3 s3 hd own mt => ?_⟩
    refine ⟨q, d, _, O, rfl, hq2.same s3, hd, mt, Nat.le_of_lt sf, fun r t1 t2 F R H4 s4 hr h1 h2 nF nR cnt tch iF iR => ?_⟩
    exact fin r t1 t2 F R O H4 (S2.trans (s3.trans s4)) hr h1 h2 nF nR cnt (fun f s h => tch f s ((sec_mem _ f s).mpr (mem_srtP.mpr h))) (fun x hx => let ⟨s, e⟩ := iF x hx; ⟨s, mem_srtP.mp ((sec_mem _ _ _).mp (mt.sub _ _ e).1)⟩) (fun s hs => let ⟨x, e⟩ := iR s hs; ⟨x, mem_srtP.mp ((sec_mem _ _ _).mp (mt.sub _ _ e).1)⟩) own mt
end
end R9
end

-- J5g
section
set_option Elab.async false
set_option linter.all false
set_option maxRecDepth 100000
set_option exponentiation.threshold 10000
namespace R9
open PySem L2 OwnOps OwnNe SortStr EqDict SetStr DictList StX G1 R6 GS
abbrev sStart : Stmt := top 9
abbrev sDraw : Stmt := top 10
def CDivG (_ j : Int) : Prop := j ≠ 0 ∧ j.natAbs.log2 < 9000
theorem op_fdivG {X : Cx} : OpR X (binaryOp .FloorDiv) (rI CDivG fun i j => .int (i.fdiv j)) := opI fun i j _ _ _ _ _ hc q =>
  PyProof.Rows.floordiv_int hc.1 q (.inl (PyProof.noPylong_of_log2 hc.2))
theorem wide_divG {i j : Int} {n : Nat} (h : j ≠ 0) (hb : j.natAbs < 2 ^ n) (h0 : 0 < n) (h9 : n ≤ 9000) : CDivG i j := ⟨h, Nat.lt_of_lt_of_le (PySem.Flt.log2_lt_of h0 hb) h9⟩
/-- the state of the law's draws -/
def St (H : Hp) (l ls : Addr) : Prop := ∃ (ns : List Int) (at' rest seed : Int), ls ≠ l ∧ 0 ≤ at' ∧ H ls = some (.lst (ns.map V.int)) ∧ H l = some (.lst [.ref ls, .int at', .int rest, .int seed])
theorem St.same {H H' : Hp} {l ls : Addr} (h : St H l ls) (s : Same H H') : St H' l ls :=
  let ⟨ns, a, r, sd, n, a0, h1, h2⟩ := h
  ⟨ns, a, r, sd, n, a0, s _ _ h1, s _ _ h2⟩
structure Nms (mg : Str → Option Value) : Prop where
  len : mg "len" = none
  range : mg "range" = none
  list : mg "list" = none
  all : mg "all" = none
theorem mod_nn {x : Int} {u : Int} (h : 0 < u) : 0 ≤ x % u ∧ x % u < u := ⟨Int.emod_nonneg _ (Int.ne_of_gt h), Int.emod_lt_of_pos _ h⟩
theorem ns_at {ns : List Int} {a : Int} (a0 : 0 ≤ a) (h : decide (a < ((ns.map V.int).length : Int)) = true) : ∃ z, atI (ns.map V.int) a = some (.int z) := by
  have h := of_decide_eq_true h
  rw [List.length_map] at h
  obtain ⟨j, hj⟩ : ∃ j : Nat, a = j := ⟨_, (Int.toNat_of_nonneg a0).symm⟩
  have h3 : j < ns.length := by omega
  refine ⟨ns[j], at_of hj ?_⟩
  rw [List.getElem?_map, List.getElem?_eq_getElem h3]
  rfl
section
variable {P : Program} {w : World} {K : PySem.W.Frag} {mg : Str → Option Value} {base : Heap} {C CI fCI CZ fCZ : Addr}
def spDraw : Sp := fun vs H Q _ => ∃ (l ls : Addr) (u : Int), vs = [.ref l, .int u] ∧ 0 < u ∧ u.natAbs < 2 ^ 9000 ∧ St H l ls ∧
  ∀ d H', 0 ≤ d → d < u → SameX l H H' → St H' l ls → Q (.int d) H'
theorem ok_draw {f : Addr} {fd : FuncData} (F : Fun K "_law_draw" "_law_draw" sDraw f fd) (int : mg "int" = none) (N : Nms mg) :
    FnOk P w K mg base (L2.CX P w) 1 f fd ["_law_state", "_law_many"] spDraw := by
  have sc : FnScope ["_law_state", "_law_many", "_law_digit", "_law_cell"] ["_law_state", "_law_many"] (defScope sDraw) := ⟨rfl, rfl, rfl, by decide +kernel, rfl, by decide +kernel, by decide +kernel⟩
  refine F.okX sc (fun vs H Q E h => ?_) (fun cdv A outer s H vs Q E hr h => ?_)
  · obtain ⟨l, ls, u, rfl, _⟩ := h
    rfl
  · obtain ⟨l, ls, u, rfl, u0, u1, ⟨ns, a, r, sd, n, a0, h1, h2⟩, fin⟩ := h
    refine ⟨_, pss_cons (ps_if (pt_cmpR op_gt (pe_ix ix_list (pv 0) pe_int (fun _ _ => rfl)) pe_int (nomark _))
        (pss_cons (ps_set (i := 2) sc.nd rfl (Or.inl rfl) (pe_op op_mod (pe_callTy call_int1 (by rfl) int (by decide +kernel) (pa_cons (pe_ix ix_list (pv 0) pe_int (fun _ _ => rfl)) pa_nil)) (pv 1)))
        (pss_cons (ps_asg (pe_op op_fdivG (pe_ix ix_list (pv 0) pe_int (fun _ _ => rfl)) (pv 1)) (pg_sub (pv 0) pe_int set_list))
        (pss_one (ps_ret (pv 2))))) pss_nil)
      (pss_cons (ps_set (i := 3) sc.nd rfl (Or.inl rfl) (pe_ifExp (pt_cmpR op_lt (pe_ix ix_list (pv 0) pe_int (fun _ _ => rfl)) (pe_callB call_len_seq (by rfl) N.len PySem.boot_len (pa_cons (pe_ix ix_list (pv 0) pe_int (fun _ _ => rfl)) pa_nil)) (nomark _))
          (pe_ix ix_list (pe_ix ix_list (pv 0) pe_int (fun _ _ => rfl)) (pe_ix ix_list (pv 0) pe_int (fun _ _ => rfl)) (fun _ _ => rfl)) pe_int))
      (pss_cons (ps_asg (pe_op op_add (pe_ix ix_list (pv 0) pe_int (fun _ _ => rfl)) pe_int) (pg_sub (pv 0) pe_int set_list))
      (pss_cons (ps_if (pt_cmpR op_ge (pv 3) (pe_op op_pow pe_int pe_int) (nomark _))
        (pss_cons (ps_asg (pe_op op_fdivG (pv 3) (pv 1)) (pg_sub (pv 0) pe_int set_list))
        (pss_one (ps_ret (pe_op op_mod (pe_callTy call_int1 (by rfl) int (by decide +kernel) (pa_cons (pv 3) pa_nil)) (pv 1))))) pss_nil)
      (pss_cons (ps_asg (pe_op op_mod (pe_callTy call_int1 (by rfl) int (by decide +kernel) (pa_cons (pe_op op_add (pe_op op_add (pe_op op_add (pe_op op_mul (pe_ix ix_list (pv 0) pe_int (fun _ _ => rfl)) pe_int) (pe_op op_mul (pv 3) pe_int)) (pe_op op_mul (pe_ix ix_list (pv 0) pe_int (fun _ _ => rfl)) pe_int)) pe_int) pa_nil)) pe_int) (pg_sub (pv 0) pe_int set_list))
      (pss_one (ps_ret (pe_op op_mod (pe_callTy call_int1 (by rfl) int (by decide +kernel) (pa_cons (pe_op op_mod (pe_callTy call_int1 (by rfl) int (by decide +kernel) (pa_cons (pe_op op_add (pe_op op_mul (pe_ix ix_list (pv 0) pe_int (fun _ _ => rfl)) pe_int) pe_int) pa_nil)) pe_int) pa_nil)) (pv 1)))))))), ?_⟩
    have dv : ∀ x, CDivG x u := fun x => wide_divG (Int.ne_of_gt u0) u1 (by decide) (by decide)
    have kp : ∀ {o : HO} {H0 : Hp}, SameX l H H0 → (L2.upd H0 l o) ls = some (.lst (ns.map V.int)) := fun {o H0} s0 => by
      rw [upd_ne n]
      exact s0 _ _ n h1
    have p18 : ((10 : Int) ^ (18 : Int).toNat) = 1000000000000000000 := by decide +kernel
    refine ⟨_, rfl, l, _, _, _, rfl, rfl, SqL.of h2, at_of (j := 2) rfl rfl, _, _, rfl, rfl, _, rfl, ?_⟩
    refine ite2 (fun _ => ?_) (fun _ => ?_)
    · refine ⟨_, rfl, l, _, _, _, rfl, rfl, SqL.of h2, at_of (j := 2) rfl rfl, .inl ⟨_, rfl, _, rfl, _, _, rfl, rfl, u0, ?_⟩⟩
      refine ⟨_, rfl, l, _, _, _, rfl, rfl, SqL.of h2, at_of (j := 2) rfl rfl, _, rfl, _, _, rfl, rfl, dv _, _, rfl, l, _, _, 2, rfl, rfl, h2, rfl, _, rfl, ?_⟩
      exact fin _ _ (mod_nn u0).1 (mod_nn u0).2 SameX.upd ⟨ns, a, _, sd, n, a0, kp (SameX.refl l H), upd_same⟩
    · refine ⟨_, rfl, l, _, _, _, rfl, rfl, SqL.of h2, at_of (j := 1) rfl rfl, _, rfl, l, _, _, _, rfl, rfl, SqL.of h2, at_of (j := 0) rfl rfl, ls, _, rfl, .inl (SqL.of h1), _, _, rfl, rfl, _, rfl, ?_⟩
      refine ite2 (fun hin => ?_) (fun _ => ?_)
      · obtain ⟨z, hz⟩ := ns_at a0 hin
        refine ⟨_, rfl, l, _, _, _, rfl, rfl, SqL.of h2, at_of (j := 0) rfl rfl, _, rfl, l, _, _, _, rfl, rfl, SqL.of h2, at_of (j := 1) rfl rfl, ls, _, _, _, rfl, rfl, SqL.of h1, hz, ?_⟩
        refine ⟨_, rfl, l, _, _, _, rfl, rfl, SqL.of h2, at_of (j := 1) rfl rfl, _, _, rfl, rfl, _, rfl, l, _, _, 1, rfl, rfl, h2, rfl, ?_⟩
        have h3 : (L2.upd H l (.lst [.ref ls, .int (a + 1), .int r, .int sd])) l = some (.lst [.ref ls, .int (a + 1), .int r, .int sd]) := upd_same
        refine ⟨_, rfl, _, _, rfl, rfl, ⟨by decide, by decide, by decide +kernel⟩, _, _, rfl, rfl, _, rfl, ?_⟩
        refine ite2 (fun _ => ?_) (fun _ => ?_)
        · refine ⟨_, rfl, _, rfl, _, _, rfl, rfl, dv _, _, rfl, l, _, _, 2, rfl, rfl, h3, rfl, ?_⟩
          refine ⟨_, rfl, .inl ⟨_, rfl, _, rfl, _, _, rfl, rfl, u0, ?_⟩⟩
          exact fin _ _ (mod_nn u0).1 (mod_nn u0).2 (SameX.upd.trans SameX.upd) ⟨ns, a + 1, _, sd, n, by omega, kp SameX.upd, upd_same⟩
        · refine ⟨_, rfl, l, _, _, _, rfl, rfl, SqL.of h3, at_of (j := 3) rfl rfl, _, _, rfl, rfl, .inr ⟨by decide, by decide⟩, _, rfl, _, _, rfl, rfl, .inr ⟨by decide, by decide⟩, _, _, rfl, rfl,
            _, rfl, l, _, _, _, rfl, rfl, SqL.of h3, at_of (j := 1) rfl rfl, _, _, rfl, rfl, .inr ⟨by decide, by decide⟩, _, _, rfl, rfl, _, _, rfl, rfl, .inl ⟨_, rfl, _, _, rfl, rfl, (by show (0 : Int) < 2147483647; decide), _, rfl, l, _, _, 3, rfl, rfl, h3, rfl, ?_⟩⟩
          refine ⟨_, rfl, l, _, _, _, rfl, rfl, SqL.of upd_same, at_of (j := 3) rfl rfl, _, _, rfl, rfl, .inr ⟨by decide, by decide⟩, _, _, rfl, rfl, .inl ⟨_, rfl, _, _, rfl, rfl, (by show (0 : Int) < 2147483399; decide), .inl ⟨_, rfl, _, rfl, _, _, rfl, rfl, u0, ?_⟩⟩⟩
          exact fin _ _ (mod_nn u0).1 (mod_nn u0).2 (SameX.upd.trans SameX.upd) ⟨ns, a + 1, r, _, n, by omega, kp SameX.upd, upd_same⟩
      · skip
        refine ⟨_, rfl, l, _, _, _, rfl, rfl, SqL.of h2, at_of (j := 1) rfl rfl, _, _, rfl, rfl, _, rfl, l, _, _, 1, rfl, rfl, h2, rfl, ?_⟩
        have h3 : (L2.upd H l (.lst [.ref ls, .int (a + 1), .int r, .int sd])) l = some (.lst [.ref ls, .int (a + 1), .int r, .int sd]) := upd_same
        refine ⟨_, rfl, _, _, rfl, rfl, ⟨by decide, by decide, by decide +kernel⟩, _, _, rfl, rfl, _, rfl, ?_⟩
        refine ite2 (fun _ => ?_) (fun _ => ?_)
        · refine ⟨_, rfl, _, rfl, _, _, rfl, rfl, dv _, _, rfl, l, _, _, 2, rfl, rfl, h3, rfl, ?_⟩
          refine ⟨_, rfl, .inl ⟨_, rfl, _, rfl, _, _, rfl, rfl, u0, ?_⟩⟩
          exact fin _ _ (mod_nn u0).1 (mod_nn u0).2 (SameX.upd.trans SameX.upd) ⟨ns, a + 1, _, sd, n, by omega, kp SameX.upd, upd_same⟩
        · refine ⟨_, rfl, l, _, _, _, rfl, rfl, SqL.of h3, at_of (j := 3) rfl rfl, _, _, rfl, rfl, .inr ⟨by decide, by decide⟩, _, rfl, _, _, rfl, rfl, .inr ⟨by decide, by decide⟩, _, _, rfl, rfl,
            _, rfl, l, _, _, _, rfl, rfl, SqL.of h3, at_of (j := 1) rfl rfl, _, _, rfl, rfl, .inr ⟨by decide, by decide⟩, _, _, rfl, rfl, _, _, rfl, rfl, .inl ⟨_, rfl, _, _, rfl, rfl, (by show (0 : Int) < 2147483647; decide), _, rfl, l, _, _, 3, rfl, rfl, h3, rfl, ?_⟩⟩
          refine ⟨_, rfl, l, _, _, _, rfl, rfl, SqL.of upd_same, at_of (j := 3) rfl rfl, _, _, rfl, rfl, .inr ⟨by decide, by decide⟩, _, _, rfl, rfl, .inl ⟨_, rfl, _, _, rfl, rfl, (by show (0 : Int) < 2147483399; decide), .inl ⟨_, rfl, _, rfl, _, _, rfl, rfl, u0, ?_⟩⟩⟩
          exact fin _ _ (mod_nn u0).1 (mod_nn u0).2 (SameX.upd.trans SameX.upd) ⟨ns, a + 1, r, _, n, by omega, kp SameX.upd, upd_same⟩
end
abbrev dg (i : Int) : Str := ((toString i : String) : Str)
theorem dg_len : ∀ n : Fin 40, (dg ((n.val : Nat) : Int)).length ≤ 3 := by decide +kernel
theorem dg_log : ∀ n : Fin 40, (((n.val : Nat) : Int)).natAbs.log2 < 1920 := by decide +kernel
theorem sx_put {l D : Addr} {H G : Hp} {o : HO} (s : SameX l H G) (h : H D = none) : SameX l H (upd G D o) := fun b u n e => by
  rw [upd_ne (ne_of_none e h)]
  exact s b u n e
theorem sm9 {u : Int} (h : u.natAbs < 2 ^ 128) : u.natAbs < 2 ^ 9000 := Nat.lt_of_lt_of_le h (Nat.pow_le_pow_right (by decide) (by decide))
section
variable {P : Program} {w : World} {K : PySem.W.Frag} {mg : Str → Option Value} {base : Heap} {C : Addr}
def spStart (K : PySem.W.Frag) : Sp := fun vs H Q _ => ∃ (a : Addr) (ns : List Int), vs = [.ref a] ∧ SqL K H a (ns.map V.int) ∧ ∀ l ls H', Same H H' → St H' l ls → H l = none → H ls = none → Q (.ref l) H'
theorem ok_start {f : Addr} {fd : FuncData} (F : Fun K "_law_start" "_law_start" sStart f fd) (N : Nms mg) : FnOk P w K mg base (L2.CX P w) 1 f fd ["_law_script"] (spStart K) := by
  have sc : FnScope ["_law_script"] ["_law_script"] (defScope sStart) := ⟨rfl, rfl, rfl, by decide +kernel, rfl, by decide +kernel, by decide +kernel⟩
  refine F.okX sc (fun vs H Q E h => ?_) (fun cdv A outer s H vs Q E hr h => ?_)
  · obtain ⟨a, ns, rfl, _⟩ := h
    rfl
  · obtain ⟨a, ns, rfl, hS, k⟩ := h
    refine ⟨_, pss_one (ps_ret (pe_lst (pa_cons (pe_callTy call_list_of (by rfl) N.list (by decide +kernel) (pa_cons (pv 0) pa_nil)) (pa_cons pe_int (pa_cons pe_int (pa_cons pe_int pa_nil)))))), ?_⟩
    refine ⟨_, rfl, a, _, rfl, .inl hS, fun ls nls => ⟨(by show 4 ≤ sizeLine; decide), fun l nl => ?_⟩⟩
    have s1 := same_upd (o := .lst (ns.map V.int)) nls
    have s2 := same_upd (o := .lst [V.ref ls, .int 0, .int 0, .int 7]) nl
    exact k l ls _ (s1.trans s2) ⟨ns, 0, 0, 7, ne_of_none upd_same nl, Int.le_refl 0, s2 _ _ upd_same, upd_same⟩ (Same.none s1 nl) nls
theorem St.put {H : Hp} {l ls : Addr} {D : Addr} {o : HO} (h : St H l ls) (hl : D ≠ l) (hs : D ≠ ls) : St (upd H D o) l ls := by
  obtain ⟨ns, a, r, sd, n, a0, h1, h2⟩ := h
  exact ⟨ns, a, r, sd, n, a0, by rw [upd_ne hs.symm]; exact h1, by rw [upd_ne hl.symm]; exact h2⟩
theorem St.l {H : Hp} {l ls : Addr} (h : St H l ls) : (H l).isSome = true ∧ (H ls).isSome = true := by
  obtain ⟨ns, a, r, sd, n, a0, h1, h2⟩ := h
  rw [h1, h2]
  exact ⟨rfl, rfl⟩
theorem St.ne {H : Hp} {l ls D : Addr} (h : St H l ls) (n : H D = none) : D ≠ l ∧ D ≠ ls := by
  obtain ⟨h1, h2⟩ := h.l
  exact ⟨fun z => (by rw [z] at n; rw [n] at h1; cases h1), fun z => (by rw [z] at n; rw [n] at h2; cases h2)⟩
end
end R9
end

-- J5p
section
set_option Elab.async false
set_option linter.all false
set_option maxRecDepth 100000
set_option exponentiation.threshold 10000
namespace R9
open PySem L2 OwnOps OwnNe SortStr EqDict SetStr DictList StX G1 R6 GS
abbrev sPairs : Stmt := top 11
theorem ja : ∀ n : Fin 40, ((Str.empty ++ ("a" : Str)) ++ dg ((n.val : Nat) : Int)).length ≤ 10 := by decide +kernel
theorem dg_lt {i : Int} (h0 : 0 ≤ i) (h : i < 40) : ∃ n : Fin 40, i = ((n.val : Nat) : Int) := ⟨⟨i.toNat, by omega⟩, by show i = (i.toNat : Int); omega⟩
def Okp (p : Pr) : Prop := PyData.strOk p.1 = true ∧ PyData.strOk p.2 = true
def OkZ (Z : List Pr) : Prop := ∀ p ∈ Z, Okp p
theorem OkZ.add {Z : List Pr} {p : Pr} (h : OkZ Z) (hp : Okp p) : OkZ (Z ++ [p]) := fun q hq => (List.mem_append.mp hq).elim (h q) fun z => by rw [List.mem_singleton.mp z]; exact hp
theorem ok_ea : ∀ n : Fin 40, PyData.strOk ((Str.empty ++ ("a" : Str)) ++ dg ((n.val : Nat) : Int)) = true := by decide +kernel
theorem ok_a : ∀ n : Fin 40, PyData.strOk (("a" : Str) ++ dg ((n.val : Nat) : Int)) = true := by decide +kernel
theorem ok_b : ∀ n : Fin 40, PyData.strOk (("b" : Str) ++ dg ((n.val : Nat) : Int)) = true := by decide +kernel
theorem St.lst {H : Hp} {l ls : Addr} (h : St H l ls) : ∃ xs, H l = some (.lst xs) := let ⟨_, _, _, _, _, _, _, h⟩ := h; ⟨_, h⟩
section
variable {P : Program} {w : World} {K : PySem.W.Frag} {mg : Str → Option Value} {base : Heap}
/-- at d the pairs -/
def FL (K : PySem.W.Frag) (H : Hp) (d : Addr) (Z : List Pr) : Prop := ∃ xs, H d = some (.lst xs) ∧ Tups K H xs (Z.map PK)
theorem FL.x {H G : Hp} {d l ls : Addr} {Z : List Pr} (f : FL K H d Z) (st : St H l ls) (dl : d ≠ l) (s : SameX l H G) : FL K G d Z :=
  let ⟨xs, h1, h2⟩ := f
  let ⟨_, h3⟩ := st.lst
  ⟨xs, s _ _ dl h1, Tups.x h3 h2 s⟩
theorem FL.same {H G : Hp} {d : Addr} {Z : List Pr} (f : FL K H d Z) (s : Same H G) : FL K G d Z := let ⟨xs, h1, h2⟩ := f; ⟨xs, s _ _ h1, Tups.same h2 s⟩
theorem FL.add {H : Hp} {d t : Addr} {xs : List V} {Z : List Pr} {p : Pr} (h1 : H d = some (.lst xs)) (h2 : Tups K H xs (Z.map PK)) (ht : H t = some (.tup [.str p.1, .str p.2])) : FL K (upd H d (.lst (xs ++ [.ref t]))) d (Z ++ [p]) := by
  refine ⟨_, upd_same, ?_⟩
  rw [List.map_append]
  exact Tups.snoc (Tups.x h1 h2 SameX.upd) (k := PK p) (SqT.of (by rw [upd_ne (ne_of ht h1 (fun z => nomatch z))]; exact ht))
theorem FL.len {H : Hp} {xs : List V} {Z : List Pr} (h : Tups K H xs (Z.map PK)) : xs.length = Z.length := by
  have := Paired.length h
  rwa [List.length_map] at this
def spPairs (K : PySem.W.Frag) : Sp := fun vs H Q _ => ∃ (l ls : Addr), vs = [.ref l] ∧ St H l ls ∧ ∀ d Z H', SameX l H H' → St H' l ls → FL K H' d Z → Z.length < 64 → OkZ Z → Q (.ref d) H'
abbrev NPairs : List Str := ["_law_state", "_law_found", "_law_k"]
theorem ok_pairs {f : Addr} {fd : FuncData} (F : Fun K "_law_pairs" "_law_pairs" sPairs f fd) (T : Txt mg) (GD : Glb P w K mg base "_law_draw" 1 ["_law_state", "_law_many"] spDraw) : FnOk P w K mg base (L2.CX P w) 2 f fd ["_law_state"] (spPairs K) := by
  obtain ⟨fD, fdD, mD, kD, GD, bD⟩ := GD.ex
  have sc : FnScope NPairs ["_law_state"] (defScope sPairs) := ⟨rfl, rfl, rfl, by decide +kernel, rfl, by decide +kernel, by decide +kernel⟩
  refine F.okX sc (fun vs H Q E h => ?_) (fun cdv A outer s H vs Q E hr h => ?_)
  · obtain ⟨l, ls, rfl, _⟩ := h
    rfl
  · obtain ⟨l, ls, rfl, st, fin⟩ := h
    refine ⟨_, pss_cons (ps_set (i := 1) sc.nd rfl (Or.inl rfl) (pe_lst pa_nil))
      (pss_cons (ps_for passOwn rfl (pi_range1 rfl T.range (pa_cons (pe_call GD hr (by rfl) mD kD bD .nil passL (pa_cons (pv 0) (pa_cons pe_int pa_nil))) pa_nil)) (pg_name (i := 2) sc.nd rfl (Or.inl rfl))
        (pss_one (ps_expr (pe_bm PySem.F.plainAttrs_list PySem.F.slot_list_append PySem.F.type_list_append mt_append (pv 1) (pa_cons (pe_tup (pa_cons (pe_joined (.cons pe_str (.cons (pe_fmt (pe_call GD hr (by rfl) mD kD bD .nil passL (pa_cons (pv 0) (pa_cons pe_int pa_nil)))) .nil)))
          (pa_cons (pe_op op_add_str (pe_ix ix_list (pe_lst (pa_cons pe_str (pa_cons pe_str pa_nil))) (pe_call GD hr (by rfl) mD kD bD .nil passL (pa_cons (pv 0) (pa_cons pe_int pa_nil))) (fun _ _ => rfl)) (pe_callTy call_str_int (by rfl) T.str (by decide +kernel) (pa_cons (pe_call GD hr (by rfl) mD kD bD .nil passL (pa_cons (pv 0) (pa_cons pe_int pa_nil))) pa_nil))) pa_nil))) pa_nil)))))
      (pss_one (ps_ret (pv 1)))), ?_⟩
    refine ⟨by show 0 ≤ sizeLine; decide, fun d nd => ?_⟩
    obtain ⟨dl, ds⟩ := st.ne nd
    have sB : SameX l H (upd H d (.lst [])) := SameX.of (same_upd nd)
    have stB := st.put dl ds (o := .lst [])
    have fB : FL K (upd H d (.lst [])) d [] := ⟨[], upd_same, .nil⟩
    generalize upd H d (.lst []) = B at sB stB fB ⊢
    refine ⟨_, rfl, l, ls, 9, rfl, by decide, sm9 (by decide), stB, fun m C m0 m9 sx st1 => ?_⟩
    obtain ⟨M, rfl⟩ : ∃ M : Nat, m = M := ⟨m.toNat, by omega⟩
    have fC := fB.x stB dl sx
    have sC := sB.trans sx
    refine ⟨M, rfl, by omega, by omega, for_it walk_range (fun j σ G => (∃ v2, σ = [some (.ref l), some (.ref d), v2]) ∧ SameX l H G ∧ St G l ls ∧ ∃ Z, FL K G d Z ∧ Z.length = j ∧ OkZ Z)
      ⟨⟨_, rfl⟩, sC, st1, [], fC, rfl, fun _ h => (nomatch h)⟩ (fun _ _ _ _ _ => trivial) (fun j x σ G G' hj ⟨⟨v2, e⟩, sm, stG, Z, fl, zl, okz⟩ ⟨e2, hx⟩ => ?_) (fun σ G ⟨⟨v2, e⟩, sm, stG, Z, fl, zl, okz⟩ => ?_)⟩
    · subst e
      have e2 := e2.symm
      subst e2
      subst hx
      obtain ⟨xs, gd, ty⟩ := id fl
      refine ⟨_, rfl, .inl ⟨rfl, _, SqL.of gd⟩, ?_⟩
      refine ⟨("a" : Str), rfl, (by decide), ?_⟩
      refine ⟨_, rfl, l, ls, 6, rfl, by decide, sm9 (by decide), stG, fun e1 G1 a0 a1 sx1 st1 => ?_⟩
      obtain ⟨n1, hn1⟩ := dg_lt (i := e1) a0 (by omega)
      have f1 := fl.x stG dl sx1
      refine .inr ⟨e1, rfl, by rw [hn1]; exact dg_log n1, _, rfl, ?_, ?_⟩
      · have := ja n1
        rw [← hn1] at this
        exact Nat.le_trans this (by decide)
      refine ⟨by show 2 ≤ sizeLine; decide, fun q nq => ?_⟩
      obtain ⟨ql, qs⟩ := st1.ne nq
      have s2 := same_upd (o := .lst [V.str "a", V.str "b"]) nq
      have hq : (upd G1 q (.lst [V.str "a", V.str "b"])) q = some (.lst [V.str "a", V.str "b"]) := upd_same
      have st2 := st1.same s2
      have f2 := f1.same s2
      have sm2 := (sm.trans sx1).trans (SameX.of s2)
      generalize upd G1 q (.lst [V.str "a", V.str "b"]) = G2 at s2 hq st2 f2 sm2 ⊢
      refine ⟨_, rfl, l, ls, 2, rfl, by decide, sm9 (by decide), st2, fun e2 G3 b0 b1 sx3 st3 => ?_⟩
      have f3 := f2.x st2 dl sx3
      have sm3 := sm2.trans sx3
      obtain ⟨c, hc, cl, co⟩ : ∃ c : Str, atI [V.str "a", V.str "b"] e2 = some (.str c) ∧ c.length ≤ 1 ∧ ∀ n : Fin 40, PyData.strOk (c ++ dg ((n.val : Nat) : Int)) = true := by
        rcases (show e2 = 0 ∨ e2 = 1 by omega) with rfl | rfl
        · exact ⟨"a", rfl, by decide, ok_a⟩
        · exact ⟨"b", rfl, by decide, ok_b⟩
      refine ⟨q, _, _, _, rfl, rfl, SqL.of (sx3 _ _ ql hq), hc, ?_⟩
      refine ⟨_, rfl, l, ls, 4, rfl, by decide, sm9 (by decide), st3, fun e3 G4 c0 c1 sx4 st4 => ?_⟩
      obtain ⟨n3, hn3⟩ := dg_lt (i := e3) c0 (by omega)
      have f4 := f3.x st3 dl sx4
      have sm4 := sm3.trans sx4
      refine ⟨e3, rfl, by rw [hn3]; exact dg_log n3, _, _, rfl, rfl, ?_, ?_⟩
      · have := dg_len n3
        rw [← hn3] at this
        exact Nat.le_trans (Nat.add_le_add cl this) (by decide)
      refine ⟨by show 2 ≤ sizeLine; decide, fun t nt => ?_⟩
      have s5 := same_upd (o := .tup [V.str (Str.empty ++ Str.ofString "a" ++ Str.ofString (toString e1)), V.str (c ++ Str.ofString (toString e3))]) nt
      obtain ⟨xs5, gd5, ty5⟩ := f4.same s5
      have l5 := FL.len ty5
      refine ⟨d, xs5, _, rfl, rfl, gd5, ?_, ⟨_, rfl⟩, sx_put (sm4.trans (SameX.of s5)) nd, (st4.same s5).put dl ds, _, FL.add (p := (Str.empty ++ Str.ofString "a" ++ Str.ofString (toString e1), c ++ Str.ofString (toString e3))) gd5 ty5 upd_same, ?_, okz.add ⟨?_, ?_⟩⟩
      · exact Nat.lt_of_le_of_lt (m := 100) (by omega) (by decide)
      · rw [List.length_append, zl]; rfl
      · have := ok_ea n1
        rw [← hn1] at this
        exact this
      · have := co n3
        rw [← hn3] at this
        exact this
    · subst e
      exact ⟨_, rfl, fin d Z G sm stG fl (by omega) okz⟩
end
end R9
end

-- J5q
section
set_option Elab.async false
set_option linter.all false
set_option maxRecDepth 100000
set_option exponentiation.threshold 10000
namespace R9
open PySem L2 OwnOps OwnNe SortStr EqDict SetStr DictList StX G1 R6 GS
abbrev sChain : Stmt := top 12
/-- a choice of two lists, whatever comes of it -/
theorem if_lst {c : Bool} {ta tb : TA} {σ : L2.St} {H : Hp} {Q : VK} (C : V → Hp → Prop) (k : ∀ v G, C v G → Q v G) (h1 : c = true → tLst ta σ H C) (h2 : c = false → tLst tb σ H C)
    (m1 : ∀ Q1 Q2 : List V → Hp → Prop, (∀ xs G, Q1 xs G → Q2 xs G) → ta σ H Q1 → ta σ H Q2) (m2 : ∀ Q1 Q2 : List V → Hp → Prop, (∀ xs G, Q1 xs G → Q2 xs G) → tb σ H Q1 → tb σ H Q2) :
    if c = true then tLst ta σ H Q else tLst tb σ H Q := by
  cases c with
  | true => exact m1 _ _ (fun xs G ⟨e, f⟩ => ⟨e, fun p hp => k _ _ (f p hp)⟩) (h1 rfl)
  | false => exact m2 _ _ (fun xs G ⟨e, f⟩ => ⟨e, fun p hp => k _ _ (f p hp)⟩) (h2 rfl)
theorem cutVG {goal : Prop} {C Y : V → Hp → Prop} (body : (∀ v G, C v G → Y v G) → goal) (next : ∀ v G, C v G → Y v G) : goal := body next
theorem sameX_none {l x : Addr} {H G : Hp} (s : SameX l H G) (n : x ≠ l) (h : G x = none) : H x = none := by
  cases e : H x with
  | none => rfl
  | some o =>
    rw [s x o n e] at h
    cases h
theorem chain_val {m k b : Int} (hb : b = 0 ∨ b = 1) (k0 : 0 ≤ k) (km : k ≤ m) (m12 : m ≤ 12) : 0 ≤ 10 + (m - k) * b + k * (1 - b) ∧ 10 + (m - k) * b + k * (1 - b) < 40 := by
  rcases hb with rfl | rfl <;> omega
theorem Tups.take {K : PySem.W.Frag} {H : Hp} {xs : List V} {ks : List (List Key)} (h : Tups K H xs ks) : ∀ n, Tups K H (xs.take n) (ks.take n) := by
  induction h with
  | nil => intro n; rw [List.take_nil, List.take_nil]; exact .nil
  | cons r _ ih =>
    intro n
    cases n with
    | zero => exact .nil
    | succ n => exact .cons r (ih n)
theorem Tups.drop {K : PySem.W.Frag} {H : Hp} {xs : List V} {ks : List (List Key)} (h : Tups K H xs ks) : ∀ n, Tups K H (xs.drop n) (ks.drop n) := by
  induction h with
  | nil => intro n; rw [List.drop_nil, List.drop_nil]; exact .nil
  | cons r t ih =>
    intro n
    cases n with
    | zero => exact .cons r t
    | succ n => exact ih n
theorem Tups.app {K : PySem.W.Frag} {H : Hp} {xs ys : List V} {ks js : List (List Key)} (h : Tups K H xs ks) (h' : Tups K H ys js) : Tups K H (xs ++ ys) (ks ++ js) := by
  induction h with
  | nil => exact h'
  | cons r _ ih => exact .cons r ih
section
variable {P : Program} {w : World} {K : PySem.W.Frag} {mg : Str → Option Value} {base : Heap}
theorem FL.ins {H : Hp} {d t : Addr} {xs : List V} {Z : List Pr} {p : Pr} (n : Nat) (h1 : H d = some (.lst xs)) (h2 : Tups K H xs (Z.map PK)) (ht : H t = some (.tup [.str p.1, .str p.2])) : FL K (upd H d (.lst (xs.take n ++ [.ref t] ++ xs.drop n))) d (Z.take n ++ [p] ++ Z.drop n) := by
  refine ⟨_, upd_same, ?_⟩
  rw [List.map_append, List.map_append, List.map_take, List.map_drop]
  have h3 := Tups.x h1 h2 (G := upd H d (.lst (xs.take n ++ [.ref t] ++ xs.drop n))) SameX.upd
  exact Tups.app (Tups.snoc (Tups.take h3 n) (k := PK p) (SqT.of (by rw [upd_ne (ne_of ht h1 (fun z => nomatch z))]; exact ht))) (Tups.drop h3 n)
theorem ins_len {Z : List Pr} {p : Pr} {n : Nat} : (Z.take n ++ [p] ++ Z.drop n).length = Z.length + 1 := by
  simp only [List.length_append, List.length_take, List.length_drop, List.length_cons, List.length_nil]
  omega
theorem OkZ.ins {Z : List Pr} {p : Pr} {n : Nat} (h : OkZ Z) (hp : Okp p) : OkZ (Z.take n ++ [p] ++ Z.drop n) := fun q hq => by
  rcases List.mem_append.mp hq with hq | hq
  · rcases List.mem_append.mp hq with hq | hq
    · exact h q (List.mem_of_mem_take hq)
    · rw [List.mem_singleton.mp hq]; exact hp
  · exact h q (List.mem_of_mem_drop hq)
abbrev NCh : List Str := ["_law_state", "_law_many", "_law_back", "_law_found", "_law_k", "_law_first", "_law_second", "_law_place"]
set_option maxHeartbeats 2000000 in
theorem ok_chain {f : Addr} {fd : FuncData} (F : Fun K "_law_chain" "_law_chain" sChain f fd) (T : Txt mg) (GD : Glb P w K mg base "_law_draw" 1 ["_law_state", "_law_many"] spDraw) : FnOk P w K mg base (L2.CX P w) 2 f fd ["_law_state"] (spPairs K) := by
  obtain ⟨fD, fdD, mD, kD, GD, bD⟩ := GD.ex
  have sc : FnScope NCh ["_law_state"] (defScope sChain) := ⟨rfl, rfl, rfl, by decide +kernel, rfl, by decide +kernel, by decide +kernel⟩
  refine F.okX sc (fun vs H Q E h => ?_) (fun cdv A outer s H vs Q E hr h => ?_)
  · obtain ⟨l, ls, rfl, _⟩ := h
    rfl
  · obtain ⟨l, ls, rfl, st, fin⟩ := h
    refine ⟨_, pss_cons (ps_par (i := 1) (j := 2) rfl sc.nd rfl rfl (by decide) rfl rfl (pa_cons (pe_call GD hr (by rfl) mD kD bD .nil passL (pa_cons (pv 0) (pa_cons pe_int pa_nil))) (pa_cons (pe_call GD hr (by rfl) mD kD bD .nil passL (pa_cons (pv 0) (pa_cons pe_int pa_nil))) pa_nil)) (by rfl))
      (pss_cons (ps_set (i := 3) sc.nd rfl (Or.inl rfl) (pe_lst pa_nil))
      (pss_cons (ps_for passOwn rfl (pi_range1 rfl T.range (pa_cons (pe_op op_add (pv 1) pe_int) pa_nil)) (pg_name (i := 4) sc.nd rfl (Or.inl rfl))
        (pss_cons (ps_set (i := 5) sc.nd rfl (Or.inl rfl) (pe_op op_add_str pe_str (pe_callTy call_str_int (by rfl) T.str (by decide +kernel) (pa_cons (pe_op op_add (pe_op op_add pe_int (pe_op op_mul (pe_op op_sub (pv 1) (pv 4)) (pv 2))) (pe_op op_mul (pv 4) (pe_op op_sub pe_int (pv 2)))) pa_nil))))
        (pss_one (ps_for passOwn rfl (pi_list (pe_ifExp (pt_cmpR op_lt (pv 4) (pv 1) (nomark _)) (pe_lst (pa_cons (pv 4) (pa_cons (pe_op op_add (pv 4) pe_int) pa_nil))) (pe_lst (pa_cons pe_int pa_nil)))) (pg_name (i := 6) sc.nd rfl (Or.inl rfl))
          (pss_cons (ps_set (i := 7) sc.nd rfl (Or.inl rfl) (pe_op op_add (pe_op op_add pe_int (pe_op op_mul (pe_op op_sub (pv 1) (pv 6)) (pv 2))) (pe_op op_mul (pv 6) (pe_op op_sub pe_int (pv 2)))))
          (pss_one (ps_expr (pe_bm PySem.F.plainAttrs_list PySem.F.slot_list_insert PySem.F.type_list_insert mt_insert (pv 3) (pa_cons (pe_call GD hr (by rfl) mD kD bD .nil passL (pa_cons (pv 0) (pa_cons (pe_op op_add (pe_callB call_len_seq (by rfl) T.len PySem.boot_len (pa_cons (pv 3) pa_nil)) pe_int) pa_nil)))
            (pa_cons (pe_tup (pa_cons (pv 5) (pa_cons (pe_op op_add_str pe_str (pe_callTy call_str_int (by rfl) T.str (by decide +kernel) (pa_cons (pv 7) pa_nil))) pa_nil))) pa_nil))))))))))
      (pss_cons (ps_if (pt_cmpR op_eq (pe_call GD hr (by rfl) mD kD bD .nil passL (pa_cons (pv 0) (pa_cons pe_int pa_nil))) pe_int (nomark _))
        (pss_one (ps_expr (pe_bm PySem.F.plainAttrs_list PySem.F.slot_list_append PySem.F.type_list_append mt_append (pv 3) (pa_cons (pe_tup (pa_cons pe_str (pa_cons (pe_ix ix_tup (pe_ix ix_list (pv 3) pe_int (fun _ _ => rfl)) pe_int (fun _ _ => rfl)) pa_nil))) pa_nil))))
        pss_nil)
      (pss_one (ps_ret (pv 3)))))), ?_⟩
    refine ⟨_, rfl, l, ls, 12, rfl, by decide, sm9 (by decide), st, fun m H1 m0 m12 sx1 st1 => ?_⟩
    refine ⟨_, rfl, l, ls, 2, rfl, by decide, sm9 (by decide), st1, fun b H2 b0 b2 sx2 st2 => ?_⟩
    have hb : b = 0 ∨ b = 1 := by omega
    have S2 := sx1.trans sx2
    refine ⟨_, _, rfl, by show 0 ≤ sizeLine; decide, fun d nd => ?_⟩
    obtain ⟨dl, ds'⟩ := st2.ne nd
    have nd0 : H d = none := sameX_none S2 dl nd
    have sB : SameX l H (upd H2 d (.lst [])) := S2.trans (SameX.of (same_upd nd))
    have stB := st2.put dl ds' (o := .lst [])
    have fB : FL K (upd H2 d (.lst [])) d [] := ⟨[], upd_same, .nil⟩
    generalize upd H2 d (.lst []) = B at sB stB fB ⊢
    obtain ⟨M, rfl⟩ : ∃ M : Nat, m = M := ⟨m.toNat, by omega⟩
    refine ⟨_, rfl, _, _, rfl, rfl, (M : Int) + 1, rfl, by omega, by omega, ?_⟩
    rw [show ((M : Int) + 1).toNat = M + 1 by omega]
    refine for_it walk_range (fun j σ G => (∃ v4 v5 v6 v7, σ = [some (.ref l), some (.int M), some (.int b), some (.ref d), v4, v5, v6, v7]) ∧ SameX l H G ∧ St G l ls ∧ ∃ Z, FL K G d Z ∧ Z.length ≤ 2 * j ∧ (0 < j → Z ≠ []) ∧ OkZ Z)
      ⟨⟨_, _, _, _, rfl⟩, sB, stB, [], fB, Nat.zero_le _, fun h => absurd h (Nat.lt_irrefl _), fun _ h => (nomatch h)⟩ (fun _ _ _ _ _ => trivial) (fun j x σ G G' hj ⟨⟨v4, v5, v6, v7, e⟩, sm, stG, Z, fl, zl, zne, okz⟩ ⟨e2, hx⟩ => ?_) (fun σ G ⟨⟨v4, v5, v6, v7, e⟩, sm, stG, Z, fl, zl, zne, okz⟩ => ?_)
    · subst e
      have e2 := e2.symm
      subst e2
      subst hx
      have k0 : (0 : Int) ≤ 0 + (j : Int) := by omega
      have kM : (0 : Int) + (j : Int) ≤ M := by omega
      have kj : ((0 : Int) + (j : Int)).natAbs ≤ 12 := by omega
      obtain ⟨c0, c1⟩ := chain_val hb k0 kM (by omega)
      refine ⟨_, rfl, _, rfl, _, _, rfl, rfl, _, rfl, _, _, rfl, rfl, .inr (by omega), _, _, rfl, rfl, _, rfl, _, rfl, _, _, rfl, rfl, _, _, rfl, rfl, .inr (by omega), _, _, rfl, rfl, ?_⟩
      obtain ⟨n1, hn1⟩ := dg_lt c0 c1
      refine ⟨_, rfl, by rw [hn1]; exact dg_log n1, _, _, rfl, rfl, ?_, ?_⟩
      · have := dg_len n1
        rw [← hn1] at this
        exact Nat.le_trans (Nat.add_le_add (show ("a" : Str).length ≤ 1 by decide) this) (by decide)
      dsimp only [gName]
      refine ⟨_, rfl, _, rfl, _, _, rfl, rfl, _, rfl, ?_⟩
      obtain ⟨xs, gd, _⟩ := id fl
      refine if_lst (fun v G1 => ∃ q ks, v = .ref q ∧ G1 q = some (.lst (ks.map V.int)) ∧ q ≠ l ∧ q ≠ d ∧ SameX l H G1 ∧ St G1 l ls ∧ FL K G1 d Z ∧ ks ≠ [] ∧ ks.length ≤ 2 ∧ ∀ x ∈ ks, 0 ≤ x ∧ x ≤ (M : Int)) ?_ (fun h => ?_) (fun h => ?_) ?_ ?_
      rotate_left
      · have h := of_decide_eq_true h
        refine ⟨_, rfl, _, rfl, _, _, rfl, rfl, by show 2 ≤ sizeLine; decide, fun q nq => ?_⟩
        obtain ⟨ql, qs⟩ := stG.ne nq
        have s3 := same_upd (o := .lst [V.int (0 + (j : Int)), V.int (0 + (j : Int) + 1)]) nq
        exact ⟨q, [0 + (j : Int), 0 + (j : Int) + 1], rfl, upd_same, ql, (fun z => by rw [z, gd] at nq; cases nq), sm.trans (SameX.of s3), stG.same s3, fl.same s3, (fun z => nomatch z), Nat.le_refl _, (fun x hx => by
            simp only [List.mem_cons, List.not_mem_nil, or_false] at hx
            omega)⟩
      · refine ⟨by show 1 ≤ sizeLine; decide, fun q nq => ?_⟩
        obtain ⟨ql, qs⟩ := stG.ne nq
        have s3 := same_upd (o := .lst [V.int 0]) nq
        exact ⟨q, [0], rfl, upd_same, ql, (fun z => by rw [z, gd] at nq; cases nq), sm.trans (SameX.of s3), stG.same s3, fl.same s3, (fun z => nomatch z), by decide, (fun x hx => by
            simp only [List.mem_cons, List.not_mem_nil, or_false] at hx
            omega)⟩
      · exact fun Q1 Q2 hq ⟨z1, z2, z3, z4, z5, z6, z7, z8, z9⟩ => ⟨z1, z2, z3, z4, z5, z6, z7, z8, hq _ _ z9⟩
      · exact fun Q1 Q2 hq z => hq _ _ z
      · rintro v G1 ⟨q, ks, rfl, gq, ql, qd, sm1, st1', f1, kne, kl, kb⟩
        refine ⟨q, rfl, ⟨_, SqL.of gq⟩, for_it walk_list (fun i σ G2 => (∃ v6 v7, σ = [some (.ref l), some (.int M), some (.int b), some (.ref d), some (.int (0 + (j : Int))), some (.str (("a" : Str) ++ dg (10 + ((M : Int) - (0 + (j : Int))) * b + (0 + (j : Int)) * (1 - b)))), v6, v7]) ∧ G2 q = some (.lst (ks.map V.int)) ∧ SameX l H G2 ∧ St G2 l ls ∧ ∃ Z, FL K G2 d Z ∧ Z.length ≤ 2 * j + i ∧ (0 < j ∨ 0 < i → Z ≠ []) ∧ OkZ Z)
          ⟨⟨_, _, rfl⟩, gq, sm1, st1', Z, f1, by omega, (fun h => h.elim zne fun z => absurd z (Nat.lt_irrefl _)), okz⟩ (fun i σ G2 _ ⟨_, h, _⟩ => SqL.of h) (fun i x σ G2 G3 hi ⟨⟨v6, v7, e⟩, gq2, sm2, st2', Z2, f2, zl2, _, ok2⟩ ⟨e2, hx⟩ => ?_) (fun σ G2 ⟨⟨v6, v7, e⟩, gq2, sm2, st2', Z2, f2, zl2, zn2, ok2⟩ => ?_)⟩
        · subst e
          have e2 := e2.symm
          subst e2
          rw [List.length_map] at hi
          obtain ⟨s, hs, rfl⟩ : ∃ s, ks[i]? = some s ∧ x = .int s := by
            rw [List.getElem?_map] at hx
            cases e : ks[i]? with
            | none => rw [e] at hx; cases hx
            | some s =>
              rw [e] at hx
              cases hx
              exact ⟨s, rfl, rfl⟩
          obtain ⟨s0, s1⟩ := kb s (List.mem_of_getElem? hs)
          obtain ⟨p0, p1⟩ := chain_val hb s0 s1 (by omega)
          obtain ⟨n2, hn2⟩ := dg_lt p0 p1
          refine ⟨_, rfl, _, rfl, _, _, rfl, rfl, _, rfl, _, _, rfl, rfl, .inr (by omega), _, _, rfl, rfl, _, rfl, _, rfl, _, _, rfl, rfl, _, _, rfl, rfl, .inr (by omega), _, _, rfl, rfl, ?_⟩
          obtain ⟨xs, gd, ty⟩ := id f2
          have lx := FL.len ty
          refine ⟨_, rfl, .inl ⟨rfl, _, SqL.of gd⟩, _, rfl, _, rfl, d, _, rfl, .inl (SqL.of gd), _, _, rfl, rfl, ?_⟩
          rw [lx]
          refine ⟨l, ls, _, rfl, by omega, sm9 (Nat.lt_of_le_of_lt (m := 100) (by omega) (by decide)), st2', fun dr G4 d0 d1 sx4 st4 => ?_⟩
          have f4 := f2.x st2' dl sx4
          have sm4 := sm2.trans sx4
          have gq4 := sx4 _ _ ql gq2
          refine ⟨_, rfl, _, rfl, _, rfl, by rw [hn2]; exact dg_log n2, _, _, rfl, rfl, ?_, ?_⟩
          · have := dg_len n2
            rw [← hn2] at this
            exact Nat.le_trans (Nat.add_le_add (show ("b" : Str).length ≤ 1 by decide) this) (by decide)
          refine ⟨by show 2 ≤ sizeLine; decide, fun t nt => ?_⟩
          have s5 := same_upd (o := .tup [V.str (("a" : Str) ++ dg (10 + ((M : Int) - (0 + (j : Int))) * b + (0 + (j : Int)) * (1 - b))), V.str (("b" : Str) ++ dg (10 + ((M : Int) - s) * b + s * (1 - b)))]) nt
          obtain ⟨xs5, gd5, ty5⟩ := f4.same s5
          have l5 := FL.len ty5
          refine ⟨d, xs5, dr, _, rfl, rfl, gd5, ?_, d0, ?_, ⟨_, _, rfl⟩, ?_, sx_put (sm4.trans (SameX.of s5)) nd0, (st4.same s5).put dl ds', _, FL.ins (p := (("a" : Str) ++ dg (10 + ((M : Int) - (0 + (j : Int))) * b + (0 + (j : Int)) * (1 - b)), ("b" : Str) ++ dg (10 + ((M : Int) - s) * b + s * (1 - b)))) dr.toNat gd5 ty5 upd_same, ?_, (fun _ z => ?_), ok2.ins ⟨?_, ?_⟩⟩
          · exact Nat.lt_of_le_of_lt (m := 100) (by omega) (by decide)
          · omega
          · rw [upd_ne qd]
            exact s5 _ _ gq4
          · rw [ins_len]; omega
          · have := congrArg List.length z
            rw [ins_len] at this
            cases this
          · have := ok_a n1
            rw [← hn1] at this
            exact this
          · have := ok_b n2
            rw [← hn2] at this
            exact this
        · subst e
          rw [List.length_map] at zl2 zn2
          exact ⟨⟨_, _, _, _, rfl⟩, sm2, st2', Z2, f2, by omega, (fun _ => zn2 (.inr (List.length_pos_iff.mpr kne))), ok2⟩
    · subst e
      have Zne := zne (Nat.succ_pos M)
      obtain ⟨xs, gd, ty⟩ := id fl
      refine ⟨_, rfl, l, ls, 2, rfl, by decide, sm9 (by decide), stG, fun e G1 e0 e1 sx1 st1' => ⟨rfl, _, rfl, ?_⟩⟩
      have f1 := fl.x stG dl sx1
      have sm1 := sm.trans sx1
      by_cases c : V.int e = V.int 1
      · refine if_pos' (decide_eq_true c) ?_
        obtain ⟨xs1, gd1, ty1⟩ := id f1
        have lx := FL.len ty1
        have pos : 0 < xs1.length := by rw [lx]; exact List.length_pos_iff.mpr Zne
        obtain ⟨p, t0, hp, ex, ht0⟩ := tups_at ty1 (List.getElem?_eq_getElem pos)
        have at0 : atI xs1 0 = some (.ref t0) := at_of (j := 0) rfl (by rw [List.getElem?_eq_getElem pos, ex])
        refine ⟨_, rfl, .inl ⟨rfl, _, SqL.of gd1⟩, _, rfl, d, _, _, _, rfl, rfl, SqL.of gd1, at0, t0, _, _, _, rfl, rfl, ht0, rfl, by show 2 ≤ sizeLine; decide, fun t nt => ?_⟩
        have s5 := same_upd (o := .tup [V.str ("a9" : Str), V.str p.2]) nt
        obtain ⟨xs5, gd5, ty5⟩ := f1.same s5
        have l5 := FL.len ty5
        refine ⟨d, xs5, _, rfl, rfl, gd5, ?_, ?_⟩
        · exact Nat.lt_of_le_of_lt (m := 100) (by omega) (by decide)
        · refine ⟨_, rfl, fin d (Z ++ [(("a9" : Str), p.2)]) _ (sx_put (sm1.trans (SameX.of s5)) nd0) ((st1'.same s5).put dl ds') (FL.add (p := (("a9" : Str), p.2)) gd5 ty5 upd_same) ?_ (okz.add ⟨(show PyData.strOk ("a9" : Str) = true by decide +kernel), (okz p (List.mem_of_getElem? hp)).2⟩)⟩
          rw [List.length_append]
          simp only [List.length_cons, List.length_nil]
          omega
      · refine if_neg' (decide_eq_false c) ?_
        exact ⟨_, rfl, fin d Z G1 sm1 st1' f1 (by omega) okz⟩
end
end R9
end

-- J5r
section
set_option Elab.async false
set_option linter.all false
set_option maxRecDepth 100000
set_option exponentiation.threshold 10000
namespace R9
open PySem L2 OwnOps OwnNe SortStr EqDict SetStr DictList StX G1 R6 GS SSE
abbrev sAsc : Stmt := top 13
def rLtD (K : PySem.W.Frag) : R2 := fun x y H Q => ∃ d e, Dp K H x d ∧ Dp K H y e ∧ W.alike d e = true ∧ d ≠ .none ∧ d.depth ≤ 64 ∧ Q (.bl (W.dataLt d e)) H
theorem op_ltD {X : Cx} (hu : X.A.units + 64 < cLine) : OpR X (compareOp .Lt) (rLtD X.K) := by
  intro pins s σ H x y v u Q I rx ry h
  obtain ⟨d, e, hd, he, al, nn, dp, q⟩ := h
  obtain ⟨as, r1⟩ := Dp.reads I d x v hd rx
  obtain ⟨bs, r2⟩ := Dp.reads I e y u he ry
  exact W.rcLt_alike d e X.A s v u as bs r1 r2 al nn (by have := Nat.min_le_left d.depth e.depth; omega) X.prog X.w _ _ ⟨.bl _, H, I, rfl, q⟩
theorem dp_strs {K : PySem.W.Frag} {H : Hp} : ∀ xs : List Str, DpAll K H (xs.map V.str) (xs.map PyData.str)
  | [] => .nil
  | x :: r => .cons (.str x) (dp_strs r)
theorem dp_keys {K : PySem.W.Frag} {H : Hp} : ∀ k : List Key, DpAll K H (k.map kV) (k.map encK)
  | [] => .nil
  | .inl i :: r => .cons (.int i) (dp_keys r)
  | .inr x :: r => .cons (.str x) (dp_keys r)
theorem dp_tups {K : PySem.W.Frag} {H : Hp} {xs : List V} {ks : List (List Key)} (h : Tups K H xs ks) : DpAll K H xs (ks.map encT) := by
  induction h with
  | nil => exact .nil
  | cons r _ ih =>
    obtain ⟨t, rfl, ht⟩ := r
    exact .cons (.tup ht (dp_keys _)) ih
def nD (xs : List Str) : List PyData := xs.map PyData.str
def pD (Z : List Pr) : List PyData := (Z.map PK).map encT
theorem lay_nD : ∀ xs : List Str, (∀ x ∈ xs, PyData.strOk x = true) → PyData.canLayAll0 (nD xs) = true
  | [], _ => by simp [nD, PyData.canLayAll0]
  | x :: r, h => by
    have h1 := h x List.mem_cons_self
    have h2 := lay_nD r fun n hn => h n (List.mem_cons_of_mem _ hn)
    unfold nD at h2 ⊢
    simp only [List.map_cons, PyData.canLayAll0, PyData.canLay0, h1, h2, Bool.and_self]
theorem lay_PK {p : Pr} (h : Okp p) : (encT (PK p)).canLay0 = true := by
  obtain ⟨h1, h2⟩ := h
  simp only [encT, PK, List.map_cons, List.map_nil, encK, PyData.canLay0, PyData.canLayAll0, h1, h2, Bool.and_self]
theorem lay_pD : ∀ Z : List Pr, OkZ Z → PyData.canLayAll0 (pD Z) = true
  | [], _ => by simp [pD, PyData.canLayAll0]
  | p :: r, h => by
    have h1 := lay_PK (h p List.mem_cons_self)
    have h2 := lay_pD r fun n hn => h n (List.mem_cons_of_mem _ hn)
    unfold pD at h2 ⊢
    simp only [List.map_cons, PyData.canLayAll0, h1, h2, Bool.and_self]
theorem dep_nD : ∀ xs : List Str, PyData.depthAll (nD xs) = 0
  | [] => by simp [nD, PyData.depthAll]
  | x :: r => by
    have := dep_nD r
    unfold nD at this ⊢
    simp only [List.map_cons, PyData.depthAll, PyData.depth, this, Nat.max_self]
theorem dep_pD : ∀ Z : List Pr, PyData.depthAll (pD Z) ≤ 1
  | [] => by simp [pD, PyData.depthAll]
  | p :: r => by
    have h1 := dep_pD r
    have h2 := depthT (PK p)
    unfold pD at h1 ⊢
    simp only [List.map_cons, PyData.depthAll]
    omega
theorem shp {d : PyData} (h1 : d.canLay0 = true) (h2 : d.depth ≤ 64) : SeqAt.shaped d = true := by
  show (d.canLay0 && decide (d.depth ≤ 64)) = true
  rw [Bool.and_eq_true]
  exact ⟨h1, decide_eq_true h2⟩
theorem shp_nl {xs : List Str} (h : ∀ x ∈ xs, PyData.strOk x = true) : SeqAt.shaped (.list (nD xs)) = true := shp (by simp only [PyData.canLay0]; exact lay_nD xs h) (by simp only [PyData.depth, dep_nD]; decide)
theorem shp_pl {Z : List Pr} (h : OkZ Z) : SeqAt.shaped (.list (pD Z)) = true := shp (by simp only [PyData.canLay0]; exact lay_pD Z h) (by have := dep_pD Z; simp only [PyData.depth]; omega)
theorem shp_pt {Z : List Pr} (h : OkZ Z) : SeqAt.shaped (.tuple (pD Z)) = true := shp (by simp only [PyData.canLay0]; exact lay_pD Z h) (by have := dep_pD Z; simp only [PyData.depth]; omega)
theorem shp_p {p : Pr} (h : Okp p) : SeqAt.shaped (encT (PK p)) = true := shp (lay_PK h) (Nat.le_trans (depthT _) (by decide))
theorem eqv_same {d : PyData} (h : SeqAt.shaped d = true) : PyData.eqv d d = true := by
  first | exact PyData.eqv_refl d (SeqAt.canLay_of_shaped h) | exact SeqAt.eqv_refl d (SeqAt.canLay_of_shaped h) | exact eqv_refl d (SeqAt.canLay_of_shaped h)
theorem units64 {k : Nat} {A : Around} (r : Room k A) : A.units + 64 < cLine := by have := r.un; omega
theorem units65 {k : Nat} {A : Around} (r : Room k A) : A.units + 65 < cLine := by have := r.un; omega
section
variable {P : Program} {w : World} {K : PySem.W.Frag} {mg : Str → Option Value} {base : Heap}
def spAsc : Sp := fun vs H Q _ => ∃ (t : Addr) (xs : List Str), vs = [.ref t] ∧ H t = some (.tup (xs.map V.str)) ∧ xs.length < 64 ∧ srtE xs = xs ∧ (∀ x ∈ xs, PyData.strOk x = true) ∧ ∀ H', Same H H' → Q (.bl true) H'
abbrev NAsc : List Str := ["_law_names", "_law_name"]
theorem ok_asc {f : Addr} {fd : FuncData} (F : Fun K "_law_ascends" "_law_ascends" sAsc f fd) (T : Txt mg) : FnOk P w K mg base (L2.CX P w) 1 f fd ["_law_names"] spAsc := by
  have sc : FnScope NAsc ["_law_names"] (defScope sAsc) := ⟨rfl, rfl, rfl, by decide +kernel, rfl, by decide +kernel, by decide +kernel⟩
  refine F.okX sc (fun vs H Q E h => ?_) (fun cdv A outer s H vs Q E hr h => ?_)
  · obtain ⟨t, xs, rfl, _⟩ := h
    rfl
  · obtain ⟨t, xs, rfl, ht, few, asc, ok, fin⟩ := h
    refine ⟨_, pss_one (ps_ret (pe_and (pe_callB call_isi (by rfl) T.isi (by decide +kernel) (pa_cons (pv 0) (pa_cons (pe_bltn (v := .ty "tuple") (by rfl) T.tuple (by decide +kernel) rfl) pa_nil)))
      (pe_one (pe_cmpR (op_eqD (units64 hr)) (pe_callTy call_list_of (by rfl) T.list (by decide +kernel) (pa_cons (pv 0) pa_nil)) (pe_sortedE (by rfl) T.sorted (by rfl) T.set
        (pe_lc (own := [("_law_name", 1)]) (g := gName 1) (tt := tYes) (te := tCB (fun xs H Q => ∃ y : Str, xs = [.str y] ∧ Q (.str y) H) (tCons (tVar 1) tNil)) rfl sc.nd (pi_tup (pv 0)) (blkOk_by (N := NAsc) (sc := defScope sAsc) (by decide +kernel)) (fun _ _ _ _ _ => pg_name (i := 1) sc.nd rfl (Or.inl rfl)) (fun _ _ _ _ _ => pts_nil)
          (fun _ _ _ _ _ => pe_callTy SkE.call_str_str (by rfl) T.str (by decide +kernel) (pa_cons (pv 1) pa_nil)))) (nomark _))))), ?_⟩
    refine ⟨_, rfl, _, _, _, _, _, rfl, .ty _, .base (.tup ht), kit_ty (r := true) (by decide +kernel), _, rfl, if_pos' rfl ?_⟩
    refine ⟨_, rfl, t, _, rfl, .inr (SqT.of ht), fun l nl => ?_⟩
    have s1 := same_upd (o := .lst (xs.map V.str)) nl
    have hl : (upd H l (.lst (xs.map V.str))) l = some (.lst (xs.map V.str)) := upd_same
    have ht1 := s1 _ _ ht
    generalize upd H l (.lst (xs.map V.str)) = H1 at s1 hl ht1 ⊢
    refine ⟨_, rfl, t, rfl, ⟨_, SqT.of ht1⟩, fun D nD => ?_⟩
    refine walk_it (walk_tup (K := K) (a := t) (xs := xs.map V.str)) (fun j G => Same H1 G ∧ G D = some (.lst ((xs.take j).map V.str))) ⟨same_upd nD, upd_same⟩ (fun j G _ ⟨sm, _⟩ => SqT.of (sm _ _ ht1)) (fun j x G G' hj ⟨sm, hD⟩ ⟨e, hx⟩ => ?_) (fun G ⟨sm, hD⟩ => ?_)
    · subst e
      obtain ⟨n, hn, rfl⟩ := map_at hx
      have lt : j < xs.length := (List.getElem?_eq_some_iff.mp hn).1
      refine ⟨rfl, yes_go (iteT ⟨_, rfl, _, rfl, _, hD, ?_, same_put sm nD, ?_⟩)⟩
      · rw [List.length_map, List.length_take]
        exact Nat.lt_of_le_of_lt (Nat.min_le_left _ _) (Nat.lt_of_lt_of_le (m := 64) (by omega) (by decide))
      · rw [upd_same, List.take_succ, hn, List.map_append]
        rfl
    rw [List.length_map, List.take_length] at hD
    refine ⟨D, xs, rfl, SqL.of hD, few, fun p np => ?_⟩
    rw [asc]
    have s3 := same_upd (o := .lst (xs.map V.str)) np
    refine ⟨.list (R9.nD xs), .list (R9.nD xs), .lst (SqL.of (s3 _ _ (sm _ _ hl))) (dp_strs xs), .lst (SqL.of upd_same) (dp_strs xs), shp_nl ok, shp_nl ok, ?_⟩
    rw [eqv_same (shp_nl ok)]
    exact fin _ (s1.trans (sm.trans s3))
end
end R9
end

-- J5h
section
set_option Elab.async false
set_option linter.all false
set_option maxRecDepth 100000
set_option exponentiation.threshold 10000
namespace R9
open PySem L2 OwnOps OwnNe SortStr EqDict SetStr DictList StX G1 R6 GS SSE
abbrev sHold : Stmt := top 14
abbrev kept (O : Mp) : List Pr := srtP (swp O)
theorem kept_perm {S : Sec} {O : Mp} {dn : List Str} (m : Mtc S O dn) : (kept O).Perm (swp O) := by
  refine (List.perm_ext_iff_of_nodup (nd_srtP _) ?_).mpr fun p => mem_srtP
  unfold swp
  exact pw_of_nodup (nd_of_ks m.kn) fun a _ b _ e => Prod.ext (congrArg Prod.snd e) (congrArg Prod.fst e)
theorem kept_len {S : Sec} {O : Mp} {dn : List Str} (m : Mtc S O dn) : (kept O).length = O.length := by
  rw [(kept_perm m).length_eq]
  exact List.length_map _
theorem kept_in {Z : List Pr} {O : Mp} {dn : List Str} (m : Mtc (secOf (srtP Z)) O dn) {p : Pr} (h : p ∈ kept O) : p ∈ Z := by
  obtain ⟨q, hq, rfl⟩ := List.mem_map.mp (mem_srtP.mp h)
  exact mem_srtP.mp ((sec_mem _ _ _).mp (m.sub _ _ (at_mem m.kn hq)).1)
theorem kept_fst {S : Sec} {O : Mp} {dn : List Str} (m : Mtc S O dn) : ((kept O).map Prod.fst).Nodup := by
  have e : (swp O).map Prod.fst = vs O := by
    unfold swp
    rw [List.map_map]; rfl
  exact ((kept_perm m).map Prod.fst).nodup_iff.mpr (by rw [e]; exact m.vn)
theorem kept_snd {S : Sec} {O : Mp} {dn : List Str} (m : Mtc S O dn) : ((kept O).map Prod.snd).Nodup := by
  have e : (swp O).map Prod.snd = ks O := by
    unfold swp
    rw [List.map_map]; rfl
  exact ((kept_perm m).map Prod.snd).nodup_iff.mpr (by rw [e]; exact m.kn)
theorem kept_lt {P : List Pr} {i : Nat} {p q : Pr} (hp : (srtP P)[i]? = some p) (hq : (srtP P)[i + 1]? = some q) : W.dataLt (encT (PK p)) (encT (PK q)) = true := by
  have pw := pw_srtT (P.map PK)
  have nd := nd_srtP P
  rw [srtP_eq, List.pairwise_map] at pw
  obtain ⟨li, e1⟩ := List.getElem?_eq_some_iff.mp hp
  obtain ⟨lj, e2⟩ := List.getElem?_eq_some_iff.mp hq
  have le := List.pairwise_iff_getElem.mp pw i (i + 1) li lj (by omega)
  have ne := List.pairwise_iff_getElem.mp nd i (i + 1) li lj (by omega)
  rw [e1, e2] at le ne
  cases h : W.dataLt (encT (PK p)) (encT (PK q)) with
  | true => rfl
  | false => exact absurd (PK_inj (leT_anti le (by unfold leT; rw [h]; rfl))) ne
theorem any_mem {Z : List Pr} {p : Pr} (h : p ∈ Z) (ok : Okp p) : ((pD Z).any fun z => PyData.eqv z (encT (PK p))) = true := by
  rw [List.any_eq_true]
  exact ⟨encT (PK p), List.mem_map.mpr ⟨PK p, List.mem_map.mpr ⟨p, h, rfl⟩, rfl⟩, eqv_same (shp_p ok)⟩
theorem srtE_srtS {F : List Str} (nd : F.Nodup) : srtE (srtS F) = srtS F := by
  unfold srtE
  refine srtS_eq ?_
  have n2 : (srtS F).Nodup := (srtS_perm F).nodup_iff.mpr nd
  refine (same_mem_perm (nodup_dd _) n2 fun x => mem_dd).trans (srtS_perm F)
theorem tups_len {K : PySem.W.Frag} {H : Hp} {xs : List V} {Z : List Pr} (h : Tups K H xs (Z.map PK)) : xs.length = Z.length := FL.len h
section
variable {P : Program} {w : World} {K : PySem.W.Frag} {mg : Str → Option Value} {base : Heap}
def spHold (K : PySem.W.Frag) : Sp := fun vs H Q _ => ∃ (d : Addr) (Z : List Pr), vs = [.ref d] ∧ FL K H d Z ∧ Z.length < 64 ∧ OkZ Z ∧ ∀ H', Same H H' → Q (.bl true) H'
abbrev NH : List Str := ["_law_pairs_here", "_law_given", "_law_kept", "_law_firsts", "_law_seconds", "_law_pair", "_law_at"]
set_option maxHeartbeats 4000000 in
theorem ok_hold {f : Addr} {fd : FuncData} (F : Fun K "_law_holds" "_law_holds" sHold f fd) (T : Txt mg) (GG : Glb P w K mg base "greatest_pairs" 4 ["pairs"] (spGP K)) (GT : Glb P w K mg base "touching_set" 4 ["pairs"] (spTS K)) (GA : Glb P w K mg base "_law_ascends" 1 ["_law_names"] spAsc) : FnOk P w K mg base (L2.CX P w) 5 f fd ["_law_pairs_here"] (spHold K) := by
  obtain ⟨fG, fdG, mG, kG, GG, bG⟩ := GG.ex
  obtain ⟨fT, fdT, mT, kT, GT, bT⟩ := GT.ex
  obtain ⟨fA, fdA, mA, kA, GA, bA⟩ := GA.ex
  have sc : FnScope NH ["_law_pairs_here"] (defScope sHold) := ⟨rfl, rfl, rfl, by decide +kernel, rfl, by decide +kernel, by decide +kernel⟩
  refine F.okX sc (fun vs H Q E h => ?_) (fun cdv A outer s H vs Q E hr h => ?_)
  · obtain ⟨d, Z, rfl, _⟩ := h
    rfl
  · obtain ⟨d, Z, rfl, fl, few, okz, fin⟩ := h
    have hN := sc.nd
    refine ⟨_, pss_cons (ps_set (i := 1) hN rfl (Or.inl rfl) (pe_callTy call_list_of (by rfl) T.list (by decide +kernel) (pa_cons (pv 0) pa_nil)))
      (pss_cons (ps_set (i := 2) hN rfl (Or.inr rfl) (pe_call GG hr (by rfl) mG kG bG .nil passL (pa_cons (pv 1) pa_nil)))
      (pss_cons (ps_asg (pe_call GT hr (by rfl) mT kT bT .nil passL (pa_cons (pv 1) pa_nil)) (pg_two (i := 3) (j := 4) rfl hN rfl (Or.inr rfl) rfl (Or.inr rfl)))
      (pss_cons (ps_if (PW.pt (pw_or (pt_not (pt_val (pe_callB call_isi (by rfl) T.isi (by decide +kernel) (pa_cons (pv 2) (pa_cons (pe_bltn (v := .ty "tuple") (by rfl) T.tuple (by decide +kernel) rfl) pa_nil)))))
          (pw_or (pt_cmpR (op_neD (units64 hr)) (pv 1) (pv 0) (nomark _)) (pw_or (pt_not (pt_val (pe_call GA (hr.mono (by decide)) (by rfl) mA kA bA .nil passL (pa_cons (pv 3) pa_nil)))) (pw_or1 (pt_not (pt_val (pe_call GA (hr.mono (by decide)) (by rfl) mA kA bA .nil passL (pa_cons (pv 4) pa_nil)))))))))
        (pss_one (ps_ret pe_bl)) pss_nil)
      (pss_cons (ps_if (PW.pt (pw_or (pt_not (pt_val (pe_callB (cr_all rfl) (by rfl) T.all (by decide +kernel) (pa_cons (pe_lc (own := [("_law_pair", 5)]) (g := gName 5) (tt := tYes) rfl hN (pi_tup (pv 2)) (blkOk_by (N := NH) (sc := defScope sHold) (by decide +kernel)) (fun _ _ _ _ _ => pg_name (i := 5) hN rfl (Or.inl rfl)) (fun _ _ _ _ _ => pts_nil)
            (fun _ _ _ _ _ => pe_cmpR (op := .In) (show OpR _ (compareOp .In) (rInD K) from op_inD (units65 hr)) (pv 5) (pv 0) (by rfl))) pa_nil))))
          (pw_or1 (pt_not (pt_val (pe_callB (cr_all rfl) (by rfl) T.all (by decide +kernel) (pa_cons (pe_lc (own := [("_law_at", 6)]) (g := gName 6) (tt := tYes) rfl hN (pi_range1 rfl T.range (pa_cons (pe_op op_sub (pe_callB call_len_seq (by rfl) T.len PySem.boot_len (pa_cons (pv 2) pa_nil)) pe_int) pa_nil)) (blkOk_by (N := NH) (sc := defScope sHold) (by decide +kernel)) (fun _ _ _ _ _ => pg_name (i := 6) hN rfl (Or.inl rfl)) (fun _ _ _ _ _ => pts_nil)
            (fun _ _ _ _ _ => pe_cmpR (op := .Lt) (show OpR _ (compareOp .Lt) (rLtD K) from op_ltD (units64 hr)) (pe_ix (show IxR _ (rIxT K) from ix_tup) (pv 2) (pv 6) (fun _ _ => rfl)) (pe_ix (show IxR _ (rIxT K) from ix_tup) (pv 2) (pe_op op_add (pv 6) pe_int) (fun _ _ => rfl)) (by rfl))) pa_nil)))))))
        (pss_one (ps_ret pe_bl)) pss_nil)
      (pss_cons (ps_for passOwn rfl (pi_range1 rfl T.range (pa_cons pe_int pa_nil)) (pg_name (i := 6) hN rfl (Or.inr rfl))
        (pss_one (ps_if (pt_cmpR op_ne (pe_lenS (by rfl) T.len (by rfl) T.set (pe_lc (own := [("_law_pair", 5)]) (g := gName 5) (tt := tYes) rfl hN (pi_tup (pv 2)) (blkOk_by (N := NH) (sc := defScope sHold) (by decide +kernel)) (fun _ _ _ _ _ => pg_name (i := 5) hN rfl (Or.inl rfl)) (fun _ _ _ _ _ => pts_nil)
            (fun _ _ _ _ _ => pe_ix (show IxR _ (rIxT K) from ix_tup) (pv 5) (pv 6) (fun _ _ => rfl)))) (pe_callB call_len_seq (by rfl) T.len PySem.boot_len (pa_cons (pv 2) pa_nil)) (nomark _)) (pss_one (ps_ret pe_bl)) pss_nil)))
      (pss_cons (ps_if (pt_not (pt_val (pe_callB (cr_all rfl) (by rfl) T.all (by decide +kernel) (pa_cons (pe_lc (own := [("_law_pair", 5)]) (g := gName 5) (tt := tYes) rfl hN (pi_list (pv 0)) (blkOk_by (N := NH) (sc := defScope sHold) (by decide +kernel)) (fun _ _ _ _ _ => pg_name (i := 5) hN rfl (Or.inl rfl)) (fun _ _ _ _ _ => pts_nil)
            (fun _ _ _ _ _ => pe_or (pe_cmpR (op := .In) (show OpR _ (compareOp .In) (rIn K false) from op_in_seq) (pe_ix (show IxR _ (rIxT K) from ix_tup) (pv 5) pe_int (fun _ _ => rfl)) (pv 3) (by rfl)) (pe_one (pe_cmpR (op := .In) (show OpR _ (compareOp .In) (rIn K false) from op_in_seq) (pe_ix (show IxR _ (rIxT K) from ix_tup) (pv 5) pe_int (fun _ _ => rfl)) (pv 4) (by rfl))))) pa_nil))))
        (pss_one (ps_ret pe_bl)) pss_nil)
      (pss_one (ps_ret (pe_and (pe_cmpR op_eq (pe_op op_add (pe_callB call_len_seq (by rfl) T.len PySem.boot_len (pa_cons (pv 3) pa_nil)) (pe_callB call_len_seq (by rfl) T.len PySem.boot_len (pa_cons (pv 4) pa_nil))) (pe_callB call_len_seq (by rfl) T.len PySem.boot_len (pa_cons (pv 2) pa_nil)) (nomark _))
        (pe_one (pe_cmpR (op_eqD (units64 hr)) (pe_call GG hr (by rfl) mG kG bG .nil passL (pa_cons (pv 0) pa_nil)) (pv 2) (nomark _)))))))))))), ?_⟩
    obtain ⟨xs, gd, ty0⟩ := id fl
    refine ⟨_, rfl, d, xs, rfl, .inl (SqL.of gd), fun g ng => ?_⟩
    have s1 := same_upd (o := .lst xs) ng
    have hg1 : (upd H g (.lst xs)) g = some (.lst xs) := upd_same
    generalize upd H g (.lst xs) = H1 at s1 hg1 ⊢
    have ty1 := Tups.same ty0 s1
    refine ⟨_, rfl, g, xs, Z, rfl, SqL.of hg1, ty1, few, fun t ys O H2 s2 ht ty own mt => ?_⟩
    refine ⟨_, rfl, g, xs, Z, rfl, SqL.of (s2 _ _ hg1), Tups.same ty1 s2, few, fun r t1 t2 F R O2 H3 s3 hr3 h1 h2 nF nR cnt tch iF iR own2 mt2 => ?_⟩
    cases own2.det own
    refine ⟨r, _, rfl, SqT.of hr3, rfl, _, _, rfl, _, _, rfl, rfl, ?_⟩
    have sf := sec_few few
    have lenO := mt.len
    have S3 := s1.trans (s2.trans s3)
    have ht3 := s3 _ _ ht
    have ty3 := Tups.same ty s3
    have gd3 := S3 _ _ gd
    have hg3 := s3 _ _ (s2 _ _ hg1)
    have tyz3 := Tups.same ty0 S3
    have lenY : ys.length = (kept O).length := tups_len ty
    have lenW := kept_len mt
    have okF : ∀ x ∈ srtS F, PyData.strOk x = true := fun x hx => let ⟨s, h⟩ := iF x ((srtS_perm F).mem_iff.mp hx); (okz _ h).1
    have okR : ∀ x ∈ srtS R, PyData.strOk x = true := fun x hx => let ⟨s, h⟩ := iR x ((srtS_perm R).mem_iff.mp hx); (okz _ h).2
    have okW : OkZ (kept O) := fun p hp => okz p (kept_in mt hp)
    refine ⟨_, rfl, _, _, _, _, _, rfl, .ty _, .base (.tup ht3), kit_ty (r := true) (by decide +kernel), _, rfl, if_neg' rfl ?_⟩
    refine ⟨_, rfl, _, rfl, .list (pD Z), .list (pD Z), .lst (SqL.of hg3) (dp_tups tyz3), .lst (SqL.of gd3) (dp_tups tyz3), shp_pl okz, shp_pl okz, _, rfl, if_neg' (by rw [eqv_same (shp_pl okz)]; rfl) ?_⟩
    refine ⟨_, rfl, t1, srtS F, rfl, h1, by rw [srtS_len]; omega, srtE_srtS nF, okF, fun H4 s4 => ⟨_, rfl, if_neg' rfl ?_⟩⟩
    refine ⟨_, rfl, t2, srtS R, rfl, s4 _ _ h2, by rw [srtS_len]; omega, srtE_srtS nR, okR, fun H5 s5 => ⟨_, rfl, if_neg' rfl ?_⟩⟩
    have S45 := s4.trans s5
    have S5 := S3.trans S45
    have ht5 := S45 _ _ ht3
    have ty5 := Tups.same ty3 S45
    have gd5 := S45 _ _ gd3
    have tyz5 := Tups.same tyz3 S45
    have h15 := S45 _ _ h1
    have h25 := S45 _ _ h2
    clear S45 s5 s4 s3 s2 s1
    have itm : ∀ {i : Nat} {p : Pr}, (kept O)[i]? = some p → ∃ tp, ys[i]? = some (.ref tp) ∧ SqT K H5 tp [.str p.1, .str p.2] := fun {i p} h => by
      have lt : i < ys.length := by rw [lenY]; exact (List.getElem?_eq_some_iff.mp h).1
      obtain ⟨q, tp, hq, e, hs⟩ := tups_at ty5 (List.getElem?_eq_getElem lt)
      rw [h] at hq
      cases hq
      exact ⟨tp, by rw [List.getElem?_eq_getElem lt, e], hs⟩
    -- each kept pair is among the pairs
    refine ⟨_, rfl, t, rfl, ⟨_, SqT.of ht5⟩, fun D nD => ?_⟩
    refine walk_it (walk_tup (K := K) (a := t) (xs := ys)) (AllI H5 D) (all0 nD) (fun j G _ ai => SqT.of (ai.1 _ _ ht5)) (fun j x G G' hj ai ⟨e, hx⟩ => ?_) (fun G ai => ?_)
    · subst e
      obtain ⟨p, tp, hp, rfl, hs⟩ := tups_at ty5 hx
      have pin := kept_in mt (List.mem_of_getElem? hp)
      refine ⟨rfl, yes_go (iteT ⟨_, rfl, _, rfl, encT (PK p), pD Z, .tup (sqT_same hs ai.1) (dp_keys (PK p)), .lst (SqL.of (ai.1 _ _ gd5)) (dp_tups (Tups.same tyz5 ai.1)), shp_p (okz p pin), shp_pl okz, ?_⟩)⟩
      rw [any_mem pin (okz p pin)]
      obtain ⟨a1, a2⟩ := ai.step nD (Same.refl _)
      exact ⟨_, a1, rep_len (Nat.lt_of_lt_of_le (m := 64) (by omega) (by decide)), a2⟩
    refine ⟨D, _, rfl, SqL.of ai.2, _, rfl, if_neg' (by rw [rep_all]; rfl) ?_⟩
    have S6 := S5.trans ai.1
    have ht6 := ai.1 _ _ ht5
    have gd6 := ai.1 _ _ gd5
    have tyz6 := Tups.same tyz5 ai.1
    have ty6 := Tups.same ty5 ai.1
    have h16 := ai.1 _ _ h15
    have h26 := ai.1 _ _ h25
    have itm6 : ∀ {i : Nat} {p : Pr}, (kept O)[i]? = some p → ∃ tp, ys[i]? = some (.ref tp) ∧ SqT K G tp [.str p.1, .str p.2] := fun h => let ⟨tp, a, b⟩ := itm h; ⟨tp, a, sqT_same b ai.1⟩
    clear ai itm
    -- ascending
    refine ⟨_, rfl, t, _, rfl, .inr (SqT.of ht6), _, _, rfl, rfl, ((ys.length : Int) - 1), rfl, by omega, by omega, fun D2 nD2 => ?_⟩
    refine walk_it walk_range (AllI G D2) (all0 nD2) (fun _ _ _ _ => trivial) (fun j x G2 G' hj ai ⟨e, hx⟩ => ?_) (fun G2 ai => ?_)
    · subst e
      subst hx
      have l1 : j < (kept O).length := by omega
      have l2 : j + 1 < (kept O).length := by omega
      have hp : (kept O)[j]? = some (kept O)[j] := List.getElem?_eq_getElem l1
      have hq : (kept O)[j + 1]? = some (kept O)[j + 1] := List.getElem?_eq_getElem l2
      generalize (kept O)[j] = p at hp
      generalize (kept O)[j + 1] = q at hq
      obtain ⟨tp, ep, sp⟩ := itm6 hp
      obtain ⟨tq, eq, sq⟩ := itm6 hq
      have ht7 := ai.1 _ _ ht6
      refine ⟨rfl, yes_go (iteT ⟨_, rfl, _, rfl, t, ys, _, _, rfl, rfl, SqT.of ht7, at_of (j := j) (by omega) ep, _, rfl, _, rfl, _, _, rfl, rfl, t, ys, _, _, rfl, rfl, SqT.of ht7, at_of (j := j + 1) (by omega) eq, encT (PK p), encT (PK q), .tup (sqT_same sp ai.1) (dp_keys (PK p)), .tup (sqT_same sq ai.1) (dp_keys (PK q)), alike_PK p q, (fun z => nomatch z), Nat.le_trans (depthT _) (by decide), ?_⟩)⟩
      rw [kept_lt hp hq]
      obtain ⟨a1, a2⟩ := ai.step nD2 (Same.refl _)
      exact ⟨_, a1, rep_len (Nat.lt_of_lt_of_le (m := 64) (by omega) (by decide)), a2⟩
    refine ⟨D2, _, rfl, SqL.of ai.2, _, rfl, if_neg' (by rw [rep_all]; rfl) ?_⟩
    have S7 := S6.trans ai.1
    have ht7 := ai.1 _ _ ht6
    have gd7 := ai.1 _ _ gd6
    have tyz7 := Tups.same tyz6 ai.1
    have ty7 := Tups.same ty6 ai.1
    have h17 := ai.1 _ _ h16
    have h27 := ai.1 _ _ h26
    have itm7 : ∀ {i : Nat} {p : Pr}, (kept O)[i]? = some p → ∃ tp, ys[i]? = some (.ref tp) ∧ SqT K G2 tp [.str p.1, .str p.2] := fun h => let ⟨tp, a, b⟩ := itm6 h; ⟨tp, a, sqT_same b ai.1⟩
    clear ai itm6
    -- apart
    refine ⟨2, rfl, by decide, by decide, for_it walk_range (fun j σ G => (∃ v6, σ = [some (.ref d), some (.ref g), some (.ref t), some (.ref t1), some (.ref t2), none, v6]) ∧ Same G2 G) ⟨⟨_, rfl⟩, Same.refl _⟩ (fun _ _ _ _ _ => trivial) (fun j x σ G3 G' hj ⟨⟨v6, e⟩, sm⟩ ⟨e2, hx⟩ => ?_) (fun σ G3 ⟨⟨v6, e⟩, sm⟩ => ?_)⟩
    · subst e
      have e2 := e2.symm
      subst e2
      subst hx
      have ht8 := sm _ _ ht7
      obtain ⟨sel, selN, selA⟩ : ∃ sel : Pr → Str, ((kept O).map sel).Nodup ∧ ∀ p : Pr, atI [V.str p.1, V.str p.2] (0 + (j : Int)) = some (.str (sel p)) := by
        have hj : j < 2 := hj
        rcases (show j = 0 ∨ j = 1 by omega) with rfl | rfl
        · exact ⟨Prod.fst, kept_fst mt, fun _ => rfl⟩
        · exact ⟨Prod.snd, kept_snd mt, fun _ => rfl⟩
      refine ⟨_, rfl, t, rfl, ⟨_, SqT.of ht8⟩, fun D3 nD3 => ?_⟩
      refine walk_it (walk_tup (K := K) (a := t) (xs := ys)) (fun i G => Same G3 G ∧ G D3 = some (.lst ((((kept O).take i).map sel).map V.str))) ⟨same_upd nD3, upd_same⟩ (fun i G _ ⟨sm4, _⟩ => SqT.of (sm4 _ _ ht8)) (fun i x G4 G' hi ⟨sm4, hD⟩ ⟨e, hx⟩ => ?_) (fun G4 ⟨sm4, hD⟩ => ?_)
      · subst e
        have hp : (kept O)[i]? = some (kept O)[i] := List.getElem?_eq_getElem (by omega)
        generalize (kept O)[i] = p at hp
        obtain ⟨tp, ep, sp⟩ := itm7 hp
        rw [ep] at hx
        cases hx
        refine ⟨rfl, yes_go (iteT ⟨_, rfl, _, rfl, tp, _, _, _, rfl, rfl, sqT_same sp (sm.trans sm4), selA p, _, hD, ?_, same_put sm4 nD3, ?_⟩)⟩
        · rw [List.length_map, List.length_map, List.length_take]
          exact Nat.lt_of_le_of_lt (m := 64) (by omega) (by decide)
        · rw [upd_same, List.take_succ, hp, List.map_append, List.map_append]
          rfl
      rw [lenY, List.take_length] at hD
      have lm : ((kept O).map sel).length = (kept O).length := List.length_map _
      refine ⟨D3, (kept O).map sel, rfl, SqL.of hD, by omega, ?_⟩
      rw [cnt_nodup selN _ (Nat.le_refl _), lm]
      refine ⟨_, rfl, t, _, rfl, .inr (SqT.of (sm4 _ _ ht8)), rfl, _, rfl, ?_⟩
      rw [lenY]
      exact if_neg' (by rw [decide_eq_true rfl]; rfl) ⟨⟨_, rfl⟩, sm.trans sm4⟩
    subst e
    have S8 := S7.trans sm
    have ht8 := sm _ _ ht7
    have gd8 := sm _ _ gd7
    have tyz8 := Tups.same tyz7 sm
    have ty8 := Tups.same ty7 sm
    have h18 := sm _ _ h17
    have h28 := sm _ _ h27
    have lenX : xs.length = Z.length := tups_len ty0
    -- each pair is touched
    refine ⟨_, rfl, d, rfl, ⟨_, SqL.of gd8⟩, fun D3 nD3 => ?_⟩
    refine walk_it (walk_list (K := K) (a := d) (xs := xs)) (AllI G3 D3) (all0 nD3) (fun j G _ ai => SqL.of (ai.1 _ _ gd8)) (fun j x G4 G' hj ai ⟨e, hx⟩ => ?_) (fun G4 ai => ?_)
    · subst e
      obtain ⟨p, tp, hp, rfl, hs⟩ := tups_at tyz8 hx
      have pin := List.mem_of_getElem? hp
      have hs4 := sqT_same hs ai.1
      obtain ⟨a1, a2⟩ := ai.step nD3 (Same.refl _)
      refine ⟨rfl, yes_go (iteT ⟨_, rfl, tp, _, _, _, rfl, rfl, hs4, at_of (j := 0) rfl rfl, _, rfl, t1, _, rfl, .inr (SqT.of (ai.1 _ _ h18)), rfl, flat_strs _, _, rfl, ?_⟩)⟩
      have e1 : (if false = true then !inV (V.str p.1) ((srtS F).map V.str) else inV (V.str p.1) ((srtS F).map V.str)) = decide (p.1 ∈ srtS F) := by
        rw [if_neg Bool.false_ne_true]; exact inV_strs p.1 (srtS F)
      rw [e1]
      by_cases hf : p.1 ∈ srtS F
      · exact if_pos' (decide_eq_true hf) ⟨_, a1, rep_len (Nat.lt_of_lt_of_le (m := 64) (by omega) (by decide)), a2⟩
      · refine if_neg' (decide_eq_false hf) ⟨_, rfl, tp, _, _, _, rfl, rfl, hs4, at_of (j := 1) rfl rfl, _, rfl, t2, _, rfl, .inr (SqT.of (ai.1 _ _ h28)), rfl, flat_strs _, ?_⟩
        have e2 : (if false = true then !inV (V.str p.2) ((srtS R).map V.str) else inV (V.str p.2) ((srtS R).map V.str)) = true := by
          rw [if_neg Bool.false_ne_true]
          refine (inV_strs p.2 (srtS R)).trans (decide_eq_true ?_)
          rcases tch p.1 p.2 pin with z | z
          · exact absurd ((srtS_perm F).mem_iff.mpr z) hf
          · exact (srtS_perm R).mem_iff.mpr z
        rw [e2]
        exact ⟨_, a1, rep_len (Nat.lt_of_lt_of_le (m := 64) (by omega) (by decide)), a2⟩
    refine ⟨D3, _, rfl, SqL.of ai.2, _, rfl, if_neg' (by rw [rep_all]; rfl) ?_⟩
    have S9 := S8.trans ai.1
    have ht9 := ai.1 _ _ ht8
    have gd9 := ai.1 _ _ gd8
    have tyz9 := Tups.same tyz8 ai.1
    have ty9 := Tups.same ty8 ai.1
    have h19 := ai.1 _ _ h18
    have h29 := ai.1 _ _ h28
    -- as many, and told again
    refine ⟨_, rfl, t1, _, rfl, .inr (SqT.of h19), _, rfl, t2, _, rfl, .inr (SqT.of h29), _, _, rfl, rfl, _, rfl, t, _, rfl, .inr (SqT.of ht9), rfl, _, rfl, ?_⟩
    have c1 : (((srtS F).map V.str).length : Int) + (((srtS R).map V.str).length : Int) = (ys.length : Int) := by
      rw [List.length_map, List.length_map, srtS_len, srtS_len, lenY, lenW]
      omega
    refine if_pos' (decide_eq_true (congrArg V.int c1)) ?_
    refine ⟨_, rfl, d, xs, Z, rfl, SqL.of gd9, tyz9, few, fun t' ys' O' H9 s9 ht' ty' own' mt' => ?_⟩
    cases own'.det own
    refine ⟨_, rfl, .tuple (pD (kept O)), .tuple (pD (kept O)), .tup (SqT.of ht') (dp_tups ty'), .tup (SqT.of (s9 _ _ ht9)) (dp_tups ?_), shp_pt okW, shp_pt okW, ?_⟩
    · exact Tups.same ty9 s9
    · rw [eqv_same (shp_pt okW)]
      exact fin _ (S9.trans s9)
abbrev sLaw : Stmt := top 15
def spLaw (K : PySem.W.Frag) : Sp := fun vs H Q _ => ∃ (a : Addr) (ns : List Int), vs = [.ref a] ∧ SqL K H a (ns.map V.int) ∧ ∀ H', Same H H' → Q (.bl true) H'
theorem ok_law {f : Addr} {fd : FuncData} (F : Fun K "law" "law" sLaw f fd) (GS : Glb P w K mg base "_law_start" 1 ["_law_script"] (spStart K)) (GP : Glb P w K mg base "_law_pairs" 2 ["_law_state"] (spPairs K)) (GC : Glb P w K mg base "_law_chain" 2 ["_law_state"] (spPairs K)) (GH : Glb P w K mg base "_law_holds" 5 ["_law_pairs_here"] (spHold K)) : FnOk P w K mg base (L2.CX P w) 6 f fd ["_law_script"] (spLaw K) := by
  obtain ⟨fS, fdS, mS, kS, GS, bS⟩ := GS.ex
  obtain ⟨fP, fdP, mP, kP, GP, bP⟩ := GP.ex
  obtain ⟨fC, fdC, mC, kC, GC, bC⟩ := GC.ex
  obtain ⟨fH, fdH, mH, kH, GH, bH⟩ := GH.ex
  have sc : FnScope ["_law_script", "_law_state"] ["_law_script"] (defScope sLaw) := ⟨rfl, rfl, rfl, by decide +kernel, rfl, by decide +kernel, by decide +kernel⟩
  refine F.okX sc (fun vs H Q E h => ?_) (fun cdv A outer s H vs Q E hr h => ?_)
  · obtain ⟨a, ns, rfl, _⟩ := h
    rfl
  · obtain ⟨a, ns, rfl, hS, fin⟩ := h
    refine ⟨_, pss_cons (ps_set (i := 1) sc.nd rfl (Or.inl rfl) (pe_call GS (hr.mono (by decide)) (by rfl) mS kS bS .nil passL (pa_cons (pv 0) pa_nil)))
      (pss_one (ps_ret (pe_and (pe_call GH hr (by rfl) mH kH bH .nil passL (pa_cons (pe_call GP (hr.mono (by decide)) (by rfl) mP kP bP .nil passL (pa_cons (pv 1) pa_nil)) pa_nil))
        (pe_and (pe_call GH hr (by rfl) mH kH bH .nil passL (pa_cons (pe_call GC (hr.mono (by decide)) (by rfl) mC kC bC .nil passL (pa_cons (pv 1) pa_nil)) pa_nil))
          (pe_one (pe_call GH hr (by rfl) mH kH bH .nil passL (pa_cons (pe_lst pa_nil) pa_nil))))))), ?_⟩
    refine ⟨_, rfl, a, ns, rfl, hS, fun l ls H1 s1 st nl nls => ?_⟩
    have nm : ∀ {G : Hp}, SameX l H1 G → Same H G := fun sx b u e => sx b u (fun z => by rw [z, nl] at e; cases e) (s1 b u e)
    refine ⟨_, rfl, l, ls, rfl, st, fun d Z H2 sx st2 fl few okz => ?_⟩
    refine ⟨d, Z, rfl, fl, few, okz, fun H3 s3 => ⟨_, rfl, if_pos' rfl ?_⟩⟩
    refine ⟨_, rfl, l, ls, rfl, st2.same s3, fun d2 Z2 H4 sx4 st4 fl2 few2 okz2 => ?_⟩
    have sx5 := (sx.trans (SameX.of s3)).trans sx4
    refine ⟨d2, Z2, rfl, fl2, few2, okz2, fun H5 s5 => ⟨_, rfl, if_pos' rfl ?_⟩⟩
    refine ⟨by show 0 ≤ sizeLine; decide, fun q nq => ?_⟩
    have s6 := same_upd (o := .lst []) nq
    refine ⟨q, [], rfl, ⟨[], upd_same, .nil⟩, by decide, fun _ h => (nomatch h), fun H7 s7 => ?_⟩
    exact fin H7 ((nm sx5).trans (s5.trans (s6.trans s7)))
end
end R9
end

-- J5x
section
set_option Elab.async false
set_option linter.all false
set_option maxRecDepth 100000
set_option exponentiation.threshold 10000
namespace R9
open PySem L2 OwnOps OwnNe G1 EqDict SortStr SetStr DictList StX R6 GS SSE
/-- a def of the top -/
structure DefG (K : PySem.W.Frag) (x : Str) (st : Stmt) (f : Addr) : Prop where
  here : PySem.W.nsIn K mainGlobals x = some (some (.ref f))
  fn : ∃ fd, Fun K x x st f fd
theorem defG_mk {K : PySem.W.Frag} {x : Str} {st : Stmt} {f : Addr} {oc kV doc pm cdv ct : Value} {od an : Option Addr} {osl : Array (Option Value)} (a : PySem.W.nsIn K mainGlobals x = some (some (.ref f)))
    (l : K.lookup f = some ⟨oc, od, .func (PySem.W.fnOf x x (defArgs st) (defBody st) (defScope st) .none kV doc pm an cdv ct), osl⟩) (c : PySem.W.codeIn K cdv x = true) (k : PySem.W.keepIn K (.ref f) = true) : DefG K x st f := ⟨a, _, fun_mk l c k⟩
/-- a def of the class -/
structure DefM (K : PySem.W.Frag) (C : Addr) (x qual : Str) (st : Stmt) (f : Addr) : Prop where
  here : PySem.W.findIn K (.ref C) x = some (some (.ref f))
  is : PySem.W.isFn K (.ref f) = true
  kp : PySem.W.keepIn K (.ref f) = true
  fn : ∃ fd, Fun K x qual st f fd
theorem defM_mk {K : PySem.W.Frag} {C : Addr} {x qual : Str} {st : Stmt} {f : Addr} {oc kV doc pm cdv ct : Value} {od an : Option Addr} {osl : Array (Option Value)} (a : PySem.W.findIn K (.ref C) x = some (some (.ref f))) (i : PySem.W.isFn K (.ref f) = true)
    (l : K.lookup f = some ⟨oc, od, .func (PySem.W.fnOf x qual (defArgs st) (defBody st) (defScope st) .none kV doc pm an cdv ct), osl⟩) (c : PySem.W.codeIn K cdv qual = true) (k : PySem.W.keepIn K (.ref f) = true) : DefM K C x qual st f := ⟨a, i, k, _, fun_mk l c k⟩
section
variable {P : Program} {w : World} {K : PySem.W.Frag} {h base : Heap} {mg : Str → Option Value} {C : Addr}
theorem glb {x : Str} {st : Stmt} {f : Addr} {k : Nat} {ps : List Str} {sp : Sp} (X : K.In h) (G : h.Ns mainGlobals mg) (d : DefG K x st f) (ok : ∀ fd, Fun K x x st f fd → FnOk P w K mg base (L2.CX P w) k f fd ps sp)
    (b : ∀ fd, Fun K x x st f fd → L2.Binds K fd ps []) : Glb P w K mg base x k ps sp :=
  let ⟨fd, F⟩ := d.fn
  ⟨f, fd, PySem.W.mg_of X G d.here, F.kp, ok fd F, b fd F⟩
theorem dun {nm x qual : Str} {st : Stmt} {f : Addr} {k : Nat} {ps : List Str} {sp : Sp} (hn : nm = x) (d : DefM K C x qual st f) (ok : ∀ fd, Fun K x qual st f fd → FnOk P w K mg base (L2.CX P w) k f fd ps sp)
    (b : ∀ fd, Fun K x qual st f fd → L2.Binds K fd ps []) : Dun P w K mg base C nm k ps sp := by
  subst hn
  obtain ⟨fd, F⟩ := d.fn
  exact ⟨f, fd, d.here, d.is, d.kp, ok fd F, b fd F⟩
theorem kit_rt {T : String} {b : Bool} (m : PySem.W.kitMeta T = true) (e : PySem.W.subIn K (.ref C) (.type T) = some b) : PySem.W.kitOne K (.ref C) (.type T) = some b := by
  show (if (Value.ref C == Value.type T) = true then some true else if PySem.W.kitMeta T = true then PySem.W.subIn K (.ref C) (.type T) else none) = some b
  rw [if_neg (fun q => by cases beq_iff_eq.mp q), if_pos m, e]
theorem kit_tr {T : String} {b : Bool} (i : PySem.W.isClsIn K C = true) (t : PySem.W.typeIn K (.ref C) = some (.type "type")) (e : PySem.W.subIn K (.type T) (.ref C) = some b) : PySem.W.kitOne K (.type T) (.ref C) = some b := by
  have q : ((PySem.W.clsIn K C).isSome && PySem.W.typeIn K (.ref C) == some (.type "type")) = true := by
    rw [show (PySem.W.clsIn K C).isSome = true from i, t]
    rfl
  show (if (Value.type T == Value.ref C) = true then some true else if ((PySem.W.clsIn K C).isSome && PySem.W.typeIn K (.ref C) == some (.type "type")) = true then PySem.W.subIn K (.type T) (.ref C) else none) = some b
  rw [if_neg (fun q => by cases beq_iff_eq.mp q), if_pos q, e]
theorem kit_rr : PySem.W.kitOne K (.ref C) (.ref C) = some true := by
  show (if (Value.ref C == Value.ref C) = true then some true else _) = some true
  rw [if_pos (beq_self_eq_true _)]
end
theorem all_mk {l : PySem.W.OpenLaw} {w : World} {K : PySem.W.Frag} {h : Heap} {mg : Str → Option Value} {fa a0 a1 a2 a3 a4 a5 a6 a7 a8 a9 a10 a11 a12 a13 : Addr} (X : K.In h) (G : h.Ns mainGlobals mg) (hfa : mg "law" = some (.ref fa))
    (fg0 : DefG K "_path" sPath a0)
    (fg1 : DefG K "_enlarged" sEnl a1)
    (fg2 : DefG K "all_owners" sAll a2)
    (fg3 : DefG K "second_names" sSec a3)
    (fg4 : DefG K "touched" sTou a4)
    (fg5 : DefG K "greatest_pairs" sGP a5)
    (fg6 : DefG K "touching_set" sTS a6)
    (fg7 : DefG K "_law_start" sStart a7)
    (fg8 : DefG K "_law_draw" sDraw a8)
    (fg9 : DefG K "_law_pairs" sPairs a9)
    (fg10 : DefG K "_law_chain" sChain a10)
    (fg11 : DefG K "_law_ascends" sAsc a11)
    (fg12 : DefG K "_law_holds" sHold a12)
    (fg13 : DefG K "law" sLaw a13)
    (nisinstance : PySem.W.nsIn K mainGlobals "isinstance" = some none)
    (nstr : PySem.W.nsIn K mainGlobals "str" = some none)
    (nint : PySem.W.nsIn K mainGlobals "int" = some none)
    (ntuple : PySem.W.nsIn K mainGlobals "tuple" = some none)
    (nlist : PySem.W.nsIn K mainGlobals "list" = some none)
    (nlen : PySem.W.nsIn K mainGlobals "len" = some none)
    (nset : PySem.W.nsIn K mainGlobals "set" = some none)
    (nall : PySem.W.nsIn K mainGlobals "all" = some none)
    (nsorted : PySem.W.nsIn K mainGlobals "sorted" = some none)
    (nrange : PySem.W.nsIn K mainGlobals "range" = some none) :
    ∃ fd : FuncData, (∀ (s : Shared) (v : Value), BindsTo s fd ⟨[v], []⟩ [("_law_script", v)]) ∧ ∀ base : Heap, K.In base → base.Ns mainGlobals mg → FnOk l.prog w K mg base (L2.CX l.prog w) 6 fa fd ["_law_script"] (spLaw K) := by
  have e := hfa.symm.trans (PySem.W.mg_of X G fg13.here)
  cases e
  obtain ⟨fdL, FL⟩ := fg13.fn
  refine ⟨fdL, fun s v => ?_, fun base KX KG => ?_⟩
  · obtain ⟨oc, od, kV, doc, pm, an, cdv, ct, osl, rfl, _, _⟩ := FL.ex
    exact .of_eq rfl
  have T : Txt mg := { isi := PySem.W.mg_none_of KX KG nisinstance, str := PySem.W.mg_none_of KX KG nstr, int := PySem.W.mg_none_of KX KG nint, tuple := PySem.W.mg_none_of KX KG ntuple, list := PySem.W.mg_none_of KX KG nlist, len := PySem.W.mg_none_of KX KG nlen, set := PySem.W.mg_none_of KX KG nset, all := PySem.W.mg_none_of KX KG nall, sorted := PySem.W.mg_none_of KX KG nsorted, range := PySem.W.mg_none_of KX KG nrange }
  have N : Nms mg := { len := T.len, range := T.range, list := T.list, all := T.all }
  have g0 : Glb l.prog w K mg base "_path" 1 ["start", "second", "came", "through"] spPath := glb KX KG fg0 (fun fd F => ok_path F) (fun fd F => F.binds (ps := ["start", "second", "came", "through"]) fun _ _ _ _ _ _ us hl => match us, hl with | [_, _, _, _], _ => rfl)
  have g1 : Glb l.prog w K mg base "_enlarged" 2 ["owners", "seconds", "start"] spEnl := glb KX KG fg1 (fun fd F => ok_enl F g0) (fun fd F => F.binds (ps := ["owners", "seconds", "start"]) fun _ _ _ _ _ _ us hl => match us, hl with | [_, _, _], _ => rfl)
  have g2 : Glb l.prog w K mg base "all_owners" 3 ["seconds", "owners"] spAll := glb KX KG fg2 (fun fd F => ok_all F T g1) (fun fd F => F.binds (ps := ["seconds", "owners"]) fun _ _ _ _ _ _ us hl => match us, hl with | [_, _], _ => rfl)
  have g3 : Glb l.prog w K mg base "second_names" 1 ["pairs"] (spSec K) := glb KX KG fg3 (fun fd F => ok_sec F T) (fun fd F => F.binds (ps := ["pairs"]) fun _ _ _ _ _ _ us hl => match us, hl with | [_], _ => rfl)
  have g4 : Glb l.prog w K mg base "touched" 1 ["seconds", "owners"] spTou := glb KX KG fg4 (fun fd F => ok_tou F T) (fun fd F => F.binds (ps := ["seconds", "owners"]) fun _ _ _ _ _ _ us hl => match us, hl with | [_, _], _ => rfl)
  have g5 : Glb l.prog w K mg base "greatest_pairs" 4 ["pairs"] (spGP K) := glb KX KG fg5 (fun fd F => ok_GP F T g2 g3) (fun fd F => F.binds (ps := ["pairs"]) fun _ _ _ _ _ _ us hl => match us, hl with | [_], _ => rfl)
  have g6 : Glb l.prog w K mg base "touching_set" 4 ["pairs"] (spTS K) := glb KX KG fg6 (fun fd F => ok_TS F g2 g3 g4) (fun fd F => F.binds (ps := ["pairs"]) fun _ _ _ _ _ _ us hl => match us, hl with | [_], _ => rfl)
  have g7 : Glb l.prog w K mg base "_law_start" 1 ["_law_script"] (spStart K) := glb KX KG fg7 (fun fd F => ok_start F N) (fun fd F => F.binds (ps := ["_law_script"]) fun _ _ _ _ _ _ us hl => match us, hl with | [_], _ => rfl)
  have g8 : Glb l.prog w K mg base "_law_draw" 1 ["_law_state", "_law_many"] spDraw := glb KX KG fg8 (fun fd F => ok_draw F T.int N) (fun fd F => F.binds (ps := ["_law_state", "_law_many"]) fun _ _ _ _ _ _ us hl => match us, hl with | [_, _], _ => rfl)
  have g9 : Glb l.prog w K mg base "_law_pairs" 2 ["_law_state"] (spPairs K) := glb KX KG fg9 (fun fd F => ok_pairs F T g8) (fun fd F => F.binds (ps := ["_law_state"]) fun _ _ _ _ _ _ us hl => match us, hl with | [_], _ => rfl)
  have g10 : Glb l.prog w K mg base "_law_chain" 2 ["_law_state"] (spPairs K) := glb KX KG fg10 (fun fd F => ok_chain F T g8) (fun fd F => F.binds (ps := ["_law_state"]) fun _ _ _ _ _ _ us hl => match us, hl with | [_], _ => rfl)
  have g11 : Glb l.prog w K mg base "_law_ascends" 1 ["_law_names"] spAsc := glb KX KG fg11 (fun fd F => ok_asc F T) (fun fd F => F.binds (ps := ["_law_names"]) fun _ _ _ _ _ _ us hl => match us, hl with | [_], _ => rfl)
  have g12 : Glb l.prog w K mg base "_law_holds" 5 ["_law_pairs_here"] (spHold K) := glb KX KG fg12 (fun fd F => ok_hold F T g5 g6 g11) (fun fd F => F.binds (ps := ["_law_pairs_here"]) fun _ _ _ _ _ _ us hl => match us, hl with | [_], _ => rfl)
  exact ok_law FL g7 g9 g10 g12
theorem walk {l : PySem.W.OpenLaw} {q : Program} {loose : List Str} {XP : (Str → Option Value) → Heap → Prop} {YP : World → Heap → Prop} {d : DefRec} {K : Params → PySem.W.Frag} (hn : l.most = some 63) (hdf : d.params.defaults = [])
    (hY : ∀ (w : World) (h : Heap), YP w h → (K w.params).In h)
    (F : ∀ (w : World) (mg : Str → Option Value) (fa : Addr) (h : Heap), (K w.params).In h → h.Ns mainGlobals mg → mg d.name = some (.ref fa) →
      ∃ fd : FuncData, (∀ (s : Shared) (u : Value), BindsTo s fd ⟨[u], []⟩ [("_law_script", u)]) ∧ ∀ base : Heap, (K w.params).In base → base.Ns mainGlobals mg → FnOk l.prog w (K w.params) mg base (L2.CX l.prog w) 6 fa fd ["_law_script"] (spLaw (K w.params))) :
    PySem.W.WalkO q loose XP YP l.row.toRowW d [] (fun f vs => PySem.call f vs) :=
  L2.walk_of (n := 63) (k := 6) (x := "_law_script") (CX := fun w => L2.CX l.prog w) (sp := fun w => spLaw (K w.params)) hn (by decide) hdf ⟨rfl, by decide, by decide⟩ hY F (fun _ _ a ns hl _ hS => ⟨a, ns, rfl, hS, fun _ _ => rfl⟩) fun w H s e s' z => by
    obtain ⟨_, _, _, _, _, _, _, _, _, _, _, _, z⟩ := z
    exact z
end R9
end

-- J5y
section
set_option Elab.async false
set_option linter.all false
open PySem PySem.W PyProof.Rows
set_option maxRecDepth 100000 in
set_option maxHeartbeats 0 in
theorem PySem.Challenge.cw_wishedwires_k52_whole_greatest_pairs_holds : PySem.Challenge.rw_wishedwires_k52_whole_greatest_pairs.Holds := by
  w_on; o_law; k_head; (case hw => w_witness2)
  k_fill
  refine R9.walk (l := PySem.Challenge.rw_wishedwires_k52_whole_greatest_pairs) rfl rfl (fun w h Y => PySem.W.kIn_of Y) ?F
  case F =>
    intro w mg fa h KX G hmg
    refine' R9.all_mk KX G hmg ?fg0 ?fg1 ?fg2 ?fg3 ?fg4 ?fg5 ?fg6 ?fg7 ?fg8 ?fg9 ?fg10 ?fg11 ?fg12 ?fg13 ?nisinstance ?nstr ?nint ?ntuple ?nlist ?nlen ?nset ?nall ?nsorted ?nrange
    case fg0 => (refine' R9.defG_mk ?a ?l ?c ?k); (case a => k_is); (case l => k_is); (case c => k_is); (case k => k_is)
    case fg1 => (refine' R9.defG_mk ?a ?l ?c ?k); (case a => k_is); (case l => k_is); (case c => k_is); (case k => k_is)
    case fg2 => (refine' R9.defG_mk ?a ?l ?c ?k); (case a => k_is); (case l => k_is); (case c => k_is); (case k => k_is)
    case fg3 => (refine' R9.defG_mk ?a ?l ?c ?k); (case a => k_is); (case l => k_is); (case c => k_is); (case k => k_is)
    case fg4 => (refine' R9.defG_mk ?a ?l ?c ?k); (case a => k_is); (case l => k_is); (case c => k_is); (case k => k_is)
    case fg5 => (refine' R9.defG_mk ?a ?l ?c ?k); (case a => k_is); (case l => k_is); (case c => k_is); (case k => k_is)
    case fg6 => (refine' R9.defG_mk ?a ?l ?c ?k); (case a => k_is); (case l => k_is); (case c => k_is); (case k => k_is)
    case fg7 => (refine' R9.defG_mk ?a ?l ?c ?k); (case a => k_is); (case l => k_is); (case c => k_is); (case k => k_is)
    case fg8 => (refine' R9.defG_mk ?a ?l ?c ?k); (case a => k_is); (case l => k_is); (case c => k_is); (case k => k_is)
    case fg9 => (refine' R9.defG_mk ?a ?l ?c ?k); (case a => k_is); (case l => k_is); (case c => k_is); (case k => k_is)
    case fg10 => (refine' R9.defG_mk ?a ?l ?c ?k); (case a => k_is); (case l => k_is); (case c => k_is); (case k => k_is)
    case fg11 => (refine' R9.defG_mk ?a ?l ?c ?k); (case a => k_is); (case l => k_is); (case c => k_is); (case k => k_is)
    case fg12 => (refine' R9.defG_mk ?a ?l ?c ?k); (case a => k_is); (case l => k_is); (case c => k_is); (case k => k_is)
    case fg13 => (refine' R9.defG_mk ?a ?l ?c ?k); (case a => k_is); (case l => k_is); (case c => k_is); (case k => k_is)
    case nisinstance => k_is
    case nstr => k_is
    case nint => k_is
    case ntuple => k_is
    case nlist => k_is
    case nlen => k_is
    case nset => k_is
    case nall => k_is
    case nsorted => k_is
    case nrange => k_is
end
