import PyProof.Rows.All
import Wide.All
import OpenK.AllK
import Wide.FinOn
import HandS.ForExc
import KE.KOpsOwn
import KE.KCallOwn
import HandS.OwnEq
import KE.KExcInit
import HandS.ExcOwn
import HandS.TryMany
import PyProof.NeKinds
import HandS.ExcValue
import HandS.IsInst
import KE.KExcIs
import HandS.Comp
import HandS.DictComp
import HandS.ListItems
import HandS.Strs
import HandS.Zip
import PyProof.TupleIter
import PyProof.WalksMore
import KE.KSuper
import HandS.Star
import HandS.Nested
import HandS.ForMost
import HandS.Wide
import HandS.Defaults
import HandS.FStr
import HandS.Flow
import HandS.StrMore
import HandS.MapJoin
import HandS.Head0
import HandS.Head1
import HandS.Head2
import HandS.HeadHook1
import HandS.HeadHook2
import HandS.Words
import HandS.Walk
import HandS.Conv
import HandS.TupAny
import HandS.MethStar
import HandS.Iter
import KE.GoesEnum
import HandS.Property
import KE.KEqSeq
import HandS.RaiseMore
import HandS.GenList
import HandS.GenCall
import PyProof.PlainList
import HandS.Style
import KE.GoesZip
import KE.GoesMore
import KE.KTurns
import PySem.Challenge.RW_wishedwires_k04_kinds_described
-- OwnOps
section
set_option Elab.async false
set_option linter.all false
set_option maxRecDepth 100000
/-! Operators of own classes, as rules over values: by this text's own hand. -/
namespace OwnOps
open PySem L2

section
variable {X : Cx} {pins : List (Addr × Obj)} {σ : St} {H : Hp} {s : Shared} {a b C dx dy g : Addr} {fs fs' : List (Str × V)}

theorem inst_at (I : Inv X pins σ H s) (e : H a = some (.ins C dx fs)) : ∃ od, PySem.W.InstAt s.heap a (PySem.W.instObj C dx) C (some od) := by
  obtain ⟨mA, O, _⟩ := ins_get I.hok e
  obtain ⟨od, J, _⟩ := O.look
  exact ⟨od, J⟩

theorem back_of {Q : Value → Shared → Prop} {s' : Shared} {v : V} {u : Value} (r : RelV v u) (q : Q u s') : PySem.W.CmpBack Q u s' := by
  cases v with
  | non => cases (show u = Value.none from r); exact q
  | bl b => cases (show u = Value.bool b from r); exact q
  | int i => obtain ⟨t, rfl⟩ := (show ∃ t, u = Value.int i t from r); exact q
  | str y => obtain ⟨t, rfl⟩ := (show ∃ t, u = Value.str y t from r); exact q
  | byt y => obtain ⟨t, rfl⟩ := (show ∃ t, u = Value.bytes y t from r); exact q
  | flt y => obtain ⟨t, rfl⟩ := (show ∃ t, u = Value.float y t from r); exact q
  | ref c => cases (show u = Value.ref c from r); exact q
  | ty n => cases (show u = Value.type n from r); exact q

variable {CX : CXT} {k : Nat} {fd : FuncData} {ps : List Str} {sp : Sp} {E : XK} {A : Around}

/-- a def's call wherever the builtins around it stand -/
theorem run_any {Q : VK} {us : List Value} {vs : List V} (F : FnOk X.prog X.w X.K X.mg X.base CX k g fd ps sp) (hr : Room k A) (e0 : Env0 X.prog X.w X.K X.mg X.base A X.stack s H)
    (hb : Binds X.K fd ps []) (hx : Passes CX X E) (I : Inv X pins σ H s) (r : Vals vs us) (h : sp vs H Q E) :
    wpAny (model X.prog X.w) A (call (.ref g) us) (EP X pins σ Q) X.xe s := by
  have hl : (us ++ []).length = ps.length := by rw [List.append_nil, ← r.length]; exact F.len _ _ _ _ h
  have hb' := hb s us I.kIn hl
  rw [List.append_nil] at hb'
  refine wpAny_call (codeAny_mono (F.run A X.stack s H ⟨us, []⟩ us vs Q E hr e0 hb' r h) fun res s' hq => ?_)
  cases res with
  | error e => exact hx pins σ H s e s' I hq
  | ok fl =>
    cases fl with
    | ret u => exact I.after hq
    | next => exact False.elim hq
    | brk => exact False.elim hq
    | cont => exact False.elim hq
end

/-- what an own class says of a two-place operator: its def, of this class -/
structure Op2 (K : PySem.W.Frag) (C g : Addr) (nm : String) : Prop where
  at_ : PySem.W.findIn K (.ref C) (PySem.dunder nm) = some (some (.ref g))
  rf : ∃ rc, PySem.W.findIn K (.ref C) (PySem.dunderR nm) = some rc ∧ (rc = none ∨ ∃ q : Addr, rc = some (.ref q))
  fn : PySem.W.isFn K (.ref g) = true
  first : PySem.W.selfFirst K C = true
/-- what is known of a built-in type beside the class at C, for the operator -/
structure Ty2 (K : PySem.W.Frag) (C : Addr) (nm T : String) : Prop where
  lf : ∃ fo, PySem.W.findIn K (.type T) (PySem.dunder nm) = some fo
  rt : ∃ ro, PySem.W.findIn K (.type T) (PySem.dunderR nm) = some ro
  sub : PySem.W.subIn K (.type T) (.ref C) = some false

/-- the reading of x op y by x's own def -/
def rOwn2 (C : Addr) (R : V → Hp → Prop) (sp : Sp) (E : XK) : R2 := fun x y H Q => ∃ a dx fs, x = .ref a ∧ H a = some (.ins C dx fs) ∧ R y H ∧ sp [x, y] H Q E
def RIns (C : Addr) : V → Hp → Prop := fun y H => ∃ b dy fs, y = .ref b ∧ H b = some (.ins C dy fs)
def RInt : V → Hp → Prop := fun y _ => ∃ i, y = .int i

section
variable {X : Cx} {CX : CXT} {C g : Addr} {k : Nat} {fd : FuncData} {ps : List Str} {sp : Sp} {E : XK} {op : Operator} {T : String}

/-- x op y, both of the class at C -/
theorem op_ins (O : Op2 X.K C g op.info.2) (F : FnOk X.prog X.w X.K X.mg X.base CX k g fd ps sp) (hr : Room k X.A) (hb : Binds X.K fd ps []) (hx : Passes CX X E) :
    OpR X (binaryOp op) (rOwn2 C (RIns C) sp E) := by
  intro pins s σ H x y v u Q I rx ry h
  obtain ⟨a, dx, fs, rfl, ha, ⟨b, dy, fs', rfl, hb'⟩, q⟩ := h
  cases (show v = Value.ref a from rx)
  cases (show u = Value.ref b from ry)
  obtain ⟨od, J⟩ := inst_at I ha
  obtain ⟨od', J'⟩ := inst_at I hb'
  obtain ⟨m, hF⟩ := I.fr
  refine PySem.W.binop_K hF I.ok.mod.kin J J'.type O.first O.at_ O.fn ?_
  refine wpAny_mono (run_any (us := [.ref a, .ref b]) (vs := [.ref a, .ref b]) F hr I.env0 hb hx I (.cons rfl (.cons rfl .nil)) q) (fun w s' z => ?_) fun _ _ e => e
  obtain ⟨z', H', I', rz, qz⟩ := id z
  exact back_of rz z

/-- x op y, y of a built-in type that tells its type at once -/
theorem op_val (O : Op2 X.K C g op.info.2) (Y : Ty2 X.K C op.info.2 T) (F : FnOk X.prog X.w X.K X.mg X.base CX k g fd ps sp) (hr : Room k X.A) (hb : Binds X.K fd ps []) (hx : Passes CX X E)
    {R : V → Hp → Prop} (hR : ∀ {y : V} {H : Hp} {u : Value}, R y H → RelV y u → typeOf u = pure (.type T)) :
    OpR X (binaryOp op) (rOwn2 C R sp E) := by
  intro pins s σ H x y v u Q I rx ry h
  obtain ⟨a, dx, fs, rfl, ha, hy, q⟩ := h
  cases (show v = Value.ref a from rx)
  obtain ⟨od, J⟩ := inst_at I ha
  obtain ⟨m, hF⟩ := I.fr
  obtain ⟨fo, hfo⟩ := Y.lf
  obtain ⟨ro, hro⟩ := Y.rt
  obtain ⟨rc, hrc, hp⟩ := O.rf
  refine PySem.W.ksp_binT hF I.ok.mod.kin J (hR hy ry) O.first O.at_ O.fn hrc hp hfo hro Y.sub ?_
  refine wpAny_mono (run_any (us := [.ref a, u]) (vs := [.ref a, y]) F hr I.env0 hb hx I (.cons rfl (.cons ry .nil)) q) (fun w s' z => ?_) fun _ _ e => e
  obtain ⟨z', H', I', rz, qz⟩ := id z
  exact back_of rz z
end
end OwnOps
end

-- OwnOps2
section
set_option Elab.async false
set_option linter.all false
set_option maxRecDepth 100000
namespace OwnOps
open PySem L2

section
variable {prog : Program} {w : World} {A : Around} {E : Value → Shared → Prop} {s : Shared} {K : PySem.W.Frag} {y C f g : Addr} {oy : Obj} {od : Option Obj} {u : Value} {T : String}

/-- u op y by y's reflected def: u's own type has no slot for it, or declines -/
theorem refl_K {op : Operator} {left : Bool} {Q : Value → Shared → Prop} (Y : K.In s.heap) (I : PySem.W.InstAt s.heap y oy C od)
    (ht : PySem.W.Looks (model prog w) s.heap (typeOf u) (.type T)) (hc : PySem.W.selfFirst K C = true)
    (hs : PySem.W.findIn K (.ref C) (PySem.dunder op.info.2) = some (some (.ref f))) (hr : PySem.W.findIn K (.ref C) (PySem.dunderR op.info.2) = some (some (.ref g)))
    (hg : PySem.W.isFn K (.ref g) = true) (hl : PySem.W.Looks (model prog w) s.heap (fillsNumberSlot (.type T) op.info.2) left)
    (hsub : PySem.W.subIn K (.ref C) (.type T) = some false)
    (hd : left = true → ∀ {Q : Option Value → Shared → Prop}, Q none s → wpAny (model prog w) A (tryMethod u (PySem.dunder op.info.2) (.ref y)) Q E s)
    (h : wpAny (model prog w) A (call (.ref g) [.ref y, u]) (PySem.W.CmpBack Q) E s) : wpAny (model prog w) A (binaryOp op u (.ref y)) Q E s := by
  obtain ⟨cd, rest, hcd, hm⟩ := PySem.W.ksp_first hc
  rcases hi : op.info with ⟨sym, nm⟩
  rw [hi] at hs hr hl hd
  dsimp only at hs hr hl hd
  have one := PySem.W.ksp_try Y I hr hg h
  obtain ⟨hh, gg, d, tt, os⟩ := s
  have L1 : PySem.W.Looks (model prog w) hh (typeOf (.ref y)) (.ref C) := I.type
  have L3 : PySem.W.Looks (model prog w) hh (fillsNumberSlot (.ref C) nm) true := PySem.W.fills_K Y hcd hm hs
  have L5 : PySem.W.Looks (model prog w) hh (isSubtype (.ref C) (.type T)) false := PySem.W.looks_subIn Y hsub
  have L7 : PySem.W.Looks (model prog w) hh (numberSlotInPython (.type T) nm) false := PySem.W.Looks.of_pure rfl
  have hne : (Value.type T == Value.ref C) = false := Bool.eq_false_iff.mpr fun q => by cases beq_iff_eq.mp q
  simp only [binaryOp, hi]
  refine wpAny_holding (wpAny_bind ?_)
  unfold binaryOp1
  refine wpAny_bind (ht.at (wpAny_bind (L1.at (wpAny_bind (hl.at ?_)))))
  simp only [hne, Bool.false_eq_true, if_false]
  cases left with
  | false =>
    ksp_lk
    refine wpAny_mono one (fun r s' hr' => ?_) fun _ _ e => e
    obtain ⟨v, rfl, hq⟩ := hr'
    ksp_lk
    exact hq
  | true =>
    ksp_lk
    refine hd rfl ?_
    ksp_lk
    refine wpAny_mono one (fun r s' hr' => ?_) fun _ _ e => e
    obtain ⟨v, rfl, hq⟩ := hr'
    ksp_lk
    exact hq
end
end OwnOps
end

-- OwnOps3
section
set_option Elab.async false
set_option linter.all false
set_option maxRecDepth 100000
namespace OwnOps
open PySem L2

section
variable {prog : Program} {w : World} {A : Around} {E : Value → Shared → Prop} {s : Shared} {K : PySem.W.Frag} {y C f g : Addr} {oy : Obj} {od : Option Obj} {n : Int} {t : Tok}
open MeetsSeq MeetsSeq2 MeetsSeq3 SeqRoads2 AutoSeq1
theorem int_call_add {Q : Value → Shared → Prop} (hy : s.heap.get? y = some oy) (hp : oy.data = .plain) (h : Q .notImplemented s) :
    wpAny (model prog w) A (call (.builtin "int.__add__") [.int n t, .ref y]) Q E s := by
  refine GQ.call_here F.slot_int_add (typeIs_int s n t) F.entry_int_add (F.args_int_add_2 _ _) ?_
  obtain ⟨c, dd, dt, sl⟩ := oy
  cases hp
  obtain ⟨hh, gg, d, tt, os⟩ := s
  wp_walk using wpAny_loadPart' hy
  exact h
theorem int_call_sub {Q : Value → Shared → Prop} (hy : s.heap.get? y = some oy) (hp : oy.data = .plain) (h : Q .notImplemented s) :
    wpAny (model prog w) A (call (.builtin "int.__sub__") [.int n t, .ref y]) Q E s := by
  refine GQ.call_here F.slot_int_sub (typeIs_int s n t) F.entry_int_sub (F.args_int_sub_2 _ _) ?_
  obtain ⟨c, dd, dt, sl⟩ := oy
  cases hp
  obtain ⟨hh, gg, d, tt, os⟩ := s
  wp_walk using wpAny_loadPart' hy
  exact h
theorem int_call_mul {Q : Value → Shared → Prop} (hy : s.heap.get? y = some oy) (hp : oy.data = .plain) (h : Q .notImplemented s) :
    wpAny (model prog w) A (call (.builtin "int.__mul__") [.int n t, .ref y]) Q E s := by
  refine GQ.call_here F.slot_int_mul (typeIs_int s n t) F.entry_int_mul (F.args_int_mul_2 _ _) ?_
  obtain ⟨c, dd, dt, sl⟩ := oy
  cases hp
  obtain ⟨hh, gg, d, tt, os⟩ := s
  wp_walk using wpAny_loadPart' hy
  exact h
theorem bool_call_mul {k : Bool} {Q : Value → Shared → Prop} (hy : s.heap.get? y = some oy) (hp : oy.data = .plain) (h : Q .notImplemented s) :
    wpAny (model prog w) A (call (.builtin "int.__mul__") [.bool k, .ref y]) Q E s := by
  refine GQ.call_here F.slot_bool_mul (typeIs_bool s k) F.entry_int_mul (F.args_int_mul_2 _ _) ?_
  obtain ⟨c, dd, dt, sl⟩ := oy
  cases hp
  obtain ⟨hh, gg, d, tt, os⟩ := s
  wp_walk using wpAny_loadPart' hy
  exact h
/-- how an int meets an instance of no built-in kind -/
theorem int_cmp_eq {Q : Value → Shared → Prop} (hy : s.heap.get? y = some oy) (hp : oy.data = .plain) (h : Q .notImplemented s) :
    wpAny (model prog w) A (call (.builtin "int.__eq__") [.int n t, .ref y]) Q E s := by
  refine GQ.call_here F.slot_int_eq (typeIs_int s n t) F.entry_int_eq (F.args_int_eq_2 _ _) ?_
  obtain ⟨c, dd, dt, sl⟩ := oy
  cases hp
  obtain ⟨hh, gg, d, tt, os⟩ := s
  wp_walk using wpAny_loadPart' hy
  exact h
theorem int_cmp_ne {Q : Value → Shared → Prop} (hy : s.heap.get? y = some oy) (hp : oy.data = .plain) (h : Q .notImplemented s) :
    wpAny (model prog w) A (call (.builtin "int.__ne__") [.int n t, .ref y]) Q E s := by
  refine GQ.call_here F.slot_int_ne (typeIs_int s n t) F.entry_int_ne (F.args_int_ne_2 _ _) ?_
  obtain ⟨c, dd, dt, sl⟩ := oy
  cases hp
  obtain ⟨hh, gg, d, tt, os⟩ := s
  wp_walk using wpAny_loadPart' hy
  exact h
theorem int_cmp_lt {Q : Value → Shared → Prop} (hy : s.heap.get? y = some oy) (hp : oy.data = .plain) (h : Q .notImplemented s) :
    wpAny (model prog w) A (call (.builtin "int.__lt__") [.int n t, .ref y]) Q E s := by
  refine GQ.call_here F.slot_int_lt (typeIs_int s n t) F.entry_int_lt (F.args_int_lt_2 _ _) ?_
  obtain ⟨c, dd, dt, sl⟩ := oy
  cases hp
  obtain ⟨hh, gg, d, tt, os⟩ := s
  wp_walk using wpAny_loadPart' hy
  exact h
theorem int_cmp_le {Q : Value → Shared → Prop} (hy : s.heap.get? y = some oy) (hp : oy.data = .plain) (h : Q .notImplemented s) :
    wpAny (model prog w) A (call (.builtin "int.__le__") [.int n t, .ref y]) Q E s := by
  refine GQ.call_here F.slot_int_le (typeIs_int s n t) F.entry_int_le (F.args_int_le_2 _ _) ?_
  obtain ⟨c, dd, dt, sl⟩ := oy
  cases hp
  obtain ⟨hh, gg, d, tt, os⟩ := s
  wp_walk using wpAny_loadPart' hy
  exact h
theorem int_cmp_gt {Q : Value → Shared → Prop} (hy : s.heap.get? y = some oy) (hp : oy.data = .plain) (h : Q .notImplemented s) :
    wpAny (model prog w) A (call (.builtin "int.__gt__") [.int n t, .ref y]) Q E s := by
  refine GQ.call_here F.slot_int_gt (typeIs_int s n t) F.entry_int_gt (F.args_int_gt_2 _ _) ?_
  obtain ⟨c, dd, dt, sl⟩ := oy
  cases hp
  obtain ⟨hh, gg, d, tt, os⟩ := s
  wp_walk using wpAny_loadPart' hy
  exact h
theorem int_cmp_ge {Q : Value → Shared → Prop} (hy : s.heap.get? y = some oy) (hp : oy.data = .plain) (h : Q .notImplemented s) :
    wpAny (model prog w) A (call (.builtin "int.__ge__") [.int n t, .ref y]) Q E s := by
  refine GQ.call_here F.slot_int_ge (typeIs_int s n t) F.entry_int_ge (F.args_int_ge_2 _ _) ?_
  obtain ⟨c, dd, dt, sl⟩ := oy
  cases hp
  obtain ⟨hh, gg, d, tt, os⟩ := s
  wp_walk using wpAny_loadPart' hy
  exact h
end
/-- int op instance, declined -/
def IntDec (op : CmpOp) : Prop := ∀ {prog : Program} {w : World} {A : Around} {E : Value → Shared → Prop} {s : Shared} {y : Addr} {oy : Obj} {n : Int} {t : Tok} {Q : Option Value → Shared → Prop}, s.heap.get? y = some oy → oy.data = .plain → Q none s →
  wpAny (model prog w) A (tryCompare (.int n t) (cmpInfo op).2.1 (.ref y)) Q E s
theorem dec_eq : IntDec .Eq := fun hy hp h => wpAny_tryCompare_declines (typeIs_int _ _ _) F.slot_int_eq (int_cmp_eq hy hp ⟨rfl, h⟩)
theorem dec_ne : IntDec .NotEq := fun hy hp h => wpAny_tryCompare_declines (typeIs_int _ _ _) F.slot_int_ne (int_cmp_ne hy hp ⟨rfl, h⟩)
theorem dec_lt : IntDec .Lt := fun hy hp h => wpAny_tryCompare_declines (typeIs_int _ _ _) F.slot_int_lt (int_cmp_lt hy hp ⟨rfl, h⟩)
theorem dec_le : IntDec .LtE := fun hy hp h => wpAny_tryCompare_declines (typeIs_int _ _ _) F.slot_int_le (int_cmp_le hy hp ⟨rfl, h⟩)
theorem dec_gt : IntDec .Gt := fun hy hp h => wpAny_tryCompare_declines (typeIs_int _ _ _) F.slot_int_gt (int_cmp_gt hy hp ⟨rfl, h⟩)
theorem dec_ge : IntDec .GtE := fun hy hp h => wpAny_tryCompare_declines (typeIs_int _ _ _) F.slot_int_ge (int_cmp_ge hy hp ⟨rfl, h⟩)
def IntDecB (op : Operator) : Prop := ∀ {prog : Program} {w : World} {A : Around} {E : Value → Shared → Prop} {s : Shared} {y : Addr} {oy : Obj} {n : Int} {t : Tok} {Q : Option Value → Shared → Prop}, s.heap.get? y = some oy → oy.data = .plain → Q none s →
  wpAny (model prog w) A (tryMethod (.int n t) (PySem.dunder op.info.2) (.ref y)) Q E s
theorem dec_add : IntDecB .Add := by
  intro prog w A E s y oy n t Q hy hp h
  show wpAny (model prog w) A (tryMethod (.int n t) (PySem.dunder "add") (.ref y)) Q E s
  have hc : wpAny (model prog w) A (call (.builtin "int.__add__") [.int n t, .ref y]) (fun v s' => v = .notImplemented ∧ Q none s') E s := int_call_add hy hp ⟨rfl, h⟩
  exact wpAny_tryMethod_declines (name := PySem.dunder "add") (id := "int.__add__") (typeIs_int s n t) F.slot_int_add hc
theorem dec_sub : IntDecB .Sub := by
  intro prog w A E s y oy n t Q hy hp h
  show wpAny (model prog w) A (tryMethod (.int n t) (PySem.dunder "sub") (.ref y)) Q E s
  have hc : wpAny (model prog w) A (call (.builtin "int.__sub__") [.int n t, .ref y]) (fun v s' => v = .notImplemented ∧ Q none s') E s := int_call_sub hy hp ⟨rfl, h⟩
  exact wpAny_tryMethod_declines (name := PySem.dunder "sub") (id := "int.__sub__") (typeIs_int s n t) F.slot_int_sub hc
theorem dec_mul : IntDecB .Mult := by
  intro prog w A E s y oy n t Q hy hp h
  show wpAny (model prog w) A (tryMethod (.int n t) (PySem.dunder "mul") (.ref y)) Q E s
  have hc : wpAny (model prog w) A (call (.builtin "int.__mul__") [.int n t, .ref y]) (fun v s' => v = .notImplemented ∧ Q none s') E s := int_call_mul hy hp ⟨rfl, h⟩
  exact wpAny_tryMethod_declines (name := PySem.dunder "mul") (id := "int.__mul__") (typeIs_int s n t) F.slot_int_mul hc

section
variable {prog : Program} {w : World} {A : Around} {E : Value → Shared → Prop} {s : Shared} {K : PySem.W.Frag} {y C f g : Addr} {oy : Obj} {od : Option Obj} {n : Int} {t : Tok}
/-- n op y by y's def for the comparison turned round -/
theorem cmp_refl {op : CmpOp} {Q : Value → Shared → Prop} (hu : A.units < cLine) (Y : K.In s.heap) (I : PySem.W.InstAt s.heap y oy C od) (hp : oy.data = .plain) (dec : IntDec op)
    (hsub : PySem.W.subIn K (.ref C) (.type "int") = some false) (hr : PySem.W.findIn K (.ref C) (cmpInfo op).2.2 = some (some (.ref g))) (hg : PySem.W.isFn K (.ref g) = true)
    (h : wpAny (model prog w) A (call (.ref g) [.ref y, .int n t]) (PySem.W.CmpBack Q) E s) : wpAny (model prog w) A (richCompare op (.int n t) (.ref y)) Q E s := by
  have one : wpAny (model prog w) A (tryCompare (.ref y) (cmpInfo op).2.2 (.int n t)) (fun r s' => ∃ v, r = some v ∧ Q v s') E s := by
    unfold tryCompare
    refine wpAny_bind (PySem.W.ifBound_K Y I hr hg (wpAny_mono h (fun v s' hv => ?_) fun _ _ e => e))
    cases v <;> first | exact hv.elim | exact wpAny_pure ⟨_, rfl, hv⟩
  have h1 : oneThing? op (.int n t) (.ref y) = none := rfl
  have hne : (Value.type "int" != Value.ref C) = true := rfl
  unfold richCompare
  simp only [h1]
  refine wpAny_holding (wpAny_bind (wpAny_cRoomFor hu ?_))
  refine wpAny_bind ((PySem.W.Looks.of_pure rfl : PySem.W.Looks (model prog w) s.heap (typeOf (.int n t)) (.type "int")).here (wpAny_bind (I.type.here ?_)))
  rw [hne]
  simp only [if_true]
  refine wpAny_bind ((PySem.W.looks_subIn Y hsub).here ?_)
  simp only [Bool.false_eq_true, if_false]
  refine wpAny_bind (dec I.at_ hp ?_)
  simp only [Bool.not_false, if_true]
  refine wpAny_bind (wpAny_mono one (fun r s' z => ?_) fun _ _ e => e)
  obtain ⟨v, rfl, hq⟩ := z
  exact wpAny_pure hq
end
end OwnOps
end

-- OwnOps4
section
set_option Elab.async false
set_option linter.all false
set_option maxRecDepth 100000
namespace OwnOps
open PySem L2

section
variable {X : Cx} {CX : CXT} {C g f : Addr} {k : Nat} {fd : FuncData} {ps : List Str} {sp : Sp} {E : XK} {op : Operator} {T : String}

/-- the reading of n op y by y's def -/
def rRef2 (C : Addr) (sp : Sp) (E : XK) : R2 := fun x y H Q => ∃ (i : Int) (b dy : Addr) (fs : List (Str × V)), x = .int i ∧ y = .ref b ∧ H b = some (.ins C dy fs) ∧ sp [y, x] H Q E

theorem op_refl {nm : String} (hnm : op.info.2 = nm) (O : Op2 X.K C f nm) (hrf : PySem.W.findIn X.K (.ref C) (PySem.dunderR nm) = some (some (.ref g))) (hg : PySem.W.isFn X.K (.ref g) = true) (hl : fillsNumberSlot (.type "int") nm = pure true)
    (hsub : PySem.W.subIn X.K (.ref C) (.type "int") = some false) (dec : IntDecB op)
    (F : FnOk X.prog X.w X.K X.mg X.base CX k g fd ps sp) (hr : Room k X.A) (hb : Binds X.K fd ps []) (hx : Passes CX X E) : OpR X (binaryOp op) (rRef2 C sp E) := by
  subst hnm
  intro pins s σ H x y v u Q I rx ry h
  obtain ⟨i, b, dy, fs, rfl, rfl, hb', q⟩ := h
  obtain ⟨t, rfl⟩ := (show ∃ t, v = Value.int i t from rx)
  cases (show u = Value.ref b from ry)
  obtain ⟨od, J⟩ := inst_at I hb'
  refine refl_K I.kIn J (PySem.W.Looks.of_pure rfl) O.first O.at_ hrf hg (PySem.W.Looks.of_pure hl) hsub (fun _ Q' q' => dec J.at_ rfl q') ?_
  refine wpAny_mono (run_any (us := [.ref b, .int i t]) (vs := [.ref b, .int i]) F hr I.env0 hb hx I (.cons rfl (.cons ⟨t, rfl⟩ .nil)) q) (fun w s' z => ?_) fun _ _ e => e
  obtain ⟨z', H', I', rz, qz⟩ := id z
  exact back_of rz z

/-- x op y (a comparison), x of the class at C -/
theorem cmp_own {op : CmpOp} (hop : ∀ a b, compareOp op a b = richCompare op a b) (hs : PySem.W.findIn X.K (.ref C) (cmpInfo op).2.1 = some (some (.ref g))) (hf : PySem.W.isFn X.K (.ref g) = true)
    (F : FnOk X.prog X.w X.K X.mg X.base CX k g fd ps sp) (hr : Room k X.A) (hb : Binds X.K fd ps []) (hx : Passes CX X E)
    {R : V → Hp → Prop} (hR : ∀ {y : V} {H : Hp} {u : Value} {pins : List (Addr × Obj)} {σ : St} {s : Shared}, L2.Inv X pins σ H s → R y H → RelV y u → ∃ tb, PySem.W.Looks (model X.prog X.w) s.heap (typeOf u) tb ∧ PySem.W.notFirst X.K C tb = true) :
    OpR X (compareOp op) (rOwn2 C R sp E) := by
  intro pins s σ H x y v u Q I rx ry h
  obtain ⟨a, dx, fs, rfl, ha, hy, q⟩ := h
  cases (show v = Value.ref a from rx)
  obtain ⟨od, J⟩ := inst_at I ha
  obtain ⟨m, hF⟩ := I.fr
  obtain ⟨tb, ht, hn⟩ := hR I hy ry
  rw [hop]
  refine PySem.W.cmp_K (op := op) hr.units0 hF I.ok.mod.kin J ht hn hs hf ?_
  refine wpAny_mono (run_any (us := [.ref a, u]) (vs := [.ref a, y]) F hr I.env0 hb hx I (.cons rfl (.cons ry .nil)) q) (fun w s' z => ?_) fun _ _ e => e
  obtain ⟨z', H', I', rz, qz⟩ := id z
  exact back_of rz z
theorem looks_ins (hsame : PySem.W.notFirst X.K C (.ref C) = true) {y : V} {H : Hp} {u : Value} {pins : List (Addr × Obj)} {σ : St} {s : Shared} (I : L2.Inv X pins σ H s) (h : RIns C y H) (ry : RelV y u) :
    ∃ tb, PySem.W.Looks (model X.prog X.w) s.heap (typeOf u) tb ∧ PySem.W.notFirst X.K C tb = true := by
  obtain ⟨b, dy, fs, rfl, hb⟩ := h
  cases (show u = Value.ref b from ry)
  obtain ⟨od, J⟩ := inst_at I hb
  exact ⟨_, J.type, hsame⟩
theorem looks_int (hi : PySem.W.notFirst X.K C (.type "int") = true) {y : V} {H : Hp} {u : Value} {pins : List (Addr × Obj)} {σ : St} {s : Shared} (I : L2.Inv X pins σ H s) (h : RInt y H) (ry : RelV y u) :
    ∃ tb, PySem.W.Looks (model X.prog X.w) s.heap (typeOf u) tb ∧ PySem.W.notFirst X.K C tb = true := by
  obtain ⟨i, rfl⟩ := h
  obtain ⟨t, rfl⟩ := (show ∃ t, u = Value.int i t from ry)
  exact ⟨_, PySem.W.Looks.of_pure rfl, hi⟩

theorem cmp_refl2 {op : CmpOp} (hop : ∀ a b, compareOp op a b = richCompare op a b) (dec : IntDec op) (hs : PySem.W.findIn X.K (.ref C) (cmpInfo op).2.2 = some (some (.ref g))) (hf : PySem.W.isFn X.K (.ref g) = true)
    (hsub : PySem.W.subIn X.K (.ref C) (.type "int") = some false)
    (F : FnOk X.prog X.w X.K X.mg X.base CX k g fd ps sp) (hr : Room k X.A) (hb : Binds X.K fd ps []) (hx : Passes CX X E) : OpR X (compareOp op) (rRef2 C sp E) := by
  intro pins s σ H x y v u Q I rx ry h
  obtain ⟨i, b, dy, fs, rfl, rfl, hb', q⟩ := h
  obtain ⟨t, rfl⟩ := (show ∃ t, v = Value.int i t from rx)
  cases (show u = Value.ref b from ry)
  obtain ⟨od, J⟩ := inst_at I hb'
  rw [hop]
  refine cmp_refl hr.units0 I.kIn J rfl dec hsub hs hf ?_
  refine wpAny_mono (run_any (us := [.ref b, .int i t]) (vs := [.ref b, .int i]) F hr I.env0 hb hx I (.cons rfl (.cons ⟨t, rfl⟩ .nil)) q) (fun w s' z => ?_) fun _ _ e => e
  obtain ⟨z', H', I', rz, qz⟩ := id z
  exact back_of rz z

/-- one-place: what x's own def hands back -/
def rOwn1 (C : Addr) (sp : Sp) (E : XK) (R : V → Prop) : V → Hp → VK → Prop := fun x H Q => ∃ a dx fs, x = .ref a ∧ H a = some (.ins C dx fs) ∧ sp [x] H (fun z H' => R z ∧ Q z H') E
theorem neg_own (hs : PySem.W.findIn X.K (.ref C) "__neg__" = some (some (.ref g))) (hf : PySem.W.isFn X.K (.ref g) = true)
    (F : FnOk X.prog X.w X.K X.mg X.base CX k g fd ps sp) (hr : Room k X.A) (hb : Binds X.K fd ps []) (hx : Passes CX X E) : UnR X (unaryOp .USub) (rOwn1 C sp E fun _ => True) := by
  intro pins s σ H x v Q I rx h
  obtain ⟨a, dx, fs, rfl, ha, q⟩ := h
  cases (show v = Value.ref a from rx)
  obtain ⟨od, J⟩ := inst_at I ha
  obtain ⟨m, hF⟩ := I.fr
  refine PySem.W.ksp_neg hF I.ok.mod.kin J hs hf ?_
  refine wpAny_mono (run_any (us := [.ref a]) (vs := [.ref a]) F hr I.env0 hb hx I (.cons rfl .nil) q) (fun w s' z => ?_) fun _ _ e => e
  obtain ⟨z', H', I', rz, _, qz⟩ := z
  exact ⟨z', H', I', rz, qz⟩

open Builtin in
theorem abs_K {prog : Program} {w : World} {A : Around} {E : Value → Shared → Prop} {s : Shared} {K : PySem.W.Frag} {x C f : Addr} {ox : Obj} {od : Option Obj} {Q : Value → Shared → Prop} (Y : K.In s.heap) (I : PySem.W.InstAt s.heap x ox C od)
    (hs : PySem.W.findIn K (.ref C) "__abs__" = some (some (.ref f))) (hf : PySem.W.isFn K (.ref f) = true)
    (h : wpAny (model prog w) A.in1 (call (.ref f) [.ref x]) Q E s) : wpAny (model prog w) A (call (.builtin "abs") [.ref x]) Q E s := by
  refine Calls.call_function_entry PyProof.Rows.kind_abs PyProof.Rows.plain_abs PyProof.Rows.entry_abs (PyProof.Rows.args_abs _) ?_
  unfold Builtin.«abs»
  refine wpAny_bind (m := oneArg "abs" _) (wpAny_pure ?_)
  refine wpAny_bind (m := callSpecial? (.ref x) (Str.ofString "__abs__")) (PySem.W.special_fn Y I hs (beq_iff_eq.mp hf) (wpAny_mono h (fun r s' z => ?_) fun _ _ e => e))
  exact wpAny_pure ⟨_, rfl, z⟩

theorem room2 {k : Nat} {A : Around} (r : Room (k + 2) A) : Room k A.in1.in1 := (Room.in1 (r.in1))

theorem call_absO (hs : PySem.W.findIn X.K (.ref C) "__abs__" = some (some (.ref g))) (hf : PySem.W.isFn X.K (.ref g) = true)
    (F : FnOk X.prog X.w X.K X.mg X.base CX k g fd ps sp) (hr : Room (k + 1) X.A) (hb : Binds X.K fd ps []) (hx : Passes CX X E) : CallR X (.builtin "abs") (fun xs H Q => ∃ x, xs = [x] ∧ rOwn1 C sp E (fun _ => True) x H Q) := by
  intro pins s σ H xs us Q I rx h
  obtain ⟨x, rfl, a, dx, fs, rfl, ha, q⟩ := h
  obtain ⟨u, rfl, ru⟩ := vals1 rx
  cases (show u = Value.ref a from ru)
  obtain ⟨od, J⟩ := inst_at I ha
  refine abs_K I.kIn J hs hf ?_
  refine wpAny_mono (run_any (us := [.ref a]) (vs := [.ref a]) F hr.in1 I.env0.in1 hb hx I (.cons rfl .nil) q) (fun w s' z => ?_) fun _ _ e => e
  obtain ⟨z', H', I', rz, _, qz⟩ := z
  exact ⟨z', H', I', rz, qz⟩

def IsStr : V → Prop := fun z => ∃ y, z = .str y
theorem strback {Q : Value → Shared → Prop} {z : V} {u : Value} {s' : Shared} (hz : IsStr z) (r : RelV z u) (q : Q u s') : PySem.W.StrBack Q u s' := by
  obtain ⟨y, rfl⟩ := hz
  obtain ⟨t, rfl⟩ := (show ∃ t, u = Value.str y t from r)
  exact q
theorem call_reprO (hs : PySem.W.findIn X.K (.ref C) "__repr__" = some (some (.ref g))) (hf : PySem.W.isFn X.K (.ref g) = true)
    (F : FnOk X.prog X.w X.K X.mg X.base CX k g fd ps sp) (hr : Room (k + 1) X.A) (hb : Binds X.K fd ps []) (hx : Passes CX X E) : CallR X (.builtin "repr") (fun xs H Q => ∃ x, xs = [x] ∧ rOwn1 C sp E IsStr x H Q) := by
  intro pins s σ H xs us Q I rx h
  obtain ⟨x, rfl, a, dx, fs, rfl, ha, q⟩ := h
  obtain ⟨u, rfl, ru⟩ := vals1 rx
  cases (show u = Value.ref a from ru)
  obtain ⟨od, J⟩ := inst_at I ha
  obtain ⟨m, hF⟩ := I.fr
  refine PySem.W.repr_K hr.in1.units0 hF I.ok.mod.kin J hs hf ?_
  refine wpAny_mono (run_any (us := [.ref a]) (vs := [.ref a]) F hr.in1 I.env0.in1 hb hx I (.cons rfl .nil) q) (fun w s' z => ?_) fun _ _ e => e
  obtain ⟨z', H', I', rz, hz, qz⟩ := z
  exact strback hz rz ⟨z', H', I', rz, qz⟩
theorem call_strO (hs : PySem.W.findIn X.K (.ref C) "__str__" = some (some (.ref g))) (hf : PySem.W.isFn X.K (.ref g) = true)
    (F : FnOk X.prog X.w X.K X.mg X.base CX k g fd ps sp) (hr : Room (k + 2) X.A) (hb : Binds X.K fd ps []) (hx : Passes CX X E) : CallR X (.type "str") (fun xs H Q => ∃ x, xs = [x] ∧ rOwn1 C sp E IsStr x H Q) := by
  intro pins s σ H xs us Q I rx h
  obtain ⟨x, rfl, a, dx, fs, rfl, ha, q⟩ := h
  obtain ⟨u, rfl, ru⟩ := vals1 rx
  cases (show u = Value.ref a from ru)
  obtain ⟨od, J⟩ := inst_at I ha
  refine PySem.W.kso_call (room2 hr).units0 I.kIn J hs hf ?_
  refine wpAny_mono (run_any (us := [.ref a]) (vs := [.ref a]) F (room2 hr) I.env0.in1.in1 hb hx I (.cons rfl .nil) q) (fun w s' z => ?_) fun _ _ e => e
  obtain ⟨z', H', I', rz, hz, qz⟩ := z
  exact strback hz rz ⟨z', H', I', rz, qz⟩

open Builtin in
theorem bool_K {prog : Program} {w : World} {A : Around} {E : Value → Shared → Prop} {s : Shared} {K : PySem.W.Frag} {x C f : Addr} {ox : Obj} {od : Option Obj} {Q : Value → Shared → Prop} {m : Str → Option Value} {h₀ : Heap} {L : Addr} (F : PyProof.Rows.Fr h₀ L s.heap m) (Y : K.In h₀) (I : PySem.W.InstAt s.heap x ox C od)
    (hs : PySem.W.findIn K (.ref C) "__bool__" = some (some (.ref f))) (hf : PySem.W.isFn K (.ref f) = true)
    (h : wpAny (model prog w) A.in1.in1 (call (.ref f) [.ref x]) (PySem.W.BoolBack fun b s' => Q (.bool b) s') E s) : wpAny (model prog w) A (call (.type "bool") [.ref x]) Q E s := by
  refine callType_codes (T := "bool") (Bi := Builtin.«object.__init__») (Q₁ := fun r s₁ => ∃ y, r = .bool y ∧ Q r s₁) PySem.F.called_bool (PySem.F.typeCall_bool_1 _) PySem.F.entry_object_init ?_ ?_
  · refine codeAny_of_tree ?_
    show wpAny _ A.in1.in1 (do checkBuiltinCall "bool.__new__" ⟨[.type "bool", .ref x], []⟩; again (.builtin "bool.__new__" ⟨[.type "bool", .ref x], []⟩)) _ _ s
    refine wpAny_bind (wpAny_of_eq (PySem.F.newCall_bool_1 _) (wpAny_pure ⟨plainId_quiet (by decide +kernel) _, codeAny_builtin PySem.F.entry_bool_new ?_⟩))
    rw [Around.under_plainId (by decide +kernel) _]
    have key : wpAny (model prog w) A.in1.in1 (truthy (.ref x)) (fun b s₁ => Q (.bool b) s₁) E s := PySem.W.truthy_K F Y I hs hf h
    have f1 := PySem.F.conv_sub_bool
    obtain ⟨hp, gg, d, tk, os⟩ := s
    repeat (any_goals (first | assumption | (with_reducible refine wpAny_bind (wpAny_mono key (fun b s1 z => ?_) fun _ _ e => e)) | wp_step))
    all_goals first | exact ⟨_, rfl, z⟩ | exact ⟨_, rfl, _, rfl, z⟩ | skip
  · rintro obj s₁ ⟨y, rfl, hq⟩
    exact ⟨typeIs_bool _ _, PySem.F.args_object_init_2 _ _, object_init_meets PySem.F.called_bool.init.lookup PySem.F.called_bool.made (by decide) prog w A.in1 _ s₁ ⟨typeIs_bool _ _, rfl, hq⟩⟩
end
end OwnOps
end

-- GivErr
section
set_option Elab.async false
set_option linter.all false
set_option maxRecDepth 100000
set_option maxHeartbeats 2000000
/-! An own error class, over any of three built-in ones, that keeps its one argument in the field `given`. -/
namespace PySem
namespace Giv
open PySem.W PySem.Calls PyProof.Rows PySem.HandSPX Builtin Builtin.ObjectAttr
/-- own classes, then the given tail -/
def tailIs (bt : List Value) : List Value → Bool
  | .ref _ :: r => tailIs bt r
  | l => l == bt
theorem tail_cases (bt : List Value) : ∀ l : List Value, tailIs bt l = true → (∃ c r, l = .ref c :: r ∧ tailIs bt r = true) ∨ l = bt := fun l e => by
  cases l with
  | nil => exact .inr (beq_iff_eq.mp e)
  | cons a r => cases a <;> first | exact .inl ⟨_, _, rfl, e⟩ | exact .inr (beq_iff_eq.mp e)
theorem tail_pass {bt : List Value} (hb : ∀ self, refuseLoop self "__setattr__" bt = pure ()) (self : Value) : ∀ l : List Value, tailIs bt l = true → refuseLoop self "__setattr__" l = pure () := fun l => by
  induction l with
  | nil => intro e; rcases tail_cases bt _ e with ⟨_, _, q, _⟩ | q; cases q; rw [q]; exact hb self
  | cons a r ih =>
    intro e
    rcases tail_cases bt (a :: r) e with ⟨c, r', q, h⟩ | q
    · cases q; rw [refuseLoop_ref]; exact ih h
    · rw [q]; exact hb self
theorem tail_has {bt : List Value} (Y : String) : ∀ l : List Value, tailIs bt l = true → l.contains (.type Y) = bt.contains (.type Y) := fun l => by
  induction l with
  | nil => intro e; rcases tail_cases bt _ e with ⟨_, _, q, _⟩ | q; cases q; rw [q]
  | cons a r ih =>
    intro e
    rcases tail_cases bt (a :: r) e with ⟨c, r', q, h⟩ | q
    · cases q; rw [List.contains_cons, ih h]; rfl
    · rw [q]
/-- what is used of the built-in base -/
structure BaseOk (B newId initId : String) (bt : List Value) : Prop where
  facts : ExcBaseFacts B newId initId bt
  pass : ∀ self, refuseLoop self "__setattr__" bt = pure ()
  obj : bt.contains (.type "object") = true
theorem ok_VE : BaseOk "ValueError" "ValueError.__new__" "ValueError.__init__" [.type "ValueError", .type "Exception", .type "BaseException", .type "object"] :=
  ⟨F.excBase_ValueError, fun self => F.store_ValueError.passes self, by decide +kernel⟩
theorem ok_ZD : BaseOk "ZeroDivisionError" "ZeroDivisionError.__new__" "ZeroDivisionError.__init__" [.type "ZeroDivisionError", .type "ArithmeticError", .type "Exception", .type "BaseException", .type "object"] :=
  ⟨F.excBase_ZeroDivisionError, fun self => F.store_ZeroDivisionError.passes self, by decide +kernel⟩

section
variable {prog : Program} {w : World} {A : Around} {E : Value → Shared → Prop} {R : Result → Shared → Prop} {hp : Heap} {g : Array GenState} {d : Drawn} {t : Nat} {os : OsState}
/-- self.name = v on a new exception -/
theorem osa_giv {K : W.Frag} {name : Str} {tk : Tok} {v : Value} {x C : Addr} {fv : Array Value} {cd : ClassData} {bt bm : List Value} (hb : ∀ self, refuseLoop self "__setattr__" bt = pure ()) (hbo : bt.contains (.type "object") = true)
    (Y : K.In hp) (hx : hp.get? x = some { cls := .ref C, data := .fields fv }) (hcd : W.clsIn K C = some cd) (hm : cd.mro = .ref C :: bm) (htl : tailIs bt bm = true) (hh : cd.hasDict = true) (hno : W.findIn K (.ref C) name = some none)
    (fin : ∀ h' tk' dx, (∀ b o, b ≠ x → hp.get? b = some o → h'.get? b = some o) → hp.objs.size ≤ dx → dx ≠ x → h'.get? x = some { cls := .ref C, dict := some dx, data := .fields fv } →
      h'.Ns1 dx (fun y => if y = name then some v else none) → R (.ok (.ret .none)) ⟨h', g, d, tk', os⟩) :
    codeAny (model prog w) A (.call (.builtin "object.__setattr__") ⟨[.ref x, .str name tk, v], []⟩) R ⟨hp, g, d, t, os⟩ := by
  have J : W.InstAt hp x { cls := .ref C, data := .fields fv } C none := ⟨hx, rfl, rfl, trivial⟩
  have SO := F.store_object
  have htail : tailIs bt cd.mro = true := by rw [hm]; exact htl
  have hob2 : cd.mro.contains (.type "object") = true := by rw [tail_has "object" _ htail]; exact hbo
  have hemp : cd.mro.isEmpty = false := by rw [hm]; rfl
  have apart : x ≠ hp.objs.size := Nat.ne_of_lt (Heap.lt_size hx)
  have Lsub : W.Looks (model prog w) hp (isInstance (.ref x) (.type "object")) true :=
    J.type.andThen (W.looks_mroIn Y (by unfold W.mroIn; rw [hcd, Option.bind_some, if_neg (by rw [hemp]; decide), hob2]))
  refine codeAny_call_builtin SO.slot.plain SO.entry (@W.check_slot (model prog w) _ _ ⟨hp, g, d, t, os⟩ "object.__setattr__" "object" "__setattr__" (.ref x)
    [.str name tk, v] [] _ SO.kind SO.split Lsub (SO.args (.ref x) (.str name tk) v) ?_)
  have Lmro : W.Looks (model prog w) hp (mroOf (.ref C)) cd.mro := (W.looks_clsIn Y hcd).andThen .now
  have Lno : W.Looks (model prog w) hp (storeTaker? none) none := .now
  have Lcd : W.Looks (model prog w) hp (classData C) cd := W.looks_clsIn Y hcd
  rw [W.osa_eq, refuse_eq]
  refine wpAny_bind (wpAny_bind (J.type.at (wpAny_bind (Lmro.at ?_))))
  rw [tail_pass hb _ _ htail]
  refine wpAny_pure (wpAny_bind (J.type.at (wpAny_bind ((W.looks_findIn Y hno).at (wpAny_bind (Lno.at ?_))))))
  show wpAny _ _ (storeInOwnDict (.ref x) (.ref C) (.str name tk) name v false) _ _ _
  obtain ⟨c1, c2, c3, c4, c5, c6, c7, c8, c9, c10, c11⟩ := cd
  dsimp only at hh
  subst hh
  unfold storeInOwnDict ownDictForStores
  repeat (first | (with_reducible refine store_in_new ?_ ?_) | (with_reducible refine wpAny_loadPart_at hx ?_) | (with_reducible refine Lcd.at ?_) | wp_step)
  · exact ⟨_, #[], _, (Heap.get?_update_ne _ _ _ _ apart.symm).trans (Heap.get?_push_at rfl rfl), rfl, fun e he => absurd he (by simp), fun _ => rfl⟩
  · intro h' tk' hn' hs
    have hx1 : (hp.push { cls := .type "dict", data := .dict #[] }).get? x = some { cls := .ref C, data := .fields fv } := Heap.get?_push_of_some _ hx
    refine fin h' tk' hp.objs.size (fun b o hb ho => ?_) (Nat.le_refl _) apart.symm ?_ hn'
    · exact (hs.2 b (Nat.ne_of_lt (Heap.lt_size ho))).trans ((Heap.get?_update_ne _ _ _ _ hb).trans (Heap.get?_push_of_some _ ho))
    · exact (hs.2 x apart).trans (Heap.get?_update_self _ hx1 rfl)
end

/-! ### the text of __init__ -/
def gA (p1 p2 : Pos) : Arguments := { posonlyargs := [], args := [{ arg := "self", annotation := none, pos := p1 }, { arg := "given", annotation := none, pos := p2 }], vararg := none, kwonlyargs := [], kw_defaults := [], kwarg := none, defaults := [] }
def gB (q1 q2 q3 q4 : Pos) : List Stmt := [.Assign [.Attribute (.Name "self" q1) "given" q2] (.Name "given" q3) q4]
def gS : Scope := { kind := .function, names := [(PySem.Str.ofString "self", .local), (PySem.Str.ofString "given", .local)], isGenerator := false, isCoroutine := false, more := [] }
/-- what the written part says of the class called cn, at C, and of its __init__, at fI -/
structure ErrTxt (K : Frag) (mg : Str → Option Value) (cn qn : Str) (newId : String) (bt : List Value) (C fI : Addr) : Prop where
  gC : mg cn = some (.ref C)
  cls : ∃ nm q N bs bm sn sub ab col dd k0 k1 k2 k3 k5, K.lookup C = some (excClassObj nm q C N bs bm true sn sub ab col dd k0 k1 k2 k3 k5 newId) ∧ tailIs bt bm = true
  sa : findIn K (.ref C) "__setattr__" = some (some (.builtin "object.__setattr__"))
  ga : findIn K (.ref C) "__getattribute__" = some (some (.builtin "BaseException.__getattribute__"))
  gg : findIn K (.ref C) "__getattr__" = some none
  noN : findIn K (.ref C) "given" = some none
  iC : findIn K (.ref C) "__init__" = some (some (.ref fI))
  tC : typeIn K (.ref fI) = some (.type "function")
  kC : keepIn K (.ref C) = true
  exC : subIn K (.ref C) (.type "BaseException") = some true
  tyC : typeIn K (.ref C) = some (.type "type")
  hdC : hasDictIn K C = true
  te : exmOne K (.ref C) (.ref C) = some true
  fn : ∃ (oc : Value) (od : Option Addr) (doc pm : Value) (an : Option Addr) (cdv ct : Value) (osl : Array (Option Value)) (p1 p2 q1 q2 q3 q4 : Pos),
    K.lookup fI = some ⟨oc, od, .func (fnOf "__init__" qn (gA p1 p2) (gB q1 q2 q3 q4) gS .none .none doc pm an cdv ct), osl⟩ ∧ codeIn K cdv qn = true
theorem one_fits (v : Value) : [v].length ≤ sizeLine := by
  rw [sizeLine_eq]
  exact (by decide : 1 ≤ 16777216)
theorem ldG {M : Model} {s : Shared} {name : Str} {scope : Scope} {L a : Addr} {cd : Value} {m : Str → Option Value} {x : Str} {pos : Pos} {v : Value} {Q : Value → Shared → Prop} {A : Around} {E : Value → Shared → Prop} (hn : s.heap.Ns L m) (hv : m x = some v) (h : Q v s)
    (hk : scope.kind = .function := by rfl) (hl : (envOfC name scope L a cd).kindOf x = some .local := by rfl) (hd : (x == ("__debug__" : Str)) = false := by decide) :
    wpAny M A (eval (.Name x pos) (envOfC name scope L a cd)) Q E s := wpAny_Name (wpAny_loadName_local hk hl hn hv h) hd
/-- what __init__ leaves -/
structure GivEnd (h h' : Heap) (x C dx t1 : Addr) (v : Value) : Prop where
  keep : ∀ b o, b ≠ x → h.get? b = some o → h'.get? b = some o
  obj : h'.get? x = some { cls := .ref C, dict := some dx, data := .fields #[.ref t1, .none, .none, .none, .bool false, .none] }
  dbig : h.objs.size ≤ dx
  dne : dx ≠ x
  ns : h'.Ns1 dx (fun y => if y = "given" then some v else none)
/-- a made one -/
structure GivMade (h h' : Heap) (e C d : Addr) (v : Value) : Prop where
  keep : ∀ b o, h.get? b = some o → h'.get? b = some o
  new : h.objs.size ≤ e
  obj : ∃ oe vs, h'.get? e = some oe ∧ oe.cls = .ref C ∧ oe.dict = some d ∧ oe.data = .fields vs ∧ vs[1]? = some .none
  dbig : h.objs.size ≤ d
  dne : d ≠ e
  ns : h'.Ns1 d (fun y => if y = "given" then some v else none)
section
variable {prog : Program} {w : World} {A : Around} {E : Value → Shared → Prop} {R : Result → Shared → Prop} {s : Shared} {K : Frag} {mg : Str → Option Value} {C fI : Addr} {cn qn : Str} {B newId initId : String} {bt : List Value}
theorem giv_init (Z : BaseOk B newId initId bt) (T : ErrTxt K mg cn qn newId bt C fI) {x t0 : Addr} {v : Value} (X : K.In s.heap) (hlim : s.heap.NoLimit) (hx : s.heap.get? x = some (excO C t0)) (hroom : A.depth < recursionLimit)
    (hq : ∀ h' tk dx, GivEnd s.heap h' x C dx t0 v → R (.ok (.ret .none)) { s with heap := h', toks := tk }) :
    codeAny (model prog w) A (.call (.ref fI) ⟨[.ref x, v], []⟩) R s := by
  obtain ⟨oc, od, doc, pm, an, cdv, ct, osl, p1, p2, q1, q2, q3, q4, ho, hcd⟩ := T.fn
  obtain ⟨nm, q, N, bs, bm, sn, sub, ab, col, dd, k0, k1, k2, k3, k5, hC, hbm⟩ := T.cls
  have hcl : clsIn K C = some { name := nm, bases := bs, mro := .ref C :: bm, ns := N, qualname := q, hasDict := true, slotNames := sn, subclasses := sub, abstract := ab, collection := col, hasDel := false } := by unfold clsIn; rw [hC] <;> rfl
  refine Att.call_fn (binds := [("self", .ref x), ("given", v)]) X hlim ho hcd hroom (BindsTo.of_eq (by first | rfl | with_unfolding_all rfl)) (by first | rfl | decide | with_unfolding_all rfl) (fun s₁ IC => ?_) rfl rfl rfl
  obtain ⟨h₁, tk₁, rfl⟩ := IC.toInCall.same
  have k : ∀ b o, s.heap.get? b = some o → h₁.get? b = some o := IC.toInCall.keep
  have hn := IC.toInCall.ns
  have X₁ : K.In h₁ := X.keeps k
  have hx₁ := k _ _ hx
  show wpAny _ _ (execs _ _) _ _ _
  refine wpAny_execs_cons (plainObj_wpAny_Assign_Attribute ?_)
  refine ldG (v := v) hn (by first | rfl | with_unfolding_all rfl | kernel_rfl) (ldG (v := .ref x) hn (by first | rfl | with_unfolding_all rfl | kernel_rfl) ?_)
  refine set_plain X₁ (ox := excO C t0) (od := none) ⟨hx₁, rfl, rfl, trivial⟩ T.sa ?_
  refine osa_giv Z.pass Z.obj X₁ hx₁ hcl rfl hbm rfl T.noN (fun h₃ tk₃ dx k₃ dn dne hx₃ hn₃ => ?_)
  show wpAny _ _ (execs _ _) _ _ _
  have z : s.heap.objs.size < h₁.objs.size := hn.lt
  exact wpAny_execs_nil (hq h₃ tk₃ dx ⟨fun b o hb e => k₃ b o hb (k b o e), hx₃, Nat.le_of_lt (Nat.lt_of_lt_of_le z dn), dne, hn₃⟩)
theorem giv_made (Z : BaseOk B newId initId bt) (T : ErrTxt K mg cn qn newId bt C fI) {v : Value} (X : K.In s.heap) (hlim : s.heap.NoLimit) (hroom : A.depth + 1 < recursionLimit)
    (hq : ∀ h' tk e d, GivMade s.heap h' e C d v → R (.ok (.ret (.ref e))) { s with heap := h', toks := tk }) :
    codeAny (model prog w) A (.call (.ref C) ⟨[v], []⟩) R s := by
  obtain ⟨nm, q, N, bs, bm, sn, sub, ab, col, dd, k0, k1, k2, k3, k5, hC, hbm⟩ := T.cls
  obtain ⟨hp, g, dr, tk, os⟩ := s
  have k : ∀ b o, hp.get? b = some o → ((hp.push (kdv_tup [v])).push (excO C hp.objs.size)).get? b = some o := fun b o e => Heap.get?_push_of_some _ (Heap.get?_push_of_some _ e)
  have hget : ((hp.push (kdv_tup [v])).push (excO C hp.objs.size)).get? (hp.objs.size + 1) = some (excO C hp.objs.size) := by heap_get
  refine call_own Z.facts (fun X => tail_has X bm hbm) (X _ _ hC) (looks_findIn X T.iC) (fun self => bind_fn X self T.tC) (one_fits v) ?_
  refine giv_init (s := ⟨(hp.push (kdv_tup [v])).push (excO C hp.objs.size), g, dr, tk, os⟩) Z T (X.keeps k) (hlim.keeps k) hget ?_ fun h' tk' dx ⟨k', hx, dn, dne, hns⟩ => ?_
  · show A.depth + 1 < recursionLimit
    exact hroom
  · have old : ∀ b o, hp.get? b = some o → h'.get? b = some o := fun b o e => k' b o (Nat.ne_of_lt (Nat.lt_succ_of_lt (Heap.lt_size e))) (k b o e)
    have z : hp.objs.size + 1 + 1 ≤ dx := by
      first
        | (simpa only [Heap.size_push] using dn)
        | exact dn
        | (have q := dn; rw [Heap.size_push, Heap.size_push] at q; exact q)
    exact ⟨rfl, hq h' tk' (hp.objs.size + 1) dx ⟨old, Nat.le_succ _, ⟨_, _, hx, rfl, rfl, rfl, rfl⟩, Nat.le_trans (Nat.le_trans (Nat.le_succ _) (Nat.le_succ _)) z, dne, hns⟩⟩
end
end Giv
end PySem
end

-- GivErr2
section
set_option Elab.async false
set_option linter.all false
set_option maxRecDepth 100000
set_option maxHeartbeats 2000000
namespace L2
open PySem PySem.Spec PyProof.Rows
theorem relO_giv {v : V} {v' : Value} (r : RelV v v') (f : Str) : RelO (List.lookup f [(("given" : Str), v)]) (if f = "given" then some v' else none) := by
  by_cases hw : f = "given"
  · subst hw
    rw [if_pos rfl]
    have q : List.lookup ("given" : Str) [(("given" : Str), v)] = some v := by simp [List.lookup]
    rw [q]
    exact r
  · rw [if_neg hw]
    have qw : (f == ("given" : Str)) = false := by simpa using hw
    have q2 : List.lookup f [(("given" : Str), v)] = none := by simp [List.lookup, qw]
    rw [q2]
    trivial
section
variable {X : Cx} {C fI : Addr} {cn qn : Str} {B newId initId : String} {bt : List Value}
/-- Err(e) -/
def tMkGiv (C : Addr) (ta : TA) : L2.St → Hp → XK → Prop := fun σ H Q => ta σ H fun vs H1 => ∃ v, vs = [v] ∧ ∀ d, H1 d = none → Q (.ref C) (some d) (upd H1 d (.xd [(("given" : Str), v)]))
theorem pmk_giv {a : Expr} {ta : TA} {p pos : Pos} {k : Nat} (Z : PySem.Giv.BaseOk B newId initId bt) (T : PySem.Giv.ErrTxt X.K X.mg cn qn newId bt C fI) (hr : Room k X.A) (ha : PA X [a] ta) (hg : Gl X cn) (hdb : (cn == ("__debug__" : Str)) = false)
    (he : starEach (a :: []) X.env = (false, eval a X.env) :: starEach [] X.env := by rfl) (hpl : (backTo pos (starEach [] X.env)).any (·.1) = false := by rfl) :
    PMk X (.Call (.Name cn p) [a] [] pos) (tMkGiv C ta) := by
  intro pins s σ H Q I h
  refine wpAny_Call_Name_kw (ld_glob I hg T.gC ?_ hdb)
  refine PySem.W.callWith_K (h₀ := X.base) I.ok.mod.kin T.kC (thn (ha.run pos pins s σ H _ I h) fun us s1 hh => ?_) he hpl
  obtain ⟨vs, H1, I1, r1, v, ev, q1⟩ := hh
  subst ev
  refine ⟨I1.kIn, ?_⟩
  cases r1 with
  | cons rv rn =>
    rename_i v' us'
    cases rn
    show wpAny _ _ (call (.ref C) [v']) _ _ _
    have hlim := I1.nolimit
    obtain ⟨hp, g, dr, tk, os⟩ := s1
    refine wpAny_call (PySem.Giv.giv_made Z T I1.kIn hlim (by have := hr.dp; omega) fun h' tk' e d M => ?_)
    show MkP X pins σ Q (.ref e) ⟨h', g, dr, tk', os⟩
    obtain ⟨oe, fv, hoe, hc, hd, hdat, h1⟩ := M.obj
    have hns := M.ns
    obtain ⟨G', g1, g2⟩ := restrict h' fun b => decide (b ≠ e)
    have gk : ∀ b, b ≠ e → G'.get? b = h'.get? b := fun b hb => g1 b (decide_eq_true hb)
    have ge : G'.get? e = none := g2 e (by simp)
    have old : ∀ b o, hp.get? b = some o → G'.get? b = some o := fun b o q => (gk b (Nat.ne_of_lt (Nat.lt_of_lt_of_le (Heap.lt_size q) M.new))).trans (M.keep b o q)
    have ob : ObjOk X.prog X.w (upd H1 d (.xd [(("given" : Str), v)])) G' d (.xd [(("given" : Str), v)]) :=
      ⟨_, hns.at (fun o q => (gk d M.dne).trans q), fun f => relO_giv rv f⟩
    have J : L2.Inv X pins σ (upd H1 d (.xd [(("given" : Str), v)])) ⟨G', g, dr, tk', os⟩ := I1.laid (t' := tk') old M.dbig ob
    refine ⟨e, oe, fv, ⟨G', g, dr, tk', os⟩, _, .ref C, some d, rfl, J, fun b o q => ?_, ge, hoe, ⟨hc, hd⟩, hdat, h1, ?_, rfl, I1.bare, raises_own T.exC T.tyC, q1 d (I1.hok.fresh M.dbig)⟩
    · by_cases hb : b = e
      · have q' : G'.get? b = some o := q
        rw [hb, ge] at q'; cases q'
      · exact (gk b hb).symm.trans q
    · rw [upd_ne (Ne.symm M.dne)]
      exact I1.hok.fresh M.new
/-- raise Err(e) -/
def tRaiseGiv (C : Addr) (W : WX) (ta : TA) : TS := fun _ σ H => tMkGiv C ta σ H fun cls d H' => W cls d σ H'
theorem ps_raiseGiv {a : Expr} {ta : TA} {W : WX} {p pos pos2 : Pos} {k : Nat} (hc : X.calm = true) (Z : PySem.Giv.BaseOk B newId initId bt) (T : PySem.Giv.ErrTxt X.K X.mg cn qn newId bt C fI) (hr : Room k X.A) (tk : Takes X W) (ha : PA X [a] ta) (hg : Gl X cn) (hdb : (cn == ("__debug__" : Str)) = false := by decide)
    (he : starEach (a :: []) X.env = (false, eval a X.env) :: starEach [] X.env := by rfl) (hpl : (backTo pos (starEach [] X.env)).any (·.1) = false := by rfl) :
    PS X (.Raise (some (.Call (.Name cn p) [a] [] pos)) none pos2) (tRaiseGiv C W ta) := ps_raise hc tk (pmk_giv Z T hr ha hg hdb he hpl)
/-- err.given, err the exception that the suite holds (at a; its class cls, its dict d) -/
def tByGiv (C : Addr) (a : Addr) (cls : Value) (d : Option Addr) (te : TE) : TE := fun σ H Q => te σ H fun x H1 => x = .ref a ∧ cls = .ref C ∧ ∃ (dd : Addr) (v : V), d = some dd ∧ H1 dd = some (.xd [(("given" : Str), v)]) ∧ Q v H1
theorem pe_byGiv {a : Addr} {oe : Obj} {cls : Value} {d : Option Addr} {pn : List (Addr × Obj)} {e : Expr} {te : TE} {pos : Pos} (T : PySem.Giv.ErrTxt X.K X.mg cn qn newId bt C fI) (hz : Zc cls d oe) (hf : ∃ vs, oe.data = .fields vs) (he : PE (X.suite a ((a, oe) :: pn)) e te)
    (hb : attributeBase e "given" X.env (eval e X.env) = eval e X.env := by rfl) :
    PE (X.suite a ((a, oe) :: pn)) (.Attribute e "given" pos) (tByGiv C a cls d te) := by
  refine ⟨fun pins s σ H Q I h => ?_⟩
  refine attr_of hb (thn (he.run pins s σ H _ I h) fun u s1 hh => ?_)
  obtain ⟨x, H1, I1, rx, ex, ec, dd, v, ed, ea, q⟩ := hh
  subst ex
  obtain rfl : u = Value.ref a := rx
  subst ec
  subst ed
  obtain ⟨ha, _⟩ := I1.pin (a, oe) (List.mem_append_left _ List.mem_cons_self)
  obtain ⟨vs, hd⟩ := hf
  have hx : ObjOk X.prog X.w H1 s1.heap dd (.xd [(("given" : Str), v)]) := I1.hok dd _ ea
  obtain ⟨mA, hns, hr⟩ := hx
  obtain ⟨od, ho, hl⟩ := lookIn_ns hns
  have l : List.lookup ("given" : Str) [(("given" : Str), v)] = some v := by simp [List.lookup]
  obtain ⟨u, hu, ru⟩ := RelO.some_of (v := v) (o := mA "given") (by rw [← l]; exact hr "given")
  have J : PySem.W.InstAt s1.heap a oe C (some od) := ⟨ha, hz.1, by unfold PySem.W.notCls; rw [hd] <;> rfl, by rw [hz.2]; exact ho⟩
  exact HandSPX.exc_get I1.kIn J T.ga T.gg T.exC (PySem.W.findObj_own T.hdC T.noN rfl (by rw [hl, hu])) (handed_of ru) ⟨v, H1, I1.tok _, ru, q⟩
end
end L2
end

-- TryAs
section
set_option Elab.async false
set_option linter.all false
set_option maxRecDepth 100000
/-! try: with several clauses «except X as n». -/
namespace TryAs
open PySem L2
/-- the ends of a clause's suite: slot i is emptied on every way out -/
def endsAs (D : Ends) (i : Nat) : Ends where
  nx := fun t K => D.nx (t.set i none) K
  rt := D.rt
  bk := fun t K => D.bk (t.set i none) K
  ct := fun t K => D.ct (t.set i none) K
abbrev Cl := Value × Nat × (Addr → Value → Option Addr → TS)
def wAll (K : PySem.W.Frag) (Wout : WX) (D : Ends) : List Cl → WX
  | [] => Wout
  | (c, i, ts) :: r => fun cls d σ H => ∃ b, PySem.W.exmOne K cls c = some b ∧
      (b = true → ∀ a, H a = none → ts a cls d (endsAs D i) (σ.set i (some (.ref a))) H) ∧ (b = false → wAll K Wout D r cls d σ H)
inductive Clauses (X : Cx) : List ExceptHandler → List Cl → Prop
  | nil : Clauses X [] []
  | cons {x n : Str} {c : Value} {i : Nat} {ts : Addr → Value → Option Addr → TS} {fst : Stmt} {suite : List Stmt} {np hpos : Pos} {hds : List ExceptHandler} {l : List Cl}
      (at_ : X.N[i]? = some n) (loc : X.env.kindOf n = some .local) (nam : Names X x c)
      (run : ∀ (a : Addr) (oe : Obj) (cls : Value) (d : Option Addr) (pn : List (Addr × Obj)), Zc cls d oe → (∃ vs, oe.data = .fields vs) → PSs (X.suite a ((a, oe) :: pn)) (fst :: suite) (ts a cls d))
      (more : Clauses X hds l) : Clauses X (.ExceptHandler (some (.Name x np)) (some n) (fst :: suite) hpos :: hds) ((c, i, ts) :: l)
section
variable {X : Cx} {body : List Stmt} {hd0 : ExceptHandler} {hds : List ExceptHandler} {l : List Cl} {pos : Pos} {tb : WX → TS} {Wout : WX}
theorem ps_try_all (stk : X.stack = X.env :: X.outer) (frm : X.env.frame = some X.env.locals) (nod : X.N.Nodup) (tk : Takes X Wout)
    (hb : ∀ (W : WX) (pn : List (Addr × Obj)) (xe : Value → Shared → Prop), Takes (X.tr pn xe) W → PassesOwn (model X.prog X.w) X.A X.env xe → PSs (X.tr pn xe) body (tb W))
    (cl : Clauses X (hd0 :: hds) l) : PS X (.Try body (hd0 :: hds) [] [] pos) (fun D σ H => tb (wAll X.K Wout D l) D σ H) := by
  constructor
  intro pins s σ H D I h
  have okX := I.ok
  have frs2 : X.A.frames = some (X.env :: X.outer) := by rw [okX.frames, stk]
  refine wpAny_Try_except ?_
  refine wpAny_mono ((hb (wAll X.K Wout D l) (X.pn ++ pins)
    (fun e s₁ => wpAny (model X.prog X.w) X.A (noteFrame e X.env)
      (fun _ s₂ => wpAny (model X.prog X.w) X.A (setFlight e none)
        (fun _ s₃ => wpAny (model X.prog X.w) X.A (handleBy e X.env (hd0 :: hds)) (SP X pins D) X.xe s₃) X.xe s₂) X.xe s₁)
    (fun u s' xx => ?_) PassesOwn.looking).run [] s σ H D (I.toTry _) h) (fun f s1 hsp => ?_) (fun e s1 he => he)
  · obtain ⟨a, B, sI, pins1, σ1, H1, cls, d, rfl, J0, nb, up, sky, na, os, ag, w⟩ := xx
    have J1 : L2.Inv X pins σ1 H1 sI := J0.ofTry okX
    have sky1 : Sky B (X.env :: X.outer) a (Zc cls d) X.env.locals s'.heap := by rw [← stk]; exact sky
    show wpAny (model X.prog X.w) X.A (noteFrame (.ref a) X.env) _ _ _
    refine Sky.land Zc.steady frs2 frm sky1 fun h3 fl3 up3 => ?_
    have J3 : L2.Inv X pins σ1 H1 { s' with heap := h3 } := J1.landed nb fl3.1 (up.trans up3) os ag
    obtain ⟨oe3, vs3, he3, hz3, hd3⟩ := fl3.there
    have apart : a ∉ frs (X.env :: X.outer) := fun hm => by
      obtain ⟨_, o', e', hnf⟩ := fl3.2.2.1.mem hm
      have q : some o' = some oe3 := e'.symm.trans he3
      cases q
      exact hnf _ hd3
    have notL : a ≠ X.env.locals := fun z => apart (List.mem_filterMap.mpr ⟨X.env, List.mem_cons_self, by rw [frm, z]⟩)
    have notF : a ∉ X.fs := fun hm => by
      obtain ⟨e, he, q⟩ := List.mem_filterMap.mp hm
      exact apart (List.mem_filterMap.mpr ⟨e, List.mem_cons_of_mem _ he, q⟩)
    have S3 := J3.suite he3 hd3 na notL notF
    have go : ∀ {hs2 : List ExceptHandler} {l2 : List Cl}, Clauses X hs2 l2 → wAll X.K Wout D l2 cls d σ1 H1 →
        wpAny (model X.prog X.w) X.A (handleBy (.ref a) X.env hs2) (SP X pins D) X.xe { s' with heap := h3 } := by
      intro hs2 l2 hk
      induction hk with
      | nil =>
        intro w
        refine wpAny_handleBy_nil ?_
        obtain ⟨k1, k2, k3, oe, vs, T, oT, ts', he, hz, hd, h1, hr⟩ := id fl3
        unfold PySem.passOn
        refine wpAny_bind (wpAny_field he hd h1 ?_)
        have tn : ¬ ((Value.ref T == Value.none) = true) := by simp
        rw [if_neg tn]
        have fin : wpAny (model X.prog X.w) X.A (setFlight (.ref a) X.env.frame) (fun _ s4 => wpAny (model X.prog X.w) X.A (throw (.ref a) : Sem Flow) (SP X pins D) X.xe s4) X.xe { s' with heap := h3 } := by
          rw [frm]
          refine HandSPX.setFlight_upZ fl3 fun h4 hh4 up4 => wpAny_throw (tk _ _ ?_)
          exact ⟨a, B, sI, pins, σ1, H1, cls, d, rfl, J1, nb, (up.trans up3).trans up4, .inr (.inr (by rw [stk]; exact hh4)), na, os, ag, w⟩
        first | exact (wpAny_bind (wpAny_pure (wpAny_bind fin))) | exact (wpAny_bind fin)
      | @cons x n c i ts fst suite np hpos hs3 l3 at_ loc nam run more ih =>
        intro w
        obtain ⟨b, hb1, yes, no⟩ := w
        have slot : Loc X.env.scope n := .inl loc
        refine wpAny_handleBy_cons (codeAny_handlers_test ?_) (by intro q; cases q)
        have Lty : PySem.W.Looks (model X.prog X.w) h3 (typeOf (.ref a)) cls := fun A Q E s k q => wpAny_typeOf_ref (k _ _ he3) (by rw [hz3.1]; exact q)
        have Lex := PySem.W.exm_one (M := model X.prog X.w) (J3.kIn) Lty hb1
        have tst : ∀ {Q : Value → Shared → Prop} {E : Value → Shared → Prop}, Q c { s' with heap := h3 } → wpAny (model X.prog X.w) (X.A.mark (some (.ref a))) (eval (.Name x np) X.env) Q E { s' with heap := h3 } := fun {Q E} q => by
          obtain ⟨hg, ndb, hm | ⟨hm, hv, nn⟩⟩ := nam
          · exact (ld_glob (X := X.suite a ((a, oe3) :: (X.pn ++ pins))) S3 hg hm q ndb)
          · exact (ld_blt (X := X.suite a ((a, oe3) :: (X.pn ++ pins))) S3 hg hm hv q nn ndb)
        refine tst (Lex.here ?_)
        cases b with
        | true =>
          refine codeAny_handlers_suite_as ?_
          refine HandSPX.lands_againZ fl3 fun h4 fl4 up4 => ?_
          have J4 : L2.Inv X pins σ1 H1 { s' with heap := h4 } := J1.landed nb fl4.1 ((up.trans up3).trans up4) os ag
          obtain ⟨oe4, vs4, he4, hz4, hd4⟩ := fl4.there
          have S4 := J4.suite he4 hd4 na notL notF
          refine store_ok (X := X.suite a ((a, oe4) :: (X.pn ++ pins))) (v := .ref a) S4 nod at_ slot rfl (fun s5 S5 => ?_) (.inr loc)
          refine wpAny_mono ((run a oe4 cls d (X.pn ++ pins) hz4 ⟨_, hd4⟩).run [] s5 _ H1 _ S5 (yes rfl a na)) (fun f s6 hsp => ?_) (fun _ _ z => False.elim z)
          have wipe : ∀ {t6 : L2.St} {K6 : Hp} {Q : Shared → Prop}, L2.Inv (X.suite a ((a, oe4) :: (X.pn ++ pins))) [] t6 K6 s6 → (∀ s7, L2.Inv X pins (t6.set i none) K6 s7 → Q s7) →
              wpAny (model X.prog X.w) X.A (do bindName X.env n .none; unbindBehindTheSuite X.env n hpos) (fun _ s7 => Q s7) X.xe s6 := fun {t6 K6 Q} S6 hq => gone_ok (S6.unsuite okX) nod at_ loc hq
          cases f with
          | next =>
            obtain ⟨t6, K6, S6, q6⟩ := hsp
            exact (wipe S6 fun s7 J7 => ⟨_, _, J7, q6⟩)
          | brk =>
            obtain ⟨t6, K6, S6, q6⟩ := hsp
            exact (wipe S6 fun s7 J7 => ⟨_, _, J7, q6⟩)
          | cont =>
            obtain ⟨t6, K6, S6, q6⟩ := hsp
            exact (wipe S6 fun s7 J7 => ⟨_, _, J7, q6⟩)
          | ret u =>
            obtain ⟨v6, t6, K6, S6, r6, q6⟩ := hsp
            exact (wipe S6 fun s7 J7 => ⟨_, _, _, J7, r6, q6⟩)
        | false =>
          show wpAny _ X.A (handleBy (.ref a) X.env hs3) _ _ _
          exact ih (no rfl)
    exact go cl w
  · cases f with
    | next =>
      obtain ⟨t1, K1, J1, q⟩ := hsp
      exact wpAny_execs_nil ⟨t1, K1, J1.ofTry okX, q⟩
    | brk =>
      obtain ⟨t1, K1, J1, q⟩ := hsp
      exact ⟨t1, K1, J1.ofTry okX, q⟩
    | cont =>
      obtain ⟨t1, K1, J1, q⟩ := hsp
      exact ⟨t1, K1, J1.ofTry okX, q⟩
    | ret u =>
      obtain ⟨v1, t1, K1, J1, r, q⟩ := hsp
      exact ⟨v1, t1, K1, J1.ofTry okX, r, q⟩
/-- an exception of a callee, wished for at every state of the slots that fits -/
def EAll (X : Cx) (W : WX) : XK := fun cls d H' => ∀ t : L2.St, t.length = X.N.length → W cls d t H'
theorem pass_all {W : WX} (tk : Takes X W) : Passes (L2.CX X.prog X.w) X (EAll X W) := fun _ _ _ _ _ _ I c =>
  tk _ _ (XE.of_call I (fun _ _ _ z => z _ I.len) c)
end
end TryAs
end

-- OwnOps5
section
set_option Elab.async false
set_option linter.all false
set_option maxRecDepth 100000
namespace OwnOps
open PySem L2

section
variable {prog : Program} {w : World} {A : Around} {E : Value → Shared → Prop} {s : Shared} {K : PySem.W.Frag} {x C g : Addr} {ox : Obj} {od : Option Obj} {u : Value} {T : String}
/-- x op u by x's own def, u of a built-in type that is told by a look -/
theorem left_K {op : Operator} {fo ro rc : Option Value} {Q : Value → Shared → Prop} (Y : K.In s.heap) (I : PySem.W.InstAt s.heap x ox C od)
    (ht : PySem.W.Looks (model prog w) s.heap (typeOf u) (.type T)) (hc : PySem.W.selfFirst K C = true)
    (hs : PySem.W.findIn K (.ref C) (PySem.dunder op.info.2) = some (some (.ref g))) (hg : PySem.W.isFn K (.ref g) = true)
    (hrc : PySem.W.findIn K (.ref C) (PySem.dunderR op.info.2) = some rc) (hp : rc = none ∨ ∃ q : Addr, rc = some (.ref q))
    (hfo : PySem.W.findIn K (.type T) (PySem.dunder op.info.2) = some fo) (hro : PySem.W.findIn K (.type T) (PySem.dunderR op.info.2) = some ro) (hsub : PySem.W.subIn K (.type T) (.ref C) = some false)
    (h : wpAny (model prog w) A (call (.ref g) [.ref x, u]) (PySem.W.CmpBack Q) E s) : wpAny (model prog w) A (binaryOp op (.ref x) u) Q E s := by
  obtain ⟨dat, tl, hcd, hmro⟩ := PySem.W.ksp_first hc
  rcases hi : op.info with ⟨sy, nam⟩
  rw [hi] at hs hrc hfo hro
  dsimp only at hs hrc hfo hro
  have one := PySem.W.ksp_try Y I hs hg h
  obtain ⟨hh, gg, d, tt, os⟩ := s
  have M1 : PySem.W.Looks (model prog w) hh (typeOf (.ref x)) (.ref C) := I.type
  have M3 : PySem.W.Looks (model prog w) hh (fillsNumberSlot (.ref C) nam) true := PySem.W.fills_K Y hcd hmro hs
  have M4 : PySem.W.Looks (model prog w) hh (fillsNumberSlot (.type T) nam) ((fo.isSome && !isSeqSlot fo) || (ro.isSome && !isSeqSlot ro)) := PySem.W.ksp_fillsT Y hfo hro
  have M5 : PySem.W.Looks (model prog w) hh (isSubtype (.type T) (.ref C)) false := PySem.W.looks_subIn Y hsub
  have M6 : PySem.W.Looks (model prog w) hh (numberSlotInPython (.ref C) nam) true := PySem.W.ksp_inPy Y hs hrc hp
  have M7 : PySem.W.Looks (model prog w) hh (numberSlotInPython (.type T) nam) false := PySem.W.Looks.of_pure rfl
  have M8 : PySem.W.Looks (model prog w) hh (typeLookup (.type T) (PySem.dunderR nam)) ro := PySem.W.looks_findIn Y hro
  generalize ((fo.isSome && !isSeqSlot fo) || (ro.isSome && !isSeqSlot ro)) = fills at M4
  have differ : (Value.ref C == Value.type T) = false := Bool.eq_false_iff.mpr fun q => by cases beq_iff_eq.mp q
  simp only [binaryOp, hi]
  refine wpAny_holding (wpAny_bind ?_)
  unfold binaryOp1
  refine wpAny_bind (M1.at (wpAny_bind (ht.at (wpAny_bind (M3.at ?_)))))
  simp only [differ, Bool.false_eq_true, if_false]
  cases fills
  all_goals
    ksp_lk
    refine wpAny_mono one (fun r s' back => ?_) fun _ _ e => e
    obtain ⟨v, rfl, hq⟩ := back
    ksp_lk
    exact hq
end
end OwnOps
end

-- OwnNe
section
set_option Elab.async false
set_option linter.all false
set_option maxRecDepth 100000
/-! != of two lists that are equal item by item, by an own == too. -/
namespace OwnNe
open PySem PySem.SeqAt GQ
open AutoSeq1 (wpAny_loadPart')
open MeetsSeq MeetsSeq2 MeetsSeq3 SeqRoads2
section
variable {prog : Program} {w : World} {A : Around} {R : Result → Shared → Prop} {E : Value → Shared → Prop}
/-- the loop over the items, from i on: all are equal, so the answer is no -/
theorem loopN (l b : Addr) (N : Nat) (I : Nat → Shared → Prop) (hl : ListI prog w A (fun e s' => R (.error e) s') l b N I) (fin : ∀ s, I N s → R (.ok (.ret (.bool false))) s) :
    ∀ (k i : Nat), N - i = k → i ≤ N → ∀ s, I i s → wpAny (model prog w) A.in1 (Builtin.«list.__eq__.loop» ⟨[.ref l, .ref b, rawInt i, rawInt 3], []⟩) (FinOf prog w A R) (fun e s' => R (.error e) s') s
  | 0, i, hk, hi, s, h => by
    obtain ⟨xs, ys, n, n2, hl1, hb1, z1, z2, _⟩ := hl _ _ h
    have last : i = N := by omega
    have done : R (.ok (.ret (.bool false))) s := fin s (last ▸ h)
    obtain ⟨hp, g, d, tk, os⟩ := s
    wp_walk using wpAny_loadPart' hl1, wpAny_loadPart' hb1
    have no1 : xs[((i : Nat) : Int).toNat]? = none := by simp; omega
    have no2 : ys[((i : Nat) : Int).toNat]? = none := by simp; omega
    rw [no1, no2]
    wp_walk using wpAny_loadPart' hl1, wpAny_loadPart' hb1
    show R (.ok (.ret (.bool (xs.size != ys.size)))) _
    rw [z1, z2]
    simpa using done
  | k + 1, i, hk, hi, s, h => by
    obtain ⟨xs, ys, n, n2, hl1, hb1, z1, z2, one⟩ := hl _ _ h
    have lt1 : i < xs.size := by omega
    have lt2 : i < ys.size := by omega
    have here := one lt1 lt2
    obtain ⟨hp, g, d, tk, os⟩ := s
    wp_walk using wpAny_loadPart' hl1, wpAny_loadPart' hb1
    have is1 : xs[((i : Nat) : Int).toNat]? = some xs[i] := by simp [lt1]
    have is2 : ys[((i : Nat) : Int).toNat]? = some ys[i] := by simp [lt2]
    have up : ((i : Int) + 1) = ((i + 1 : Nat) : Int) := by omega
    rw [is1, is2]
    refine wpAny_bind (wpAny_mono here (fun r s2 q => ?_) fun _ _ x => x)
    obtain ⟨hr, q⟩ := q
    subst hr
    have rest := loopN l b N I hl fin k (i + 1) (by omega) (by omega) s2 q
    obtain ⟨hp2, g2, d2, tk2, os2⟩ := s2
    wp_walk
    rw [up]
    exact ⟨plainId_quiet plain_eq_loop _, codeAny_builtin entry_eq_loop (by rw [Around.under_plainId plain_eq_loop _] <;> exact rest)⟩
theorem listN (l b : Addr) (N : Nat) (I : Nat → Shared → Prop) (hl : ListI prog w A (fun e s' => R (.error e) s') l b N I) (fin : ∀ s, I N s → R (.ok (.ret (.bool false))) s) {s : Shared} (h : I 0 s) :
    wpAny (model prog w) A.in1 (Builtin.«list.__ne__» ⟨[.ref l, .ref b], []⟩) (FinOf prog w A R) (fun e s' => R (.error e) s') s := by
  obtain ⟨xs, ys, n, n2, hl1, hb1, z1, z2, _⟩ := hl _ _ h
  have rest := loopN (A := A) (R := R) l b N I hl fin _ 0 rfl (Nat.zero_le _) s h
  obtain ⟨hp, g, d, tk, os⟩ := s
  have sub := AutoSeq1.sub_list_list
  have same : ¬ (xs.size != ys.size) = true := by simp [z1, z2]
  wp_walk using wpAny_loadPart' hl1, wpAny_loadPart' hb1
  exact ⟨plainId_quiet plain_eq_loop _, codeAny_builtin entry_eq_loop (by rw [Around.under_plainId plain_eq_loop _] <;> exact rest)⟩
theorem rcN {l b : Addr} {N : Nat} {Q : Value → Shared → Prop} {s : Shared} (hu : A.units < cLine) (I : Nat → Shared → Prop) (hl : ListI prog w A E l b N I)
    (fin : ∀ s, I N s → Q (.bool false) s) (h : I 0 s) : wpAny (model prog w) A (richCompare .NotEq (.ref l) (.ref b)) Q E s := by
  obtain ⟨xs, ys, n, n2, hl1, hb1, _, _, _⟩ := hl _ _ h
  refine wpAny_richCompare_same_room (op := .NotEq) ⟨_, hl1, rfl⟩ ⟨_, hb1, rfl⟩ F.slot_list_ne (call_here F.slot_list_ne ⟨_, hl1, rfl⟩ F.entry_list_ne (F.args_list_ne_2 _ _) ?_) hu
  exact listN (R := wants (fun v s' => v ≠ .notImplemented ∧ Q v s') E) l b N I hl (fun s' q => ⟨(fun x => nomatch x), fin s' q⟩) h
end
open L2
/-- x != y of two lists, item by item equal -/
def rNeG (D : Eqv) : R2 := fun x y H Q => DList D x y H ∧ ∀ H', Ext H H' → Q (.bl false) H'
theorem op_neG {X : Cx} {n : Nat} {D : Eqv} (hD : Mon D) (h : EqG X n D) (hr : Room (n + 1) X.A) : OpR X (compareOp .NotEq) (rNeG D) := by
  intro pins s σ H x y v u Q I rx ry hq
  obtain ⟨⟨a, b, xs, ys, rfl, rfl, ha, hb, p⟩, q⟩ := hq
  cases rx
  cases ry
  have sb : Sub X (n + 1) X.A := ⟨hr, rfl⟩
  show wpAny (model X.prog X.w) X.A (richCompare .NotEq (.ref a) (.ref b)) (EP X pins σ Q) X.xe s
  refine rcN (N := xs.length) hr.units0 (fun _ s' => LoopI X pins σ H s') (fun i s' z => ?_) (fun s' ⟨H', I', e⟩ => ⟨.bl false, H', I', rfl, q H' e⟩) ⟨H, I, Ext.rfl'⟩
  obtain ⟨H1, I1, e1⟩ := id z
  obtain ⟨zz, its, k, r, e⟩ := I1.hok a _ (e1 _ _ ha)
  obtain ⟨zz2, its2, k2, r2, e2⟩ := I1.hok b _ (e1 _ _ hb)
  refine ⟨its.toArray, its2.toArray, k, k2, e, e2, by rw [List.size_toArray, ← r.length], by rw [List.size_toArray, ← r2.length, ← p.1], fun h1 h2 => ?_⟩
  exact turnG hD h sb p r r2 i h1 h2 s' z
/-- the same thing -/
def DSame : Eqv := fun x y _ => x = y ∧ ∃ a, x = .ref a
theorem mon_same : Mon DSame := fun _ _ _ _ _ d => d
theorem eqG_same {X : Cx} {n : Nat} : EqG X n DSame := by
  intro A pins s σ H x y u v sb I rx ry d
  obtain ⟨rfl, a, rfl⟩ := d
  cases rx
  cases ry
  exact SeqAt.EqAt.same (A := A) (s := s) (.ref a) X.prog X.w X.xe _ ⟨rfl, H, I, Ext.rfl'⟩
end OwnNe
end

-- OwnNe2
section
set_option Elab.async false
set_option linter.all false
set_option maxRecDepth 100000
namespace OwnNe
open PySem L2
def rNeEmp : R2 := fun x y H Q => ∃ l b xs, x = .ref l ∧ y = .ref b ∧ H l = some (.lst xs) ∧ H b = some (.lst []) ∧ Q (.bl (!xs.isEmpty)) H
/-- a list != [] -/
theorem op_neEmp {X : Cx} (hu : X.A.units < cLine) : OpR X (compareOp .NotEq) rNeEmp := by
  intro pins s σ H x y v u Q I rx ry h
  obtain ⟨l, b, xs, rfl, rfl, hl, hb, q⟩ := h
  cases rx
  cases ry
  obtain ⟨_, its, n, r, _, e⟩ := I.lstM hl
  obtain ⟨_, its2, n2, r2, _, e2⟩ := I.lstM hb
  cases r2
  have L1 : s.heap.IsList l its.toArray := ⟨_, e, rfl, n, rfl⟩
  have L2' : s.heap.IsList b ([] : List Value).toArray := ⟨_, e2, rfl, n2, rfl⟩
  show wpAny (model X.prog X.w) X.A (richCompare .NotEq (.ref l) (.ref b)) (EP X pins σ Q) X.xe s
  cases r with
  | nil => exact PySem.SeqAt.RcNeAt.lists (e := fun _ => true) L1 L2' rfl hu (fun j h1 _ => absurd h1 (by simp)) X.prog X.w X.xe _ ⟨.bl false, H, I, rfl, q⟩
  | cons a r => exact PySem.SeqAt.RcNeAt.lists_lengths L1 L2' (by simp) hu X.prog X.w X.xe _ ⟨.bl true, H, I, rfl, q⟩
end OwnNe
end

-- OwnNe3
section
set_option Elab.async false
set_option linter.all false
set_option maxRecDepth 100000
/-! Either of two rules; != by an own == alone; == of two lists, told as a truth. -/
namespace OwnNe
open PySem PySem.SeqAt GQ L2 OwnOps
open AutoSeq1 (wpAny_loadPart')
open MeetsSeq MeetsSeq2 MeetsSeq3 SeqRoads2
theorem op_or {X : Cx} {f : Value → Value → Sem Value} {r1 r2 : R2} (h1 : OpR X f r1) (h2 : OpR X f r2) : OpR X f (fun x y H Q => r1 x y H Q ∨ r2 x y H Q) := by
  intro pins s σ H x y v u Q I rx ry h
  rcases h with h | h
  · exact h1 pins s σ H x y v u Q I rx ry h
  · exact h2 pins s σ H x y v u Q I rx ry h
section
variable {prog : Program} {w : World} {A : Around} {E : Value → Shared → Prop} {s : Shared} {K : PySem.W.Frag} {x C L f : Addr} {h₀ : Heap} {m : Str → Option Value} {ox : Obj} {od : Option Obj} {b tb : Value}
theorem entry_ne {Q : Fin → Shared → Prop} (hu : A.units < cLine) (X : K.In s.heap) (I : PySem.W.InstAt s.heap x ox C od) (he : PySem.W.findIn K (.ref C) "__eq__" = some (some (.ref f))) (hf : PySem.W.isFn K (.ref f) = true)
    (h : wpAny (model prog w) A (call (.ref f) [.ref x, b]) (fun v s' => ∃ r, v = .bool r ∧ Q (.done (.ret (.bool (!r)))) s') E s) :
    wpAny (model prog w) A (Builtin.«object.__ne__» ⟨[.ref x, b], []⟩) Q E s := by
  unfold Builtin.«object.__ne__»
  repeat (first
    | with_reducible refine wpAny_cRoomFor hu ?_
    | (refine wpAny_bind (m := callSpecialIfBound? (.ref x) (Str.ofString "__eq__") [b])
        (PySem.W.ifBound_K X I he hf (wpAny_mono h (fun r s' hr => by
          obtain ⟨b, rfl, hq⟩ := hr
          repeat (first | exact hq | exact wpAny_pure hq | exact wpAny_truthy_bool hq | (refine wpAny_bind (m := truthy (.bool _)) (wpAny_truthy_bool ?_)) | wp_step)) fun _ _ e => e)))
    | wp_step)
theorem ifBound_ne {M : Model} {args : List Value} {Q : Option Value → Shared → Prop} (X : K.In s.heap) (I : PySem.W.InstAt s.heap x ox C od) (hs : PySem.W.findIn K (.ref C) "__ne__" = some (some (.builtin "object.__ne__")))
    (h : wpAny M A (call (.builtin "object.__ne__") (.ref x :: args)) (fun v => Q (some v)) E s) : wpAny M A (callSpecialIfBound? (.ref x) "__ne__" args) Q E s := by
  simp only [callSpecialIfBound?, bindSpecialIfBound?]
  refine wpAny_holding (wpAny_bind (wpAny_bind (wpAny_bind (I.type.here ((PySem.W.looks_findIn X hs).here ?_)))))
  refine wpAny_bind (wpAny_askSetting (wpAny_ite ?_))
  have fin : wpAny M A (call (.builtin "object.__ne__") ([.ref x] ++ args) >>= fun v => pure (some v)) Q E s := wpAny_bind (wpAny_mono h (fun v s' h' => wpAny_pure h') fun _ _ h' => h')
  split
  · exact wpAny_bind (wpAny_of_eq (F.cmp_object.ne.bind _) (wpAny_pure (by exact fin)))
  · exact wpAny_tryCatch (wpAny_bind (wpAny_of_eq (F.cmp_object.ne.bind _) (wpAny_pure (by exact fin))))
/-- x != b by x's own ==: the class has no != of its own -/
theorem rc_neK {Q : Value → Shared → Prop} (hu : A.units + 1 < cLine) (X : K.In s.heap) (I : PySem.W.InstAt s.heap x ox C od) (hb : PySem.W.Looks (model prog w) s.heap (typeOf b) tb) (hn : PySem.W.notFirst K C tb = true)
    (hm : PySem.W.mroIn K C (.type "object") = some true) (hs : PySem.W.findIn K (.ref C) "__ne__" = some (some (.builtin "object.__ne__"))) (he : PySem.W.findIn K (.ref C) "__eq__" = some (some (.ref f))) (hf : PySem.W.isFn K (.ref f) = true)
    (h : wpAny (model prog w) A.in1 (call (.ref f) [.ref x, b]) (fun v s' => ∃ r, v = .bool r ∧ Q (.bool (!r)) s') E s) : wpAny (model prog w) A (richCompare .NotEq (.ref x) b) Q E s := by
  have one : wpAny (model prog w) A (tryCompare (.ref x) (cmpInfo .NotEq).2.1 b) (fun r s' => ∃ v, r = some v ∧ Q v s') E s := by
    show wpAny (model prog w) A (tryCompare (.ref x) "__ne__" b) _ E s
    unfold tryCompare
    refine wpAny_bind (ifBound_ne X I hs (wpAny_call (codeAny_call_builtin F.cmp_object.ne.plain F.cmpEntry_ne
      (PySem.W.check_slot F.cmpKind_ne F.cmpSplit_ne (I.type.andThen (PySem.W.looks_mroIn X hm)) (F.cmpArgs_ne _ _) (entry_ne (A := A.in1) hu X I he hf (wpAny_mono h (fun v s' hv => ?_) fun _ _ e => e))))))
    obtain ⟨r, rfl, q⟩ := hv
    first
      | exact ⟨r, rfl, wpAny_pure ⟨_, rfl, q⟩⟩
      | exact ⟨r, rfl, wpAny_pure (wpAny_pure ⟨_, rfl, q⟩)⟩
      | exact ⟨r, rfl, ⟨_, rfl, q⟩⟩
  unfold richCompare
  simp only [oneThing_ref]
  refine wpAny_holding (wpAny_bind (wpAny_cRoomFor (by omega) ?_))
  refine wpAny_bind (I.type.here (wpAny_bind (hb.here ?_)))
  split
  · rename_i q
    have e : PySem.W.subIn K tb (.ref C) = some false := by
      rcases Bool.or_eq_true_iff.mp hn with e | e
      · rw [beq_iff_eq.mp e] at q; simp at q
      · exact beq_iff_eq.mp e
    refine wpAny_bind ((PySem.W.looks_subIn X e).here ?_)
    simp only [Bool.false_eq_true, if_false]
    refine wpAny_bind (wpAny_mono one (fun r s' z => ?_) fun _ _ e => e)
    obtain ⟨v, rfl, hq⟩ := z
    exact wpAny_pure hq
  · refine wpAny_bind (wpAny_pure ?_)
    simp only [Bool.false_eq_true, if_false]
    refine wpAny_bind (wpAny_mono one (fun r s' z => ?_) fun _ _ e => e)
    obtain ⟨v, rfl, hq⟩ := z
    exact wpAny_pure hq
end
/-- x != y by x's own == -/
def rNeOwn (C : Addr) (R : V → Hp → Prop) (sp : Sp) (E : XK) : R2 := fun x y H Q => ∃ a dx fs, x = .ref a ∧ H a = some (.ins C dx fs) ∧ R y H ∧ sp [x, y] H (fun v H' => ∃ r, v = .bl r ∧ Q (.bl (!r)) H') E
theorem op_neOwn {X : Cx} {CX : CXT} {C g : Addr} {k : Nat} {fd : FuncData} {ps : List Str} {sp : Sp} {E : XK} (hm : PySem.W.mroIn X.K C (.type "object") = some true) (hn : PySem.W.findIn X.K (.ref C) "__ne__" = some (some (.builtin "object.__ne__")))
    (hs : PySem.W.findIn X.K (.ref C) "__eq__" = some (some (.ref g))) (hf : PySem.W.isFn X.K (.ref g) = true)
    (F : FnOk X.prog X.w X.K X.mg X.base CX k g fd ps sp) (hr : Room (k + 1) X.A) (hb : Binds X.K fd ps []) (hx : Passes CX X E)
    {R : V → Hp → Prop} (hR : ∀ {y : V} {H : Hp} {u : Value} {pins : List (Addr × Obj)} {σ : L2.St} {s : Shared}, L2.Inv X pins σ H s → R y H → RelV y u → ∃ tb, PySem.W.Looks (model X.prog X.w) s.heap (typeOf u) tb ∧ PySem.W.notFirst X.K C tb = true) :
    OpR X (compareOp .NotEq) (rNeOwn C R sp E) := by
  intro pins s σ H x y v u Q I rx ry h
  obtain ⟨a, dx, fs, rfl, ha, hy, q⟩ := h
  cases (show v = Value.ref a from rx)
  obtain ⟨od, J⟩ := inst_at I ha
  obtain ⟨tb, ht, hn2⟩ := hR I hy ry
  show wpAny (model X.prog X.w) X.A (richCompare .NotEq (.ref a) u) (EP X pins σ Q) X.xe s
  refine rc_neK (show X.A.units + 1 < cLine from hr.in1.units0) I.kIn J ht hn2 hm hn hs hf ?_
  refine wpAny_mono (run_any (us := [.ref a, u]) (vs := [.ref a, y]) F hr.in1 I.env0.in1 hb hx I (.cons rfl (.cons ry .nil)) q) (fun w s' z => ?_) fun _ _ e => e
  obtain ⟨z', H', I', rz, r, rfl, qz⟩ := id z
  cases (show w = Value.bool r from rz)
  exact ⟨r, rfl, .bl (!r), H', I', rfl, qz⟩
section
variable {prog : Program} {w : World} {A : Around} {R : Result → Shared → Prop} {E : Value → Shared → Prop}
/-- at each turn the two lists are read anew: N items each, the i-th two equal as r i says -/
def ListB (prog : Program) (w : World) (A : Around) (E : Value → Shared → Prop) (l b : Addr) (N : Nat) (r : Nat → Bool) (I : Nat → Shared → Prop) : Prop :=
  ∀ i s, I i s → ∃ (xs ys : Array Value) (n n2 : Nat), s.heap.get? l = some { cls := .type "list", data := .seq xs n } ∧ s.heap.get? b = some { cls := .type "list", data := .seq ys n2 } ∧ xs.size = N ∧ ys.size = N ∧
    ∀ (h1 : i < xs.size) (h2 : i < ys.size), wpAny (model prog w) A.in1 (eqBool xs[i] ys[i]) (fun q s' => q = r i ∧ I (i + 1) s') E s
theorem loopB (l b : Addr) (N : Nat) (r : Nat → Bool) (I : Nat → Shared → Prop) (hl : ListB prog w A (fun e s' => R (.error e) s') l b N r I)
    (fin : (∀ j, j < N → r j = true) → ∀ s, I N s → R (.ok (.ret (.bool true))) s) (bad : ∀ j, j < N → r j = false → ∀ s, I (j + 1) s → R (.ok (.ret (.bool false))) s) :
    ∀ (k i : Nat), N - i = k → i ≤ N → (∀ j, j < i → r j = true) → ∀ s, I i s → wpAny (model prog w) A.in1 (Builtin.«list.__eq__.loop» ⟨[.ref l, .ref b, rawInt i, rawInt 2], []⟩) (FinOf prog w A R) (fun e s' => R (.error e) s') s
  | 0, i, hk, hi, all, s, h => by
    obtain ⟨xs, ys, n, n2, hl1, hb1, z1, z2, _⟩ := hl _ _ h
    have last : i = N := by omega
    have done : R (.ok (.ret (.bool true))) s := fin (fun j hj => all j (by omega)) s (last ▸ h)
    obtain ⟨hp, g, d, tk, os⟩ := s
    wp_walk using wpAny_loadPart' hl1, wpAny_loadPart' hb1
    have no1 : xs[((i : Nat) : Int).toNat]? = none := by simp; omega
    have no2 : ys[((i : Nat) : Int).toNat]? = none := by simp; omega
    rw [no1, no2]
    wp_walk using wpAny_loadPart' hl1, wpAny_loadPart' hb1
    show R (.ok (.ret (.bool (xs.size == ys.size)))) _
    rw [z1, z2]
    simpa using done
  | k + 1, i, hk, hi, all, s, h => by
    obtain ⟨xs, ys, n, n2, hl1, hb1, z1, z2, one⟩ := hl _ _ h
    have lt1 : i < xs.size := by omega
    have lt2 : i < ys.size := by omega
    have here := one lt1 lt2
    obtain ⟨hp, g, d, tk, os⟩ := s
    wp_walk using wpAny_loadPart' hl1, wpAny_loadPart' hb1
    have is1 : xs[((i : Nat) : Int).toNat]? = some xs[i] := by simp [lt1]
    have is2 : ys[((i : Nat) : Int).toNat]? = some ys[i] := by simp [lt2]
    have up : ((i : Int) + 1) = ((i + 1 : Nat) : Int) := by omega
    rw [is1, is2]
    refine wpAny_bind (wpAny_mono here (fun q s2 hq => ?_) fun _ _ x => x)
    obtain ⟨hr, hq⟩ := hq
    subst hr
    cases hb : r i with
    | true =>
      have rest := loopB l b N r I hl fin bad k (i + 1) (by omega) (by omega) (fun j hj => if e : j = i then by rw [e]; exact hb else all j (by omega)) s2 hq
      obtain ⟨hp2, g2, d2, tk2, os2⟩ := s2
      wp_walk
      rw [up]
      exact ⟨plainId_quiet plain_eq_loop _, codeAny_builtin entry_eq_loop (by rw [Around.under_plainId plain_eq_loop _] <;> exact rest)⟩
    | false =>
      have done := bad i (by omega) hb s2 hq
      obtain ⟨xs2, ys2, m, m2, hl2, hb2, z3, z4, _⟩ := hl _ _ hq
      have is3 : xs2[((i : Nat) : Int).toNat]? = some (xs2[i]'(by omega)) := by
        have : i < xs2.size := by omega
        simp [this]
      have is4 : ys2[((i : Nat) : Int).toNat]? = some (ys2[i]'(by omega)) := by
        have : i < ys2.size := by omega
        simp [this]
      obtain ⟨hp2, g2, d2, tk2, os2⟩ := s2
      wp_walk using wpAny_loadPart' hl2, wpAny_loadPart' hb2
      rw [is3, is4]
      wp_walk
      exact done
theorem listB (l b : Addr) (N : Nat) (r : Nat → Bool) (I : Nat → Shared → Prop) (hl : ListB prog w A (fun e s' => R (.error e) s') l b N r I)
    (fin : (∀ j, j < N → r j = true) → ∀ s, I N s → R (.ok (.ret (.bool true))) s) (bad : ∀ j, j < N → r j = false → ∀ s, I (j + 1) s → R (.ok (.ret (.bool false))) s) {s : Shared} (h : I 0 s) :
    wpAny (model prog w) A.in1 (Builtin.«list.__eq__» ⟨[.ref l, .ref b], []⟩) (FinOf prog w A R) (fun e s' => R (.error e) s') s := by
  obtain ⟨xs, ys, n, n2, hl1, hb1, z1, z2, _⟩ := hl _ _ h
  have rest := loopB (A := A) (R := R) l b N r I hl fin bad _ 0 rfl (Nat.zero_le _) (fun j hj => absurd hj (by omega)) s h
  obtain ⟨hp, g, d, tk, os⟩ := s
  have sub := AutoSeq1.sub_list_list
  have same : ¬ (xs.size != ys.size) = true := by simp [z1, z2]
  wp_walk using wpAny_loadPart' hl1, wpAny_loadPart' hb1
  exact ⟨plainId_quiet plain_eq_loop _, codeAny_builtin entry_eq_loop (by rw [Around.under_plainId plain_eq_loop _] <;> exact rest)⟩
theorem rcB {l b : Addr} {N : Nat} {Q : Value → Shared → Prop} {s : Shared} (hu : A.units < cLine) (r : Nat → Bool) (I : Nat → Shared → Prop) (hl : ListB prog w A E l b N r I)
    (fin : (∀ j, j < N → r j = true) → ∀ s, I N s → Q (.bool true) s) (bad : ∀ j, j < N → r j = false → ∀ s, I (j + 1) s → Q (.bool false) s) (h : I 0 s) : wpAny (model prog w) A (richCompare .Eq (.ref l) (.ref b)) Q E s := by
  obtain ⟨xs, ys, n, n2, hl1, hb1, _, _, _⟩ := hl _ _ h
  refine wpAny_richCompare_same_room (op := .Eq) ⟨_, hl1, rfl⟩ ⟨_, hb1, rfl⟩ F.slot_list_eq (call_here F.slot_list_eq ⟨_, hl1, rfl⟩ F.entry_list_eq (F.args_list_eq_2 _ _) ?_) hu
  exact listB (R := wants (fun v s' => v ≠ .notImplemented ∧ Q v s') E) l b N r I hl (fun a s' q => ⟨(fun x => nomatch x), fin a s' q⟩) (fun j a b s' q => ⟨(fun x => nomatch x), bad j a b s' q⟩) h
end
/-- == gives what D says, and only makes objects -/
def EqB (X : Cx) (n : Nat) (D : V → V → Hp → Bool → Prop) : Prop :=
  ∀ (A : Around) (pins : List (Addr × Obj)) (s : Shared) (σ : L2.St) (H : Hp) (x y : V) (u v : Value) (b : Bool), Sub X n A → Inv X pins σ H s → RelV x u → RelV y v → D x y H b →
    wpAny (model X.prog X.w) A (eqBool u v) (fun r s' => r = b ∧ ∃ H', Inv X pins σ H' s' ∧ Ext H H') X.xe s
theorem EqB.eqG {X : Cx} {n : Nat} {D : V → V → Hp → Bool → Prop} (h : EqB X n D) : EqG X n (fun x y H => D x y H true) := fun A pins s σ H x y u v sb I rx ry d => h A pins s σ H x y u v true sb I rx ry d
/-- x == y of two lists of the same length -/
def rEqB (D : V → V → Hp → Bool → Prop) : R2 := fun x y H Q => ∃ a b xs ys, x = .ref a ∧ y = .ref b ∧ H a = some (.lst xs) ∧ H b = some (.lst ys) ∧ xs.length = ys.length ∧ ∃ r : Nat → Bool,
  (∀ (i : Nat) x y, xs[i]? = some x → ys[i]? = some y → D x y H (r i)) ∧ ∀ H' c, Ext H H' → (c = true ↔ ∀ j, j < xs.length → r j = true) → Q (.bl c) H'
theorem op_eqB {X : Cx} {n : Nat} {D : V → V → Hp → Bool → Prop} (hD : ∀ x y H H' b, Ext H H' → D x y H b → D x y H' b) (h : EqB X n D) (hr : Room (n + 1) X.A) : OpR X (compareOp .Eq) (rEqB D) := by
  intro pins s σ H x y v u Q I rx ry hq
  obtain ⟨a, b, xs, ys, rfl, rfl, ha, hb, len, r, p, q⟩ := hq
  cases rx
  cases ry
  have sb : Sub X (n + 1) X.A := ⟨hr, rfl⟩
  show wpAny (model X.prog X.w) X.A (richCompare .Eq (.ref a) (.ref b)) (EP X pins σ Q) X.xe s
  refine rcB (N := xs.length) hr.units0 r (fun _ s' => LoopI X pins σ H s') (fun i s' z => ?_) (fun al s' ⟨H', I', e⟩ => ⟨.bl true, H', I', rfl, q H' true e ⟨fun _ => al, fun _ => rfl⟩⟩)
    (fun j hj rj s' ⟨H', I', e⟩ => ⟨.bl false, H', I', rfl, q H' false e ⟨fun z => (nomatch z), fun al => by rw [al j hj] at rj; cases rj⟩⟩) ⟨H, I, Ext.rfl'⟩
  obtain ⟨H1, I1, e1⟩ := id z
  obtain ⟨zz, its, k, rr, e⟩ := I1.hok a _ (e1 _ _ ha)
  obtain ⟨zz2, its2, k2, rr2, e2⟩ := I1.hok b _ (e1 _ _ hb)
  refine ⟨its.toArray, its2.toArray, k, k2, e, e2, by rw [List.size_toArray, ← rr.length], by rw [List.size_toArray, ← rr2.length, ← len], fun h1 h2 => ?_⟩
  have g1 : its[i]? = some its.toArray[i] := by
    have h1' : i < its.length := by simpa using h1
    rw [List.getElem?_eq_getElem h1'] <;> simp
  have g2 : its2[i]? = some its2.toArray[i] := by
    have h2' : i < its2.length := by simpa using h2
    rw [List.getElem?_eq_getElem h2'] <;> simp
  have k1 : i < xs.length := by rw [rr.length]; simpa using h1
  have k3 : i < ys.length := by rw [rr2.length]; simpa using h2
  obtain ⟨u, hu, ru⟩ := rr.get (List.getElem?_eq_getElem k1)
  obtain ⟨v, hv, rv⟩ := rr2.get (List.getElem?_eq_getElem k3)
  rw [g1] at hu
  rw [g2] at hv
  rw [Option.some.inj hu, Option.some.inj hv]
  refine wpAny_mono (h X.A.in1 pins s' σ H1 _ _ u v _ sb.in1 I1 ru rv (hD _ _ _ _ _ e1 (p i _ _ (List.getElem?_eq_getElem k1) (List.getElem?_eq_getElem k3)))) (fun r' s2 q' => ?_) fun _ _ x => x
  obtain ⟨hr', H2, I2, e2'⟩ := q'
  exact ⟨hr', H2, I2, e1.trans e2'⟩
end OwnNe
end

-- ErrVal
section
set_option Elab.async false
set_option linter.all false
set_option maxRecDepth 100000
set_option maxHeartbeats 2000000
/-! An own error with the field `given`, held as a value. -/
namespace L2
open PySem PySem.Spec PyProof.Rows
/-- an error of the class cls at e, its dict at d -/
def ExG (cls : Value) (e d : Addr) : HO := .ext fun h => ∃ (oe : Obj) (vs : Array Value), h.get? e = some oe ∧ Zc cls (some d) oe ∧ oe.data = .fields vs ∧ vs[1]? = some .none
section
variable {X : Cx} {C fI : Addr} {cn qn : Str} {B newId initId : String} {bt : List Value}
/-- Err(x), as a value -/
theorem pe_mkGiv {a : Expr} {ta : TA} {p pos : Pos} {k : Nat} (Z : PySem.Giv.BaseOk B newId initId bt) (T : PySem.Giv.ErrTxt X.K X.mg cn qn newId bt C fI) (hr : Room k X.A) (ha : PA X [a] ta) (hg : Gl X cn) (hdb : (cn == ("__debug__" : Str)) = false := by decide)
    (he : starEach (a :: []) X.env = (false, eval a X.env) :: starEach [] X.env := by rfl) (hpl : (backTo pos (starEach [] X.env)).any (·.1) = false := by rfl) :
    PE X (.Call (.Name cn p) [a] [] pos) (fun σ H Q => ta σ H fun vs H1 => ∃ v, vs = [v] ∧ ∀ e d, H1 e = none → H1 d = none → d ≠ e → Q (.ref e) (upd (upd H1 d (.xd [(("given" : Str), v)])) e (ExG (.ref C) e d))) := by
  refine ⟨fun pins s σ H Q I h => ?_⟩
  refine wpAny_Call_Name_kw (ld_glob I hg T.gC ?_ hdb)
  refine PySem.W.callWith_K (h₀ := X.base) I.ok.mod.kin T.kC (thn (ha.run pos pins s σ H _ I h) fun us s1 hh => ?_) he hpl
  obtain ⟨vs, H1, I1, r1, v, ev, q1⟩ := hh
  subst ev
  refine ⟨I1.kIn, ?_⟩
  cases r1 with
  | cons rv rn =>
    rename_i v' us'
    cases rn
    show wpAny _ _ (call (.ref C) [v']) _ _ _
    have hlim := I1.nolimit
    obtain ⟨hp, g, dr, tk, os⟩ := s1
    refine wpAny_call (PySem.Giv.giv_made Z T I1.kIn hlim (by have := hr.dp; omega) fun h' tk' e d M => ?_)
    show EP X pins σ Q (.ref e) ⟨h', g, dr, tk', os⟩
    obtain ⟨oe, fv, hoe, hc, hd, hdat, h1⟩ := M.obj
    have hns := M.ns
    obtain ⟨G', g1, g2⟩ := restrict h' fun b => decide (b ≠ e)
    have gk : ∀ b, b ≠ e → G'.get? b = h'.get? b := fun b hb => g1 b (decide_eq_true hb)
    have ge : G'.get? e = none := g2 e (by simp)
    have old : ∀ b o, hp.get? b = some o → G'.get? b = some o := fun b o q => (gk b (Nat.ne_of_lt (Nat.lt_of_lt_of_le (Heap.lt_size q) M.new))).trans (M.keep b o q)
    have ob : ObjOk X.prog X.w (upd H1 d (.xd [(("given" : Str), v)])) G' d (.xd [(("given" : Str), v)]) :=
      ⟨_, hns.at (fun o q => (gk d M.dne).trans q), fun f => relO_giv rv f⟩
    have J : L2.Inv X pins σ (upd H1 d (.xd [(("given" : Str), v)])) ⟨G', g, dr, tk', os⟩ := I1.laid (t' := tk') old M.dbig ob
    have en : (upd H1 d (.xd [(("given" : Str), v)])) e = none := by
      rw [upd_ne (Ne.symm M.dne)]
      exact I1.hok.fresh M.new
    have J2 : L2.Inv X pins σ (upd (upd H1 d (.xd [(("given" : Str), v)])) e (ExG (.ref C) e d)) ⟨h', g, dr, tk', os⟩ := J.laidN (t' := tk') (fun b o q => by
      by_cases hb : b = e
      · rw [hb, ge] at q; cases q
      · exact (gk b hb).symm.trans q) ge en ⟨⟨oe, fv, hoe, ⟨hc, hd⟩, hdat, h1⟩, ⟨oe, hoe⟩, fun _ _ ⟨o, u, q, r⟩ k => ⟨o, u, k o q, r⟩⟩
    exact ⟨.ref e, _, J2, rfl, q1 e d (I1.hok.fresh M.new) (I1.hok.fresh M.dbig) M.dne⟩
/-- err.given, err an error held as a value -/
theorem pe_givVal {e : Expr} {te : TE} {pos : Pos} (T : PySem.Giv.ErrTxt X.K X.mg cn qn newId bt C fI) (he : PE X e te) (hb : attributeBase e "given" X.env (eval e X.env) = eval e X.env := by rfl) :
    PE X (.Attribute e "given" pos) (fun σ H Q => te σ H fun x H1 => ∃ a d v, x = .ref a ∧ H1 a = some (ExG (.ref C) a d) ∧ H1 d = some (.xd [(("given" : Str), v)]) ∧ Q v H1) := by
  refine ⟨fun pins s σ H Q I h => ?_⟩
  refine attr_of hb (thn (he.run pins s σ H _ I h) fun u s1 hh => ?_)
  obtain ⟨x, H1, I1, rx, a, d, v, ex, ea, ed, q⟩ := hh
  subst ex
  obtain rfl : u = Value.ref a := rx
  obtain ⟨⟨oe, vs, ha, hz, hd, h1⟩, _, _⟩ := (show ObjOk X.prog X.w H1 s1.heap a (ExG (.ref C) a d) from I1.hok a _ ea)
  have hx : ObjOk X.prog X.w H1 s1.heap d (.xd [(("given" : Str), v)]) := I1.hok d _ ed
  obtain ⟨mA, hns, hr⟩ := hx
  obtain ⟨od, ho, hl⟩ := lookIn_ns hns
  have l : List.lookup ("given" : Str) [(("given" : Str), v)] = some v := by simp [List.lookup]
  obtain ⟨u, hu, ru⟩ := RelO.some_of (v := v) (o := mA "given") (by rw [← l]; exact hr "given")
  have J : PySem.W.InstAt s1.heap a oe C (some od) := ⟨ha, hz.1, by unfold PySem.W.notCls; rw [hd] <;> rfl, by rw [hz.2]; exact ho⟩
  exact HandSPX.exc_get I1.kIn J T.ga T.gg T.exC (PySem.W.findObj_own T.hdC T.noN rfl (by rw [hl, hu])) (handed_of ru) ⟨v, H1, I1.tok _, ru, q⟩
end
end L2
end

-- ErrVal2
section
set_option Elab.async false
set_option linter.all false
set_option maxRecDepth 100000
/-! isinstance of an error held as a value. -/
namespace L2
open PySem PySem.Spec PyProof.Rows
/-- what is known of the error class at C for isinstance -/
structure KitG (K : PySem.W.Frag) (C : Addr) : Prop where
  ic : PySem.W.isClsIn K C = true
  ga : PySem.W.findIn K (.ref C) "__getattribute__" = some (some (.builtin "BaseException.__getattribute__"))
  gg : ∃ gt, PySem.W.findIn K (.ref C) "__getattr__" = some gt
  ex : PySem.W.subIn K (.ref C) (.type "BaseException") = some true
  ha : PySem.W.findIn K (.ref C) "__class__" = some (some (.builtin "object.__class__"))
  hn : PySem.W.specialIn K (.builtin "object.__class__") "__get__" = some (some (.builtin "getset_descriptor.__get__"))
  htk : PySem.W.takesIn K (.builtin "object.__class__") = some true
  hm : PySem.W.mroIn K C (.type "object") = some true
def rIsiG (K : PySem.W.Frag) : List V → Hp → VK → Prop := fun xs H Q => ∃ (a d C : Addr) (fs : List (Str × V)) (c : V) (u : Value) (b : Bool), xs = [.ref a, c] ∧ H a = some (ExG (.ref C) a d) ∧ H d = some (.xd fs) ∧ KitG K C ∧ ClsV c u ∧ PySem.W.kitOne K (.ref C) u = some b ∧ Q (.bl b) H
theorem call_isiG {X : Cx} : CallR X (.builtin "isinstance") (rIsiG X.K) := by
  intro pins s σ H xs us Q I r h
  obtain ⟨a, d, C, fs, c, u, b, rfl, ea, ed, G, k, e, q⟩ := h
  obtain ⟨u1, u2, rfl, r1, r2⟩ := vals2 r
  cases (show u1 = Value.ref a from r1)
  have e2 := k.eq r2
  subst e2
  obtain ⟨⟨oe, vs, ha, hz, hd, h1⟩, _, _⟩ := (show ObjOk X.prog X.w H s.heap a (ExG (.ref C) a d) from I.hok a _ ea)
  have hx : ObjOk X.prog X.w H s.heap d (.xd fs) := I.hok d _ ed
  obtain ⟨mA, hns, hr⟩ := hx
  obtain ⟨od, ho, hl⟩ := lookIn_ns hns
  have J : PySem.W.InstAt s.heap a oe C (some od) := ⟨ha, hz.1, by unfold PySem.W.notCls; rw [hd] <;> rfl, by rw [hz.2]; exact ho⟩
  obtain ⟨gt, hgt⟩ := G.gg
  exact PySem.W.kia_one (PySem.W.kitx_exc (ox := oe) (od := some od) G.ic G.ga hgt G.ex G.ha G.hn G.htk G.hm) I.kIn J e (fun z => nomatch z) fun tk => ⟨.bl b, H, I.tok tk, rfl, q⟩
end L2
end

-- OwnTry
section
set_option Elab.async false
set_option linter.all false
set_option maxRecDepth 100000
/-! Calls whose exception is wished for at just these slots; isinstance of a held error with a dict. -/
namespace OwnTry
open PySem L2
/-- W at the slots σ -/
def EA (W : WX) (σ : L2.St) : XK := fun cls d H' => W cls d σ H'
section
variable {X : Cx} {k : Nat} {f C : Addr} {fd : FuncData} {ps : List Str} {sp : Sp} {dvs : List V} {ds : List Value} {W : WX} {x m : Str} {p pos apos : Pos} {e o : Expr} {es : List Expr} {ta : TE} {t : TA}
theorem out_at {pins : List (Addr × Obj)} {σ : L2.St} {H : Hp} {s : Shared} (tk : Takes X W) (I : L2.Inv X pins σ H s) {u : Value} {s' : Shared} (c : L2.CX X.prog X.w X.stack H s (EA W σ) u s') : X.xe u s' :=
  tk _ _ (XE.of_call I (fun _ _ _ z => z) c)
/-- a def called, W wished for if it raises -/
theorem run_at {A : Around} {pins : List (Addr × Obj)} {σ : L2.St} {H : Hp} {s : Shared} {Q : VK} {us : List Value} {vs : List V} (F : FnOk X.prog X.w X.K X.mg X.base (L2.CX X.prog X.w) k f fd ps sp) (room : Room k A)
    (e0 : Env0 X.prog X.w X.K X.mg X.base A X.stack s H) (bi : L2.Binds X.K fd ps ds) (dv : Vals dvs ds) (tk : Takes X W)
    (I : L2.Inv X pins σ H s) (rel : Vals vs us) (h : sp (vs ++ dvs) H Q (EA W σ)) : wpAny (model X.prog X.w) A (call (.ref f) us) (EP X pins σ Q) X.xe s := by
  have both := rel.append dv
  have size : (us ++ ds).length = ps.length := both.length.symm.trans (F.len _ _ _ _ h)
  have body := F.run A X.stack s H ⟨us, []⟩ (us ++ ds) (vs ++ dvs) Q (EA W σ) room e0 (bi s us I.kIn size) both h
  refine wpAny_call (codeAny_mono body fun res s' got => ?_)
  match res, got with
  | .error u, got => exact out_at tk I got
  | .ok (.ret u), got => exact I.after got
  | .ok .next, got => exact got.elim
  | .ok .brk, got => exact got.elim
  | .ok .cont, got => exact got.elim
/-- o.m(e, ..) in a try -/
def tMethA (C : Addr) (m : Str) (sp : Sp) (dvs : List V) (W : WX) (ta : TE) (t : TA) : TE := fun σ H Q => ta σ H fun x H1 => ∃ a dx fs, x = .ref a ∧ H1 a = some (.ins C dx fs) ∧ fs.lookup m = none ∧ t σ H1 fun vs H2 => sp (.ref a :: (vs ++ dvs)) H2 Q (EA W σ)
theorem pe_methA {pl : Sem Bool} (he : PE X o ta) (c : Cls X.K C) (hm : Meth X.K C m f) (F : FnOk X.prog X.w X.K X.mg X.base (L2.CX X.prog X.w) k f fd ps sp) (room : Room k X.A) (bi : L2.Binds X.K fd ps ds) (dv : Vals dvs ds) (tk : Takes X W) (ha : PA X (e :: es) t)
    (hst : starEach (e :: es) X.env = (false, eval e X.env) :: starEach es X.env := by rfl) (hpl : (backTo pos (starEach es X.env)).any (·.1) = false := by rfl)
    (ht : eval (.Call (.Attribute o m apos) (e :: es) [] pos) X.env = (do
      let ov ← eval o X.env
      standAt apos.atName
      let (f, first) ← holding [ov] (getMethod ov m pl)
      callWith pos f first (backTo pos (starEach (e :: es) X.env)) (backToKw pos (keywordEach [] X.env))) := by rfl) :
    PE X (.Call (.Attribute o m apos) (e :: es) [] pos) (tMethA C m sp dvs W ta t) := by
  refine ⟨fun pins s σ H Q I h => ?_⟩
  refine PySem.W.methodCall_KW (pl := pl) (thn (he.run pins s σ H _ I h) fun u s1 hh => ?_) ht
  obtain ⟨x, H1, I1, rx, a, dx, fs, ex, ea, l, q⟩ := hh
  subst ex
  obtain rfl : u = Value.ref a := rx
  refine getmeth_ok I1 ea c hm l ?_
  refine PySem.W.callWith_K (first := [.ref a]) (h₀ := X.base) I.ok.mod.kin hm.kp (thn (ha.run pos pins s1 σ H1 _ I1 q) fun us s2 h2 => ?_) hst hpl
  obtain ⟨vs, H2, I2, r, q2⟩ := h2
  exact ⟨I2.kIn, run_at (us := .ref a :: us) (vs := .ref a :: vs) F room I2.env0 bi dv tk I2 (.cons rfl r) q2⟩
end
/-- isinstance(e, c), e the error with a dict that the suite holds -/
def rIsiH (K : PySem.W.Frag) (a : Addr) (cls : Value) (d : Option Addr) : List V → Hp → VK → Prop := fun xs H Q => ∃ (C dd : Addr) (fs : List (Str × V)) (c : V) (u : Value) (b : Bool),
  xs = [.ref a, c] ∧ cls = .ref C ∧ d = some dd ∧ H dd = some (.xd fs) ∧ KitG K C ∧ ClsV c u ∧ PySem.W.kitOne K (.ref C) u = some b ∧ Q (.bl b) H
theorem call_isiH {X : Cx} {a : Addr} {oe : Obj} {cls : Value} {d : Option Addr} {pn : List (Addr × Obj)} (hz : Zc cls d oe) (hf : ∃ vs, oe.data = .fields vs) : CallR (X.suite a ((a, oe) :: pn)) (.builtin "isinstance") (rIsiH X.K a cls d) := by
  intro pins s σ H xs us Q I r h
  obtain ⟨C, dd, fs, c, u, b, rfl, rfl, rfl, ed, G, k, e, q⟩ := h
  obtain ⟨u1, u2, rfl, r1, r2⟩ := vals2 r
  cases (show u1 = Value.ref a from r1)
  have e2 := k.eq r2
  subst e2
  obtain ⟨ha, _⟩ := I.pin (a, oe) (List.mem_append_left _ List.mem_cons_self)
  obtain ⟨vs, hd⟩ := hf
  have hx : ObjOk X.prog X.w H s.heap dd (.xd fs) := I.hok dd _ ed
  obtain ⟨mA, hns, hr⟩ := hx
  obtain ⟨od, ho, hl⟩ := lookIn_ns hns
  have J : PySem.W.InstAt s.heap a oe C (some od) := ⟨ha, hz.1, by unfold PySem.W.notCls; rw [hd] <;> rfl, by rw [hz.2]; exact ho⟩
  obtain ⟨gt, hgt⟩ := G.gg
  exact PySem.W.kia_one (PySem.W.kitx_exc (ox := oe) (od := some od) G.ic G.ga hgt G.ex G.ha G.hn G.htk G.hm) I.kIn J e (fun z => nomatch z) fun tk => ⟨.bl b, H, I.tok tk, rfl, q⟩
end OwnTry
end

-- Gen1
section
set_option Elab.async false
set_option linter.all false
set_option maxRecDepth 100000
/-! what every law's text wants again. -/
namespace G1
open PySem L2 OwnOps
theorem if_pos' {c : Bool} {A B : Prop} (hc : c = true) (h : A) : if c = true then A else B := by
  rw [if_pos hc]
  exact h
theorem if_neg' {c : Bool} {A B : Prop} (hc : c = false) (h : B) : if c = true then A else B := by
  rw [hc, if_neg Bool.false_ne_true]
  exact h
theorem same_upd {H : Hp} {p : Addr} {o : HO} (h : H p = none) : Same H (upd H p o) := fun b u e => by
  rw [upd_ne (ne_of_none e h)]
  exact e
theorem same_put {H G : Hp} {D : Addr} {o : HO} (s : Same H G) (h : H D = none) : Same H (upd G D o) := fun b u e => by
  rw [upd_ne (ne_of_none e h)]
  exact s b u e
/-- a new instance in making -/
theorem same_new {H : Hp} {x dx C : Addr} (hx : H x = none) (hd : H dx = none) : Same H (upd (upd H dx (.own x)) x (.ins C dx [])) := fun b u e => by
  rw [upd_ne (ne_of_none e hx), upd_ne (ne_of_none e hd)]
  exact e
/-- all stands but at l -/
def SameX (l : Addr) (H H' : Hp) : Prop := ∀ b u, b ≠ l → H b = some u → H' b = some u
theorem SameX.refl (l : Addr) (H : Hp) : SameX l H H := fun _ _ _ e => e
theorem SameX.trans {l : Addr} {H H1 H2 : Hp} (a : SameX l H H1) (b : SameX l H1 H2) : SameX l H H2 := fun c o n h => b c o n (a c o n h)
theorem SameX.of {l : Addr} {H H' : Hp} (a : Same H H') : SameX l H H' := fun c o _ h => a c o h
theorem SameX.upd {l : Addr} {H : Hp} {o : HO} : SameX l H (upd H l o) := fun c u n h => by
  rw [upd_ne n]
  exact h
theorem SameX.put {l a : Addr} {H H1 : Hp} {o : HO} (s : SameX l H H1) (h : H1 a = none) : SameX l H (L2.upd H1 a o) := fun c u n e => by
  rw [upd_ne (ne_of_none (s c u n e) h)]
  exact s c u n e
theorem same_made {H H' : Hp} {C x dx : Addr} (hx : H x = none) (hd : H dx = none) (sx : SameX x (upd (upd H dx (.own x)) x (.ins C dx [])) H') : Same H H' := fun b u e =>
  sx b u (ne_of_none e hx) (same_new hx hd b u e)
/-- a def of the module, called by its name -/
structure Glb (P : Program) (w : World) (K : PySem.W.Frag) (mg : Str → Option Value) (base : Heap) (x : Str) (k : Nat) (ps : List Str) (sp : Sp) : Prop where
  ex : ∃ (f : Addr) (fd : FuncData), mg x = some (.ref f) ∧ PySem.W.keepIn K (.ref f) = true ∧ FnOk P w K mg base (L2.CX P w) k f fd ps sp ∧ L2.Binds K fd ps []
/-- a method of the class, by its name -/
structure Dun (P : Program) (w : World) (K : PySem.W.Frag) (mg : Str → Option Value) (base : Heap) (C : Addr) (nm : Str) (k : Nat) (ps : List Str) (sp : Sp) : Prop where
  ex : ∃ (f : Addr) (fd : FuncData), PySem.W.findIn K (.ref C) nm = some (some (.ref f)) ∧ PySem.W.isFn K (.ref f) = true ∧ PySem.W.keepIn K (.ref f) = true ∧ FnOk P w K mg base (L2.CX P w) k f fd ps sp ∧ L2.Binds K fd ps []
section
variable {prog : Program} {w : World} {A : Around} {E : Value → Shared → Prop} {s : Shared}
theorem eqBool_rc {l : Addr} {v : Value} {Q : Bool → Shared → Prop} (ne : (Value.ref l == v) = false)
    (h : wpAny (model prog w) A (richCompare .Eq (.ref l) v) (fun x s' => ∃ r, x = .bool r ∧ Q r s') E s) : wpAny (model prog w) A (eqBool (.ref l) v) Q E s := by
  unfold eqBool
  refine wpAny_holding (wpAny_ite_split (fun z => absurd z (by rw [ne]; decide)) fun _ => wpAny_bind (wpAny_mono h ?_ fun _ _ x => x))
  rintro x s' ⟨r, rfl, q⟩
  exact wpAny_truthy_bool q
end
abbrev Fs := List (Str × V)
theorem putF_ne {n m : Str} {x y : V} {r : Fs} (h : ¬ m = n) : putF n y ((m, x) :: r) = (m, x) :: putF n y r := by
  show (if m = n then _ else _) = _
  rw [if_neg h] <;> rfl
theorem putF_eq {n : Str} {x y : V} {r : Fs} : putF n y ((n, x) :: r) = (n, y) :: r := by
  show (if n = n then _ else _) = _
  rw [if_pos rfl] <;> rfl
theorem lk_cons {n m : Str} {v : V} {l : List (Str × V)} (h : ¬ m = n) : ((m, v) :: l).lookup n = l.lookup n := by
  rw [List.lookup_cons, beq_false_of_ne (fun e => h e.symm)] <;> rfl
theorem lk_here {n : Str} {v : V} {l : List (Str × V)} : ((n, v) :: l).lookup n = some v := by
  rw [List.lookup_cons, beq_self_eq_true] <;> rfl
/-- all so far were true -/
def AllI (H : Hp) (D : Addr) (j : Nat) : Hp → Prop := fun G => Same H G ∧ G D = some (.lst ((List.replicate j true).map V.bl))
theorem all0 {H : Hp} {D : Addr} (h : H D = none) : AllI H D 0 (upd H D (.lst [])) := ⟨same_upd h, upd_same⟩
theorem AllI.step {H G G' : Hp} {D : Addr} {j : Nat} (i : AllI H D j G) (h : H D = none) (s : Same G G') : G' D = some (.lst ((List.replicate j true).map V.bl)) ∧ AllI H D (j + 1) (upd G' D (.lst ((List.replicate j true).map V.bl ++ [.bl true]))) := by
  refine ⟨s _ _ i.2, same_put (i.1.trans s) h, ?_⟩
  rw [upd_same, List.replicate_succ', List.map_append]
  rfl
theorem rep_len {j : Nat} (h : j < sizeLine) : ((List.replicate j true).map V.bl).length < sizeLine := by
  rw [List.length_map, List.length_replicate]
  exact h
theorem rep_all (j : Nat) : (List.replicate j true).all id = true := by
  rw [List.all_eq_true]
  intro x h
  rw [(List.mem_replicate.mp h).2]
  rfl
theorem map_at {xs : List Str} {j : Nat} {x : V} (h : (xs.map V.str)[j]? = some x) : ∃ t, xs[j]? = some t ∧ x = .str t := by
  rw [List.getElem?_map] at h
  cases e : xs[j]? with
  | none => rw [e] at h; cases h
  | some t =>
    rw [e] at h
    cases h
    exact ⟨t, rfl, rfl⟩
theorem yes_go {σ : L2.St} {H : Hp} {Q : Bool → Hp → Prop} (h : Q true H) : tYes σ H Q := h
end G1
end

-- EqDict
section
set_option Elab.async false
set_option linter.all false
set_option maxRecDepth 100000
/-! == of two dicts with flat values, whatever comes of it; of lists of such dicts. -/
namespace EqDict
open PySem L2 PySem.W OwnNe
abbrev Ent := List (Key × V)
/-- the same entries -/
def at1 (ls : Ent) (p : Key × V) : Bool := match valV ls p.1 with
  | none => false
  | some y => eqV p.2 y
def dEq (ks ls : Ent) : Bool := (ks.length == ls.length) && ks.all (at1 ls)
def Flt (ks : Ent) : Prop := ∀ p ∈ ks, flatV p.2 = true
theorem valV_mem {ls : Ent} {k : Key} {y : V} (h : valV ls k = some y) : ∃ p ∈ ls, p.2 = y := by
  unfold valV at h
  cases e : ls.find? (fun p => p.1 = k) with
  | none => rw [e] at h; cases h
  | some p =>
    rw [e] at h
    cases h
    exact ⟨p, List.mem_of_find?_eq_some e, rfl⟩
theorem hits {A : Around} {s : Shared} {ls : Ent} {vb : List (Key × Value)} (rb : KV ls vb) (fl : Flt ls) : ∀ {ks : Ent} {va : List (Key × Value)}, KV ks va → Flt ks →
    KeqHits A s vb va (ks.all (at1 ls))
  | _, _, .nil, _ => .nil
  | (k, x) :: ks, (k', u) :: va, .cons r t, f => by
    obtain ⟨r1, r2⟩ := r
    cases (show k = k' from r1)
    have rest := hits (A := A) (s := s) rb fl t fun p h => f p (List.mem_cons_of_mem _ h)
    rw [List.all_cons]
    unfold at1
    dsimp only
    have ro : RelO (valV ls k) (valueAt vb k) := rb.val k
    cases e : valV ls k with
    | none =>
      rw [e] at ro
      exact .miss (RelO.none_of ro)
    | some y =>
      rw [e] at ro
      obtain ⟨v, hv, rv⟩ := ro.some_of
      obtain ⟨p, hp, rfl⟩ := valV_mem e
      exact .hit hv (eqAt_V r2 rv (f _ List.mem_cons_self) (fl p hp)) rest
section
variable {X : Cx}
def rEqD (neg : Bool) : R2 := fun x y H Q => ∃ a b ks ls, x = .ref a ∧ y = .ref b ∧ Rd H a (.dK ks) ∧ Rd H b (.dK ls) ∧ Flt ks ∧ Flt ls ∧ Q (.bl (if neg then !dEq ks ls else dEq ks ls)) H
theorem op_eqDT (hu : X.A.units < cLine) : OpR X (compareOp .Eq) (rEqD false) := by
  intro pins s σ H x y v u Q I rx ry h
  obtain ⟨a, b, ks, ls, rfl, rfl, ea, eb, f1, f2, q⟩ := h
  cases rx
  cases ry
  obtain ⟨_, ya, va, ra, da⟩ := dk_rd I.hok ea
  obtain ⟨_, yb, vb, rb, db⟩ := dk_rd I.hok eb
  refine keq_eq (knd := mixKind X.prog X.w) ya yb da db hu (fun _ => hits rb f2 ra f1) ⟨.bl (dEq ks ls), H, I, ?_, q⟩
  unfold dEq
  rw [show ks.length = va.length from Paired.length ra, show ls.length = vb.length from Paired.length rb]
  rfl
theorem op_neDT (hu : X.A.units < cLine) : OpR X (compareOp .NotEq) (rEqD true) := by
  intro pins s σ H x y v u Q I rx ry h
  obtain ⟨a, b, ks, ls, rfl, rfl, ea, eb, f1, f2, q⟩ := h
  cases rx
  cases ry
  obtain ⟨_, ya, va, ra, da⟩ := dk_rd I.hok ea
  obtain ⟨_, yb, vb, rb, db⟩ := dk_rd I.hok eb
  refine keq_ne (knd := mixKind X.prog X.w) ya yb da db hu (fun _ => hits rb f2 ra f1) ⟨.bl (!dEq ks ls), H, I, ?_, q⟩
  unfold dEq
  rw [show ks.length = va.length from Paired.length ra, show ls.length = vb.length from Paired.length rb]
  rfl
/-- two dicts, apart -/
def DD : V → V → Hp → Bool → Prop := fun x y H r => ∃ a b ks ls, x = .ref a ∧ y = .ref b ∧ a ≠ b ∧ H a = some (.dK ks) ∧ H b = some (.dK ls) ∧ Flt ks ∧ Flt ls ∧ r = dEq ks ls
theorem mon_DD : ∀ x y H H' b, Ext H H' → DD x y H b → DD x y H' b := fun _ _ _ _ _ e ⟨a, b, ks, ls, h1, h2, n, h3, h4, r⟩ => ⟨a, b, ks, ls, h1, h2, n, e _ _ h3, e _ _ h4, r⟩
theorem eqB_DD : EqB X 1 DD := by
  intro A pins s σ H x y u v r sb I rx ry d
  obtain ⟨a, b, ks, ls, rfl, rfl, ne, ea, eb, f1, f2, rfl⟩ := d
  cases rx
  cases ry
  refine G1.eqBool_rc (beq_eq_false_iff_ne.mpr fun z => ne (Value.ref.inj z)) ?_
  obtain ⟨_, ya, va, ra, da⟩ := dk_rd I.hok (.inl ea)
  obtain ⟨_, yb, vb, rb, db⟩ := dk_rd I.hok (.inl eb)
  refine keq_eq (knd := mixKind X.prog X.w) ya yb da db sb.room.units0 (fun _ => hits rb f2 ra f1) ⟨_, rfl, ?_, H, I, Ext.rfl'⟩
  unfold dEq
  rw [show ks.length = va.length from Paired.length ra, show ls.length = vb.length from Paired.length rb]
end
end EqDict
end

-- SetStr
section
set_option Elab.async false
set_option linter.all false
set_option maxRecDepth 100000
/-! len(set(xs)), xs any texts (up to 4000). -/
namespace SetStr
open PySem PySem.Spec PyProof.Rows
/-- how many unlike ones stand among the first i -/
def cnt (xs : List Str) : Nat → Nat
  | 0 => 0
  | i + 1 => if xs.getD i Str.empty ∈ xs.take i then cnt xs i else cnt xs i + 1
theorem cnt_succ (xs : List Str) (i : Nat) : cnt xs (i + 1) = if xs.getD i Str.empty ∈ xs.take i then cnt xs i else cnt xs i + 1 := rfl
theorem cnt_le (xs : List Str) : ∀ i, cnt xs i ≤ i
  | 0 => Nat.le_refl _
  | i + 1 => by
    rw [cnt_succ]
    have := cnt_le xs i
    split <;> omega
theorem cnt_nodup {xs : List Str} (h : xs.Nodup) : ∀ i, i ≤ xs.length → cnt xs i = i
  | 0, _ => rfl
  | i + 1, hi => by
    rw [cnt_succ]
    have hl : i < xs.length := hi
    have e : xs.getD i Str.empty = xs[i] := by rw [List.getD_eq_getElem?_getD, List.getElem?_eq_getElem hl] <;> rfl
    rw [if_neg, cnt_nodup h i (by omega)]
    rw [e]
    intro z
    obtain ⟨j, hj, ej⟩ := List.getElem_of_mem z
    have hj' : j < i := by rw [List.length_take] at hj; omega
    rw [List.getElem_take] at ej
    have := (List.getElem_inj h).mp ej
    omega
theorem cnt_bad {xs : List Str} {i j : Nat} (hij : i < j) (hj : j < xs.length) (e : xs.getD i Str.empty = xs.getD j Str.empty) : ∀ k, j < k → cnt xs k < k
  | 0, h => by omega
  | k + 1, h => by
    rw [cnt_succ]
    by_cases hk : k = j
    · subst hk
      have m : xs.getD k Str.empty ∈ xs.take k := by
        rw [← e]
        have hi : i < xs.length := by omega
        have e2 : xs.getD i Str.empty = xs[i] := by rw [List.getD_eq_getElem?_getD, List.getElem?_eq_getElem hi] <;> rfl
        rw [e2, List.mem_take_iff_getElem]
        exact ⟨i, by omega, rfl⟩
      rw [if_pos m]
      have := cnt_le xs k
      omega
    · have := cnt_bad hij hj e k (by omega)
      split <;> omega
abbrev mem (xs : List Str) (i : Nat) : Str → Bool := fun k => decide (k ∈ xs.take i)
theorem mem_succ {xs : List Str} {i : Nat} (h : i < xs.length) (k : Str) : mem xs (i + 1) k = (mem xs i k || decide (k = xs.getD i Str.empty)) := by
  have e : xs.getD i Str.empty = xs[i] := by rw [List.getD_eq_getElem?_getD, List.getElem?_eq_getElem h] <;> rfl
  rw [e, ← Bool.decide_or]
  exact decide_eq_decide.mpr (by rw [List.take_succ_eq_append_getElem h, List.mem_append, List.mem_singleton])
section
variable {prog : Program} {w : World} {A : Around} {R : Result → Shared → Prop} {it : Addr} {fp wr : List Addr} {G : Array GenState → Array GenState → Prop} {n : Nat} {T : Nat → Value → Prop} {Z : Nat → Shared → Prop}
theorem fill (W : WalksS prog w A.in1 it fp wr G n T Z) (a : Addr) (out : a ∉ fp) (xs : List Str) (len : xs.length = n) (few : n ≤ 4000) (txt : ∀ i v, T i v → ∃ t, v = .str (xs.getD i Str.empty) t) :
    ∀ (k i : Nat) (s : Shared), n - i = k → i ≤ n → Z i s → s.heap.SetOf (strKind prog w) a (mem xs i) (cnt xs i) →
      (∀ s', Moved (a :: wr) G s s' → s'.heap.SetOf (strKind prog w) a (mem xs n) (cnt xs n) → R (.ok (.ret .none)) s') → codeAny (model prog w) A (.builtin "set.update.loop" ⟨[.ref a, .ref it], []⟩) R s := by
  have out' : a ∉ wr := fun h => out (W.sub _ h)
  intro k
  induction k with
  | zero =>
    intro i s hk hi hst hS fin
    cases (show n = i by omega)
    refine codeAny_builtin F.entry_set_update_loop (by
      rw [Around.under_plainId F.plain_set_update_loop _]
      refine wpAny_bind (m := pyNext (.ref it)) (W.done s _ _ hst fun s' hm => ?_)
      refine wpAny_pure (fin s' (hm.mono fun b h => List.mem_cons_of_mem _ h) ?_)
      obtain ⟨o, es, ep, t, ho, rest⟩ := hS
      exact ⟨o, es, ep, t, hm.heap a _ out' ho, rest⟩)
  | succ k ih =>
    intro i s hk hi hst hS fin
    have lt : i < n := by omega
    refine codeAny_builtin F.entry_set_update_loop (by
      rw [Around.under_plainId F.plain_set_update_loop _]
      refine wpAny_bind (m := pyNext (.ref it)) (W.item i s _ _ lt hst fun v s1 hv st1 hm => ?_)
      obtain ⟨t, rfl⟩ := txt i v hv
      have S1 : s1.heap.SetOf (strKind prog w) a (mem xs i) (cnt xs i) := let ⟨o, es, ep, tb, ho, rest⟩ := hS; ⟨o, es, ep, tb, hm.heap a _ out' ho, rest⟩
      refine wpAny_bind (m := holding [Value.str (xs.getD i Str.empty) t] (setAdd a (.str (xs.getD i Str.empty) t))) (wpAny_holding ?_)
      unfold setAdd
      refine wpAny_holding (wpAny_bind ((strKind prog w).pyHash (k := xs.getD i Str.empty) (strKind_is _ _ _ _) ?_))
      have room : cnt xs i + 1 < scanBound := by
        have := cnt_le xs i
        unfold scanBound
        omega
      refine wpAny_setAddHashed_of (knd := strKind prog w) (s := { s1 with toks := s1.toks + 1 }) (strKind_is _ _ _ _) rfl S1 room fun h' sb S2 => ?_
      have S3 : h'.SetOf (strKind prog w) a (mem xs (i + 1)) (cnt xs (i + 1)) := SetOf_congr S2 (fun k' => (mem_succ (by omega) k').symm) (by
        rw [cnt_succ]
        by_cases hm : xs.getD i Str.empty ∈ xs.take i
        · rw [if_pos hm, if_pos (decide_eq_true hm)]
        · rw [if_neg hm, if_neg (fun z => hm (of_decide_eq_true z))])
      refine wpAny_pure ⟨plainId_quiet F.plain_set_update_loop _, ih (i + 1) _ (by omega) lt (W.frame _ s1 _ _ st1 (Nat.le_succ _) fun b hb o e => (sb.2 b fun h : b = a => out (h ▸ hb)).trans e) S3 fun s2 m2 S4 => fin s2 ?_ S4⟩
      exact Moved.trans W.gtrans ((hm.mono fun b h => List.mem_cons_of_mem _ h).then_heap (Nat.le_succ _) fun b o hb e => (sb.2 b fun h : b = a => hb (h ▸ List.mem_cons_self)).trans e) m2)
end
section
variable {prog : Program} {w : World} {A : Around} {E : Value → Shared → Prop} {s : Shared}
/-- a set that holds nothing yet -/
abbrev bare (led : Bool) : Obj := { cls := .type "set", dict := none, data := .set #[] 0 (.fresh 0 0 led) }
abbrev made (s : Shared) (led : Bool) : Shared := { s with heap := s.heap.push (bare led) }
/-- what stands behind set(xs) -/
def Filled (prog : Program) (w : World) (s : Shared) (xs : List Str) (h : Heap) : Prop :=
  h.SetOf (strKind prog w) s.heap.objs.size (mem xs xs.length) (cnt xs xs.length) ∧ ∀ b o, b < s.heap.objs.size → s.heap.get? b = some o → h.get? b = some o
theorem init_set {l : Addr} {items : Array Value} {xs : List Str} {led : Bool} (calm : A.handled = none) (hl : s.heap.IsList l items) (ht : StrsAre items.toList xs) (few : xs.length ≤ 4000)
    {Q : PySem.Fin → Shared → Prop} (fin : ∀ h' tk, Filled prog w s xs h' → Q (.done (.ret .none)) { s with heap := h', toks := tk }) :
    wpAny (model prog w) A (Builtin.«set.__init__» ⟨[Value.ref s.heap.objs.size, Value.ref l], []⟩) Q E (made s led) := by
  have new : (made s led).heap.get? s.heap.objs.size = some (bare led) := Heap.get?_push_size _ rfl
  obtain ⟨o, ho, hc, nl, hd⟩ := hl
  obtain ⟨oc, od, oe, os⟩ := o
  cases hc
  cases hd
  have hl : s.heap.IsList l items := ⟨_, ho, rfl, nl, rfl⟩
  have ho1 : (made s led).heap.get? l = some { cls := .type "list", dict := od, data := .seq items nl, slots := os } := Heap.get?_push_of_some _ ho
  have hl1 : (made s led).heap.IsList l items := ⟨_, ho1, rfl, nl, rfl⟩
  have f1 := F.sub_list_set
  have f2 := F.sub_list_frozenset
  have f3 : (Value.type "list" == Value.type "dict") = false := by decide
  have lt : l < s.heap.objs.size := Heap.lt_size ho
  have sz : (made s led).heap.objs.size = s.heap.objs.size + 1 := Heap.size_push _ _
  have tx : xs.length = items.size := by rw [← StrsAre.len_eq ht, Array.length_toList]
  unfold Builtin.«set.__init__» noKeywords Builtin.Frozenset.updateFrom
  unfold made at *
  generalize hPI : pyIter = PI
  wp_walk
  subst hPI
  refine wpAny_pyIter_list hl1 (wpAny_bind (wpAny_runValue ?_))
  have apart : l ≠ (s.heap.push (bare led)).objs.size := by rw [sz]; exact Nat.ne_of_lt (Nat.lt_succ_of_lt lt)
  have out : s.heap.objs.size ∉ [(s.heap.push (bare led)).objs.size, l] := by
    rw [sz]
    simp only [List.mem_cons, List.not_mem_nil, or_false, not_or]
    exact ⟨Nat.ne_of_lt (Nat.lt_succ_self _), Nat.ne_of_gt lt⟩
  have at0 : ((s.heap.push (bare led)).push { cls := .type "list_iterator", data := .fields #[.ref l, .int 0 0] }).get? s.heap.objs.size = some (bare led) := Heap.get?_push_of_some _ new
  refine fill ((Walks.list (by simp [calm]) _ l apart items).toS) s.heap.objs.size out xs tx (by omega) (fun i v hv => SS.strs_at ht i v (by rw [Array.getElem?_toList]; exact hv)) (items.size - 0) 0 _ (by omega) (Nat.zero_le _) ⟨⟨_, Heap.get?_push_size _ rfl, rfl, rfl⟩, (hl1.push _)⟩
    (SetOf_congr ((setObjOf_fresh (knd := strKind prog w) led).setOf at0 (by unfold scanBound; omega)) (fun _ => rfl) rfl) fun s2 mv S2 => ?_
  obtain ⟨h2, g2, d2, tk, os2⟩ := s2
  cases (show g2 = s.gens from mv.gens)
  cases (show d2 = s.drawn from mv.drawn)
  cases (show os2 = s.os from mv.os)
  refine wpAny_pure (wpAny_pure (fin h2 tk ⟨by rw [tx]; exact S2, fun b o hb e => mv.heap b o ?_ (Heap.get?_push_of_some _ (Heap.get?_push_of_some _ e))⟩))
  simp only [List.mem_cons, List.not_mem_nil, or_false, not_or]
  exact ⟨Nat.ne_of_lt hb, by rw [sz]; exact Nat.ne_of_lt (Nat.lt_succ_of_lt hb)⟩
set_option maxHeartbeats 1600000 in
theorem call_set {l : Addr} {items : Array Value} {xs : List Str} {Q : Value → Shared → Prop} (calm : A.handled = none) (hl : s.heap.IsList l items) (ht : StrsAre items.toList xs) (few : xs.length ≤ 4000)
    (fin : ∀ (h' : Heap) (tk : Nat), Filled prog w s xs h' → Q (.ref s.heap.objs.size) { s with heap := h', toks := tk }) : wpAny (model prog w) A (call (.type "set") [.ref l]) Q E s := by
  obtain ⟨c, tl, hmro⟩ := F.called_set.mro
  have k1 := F.called_set.made
  have k2 := F.called_set.sub
  have k3 := F.called_set.notType
  have k4 := F.called_set.canCreate
  have k5 := F.typeCall_set_1 (.ref l)
  refine wpAny_call (codeAny_of_tree (wpAny_pure (M := model prog w) ⟨Code.quiet_builtin _ (by decide +kernel), codeAny_builtin F.entry_type_call ?_⟩))
  rw [Around.under_plain (weight_type_call_type "set" [.ref l] []) rfl]
  repeat (any_goals (first | assumption | wp_step))
  refine codeAny_mono (code_set_new_1 (.ref l) (E := E) (Q₁ := fun x s1 => ∃ led : Bool, x = .ref s.heap.objs.size ∧ s1 = made s led) fun led => ⟨led, rfl, rfl⟩) fun r s1 hr => ?_
  rcases r with e | (_ | _ | _ | x)
  · exact hr
  · exact hr.elim
  · exact hr.elim
  · exact hr.elim
  obtain ⟨led, rfl, rfl⟩ := hr
  have ty : Shared.TypeIs (made s led) (.ref s.heap.objs.size) "set" := ⟨_, Heap.get?_push_size _ rfl, rfl⟩
  have b1 := F.called_set.init.lookup
  have b2 := F.called_set.init.bind (.ref s.heap.objs.size)
  repeat (any_goals (first | assumption | wp_step))
  refine codeAny_call_builtin F.called_set.init.plain F.entry_set_init (check_set_init_1 ty (init_set (by simp [calm]) hl ht few fun h' tk fl => ?_))
  refine wpAny_pure ?_
  repeat (any_goals (first | assumption | wp_step))
  exact fin _ _ fl
end
section
variable {X : L2.Cx}
open L2
theorem strsAre : ∀ {xs : List Str} {us : List Value}, Vals (xs.map V.str) us → StrsAre us xs
  | [], _, r => by cases r; exact .nil
  | x :: xs, _, r => by
    cases r with
    | cons a b =>
      obtain ⟨t, rfl⟩ := a
      exact .cons x t (strsAre b)
/-- len(set(xs)), xs a list of texts -/
def tLenS (K : PySem.W.Frag) (ta : TE) : TE := fun σ H Q => ta σ H fun x H1 => ∃ (l : Addr) (xs : List Str), x = .ref l ∧ SqL K H1 l (xs.map V.str) ∧ xs.length ≤ 4000 ∧ Q (.int (cnt xs xs.length : Nat)) H1
theorem pe_lenS {a : Expr} {ta : TE} {p p2 q pos : Pos} (hg : Gl X "len") (hm : X.mg "len" = none) (hg2 : Gl X "set") (hm2 : X.mg "set" = none) (ha : PE X a ta) (calm : X.calm = true := by rfl)
    (one : starEach [a] X.env = (false, eval a X.env) :: starEach [] X.env := by rfl) : PE X (.Call (.Name "len" p) [.Call (.Name "set" p2) [a] [] q] [] pos) (tLenS X.K ta) := by
  refine ⟨fun pins s σ H Q I h => Call_ (ld_blt I hg hm boot_len (callWith_builtin1 (args_cons (Call_ (ld_blt I hg2 hm2 boot_set ?_)) rfl) rfl rfl))⟩
  refine callWith_type1 (args_cons (thn (ha.run pins s σ H _ I h) fun v s1 ⟨x, H1, I1, r1, l, xs, e, hq, few, fin⟩ => args_nil ?_) one) one rfl
  subst e
  cases r1
  obtain ⟨its, r, pl, hz⟩ := I1.list hq
  refine call_set (I1.ok.hd calm) pl.isList (by simpa using strsAre r) few fun h' tk fl => args_nil ?_
  obtain ⟨⟨o, es, ep, t, ho, hex, hd, _, _, _, hf, hn⟩, hk⟩ := fl
  have small : cnt xs xs.length ≤ 4000 := Nat.le_trans (cnt_le xs _) few
  have I2 : L2.Inv X pins σ H1 { s1 with heap := h', toks := tk } := I1.kept fun b o e => hk b o (Heap.lt_size e) e
  exact call_len_set ho hex hd hf (by rw [hn]; omega) ⟨.int (cnt xs xs.length : Nat), H1, I2.tok _, ⟨_, by rw [hn]⟩, fin⟩
end
end SetStr
end

-- SetStrT
section
set_option Elab.async false
set_option linter.all false
set_option maxRecDepth 100000
/-! len(set(xs)), xs a tuple of texts, or a list of them. -/
namespace SetStr
open PySem PySem.Spec PyProof.Rows
section
variable {prog : Program} {w : World} {A : Around} {E : Value → Shared → Prop} {s : Shared}
theorem init_setT {l : Addr} {items : Array Value} {xs : List Str} {led : Bool} (calm : A.handled = none) (hl : s.heap.IsTuple l items) (ht : StrsAre items.toList xs) (few : xs.length ≤ 4000)
    {Q : PySem.Fin → Shared → Prop} (fin : ∀ h' tk, Filled prog w s xs h' → Q (.done (.ret .none)) { s with heap := h', toks := tk }) :
    wpAny (model prog w) A (Builtin.«set.__init__» ⟨[Value.ref s.heap.objs.size, Value.ref l], []⟩) Q E (made s led) := by
  have new : (made s led).heap.get? s.heap.objs.size = some (bare led) := Heap.get?_push_size _ rfl
  obtain ⟨o, ho, hc, nl, hd⟩ := hl
  obtain ⟨oc, od, oe, os⟩ := o
  cases hc
  cases hd
  have hl : s.heap.IsTuple l items := ⟨_, ho, rfl, nl, rfl⟩
  have ho1 : (made s led).heap.get? l = some { cls := .type "tuple", dict := od, data := .seq items nl, slots := os } := Heap.get?_push_of_some _ ho
  have hl1 : (made s led).heap.IsTuple l items := ⟨_, ho1, rfl, nl, rfl⟩
  have f1 := F.sub_tuple_set
  have f2 := F.sub_tuple_frozenset
  have f3 : (Value.type "list" == Value.type "dict") = false := by decide
  have lt : l < s.heap.objs.size := Heap.lt_size ho
  have sz : (made s led).heap.objs.size = s.heap.objs.size + 1 := Heap.size_push _ _
  have tx : xs.length = items.size := by rw [← StrsAre.len_eq ht, Array.length_toList]
  unfold Builtin.«set.__init__» noKeywords Builtin.Frozenset.updateFrom
  unfold made at *
  generalize hPI : pyIter = PI
  wp_walk
  subst hPI
  refine wpAny_pyIter_tuple hl1 (wpAny_bind (wpAny_runValue ?_))
  have apart : l ≠ (s.heap.push (bare led)).objs.size := by rw [sz]; exact Nat.ne_of_lt (Nat.lt_succ_of_lt lt)
  have out : s.heap.objs.size ∉ [(s.heap.push (bare led)).objs.size, l] := by
    rw [sz]
    simp only [List.mem_cons, List.not_mem_nil, or_false, not_or]
    exact ⟨Nat.ne_of_lt (Nat.lt_succ_self _), Nat.ne_of_gt lt⟩
  have at0 : ((s.heap.push (bare led)).push { cls := .type "tuple_iterator", data := .fields #[.ref l, .int 0 0] }).get? s.heap.objs.size = some (bare led) := Heap.get?_push_of_some _ new
  refine fill ((Walks.tuple (by simp [calm]) _ l apart items).toS) s.heap.objs.size out xs tx (by omega) (fun i v hv => SS.strs_at ht i v (by rw [Array.getElem?_toList]; exact hv)) (items.size - 0) 0 _ (by omega) (Nat.zero_le _) ⟨⟨_, Heap.get?_push_size _ rfl, rfl, rfl⟩, (hl1.push _)⟩
    (SetOf_congr ((setObjOf_fresh (knd := strKind prog w) led).setOf at0 (by unfold scanBound; omega)) (fun _ => rfl) rfl) fun s2 mv S2 => ?_
  obtain ⟨h2, g2, d2, tk, os2⟩ := s2
  cases (show g2 = s.gens from mv.gens)
  cases (show d2 = s.drawn from mv.drawn)
  cases (show os2 = s.os from mv.os)
  refine wpAny_pure (wpAny_pure (fin h2 tk ⟨by rw [tx]; exact S2, fun b o hb e => mv.heap b o ?_ (Heap.get?_push_of_some _ (Heap.get?_push_of_some _ e))⟩))
  simp only [List.mem_cons, List.not_mem_nil, or_false, not_or]
  exact ⟨Nat.ne_of_lt hb, by rw [sz]; exact Nat.ne_of_lt (Nat.lt_succ_of_lt hb)⟩
set_option maxHeartbeats 1600000 in
theorem call_setT {l : Addr} {items : Array Value} {xs : List Str} {Q : Value → Shared → Prop} (calm : A.handled = none) (hl : s.heap.IsTuple l items) (ht : StrsAre items.toList xs) (few : xs.length ≤ 4000)
    (fin : ∀ (h' : Heap) (tk : Nat), Filled prog w s xs h' → Q (.ref s.heap.objs.size) { s with heap := h', toks := tk }) : wpAny (model prog w) A (call (.type "set") [.ref l]) Q E s := by
  obtain ⟨c, tl, hmro⟩ := F.called_set.mro
  have k1 := F.called_set.made
  have k2 := F.called_set.sub
  have k3 := F.called_set.notType
  have k4 := F.called_set.canCreate
  have k5 := F.typeCall_set_1 (.ref l)
  refine wpAny_call (codeAny_of_tree (wpAny_pure (M := model prog w) ⟨Code.quiet_builtin _ (by decide +kernel), codeAny_builtin F.entry_type_call ?_⟩))
  rw [Around.under_plain (weight_type_call_type "set" [.ref l] []) rfl]
  repeat (any_goals (first | assumption | wp_step))
  refine codeAny_mono (code_set_new_1 (.ref l) (E := E) (Q₁ := fun x s1 => ∃ led : Bool, x = .ref s.heap.objs.size ∧ s1 = made s led) fun led => ⟨led, rfl, rfl⟩) fun r s1 hr => ?_
  rcases r with e | (_ | _ | _ | x)
  · exact hr
  · exact hr.elim
  · exact hr.elim
  · exact hr.elim
  obtain ⟨led, rfl, rfl⟩ := hr
  have ty : Shared.TypeIs (made s led) (.ref s.heap.objs.size) "set" := ⟨_, Heap.get?_push_size _ rfl, rfl⟩
  have b1 := F.called_set.init.lookup
  have b2 := F.called_set.init.bind (.ref s.heap.objs.size)
  repeat (any_goals (first | assumption | wp_step))
  refine codeAny_call_builtin F.called_set.init.plain F.entry_set_init (check_set_init_1 ty (init_setT (by simp [calm]) hl ht few fun h' tk fl => ?_))
  refine wpAny_pure ?_
  repeat (any_goals (first | assumption | wp_step))
  exact fin _ _ fl
end
section
variable {X : L2.Cx}
open L2
/-- len(set(xs)), xs a list or a tuple of texts -/
def tLenT (K : PySem.W.Frag) (ta : TE) : TE := fun σ H Q => ta σ H fun x H1 => ∃ (l : Addr) (xs : List Str), x = .ref l ∧ (SqL K H1 l (xs.map V.str) ∨ SqT K H1 l (xs.map V.str)) ∧ xs.length ≤ 4000 ∧ Q (.int (cnt xs xs.length : Nat)) H1
theorem pe_lenT {a : Expr} {ta : TE} {p p2 q pos : Pos} (hg : Gl X "len") (hm : X.mg "len" = none) (hg2 : Gl X "set") (hm2 : X.mg "set" = none) (ha : PE X a ta) (calm : X.calm = true := by rfl)
    (one : starEach [a] X.env = (false, eval a X.env) :: starEach [] X.env := by rfl) : PE X (.Call (.Name "len" p) [.Call (.Name "set" p2) [a] [] q] [] pos) (tLenT X.K ta) := by
  refine ⟨fun pins s σ H Q I h => Call_ (ld_blt I hg hm boot_len (callWith_builtin1 (args_cons (Call_ (ld_blt I hg2 hm2 boot_set ?_)) rfl) rfl rfl))⟩
  refine callWith_type1 (args_cons (thn (ha.run pins s σ H _ I h) fun v s1 ⟨x, H1, I1, r1, l, xs, e, hq, few, fin⟩ => args_nil ?_) one) one rfl
  subst e
  cases r1
  rcases hq with hq | hq
  · obtain ⟨its, r, pl, hz⟩ := I1.list hq
    refine call_set (I1.ok.hd calm) pl.isList (by simpa using strsAre r) few fun h' tk fl => args_nil ?_
    obtain ⟨⟨o, es, ep, t, ho, hex, hd, _, _, _, hf, hn⟩, hk⟩ := fl
    have small : cnt xs xs.length ≤ 4000 := Nat.le_trans (cnt_le xs _) few
    have I2 : L2.Inv X pins σ H1 { s1 with heap := h', toks := tk } := I1.kept fun b o e => hk b o (Heap.lt_size e) e
    exact call_len_set ho hex hd hf (by rw [hn]; omega) ⟨.int (cnt xs xs.length : Nat), H1, I2.tok _, ⟨_, by rw [hn]⟩, fin⟩
  · obtain ⟨its, r, pl, hz⟩ := I1.tuple hq
    refine call_setT (I1.ok.hd calm) pl (by simpa using strsAre r) few fun h' tk fl => args_nil ?_
    obtain ⟨⟨o, es, ep, t, ho, hex, hd, _, _, _, hf, hn⟩, hk⟩ := fl
    have small : cnt xs xs.length ≤ 4000 := Nat.le_trans (cnt_le xs _) few
    have I2 : L2.Inv X pins σ H1 { s1 with heap := h', toks := tk } := I1.kept fun b o e => hk b o (Heap.lt_size e) e
    exact call_len_set ho hex hd hf (by rw [hn]; omega) ⟨.int (cnt xs xs.length : Nat), H1, I2.tok _, ⟨_, by rw [hn]⟩, fin⟩
end
end SetStr
end

-- SupX
section
set_option Elab.async false
set_option linter.all false
set_option maxRecDepth 100000
set_option maxHeartbeats 2000000
/-! a def that says super().m(..) first: its own cells, `__class__` captured. -/
namespace SupX
open PySem PySem.Spec PyProof.Rows L2 StX
/-! ### the frame: own cells behind a captured one -/
theorem cellsFrom_app : ∀ (names : List (Str × NameKind)) (n : Nat) (acc cl : List (Str × Addr)), cellsFrom n names (acc ++ cl) = cellsFrom n names acc ++ cl
  | [], _, _, _ => rfl
  | (x, k) :: r, n, acc, cl => by
    unfold cellsFrom
    split
    · exact cellsFrom_app r (n + 1) ((x, n) :: acc) cl
    · exact cellsFrom_app r n acc cl
theorem cellsFrom_cl (names : List (Str × NameKind)) (n : Nat) (cl : List (Str × Addr)) : cellsFrom n names cl = cellsFrom n names [] ++ cl := cellsFrom_app names n [] cl
theorem lookup_app {α : Type} {x : Str} {c : α} : ∀ {l r : List (Str × α)}, l.lookup x = some c → (l ++ r).lookup x = some c
  | (k, v) :: l, r, h => by
    rw [List.cons_append]
    rw [List.lookup_cons] at h ⊢
    cases hb : x == k with
    | true => rw [hb] at h; exact h
    | false => rw [hb] at h; exact lookup_app h
theorem lookup_app_none {α : Type} {x : Str} : ∀ {l r : List (Str × α)}, l.lookup x = none → (l ++ r).lookup x = r.lookup x
  | [], r, _ => rfl
  | (k, v) :: l, r, h => by
    rw [List.cons_append]
    rw [List.lookup_cons] at h ⊢
    cases hb : x == k with
    | true => rw [hb] at h; cases h
    | false => rw [hb] at h; exact lookup_app_none h
section
variable {M : Model} {A : Around} {E : Value → Shared → Prop} {s₀ s : Shared} {m cm : Str → Option Value} {env : Env} {cs : List (Str × Addr)}
theorem stL {n : Str} {v : Value} {Q : Unit → Shared → Prop} (x : InCallC s₀ env.locals m cs cm s) (hk : env.scope.kind = .function) (hl : env.kindOf n = some .local)
    (h : ∀ s', InCallC s₀ env.locals (fun y => if y = n then some v else m y) cs cm s' → Q () s') : wpAny M A (storeName env n v) Q E s := by
  refine wpAny_storeName_local hl x.toInCall.ns (fun h' hn' hs' => h _ ⟨⟨?_, hn', fun b o e => ?_, x.toInCall.fresh⟩, fun k c hc => ?_, x.apart, x.above⟩) (by rw [hk]; rfl)
  · obtain ⟨h₁, tk, rfl⟩ := x.toInCall.same
    exact ⟨h', _, rfl⟩
  · exact hs'.extBut b o (Nat.ne_of_lt (Nat.lt_of_lt_of_le (Heap.lt_size e) x.toInCall.fresh)) (x.toInCall.keep b o e)
  · exact (x.cell k c hc).sameBut hs' (Nat.ne_of_gt (x.above k c (mem_of_lookup hc)))
theorem stC {n : Str} {c : Addr} {v : Value} {Q : Unit → Shared → Prop} (x : InCallC s₀ env.locals m cs cm s) (hk : env.scope.kind = .function) (hl : env.kindOf n = some .cell)
    (hc : cs.lookup n = some c) (hce : env.cells.lookup n = some c)
    (h : ∀ s', InCallC s₀ env.locals m cs (fun y => if y = n then some v else cm y) s' → Q () s') : wpAny M A (storeName env n v) Q E s := by
  have hLc := x.above n c (mem_of_lookup hc)
  refine wpAny_storeName_cell hk hl hce (x.cell n c hc) fun h' hc' hs' => h _ ⟨⟨?_, x.toInCall.ns.sameBut hs' (Nat.ne_of_lt hLc), fun b o e => ?_, x.toInCall.fresh⟩, fun k c' hk' => ?_, x.apart, x.above⟩
  · obtain ⟨h₁, tk, rfl⟩ := x.toInCall.same
    exact ⟨h', _, rfl⟩
  · exact hs'.extBut b o (Nat.ne_of_lt (Nat.lt_trans (Nat.lt_of_lt_of_le (Heap.lt_size e) x.toInCall.fresh) hLc)) (x.toInCall.keep b o e)
  · by_cases hkn : k = n
    · subst hkn
      rw [hc] at hk'; cases hk'
      simpa using hc'
    · rw [if_neg hkn]
      exact (x.cell k c' hk').sameBut hs' fun e => hkn (name_of_addr x.apart (mem_of_lookup hk') (e ▸ mem_of_lookup hc))
theorem bindParamsS (f : Str × Value → PUnit → Sem (ForInStep PUnit)) (hf : ∀ n v u, f (n, v) u = (do storeName env n v; pure (.yield ⟨⟩))) (hk : env.scope.kind = .function) (hcs : ∀ n c, cs.lookup n = some c → env.cells.lookup n = some c) :
    ∀ (binds : List (Str × Value)) (m cm : Str → Option Value) (s : Shared) (Q : PUnit → Shared → Prop), InCallC s₀ env.locals m cs cm s →
      (∀ x ∈ binds, env.kindOf x.1 = some .local ∨ (env.kindOf x.1 = some .cell ∧ (cs.lookup x.1).isSome = true)) →
      (∀ s', InCallC s₀ env.locals (bindL env.kindOf binds m) cs (bindC env.kindOf binds cm) s' → Q ⟨⟩ s') → wpAny M A (forIn binds ⟨⟩ f) Q E s
  | [], m, cm, s, Q, x, _, h => by rw [List.forIn_nil]; exact wpAny_pure (h s x)
  | (n, v) :: r, m, cm, s, Q, x, hkind, h => by
    rw [List.forIn_cons, hf]
    have hr : ∀ y ∈ r, env.kindOf y.1 = some .local ∨ (env.kindOf y.1 = some .cell ∧ (cs.lookup y.1).isSome = true) := fun y hy => hkind y (List.mem_cons_of_mem _ hy)
    rcases hkind (n, v) List.mem_cons_self with hl | ⟨hl, hc⟩
    · refine wpAny_bind (wpAny_bind (stL x hk hl fun s' x' => wpAny_pure (bindParamsS f hf hk hcs r _ _ s' Q x' hr fun s'' x'' => h s'' ?_)))
      unfold bindL bindC; rw [if_pos hl, if_pos hl]; exact x''
    · obtain ⟨c, hc⟩ := Option.isSome_iff_exists.mp hc
      have hnl : ¬ env.kindOf n = some .local := by rw [hl]; decide
      refine wpAny_bind (wpAny_bind (stC x hk hl hc (hcs n c hc) fun s' x' => wpAny_pure (bindParamsS f hf hk hcs r _ _ s' Q x' hr fun s'' x'' => h s'' ?_)))
      unfold bindL bindC; rw [if_neg hnl, if_neg hnl]; exact x''
end
section
variable {M : Model} {A : Around} {E : Value → Shared → Prop} {s : Shared}
theorem newEnvS {scope : Scope} {globals : Addr} {cl : List (Str × Addr)} {binds : List (Str × Value)} {qual : Str} {func : Option Addr} {code : Value} {builtins : Addr} {Q : Env → Shared → Prop}
    (hk : scope.kind = .function)
    (hkind : ∀ x ∈ binds, scope.names.lookup x.1 = some .local ∨ (scope.names.lookup x.1 = some .cell ∧ ((cellsFrom (s.heap.objs.size + 1) scope.names []).lookup x.1).isSome = true))
    (hQ : ∀ env, env = newEnv scope s.heap.objs.size globals (cellsFrom (s.heap.objs.size + 1) scope.names [] ++ cl) qual func code none builtins →
      ∀ s', InCallC s env.locals (bindL env.kindOf binds fun _ => none) (cellsFrom (s.heap.objs.size + 1) scope.names []) (bindC env.kindOf binds fun _ => none) s' → Q env s') :
    wpAny M A (newFunctionEnv scope globals cl binds qual func code none builtins) Q E s := by
  simp only [newFunctionEnv, Option.isSome_none, Bool.false_eq_true, if_false]
  refine wpAny_bind (wpAny_alloc ?_)
  refine wpAny_bind (wpAny_layCells _ (fun name kind cells => by cases hkc : kind == NameKind.cell <;> simp [hkc]) _ _ _ _ ?_)
  have ok := cellsFrom_ok scope.names (s.heap.push { cls := .type "frame", data := .dict #[] }) (s.heap.objs.size + 1) [] ⟨fun _ _ hm => (nomatch hm), List.Pairwise.nil⟩ (by rw [Heap.size_push]; exact Nat.le_refl _)
  rw [Heap.size_push] at ok
  rw [show ({ s with heap := s.heap.push { cls := .type "frame", data := .dict #[] } } : Shared).heap.objs.size = s.heap.objs.size + 1 from Heap.size_push ..]
  rw [cellsFrom_cl]
  refine wpAny_bind (bindParamsS (s₀ := s) (env := newEnv scope s.heap.objs.size globals (cellsFrom (s.heap.objs.size + 1) scope.names [] ++ cl) qual func code none builtins) (cs := cellsFrom (s.heap.objs.size + 1) scope.names [])
    _ (fun _ _ _ => rfl) hk (fun n c h => lookup_app h) binds (fun _ => none) (fun _ => none) _ _
    ⟨⟨⟨_, _, rfl⟩, (Heap.Ns.new s.heap (.type "frame")).keeps (pushCells_keeps _ _), fun b o e => pushCells_keeps _ _ b o (Heap.get?_push_of_some _ e), Nat.le_refl _⟩,
      fun n c hc => (ok.empty n c (mem_of_lookup hc)).1, ok.apart, fun n c hm => (ok.empty n c hm).2⟩
    hkind fun s' x => wpAny_pure (hQ _ rfl s' x))
end
/-! ### the context of such a def's body -/
abbrev kC : Str := "__class__"
structure SScope (N P : List Str) (sc : Scope) : Prop where
  kind : sc.kind = .function
  co : sc.isCoroutine = false
  gen : sc.isGenerator = false
  nd : N.Nodup
  pre : N.take P.length = P
  par : ∀ x ∈ P, sc.names.lookup x = some .local ∨ sc.names.lookup x = some .cell
  free : ∀ y ∈ sc.names, y.2 = .free → y.1 = kC
  once : ∀ y ∈ sc.names, y.1 = kC → y.2 = .free
  has : sc.names.lookup kC = some .free
  sup : sc.names.lookup ("super" : Str) = some .globalImplicit
abbrev envS (qual : Str) (scope : Scope) (L f cda cc : Addr) : Env := PySem.W.envX qual scope L f (.ref cda) (cellsFrom (L + 1) scope.names [] ++ [(kC, cc)])
def cxS (CX : CXT) (P : Program) (w : World) (K : PySem.W.Frag) (mg : Str → Option Value) (base : Heap) (N : List Str) (qual : Str) (scope : Scope) (f cda cc : Addr) (A : Around) (outer : List Env) (s : Shared) (H : Hp) (E : XK) : Cx where
  prog := P
  w := w
  K := K
  mg := mg
  base := base
  A := A.deeper (envS qual scope s.heap.objs.size f cda cc)
  N := N
  s_0 := s
  H_0 := H
  env := envS qual scope s.heap.objs.size f cda cc
  outer := outer
  stack := envS qual scope s.heap.objs.size f cda cc :: outer
  ex := []
  calm := true
  fn := fun x => x != kC
  pn := []
  xe := fun e s' => wpAny (model P w) (A.deeper (envS qual scope s.heap.objs.size f cda cc)) (leaving (envS qual scope s.heap.objs.size f cda cc) e) (fun _ s'' => CX outer H s E e s'') (fun e' s'' => CX outer H s E e' s'') s'
theorem cell_mem : ∀ {names : List (Str × NameKind)} {n : Nat} {acc : List (Str × Addr)} {y : Str} {c : Addr}, (y, c) ∈ cellsFrom n names acc → (y, c) ∈ acc ∨ (y, NameKind.cell) ∈ names
  | [], _, _, _, _, h => .inl h
  | (x, k) :: r, n, acc, y, c, h => by
    unfold cellsFrom at h
    split at h
    · rename_i hk
      rcases cell_mem h with q | q
      · rcases List.mem_cons.mp q with q | q
        · cases q
          refine .inr ?_
          rw [show k = .cell from by cases k <;> first | rfl | cases hk]
          exact List.mem_cons_self
        · exact .inl q
      · exact .inr (List.mem_cons_of_mem _ q)
    · rcases cell_mem h with q | q
      · exact .inl q
      · exact .inr (List.mem_cons_of_mem _ q)
section
variable {CX : CXT} {P : Program} {w : World} {K : PySem.W.Frag} {mg : Str → Option Value} {base : Heap} {N ps : List Str} {qual : Str} {scope : Scope} {f cda cc D : Addr} {A : Around} {outer : List Env} {s s1 : Shared} {H : Hp} {E : XK} {us : List Value} {vs : List V} {cl : Value} {cld : Option Addr} {csl : Array (Option Value)}
theorem inv_startS (S : SScope N ps scope) (hcc : K.lookup cc = some ⟨cl, cld, .cell (some (.ref D)), csl⟩) (hd : A.handled = none) (e0 : Env0 P w K mg base A outer s H) (hl : vs.length = ps.length) (r : Vals vs us)
    (x : InCallC s s.heap.objs.size (bindL (envS qual scope s.heap.objs.size f cda cc).kindOf (ps.zip us) fun _ => none) (cellsFrom (s.heap.objs.size + 1) scope.names []) (bindC (envS qual scope s.heap.objs.size f cda cc).kindOf (ps.zip us) fun _ => none) s1) :
    Inv (cxS CX P w K mg base N qual scope f cda cc A outer s H E) [] (L2.start N vs) H s1 := by
  have hpl : ps.length ≤ N.length := by have := congrArg List.length S.pre; rw [List.length_take] at this; omega
  obtain ⟨h1, tk, rfl, hk⟩ := x.done
  have noA : ∀ b : Addr, b ∉ (cxS CX P w K mg base N qual scope f cda cc A outer s H E).ex := fun b z => absurd (show b ∈ ([] : List Addr) from z) (by simp)
  have hcs : ∃ o, base.get? cc = some o ∧ o.data = .cell (some (.ref D)) := ⟨_, e0.mod.kin _ _ hcc, rfl⟩
  obtain ⟨occ, hb1, hb2⟩ := hcs
  have ncl : (cellsFrom (s.heap.objs.size + 1) scope.names []).lookup kC = none := by
    cases q : (cellsFrom (s.heap.objs.size + 1) scope.names []).lookup kC with
    | none => rfl
    | some c =>
      rcases cell_mem (PySem.mem_of_lookup q) with z | z
      · cases z
      · cases S.once _ z rfl
  -- a cell: an own one, or the captured
  have two : ∀ y c, (cellsFrom (s.heap.objs.size + 1) scope.names [] ++ [(kC, cc)]).lookup y = some c → (cellsFrom (s.heap.objs.size + 1) scope.names []).lookup y = some c ∨ (y = kC ∧ c = cc) := fun y c h => by
    cases q : (cellsFrom (s.heap.objs.size + 1) scope.names []).lookup y with
    | some c' =>
      rw [lookup_app q] at h
      cases h
      exact .inl rfl
    | none =>
      rw [lookup_app_none q] at h
      refine .inr ?_
      rw [List.lookup_cons] at h
      cases hb : (y == kC) with
      | true => rw [hb] at h; cases h; exact ⟨beq_iff_eq.mp hb, rfl⟩
      | false => rw [hb] at h; cases h
  have lowc : cc < s.heap.objs.size := Heap.lt_size (e0.bs _ _ hb1).1
  refine ⟨⟨e0.mod, S.kind, rfl, rfl, Nat.le_refl _, fun y z c h1 h2 => ?_, fun y hy => ?_, fun y c q h => ?_, fun _ => hd, Around.frames_deeper e0.frames, .inr ⟨rfl, rfl⟩, fun b z => absurd z (noA b), e0.bs, e0.bsz, fun b _ _ => noA b, fun b z => absurd z (noA b), e0.funs, e0.frf⟩,
    rfl, e0.bare, Un.kept hk, ⟨_, x.toInCall.ns, fun i y v h1 h2 h3 => ?_⟩, fun y c h => ?_, e0.hok.fresh (Nat.le_refl _), fun y c h => ?_, fun p hp => absurd (show p ∈ ([] : List (Addr × Obj)) from hp) (by simp), e0.hok.kept hk, ?_⟩
  · rcases two _ _ h1 with q1 | ⟨q1, q2⟩ <;> rcases two _ _ h2 with r1 | ⟨r1, r2⟩
    · exact name_of_addr x.apart (PySem.mem_of_lookup q1) (PySem.mem_of_lookup r1)
    · subst r2
      have z := x.above _ _ (PySem.mem_of_lookup q1)
      exact absurd (Nat.lt_trans lowc z) (Nat.lt_irrefl _)
    · subst q2
      have z := x.above _ _ (PySem.mem_of_lookup r1)
      exact absurd (Nat.lt_trans lowc z) (Nat.lt_irrefl _)
    · rw [q1, r1]
  · have hy : scope.names.lookup y = some .cell ∨ scope.names.lookup y = some .free := hy
    rcases hy with hy | hy
    · obtain ⟨c, e⟩ := cell_has (n := s.heap.objs.size + 1) hy
      exact ⟨c, lookup_app e⟩
    · have e := S.free _ (PySem.mem_of_lookup hy) rfl
      dsimp only at e
      subst e
      exact ⟨cc, by show (cellsFrom (s.heap.objs.size + 1) scope.names [] ++ [(kC, cc)]).lookup kC = _; rw [lookup_app_none ncl]; simp [List.lookup]⟩
  · rcases two _ _ h with q1 | ⟨q1, q2⟩
    · exact Nat.le_of_lt (x.above y c (PySem.mem_of_lookup q1))
    · subst q1
      have q : (kC != kC) = true := q
      simp at q
  · have hi : i < vs.length := by
      unfold L2.start at h2
      by_cases hi : i < vs.length
      · exact hi
      · rw [List.getElem?_append_right (by simpa using hi)] at h2
        rw [List.getElem?_replicate] at h2
        split at h2 <;> cases h2
    have ha : vs[i]? = some v := by
      unfold L2.start at h2
      rw [List.getElem?_append_left (by simpa using hi), List.getElem?_map] at h2
      cases e : vs[i]? with
      | none => rw [e] at h2; cases h2
      | some a => rw [e] at h2; cases h2; rfl
    obtain ⟨u, hu, rv⟩ := r.get ha
    have hp : ps[i]? = some y := by
      rw [← S.pre, List.getElem?_take_of_lt (by omega)]; exact h1
    have ndP : ps.Nodup := by rw [← S.pre]; exact S.nd.sublist (List.take_sublist _ _)
    refine ⟨u, rv, ?_⟩
    rcases S.par y (List.mem_of_getElem? hp) with k | k
    · exact .inl ⟨k, bindL_get ndP hp hu k⟩
    · obtain ⟨c, e⟩ := cell_has (n := s.heap.objs.size + 1) k
      refine .inr ⟨.inl k, c, lookup_app e, ?_⟩
      have q := x.cell y c e
      rw [bindC_get ndP hp hu (by show scope.names.lookup y ≠ _; rw [k]; decide)] at q
      exact q
  · rcases two _ _ h with q1 | ⟨q1, q2⟩
    · exact ⟨_, x.cell y c q1⟩
    · subst q2
      exact ⟨_, occ, hk _ _ (e0.bs _ _ hb1).1, hb2⟩
  · rcases two _ _ h with q1 | ⟨q1, q2⟩
    · exact e0.hok.fresh (Nat.le_of_lt (x.above y c (PySem.mem_of_lookup q1)))
    · subst q2
      exact (e0.bs _ _ hb1).2
  · unfold L2.start
    show _ = N.length
    rw [List.length_append, List.length_map, List.length_replicate]
    omega
end
/-! ### a block where the code that runs is known -/
def PSsA (X : Cx) (code : Code) (body : List Stmt) (t : TS) : Prop := ∀ (pins : List (Addr × Obj)) (s : Shared) (σ : L2.St) (H : Hp) (D : Ends), Inv X pins σ H s → t D σ H → PySem.wpAt (model X.prog X.w) X.A code (execs body X.env) (SP X pins D) X.xe s
theorem PSsA.of {X : Cx} {code : Code} {body : List Stmt} {t : TS} (h : PSs X body t) : PSsA X code body t := fun pins s σ H D I q => wpAt_of_wpAny (h.run pins s σ H D I q)
section
variable {CX : CXT} {P : Program} {w : World} {K : PySem.W.Frag} {mg : Str → Option Value} {base : Heap} {k : Nat} {f cda cc D : Addr} {name qual : Str} {params : Arguments} {body : List Stmt} {scope : Scope} {dV kV doc pm ct oc : Value} {an od : Option Addr} {cl : Value} {cld : Option Addr} {csl : Array (Option Value)}
  {osl : Array (Option Value)} {N ps : List Str} {sp : Sp}
theorem run_bndS {A : Around} {outer : List Env} {s : Shared} {H : Hp} {args : Args} {Q : VK} {E : XK} {G : List V → Hp → Prop} (lk : K.lookup f = some ⟨oc, od, .func (PySem.W.ksFn name qual params body scope dV kV doc pm an (.ref cda) ct cc), osl⟩) (hcd : PySem.W.codeIn K (.ref cda) qual = true)
    (S : SScope N ps scope) (hcc : K.lookup cc = some ⟨cl, cld, .cell (some (.ref D)), csl⟩) (hr : Room (k + 1) A) (e0 : Env0 P w K mg base A outer s H) (hb : Bnd CX P w K mg base (PySem.W.ksFn name qual params body scope dV kV doc pm an (.ref cda) ct cc) args ps A outer s H E G)
    (hbody : ∀ (s2 : Shared) (H2 : Hp) (vs : List V), G vs H2 → Room k (A.deeper (envS qual scope s2.heap.objs.size f cda cc)) →
      ∃ t, PSsA (cxS CX P w K mg base N qual scope f cda cc A outer s2 H2 E) (.func body (envS qual scope s2.heap.objs.size f cda cc)) body t ∧ t { nx := fun _ H' => Q .non H', rt := Q } (L2.start N vs) H2) : codeAny (model P w) A (.call (.ref f) args) (CR CX outer P w H s Q E) s := by
  have KX : K.In s.heap := e0.mod.kin.keeps fun b o e => (e0.bs b o e).1
  refine codeAny_call_function hr.depth (KX _ _ lk) rfl S.co S.gen rfl (PySem.W.codeRec_of KX hcd) ?_
  refine hb _ _ _ fun s2 H2 vs us e2 un ho hx r hl g => ?_
  have lim : s2.heap.NoLimit := e0.mod.nolimit.keeps fun b o e => (e2.bs b o e).1
  have hkind : ∀ y ∈ ps.zip us, scope.names.lookup y.1 = some .local ∨ (scope.names.lookup y.1 = some .cell ∧ ((cellsFrom (s2.heap.objs.size + 1) scope.names []).lookup y.1).isSome = true) := fun y hy => by
    rcases S.par y.1 (List.of_mem_zip hy).1 with q | q
    · exact .inl q
    · exact .inr ⟨q, PySem.W.cellsFrom_some _ _ _ (.inl q)⟩
  refine newEnvS (s := s2) S.kind hkind fun env he s1 x => ?_
  subst he
  refine ⟨lim.keeps x.toInCall.keep, ks_codeAny_funcAt ?_⟩
  obtain ⟨t, ht, hq⟩ := hbody s2 H2 vs g (hr.deeper _)
  have I : Inv (cxS CX P w K mg base N qual scope f cda cc A outer s2 H2 E) [] (L2.start N vs) H2 s1 := inv_startS S hcc hr.hd e2 hl r x
  refine ks_wpAt_mono (ht [] s1 _ _ _ I hq) (fun fl s' hs => ?_) fun e s' hs => ?_
  · have fin : ∀ {σ' : L2.St} {H' : Hp} {v' : V} {u' : Value}, Inv (cxS CX P w K mg base N qual scope f cda cc A outer s2 H2 E) [] σ' H' s' → RelV v' u' → Q v' H' → CE outer P w H s Q u' s' :=
      fun {σ' H' v' u'} J rv' q => ⟨v', H', J.os.trans ho, J.bare, un.trans J.base, J.hok, rv', q⟩
    cases fl with
    | ret u' =>
      obtain ⟨v', σ', H', J, rv', q⟩ := hs
      exact fin J rv' q
    | next =>
      obtain ⟨σ', H', J, q⟩ := hs
      exact fin (v' := V.non) (u' := Value.none) J rfl q
    | brk =>
      obtain ⟨_, _, _, q⟩ := hs
      exact False.elim q
    | cont =>
      obtain ⟨_, _, _, q⟩ := hs
      exact False.elim q
  · exact wpAny_mono hs (fun _ s'' z => hx e s'' z) fun e' s'' z => hx e' s'' z
end
end SupX
end

-- SupX2
section
set_option Elab.async false
set_option linter.all false
set_option maxRecDepth 100000
set_option maxHeartbeats 2000000
namespace SupX
open PySem PySem.Spec PyProof.Rows L2 StX
/-- what super() finds ahead: of an instance of C, behind the class D, m is the def at g -/
structure SupAt (K : PySem.W.Frag) (C D : Addr) (m : Str) (g : Addr) : Prop where
  cls : (PySem.W.clsIn K C).isSome = true
  sub : PySem.W.mroIn K C (.ref D) = some true
  at_ : PySem.W.ks_superIn K C D m = some (some (.ref g))
instance {K : PySem.W.Frag} {C D : Addr} {m : Str} {g : Addr} : Decidable (SupAt K C D m g) := decidable_of_iff ((PySem.W.clsIn K C).isSome = true ∧ PySem.W.mroIn K C (.ref D) = some true ∧ PySem.W.ks_superIn K C D m = some (some (.ref g)))
  ⟨fun ⟨a, b, c⟩ => ⟨a, b, c⟩, fun ⟨a, b, c⟩ => ⟨a, b, c⟩⟩
/-- what the def itself is: its first parameter, its code's file, the cell of its class -/
structure SupDef (K : PySem.W.Frag) (P : Program) (f cda cc D g : Addr) (p1 : Str) : Prop where
  fn : ∃ oc od fd osl ar, K.lookup f = some ⟨oc, od, .func fd, osl⟩ ∧ (fd.params.posonlyargs ++ fd.params.args).head? = some ar ∧ ar.arg = p1
  code : ∃ cl od vs sl file tf, K.lookup cda = some ⟨cl, od, .fields vs, sl⟩ ∧ vs[2]? = some (.str file tf) ∧ ((P.main.file : Str) == file) = true
  cell : ∃ cl cld csl, K.lookup cc = some ⟨cl, cld, .cell (some (.ref D)), csl⟩
  cls : (PySem.W.clsIn K D).isSome = true
  sup : PySem.W.nsIn K mainGlobals "super" = some none
  any : PySem.W.nsIn K cStatics "thirdparty.any" = some none
  tg : PySem.W.typeIn K (.ref g) = some (.type "function")
  fg : PySem.W.fnIn K g = true
  top : (P.main.scope.names.lookup ("super" : Str)).isSome = false
def tSup (SO : Addr → Prop) (sp : Sp) (E : XK) (t : TA) (rest : TS) : TS := fun D σ H => ∃ x C dx fs, σ[0]? = some (some (V.ref x)) ∧ H x = some (.ins C dx fs) ∧ SO C ∧ t σ H fun vs H1 => sp (.ref x :: vs) H1 (fun _ H2 => rest D σ H2) E
/-- what stands in a call's argument list, whatever it is -/
def ArgsOk (X : Cx) (es : List Expr) : Prop := ∀ (pos : Pos) (u : Addr) (self : Value) (g : Addr) (Q : Value → Shared → Prop) (E : Value → Shared → Prop) (s : Shared), PySem.W.fnIn X.K g = true →
  wpAny (model X.prog X.w) X.A (spliced (backTo pos (starEach es X.env))) (fun vs s₁ => PySem.W.MethP X.K u g self s₁.heap ∧ wpAny (model X.prog X.w) X.A (call (.ref u) vs) Q E s₁) E s →
  wpAny (model X.prog X.w) X.A (callWith pos (.ref u) [] (backTo pos (starEach es X.env)) []) Q E s
theorem argsPlain {X : Cx} {e : Expr} {es : List Expr} (he : starEach (e :: es) X.env = (false, eval e X.env) :: starEach es X.env) (hp : ∀ pos, (backTo pos (starEach es X.env)).any (·.1) = false) : ArgsOk X (e :: es) := fun pos u self g Q E s hf h => by
  rw [he] at h ⊢
  exact PySem.W.callWith_of (P := PySem.W.MethP X.K u g self) (by show ((false || (backTo pos (starEach es X.env)).any (·.1)) || false) = false; rw [hp pos]; rfl) (PySem.W.keeps_M hf) (PySem.Calls.evalArgs_plain h)
theorem argsStar {X : Cx} {e : Expr} {es : List Expr} (he : starEach (e :: es) X.env = (false, eval e X.env) :: starEach es X.env) (hp : ∀ pos, (backTo pos (starEach es X.env)).any (·.1) = true) : ArgsOk X (e :: es) := fun pos u self g Q E s hf h => by
  rw [he] at h ⊢
  exact PySem.W.ks_call (P := PySem.W.MethP X.K u g self) (by show (false || (backTo pos (starEach es X.env)).any (·.1)) = true; rw [hp pos]; rfl) (PySem.W.keeps_M hf) (PySem.Calls.evalArgs_plain h)
section
variable {X : Cx} {CX : CXT} {k j : Nat} {f cda cc D g : Addr} {qual m p1 : Str} {scope : Scope} {L : Addr} {sp : Sp} {E : XK} {t : TA} {rest : TS} {code : List Stmt} {es : List Expr} {ss : List Stmt} {N ps : List Str}
theorem psA_sup {q0 q1 q2 q3 q4 : Pos} {pl : Sem Bool} (he : X.env = envS qual scope L f cda cc) (S : SScope N ps scope) (hN : X.N[0]? = some p1) (hl : scope.names.lookup p1 = some .local) (SD : SupDef X.K X.prog f cda cc D g p1) (hm : (m == ("__class__" : Str)) = false) (F : FnR X.prog X.w X.K X.mg X.base CX k g sp) (hr : Room k X.A) (hx : Passes CX X E)
    (ha : PA X es t) (hA : ArgsOk X es) (hrest : PSs X ss rest)
    (hev : eval (.Call (.Attribute (.Call (.Name "super" q0) [] [] q1) m q2) es [] q3) X.env = (do
      let ov ← attributeBase (.Call (.Name "super" q0) [] [] q1) m X.env (eval (.Call (.Name "super" q0) [] [] q1) X.env)
      standAt q2.atName
      let (f, first) ← holding [ov] (getMethod ov m pl)
      callWith q3 f first (backTo q3 (starEach es X.env)) [])) :
    PSsA X (.func code X.env) (.Expr (.Call (.Attribute (.Call (.Name "super" q0) [] [] q1) m q2) es [] q3) q4 :: ss) (tSup (fun C => SupAt X.K C D m g) sp E t rest) := by
  intro pins s σ H De I q
  obtain ⟨x, C, dx, fs, hσ, hx0, so, q⟩ := q
  obtain ⟨_, _, fd, _, ar, lkf, har, ear⟩ := SD.fn
  obtain ⟨_, _, vsC, _, file, tf, lkc, hvs, hfile⟩ := SD.code
  obtain ⟨_, _, _, lkcc⟩ := SD.cell
  obtain ⟨cdD, hD⟩ := Option.isSome_iff_exists.mp SD.cls
  obtain ⟨cdC, hC⟩ := Option.isSome_iff_exists.mp so.cls
  obtain ⟨od, J⟩ := OwnOps.inst_at I hx0
  have XK := I.kIn
  have hsc : X.env.scope = scope := by rw [he]
  obtain ⟨oD, hD1, hD2⟩ : ∃ oD, s.heap.get? D = some oD ∧ oD.data = .cls cdD := by
    unfold PySem.W.clsIn at hD
    split at hD
    · rename_i c d cd' sl ho
      cases hD
      exact ⟨_, XK _ _ ho, rfl⟩
    · cases hD
  have hkS : X.env.kindOf "super" = some .globalImplicit := by
    rw [he]; exact S.sup
  have hkC : X.env.kindOf kC = some .free := by
    rw [he]; exact S.has
  have hce : X.env.cells.lookup kC = some cc := by
    rw [he]
    show (cellsFrom (L + 1) scope.names [] ++ [(kC, cc)]).lookup kC = _
    have ncl : (cellsFrom (L + 1) scope.names []).lookup kC = none := by
      cases q : (cellsFrom (L + 1) scope.names []).lookup kC with
      | none => rfl
      | some c =>
        rcases cell_mem (PySem.mem_of_lookup q) with z | z
        · cases z
        · cases S.once _ z rfl
    rw [lookup_app_none ncl]
    simp [List.lookup]
  have hloc : ∃ mL, s.heap.Ns X.env.locals mL ∧ mL p1 = some (.ref x) := by
    obtain ⟨mL, h1, h2⟩ := I.loc
    obtain ⟨u, ru, lk⟩ := h2 0 p1 (.ref x) hN hσ (.inl (by rw [hsc]; exact hl))
    cases (show u = Value.ref x from ru)
    rcases lk with ⟨_, z⟩ | ⟨z, _⟩
    · exact ⟨mL, h1, z⟩
    · exfalso
      have e : X.env.kindOf p1 = some .local := by rw [he]; exact hl
      rw [e] at z
      rcases z with z | z <;> cases z
  obtain ⟨mL, hns, hself⟩ := hloc
  have hkind := I.ok.kind
  have hgl : s.heap.Ns X.env.globals X.mg := by
    rw [I.ok.glob]
    exact I.mod.glob.keeps I.bk
  obtain ⟨mb, hmb, hbb⟩ := I.mod.blt
  have hbl : s.heap.Ns X.env.builtins mb := by
    rw [I.ok.blt]
    exact hmb.keeps I.bk
  have hmgS : X.mg "super" = none := PySem.W.mg_none_of I.mod.kin I.mod.glob SD.sup
  refine PySem.ks_wpAt_execs_cons (PySem.ks_wpAt_Expr_any (PySem.ks_wpAt_MethodCall (pl := pl) ?_ hev) I.quiet)
  refine PySem.ks_wpAt_super_base (f := f) (cc := cda) (ar := ar) (fd := fd) (vs := vsC) (file := file) (tf := tf) hkS hkC hm (by rw [he]) (XK _ _ lkf) rfl har (by rw [he]) (XK _ _ lkc) rfl hvs hfile SD.top ?_
  refine PySem.W.ks_loadName_global hkind hkS (PySem.Calls.loadGlobal_builtin hgl hmgS hbl ((hbb _ (by decide +kernel)).trans (show bootBuiltins "super" = some (.type "super") by first | rfl | kernel_rfl)) ⟨rfl, ?_⟩)
  refine wpAny_loadName_free hkind hkC hce ⟨_, XK _ _ lkcc, rfl⟩ ?_
  rw [ear]
  refine wpAny_loadName_local hkind (by rw [he]; exact hl) hns hself ?_
  refine PySem.ks_wpAny_isType_cls hD1 hD2 ⟨rfl, ?_⟩
  refine PySem.ks_wpAny_call_super hD1 hD2 J.at_ J.cls (fun c e => ?_) (PySem.W.looks_mroIn XK so.sub) (fun h' e kp => ?_)
  · have := J.no
    unfold PySem.W.notCls at this
    rw [e] at this
    exact Bool.noConfusion this
  · obtain ⟨hh, g0, d0, t0, os0⟩ := s
    dsimp only at e kp
    have Xh : X.K.In h' := fun b o q => kp b o (XK b o q)
    have htg : ∃ og, h'.get? g = some og ∧ og.cls = .type "function" := by
      have z : (X.K.lookup g).map (·.cls) = some (.type "function") := SD.tg
      cases q : X.K.lookup g with
      | none => rw [q] at z; cases z
      | some og => rw [q] at z; exact ⟨og, Xh _ _ q, Option.some.inj z⟩
    obtain ⟨og, hog, cog⟩ := htg
    have hal : PySem.W.alongIn X.K m ((cdC.mro.dropWhile (· != .ref D)).drop 1) = some (some (.ref g)) := by
      have z := so.at_
      unfold PySem.W.ks_superIn at z
      rw [hC] at z
      exact z
    refine PySem.ks_wpAny_getMethod_super (D := D) (x := x) (C := C) (f := g) (of := og) (K := X.K) (l₀ := cdC.mro) (l := (cdC.mro.dropWhile (· != .ref D)).drop 1) e (PySem.W.looks_opaque Xh SD.any) ?_ rfl Xh hal hog cog (PySem.W.ks_ne XK J hC) hm ?_
    · exact fun A Q E s k q => wpAny_bind ((PySem.W.looks_clsIn Xh hC) A _ E s k (wpAny_pure q))
    · have kp2 : ∀ b u, hh.get? b = some u → (h'.push { cls := .type "method", data := .fields #[.ref g, .ref x] }).get? b = some u := fun b u q => Heap.get?_push_of_some _ (kp b u q)
      have I2 : Inv X pins σ H ⟨h'.push { cls := .type "method", data := .fields #[.ref g, .ref x] }, g0, d0, t0 + 1, os0⟩ := Inv.kept (s := ⟨hh, g0, d0, t0, os0⟩) I kp2
      have I1 : Inv X pins σ H ⟨h', g0, d0, t0 + 1, os0⟩ := Inv.kept (s := ⟨hh, g0, d0, t0, os0⟩) I kp
      have fr : H h'.objs.size = none := I1.fresh
      have nl : h'.objs.size ≠ X.env.locals := Nat.ne_of_gt I1.lt
      have nf : h'.objs.size ∉ X.fs := I1.nofs (Nat.le_refl _)
      have I3 : Inv X ((h'.objs.size, PySem.W.methodObj (.ref g) (.ref x)) :: pins) σ H ⟨h'.push { cls := .type "method", data := .fields #[.ref g, .ref x] }, g0, d0, t0 + 1, os0⟩ := I2.pins_of fun p hp => by
        rcases List.mem_cons.mp hp with rfl | hp
        · exact ⟨Heap.get?_push_at rfl rfl, fr, nl, nf, fun v z => by cases z⟩
        · exact I2.pin p (List.mem_append_right _ hp)
      refine hA q3 h'.objs.size (.ref x) g _ _ _ SD.fg (thn (ha.run q3 _ _ σ H _ I3 q) fun us s2 got => ?_)
      obtain ⟨vs, H1, I4, r, hq⟩ := got
      have hb := (I4.pin _ (List.mem_append_right _ List.mem_cons_self)).1
      refine ⟨⟨hb, I4.kIn⟩, wpAny_call (PySem.ks_codeAny_call_bound hb (codeAny_mono (F X.A X.stack s2 H1 (.ref x :: us) (.ref x :: vs) _ E hr I4.env0 (.cons rfl r) hq) fun r s' h => ?_))⟩
      cases r with
      | error e => exact hx _ σ H1 s2 e s' I4 h
      | ok fl =>
        cases fl with
        | ret u =>
          obtain ⟨v, H2, I5, _, h5⟩ := I4.after h
          have I6 : Inv X pins σ H2 s' := I5.pins_of fun p hp => I5.pin p (List.mem_append_right _ (List.mem_cons_of_mem _ hp))
          exact wpAt_of_wpAny (hrest.run pins s' σ H2 De I6 h5)
        | next => exact False.elim h
        | brk => exact False.elim h
        | cont => exact False.elim h
end
end SupX
end

-- K4a
section
set_option Elab.async false
set_option linter.all false
set_option maxRecDepth 100000
namespace R4
open PySem L2 OwnOps OwnNe G1 StX
/-! ### the text by places -/
def top (i : Nat) : Stmt := PySem.Challenge.pw_wishedwires_k04_kinds_described.main.body.getD i (.Pass ⟨0, 0, 0, 0⟩)
abbrev sWord : Stmt := top 5
abbrev sDiff : Stmt := top 6
abbrev sVR (j : Nat) : Stmt := inClass (top 19) j
abbrev sKi (j : Nat) : Stmt := inClass (top 24) j
abbrev sPin (j : Nat) : Stmt := inClass (top 25) j
abbrev sPath (j : Nat) : Stmt := inClass (top 26) j
abbrev sJoi (j : Nat) : Stmt := inClass (top 28) j
abbrev sAsR : Stmt := top 30
abbrev sGrp : Stmt := top 31
abbrev sMat : Stmt := top 32
abbrev sOrd : Stmt := top 33
abbrev sPL : Stmt := top 34
abbrev sWrd : Stmt := top 35
/-- the built-in names that are asked -/
structure Bi (mg : Str → Option Value) : Prop where
  isi : mg "isinstance" = none
  int : mg "int" = none
  str : mg "str" = none
  len : mg "len" = none
  all : mg "all" = none
  set : mg "set" = none
  tuple : mg "tuple" = none
  list : mg "list" = none
  dict : mg "dict" = none
  min : mg "min" = none
  max : mg "max" = none
  range : mg "range" = none
  enum : mg "enumerate" = none
  zip : mg "zip" = none
  sorted : mg "sorted" = none
  sup : mg "super" = none
/-- numbers that the module names -/
structure Nums (mg : Str → Option Value) : Prop where
  signs : ∃ t, mg "WORD_SIGNS" = some (.int 12 t)
  pins : ∃ t, mg "MOST_PINS" = some (.int 6 t)
  ctrl : ∃ t, mg "MOST_CONTROLS" = some (.int 3 t)
/-- the values that are met as names, pins, groups, rules -/
inductive Av (H : Hp) : V → Prop
  | str (x : Str) : Av H (.str x)
  | non : Av H .non
  | int (i : Int) : Av H (.int i)
  | bl (b : Bool) : Av H (.bl b)
  | lst {a : Addr} {xs : List V} (e : H a = some (.lst xs)) : Av H (.ref a)
  | tup {a : Addr} {xs : List V} (e : H a = some (.tup xs)) : Av H (.ref a)
theorem Av.same {H H' : Hp} {v : V} (h : Av H v) (s : Same H H') : Av H' v := by
  cases h with
  | str x => exact .str x
  | non => exact .non
  | int i => exact .int i
  | bl b => exact .bl b
  | lst e => exact .lst (s _ _ e)
  | tup e => exact .tup (s _ _ e)
def wd (x : Str) : Bool := decide (1 ≤ x.length) && decide (x.length ≤ 12) && Txt.isascii x && Txt.isalnum x && Txt.isalpha ⟨#[x.cps.getD 0 0]⟩ && decide (V.str x = V.str (Txt.lower x))
def wdV : V → Bool
  | .str x => wd x
  | _ => false
/-- not too long -/
def Shr : V → Prop
  | .str x => x.length ≤ 1000
  | _ => True
theorem at_hd {α : Type} {xs : List α} {c : α} (h : xs[0]? = some c) : atI xs 0 = some c := by
  cases xs with
  | nil => cases h
  | cons a r =>
    cases h
    unfold atI ixN
    rw [if_pos (by decide), if_pos (by rw [List.length_cons]; omega)]
    rfl
section
variable {P : Program} {w : World} {K : PySem.W.Frag} {mg : Str → Option Value} {base : Heap}
def spWord : Sp := fun vs H Q _ => ∃ v, vs = [v] ∧ Av H v ∧ Shr v ∧ Q (.bl (wdV v)) H
theorem ok_word {f : Addr} {fd : FuncData} (F : Fun K "is_word" "is_word" sWord f fd) (T : Bi mg) (N : Nums mg) : FnOk P w K mg base (L2.CX P w) 1 f fd ["value"] spWord := by
  obtain ⟨t12, n12⟩ := N.signs
  have sc : FnScope ["value"] ["value"] (defScope sWord) := ⟨rfl, rfl, rfl, by decide +kernel, rfl, by decide +kernel, by decide +kernel⟩
  refine F.okX sc (fun vs H Q E h => ?_) (fun cdv A outer s H vs Q E hr h => ?_)
  · obtain ⟨x, rfl, _⟩ := h
    rfl
  · obtain ⟨v, rfl, av, few, fin⟩ := h
    refine ⟨_, pss_cons (ps_if (PW.pt (pw_or (pt_not (pt_val (pe_callB call_isi (by rfl) T.isi (by decide +kernel) (pa_cons (pv 0) (pa_cons (pe_bltn (v := .ty "str") (by rfl) T.str (by decide +kernel) rfl) pa_nil)))))
        (pw_or1 (pt_not (pt_chain op_le op_le pe_int (pe_callB call_len (by rfl) T.len PySem.boot_len (pa_cons (pv 0) pa_nil)) (pe_glob (v := .int 12) (by rfl) n12 ⟨_, rfl⟩)))))) (pss_one (ps_ret pe_bl)) pss_nil)
      (pss_one (ps_ret (pe_and (pe_m0 PySem.F.slot_str_isascii PySem.F.type_str_isascii mt_isascii (pv 0)) (pe_and (pe_m0 PySem.F.slot_str_isalnum PySem.F.type_str_isalnum mt_isalnum (pv 0)) (pe_and (pe_m0 PySem.F.slot_str_isalpha PySem.F.type_str_isalpha mt_isalpha (pe_ix ix_str (pv 0) pe_int (fun _ _ => rfl)))
        (pe_one (pe_cmpR op_eq (pv 0) (pe_lower (pv 0)) (nomark _)))))))), ?_⟩
    cases av with
    | non => exact ⟨_, rfl, _, _, _, _, _, rfl, .ty _, .base .non, kit_ty (r := false) (by decide +kernel), _, rfl, if_pos' rfl fin⟩
    | int i => exact ⟨_, rfl, _, _, _, _, _, rfl, .ty _, .base (.int i), kit_ty (r := false) (by decide +kernel), _, rfl, if_pos' rfl fin⟩
    | bl b => exact ⟨_, rfl, _, _, _, _, _, rfl, .ty _, .base (.bl b), kit_ty (r := false) (by decide +kernel), _, rfl, if_pos' rfl fin⟩
    | lst e => exact ⟨_, rfl, _, _, _, _, _, rfl, .ty _, .base (.lst e), kit_ty (r := false) (by decide +kernel), _, rfl, if_pos' rfl fin⟩
    | tup e => exact ⟨_, rfl, _, _, _, _, _, rfl, .ty _, .base (.tup e), kit_ty (r := false) (by decide +kernel), _, rfl, if_pos' rfl fin⟩
    | str x =>
    have few : x.length ≤ 1000 := few
    have fin : Q (.bl (wd x)) H := fin
    refine ⟨_, rfl, _, _, _, _, _, rfl, .ty _, .base (.str _), kit_ty (r := true) (by decide +kernel), _, rfl, if_neg' rfl ?_⟩
    refine ⟨_, rfl, _, _, rfl, ⟨Nat.le_trans few (by decide), rfl⟩, _, _, rfl, rfl, _, rfl, ?_⟩
    by_cases a1 : (1 : Int) ≤ (x.length : Int)
    · refine if_pos' (decide_eq_true a1) ⟨_, _, rfl, rfl, _, rfl, ?_⟩
      by_cases a2 : (x.length : Int) ≤ 12
      · refine if_neg' (by rw [decide_eq_true a2]; rfl) ?_
        have e1 : decide (1 ≤ x.length) = true := decide_eq_true (by omega)
        have e2 : decide (x.length ≤ 12) = true := decide_eq_true (by omega)
        unfold wd at fin
        rw [e1, e2, Bool.true_and, Bool.true_and] at fin
        refine ⟨_, rfl, ⟨_, rfl⟩, _, rfl, rfl, True.intro, _, rfl, ?_⟩
        cases b1 : Txt.isascii x with
        | false => rw [b1] at fin; exact if_neg' rfl fin
        | true =>
        refine if_pos' rfl ⟨_, rfl, ⟨_, rfl⟩, _, rfl, rfl, True.intro, _, rfl, ?_⟩
        rw [b1, Bool.true_and] at fin
        cases b2 : Txt.isalnum x with
        | false => rw [b2] at fin; exact if_neg' rfl fin
        | true =>
        rw [b2, Bool.true_and] at fin
        have pos : 0 < x.cps.size := by
          have : x.length = x.cps.size := rfl
          omega
        have hx : x.cps.toList[0]? = some (x.cps.getD 0 0) := by
          rw [Array.getElem?_toList, Array.getD_eq_getD_getElem?, Array.getElem?_eq_getElem pos]
          rfl
        refine if_pos' rfl ⟨_, rfl, _, _, x.cps.getD 0 0, rfl, rfl, Nat.le_trans few (by decide), at_hd hx, ⟨_, rfl⟩, _, rfl, rfl, True.intro, _, rfl, ?_⟩
        cases b3 : Txt.isalpha ⟨#[x.cps.getD 0 0]⟩ with
        | false => rw [b3] at fin; exact if_neg' rfl fin
        | true =>
        rw [b3, Bool.true_and] at fin
        exact if_pos' rfl ⟨_, rfl, _, rfl, ⟨_, rfl⟩, _, rfl, rfl, Nat.le_trans few (by decide), rfl, fin⟩
      · refine if_pos' (by rw [decide_eq_false a2]; rfl) ?_
        have e2 : decide (x.length ≤ 12) = false := decide_eq_false (by omega)
        unfold wd at fin
        rw [e2, Bool.and_false] at fin
        exact fin
    · refine if_neg' (decide_eq_false a1) ⟨_, rfl, if_pos' rfl ?_⟩
      have e1 : decide (1 ≤ x.length) = false := decide_eq_false (by omega)
      unfold wd at fin
      rw [e1] at fin
      exact fin
end
end R4
end

-- FnGd
section
set_option Elab.async false
set_option linter.all false
set_option maxRecDepth 100000
/-! what a def promises where no repr is under way (the law itself, and what it calls): so that a repr of lists and tuples may be asked. -/
namespace FnGd
open PySem L2 OwnOps PyProof.Rows
structure FnG (P : Program) (w : World) (K : PySem.W.Frag) (mg : Str → Option Value) (base : Heap) (CX : CXT) (k : Nat) (f : Addr) (fd : FuncData) (ps : List Str) (sp : Sp) : Prop where
  len : ∀ vs H Q E, sp vs H Q E → vs.length = ps.length
  run : ∀ (A : Around) (outer : List Env) (s : Shared) (H : Hp) (args : Args) (us : List Value) (vs : List V) (Q : VK) (E : XK), Room k A → A.guards = some [] → Env0 P w K mg base A outer s H → BindsTo s fd args (ps.zip us) → Vals vs us → sp vs H Q E →
    codeAny (model P w) A (.call (.ref f) args) (CR CX outer P w H s Q E) s
section
variable {P : Program} {w : World} {K : PySem.W.Frag} {mg : Str → Option Value} {base : Heap} {CX : CXT}
theorem okG {x qual : Str} {st : Stmt} {f : Addr} {fd : FuncData} {N ps : List Str} {k : Nat} {sp : Sp} (F : Fun K x qual st f fd) (S : FnScope N ps (defScope st)) (len : ∀ vs H Q E, sp vs H Q E → vs.length = ps.length)
    (hbody : ∀ (cdv : Value) (A : Around) (outer : List Env) (s : Shared) (H : Hp) (vs : List V) (Q : VK) (E : XK), Room k (A.deeper (envOfC qual (defScope st) s.heap.objs.size f cdv)) → A.guards = some [] → sp vs H Q E →
      ∃ t, PSs (cxOf CX P w K mg base N qual (defScope st) f cdv A outer s H E) (defBody st) t ∧ t { nx := fun _ H' => Q .non H', rt := Q } (start N vs) H) : FnG P w K mg base CX (k + 1) f fd ps sp := by
  obtain ⟨oc, od, kV, doc, pm, an, cdv, ct, osl, rfl, lk, hcd⟩ := F.ex
  refine ⟨len, fun A outer s H args us vs Q E room gd e0 bi rel told => ?_⟩
  have inn : K.In s.heap := e0.mod.kin.keeps fun b o e => (e0.bs b o e).1
  have free : s.heap.NoLimit := e0.mod.nolimit.keeps fun b o e => (e0.bs b o e).1
  refine codeAny_call_function room.depth (inn _ _ lk) rfl S.co S.gen rfl (PySem.W.codeRec_of inn hcd) (bi _ _ _ _ (wpAny_newFunctionEnv_cells S.kind (fun y hy => ?_) fun env he s1 x => ?_))
  · rcases S.par y.1 (List.of_mem_zip hy).1 with q | q
    · exact .inl q
    · exact .inr ⟨q, PySem.W.cellsFrom_some _ _ _ (.inl q)⟩
  subst he
  obtain ⟨t, ht, goal⟩ := hbody cdv A outer s H vs Q E (room.deeper _) gd told
  have I := inv_start (CX := CX) (E := E) (A := A) S room.hd e0 (len _ _ _ _ told) rel x
  refine ⟨free.keeps x.toInCall.keep, codeAny_func (wpAny_mono (ht.run [] s1 (start N vs) H _ I goal) (fun fl s' got => ?_) fun e s' got => got)⟩
  match fl, got with
  | .ret u, ⟨v, σ', H', J, rv, q⟩ => exact ⟨v, H', J.os, J.bare, J.base, J.hok, rv, q⟩
  | .next, ⟨σ', H', J, q⟩ => exact ⟨V.non, H', J.os, J.bare, J.base, J.hok, rfl, q⟩
  | .brk, ⟨_, _, _, q⟩ => exact q.elim
  | .cont, ⟨_, _, _, q⟩ => exact q.elim
theorem FnG.of {f : Addr} {fd : FuncData} {ps : List Str} {k : Nat} {sp : Sp} (F : FnOk P w K mg base CX k f fd ps sp) : FnG P w K mg base CX k f fd ps sp := ⟨F.len, fun A outer s H args us vs Q E r _ => F.run A outer s H args us vs Q E r⟩
end
theorem law_callG {P : Program} {w : World} {K : PySem.W.Frag} {mg mb : Str → Option Value} {CX : CXT} {k : Nat} {fa a : Addr} {fd : FuncData} {x : Str} {sp : Sp} {s₁ : Shared} {vs : List Value} {ns : List Int} (KX : K.In s₁.heap) (hns : s₁.heap.Ns mainGlobals mg) (hb : s₁.heap.Ns builtinsNs mb) (hbb : ∀ x : Str, x ≠ Str.ofString "__name__" → mb x = bootBuiltins x)
    (hlim : s₁.heap.NoLimit) (hg : s₁.gens = #[]) (ha : s₁.heap.get? a = some { cls := .type "list", data := .seq vs.toArray }) (hi : IntsAre vs ns) (hl : ns.length ≤ sizeLine) (hr : Room k callerA) (F : ∀ base : Heap, K.In base → base.Ns mainGlobals mg → FnG P w K mg base CX k fa fd [x] sp)
    (hbind : ∀ (s : Shared) (u : Value), BindsTo s fd { pos := [u] } [(x, u)]) (hsp : ∀ H : Hp, Only H → SqL K H a (ns.map V.int) → sp [.ref a] H (fun v _ => v = .bl true) fun _ _ _ => False) (hCX : ∀ (H : Hp) (e : Value) (s' : Shared), CX [] H s₁ (fun _ _ _ => False) e s' → False) :
    codeAny (model P w) callerA (.call (.ref fa) { pos := [.ref a] }) (fun r s' => r = .ok (.ret (.bool true)) ∧ OldK s₁.heap s'.heap ∧ s'.os = s₁.os ∧ AllBare s'.gens) s₁ := by
  have rv := vals_ints hi
  have lenV := hi.length
  have core : ∀ H : Hp, Only H → SqL K H a (ns.map V.int) → HOk P w H s₁.heap → (∀ b, H b ≠ none → b = a) → (H a ≠ none → K.lookup a = none) →
      codeAny (model P w) callerA (.call (.ref fa) { pos := [.ref a] }) (fun r s' => r = .ok (.ret (.bool true)) ∧ OldK s₁.heap s'.heap ∧ s'.os = s₁.os ∧ AllBare s'.gens) s₁ := by
    intro H hO hS hok hA hK
    have out : ∀ b, b ≠ a → H b = none := fun b n => by
      cases q : H b with
      | none => rfl
      | some u => exact absurd (hA b (by rw [q]; exact Option.some_ne_none _)) n
    have noA : ∀ {b o es ep}, s₁.heap.get? b = some o → o.data = .dict es ep → H b = none := fun {b o es ep} e d => out b fun z => by
      subst z
      rw [ha] at e
      cases e
      cases d
    have nsK : ∀ {b m}, s₁.heap.Ns b m → (hidT s₁.heap H).Ns b m := fun ⟨o, es, ep, e, d, r⟩ => ⟨o, es, ep, hidT_get e (noA e d), d, r⟩
    have hKb : K.In (hidT s₁.heap H) := fun b o e => by
      refine hidT_get (KX b o e) ?_
      by_cases z : b = a
      · subst z
        cases q : H b with
        | none => rfl
        | some u =>
          have := hK (by rw [q]; exact Option.some_ne_none _)
          rw [e] at this
          cases this
      · exact out b z
    have hM : L2.Mod K mg (hidT s₁.heap H) := ⟨hKb, nsK hns, ⟨mb, nsK hb, hbb⟩, let ⟨mc, h1, h2⟩ := hlim; ⟨mc, nsK h1, h2⟩⟩
    have e0 : Env0 P w K mg (hidT s₁.heap H) callerA [] s₁ H := ⟨rfl, hM, fun b o e => of_hidT e, Nat.le_of_eq (hidT_size _ _), trivial, fun b hb => (nomatch hb), hok, AllBare.of_eq hg⟩
    refine codeAny_mono ((F (hidT s₁.heap H) hKb (nsK hns)).run callerA [] s₁ H { pos := [.ref a] } [.ref a] [.ref a] (fun v _ => v = .bl true) (fun _ _ _ => False) hr rfl e0 (hbind s₁ _) (.cons rfl .nil) (hsp H hO hS)) fun r s' h => ?_
    match r, h with
    | .error e, h => exact (hCX H e s' h).elim
    | .ok .next, h => exact h.elim
    | .ok .brk, h => exact h.elim
    | .ok .cont, h => exact h.elim
    | .ok (.ret u), ⟨v, H', os, bare, un, hok', r', q⟩ =>
      subst q
      rw [show u = .bool true from r']
      refine ⟨rfl, OldK.of_keep fun b o e => ?_, os, bare⟩
      rcases hO b with z | ⟨ob, xs, z⟩
      · exact un.keep b o e z (fun z => nomatch z) (fun z => nomatch z)
      · have h1 := (hok b _ z).1
        have h2 := (hok' b _ (un.frzs b ob _ z)).1
        rw [e] at h1
        cases h1
        exact h2
  cases hk : K.lookup a with
  | none =>
    refine core (fun b => if b = a then some (.frz { cls := .type "list", data := .seq vs.toArray } (.lst (ns.map V.int))) else none) (fun b => ?_) (.inl (.inr ⟨_, if_pos rfl⟩)) (fun b u z => ?_) (fun b z => ?_) fun _ => hk
    · by_cases h : b = a
      · exact .inr ⟨_, _, if_pos h⟩
      · exact .inl (if_neg h)
    · by_cases h : b = a
      · have z' := (if_pos h).symm.trans z
        cases z'
        subst h
        exact ⟨ha, by rw [List.length_map]; exact hl, vs, 0, rv, ha⟩
      · have z' := (if_neg h).symm.trans z
        cases z'
    · by_cases h : b = a
      · exact h
      · exact absurd (if_neg h) z
  | some o =>
    have e := KX a o hk
    rw [ha] at e
    cases e
    exact core (fun _ => none) (fun _ => .inl rfl) (.inr ⟨_, vs.toArray, 0, hk, rfl, rfl, rfl, by rw [List.size_toArray, lenV]; exact hl, rv⟩) (fun b u z => nomatch z) (fun b z => absurd rfl z) fun z => absurd rfl z
theorem walk_ofG {l : PySem.W.OpenLaw} {n k : Nat} {q : Program} {loose : List Str} {XP : (Str → Option Value) → Heap → Prop} {YP : World → Heap → Prop} {d : DefRec} {K : Params → PySem.W.Frag} {CX : World → CXT} {sp : World → Sp} {x : Str} (hn : l.most = some n) (hn2 : n ≤ sizeLine) (hdf : d.params.defaults = []) (hr : Room k callerA)
    (hY : ∀ (w : World) (h : Heap), YP w h → (K w.params).In h)
    (F : ∀ (w : World) (mg : Str → Option Value) (fa : Addr) (h : Heap), (K w.params).In h → h.Ns mainGlobals mg → mg d.name = some (.ref fa) → ∃ fd, (∀ (s : Shared) (u : Value), BindsTo s fd { pos := [u] } [(x, u)]) ∧ ∀ base : Heap, (K w.params).In base → base.Ns mainGlobals mg → FnG l.prog w (K w.params) mg base (CX w) k fa fd [x] (sp w))
    (hsp : ∀ (w : World) (H : Hp) (a : Addr) (ns : List Int), ns.length ≤ n → Only H → SqL (K w.params) H a (ns.map V.int) → sp w [.ref a] H (fun v _ => v = .bl true) fun _ _ _ => False)
    (hCX : ∀ (w : World) (H : Hp) (s : Shared) (e : Value) (s' : Shared), CX w [] H s (fun _ _ _ => False) e s' → False) :
    PySem.W.WalkO q loose XP YP l.row.toRowW d [] (fun f vs => PySem.call f vs) :=
  Att.attach_call hn hdf fun w s₀ s₁ mg mb fa o pm cd doc a vs ns G Y ho hd hcd hmg hobj hints hlen hg => by
    have KX := hY w s₁.heap Y
    obtain ⟨fd, hb, hF⟩ := F w mg fa s₁.heap KX G.T.g hmg
    exact law_callG KX G.T.g G.T.b G.T.builtins G.T.nolimit hg hobj hints (Nat.le_trans hlen hn2) hr hF hb (fun H hO hS => hsp w H a ns hlen hO hS) fun H e s' => hCX w H s₁ e s'
end FnGd
end

-- HeadB
section
set_option Elab.async false
set_option linter.all false
set_option maxRecDepth 100000
set_option maxHeartbeats 2000000
/-! a law's end over a head that is one kernel run: the facts are one Bool over the written part, its addresses are told by names; nothing of the heap is written out. -/
namespace HdB
open PySem PySem.Spec PyProof.Rows L2 He
abbrev AlB : Type := Bool × AlD
def obsB (ck : List (PySem.W.Frag → Bool)) (fn : List DefD) (K : PySem.W.Frag) : AlB := (ck.all fun f => f K, obsD [] fn K)
def valB (fn : List DefD) : AlB := (true, valD fn)
abbrev SaysB (ck : List (PySem.W.Frag → Bool)) (fn : List DefD) (K : PySem.W.Frag) : Prop := obsB ck fn K = valB fn
def hookB (as : List Addr) (ck : List (PySem.W.Frag → Bool)) (fn : List DefD) : PySem.W.Hook where
  α := AlB
  obs := fun s => obsB ck fn (frG s.heap.get? as)
  val := fun _ => valB fn
  says := fun _ h => ∃ K : PySem.W.Frag, K.In h ∧ SaysB ck fn K
  of := fun _ _ e => ⟨_, frG_in, e⟩
  keeps := fun _ _ _ ⟨K, hK, c⟩ k => ⟨K, PySem.W.Frag.In.keeps hK k, c⟩
def obB (as : List Addr) (ck : List (PySem.W.Frag → Bool)) (fn : List DefD) (s : PySem.W.SharedT) : AlB := obsB ck fn (frG (HandSHeadRun.getT s) as)
theorem obB_eq (as : List Addr) (ck : List (PySem.W.Frag → Bool)) (fn : List DefD) (s : PySem.W.SharedT) : obB as ck fn s = (hookB as ck fn).obs s.abs := by
  have e : HandSHeadRun.getT s = s.abs.heap.get? := funext (HandSHeadRun.getT_eq s)
  unfold obB
  rw [e]
  rfl
section
variable {ck : List (PySem.W.Frag → Bool)} {fn : List DefD} {K : PySem.W.Frag}
theorem SaysB.fact (c : SaysB ck fn K) (i : Nat) {f : PySem.W.Frag → Bool} (h : ck[i]? = some f := by rfl) : f K = true := by
  have c1 : (ck.all fun f => f K) = true := congrArg (fun z : AlB => z.1) c
  exact List.all_eq_true.mp c1 f (List.mem_of_getElem? h)
theorem SaysB.isP (c : SaysB ck fn K) (i : Nat) {p : PySem.W.Frag → Prop} [∀ K, Decidable (p K)] (h : ck[i]? = some (fun K => decide (p K)) := by rfl) : p K := of_decide_eq_true (c.fact i h)
theorem SaysB.def_ (c : SaysB ck fn K) (i : Nat) {d : DefD} (h : fn[i]? = some d := by rfl) : ∃ fd, FunD K d.name d.qual d.params d.body d.scope (d.dvs K) (d.kws K) (fAd K d.at_) fd := by
  have c2 : SaysD [] fn K := congrArg (fun z : AlB => z.2) c
  exact c2.def_ i h
end
/-- a def without defaults -/
theorem funOf {K : PySem.W.Frag} {x q : Str} {st : Stmt} {f : Addr} (h : ∃ fd, FunD K x q (defArgs st) (defBody st) (defScope st) [] [] f fd) : ∃ fd, Fun K x q st f fd := by
  obtain ⟨fd, ⟨⟨oc, od, dV, kV, doc, pm, an, cdv, ct, osl, e, l, c, dd, kk⟩, kp⟩⟩ := h
  rcases dd with ⟨_, q⟩ | ⟨n, _⟩
  · subst q
    exact ⟨fd, ⟨⟨oc, od, kV, doc, pm, an, cdv, ct, osl, e, l, c⟩, kp⟩⟩
  · exact (n rfl).elim
/-- an own error class, seen by a Bool -/
def clsX (K : PySem.W.Frag) (C : Addr) (bt : List Value) (newId : String) : Bool := match K.lookup C with
  | some ⟨.type "type", _, .cls cd, sl⟩ => (match cd.mro, sl.toList with
    | .ref C' :: bm, [_, _, _, _, some (.builtin n), _] => C' == C && (n == newId && (!cd.hasDel && (cd.hasDict && PySem.Giv.tailIs bt bm)))
    | _, _ => false)
  | _ => false
theorem clsX_ok {K : PySem.W.Frag} {C : Addr} {bt : List Value} {newId : String} (q : clsX K C bt newId = true) :
    ∃ nm qn N bs bm sn sub ab col dd k0 k1 k2 k3 k5, K.lookup C = some (PySem.excClassObj nm qn C N bs bm true sn sub ab col dd k0 k1 k2 k3 k5 newId) ∧ PySem.Giv.tailIs bt bm = true := by
  unfold clsX at q
  split at q
  · rename_i dd cd sl ho
    split at q
    · rename_i C' bm k0 k1 k2 k3 n k5 hm hs
      obtain ⟨a1, q⟩ := ba q
      obtain ⟨a2, q⟩ := ba q
      obtain ⟨a3, q⟩ := ba q
      obtain ⟨a4, a5⟩ := ba q
      have b1 := beq_iff_eq.mp a1
      have b2 := beq_iff_eq.mp a2
      have b3 : cd.hasDel = false := by
        cases z : cd.hasDel with
        | false => rfl
        | true => rw [z] at a3; cases a3
      clear a1 a2 a3
      obtain ⟨nm, bs, mro, ns, qn, hd, sn, sub, ab, col, del⟩ := cd
      dsimp only at hm b3 a4
      subst hm b3 a4 b1 b2
      have hsl : sl = #[k0, k1, k2, k3, some (.builtin n), k5] := by
        obtain ⟨l⟩ := sl
        simp only at hs
        rw [hs]
      subst hsl
      exact ⟨nm, qn, ns, bs, bm, sn, sub, ab, col, dd, k0, k1, k2, k3, k5, ho, a5⟩
    · cases q
  · cases q
instance {K : PySem.W.Frag} {C : Addr} : Decidable (Cls K C) := decidable_of_iff (PySem.W.plainGet K C Str.empty = true ∧ PySem.W.hasDictIn K C = true ∧ PySem.W.plainOver K C = true ∧ PySem.W.findIn K (.ref C) "__setattr__" = some (some (.builtin "object.__setattr__")))
  ⟨fun ⟨a, b, c, d⟩ => ⟨a, b, c, d⟩, fun ⟨a, b, c, d⟩ => ⟨a, b, c, d⟩⟩
instance {K : PySem.W.Frag} {C : Addr} {f : Str} : Decidable (NoAttr K C f) := inferInstanceAs (Decidable (PySem.W.findIn K (.ref C) f = some none))
/-- an own error class that keeps its argument in the field given: all that is asked of it, by one Bool -/
def kwN (K : PySem.W.Frag) (f : Addr) : Bool := match K.lookup f with
  | some ⟨_, _, .func fd, _⟩ => (match fd.kwdefaults with
    | .none => true
    | _ => false)
  | _ => false
structure ErrB (K : PySem.W.Frag) (E f : Addr) (cn : Str) (bt : List Value) (newId : String) : Prop where
  here : PySem.W.nsIn K mainGlobals cn = some (some (.ref E))
  xL : clsX K E bt newId = true
  sa : PySem.W.findIn K (.ref E) "__setattr__" = some (some (.builtin "object.__setattr__"))
  ga : PySem.W.findIn K (.ref E) "__getattribute__" = some (some (.builtin "BaseException.__getattribute__"))
  gg : PySem.W.findIn K (.ref E) "__getattr__" = some none
  no : PySem.W.findIn K (.ref E) "given" = some none
  iC : PySem.W.findIn K (.ref E) "__init__" = some (some (.ref f))
  tC : PySem.W.typeIn K (.ref f) = some (.type "function")
  kC : PySem.W.keepIn K (.ref E) = true
  ex : PySem.W.subIn K (.ref E) (.type "BaseException") = some true
  ty : PySem.W.typeIn K (.ref E) = some (.type "type")
  hd : PySem.W.hasDictIn K E = true
  te : PySem.W.exmOne K (.ref E) (.ref E) = some true
  kn : kwN K f = true
instance {K : PySem.W.Frag} {E f : Addr} {cn : Str} {bt : List Value} {newId : String} : Decidable (ErrB K E f cn bt newId) := decidable_of_iff ((PySem.W.nsIn K mainGlobals cn = some (some (.ref E))) ∧ (clsX K E bt newId = true) ∧ (PySem.W.findIn K (.ref E) "__setattr__" = some (some (.builtin "object.__setattr__"))) ∧ (PySem.W.findIn K (.ref E) "__getattribute__" = some (some (.builtin "BaseException.__getattribute__"))) ∧ (PySem.W.findIn K (.ref E) "__getattr__" = some none) ∧ (PySem.W.findIn K (.ref E) "given" = some none) ∧ (PySem.W.findIn K (.ref E) "__init__" = some (some (.ref f))) ∧ (PySem.W.typeIn K (.ref f) = some (.type "function")) ∧ (PySem.W.keepIn K (.ref E) = true) ∧ (PySem.W.subIn K (.ref E) (.type "BaseException") = some true) ∧ (PySem.W.typeIn K (.ref E) = some (.type "type")) ∧ (PySem.W.hasDictIn K E = true) ∧ (PySem.W.exmOne K (.ref E) (.ref E) = some true) ∧ (kwN K f = true))
  ⟨fun ⟨here_, xL_, sa_, ga_, gg_, no_, iC_, tC_, kC_, ex_, ty_, hd_, te_, kn_⟩ => ⟨here_, xL_, sa_, ga_, gg_, no_, iC_, tC_, kC_, ex_, ty_, hd_, te_, kn_⟩, fun ⟨here_, xL_, sa_, ga_, gg_, no_, iC_, tC_, kC_, ex_, ty_, hd_, te_, kn_⟩ => ⟨here_, xL_, sa_, ga_, gg_, no_, iC_, tC_, kC_, ex_, ty_, hd_, te_, kn_⟩⟩
theorem ErrB.txt {K : PySem.W.Frag} {E f : Addr} {cn qn : Str} {bt : List Value} {newId : String} {p1 p2 q1 q2 q3 q4 : Pos} (b : ErrB K E f cn bt newId)
    (F : ∃ fd, FunD K "__init__" qn (PySem.Giv.gA p1 p2) (PySem.Giv.gB q1 q2 q3 q4) PySem.Giv.gS [] [] f fd) (mg : Str → Option Value) (hg : mg cn = some (.ref E)) : PySem.Giv.ErrTxt K mg cn qn newId bt E f := by
  obtain ⟨fd, ⟨⟨oc, od, dV, kV, doc, pm, an, cdv, ct, osl, e, l, c, dd, kk⟩, kp⟩⟩ := F
  subst e
  have k := b.kn
  unfold kwN at k
  rw [l] at k
  have hk : kV = .none := by
    cases kV with
    | none => rfl
    | _ => cases k
  have hd : dV = .none := by
    rcases dd with ⟨_, q⟩ | ⟨n, _⟩
    · exact q
    · exact (n rfl).elim
  subst hk hd
  exact { gC := hg, cls := clsX_ok b.xL, sa := b.sa, ga := b.ga, gg := b.gg, noN := b.no, iC := b.iC, tC := b.tC, kC := b.kC, exC := b.ex, tyC := b.ty, hdC := b.hd, te := b.te, fn := ⟨oc, od, doc, pm, an, cdv, ct, osl, p1, p2, q1, q2, q3, q4, l, c⟩ }
/-- where a class stands, where a method of it does -/
abbrev gaX (K : PySem.W.Frag) (x : Str) : Addr := He.ga K x
abbrev maX (K : PySem.W.Frag) (x m : Str) : Addr := He.ma K (He.ga K x) m
abbrev gD (x : Str) (st : Stmt) : DefD := ⟨(x, none), x, x, defArgs st, defBody st, defScope st, [], []⟩
abbrev mD (c x q : Str) (st : Stmt) : DefD := ⟨(c, some x), x, q, defArgs st, defBody st, defScope st, [], []⟩
/-- the law's end: K and what is known of it come out of the Hook -/
theorem walk_ofB {l : PySem.W.OpenLaw} {n k : Nat} {q : Program} {loose : List Str} {XP : (Str → Option Value) → Heap → Prop} {YP : World → Heap → Prop} {d : DefRec} {CX : World → CXT} {x : Str} (hn : l.most = some n) (hn2 : n ≤ sizeLine) (hdf : d.params.defaults = []) (hr : Room k callerA)
    (F : ∀ (w : World) (mg : Str → Option Value) (fa : Addr) (h : Heap), YP w h → h.Ns mainGlobals mg → mg d.name = some (.ref fa) → ∃ (K : PySem.W.Frag) (fd : FuncData) (sp : Sp), K.In h ∧ (∀ (s : Shared) (u : Value), BindsTo s fd { pos := [u] } [(x, u)]) ∧
      (∀ (H : Hp) (a : Addr) (ns : List Int), ns.length ≤ n → Only H → SqL K H a (ns.map V.int) → sp [.ref a] H (fun v _ => v = .bl true) fun _ _ _ => False) ∧
      ∀ base : Heap, K.In base → base.Ns mainGlobals mg → FnGd.FnG l.prog w K mg base (CX w) k fa fd [x] sp)
    (hCX : ∀ (w : World) (H : Hp) (s : Shared) (e : Value) (s' : Shared), CX w [] H s (fun _ _ _ => False) e s' → False) :
    PySem.W.WalkO q loose XP YP l.row.toRowW d [] (fun f vs => PySem.call f vs) :=
  Att.attach_call hn hdf fun w s₀ s₁ mg mb fa o pm cd doc a vs ns G Y ho hd hcd hmg hobj hints hlen hg => by
    obtain ⟨K, fd, sp, KX, hb, hsp, hF⟩ := F w mg fa s₁.heap Y G.T.g hmg
    exact FnGd.law_callG KX G.T.g G.T.b G.T.builtins G.T.nolimit hg hobj hints (Nat.le_trans hlen hn2) hr hF hb (fun H hO hS => hsp H a ns hlen hO hS) fun H e s' => hCX w H s₁ e s'
end HdB
end

-- HeadS
section
set_option Elab.async false
set_option linter.all false
set_option maxRecDepth 100000
set_option maxHeartbeats 2000000
/-! HeadB, and defs that say super() (their cell of the class, their code's file, keyword-only defaults). -/
namespace HdS
open PySem PySem.Spec PyProof.Rows L2 He HdB
abbrev FnSW : Type := Option (Str × Str × Arguments × FuncBody × Scope × Addr × List Str × Addr)
/-- such a def: where it stands, its names, what it is made of, its keyword-only defaults (true: None, false: some object), its class, its file -/
structure DefS where
  at_ : Str × Option Str
  name : Str
  qual : Str
  params : Arguments
  body : List Stmt
  scope : Scope
  kwd : List (Str × Bool)
  cls : Str
  file : Str
def fnS (K : PySem.W.Frag) (p : Str × Option Str) : FnSW := match K.lookup (fAd K p) with
  | some ⟨_, _, .func fd, _⟩ => some (fd.name, fd.qualname, fd.params, fd.body, fd.scope, fd.globals, fd.closure.map (·.1), fd.builtins)
  | _ => none
def DefS.val (d : DefS) : FnSW := some (d.name, d.qual, d.params, .stmts d.body, d.scope, mainGlobals, ["__class__"], builtinsNs)
/-- where a keyword-only default lies -/
def kwAd (K : PySem.W.Frag) (f : Addr) (k : Str) : Addr := match K.lookup f with
  | some ⟨_, _, .func fd, _⟩ => (match fd.kwdefaults with
    | .ref D => (match PySem.W.nsIn K D k with
      | some (some (.ref a)) => a
      | _ => 0)
    | _ => 0)
  | _ => 0
def DefS.kws (K : PySem.W.Frag) (d : DefS) : List (Str × V) := d.kwd.map fun q => (q.1, if q.2 then V.non else V.ref (kwAd K (fAd K d.at_) q.1))
def isNo : Value → Bool
  | .none => true
  | _ => false
def fileB (K : PySem.W.Frag) (file : Str) : Value → Bool
  | .ref c => (match K.lookup c with
    | some ⟨_, _, .fields vs, _⟩ => (match (vs[2]? : Option Value) with
      | some (.str z _) => decide (z = file)
      | _ => false)
    | _ => false)
  | _ => false
def cellB (K : PySem.W.Frag) (C : Addr) : List (Str × Addr) → Bool
  | [(_, cc)] => (match K.lookup cc with
    | some ⟨_, _, .cell (some (.ref D)), _⟩ => decide (D = C)
    | _ => false)
  | _ => false
def DefS.ok (K : PySem.W.Frag) (d : DefS) : Bool := match K.lookup (fAd K d.at_) with
  | some ⟨_, _, .func fd, _⟩ => PySem.W.codeIn K fd.code d.qual && (isNo fd.defaults && (kwdB K fd.kwdefaults (d.kws K) && (fileB K d.file fd.code && cellB K (ga K d.cls) fd.closure)))
  | _ => false
/-- a plain def that stands at an address told by the written part (a property's getter) -/
structure DefP where
  at_ : PySem.W.Frag → Addr
  name : Str
  qual : Str
  params : Arguments
  body : List Stmt
  scope : Scope
def fnP (K : PySem.W.Frag) (a : Addr) : FnW := match K.lookup a with
  | some ⟨_, _, .func fd, _⟩ => some (fd.name, fd.qualname, fd.params, fd.body, fd.scope, fd.globals, fd.closure, fd.builtins)
  | _ => none
def DefP.val (d : DefP) : FnW := some (d.name, d.qual, d.params, .stmts d.body, d.scope, mainGlobals, [], builtinsNs)
def DefP.ok (K : PySem.W.Frag) (d : DefP) : Bool := PySem.W.keepIn K (.ref (d.at_ K)) && (match K.lookup (d.at_ K) with
  | some ⟨_, _, .func fd, _⟩ => PySem.W.codeIn K fd.code d.qual && (isNo fd.defaults && isNo fd.kwdefaults)
  | _ => false)
abbrev AlS : Type := AlB × (Bool × List FnSW) × (Bool × List FnW)
def obsS (ck : List (PySem.W.Frag → Bool)) (fn : List DefD) (sn : List DefS) (pn : List DefP) (K : PySem.W.Frag) : AlS := (obsB ck fn K, (sn.all fun d => d.ok K, sn.map fun d => fnS K d.at_), (pn.all fun d => d.ok K, pn.map fun d => fnP K (d.at_ K)))
def valS (fn : List DefD) (sn : List DefS) (pn : List DefP) : AlS := (valB fn, (true, sn.map DefS.val), (true, pn.map DefP.val))
abbrev SaysS (ck : List (PySem.W.Frag → Bool)) (fn : List DefD) (sn : List DefS) (pn : List DefP) (K : PySem.W.Frag) : Prop := obsS ck fn sn pn K = valS fn sn pn
def hookS (as : List Addr) (ck : List (PySem.W.Frag → Bool)) (fn : List DefD) (sn : List DefS) (pn : List DefP) : PySem.W.Hook where
  α := AlS
  obs := fun s => obsS ck fn sn pn (frG s.heap.get? as)
  val := fun _ => valS fn sn pn
  says := fun _ h => ∃ K : PySem.W.Frag, K.In h ∧ SaysS ck fn sn pn K
  of := fun _ _ e => ⟨_, frG_in, e⟩
  keeps := fun _ _ _ ⟨K, hK, c⟩ k => ⟨K, PySem.W.Frag.In.keeps hK k, c⟩
def obS (as : List Addr) (ck : List (PySem.W.Frag → Bool)) (fn : List DefD) (sn : List DefS) (pn : List DefP) (s : PySem.W.SharedT) : AlS := obsS ck fn sn pn (frG (HandSHeadRun.getT s) as)
theorem obS_eq (as : List Addr) (ck : List (PySem.W.Frag → Bool)) (fn : List DefD) (sn : List DefS) (pn : List DefP) (s : PySem.W.SharedT) : obS as ck fn sn pn s = (hookS as ck fn sn pn).obs s.abs := by
  have e : HandSHeadRun.getT s = s.abs.heap.get? := funext (HandSHeadRun.getT_eq s)
  unfold obS
  rw [e]
  rfl
section
variable {ck : List (PySem.W.Frag → Bool)} {fn : List DefD} {sn : List DefS} {pn : List DefP} {K : PySem.W.Frag}
theorem SaysS.b (c : SaysS ck fn sn pn K) : SaysB ck fn K := congrArg (fun z : AlS => z.1) c
theorem SaysS.sdef (c : SaysS ck fn sn pn K) (i : Nat) {d : DefS} (h : sn[i]? = some d := by rfl) :
    ∃ (oc : Value) (od : Option Addr) (kV doc pm : Value) (an : Option Addr) (cda : Addr) (ct : Value) (cc : Addr) (osl : Array (Option Value)),
      K.lookup (fAd K d.at_) = some ⟨oc, od, .func (PySem.W.ksFn d.name d.qual d.params d.body d.scope .none kV doc pm an (.ref cda) ct cc), osl⟩ ∧ PySem.W.codeIn K (.ref cda) d.qual = true ∧ KwdV K kV (d.kws K) ∧
      (∃ cl od vs sl file tf, K.lookup cda = some ⟨cl, od, .fields vs, sl⟩ ∧ vs[2]? = some (.str file tf) ∧ file = d.file) ∧ ∃ cl cld csl, K.lookup cc = some ⟨cl, cld, .cell (some (.ref (ga K d.cls))), csl⟩ := by
  have c1 : (sn.all fun d => d.ok K) = true := congrArg (fun z : AlS => z.2.1.1) c
  have e : sn.map (fun d => fnS K d.at_) = sn.map DefS.val := congrArg (fun z : AlS => z.2.1.2) c
  have ok := List.all_eq_true.mp c1 d (List.mem_of_getElem? h)
  have e2 : (sn.map fun d => fnS K d.at_)[i]? = (sn.map DefS.val)[i]? := by rw [e]
  rw [List.getElem?_map, List.getElem?_map, h] at e2
  have e3 : fnS K d.at_ = d.val := Option.some.inj e2
  unfold fnS at e3
  unfold DefS.ok at ok
  cases q : K.lookup (fAd K d.at_) with
  | none =>
    rw [q] at ok
    cases ok
  | some o =>
    obtain ⟨oc, od, dt, osl⟩ := o
    rw [q] at ok e3
    cases dt with
    | func fd =>
      obtain ⟨n1, n2, n3, n4, n5, n6, n7, n8, n9, n10, n11, n12, n13, n14, n15⟩ := fd
      have e4 : (some (n1, n2, n3, n4, n5, n6, (n7.map fun q => q.1 : List Str), n15) : FnSW) = some (d.name, d.qual, d.params, FuncBody.stmts d.body, d.scope, mainGlobals, (["__class__"] : List Str), builtinsNs) := e3
      simp only [Option.some.injEq, Prod.mk.injEq] at e4
      obtain ⟨h1, h2, h3, h4, h5, h6, h7, h8⟩ := e4
      subst h1 h2 h3 h4 h5 h6 h8
      have c3 : (PySem.W.codeIn K n13 d.qual && (isNo n8 && (kwdB K n9 (d.kws K) && (fileB K d.file n13 && cellB K (ga K d.cls) n7)))) = true := ok
      obtain ⟨k1, k2⟩ := ba c3
      obtain ⟨k3, k4⟩ := ba k2
      obtain ⟨k5, k6⟩ := ba k4
      obtain ⟨k7, k8⟩ := ba k6
      have z8 : n8 = .none := by
        cases n8 with
        | none => rfl
        | _ => cases k3
      subst z8
      obtain ⟨cc, rfl⟩ : ∃ cc, n7 = [(("__class__" : Str), cc)] := by
        match n7, h7 with
        | [(x, cc)], h7 =>
          have : x = "__class__" := by
            have := List.cons.inj h7
            exact this.1
          exact ⟨cc, by rw [this]⟩
      unfold fileB at k7
      unfold cellB at k8
      cases n13 with
      | ref cda =>
        refine ⟨oc, od, n9, n10, n11, n12, cda, n14, cc, osl, rfl, k1, kwdB_ok k5, ?_, ?_⟩
        · dsimp only at k7
          cases ql : K.lookup cda with
          | none => rw [ql] at k7; cases k7
          | some o2 =>
            obtain ⟨cl, od2, dt2, sl⟩ := o2
            rw [ql] at k7
            cases dt2 with
            | fields vs =>
              dsimp only at k7
              cases qv : vs[2]? with
              | none => rw [qv] at k7; cases k7
              | some v =>
                rw [qv] at k7
                cases v with
                | str z t => exact ⟨_, _, vs, _, z, t, rfl, qv, of_decide_eq_true k7⟩
                | _ => cases k7
            | _ => cases k7
        · dsimp only at k8
          cases ql : K.lookup cc with
          | none => rw [ql] at k8; cases k8
          | some o2 =>
            obtain ⟨cl, od2, dt2, sl⟩ := o2
            rw [ql] at k8
            cases dt2 with
            | cell cv =>
              cases cv with
              | none => cases k8
              | some v =>
                cases v with
                | ref D =>
                  have e5 : D = ga K d.cls := of_decide_eq_true k8
                  subst e5
                  exact ⟨_, _, _, rfl⟩
                | _ => cases k8
            | _ => cases k8
      | _ => cases k7
    | _ => cases ok
theorem SaysS.pdef (c : SaysS ck fn sn pn K) (i : Nat) {d : DefP} (h : pn[i]? = some d := by rfl) : ∃ fd, FunD K d.name d.qual d.params d.body d.scope [] [] (d.at_ K) fd := by
  have c1 : (pn.all fun d => d.ok K) = true := congrArg (fun z : AlS => z.2.2.1) c
  have e : pn.map (fun d => fnP K (d.at_ K)) = pn.map DefP.val := congrArg (fun z : AlS => z.2.2.2) c
  have ok := List.all_eq_true.mp c1 d (List.mem_of_getElem? h)
  have e2 : (pn.map fun d => fnP K (d.at_ K))[i]? = (pn.map DefP.val)[i]? := by rw [e]
  rw [List.getElem?_map, List.getElem?_map, h] at e2
  have e3 : fnP K (d.at_ K) = d.val := Option.some.inj e2
  unfold fnP at e3
  unfold DefP.ok at ok
  obtain ⟨kp, ok⟩ := ba ok
  cases q : K.lookup (d.at_ K) with
  | none =>
    rw [q] at ok
    cases ok
  | some o =>
    obtain ⟨oc, od, dt, osl⟩ := o
    rw [q] at ok e3
    cases dt with
    | func fd =>
      obtain ⟨n1, n2, n3, n4, n5, n6, n7, n8, n9, n10, n11, n12, n13, n14, n15⟩ := fd
      have e4 : (some (n1, n2, n3, n4, n5, n6, n7, n15) : FnW) = some (d.name, d.qual, d.params, FuncBody.stmts d.body, d.scope, mainGlobals, [], builtinsNs) := e3
      simp only [Option.some.injEq, Prod.mk.injEq] at e4
      obtain ⟨h1, h2, h3, h4, h5, h6, h7, h8⟩ := e4
      subst h1 h2 h3 h4 h5 h6 h7 h8
      have c3 : (PySem.W.codeIn K n13 d.qual && (isNo n8 && isNo n9)) = true := ok
      obtain ⟨k1, k2⟩ := ba c3
      obtain ⟨k3, k4⟩ := ba k2
      have z8 : n8 = .none := by
        cases n8 with
        | none => rfl
        | _ => cases k3
      have z9 : n9 = .none := by
        cases n9 with
        | none => rfl
        | _ => cases k4
      subst z8 z9
      exact ⟨_, ⟨oc, od, .none, .none, n10, n11, n12, n13, n14, osl, rfl, q, k1, .inl ⟨rfl, rfl⟩, .inl rfl⟩, kp⟩
    | _ => cases ok
end
end HdS
end

-- HeadI
section
set_option Elab.async false
set_option linter.all false
set_option maxRecDepth 100000
/-! the head of a program that opens with imports: its opening run in the kernel too, then the top (HandS.Head0 to Head2 serve a program without imports). -/
noncomputable section
namespace HdI
open PySem PySem.W PySem.Calls PyProof.Rows HandSHeadRun
/-- the opening, to its end -/
def impF (st : SharedT → Thread → Option (SharedT × Thread)) : Nat → SharedT → Thread → Option SharedT
  | 0, _, _ => none
  | m + 1, s, t => match t.atExitBegin with
    | some [] => some s
    | some (_ :: _) => none
    | none => match st s t with
      | some (s', t') => frS s' fun s' => impF st m s' t'
      | none => none
theorem impF_ok {tb : String → Option Builtin} {p : Program} {w : World} : ∀ {m : Nat} {s s' : SharedT} {t : Thread}, impF (stepT (denote tb) p w) m s t = some s' → importEnds tb p w m s.abs t = some s'.abs
  | 0, _, _, _, h => by cases h
  | m + 1, s, s', t, h => by
    unfold impF at h
    unfold importEnds
    cases ht : t.atExitBegin with
    | some l =>
      rw [ht] at h
      cases l with
      | nil => cases h; rfl
      | cons a r => cases h
    | none =>
      rw [ht] at h
      cases hs : stepT (denote tb) p w s t with
      | none => rw [hs] at h; cases h
      | some r =>
        obtain ⟨s2, t2⟩ := r
        rw [hs] at h
        have h3 : (frS s2 fun s' => impF (stepT (denote tb) p w) m s' t2) = some s' := h
        rw [frS_eq] at h3
        have q := impF_ok h3
        show (match step (denote tb) p w s.abs t with
          | .go s' t' => importEnds tb p w m s' t'
          | .halt _ _ => none) = some s'.abs
        rw [stepT_spec hs]
        exact q
def s0T (p : Program) : SharedT := ⟨.nil, 0, (start p).1.heap.life, #[], (start p).1.drawn, (start p).1.toks, (start p).1.os⟩
theorem s0T_abs (p : Program) : (s0T p).abs = (start p).1 := rfl
/-- a shared state as a tree -/
def asT {α : Type} (s : Shared) (k : SharedT → Option α) : Option α := match putAll s.heap.objs.toList .nil 0 with
  | some (t, n) => frNat n fun n => k ⟨t, n, s.heap.life, s.gens, s.drawn, s.toks, s.os⟩
  | none => none
theorem asT_ok {α : Type} {s : Shared} {k : SharedT → Option α} {x : α} (h : asT s k = some x) : ∃ z : SharedT, z.abs = s ∧ k z = some x := by
  unfold asT at h
  cases e : putAll s.heap.objs.toList .nil 0 with
  | none => rw [e] at h; cases h
  | some r =>
    obtain ⟨t, n⟩ := r
    rw [e] at h
    have h1 : (frNat n fun n => k ⟨t, n, s.heap.life, s.gens, s.drawn, s.toks, s.os⟩) = some x := h
    rw [frNat_eq] at h1
    refine ⟨_, ?_, h1⟩
    show (⟨absHeap t n s.heap.life, s.gens, s.drawn, s.toks, s.os⟩ : Shared) = s
    rw [putAll_heap e]
/-- the opening's steps, the fence, the top's steps, the looks -/
def endI {α : Type} (st st' : SharedT → Thread → Option (SharedT × Thread)) (M1 M : Nat) (p : Program) (look : Shared → SharedT → α) : Option α :=
  match impF st' M1 (s0T (opening p)) (start (opening p)).2 with
  | some s => match fenceModules? p s.abs with
    | some s2 => asT s2 fun z => match s2.heap.isNs mainGlobals && s2.gens.size == 0 with
      | true => (goF st z.n (s2.heap.nsMap mainGlobals "__annotations__") M z (topStub p)).map (look s2)
      | false => none
    | none => none
  | none => none
theorem endI_ok {α : Type} {M1 M : Nat} {p : Program} {w : World} {look : Shared → SharedT → α} {x : α} (h : endI (stepT (denote treeTable) p w) (stepT (denote treeTable) (opening p) w) M1 M p look = some x) :
    ∃ s2 s3, fencedOpening treeTable p w M1 = some s2 ∧ (s2.heap.isNs mainGlobals && s2.gens.size == 0) = true ∧ topRun treeTable p w s2.heap.objs.size (s2.heap.nsMap mainGlobals "__annotations__") M s2 (topStub p) = some s3.abs ∧ look s2 s3 = x := by
  unfold endI at h
  cases e : impF (stepT (denote treeTable) (opening p) w) M1 (s0T (opening p)) (start (opening p)).2 with
  | none => rw [e] at h; cases h
  | some s =>
    rw [e] at h
    have q := impF_ok e
    rw [s0T_abs] at q
    have h1 : (match fenceModules? p s.abs with
      | some s2 => asT s2 fun z => match s2.heap.isNs mainGlobals && s2.gens.size == 0 with
        | true => (goF (stepT (denote treeTable) p w) z.n (s2.heap.nsMap mainGlobals "__annotations__") M z (topStub p)).map (look s2)
        | false => none
      | none => none) = some x := h
    cases e2 : fenceModules? p s.abs with
    | none => rw [e2] at h1; cases h1
    | some s2 =>
      rw [e2] at h1
      obtain ⟨z, hz, h2⟩ := asT_ok h1
      cases e3 : (s2.heap.isNs mainGlobals && s2.gens.size == 0) with
      | false =>
        rw [e3] at h2
        cases h2
      | true =>
        rw [e3] at h2
        obtain ⟨s3, h3, h4⟩ := Option.map_eq_some_iff.mp h2
        refine ⟨s2, s3, ?_, e3, ?_, h4⟩
        · unfold fencedOpening
          rw [q]
          exact e2
        · have r := goF_ok h3
          have en : s2.heap.objs.size = z.n := by
            rw [← hz]
            exact absHeap_size _ _ _
          rw [hz] at r
          rw [en]
          exact r
def looksI (p : Program) (s2 : Shared) (s : Shared) : Bool := staticsOk (importedModules p.main.body) s2.heap s.heap && namesBound p s.heap && gensDone s && laidKept s2.heap s.heap
theorem left_two {p q : Program} {loose : List Str} {Xt : Shared → Bool} {α : Type} {Yf : Shared → α} {Ya : World → α} {N M1 M : Nat} (le1 : Nat.ble M1 N = true) (le : Nat.ble M N = true)
    (run : ∀ w : World, endI (stepT (denote treeTable) p w) (stepT (denote treeTable) (opening p) w) M1 M p (fun s2 s => (looksI p s2 s.abs, openSeen q loose (importedModules p.main.body) Xt true s.abs, Yf s.abs)) = some (true, openGood q loose, Ya w)) :
    LeftO p q loose Xt Yf Ya N true := fun w => by
  obtain ⟨s2, s3, h1, h2, h3, h4⟩ := endI_ok (run w)
  obtain ⟨l1, l2, l3⟩ : _ ∧ _ ∧ _ := by simpa only [Prod.mk.injEq] using h4
  have r := topRun_mono (N - M) _ _ _ _ h3
  rw [show M + (N - M) = N by have := Nat.le_of_ble_eq_true le; omega] at r
  have l1' : (staticsOk (importedModules p.main.body) s2.heap s3.abs.heap && namesBound p s3.abs.heap && gensDone s3.abs && laidKept s2.heap s3.abs.heap) = true := l1
  have t : topFrom treeTable p w N s2 = some s3.abs := by
    unfold topFrom
    rw [h2]
    show (topRun treeTable p w s2.heap.objs.size (s2.heap.nsMap mainGlobals "__annotations__") N s2 (topStub p)).bind _ = _
    rw [r]
    show (match staticsOk (importedModules p.main.body) s2.heap s3.abs.heap && namesBound p s3.abs.heap && gensDone s3.abs && laidKept s2.heap s3.abs.heap with | true => some s3.abs | false => none) = _
    rw [l1']
  have f : fencedOpening treeTable p w N = some s2 := by
    unfold fencedOpening at h1 ⊢
    obtain ⟨a, b, c⟩ := Option.bind_eq_some_iff.mp h1
    have m := importEnds_mono (N - M1) _ _ _ _ b
    rw [show M1 + (N - M1) = N by have := Nat.le_of_ble_eq_true le1; omega] at m
    rw [m]
    exact c
  unfold openEnds
  rw [f]
  show (topFrom treeTable p w N _).map _ = _
  rw [t]
  exact congrArg some (Prod.ext l2 l3)
/-- the run's equation at a world, by the library's twins -/
def RunI (r : OpenRow) (q : Program) (H : Hook) (ob : SharedT → H.α) (M1 M : Nat) (loose : List PySem.Str) (w : World) : Prop :=
  endI (stepQ (denQ tabQ) r.prog w) (stepQ (denQ tabQ) (opening r.prog) w) M1 M r.prog (fun s2 s => (looksI r.prog s2 s.abs, seenQ q loose (importedModules r.prog.main.body) (fun s => xlAt q [] s && recOk r.toRowW.records s) s.abs, ob s)) = some (true, openGood q loose, H.val w)
theorem head_imp {r : OpenRow} {q : Program} {H : Hook} {ob : SharedT → H.α} {M1 M : Nat} {loose : List PySem.Str} {d : DefRec} {kwd : List (PySem.Str × PySem.Expr)} (ho : ∀ s : SharedT, ob s = H.obs s.abs)
    (run : ∀ w, RunI r q H ob M1 M loose w)
    (hdef : defOf q r.name = some (d, kwd)) (hp : r.prog.theDef r.name = some (d.params, d.body, d.scope)) (hk : kwWritten? d.params.kwonlyargs d.params.kw_defaults = some kwd)
    (hwr : (!r.writes || r.records.isEmpty) = true) (k1 : r.wellSaid = true) (ok : (chainsOk q && opensWell r.prog && (frees r.toRowW && r.within.isEmpty)) = true) (hb : r.prog.bare) (hw : r.toRowW.promised)
    (call : WalkO q loose (XL q []) H.says r.toRowW d kwd fun f vs => PySem.call f vs) : r.Holds := by
  have left : LeftO r.prog q loose (fun s => xlAt q [] s && recOk r.toRowW.records s) H.obs H.val (M + M1) true :=
    left_two (M1 := M1) (M := M) (Nat.ble_eq_true_of_le (by omega)) (Nat.ble_eq_true_of_le (by omega)) fun w => by
      have z := run w
      have eo : ob = fun s => H.obs s.abs := funext ho
      unfold RunI at z
      rw [eo] at z
      rw [stepQ_eq, denQ_eq, tabQ_eq]
      simp only [seenQ_eq]
      exact z
  exact holds_open (r := r) (q := q) (loose := loose) (XP := XL q []) (YP := H.says) (d := d) (kwd := kwd) left H.of H.keeps (fun s z => xl_of s (Bool.and_eq_true_iff.mp z).1) XL.keeps hdef hp hk (fun s z => recFacts_of (Bool.and_eq_true_iff.mp z).2) hwr k1 ok hb hw call
end HdI
end

-- K48
section
set_option Elab.async false
set_option linter.all false
set_option maxRecDepth 100000
set_option maxHeartbeats 0
namespace R4
open PySem PySem.Spec PyProof.Rows L2 He HdB HdS OwnOps SupX StX
/-- the getter of text -/
def tgX (K : PySem.W.Frag) : Addr := match PySem.W.recIn K (maX K "Kind" "text") "property" with
  | some (.ref g :: _) => g
  | _ => 0
def recB (K : PySem.W.Frag) : Bool := match PySem.W.recIn K (maX K "Kind" "text") "property" with
  | some (.ref _ :: _) => true
  | _ => false
theorem recB_ok {K : PySem.W.Frag} (h : recB K = true) : ∃ rest, PySem.W.recIn K (maX K "Kind" "text") "property" = some (.ref (tgX K) :: rest) := by
  unfold recB at h
  unfold tgX
  cases q : PySem.W.recIn K (maX K "Kind" "text") "property" with
  | none => rw [q] at h; cases h
  | some l =>
    rw [q] at h
    cases l with
    | nil => cases h
    | cons v r => cases v with
      | ref g => exact ⟨r, rfl⟩
      | _ => cases h
/-- a class of kinds, all that is asked of it -/
structure KB (K : PySem.W.Frag) (C DK tp fx gE CP f gK DX : Addr) (d : Bool) : Prop where
  pg : PySem.W.plainGet K C Str.empty = true
  hd : PySem.W.hasDictIn K C = true
  po : PySem.W.plainOver K C = true
  sa : PySem.W.findIn K (.ref C) "__setattr__" = some (some (.builtin "object.__setattr__"))
  n1 : PySem.W.findIn K (.ref C) "name" = some none
  n2 : PySem.W.findIn K (.ref C) "pins" = some none
  n3 : PySem.W.findIn K (.ref C) "controls" = some none
  n4 : PySem.W.findIn K (.ref C) "is_path" = some none
  n5 : PySem.W.findIn K (.ref C) "orders" = some none
  n6 : PySem.W.findIn K (.ref C) "_line" = some none
  n7 : PySem.W.findIn K (.ref C) "_groups" = some none
  n8 : PySem.W.findIn K (.ref C) "_rules" = some none
  tx : PySem.W.findIn K (.ref C) "text" = some (some (.ref tp))
  ha : PySem.W.findIn K (.ref C) "__class__" = some (some (.builtin "object.__class__"))
  hm : PySem.W.mroIn K C (.type "object") = some true
  kK : PySem.W.kitOne K (.ref C) (.ref DK) = some true
  mx : PySem.W.findIn K (.ref C) "exchanges" = some (some (.ref fx))
  eq : PySem.W.findIn K (.ref C) "__eq__" = some (some (.ref gE))
  ne : PySem.W.findIn K (.ref C) "__ne__" = some (some (.builtin "object.__ne__"))
  nS : PySem.W.notFirst K C (.type "str") = true
  nf : PySem.W.notFirst K C (.ref CP) = true
  mks : PySem.W.makesIn K C = true
  kp : PySem.W.keepIn K (.ref C) = true
  ini : PySem.W.findIn K (.ref C) "__init__" = some (some (.ref f))
  fi : PySem.W.isFn K (.ref f) = true
  so : SupAt K C DX "__init__" gK
  co : PySem.W.findIn K (.ref C) "DIRECTED" = some (some (.bool d))
instance {K : PySem.W.Frag} {C DK tp fx gE CP f gK DX : Addr} {d : Bool} : Decidable (KB K C DK tp fx gE CP f gK DX d) := decidable_of_iff ((PySem.W.plainGet K C Str.empty = true) ∧ (PySem.W.hasDictIn K C = true) ∧ (PySem.W.plainOver K C = true) ∧ (PySem.W.findIn K (.ref C) "__setattr__" = some (some (.builtin "object.__setattr__"))) ∧ (PySem.W.findIn K (.ref C) "name" = some none) ∧ (PySem.W.findIn K (.ref C) "pins" = some none) ∧ (PySem.W.findIn K (.ref C) "controls" = some none) ∧ (PySem.W.findIn K (.ref C) "is_path" = some none) ∧ (PySem.W.findIn K (.ref C) "orders" = some none) ∧ (PySem.W.findIn K (.ref C) "_line" = some none) ∧ (PySem.W.findIn K (.ref C) "_groups" = some none) ∧ (PySem.W.findIn K (.ref C) "_rules" = some none) ∧ (PySem.W.findIn K (.ref C) "text" = some (some (.ref tp))) ∧ (PySem.W.findIn K (.ref C) "__class__" = some (some (.builtin "object.__class__"))) ∧ (PySem.W.mroIn K C (.type "object") = some true) ∧ (PySem.W.kitOne K (.ref C) (.ref DK) = some true) ∧ (PySem.W.findIn K (.ref C) "exchanges" = some (some (.ref fx))) ∧ (PySem.W.findIn K (.ref C) "__eq__" = some (some (.ref gE))) ∧ (PySem.W.findIn K (.ref C) "__ne__" = some (some (.builtin "object.__ne__"))) ∧ (PySem.W.notFirst K C (.type "str") = true) ∧ (PySem.W.notFirst K C (.ref CP) = true) ∧ (PySem.W.makesIn K C = true) ∧ (PySem.W.keepIn K (.ref C) = true) ∧ (PySem.W.findIn K (.ref C) "__init__" = some (some (.ref f))) ∧ (PySem.W.isFn K (.ref f) = true) ∧ (SupAt K C DX "__init__" gK) ∧ (PySem.W.findIn K (.ref C) "DIRECTED" = some (some (.bool d))))
  ⟨fun ⟨pg_, hd_, po_, sa_, n1_, n2_, n3_, n4_, n5_, n6_, n7_, n8_, tx_, ha_, hm_, kK_, mx_, eq_, ne_, nS_, nf_, mks_, kp_, ini_, fi_, so_, co_⟩ => ⟨pg_, hd_, po_, sa_, n1_, n2_, n3_, n4_, n5_, n6_, n7_, n8_, tx_, ha_, hm_, kK_, mx_, eq_, ne_, nS_, nf_, mks_, kp_, ini_, fi_, so_, co_⟩, fun ⟨pg_, hd_, po_, sa_, n1_, n2_, n3_, n4_, n5_, n6_, n7_, n8_, tx_, ha_, hm_, kK_, mx_, eq_, ne_, nS_, nf_, mks_, kp_, ini_, fi_, so_, co_⟩ => ⟨pg_, hd_, po_, sa_, n1_, n2_, n3_, n4_, n5_, n6_, n7_, n8_, tx_, ha_, hm_, kK_, mx_, eq_, ne_, nS_, nf_, mks_, kp_, ini_, fi_, so_, co_⟩⟩
abbrev Fc0 (K : PySem.W.Frag) : Prop := KB K (gaX K "PinKind") (gaX K "Kind") (maX K "Kind" "text") (maX K "Kind" "exchanges") (maX K "Kind" "__eq__") (gaX K "PathKind") (maX K "PinKind" "__init__") (maX K "Kind" "__init__") (gaX K "PinKind") false
abbrev Fc1 (K : PySem.W.Frag) : Prop := PySem.W.nsIn K mainGlobals "PinKind" = some (some (.ref (gaX K "PinKind")))
abbrev Fc2 (K : PySem.W.Frag) : Prop := KB K (gaX K "PathKind") (gaX K "Kind") (maX K "Kind" "text") (maX K "Kind" "exchanges") (maX K "Kind" "__eq__") (gaX K "PathKind") (maX K "PathKind" "__init__") (maX K "Kind" "__init__") (gaX K "PathKind") false
abbrev Fc3 (K : PySem.W.Frag) : Prop := PySem.W.nsIn K mainGlobals "PathKind" = some (some (.ref (gaX K "PathKind")))
abbrev Fc4 (K : PySem.W.Frag) : Prop := KB K (gaX K "DirectedKind") (gaX K "Kind") (maX K "Kind" "text") (maX K "Kind" "exchanges") (maX K "Kind" "__eq__") (gaX K "PathKind") (maX K "PathKind" "__init__") (maX K "Kind" "__init__") (gaX K "PathKind") true
abbrev Fc5 (K : PySem.W.Frag) : Prop := PySem.W.nsIn K mainGlobals "DirectedKind" = some (some (.ref (gaX K "DirectedKind")))
abbrev Fc6 (K : PySem.W.Frag) : Prop := KB K (gaX K "JoiningKind") (gaX K "Kind") (maX K "Kind" "text") (maX K "Kind" "exchanges") (maX K "Kind" "__eq__") (gaX K "PathKind") (maX K "JoiningKind" "__init__") (maX K "Kind" "__init__") (gaX K "PathKind") false
abbrev Fc7 (K : PySem.W.Frag) : Prop := PySem.W.nsIn K mainGlobals "JoiningKind" = some (some (.ref (gaX K "JoiningKind")))
abbrev Fc8 (K : PySem.W.Frag) : Prop := KB K (gaX K "DirectedJoiningKind") (gaX K "Kind") (maX K "Kind" "text") (maX K "Kind" "exchanges") (maX K "Kind" "__eq__") (gaX K "PathKind") (maX K "JoiningKind" "__init__") (maX K "Kind" "__init__") (gaX K "PathKind") true
abbrev Fc9 (K : PySem.W.Frag) : Prop := PySem.W.nsIn K mainGlobals "DirectedJoiningKind" = some (some (.ref (gaX K "DirectedJoiningKind")))
abbrev Fc10 (K : PySem.W.Frag) : Prop := SupAt K (gaX K "JoiningKind") (gaX K "JoiningKind") "__init__" (maX K "PathKind" "__init__")
abbrev Fc11 (K : PySem.W.Frag) : Prop := PySem.W.findIn K (.ref (gaX K "JoiningKind")) "rules" = some (some (.ref (maX K "JoiningKind" "rules")))
abbrev Fc12 (K : PySem.W.Frag) : Prop := SupAt K (gaX K "DirectedJoiningKind") (gaX K "JoiningKind") "__init__" (maX K "PathKind" "__init__")
abbrev Fc13 (K : PySem.W.Frag) : Prop := PySem.W.findIn K (.ref (gaX K "DirectedJoiningKind")) "rules" = some (some (.ref (maX K "JoiningKind" "rules")))
abbrev Fc14 (K : PySem.W.Frag) : Prop := PySem.W.nsIn K mainGlobals "Kind" = some (some (.ref (gaX K "Kind")))
abbrev Fc15 (K : PySem.W.Frag) : Prop := PySem.W.nsIn K mainGlobals "ValueRule" = some (some (.ref (gaX K "ValueRule")))
abbrev Fc16 (K : PySem.W.Frag) : Prop := PySem.W.specialIn K (.ref (maX K "Kind" "text")) "__get__" = some (some (.builtin "property.__get__"))
abbrev Fc17 (K : PySem.W.Frag) : Prop := PySem.W.takesIn K (.ref (maX K "Kind" "text")) = some true
abbrev Fc18 (K : PySem.W.Frag) : Prop := recB K = true
abbrev Fc19 (K : PySem.W.Frag) : Prop := PySem.W.specialIn K (.builtin "object.__class__") "__get__" = some (some (.builtin "getset_descriptor.__get__"))
abbrev Fc20 (K : PySem.W.Frag) : Prop := PySem.W.takesIn K (.builtin "object.__class__") = some true
abbrev Fc21 (K : PySem.W.Frag) : Prop := PySem.W.kitOne K (.type "str") (.ref (gaX K "Kind")) = some false
abbrev Fc22 (K : PySem.W.Frag) : Prop := PySem.W.specialIn K (.bool true) "__get__" = some none
abbrev Fc23 (K : PySem.W.Frag) : Prop := PySem.W.specialIn K (.bool false) "__get__" = some none
abbrev Fc24 (K : PySem.W.Frag) : Prop := PySem.W.isFn K (.ref (maX K "Kind" "exchanges")) = true ∧ PySem.W.keepIn K (.ref (maX K "Kind" "exchanges")) = true
abbrev Fc25 (K : PySem.W.Frag) : Prop := PySem.W.isFn K (.ref (maX K "Kind" "__eq__")) = true
abbrev Fc26 (K : PySem.W.Frag) : Prop := PySem.W.isFn K (.ref (maX K "JoiningKind" "rules")) = true ∧ PySem.W.keepIn K (.ref (maX K "JoiningKind" "rules")) = true
abbrev Fc27 (K : PySem.W.Frag) : Prop := PySem.W.typeIn K (.ref (maX K "Kind" "__init__")) = some (.type "function") ∧ PySem.W.fnIn K (maX K "Kind" "__init__") = true
abbrev Fc28 (K : PySem.W.Frag) : Prop := PySem.W.typeIn K (.ref (maX K "PathKind" "__init__")) = some (.type "function") ∧ PySem.W.fnIn K (maX K "PathKind" "__init__") = true
abbrev Fc29 (K : PySem.W.Frag) : Prop := PySem.W.nsIn K mainGlobals "super" = some none
abbrev Fc30 (K : PySem.W.Frag) : Prop := PySem.W.nsIn K cStatics "thirdparty.any" = some none
abbrev Fc31 (K : PySem.W.Frag) : Prop := (PySem.W.clsIn K (gaX K "PinKind")).isSome = true
abbrev Fc32 (K : PySem.W.Frag) : Prop := (PySem.W.clsIn K (gaX K "PathKind")).isSome = true
abbrev Fc33 (K : PySem.W.Frag) : Prop := (PySem.W.clsIn K (gaX K "JoiningKind")).isSome = true
abbrev Fc34 (K : PySem.W.Frag) : Prop := Cls K (gaX K "ValueRule")
abbrev Fc35 (K : PySem.W.Frag) : Prop := NoAttr K (gaX K "ValueRule") "word"
abbrev Fc36 (K : PySem.W.Frag) : Prop := PySem.W.findIn K (.ref (gaX K "ValueRule")) "__class__" = some (some (.builtin "object.__class__"))
abbrev Fc37 (K : PySem.W.Frag) : Prop := PySem.W.mroIn K (gaX K "ValueRule") (.type "object") = some true
abbrev Fc38 (K : PySem.W.Frag) : Prop := PySem.W.kitOne K (.ref (gaX K "ValueRule")) (.ref (gaX K "ValueRule")) = some true
abbrev Fc39 (K : PySem.W.Frag) : Prop := ∀ T ∈ (["str", "int", "bool", "tuple", "list", "NoneType"] : List String), PySem.W.kitOne K (.type T) (.ref (gaX K "ValueRule")) = some false
abbrev Fc40 (K : PySem.W.Frag) : Prop := PySem.W.makesIn K (gaX K "ValueRule") = true ∧ PySem.W.keepIn K (.ref (gaX K "ValueRule")) = true ∧ PySem.W.findIn K (.ref (gaX K "ValueRule")) "__init__" = some (some (.ref (maX K "ValueRule" "__init__"))) ∧ PySem.W.isFn K (.ref (maX K "ValueRule" "__init__")) = true
abbrev Fc41 (K : PySem.W.Frag) : Prop := PySem.W.findIn K (.ref (gaX K "ValueRule")) "__eq__" = some (some (.ref (maX K "ValueRule" "__eq__"))) ∧ PySem.W.isFn K (.ref (maX K "ValueRule" "__eq__")) = true ∧ PySem.W.findIn K (.ref (gaX K "ValueRule")) "__ne__" = some (some (.builtin "object.__ne__")) ∧ PySem.W.notFirst K (gaX K "ValueRule") (.ref (gaX K "ValueRule")) = true
abbrev Fc42 (K : PySem.W.Frag) : Prop := ErrB K (gaX K "InvalidKind") (maX K "InvalidKind" "__init__") "InvalidKind" [.type "ValueError", .type "Exception", .type "BaseException", .type "object"] "ValueError.__new__"
abbrev Fc43 (K : PySem.W.Frag) : Prop := ErrB K (gaX K "InvalidName") (maX K "InvalidName" "__init__") "InvalidName" [.type "ValueError", .type "Exception", .type "BaseException", .type "object"] "ValueError.__new__"
abbrev Fc44 (K : PySem.W.Frag) : Prop := PySem.W.exmOne K (.ref (gaX K "InvalidKind")) (.ref (gaX K "InvalidName")) = some false
abbrev Fc45 (K : PySem.W.Frag) : Prop := (Fa.int "WORD_SIGNS" 12).ok K = true
abbrev Fc46 (K : PySem.W.Frag) : Prop := (Fa.int "MOST_PINS" 6).ok K = true
abbrev Fc47 (K : PySem.W.Frag) : Prop := (Fa.int "MOST_CONTROLS" 3).ok K = true
abbrev Fc48 (K : PySem.W.Frag) : Prop := PySem.W.nsIn K mainGlobals "is_word" = some (some (.ref (gaX K "is_word")))
abbrev Fc49 (K : PySem.W.Frag) : Prop := PySem.W.nsIn K mainGlobals "are_different_words" = some (some (.ref (gaX K "are_different_words")))
abbrev Fc50 (K : PySem.W.Frag) : Prop := PySem.W.nsIn K mainGlobals "_as_rule" = some (some (.ref (gaX K "_as_rule")))
abbrev Fc51 (K : PySem.W.Frag) : Prop := PySem.W.nsIn K mainGlobals "_are_groups" = some (some (.ref (gaX K "_are_groups")))
abbrev Fc52 (K : PySem.W.Frag) : Prop := PySem.W.nsIn K mainGlobals "_mates" = some (some (.ref (gaX K "_mates")))
abbrev Fc53 (K : PySem.W.Frag) : Prop := PySem.W.nsIn K mainGlobals "_orders" = some (some (.ref (gaX K "_orders")))
abbrev Fc54 (K : PySem.W.Frag) : Prop := PySem.W.nsIn K mainGlobals "_path_line" = some (some (.ref (gaX K "_path_line")))
abbrev Fc55 (K : PySem.W.Frag) : Prop := PySem.W.nsIn K mainGlobals "_worded" = some (some (.ref (gaX K "_worded")))
abbrev Fc56 (K : PySem.W.Frag) : Prop := PySem.W.nsIn K mainGlobals "_law_draws" = some (some (.ref (gaX K "_law_draws")))
abbrev Fc57 (K : PySem.W.Frag) : Prop := PySem.W.nsIn K mainGlobals "_law_draw" = some (some (.ref (gaX K "_law_draw")))
abbrev Fc58 (K : PySem.W.Frag) : Prop := PySem.W.nsIn K mainGlobals "_law_orders" = some (some (.ref (gaX K "_law_orders")))
abbrev Fc59 (K : PySem.W.Frag) : Prop := PySem.W.nsIn K mainGlobals "_law_pin_kind" = some (some (.ref (gaX K "_law_pin_kind")))
abbrev Fc60 (K : PySem.W.Frag) : Prop := PySem.W.nsIn K mainGlobals "_law_group_of" = some (some (.ref (gaX K "_law_group_of")))
abbrev Fc61 (K : PySem.W.Frag) : Prop := PySem.W.nsIn K mainGlobals "_law_pins_right" = some (some (.ref (gaX K "_law_pins_right")))
abbrev Fc62 (K : PySem.W.Frag) : Prop := PySem.W.nsIn K mainGlobals "_law_path_kind" = some (some (.ref (gaX K "_law_path_kind")))
abbrev Fc63 (K : PySem.W.Frag) : Prop := PySem.W.nsIn K mainGlobals "_law_path_right" = some (some (.ref (gaX K "_law_path_right")))
abbrev Fc64 (K : PySem.W.Frag) : Prop := PySem.W.nsIn K mainGlobals "_law_error" = some (some (.ref (gaX K "_law_error")))
abbrev Fc65 (K : PySem.W.Frag) : Prop := PySem.W.nsIn K mainGlobals "_law_errors_right" = some (some (.ref (gaX K "_law_errors_right")))
abbrev Fc66 (K : PySem.W.Frag) : Prop := PySem.W.nsIn K mainGlobals "law" = some (some (.ref (gaX K "law")))
abbrev Fc67 (K : PySem.W.Frag) : Prop := PySem.W.nsIn K mainGlobals "isinstance" = some none
abbrev Fc68 (K : PySem.W.Frag) : Prop := PySem.W.nsIn K mainGlobals "int" = some none
abbrev Fc69 (K : PySem.W.Frag) : Prop := PySem.W.nsIn K mainGlobals "str" = some none
abbrev Fc70 (K : PySem.W.Frag) : Prop := PySem.W.nsIn K mainGlobals "len" = some none
abbrev Fc71 (K : PySem.W.Frag) : Prop := PySem.W.nsIn K mainGlobals "all" = some none
abbrev Fc72 (K : PySem.W.Frag) : Prop := PySem.W.nsIn K mainGlobals "set" = some none
abbrev Fc73 (K : PySem.W.Frag) : Prop := PySem.W.nsIn K mainGlobals "tuple" = some none
abbrev Fc74 (K : PySem.W.Frag) : Prop := PySem.W.nsIn K mainGlobals "list" = some none
abbrev Fc75 (K : PySem.W.Frag) : Prop := PySem.W.nsIn K mainGlobals "dict" = some none
abbrev Fc76 (K : PySem.W.Frag) : Prop := PySem.W.nsIn K mainGlobals "min" = some none
abbrev Fc77 (K : PySem.W.Frag) : Prop := PySem.W.nsIn K mainGlobals "max" = some none
abbrev Fc78 (K : PySem.W.Frag) : Prop := PySem.W.nsIn K mainGlobals "range" = some none
abbrev Fc79 (K : PySem.W.Frag) : Prop := PySem.W.nsIn K mainGlobals "enumerate" = some none
abbrev Fc80 (K : PySem.W.Frag) : Prop := PySem.W.nsIn K mainGlobals "zip" = some none
abbrev Fc81 (K : PySem.W.Frag) : Prop := PySem.W.nsIn K mainGlobals "sorted" = some none
abbrev Fc82 (K : PySem.W.Frag) : Prop := PySem.W.nsIn K mainGlobals "super" = some none
def ck : List (PySem.W.Frag → Bool) := [fun K => decide (Fc0 K), fun K => decide (Fc1 K), fun K => decide (Fc2 K), fun K => decide (Fc3 K), fun K => decide (Fc4 K), fun K => decide (Fc5 K), fun K => decide (Fc6 K), fun K => decide (Fc7 K), fun K => decide (Fc8 K), fun K => decide (Fc9 K), fun K => decide (Fc10 K), fun K => decide (Fc11 K), fun K => decide (Fc12 K), fun K => decide (Fc13 K), fun K => decide (Fc14 K), fun K => decide (Fc15 K), fun K => decide (Fc16 K), fun K => decide (Fc17 K), fun K => decide (Fc18 K), fun K => decide (Fc19 K), fun K => decide (Fc20 K), fun K => decide (Fc21 K), fun K => decide (Fc22 K), fun K => decide (Fc23 K), fun K => decide (Fc24 K), fun K => decide (Fc25 K), fun K => decide (Fc26 K), fun K => decide (Fc27 K), fun K => decide (Fc28 K), fun K => decide (Fc29 K), fun K => decide (Fc30 K), fun K => decide (Fc31 K), fun K => decide (Fc32 K), fun K => decide (Fc33 K), fun K => decide (Fc34 K), fun K => decide (Fc35 K), fun K => decide (Fc36 K), fun K => decide (Fc37 K), fun K => decide (Fc38 K), fun K => decide (Fc39 K), fun K => decide (Fc40 K), fun K => decide (Fc41 K), fun K => decide (Fc42 K), fun K => decide (Fc43 K), fun K => decide (Fc44 K), fun K => decide (Fc45 K), fun K => decide (Fc46 K), fun K => decide (Fc47 K), fun K => decide (Fc48 K), fun K => decide (Fc49 K), fun K => decide (Fc50 K), fun K => decide (Fc51 K), fun K => decide (Fc52 K), fun K => decide (Fc53 K), fun K => decide (Fc54 K), fun K => decide (Fc55 K), fun K => decide (Fc56 K), fun K => decide (Fc57 K), fun K => decide (Fc58 K), fun K => decide (Fc59 K), fun K => decide (Fc60 K), fun K => decide (Fc61 K), fun K => decide (Fc62 K), fun K => decide (Fc63 K), fun K => decide (Fc64 K), fun K => decide (Fc65 K), fun K => decide (Fc66 K), fun K => decide (Fc67 K), fun K => decide (Fc68 K), fun K => decide (Fc69 K), fun K => decide (Fc70 K), fun K => decide (Fc71 K), fun K => decide (Fc72 K), fun K => decide (Fc73 K), fun K => decide (Fc74 K), fun K => decide (Fc75 K), fun K => decide (Fc76 K), fun K => decide (Fc77 K), fun K => decide (Fc78 K), fun K => decide (Fc79 K), fun K => decide (Fc80 K), fun K => decide (Fc81 K), fun K => decide (Fc82 K)]
def fn : List He.DefD := [gD "is_word" (top 5),
  gD "are_different_words" (top 6),
  gD "_as_rule" (top 30),
  gD "_are_groups" (top 31),
  gD "_mates" (top 32),
  gD "_orders" (top 33),
  gD "_path_line" (top 34),
  gD "_worded" (top 35),
  gD "_law_draws" (top 37),
  gD "_law_draw" (top 38),
  gD "_law_orders" (top 39),
  gD "_law_pin_kind" (top 40),
  gD "_law_group_of" (top 41),
  gD "_law_pins_right" (top 42),
  gD "_law_path_kind" (top 43),
  gD "_law_path_right" (top 44),
  gD "_law_error" (top 45),
  gD "_law_errors_right" (top 46),
  gD "law" (top 47),
  mD "ValueRule" "__init__" "ValueRule.__init__" (inClass (top 19) 0),
  mD "ValueRule" "__eq__" "ValueRule.__eq__" (inClass (top 19) 3),
  mD "Kind" "__init__" "Kind.__init__" (inClass (top 24) 1),
  mD "Kind" "exchanges" "Kind.exchanges" (inClass (top 24) 2),
  mD "Kind" "__eq__" "Kind.__eq__" (inClass (top 24) 5),
  mD "JoiningKind" "rules" "JoiningKind.rules" (inClass (top 28) 1),
  mD "InvalidKind" "__init__" "InvalidKind.__init__" (inClass (top 9) 0),
  mD "InvalidName" "__init__" "InvalidName.__init__" (inClass (top 10) 0)]
def PFILE : Str := (PySem.Challenge.rw_wishedwires_k04_kinds_described).prog.main.file
def sn : List DefS := [⟨("PinKind", some "__init__"), "__init__", "PinKind.__init__", defArgs (inClass (top 25) 0), defBody (inClass (top 25) 0), defScope (inClass (top 25) 0), [("swaps", false)], "PinKind", PFILE⟩,
  ⟨("PathKind", some "__init__"), "__init__", "PathKind.__init__", defArgs (inClass (top 26) 0), defBody (inClass (top 26) 0), defScope (inClass (top 26) 0), [], "PathKind", PFILE⟩,
  ⟨("JoiningKind", some "__init__"), "__init__", "JoiningKind.__init__", defArgs (inClass (top 28) 0), defBody (inClass (top 28) 0), defScope (inClass (top 28) 0), [("row", true), ("side", true)], "JoiningKind", PFILE⟩]
def pn : List DefP := [⟨tgX, "text", "Kind.text", defArgs (inClass (top 24) 4), defBody (inClass (top 24) 4), defScope (inClass (top 24) 4)⟩]
abbrev RW0 : PySem.W.OpenRow := PySem.W.OpenLaw.row PySem.Challenge.rw_wishedwires_k04_kinds_described
def names : List PySem.Str := (["gcd", "_wall", "WORD_SIGNS", "is_whole", "is_word", "are_different_words", "WireError", "InvalidKind", "InvalidName", "InvalidNumber", "NotPositive", "NoDivision", "Ratio", "value_of", "_as_ratio", "ValueRule", "_total", "MOST_PINS", "MOST_CONTROLS", "Kind", "PinKind", "PathKind", "DirectedKind", "JoiningKind", "DirectedJoiningKind", "_as_rule", "_are_groups", "_mates", "_orders", "_path_line"] : List PySem.Str) ++ (["_worded", "_law_draws", "_law_draw", "_law_orders", "_law_pin_kind", "_law_group_of", "_law_pins_right", "_law_path_kind", "_law_path_right", "_law_error", "_law_errors_right"] : List PySem.Str)
def as : List Addr := 3 :: 2 :: List.range' 11 889
abbrev hk : PySem.W.Hook := hookS as ck fn sn pn
def ob (s : PySem.W.SharedT) : AlS := obS as ck fn sn pn s
theorem ob_eq (s : PySem.W.SharedT) : ob s = hk.obs s.abs := obS_eq as ck fn sn pn s
theorem run (w : World) : HdI.RunI RW0 (PySem.W.view RW0.prog [47]) hk ob 3000 20000 names w := by
  unfold HdI.RunI; kernel_rfl
end R4
end

-- WalkIt
section
set_option Elab.async false
set_option linter.all false
set_option maxRecDepth 100000
namespace G1
open PySem L2 OwnOps
theorem pg_two {X : Cx} {i j : Nat} {x y : Str} {p1 p2 pos : Pos} {kk : Nat} (hc : X.calm = true) (hN : X.N.Nodup) (hi : X.N[i]? = some x) (hx : Loc X.env.scope x) (hj : X.N[j]? = some y) (hy : Loc X.env.scope y)
    (hf : X.fn x = true ∨ X.env.scope.names.lookup x = some .local := by first | exact .inl rfl | exact .inr rfl) (hg : X.fn y = true ∨ X.env.scope.names.lookup y = some .local := by first | exact .inl rfl | exact .inr rfl) :
    PG X (.Tuple [.Name x p1, .Name y p2] kk pos) (gTup X.K 2 (gCons (gName i) (gCons (gName j) gNil))) := pg_tup hc (pgs_cons (pg_name (i := i) hN hi hx hf) (pgs_cons (pg_name (i := j) hN hj hy hg) pgs_nil))
/-- a walk, whatever its turn is -/
theorem walk_it {J : It} {n : Nat} {G : Hp → Prop} {Y : Nat → Hp → V → Hp → Prop} (w : Walk J n G Y) {turn : V → Hp → (Hp → Prop) → Prop} {Fin : Hp → Prop} {H0 : Hp} (Pv : Nat → Hp → Prop) (h0 : Pv 0 H0) (hG : ∀ i H, i ≤ n → Pv i H → G H)
    (hs : ∀ i x H H', i < n → Pv i H → Y i H x H' → turn x H' (Pv (i + 1))) (hd : ∀ H, Pv n H → Fin H) :
    ∃ W : Nat → Nat → Hp → Prop, (∃ m, W 0 m H0) ∧ ∀ i m H, W i m H → (J.stop i H ∧ Fin H) ∨ (J.go i H ∧ ∃ Nx : Hp → Prop, (∀ H', Nx H' → ∃ m', m' < m ∧ W (i + 1) m' H') ∧ ∀ x H', J.yld i H x H' → turn x H' Nx) := by
  refine ⟨fun i m H => m + i = n ∧ Pv i H, ⟨n, rfl, h0⟩, fun i m H ⟨e, p⟩ => ?_⟩
  have q := hG i H (by omega) p
  by_cases lt : i < n
  · exact .inr ⟨w.goes i H lt q, Pv (i + 1), fun H' p' => ⟨m - 1, by omega, by omega, p'⟩, fun x H' y => hs i x H H' lt p (w.yields i H x H' lt q y)⟩
  · cases (show i = n by omega)
    exact .inl ⟨w.stops H q, hd H p⟩
theorem same_unlock {H G : Hp} {d : Addr} {u : HO} {od : Obj} (hd : H d = some u) (s : Same (upd H d (.frz od u)) G) : G d = some (.frz od u) ∧ Same H (upd G d u) := by
  refine ⟨s _ _ upd_same, fun b o e => ?_⟩
  by_cases h : b = d
  · subst h
    rw [hd] at e
    cases e
    exact upd_same
  · rw [upd_ne h]
    exact s b o (by rw [upd_ne h]; exact e)
theorem rd_lock {H : Hp} {d a : Addr} {u v : HO} {od : Obj} (hd : H d = some u) (m : Mut (some u)) (r : Rd H a v) : Rd (upd H d (.frz od u)) a v := by
  by_cases h : a = d
  · subst h
    rcases r with r | ⟨o, r⟩
    · rw [hd] at r
      cases r
      exact .inr ⟨od, upd_same⟩
    · rw [hd] at r
      cases r
      exact m.elim
  · rcases r with r | ⟨o, r⟩
    · exact .inl (by rw [upd_ne h]; exact r)
    · exact .inr ⟨o, by rw [upd_ne h]; exact r⟩
theorem SameX.none {p x : Addr} {H G : Hp} {u : HO} (s : SameX p H G) (hp : G p = some u) (h : G x = none) : H x = none := by
  cases e : H x with
  | none => rfl
  | some o =>
    by_cases n : x = p
    · subst n
      rw [hp] at h
      cases h
    · rw [s x o n e] at h
      cases h
theorem Same.none {x : Addr} {H G : Hp} (s : Same H G) (h : G x = none) : H x = none := by
  cases e : H x with
  | none => rfl
  | some o =>
    rw [s x o e] at h
    cases h
end G1
end

-- K4b
section
set_option Elab.async false
set_option linter.all false
set_option maxRecDepth 100000
namespace R4
open PySem L2 OwnOps OwnNe G1 StX
def difV (xs : List V) : Bool := xs.all wdV && decide xs.Nodup
/-- a list or a tuple, as it stands -/
def LT (K : PySem.W.Frag) (H : Hp) (a : Addr) (xs : List V) : Prop := SqL K H a xs ∨ SqT K H a xs
theorem texts_of : ∀ {xs : List V}, xs.all wdV = true → ∃ zs : List Str, xs = zs.map V.str
  | [], _ => ⟨[], rfl⟩
  | x :: xs, h => by
    rw [List.all_cons, Bool.and_eq_true] at h
    obtain ⟨zs, e⟩ := texts_of h.2
    cases x with
    | str z => exact ⟨z :: zs, by rw [e]; rfl⟩
    | _ => exact absurd h.1 (by simp [wdV])
theorem nodup_str {zs : List Str} : (zs.map V.str).Nodup ↔ zs.Nodup := by
  constructor
  · intro h
    exact List.Pairwise.of_map V.str (fun a b ne e => ne (by rw [e])) h
  · intro h
    exact List.Pairwise.map V.str (fun a b ne e => ne (V.str.inj e)) h
theorem cnt_is (zs : List Str) : decide ((SetStr.cnt zs zs.length : Int) = zs.length) = decide zs.Nodup := by
  by_cases h : zs.Nodup
  · rw [SetStr.cnt_nodup h _ (Nat.le_refl _), decide_eq_true h, decide_eq_true rfl]
  · rw [decide_eq_false h]
    have : ∃ i j, i < j ∧ j < zs.length ∧ zs.getD i Str.empty = zs.getD j Str.empty := by
      apply Classical.byContradiction
      intro q
      apply h
      rw [List.nodup_iff_pairwise_ne, List.pairwise_iff_getElem]
      intro i j hi hj hij e
      refine q ⟨i, j, hij, hj, ?_⟩
      rw [List.getD_eq_getElem?_getD, List.getD_eq_getElem?_getD, List.getElem?_eq_getElem hi, List.getElem?_eq_getElem hj, e]
    obtain ⟨i, j, hij, hj, e⟩ := this
    have := SetStr.cnt_bad hij hj e zs.length hj
    exact decide_eq_false (by omega)
theorem take_succ_at {α : Type} {xs : List α} {i : Nat} {x : α} (h : xs[i]? = some x) : xs.take (i + 1) = xs.take i ++ [x] := by
  rw [List.take_add_one, h]
  rfl
theorem Same.tupS {K : PySem.W.Frag} {H H' : Hp} {a : Addr} {xs : List V} (e : Same H H') (h : SqT K H a xs) : SqT K H' a xs := by
  rcases h with h | h
  · rcases h with h | ⟨o, h⟩
    · exact .inl (.inl (e _ _ h))
    · exact .inl (.inr ⟨o, e _ _ h⟩)
  · exact .inr h
section
variable {P : Program} {w : World} {K : PySem.W.Frag} {mg : Str → Option Value} {base : Heap}
def spDiff (K : PySem.W.Frag) : Sp := fun vs H Q _ => ∃ a xs, vs = [.ref a] ∧ LT K H a xs ∧ xs.length ≤ 100 ∧ (∀ x ∈ xs, Av H x ∧ Shr x) ∧ ∀ H', Same H H' → Q (.bl (difV xs)) H'
theorem ok_diff {f : Addr} {fd : FuncData} (F : Fun K "are_different_words" "are_different_words" sDiff f fd) (T : Bi mg) (GW : Glb P w K mg base "is_word" 1 ["value"] spWord) : FnOk P w K mg base (L2.CX P w) 2 f fd ["values"] (spDiff K) := by
  obtain ⟨_, _, mW, kW, GW, bW⟩ := GW.ex
  have sc : FnScope ["values", "value"] ["values"] (defScope sDiff) := ⟨rfl, rfl, rfl, by decide +kernel, rfl, by decide +kernel, by decide +kernel⟩
  have hN := sc.nd
  refine F.okX sc (fun vs H Q E h => ?_) (fun cdv A outer s H vs Q E hr h => ?_)
  · obtain ⟨a, xs, rfl, _⟩ := h
    rfl
  · obtain ⟨a, xs, rfl, hS, few, av, fin⟩ := h
    rcases hS with hS | hS
    · refine ⟨_, pss_one (ps_ret (pe_and (pe_callB (cr_all rfl) (by rfl) T.all (by decide +kernel) (pa_cons (pe_lc (own := [("value", 1)]) (g := gName 1) (tt := tYes) (te := tCall spWord [] E0 (tCons (tVar 1) tNil)) rfl hN (pi_list (pv 0)) (blkOk_by (N := ["values", "value"]) (sc := defScope sDiff) (by decide +kernel)) (fun _ _ _ _ _ => pg_name (i := 1) hN rfl (Or.inl rfl)) (fun _ _ _ _ _ => pts_nil)
          (fun _ _ _ _ _ => pe_call GW (hr.mono (by decide)) (by rfl) mW kW bW .nil passL (pa_cons (pv 1) pa_nil))) pa_nil))
        (pe_one (pe_cmpR op_eq (SetStr.pe_lenT (by rfl) T.len (by rfl) T.set (pv 0)) (pe_callB call_len_seq (by rfl) T.len PySem.boot_len (pa_cons (pv 0) pa_nil)) (nomark _))))), ?_⟩
      refine ⟨_, rfl, a, rfl, ⟨xs, hS⟩, fun D hD => lc_it (walk_list (xs := xs) (a := a) (K := K)) (fun i G => Same H G ∧ ∃ at_, G D = some (.lst at_) ∧ at_ = (xs.take i).map fun v => V.bl (wdV v)) ⟨same_upd hD, [], upd_same, rfl⟩ (fun i G hi g => g.1.seq hS) (fun i x G G' hi g y => ?_) (fun G g => ?_)⟩
      · obtain ⟨rfl, hx⟩ := y
        obtain ⟨sm, at_, hD2, rfl⟩ := g
        refine ⟨rfl, _, rfl, ?_⟩
        obtain ⟨ax, sx⟩ := av x (List.mem_of_getElem? hx)
        exact ⟨x, rfl, ax.same sm, sx, _, hD2, by rw [List.length_map, List.length_take]; exact small1000 (by omega), same_put sm hD, _, upd_same, by rw [take_succ_at hx, List.map_append]; rfl⟩
      · obtain ⟨sm, at_, hD2, rfl⟩ := g
        rw [List.take_length] at hD2
        have e0 : xs.map (fun v => V.bl (wdV v)) = (xs.map wdV).map V.bl := by rw [List.map_map]; rfl
        rw [e0] at hD2
        have ea : ((xs.map wdV).all id) = xs.all wdV := by rw [List.all_map]; rfl
        refine ⟨D, xs.map wdV, rfl, SqL.of hD2, _, rfl, ?_⟩
        cases b : xs.all wdV with
        | false =>
          refine if_neg' (by rw [ea, b]) ?_
          have z := fin G sm
          unfold difV at z
          rw [b] at z
          exact z
        | true =>
          refine if_pos' (by rw [ea, b]) ?_
          obtain ⟨zs, rfl⟩ := texts_of b
          refine ⟨_, rfl, a, zs, rfl, .inl (sm.seq hS), by rw [List.length_map] at few; omega, _, rfl, a, _, rfl, .inl (sm.seq hS), rfl, ?_⟩
          have z := fin G sm
          unfold difV at z
          rw [b, Bool.true_and] at z
          have e2 : decide (V.int (SetStr.cnt zs zs.length : Int) = V.int ((zs.map V.str).length : Int)) = decide (zs.map V.str).Nodup := by
            rw [List.length_map, decide_eq_decide.mpr nodup_str, ← cnt_is]
            exact decide_eq_decide.mpr ⟨fun q => V.int.inj q, fun q => by rw [q]⟩
          show Q (.bl _) G
          rw [e2]
          exact z
    · refine ⟨_, pss_one (ps_ret (pe_and (pe_callB (cr_all rfl) (by rfl) T.all (by decide +kernel) (pa_cons (pe_lc (own := [("value", 1)]) (g := gName 1) (tt := tYes) (te := tCall spWord [] E0 (tCons (tVar 1) tNil)) rfl hN (pi_tup (pv 0)) (blkOk_by (N := ["values", "value"]) (sc := defScope sDiff) (by decide +kernel)) (fun _ _ _ _ _ => pg_name (i := 1) hN rfl (Or.inl rfl)) (fun _ _ _ _ _ => pts_nil)
          (fun _ _ _ _ _ => pe_call GW (hr.mono (by decide)) (by rfl) mW kW bW .nil passL (pa_cons (pv 1) pa_nil))) pa_nil))
        (pe_one (pe_cmpR op_eq (SetStr.pe_lenT (by rfl) T.len (by rfl) T.set (pv 0)) (pe_callB call_len_seq (by rfl) T.len PySem.boot_len (pa_cons (pv 0) pa_nil)) (nomark _))))), ?_⟩
      refine ⟨_, rfl, a, rfl, ⟨xs, hS⟩, fun D hD => lc_it (walk_tup (xs := xs) (a := a) (K := K)) (fun i G => Same H G ∧ ∃ at_, G D = some (.lst at_) ∧ at_ = (xs.take i).map fun v => V.bl (wdV v)) ⟨same_upd hD, [], upd_same, rfl⟩ (fun i G hi g => R4.Same.tupS g.1 hS) (fun i x G G' hi g y => ?_) (fun G g => ?_)⟩
      · obtain ⟨rfl, hx⟩ := y
        obtain ⟨sm, at_, hD2, rfl⟩ := g
        refine ⟨rfl, _, rfl, ?_⟩
        obtain ⟨ax, sx⟩ := av x (List.mem_of_getElem? hx)
        exact ⟨x, rfl, ax.same sm, sx, _, hD2, by rw [List.length_map, List.length_take]; exact small1000 (by omega), same_put sm hD, _, upd_same, by rw [take_succ_at hx, List.map_append]; rfl⟩
      · obtain ⟨sm, at_, hD2, rfl⟩ := g
        rw [List.take_length] at hD2
        have e0 : xs.map (fun v => V.bl (wdV v)) = (xs.map wdV).map V.bl := by rw [List.map_map]; rfl
        rw [e0] at hD2
        have ea : ((xs.map wdV).all id) = xs.all wdV := by rw [List.all_map]; rfl
        refine ⟨D, xs.map wdV, rfl, SqL.of hD2, _, rfl, ?_⟩
        cases b : xs.all wdV with
        | false =>
          refine if_neg' (by rw [ea, b]) ?_
          have z := fin G sm
          unfold difV at z
          rw [b] at z
          exact z
        | true =>
          refine if_pos' (by rw [ea, b]) ?_
          obtain ⟨zs, rfl⟩ := texts_of b
          refine ⟨_, rfl, a, zs, rfl, .inr (R4.Same.tupS sm hS), by rw [List.length_map] at few; omega, _, rfl, a, _, rfl, .inr (R4.Same.tupS sm hS), rfl, ?_⟩
          have z := fin G sm
          unfold difV at z
          rw [b, Bool.true_and] at z
          have e2 : decide (V.int (SetStr.cnt zs zs.length : Int) = V.int ((zs.map V.str).length : Int)) = decide (zs.map V.str).Nodup := by
            rw [List.length_map, decide_eq_decide.mpr nodup_str, ← cnt_is]
            exact decide_eq_decide.mpr ⟨fun q => V.int.inj q, fun q => by rw [q]⟩
          show Q (.bl _) G
          rw [e2]
          exact z
end
end R4
end

-- K4c
section
set_option Elab.async false
set_option linter.all false
set_option maxRecDepth 100000
namespace R4
open PySem L2 OwnOps OwnNe G1 StX
abbrev veT : List Value := [.type "ValueError", .type "Exception", .type "BaseException", .type "object"]
abbrev xd (v : V) : HO := .xd [(("given" : Str), v)]
/-- a class of kinds: its instances are plain, nothing of it is named as a field -/
structure KCls (K : PySem.W.Frag) (C : Addr) : Prop where
  cl : Cls K C
  n1 : NoAttr K C "name"
  n2 : NoAttr K C "pins"
  n3 : NoAttr K C "controls"
  n4 : NoAttr K C "is_path"
  n5 : NoAttr K C "orders"
  n6 : NoAttr K C "_line"
  n7 : NoAttr K C "_groups"
  n8 : NoAttr K C "_rules"
/-- the fields of a kind -/
def kf (nm pins ctl isp ords line : V) : List (Str × V) := [("name", nm), ("pins", pins), ("controls", ctl), ("is_path", isp), ("orders", ords), ("_line", line)]
theorem kf_put0 (nm pins ctl isp ords line : V) : putF "_line" line (putF "orders" ords (putF "is_path" isp (putF "controls" ctl (putF "pins" pins (putF "name" nm []))))) = kf nm pins ctl isp ords line := by kernel_rfl
section
variable (nm pins ctl isp ords line v : V)
theorem kf_pins (r : List (Str × V)) : putF "pins" v (kf nm pins ctl isp ords line ++ r) = kf nm v ctl isp ords line ++ r := by kernel_rfl
theorem kf_ctl (r : List (Str × V)) : putF "controls" v (kf nm pins ctl isp ords line ++ r) = kf nm pins v isp ords line ++ r := by kernel_rfl
theorem kf_isp (r : List (Str × V)) : putF "is_path" v (kf nm pins ctl isp ords line ++ r) = kf nm pins ctl v ords line ++ r := by kernel_rfl
theorem kf_ords (r : List (Str × V)) : putF "orders" v (kf nm pins ctl isp ords line ++ r) = kf nm pins ctl isp v line ++ r := by kernel_rfl
theorem kf_line (r : List (Str × V)) : putF "_line" v (kf nm pins ctl isp ords line ++ r) = kf nm pins ctl isp ords v ++ r := by kernel_rfl
theorem kp_pins : putF "pins" v (kf nm pins ctl isp ords line) = kf nm v ctl isp ords line := by kernel_rfl
theorem kp_ctl : putF "controls" v (kf nm pins ctl isp ords line) = kf nm pins v isp ords line := by kernel_rfl
theorem kp_isp : putF "is_path" v (kf nm pins ctl isp ords line) = kf nm pins ctl v ords line := by kernel_rfl
theorem kp_ords : putF "orders" v (kf nm pins ctl isp ords line) = kf nm pins ctl isp v line := by kernel_rfl
theorem kp_line : putF "_line" v (kf nm pins ctl isp ords line) = kf nm pins ctl isp ords v := by kernel_rfl
theorem kp_name' : (kf nm pins ctl isp ords line).lookup ("name" : Str) = some nm := by kernel_rfl
theorem kp_pins' : (kf nm pins ctl isp ords line).lookup ("pins" : Str) = some pins := by kernel_rfl
theorem kp_ctl' : (kf nm pins ctl isp ords line).lookup ("controls" : Str) = some ctl := by kernel_rfl
theorem kf_len : (kf nm pins ctl isp ords line).length = 6 := rfl
theorem kf_few : (kf nm pins ctl isp ords line).length < 1000 := by show 6 < 1000; decide
theorem kf_grp : putF "_groups" v (kf nm pins ctl isp ords line) = kf nm pins ctl isp ords line ++ [(("_groups" : Str), v)] := by kernel_rfl
theorem kf_rul : putF "_rules" v (kf nm pins ctl isp ords line) = kf nm pins ctl isp ords line ++ [(("_rules" : Str), v)] := by kernel_rfl
theorem kf_name' (r : List (Str × V)) : (kf nm pins ctl isp ords line ++ r).lookup ("name" : Str) = some nm := by kernel_rfl
theorem kf_pins' (r : List (Str × V)) : (kf nm pins ctl isp ords line ++ r).lookup ("pins" : Str) = some pins := by kernel_rfl
theorem kf_ctl' (r : List (Str × V)) : (kf nm pins ctl isp ords line ++ r).lookup ("controls" : Str) = some ctl := by kernel_rfl
theorem kf_isp' (r : List (Str × V)) : (kf nm pins ctl isp ords line ++ r).lookup ("is_path" : Str) = some isp := by kernel_rfl
theorem kf_ords' (r : List (Str × V)) : (kf nm pins ctl isp ords line ++ r).lookup ("orders" : Str) = some ords := by kernel_rfl
theorem kf_line' (r : List (Str × V)) : (kf nm pins ctl isp ords line ++ r).lookup ("_line" : Str) = some line := by kernel_rfl
theorem kf_rul' : (kf nm pins ctl isp ords line ++ [(("_rules" : Str), v)]).lookup ("_rules" : Str) = some v := by kernel_rfl
theorem kf_dir : (kf nm pins ctl isp ords line).lookup ("DIRECTED" : Str) = none := by kernel_rfl
theorem kf_dirR : (kf nm pins ctl isp ords line ++ [(("_rules" : Str), v)]).lookup ("DIRECTED" : Str) = none := by kernel_rfl
theorem kf_dirG : (kf nm pins ctl isp ords line ++ [(("_groups" : Str), v)]).lookup ("DIRECTED" : Str) = none := by kernel_rfl
end
/-- an instance in making: all else stands, its fields are fs -/
structure Mkg (p C dx : Addr) (H G : Hp) (fs : List (Str × V)) : Prop where
  sm : SameX p H G
  at_ : G p = some (.ins C dx fs)
theorem Mkg.new {p C dx t : Addr} {H G : Hp} {fs : List (Str × V)} {o : HO} (m : Mkg p C dx H G fs) (n : G t = none) : Mkg p C dx H (upd G t o) fs :=
  ⟨fun b u nb e => by rw [upd_ne (ne_of_none (m.sm b u nb e) n)]; exact m.sm b u nb e, by rw [upd_ne (ne_of_none m.at_ n)]; exact m.at_⟩
theorem Mkg.put {p C dx : Addr} {H G : Hp} {fs fs' : List (Str × V)} (m : Mkg p C dx H G fs) : Mkg p C dx H (upd G p (.ins C dx fs')) fs' :=
  ⟨fun b u nb e => by rw [upd_ne nb]; exact m.sm b u nb e, upd_same⟩
theorem Mkg.same {p C dx : Addr} {H G G' : Hp} {fs : List (Str × V)} (m : Mkg p C dx H G fs) (s : Same G G') : Mkg p C dx H G' fs := ⟨fun b u nb e => s _ _ (m.sm b u nb e), s _ _ m.at_⟩
theorem Mkg.start {p C dx : Addr} {H : Hp} {fs : List (Str × V)} (h : H p = some (.ins C dx fs)) : Mkg p C dx H H fs := ⟨SameX.refl _ _, h⟩
theorem pl {k : Str} {v : V} {n : Nat} : ∀ {l : List (Str × V)}, l.length ≤ n → (putF k v l).length ≤ n + 1
  | [], h => by show 1 ≤ n + 1; omega
  | (x, u) :: r, h => by
    unfold putF
    split
    · simp only [List.length_cons] at h ⊢; omega
    · have := pl (k := k) (v := v) (n := n - 1) (l := r) (by simp only [List.length_cons] at h; omega)
      simp only [List.length_cons] at h ⊢; omega
theorem p0 : ([] : List (Str × V)).length ≤ 0 := Nat.le_refl _
theorem plt {l : List (Str × V)} {n : Nat} (h : l.length ≤ n) (hn : n < 1000 := by decide) : l.length < 1000 := Nat.lt_of_le_of_lt h hn
theorem put_ne {G : Hp} {p t C dx : Addr} {o : HO} {fs : List (Str × V)} (h : G t = some o) (hp : G p = some (.ins C dx fs)) (no : ∀ C dx fs, o ≠ .ins C dx fs) {u : HO} : upd G p u t = some o := by
  rw [upd_ne (fun z => by rw [z, hp] at h; exact no _ _ _ (Option.some.inj h).symm)]
  exact h
theorem app_len (a b : Str) : (a ++ b).length = a.length + b.length := Str.length_append a b
theorem len0 : Str.empty.length = 0 := by decide +kernel
def kindT (x : Str) : Str := (Str.empty ++ "kind ") ++ x
section
variable {P : Program} {w : World} {K : PySem.W.Frag} {mg : Str → Option Value} {base : Heap} {CN fCN : Addr}
def spKI (K : PySem.W.Frag) (CN : Addr) : Sp := fun vs H Q E => ∃ (p dx C : Addr) (v : V), vs = [.ref p, v] ∧ H p = some (.ins C dx []) ∧ KCls K C ∧ Av H v ∧ Shr v ∧
  ((wdV v = false ∧ ∀ d H', SameX p H H' → H' d = some (xd v) → E (.ref CN) (some d) H') ∨
   (∃ x, v = .str x ∧ wd x = true ∧ ∀ H' a1 c a3, SameX p H H' → H' p = some (.ins C dx (kf (.str x) (.ref a1) (.ref c) (.bl false) (.ref a3) (.str (kindT x)))) → H' c = some (.tup []) → Q .non H'))
theorem upd_put {H : Hp} {p C dx : Addr} {a b : List (Str × V)} : upd (upd H p (.ins C dx a)) p (.ins C dx b) = upd H p (.ins C dx b) := by
  funext x
  unfold upd
  split <;> rfl
theorem ok_ki {f : Addr} {fd : FuncData} (F : Fun K "__init__" "Kind.__init__" (sKi 1) f fd) (eN : PySem.Giv.ErrTxt K mg "InvalidName" "InvalidName.__init__" "ValueError.__new__" veT CN fCN) (GW : Glb P w K mg base "is_word" 1 ["value"] spWord) :
    FnOk P w K mg base (L2.CX P w) 3 f fd ["self", "name"] (spKI K CN) := by
  obtain ⟨_, _, mW, kW, GW, bW⟩ := GW.ex
  have sc : FnScope ["self", "name"] ["self", "name"] (defScope (sKi 1)) := ⟨rfl, rfl, rfl, by decide +kernel, rfl, by decide +kernel, by decide +kernel⟩
  have hN := sc.nd
  refine F.okX sc (fun vs H Q E h => ?_) (fun cdv A outer s H vs Q E hr h => ?_)
  · obtain ⟨p, dx, C, v, rfl, _⟩ := h
    rfl
  · obtain ⟨p, dx, C, v, rfl, hp, kc, av, sh, k⟩ := h
    refine ⟨_, pss_cons (ps_if (pt_not (pt_val (pe_call GW (hr.mono (by decide)) (by rfl) mW kW bW .nil passL (pa_cons (pv 1) pa_nil)))) (pss_one (ps_raiseGiv rfl PySem.Giv.ok_VE eN hr (takes_of rfl rfl rfl rfl) (pa_cons (pv 1) pa_nil) (by rfl))) pss_nil)
      (pss_cons (ps_fld (pv 0) (pv 1) rfl)
      (pss_cons (ps_fld (pv 0) (pe_tup pa_nil) rfl)
      (pss_cons (ps_fld (pv 0) (pe_tup pa_nil) rfl)
      (pss_cons (ps_fld (pv 0) pe_bl rfl)
      (pss_cons (ps_fld (pv 0) (pe_tup (pa_cons (pe_tup pa_nil) pa_nil)) rfl)
      (pss_one (ps_fld (pv 0) (pe_joined (.cons pe_str (.cons (pe_fmt (pv 1)) .nil))) rfl))))))), ?_⟩
    refine ⟨_, rfl, v, rfl, av, sh, _, rfl, ?_⟩
    rcases k with ⟨b, k⟩ | ⟨x, rfl, b, k⟩
    · refine if_pos' (by rw [b]; rfl) ⟨_, rfl, _, rfl, fun d hd => ?_⟩
      exact k d _ (fun b u nb e => by rw [upd_ne (ne_of_none e hd)]; exact e) upd_same
    · refine if_neg' (by rw [show wdV (.str x) = wd x from rfl, b]; rfl) ?_
      have xs : x.length ≤ 12 := by
        unfold wd at b
        simp only [Bool.and_eq_true, decide_eq_true_eq] at b
        exact b.1.1.1.1.2
      have few : ∀ fs : List (Str × V), fs.length ≤ 8 → fs.length < 1000 := fun fs h => by omega
      refine ⟨_, rfl, _, rfl, p, C, dx, _, rfl, hp, kc.cl, kc.n1, (by show 0 < 1000; decide), ?_⟩
      have m0 := (Mkg.start hp).put (fs' := putF "name" (.str x) [])
      generalize upd H p (.ins C dx (putF "name" (.str x) [])) = G0 at m0 ⊢
      refine ⟨(by show 0 ≤ sizeLine; exact Nat.zero_le _), fun t1 h1 => ⟨_, rfl, p, C, dx, _, rfl, (m0.new h1).at_, kc.cl, kc.n2, plt (pl p0), ?_⟩⟩
      have m1 := (m0.new h1 (o := .tup [])).put (fs' := putF "pins" (.ref t1) (putF "name" (.str x) []))
      generalize upd (upd G0 t1 (.tup [])) p (.ins C dx (putF "pins" (.ref t1) (putF "name" (.str x) []))) = G1 at m1 ⊢
      refine ⟨(by show 0 ≤ sizeLine; exact Nat.zero_le _), fun t2 h2 => ⟨_, rfl, p, C, dx, _, rfl, (m1.new h2).at_, kc.cl, kc.n3, plt (pl (pl p0)), ?_⟩⟩
      have q2 : (upd G1 t2 (.tup [])) t2 = some (.tup []) := upd_same
      have m2 := m1.new h2 (o := .tup [])
      generalize upd G1 t2 (.tup []) = G2 at m2 q2 ⊢
      have q3 := put_ne q2 m2.at_ (by intro _ _ _ z; cases z) (u := .ins C dx (putF "controls" (.ref t2) (putF "pins" (.ref t1) (putF "name" (.str x) []))))
      have m3 := m2.put (fs' := putF "controls" (.ref t2) (putF "pins" (.ref t1) (putF "name" (.str x) [])))
      generalize upd G2 p (.ins C dx (putF "controls" (.ref t2) (putF "pins" (.ref t1) (putF "name" (.str x) [])))) = G3 at m3 q3 ⊢
      refine ⟨_, rfl, p, C, dx, _, rfl, m3.at_, kc.cl, kc.n4, plt (pl (pl (pl p0))), ?_⟩
      have q4 := put_ne q3 m3.at_ (by intro _ _ _ z; cases z) (u := .ins C dx (putF "is_path" (.bl false) (putF "controls" (.ref t2) (putF "pins" (.ref t1) (putF "name" (.str x) [])))))
      have m4 := m3.put (fs' := putF "is_path" (.bl false) (putF "controls" (.ref t2) (putF "pins" (.ref t1) (putF "name" (.str x) []))))
      generalize upd G3 p (.ins C dx (putF "is_path" (.bl false) (putF "controls" (.ref t2) (putF "pins" (.ref t1) (putF "name" (.str x) []))))) = G4 at m4 q4 ⊢
      refine ⟨(by show 0 ≤ sizeLine; exact Nat.zero_le _), fun t3 h3 => ⟨(by show 1 ≤ sizeLine; decide), fun t4 h4 => ⟨_, rfl, p, C, dx, _, rfl, ((m4.new h3).new h4).at_, kc.cl, kc.n5, plt (pl (pl (pl (pl p0)))), ?_⟩⟩⟩
      have q5 : (upd (upd G4 t3 (.tup [])) t4 (.tup [.ref t3])) t2 = some (.tup []) := same_upd h4 _ _ (same_upd h3 _ _ q4)
      have m5 := (m4.new h3 (o := .tup [])).new h4 (o := .tup [.ref t3])
      generalize upd (upd G4 t3 (.tup [])) t4 (.tup [.ref t3]) = G5 at m5 q5 ⊢
      have q6 := put_ne q5 m5.at_ (by intro _ _ _ z; cases z) (u := .ins C dx (putF "orders" (.ref t4) (putF "is_path" (.bl false) (putF "controls" (.ref t2) (putF "pins" (.ref t1) (putF "name" (.str x) []))))))
      have m6 := m5.put (fs' := putF "orders" (.ref t4) (putF "is_path" (.bl false) (putF "controls" (.ref t2) (putF "pins" (.ref t1) (putF "name" (.str x) [])))))
      generalize upd G5 p (.ins C dx (putF "orders" (.ref t4) (putF "is_path" (.bl false) (putF "controls" (.ref t2) (putF "pins" (.ref t1) (putF "name" (.str x) [])))))) = G6 at m6 q6 ⊢
      have line : 1000 ≤ sizeLine := by decide
      refine ⟨("kind " : Str), rfl, ?_, _, rfl, .inl ⟨x, rfl, by omega, x, rfl, ?_, _, rfl, p, C, dx, _, rfl, m6.at_, kc.cl, kc.n6, plt (pl (pl (pl (pl (pl p0))))), ?_⟩⟩
      · rw [app_len, len0]
        exact Nat.le_trans (by decide +kernel : 0 + (Str.ofString "kind ").length ≤ 1000) line
      · rw [app_len, app_len, len0, show (Str.ofString "kind ").length = 5 by decide +kernel]
        omega
      · have e := kf_put0 (.str x) (.ref t1) (.ref t2) (.bl false) (.ref t4) (.str (kindT x))
        have m7 := m6.put (fs' := kf (.str x) (.ref t1) (.ref t2) (.bl false) (.ref t4) (.str (kindT x)))
        have q7 := put_ne q6 m6.at_ (by intro _ _ _ z; cases z) (u := .ins C dx (kf (.str x) (.ref t1) (.ref t2) (.bl false) (.ref t4) (.str (kindT x))))
        rw [← e] at m7 q7
        have z := k _ t1 t2 t4 m7.sm (by rw [← e]; exact m7.at_) q7
        exact z
end
end R4
end

-- TupIn
section
set_option Elab.async false
set_option linter.all false
set_option maxRecDepth 100000
/-! x not in (a, b, ..), where no item is equal to x and the asking may make objects. -/
namespace OwnNe
open PySem PySem.SeqAt GQ L2 OwnOps
open AutoSeq1 (wpAny_loadPart')
open MeetsSeq MeetsSeq2 MeetsSeq3 SeqRoads2
section
variable {prog : Program} {w : World} {A : Around} {E : Value → Shared → Prop}
/-- no item is equal to x; J: what stands before the i-th is asked -/
theorem tup_containsJ (l : Addr) (items : Array Value) (n : Nat) (dd : Option Addr) (sl : Array (Option Value)) (x : Value) (J : Nat → Shared → Prop) (R : Result → Shared → Prop)
    (step : ∀ (i : Nat) (y : Value) (s : Shared), items.toList[i]? = some y → J i s → wpAny (model prog w) A.in1 (eqBool y x) (fun q s' => q = false ∧ J (i + 1) s') (fun e s' => R (.error e) s') s)
    (many : ∀ i, items.size ≤ i → ∀ s, J i s → J items.size s) (fin : ∀ s, J items.size s → R (.ok (.ret (.bool false))) s) {s : Shared} (hl : s.heap.get? l = some { cls := .type "tuple", dict := dd, data := .seq items n, slots := sl }) (h : J 0 s) :
    wpAny (model prog w) A.in1 (Builtin.«tuple.__contains__» ⟨[.ref l, x], []⟩) (FinOf prog w A R) (fun e s' => R (.error e) s') s := by
  refine wpAny_mono (Q := fun fin s' => ∃ v, fin = .done (.ret v) ∧ R (.ok (.ret v)) s') ?_ (fun fin s' h' => by obtain ⟨v, rfl, hv⟩ := h'; exact hv) fun _ _ x => x
  obtain ⟨hp, g, d, tk, os⟩ := s
  wp_walk using wpAny_loadPart' hl, wpAny_forIn_array _ (fun rest (b : Option Fin × Unit) s' => b.1 = none ∧ ∃ i : Nat, rest = items.toList.drop i ∧ J i s') _
  case turn =>
    rintro y rest b s' ⟨hb, i, hr, hJ⟩
    have hi : items.toList[i]? = some y := by
      rw [← List.head?_drop, ← hr]
      rfl
    refine wpAny_bind (wpAny_mono (step i y s' hi hJ) (fun q s2 hq => ?_) fun _ _ x => x)
    obtain ⟨rfl, hq⟩ := hq
    wp_walk
    refine ⟨rfl, i + 1, ?_, hq⟩
    have := congrArg List.tail hr
    rw [List.tail_drop] at this
    exact this
  case fin =>
    rintro ⟨b1, b2⟩ s' ⟨hb, i, hr, hJ⟩
    simp only at hb
    subst hb
    have hl' : items.size ≤ i := by
      have := congrArg List.length hr
      rw [List.length_drop] at this
      simp at this
      omega
    obtain ⟨hp, g, d, tk, os⟩ := s'
    wp_walk
    exact ⟨_, rfl, fin _ (many i hl' _ hJ)⟩
  case h =>
    exact ⟨rfl, 0, rfl, h⟩
theorem str_cmp_eq {z : Str} {t : Tok} {y : Addr} {oy : Obj} {s : Shared} {Q : Value → Shared → Prop} (hy : s.heap.get? y = some oy) (hp : oy.data = .plain) (h : Q .notImplemented s) :
    wpAny (model prog w) A (call (.builtin "str.__eq__") [.str z t, .ref y]) Q E s := by
  refine GQ.call_here F.slot_str_eq (typeIs_str s z t) F.entry_str_eq (F.args_str_eq_2 _ _) ?_
  obtain ⟨c, dd, dt, sl⟩ := oy
  cases hp
  obtain ⟨hh, gg, d, tt, os⟩ := s
  wp_walk using wpAny_loadPart' hy
  exact h
theorem str_refl {K : PySem.W.Frag} {y C g : Addr} {oy : Obj} {od : Option Obj} {z : Str} {t : Tok} {s : Shared} {Q : Value → Shared → Prop} (hu : A.units < cLine) (Y : K.In s.heap) (I : PySem.W.InstAt s.heap y oy C od) (hp : oy.data = .plain)
    (hsub : PySem.W.subIn K (.ref C) (.type "str") = some false) (hr : PySem.W.findIn K (.ref C) "__eq__" = some (some (.ref g))) (hg : PySem.W.isFn K (.ref g) = true)
    (h : wpAny (model prog w) A (call (.ref g) [.ref y, .str z t]) (PySem.W.CmpBack Q) E s) : wpAny (model prog w) A (richCompare .Eq (.str z t) (.ref y)) Q E s := by
  have one : wpAny (model prog w) A (tryCompare (.ref y) (cmpInfo .Eq).2.2 (.str z t)) (fun r s' => ∃ v, r = some v ∧ Q v s') E s := by
    unfold tryCompare
    refine wpAny_bind (PySem.W.ifBound_K Y I hr hg (wpAny_mono h (fun v s' hv => ?_) fun _ _ e => e))
    cases v <;> first | exact hv.elim | exact wpAny_pure ⟨_, rfl, hv⟩
  have h1 : oneThing? .Eq (.str z t) (.ref y) = none := rfl
  have hne : (Value.type "str" != Value.ref C) = true := rfl
  unfold richCompare
  simp only [h1]
  refine wpAny_holding (wpAny_bind (wpAny_cRoomFor hu ?_))
  refine wpAny_bind ((PySem.W.Looks.of_pure rfl : PySem.W.Looks (model prog w) s.heap (typeOf (.str z t)) (.type "str")).here (wpAny_bind (I.type.here ?_)))
  rw [hne]
  simp only [if_true]
  refine wpAny_bind ((PySem.W.looks_subIn Y hsub).here ?_)
  simp only [Bool.false_eq_true, if_false]
  refine wpAny_bind (wpAny_tryCompare_declines (typeIs_str _ _ _) F.slot_str_eq (str_cmp_eq I.at_ hp ⟨rfl, ?_⟩))
  simp only [Bool.not_false, if_true]
  refine wpAny_bind (wpAny_mono one (fun r s' z => ?_) fun _ _ e => e)
  obtain ⟨v, rfl, hq⟩ := z
  exact wpAny_pure hq
theorem eqBool_rs {z : Str} {tk : Tok} {l : Addr} {s : Shared} {Q : Bool → Shared → Prop}
    (h : wpAny (model prog w) A (richCompare .Eq (.str z tk) (.ref l)) (fun x s' => ∃ r, x = .bool r ∧ Q r s') E s) : wpAny (model prog w) A (eqBool (.str z tk) (.ref l)) Q E s := by
  unfold eqBool
  refine wpAny_holding (wpAny_ite_split (fun z => by cases (beq_iff_eq.mp z)) fun _ => wpAny_bind (wpAny_mono h ?_ fun _ _ x => x))
  rintro x s' ⟨r, rfl, q⟩
  exact wpAny_truthy_bool q
end
/-- x not in a tuple, none of whose items is equal to x -/
def rNotInB (D : V → V → Hp → Bool → Prop) : R2 := fun x y H Q => ∃ p xs, y = .ref p ∧ H p = some (.tup xs) ∧ (∀ z ∈ xs, D z x H false) ∧ ∀ H', Ext H H' → Q (.bl true) H'
theorem op_notInB {X : Cx} {n : Nat} {D : V → V → Hp → Bool → Prop} (hD : ∀ x y H H' b, Ext H H' → D x y H b → D x y H' b) (h : EqB X n D) (hr : Room (n + 1) X.A) : OpR X (compareOp .NotIn) (rNotInB D) := by
  intro pins s σ H x y v u Q I rx ry hq
  obtain ⟨p, xs, rfl, hp, hd, q⟩ := hq
  cases ry
  have sb : Sub X (n + 1) X.A := ⟨hr, rfl⟩
  obtain ⟨hz, its, rr, ho⟩ := (show ObjOk X.prog X.w H s.heap p (.tup xs) from I.hok p _ hp)
  obtain ⟨⟨cls, dd, data, sl⟩, ho, hc, k, hdat⟩ := ho
  simp only at hc hdat
  subst hc hdat
  show wpAny _ X.A (do return .bool (!(← contains (.ref p) v))) (EP X pins σ Q) X.xe s
  refine wpAny_bind (wpAny_contains_slot ⟨_, ho, rfl⟩ F.slot_tuple_contains (wpAny_mono (Q := fun c s' => c = .bool false ∧ LoopI X pins σ H s') (GQ.call_here F.slot_tuple_contains ⟨_, ho, rfl⟩ F.entry_tuple_contains (F.args_tuple_contains_2 _ _) ?_) (fun c s' hc => ?_) fun _ _ e => e))
  · refine tup_containsJ (R := wants (fun c s' => c = .bool false ∧ LoopI X pins σ H s') X.xe) p its.toArray k dd sl v (fun _ s' => LoopI X pins σ H s') (fun i u s' hi hJ => ?_) (fun _ _ s' j => j) (fun s' j => ⟨rfl, j⟩) ho ⟨H, I, Ext.rfl'⟩
    obtain ⟨H1, I1, e1⟩ := hJ
    have hi : its[i]? = some u := by simpa using hi
    obtain ⟨y, hy, ru⟩ : ∃ y, xs[i]? = some y ∧ RelV y u := by
      have lt : i < xs.length := by rw [rr.length]; exact (List.getElem?_eq_some_iff.mp hi).1
      obtain ⟨u', hu', ru⟩ := rr.get (List.getElem?_eq_getElem lt)
      rw [hi] at hu'
      cases hu'
      exact ⟨_, List.getElem?_eq_getElem lt, ru⟩
    refine wpAny_mono (h X.A.in1 pins s' σ H1 _ _ u v _ sb.in1 I1 ru rx (hD _ _ _ _ _ e1 (hd y (List.mem_of_getElem? hy)))) (fun r' s2 q' => ?_) fun _ _ x => x
    obtain ⟨hr', H2, I2, e2'⟩ := q'
    exact ⟨hr', H2, I2, e1.trans e2'⟩
  · obtain ⟨rfl, H', I', e⟩ := hc
    exact wpAny_truthy_bool (wpAny_pure ⟨.bl true, H', I', rfl, q H' e⟩)
end OwnNe
end

-- K4d
section
set_option Elab.async false
set_option linter.all false
set_option maxRecDepth 100000
set_option exponentiation.threshold 10000
namespace R4
open PySem L2 OwnOps OwnNe G1 StX
/-- the words of rules -/
def rwd (w : Bool) : Str := if w then "sum" else "inverse"
/-- what is known of the class ValueRule -/
structure RTxt (K : PySem.W.Frag) (mg : Str → Option Value) (D CK fCK : Addr) : Prop where
  cl : Cls K D
  nW : NoAttr K D "word"
  gD : mg "ValueRule" = some (.ref D)
  eK : PySem.Giv.ErrTxt K mg "InvalidKind" "InvalidKind.__init__" "ValueError.__new__" veT CK fCK
  ha : PySem.W.findIn K (.ref D) "__class__" = some (some (.builtin "object.__class__"))
  hn : PySem.W.specialIn K (.builtin "object.__class__") "__get__" = some (some (.builtin "getset_descriptor.__get__"))
  htk : PySem.W.takesIn K (.builtin "object.__class__") = some true
  hm : PySem.W.mroIn K D (.type "object") = some true
  kDD : PySem.W.kitOne K (.ref D) (.ref D) = some true
  ksD : PySem.W.kitOne K (.type "str") (.ref D) = some false
def rf (w : Bool) : List (Str × V) := putF "word" (.str (rwd w)) []
theorem rf_word (w : Bool) : (rf w).lookup ("word" : Str) = some (.str (rwd w)) := by
  unfold rf
  rw [lookup_putF, if_pos rfl]
theorem rf_no (w : Bool) {m : Str} (h : ¬ m = "word") : (rf w).lookup m = none := by
  unfold rf
  rw [lookup_putF, if_neg h]
  all_goals rfl
def Rul (D : Addr) (H : Hp) (p : Addr) (w : Bool) : Prop := ∃ dx, H p = some (.ins D dx (rf w))
theorem Rul.same {D : Addr} {H H' : Hp} {p : Addr} {w : Bool} (h : Rul D H p w) (e : Same H H') : Rul D H' p w := let ⟨dx, q⟩ := h; ⟨dx, e _ _ q⟩
/-- a text that is not the other value -/
def WD : V → V → Hp → Bool → Prop := fun x y H b => ∃ z, x = .str z ∧ b = false ∧ Av H y ∧ y ≠ .str z
theorem mon_WD : ∀ x y H H' b, Ext H H' → WD x y H b → WD x y H' b := fun _ _ _ _ _ e ⟨z, h1, h2, h3, h4⟩ => ⟨z, h1, h2, h3.same e, h4⟩
theorem eqB_WD {X : Cx} : EqB X 2 WD := by
  intro A pins s σ H x y u v bb sb I rx ry d
  obtain ⟨z, rfl, rfl, wv, ne⟩ := d
  obtain ⟨tk, rfl⟩ := (show ∃ t, u = Value.str z t from rx)
  have fin : (fun (r : Bool) s' => r = false ∧ ∃ H', L2.Inv X pins σ H' s' ∧ Ext H H') false s := ⟨rfl, H, I, Ext.rfl'⟩
  have hu : A.units < cLine := sb.room.units0
  cases wv with
  | bl b => cases (show v = Value.bool b from ry); exact SeqAt.EqAt.str_bool z tk b X.prog X.w X.xe _ fin
  | non => cases (show v = Value.none from ry); exact SeqAt.EqAt.str_none z tk X.prog X.w X.xe _ fin
  | str x =>
    obtain ⟨t, rfl⟩ := (show ∃ t, v = Value.str x t from ry)
    have q := SeqAt.EqAt.str_str (A := A) (s := s) z tk x t
    have e : (z == x) = false := beq_eq_false_iff_ne.mpr fun e => ne (by rw [e])
    rw [e] at q
    exact q X.prog X.w X.xe _ fin
  | lst e =>
    cases (show v = Value.ref _ from ry)
    obtain ⟨_, _, n, _, h1⟩ := (show ObjOk X.prog X.w H s.heap _ (.lst _) from I.hok _ _ e)
    exact SeqAt.EqAt.str_list z tk ⟨_, h1, rfl, n, rfl⟩ hu X.prog X.w X.xe _ fin
  | tup e =>
    cases (show v = Value.ref _ from ry)
    obtain ⟨_, _, _, o, h1, h2, n, h3⟩ := (show ObjOk X.prog X.w H s.heap _ (.tup _) from I.hok _ _ e)
    exact SeqAt.EqAt.str_tuple z tk ⟨o, h1, h2, n, h3⟩ hu X.prog X.w X.xe _ fin
  | int i => obtain ⟨t, rfl⟩ := (show ∃ t, v = Value.int i t from ry); exact SeqAt.EqAt.str_int z tk i t X.prog X.w X.xe _ fin
/-- no word of a rule -/
def NoWd (H : Hp) (v : V) : Prop := Av H v ∧ ∀ w, v ≠ .str (rwd w)
def spVI (D CK : Addr) : Sp := fun vs H Q E => ∃ (p dx : Addr) (v : V), vs = [.ref p, v] ∧ H p = some (.ins D dx []) ∧ ((∃ w, v = .str (rwd w) ∧ ∀ H', Same H H' → Q .non (upd H' p (.ins D dx (rf w)))) ∨
  (NoWd H v ∧ ∀ d H', Same H H' → H' d = some (xd v) → E (.ref CK) (some d) H'))
def spVEq (D : Addr) : Sp := fun vs H Q _ => ∃ p w v, vs = [.ref p, v] ∧ Rul D H p w ∧ ((∃ q w', v = .ref q ∧ Rul D H q w' ∧ Q (.bl (w == w')) H) ∨ (∃ z, v = .str z ∧ Q (.bl false) H))
theorem rwd_rwd (w w' : Bool) : decide (V.str (rwd w) = V.str (rwd w')) = (w == w') := by
  cases w <;> cases w' <;> first | exact decide_eq_true rfl | exact decide_eq_false (fun z => absurd (V.str.inj z) (by decide +kernel))
section
variable {P : Program} {w : World} {K : PySem.W.Frag} {mg : Str → Option Value} {base : Heap} {D CK fCK : Addr}
theorem ok_vi {f : Addr} {fd : FuncData} (F : Fun K "__init__" "ValueRule.__init__" (sVR 0) f fd) (U : RTxt K mg D CK fCK) :
    FnOk P w K mg base (L2.CX P w) 4 f fd ["self", "word"] (spVI D CK) := by
  have sc : FnScope ["self", "word"] ["self", "word"] (defScope (sVR 0)) := ⟨rfl, rfl, rfl, by decide +kernel, rfl, by decide +kernel, by decide +kernel⟩
  refine F.okX sc (fun vs H Q E h => ?_) (fun cdv A outer s H vs Q E hr h => ?_)
  · obtain ⟨p, dx, v, rfl, _⟩ := h
    rfl
  · obtain ⟨p, dx, v, rfl, hp, k⟩ := h
    refine ⟨_, pss_cons (ps_if (pt_cmpR (op := .NotIn) (op_or (op_notInB (n := 2) mon_WD eqB_WD hr) op_notIn_seq) (pv 1) (pe_tup (pa_cons pe_str (pa_cons pe_str pa_nil))) (by rfl))
        (pss_one (ps_raiseGiv rfl PySem.Giv.ok_VE U.eK hr (takes_of rfl rfl rfl rfl) (pa_cons (pv 1) pa_nil) (by rfl))) pss_nil)
      (pss_one (ps_fld (pv 0) (pv 1) rfl)), ?_⟩
    refine ⟨_, rfl, (by show 2 ≤ sizeLine; decide), fun tp np => ?_⟩
    have s0 := same_upd (o := .tup [.str "sum", .str "inverse"]) np
    have e0 : (upd H tp (.tup [.str "sum", .str "inverse"])) tp = some (.tup [.str "sum", .str "inverse"]) := upd_same
    generalize upd H tp (.tup [.str "sum", .str "inverse"]) = G at s0 e0 ⊢
    rcases k with ⟨w', rfl, k⟩ | ⟨⟨wv, nw⟩, k⟩
    · refine .inr ⟨tp, _, rfl, .inr (SqT.of e0), rfl, rfl, _, rfl, if_neg' (by cases w' <;> decide +kernel) ?_⟩
      exact ⟨_, rfl, _, rfl, p, D, dx, _, rfl, s0 _ _ hp, U.cl, U.nW, (by show 0 < 1000; decide), k G s0⟩
    · refine .inl ⟨tp, _, rfl, e0, fun z hz => ?_, fun H' ex => ⟨_, rfl, if_pos' rfl ⟨_, rfl, _, rfl, fun d hd => k d _ (s0.trans (Same.trans ex (same_upd hd))) upd_same⟩⟩⟩
      rcases List.mem_cons.mp hz with rfl | hz
      · exact ⟨_, rfl, rfl, wv.same s0, nw true⟩
      · rw [List.mem_singleton.mp hz]
        exact ⟨_, rfl, rfl, wv.same s0, nw false⟩
theorem ok_veq {f : Addr} {fd : FuncData} (F : Fun K "__eq__" "ValueRule.__eq__" (sVR 3) f fd) (T : Bi mg) (U : RTxt K mg D CK fCK) : FnOk P w K mg base (L2.CX P w) 1 f fd ["self", "other"] (spVEq D) := by
  have sc : FnScope ["self", "other"] ["self", "other"] (defScope (sVR 3)) := ⟨rfl, rfl, rfl, by decide +kernel, rfl, by decide +kernel, by decide +kernel⟩
  refine F.okX sc (fun vs H Q E h => ?_) (fun cdv A outer s H vs Q E hr h => ?_)
  · obtain ⟨p, w', v, rfl, _⟩ := h
    rfl
  · obtain ⟨p, w', v, rfl, ⟨dx, hp⟩, k⟩ := h
    refine ⟨_, pss_one (ps_ret (pe_and (pe_callB call_isi (by rfl) T.isi (by decide +kernel) (pa_cons (pv 1) (pa_cons (pe_glob (v := .ref D) (by rfl) U.gD rfl) pa_nil))) (pe_one (pe_cmpR op_eq (pe_fld (pv 0) rfl) (pe_fld (pv 1) rfl) (nomark _))))), ?_⟩
    rcases k with ⟨q, w2, rfl, ⟨dq, hq⟩, k⟩ | ⟨z, rfl, k⟩
    · refine ⟨_, rfl, _, _, _, _, _, rfl, .own D, .base (.ins hq U.cl U.ha U.hn U.htk U.hm), U.kDD, _, rfl, iteT ⟨_, rfl, p, D, dx, _, _, rfl, hp, U.cl, U.nW, rf_word _, _, rfl, q, D, dq, _, _, rfl, hq, U.cl, U.nW, rf_word _, rfl, ?_⟩⟩
      rw [rwd_rwd]
      exact k
    · exact ⟨_, rfl, _, _, _, _, _, rfl, .own D, .base (.str z), U.ksD, _, rfl, iteF k⟩
/-! ### _as_rule: None, a word, a rule -/
theorem Rul.word {D : Addr} {H : Hp} {p : Addr} {w : Bool} (r : Rul D H p w) : ∃ dx, H p = some (.ins D dx (rf w)) := r
structure MkV (P : Program) (w : World) (K : PySem.W.Frag) (mg : Str → Option Value) (base : Heap) (D CK : Addr) : Prop where
  ex : ∃ f fd, Mk K D f ∧ FnOk P w K mg base (L2.CX P w) 4 f fd ["self", "word"] (spVI D CK) ∧ L2.Binds K fd ["self", "word"] []
def spAsR (D CK : Addr) : Sp := fun vs H Q E => ∃ v, vs = [v] ∧ ((v = .non ∧ Q .non H) ∨
  (((∃ w, v = .str (rwd w) ∧ ∀ q H', Same H H' → Rul D H' q w → Q (.ref q) H') ∨ (∃ w q, v = .ref q ∧ Rul D H q w ∧ ∀ q' H', Same H H' → Rul D H' q' w → Q (.ref q') H')) ∨
   (v ≠ .non ∧ NoWd H v ∧ ∀ d H', Same H H' → H' d = some (xd v) → E (.ref CK) (some d) H')))
theorem ok_asr {f : Addr} {fd : FuncData} (F : Fun K "_as_rule" "_as_rule" sAsR f fd) (T : Bi mg) (U : RTxt K mg D CK fCK) (M : MkV P w K mg base D CK) (ks : ∀ T : String, T ∈ ["str", "int", "bool", "tuple", "list", "NoneType"] → PySem.W.kitOne K (.type T) (.ref D) = some false) :
    FnOk P w K mg base (L2.CX P w) 6 f fd ["value"] (spAsR D CK) := by
  obtain ⟨fV, fdV, mk, GV, bV⟩ := M.ex
  have sc : FnScope ["value"] ["value"] (defScope sAsR) := ⟨rfl, rfl, rfl, by decide +kernel, rfl, by decide +kernel, by decide +kernel⟩
  have hN := sc.nd
  refine F.okX sc (fun vs H Q E h => ?_) (fun cdv A outer s H vs Q E hr h => ?_)
  · obtain ⟨v, rfl, _⟩ := h
    rfl
  · obtain ⟨v, rfl, k⟩ := h
    refine ⟨_, pss_cons (ps_if (pt_cmpR op_isN (pv 0) pe_non (nomark _)) (pss_one (ps_ret pe_non)) pss_nil)
      (pss_one (ps_ret (pe_make (E := E) mk GV (hr.mono (by decide)) (by rfl) U.gD bV .nil (passes_call (takes_of rfl rfl rfl rfl) (fun _ _ _ _ h => h)) (pa_cons (pe_ifExp (pt_val (pe_callB call_isi (by rfl) T.isi (by decide +kernel) (pa_cons (pv 0) (pa_cons (pe_glob (v := .ref D) (by rfl) U.gD rfl) pa_nil)))) (pe_fld (pv 0) rfl) (pv 0)) pa_nil)))), ?_⟩
    have made : ∀ {G : Hp} {x d : Addr} {w : Bool} {H' : Hp}, G x = none → G d = none → Same (upd (upd G d (.own x)) x (.ins D d [])) H' → Same G (upd H' x (.ins D d (rf w))) := fun nx nd s => same_put ((same_new nx nd).trans s) nx
    rcases k with ⟨rfl, k⟩ | (⟨w', rfl, k⟩ | ⟨w', q, rfl, ⟨dq, hq⟩, k⟩) | ⟨nn, nw, k⟩
    · exact ⟨_, rfl, rfl, _, rfl, if_pos' rfl k⟩
    · refine ⟨_, rfl, rfl, _, rfl, if_neg' rfl ?_⟩
      refine ⟨_, rfl, _, _, _, _, _, rfl, .own D, .base (.str _), U.ksD, _, rfl, iteF ⟨_, rfl, fun x dx nx nd ne => ?_⟩⟩
      exact ⟨x, dx, _, rfl, upd_same, .inl ⟨w', rfl, fun H' s => ⟨rfl, k x _ (made nx nd s) ⟨dx, upd_same⟩⟩⟩⟩
    · refine ⟨_, rfl, rfl, _, rfl, if_neg' rfl ?_⟩
      refine ⟨_, rfl, _, _, _, _, _, rfl, .own D, .base (.ins hq U.cl U.ha U.hn U.htk U.hm), U.kDD, _, rfl, iteT ⟨_, rfl, q, D, dq, _, _, rfl, hq, U.cl, U.nW, rf_word _, fun x dx nx nd ne => ?_⟩⟩
      exact ⟨x, dx, _, rfl, upd_same, .inl ⟨w', rfl, fun H' s => ⟨rfl, k x _ (made nx nd s) ⟨dx, upd_same⟩⟩⟩⟩
    · refine ⟨_, rfl, rfl, _, rfl, if_neg' (decide_eq_false nn) ?_⟩
      have bad : ∀ x dx, H x = none → H dx = none → dx ≠ x → spVI D CK (.ref x :: ([v] ++ [])) (upd (upd H dx (.own x)) x (.ins D dx [])) (fun u H2 => u = .non ∧ Q (.ref x) H2) E := fun x dx nx nd ne =>
        ⟨x, dx, v, rfl, upd_same, .inr ⟨⟨nw.1.same (same_new nx nd), nw.2⟩, fun d H' s e => k d H' ((same_new nx nd).trans s) e⟩⟩
      cases nw.1 with
      | non => exact absurd rfl nn
      | str z => exact ⟨_, rfl, _, _, _, _, _, rfl, .own D, .base (.str z), ks _ (by simp), _, rfl, iteF ⟨_, rfl, bad⟩⟩
      | int i => exact ⟨_, rfl, _, _, _, _, _, rfl, .own D, .base (.int i), ks _ (by simp), _, rfl, iteF ⟨_, rfl, bad⟩⟩
      | bl b => exact ⟨_, rfl, _, _, _, _, _, rfl, .own D, .base (.bl b), ks _ (by simp), _, rfl, iteF ⟨_, rfl, bad⟩⟩
      | lst e => exact ⟨_, rfl, _, _, _, _, _, rfl, .own D, .base (.lst e), ks _ (by simp), _, rfl, iteF ⟨_, rfl, bad⟩⟩
      | tup e => exact ⟨_, rfl, _, _, _, _, _, rfl, .own D, .base (.tup e), ks _ (by simp), _, rfl, iteF ⟨_, rfl, bad⟩⟩
end
end R4
end

-- K4e
section
set_option Elab.async false
set_option linter.all false
set_option maxRecDepth 100000
set_option exponentiation.threshold 10000
namespace R4
open PySem L2 OwnOps OwnNe G1 StX
def worded (ws : List Str) (tail : Str) : Str := Txt.join " " (if tail.length = 0 then ws else ws ++ [(":" : Str), tail])
def size (ws : List Str) : Nat := (ws.map (·.length)).sum
section
variable {P : Program} {w : World} {K : PySem.W.Frag} {mg : Str → Option Value} {base : Heap}
def spWrd (K : PySem.W.Frag) : Sp := fun vs H Q _ => ∃ a ws tail, vs = [.ref a, .str tail] ∧ SqL K H a (ws.map V.str) ∧ ws.length ≤ 1000 ∧ size ws ≤ 100000 ∧ tail.length ≤ 100000 ∧ ∀ H', Same H H' → Q (.str (worded ws tail)) H'
theorem ok_wrd {f : Addr} {fd : FuncData} (F : Fun K "_worded" "_worded" sWrd f fd) : FnOk P w K mg base (L2.CX P w) 1 f fd ["words", "tail"] (spWrd K) := by
  have sc : FnScope ["words", "tail"] ["words", "tail"] (defScope sWrd) := ⟨rfl, rfl, rfl, by decide +kernel, rfl, by decide +kernel, by decide +kernel⟩
  refine F.okX sc (fun vs H Q E h => ?_) (fun cdv A outer s H vs Q E hr h => ?_)
  · obtain ⟨a, ws, tail, rfl, _⟩ := h
    rfl
  · obtain ⟨a, ws, tail, rfl, hS, n1, n2, n3, fin⟩ := h
    refine ⟨_, pss_one (ps_ret (pe_join pe_str (pe_ifExp (pt_truth (pv 1) (fun _ => rfl)) (pe_lst (pa_star (pv 0) (pa_cons pe_str (pa_cons (pv 1) pa_nil)))) (pv 0)))), ?_⟩
    have one : (Str.ofString " ").length = 1 := by decide +kernel
    have line : sizeLine = 16777216 := by decide
    refine ⟨⟨_, rfl⟩, _, rfl, _, ⟨by omega, rfl⟩, ?_⟩
    by_cases h0 : tail.length = 0
    · refine if_neg' (by rw [h0]; rfl) ⟨_, rfl, " ", a, ws, rfl, rfl, .inl hS, ?_, ?_⟩
      · unfold size at n2
        rw [one]
        omega
      · have z := fin H (Same.refl H)
        unfold worded at z
        rw [if_pos h0] at z
        exact z
    · refine if_pos' (by simp [h0]) ⟨_, rfl, a, _, rfl, .inr hS, _, rfl, ?_, fun p hp => ?_⟩
      · simp only [List.length_append, List.length_map, List.length_cons, List.length_nil]; omega
      · have e : ws.map V.str ++ [V.str ":", V.str tail] = (ws ++ [(":" : Str), tail]).map V.str := by rw [List.map_append]; rfl
        refine ⟨" ", p, ws ++ [(":" : Str), tail], rfl, rfl, .inl (SqL.of ?_), ?_, ?_⟩
        · rw [← e]
          exact upd_same
        · unfold size at n2
          rw [one, List.map_append, List.sum_append, List.length_append]
          simp only [List.map_cons, List.map_nil, List.sum_cons, List.sum_nil, List.length_cons, List.length_nil]
          rw [show (Str.ofString ":").length = 1 by decide +kernel]
          omega
        · have z := fin _ (same_upd hp (o := .lst (ws.map V.str ++ [V.str ":", V.str tail])))
          unfold worded at z
          rw [if_neg h0] at z
          exact z
end
end R4
end

-- K4f
section
set_option Elab.async false
set_option linter.all false
set_option maxRecDepth 100000
set_option exponentiation.threshold 10000
namespace R4
open PySem L2 OwnOps OwnNe G1 StX
abbrev RR := Option (Bool × Addr)
def rKvs (a b : RR) : List (Key × V) := (match a with | some (_, q) => [(Sum.inr "row", V.ref q)] | none => []) ++ (match b with | some (_, q) => [(Sum.inr "side", V.ref q)] | none => [])
structure Ruls (D : Addr) (H : Hp) (r : Addr) (a b : RR) : Prop where
  at_ : H r = some (.dK (rKvs a b))
  ra : ∀ w q, a = some (w, q) → Rul D H q w
  rb : ∀ w q, b = some (w, q) → Rul D H q w
theorem Ruls.same {D : Addr} {H H' : Hp} {r : Addr} {a b : RR} (h : Ruls D H r a b) (s : Same H H') : Ruls D H' r a b := ⟨s _ _ h.at_, fun w q e => (h.ra w q e).same s, fun w q e => (h.rb w q e).same s⟩
def wayT (k : Str) (a : RR) : List Str := match a with | some (w, _) => [k, rwd w] | none => []
def pathT (d : Bool) (x : Str) (cs : List Str) (a b : RR) : Str := worded ("path" :: x :: cs) (Txt.join " " ((if d then [("directed" : Str)] else []) ++ (wayT "row" a ++ wayT "side" b)))
theorem val_row (a b : RR) : valV (rKvs a b) (Sum.inr ("row" : Str)) = a.map fun p => V.ref p.2 := by
  have n1 : ¬ ((Sum.inr ("side" : Str) : Key) = Sum.inr ("row" : Str)) := by decide +kernel
  rcases a with _ | ⟨w, q⟩ <;> rcases b with _ | ⟨w', q'⟩ <;> unfold rKvs <;> first | rfl | exact valV_pos rfl | (exact (valV_neg n1).trans rfl)
theorem val_side (a b : RR) : valV (rKvs a b) (Sum.inr ("side" : Str)) = b.map fun p => V.ref p.2 := by
  have n1 : ¬ ((Sum.inr ("row" : Str) : Key) = Sum.inr ("side" : Str)) := by decide +kernel
  rcases a with _ | ⟨w, q⟩ <;> rcases b with _ | ⟨w', q'⟩ <;> unfold rKvs <;> first | rfl | exact valV_pos rfl | (exact (valV_neg n1).trans rfl) | (exact (valV_neg n1).trans (valV_pos rfl))
/-- the ways, by place -/
def way (i : Nat) : Str := if i = 0 then "row" else "side"
def rul (a b : RR) (i : Nat) : RR := if i = 0 then a else b
def told (a b : RR) (n : Nat) : List Str := (List.range n).flatMap fun i => wayT (way i) (rul a b i)
theorem told_succ (a b : RR) (n : Nat) : told a b (n + 1) = told a b n ++ wayT (way n) (rul a b n) := by
  unfold told
  rw [List.range_succ, List.flatMap_append]
  simp
theorem told_len (a b : RR) : ∀ n, (told a b n).length ≤ 2 * n
  | 0 => Nat.le_refl _
  | n + 1 => by
    rw [told_succ, List.length_append]
    have h := told_len a b n
    have : (wayT (way n) (rul a b n)).length ≤ 2 := by
      unfold wayT
      split <;> simp
    omega
theorem val_way (a b : RR) {i : Nat} (hi : i < 2) : valV (rKvs a b) (Sum.inr (way i)) = (rul a b i).map fun p => V.ref p.2 := by
  rcases (show i = 0 ∨ i = 1 by omega) with rfl | rfl
  · exact val_row a b
  · exact val_side a b
theorem Ruls.at_way {D : Addr} {H : Hp} {r : Addr} {a b : RR} (h : Ruls D H r a b) {i : Nat} {w : Bool} {q : Addr} (e : rul a b i = some (w, q)) : Rul D H q w := by
  unfold rul at e
  split at e
  · exact h.ra w q e
  · exact h.rb w q e
theorem if_lst {c : Bool} {ta tb : TA} {σ : L2.St} {H : Hp} {Q : VK} (C : V → Hp → Prop) (k : ∀ v G, C v G → Q v G) (h1 : c = true → tLst ta σ H C) (h2 : c = false → tLst tb σ H C)
    (m1 : ∀ Q1 Q2 : List V → Hp → Prop, (∀ xs G, Q1 xs G → Q2 xs G) → ta σ H Q1 → ta σ H Q2) (m2 : ∀ Q1 Q2 : List V → Hp → Prop, (∀ xs G, Q1 xs G → Q2 xs G) → tb σ H Q1 → tb σ H Q2) :
    if c = true then tLst ta σ H Q else tLst tb σ H Q := by
  cases c with
  | true => exact m1 _ _ (fun xs G ⟨e, f⟩ => ⟨e, fun p hp => k _ _ (f p hp)⟩) (h1 rfl)
  | false => exact m2 _ _ (fun xs G ⟨e, f⟩ => ⟨e, fun p hp => k _ _ (f p hp)⟩) (h2 rfl)
theorem way_at {i : Nat} {x : V} (h : [V.str "row", V.str "side"][i]? = some x) : i < 2 ∧ x = .str (way i) := by
  match i, h with
  | 0, h => cases h; exact ⟨by omega, rfl⟩
  | 1, h => cases h; exact ⟨by omega, rfl⟩
theorem sum_le {ys : List Str} {n : Nat} : (∀ y ∈ ys, y.length ≤ n) → (ys.map (·.length)).sum ≤ n * ys.length := by
  induction ys with
  | nil => intro _; exact Nat.zero_le _
  | cons y r ih =>
    intro h
    rw [List.map_cons, List.sum_cons, List.length_cons, Nat.mul_add, Nat.mul_one]
    have h1 := h y List.mem_cons_self
    have h2 := ih fun z hz => h z (List.mem_cons_of_mem _ hz)
    omega
theorem join_le {a : Str} (ys : List Str) : (Txt.join a ys).length ≤ (ys.map (·.length)).sum + ys.length * a.length := by
  have h := StrLaws.join_length_le a ys
  unfold Txt.join
  rw [StrLaws.glued_eq_join]
  exact h
abbrev NPL : List Str := ["kind", "rules", "words", "ruled", "way", "word"]
section
variable {P : Program} {w : World} {K : PySem.W.Frag} {mg : Str → Option Value} {base : Heap} {D CK fCK : Addr}
def spPL (K : PySem.W.Frag) (D : Addr) : Sp := fun vs H Q _ => ∃ (k r C dx c : Addr) (fs : List (Str × V)) (x : Str) (cs : List Str) (d : Bool) (u : Value) (a b : RR), vs = [.ref k, .ref r] ∧ H k = some (.ins C dx fs) ∧ KCls K C ∧ Con K C "DIRECTED" (.bl d) u ∧
  fs.lookup ("DIRECTED" : Str) = none ∧ fs.lookup ("name" : Str) = some (.str x) ∧ fs.lookup ("controls" : Str) = some (.ref c) ∧ H c = some (.tup (cs.map V.str)) ∧ Ruls D H r a b ∧ x.length ≤ 12 ∧ cs.length ≤ 6 ∧ (∀ y ∈ cs, y.length ≤ 12) ∧ ∀ H', Same H H' → Q (.str (pathT d x cs a b)) H'
theorem ok_pl {f : Addr} {fd : FuncData} (F : Fun K "_path_line" "_path_line" sPL f fd) (T : Bi mg) (U : RTxt K mg D CK fCK) (GW : Glb P w K mg base "_worded" 1 ["words", "tail"] (spWrd K)) : FnOk P w K mg base (L2.CX P w) 2 f fd ["kind", "rules"] (spPL K D) := by
  obtain ⟨_, _, mW, kW, GW, bW⟩ := GW.ex
  have sc : FnScope NPL ["kind", "rules"] (defScope sPL) := ⟨rfl, rfl, rfl, by decide +kernel, rfl, by decide +kernel, by decide +kernel⟩
  have hN := sc.nd
  refine F.okX sc (fun vs H Q E h => ?_) (fun cdv A outer s H vs Q E hr h => ?_)
  · obtain ⟨k, r, C, dx, c, fs, x, cs, d, u, a, b, rfl, _⟩ := h
    rfl
  · obtain ⟨k, r, C, dx, c, fs, x, cs, d, u, a, b, rfl, hk, kc, con, l0, l1, l2, hc, ru, x12, c6, c12, fin⟩ := h
    refine ⟨_, pss_cons (ps_set (i := 2) hN rfl (Or.inl rfl) (pe_ifExp (pt_val (pe_con (pv 0) rfl)) (pe_lst (pa_cons pe_str pa_nil)) (pe_lst pa_nil)))
      (pss_cons (ps_setLc2 (i := 3) (own := [("way", 4), ("word", 5)]) (vs1 := [5]) (g := gName 4) (g1 := gName 5) (tt := tB (tDIn (tVar 4) (tVar 1))) (tt1 := tYes) (wi1 := iTup K (tTup (tCons (tVar 4) (tCons (tFld K (tDGet (tVar 1) (tVar 4)) "word") tNil)))) (te := tVar 5) rfl hN rfl rfl (sw_true rfl rfl rfl (by decide +kernel))
          (pi_tup (pe_tup (pa_cons pe_str (pa_cons pe_str pa_nil)))) (blkOk_by (N := NPL) (sc := defScope sPL) (by decide +kernel)) (by decide) (fun _ _ _ _ _ => pg_name (i := 4) hN rfl (Or.inl rfl)) (fun _ _ _ _ _ => pts_one (pt_cmp (pc_din (hu_of hr) (pv 4) (pv 1))))
          (fun _ _ _ _ _ => pi_tup (pe_tup (pa_cons (pv 4) (pa_cons (pe_fld (pe_dget (hu_of hr) (pv 1) (pv 4) (fun _ _ => rfl)) rfl) pa_nil)))) (fun _ _ _ _ _ => pg_name (i := 5) hN rfl (Or.inl rfl)) (fun _ _ _ _ _ => pts_nil) (fun _ _ _ _ _ => pv 5))
      (pss_one (ps_ret (pe_call GW hr (by rfl) mW kW bW .nil passL (pa_cons (pe_lst (pa_cons pe_str (pa_cons (pe_fld (pv 0) rfl) (pa_star (pe_fld (pv 0) rfl) pa_nil)))) (pa_cons (pe_join pe_str (pe_lst (pa_star (pv 2) (pa_star (pv 3) pa_nil)))) pa_nil)))))), ?_⟩
    have line : 1000 ≤ sizeLine := by decide
    refine ⟨_, rfl, k, C, dx, fs, _, u, rfl, hk, kc.cl, con, l0, _, rfl, if_lst (fun v G => ∃ p, v = .ref p ∧ Same H G ∧ G p = some (.lst (((if d then [("directed" : Str)] else []) : List Str).map V.str))) ?_ (fun h => ?_) (fun h => ?_) (fun _ _ h z => h _ _ z) (fun _ _ h z => h _ _ z)⟩
    rotate_left
    · exact ⟨by show 1 ≤ sizeLine; omega, fun p np => ⟨p, rfl, same_upd np, by rw [h]; exact upd_same⟩⟩
    · exact ⟨by show 0 ≤ sizeLine; omega, fun p np => ⟨p, rfl, same_upd np, by rw [h]; exact upd_same⟩⟩
    rintro _ G0 ⟨pw, rfl, s0, hpw⟩
    refine ⟨by show 2 ≤ sizeLine; omega, fun tp np => ⟨tp, rfl, ⟨_, SqT.of upd_same⟩, fun Dl nD => ?_⟩⟩
    have s1 : Same G0 (upd G0 tp (.tup [.str "row", .str "side"])) := same_upd np
    have et : (upd G0 tp (.tup [.str "row", .str "side"])) tp = some (.tup [.str "row", .str "side"]) := upd_same
    generalize upd G0 tp (.tup [.str "row", .str "side"]) = G1 at s1 et nD ⊢
    have s01 : Same H G1 := s0.trans s1
    have ru1 := ru.same s01
    refine walk_it (walk_tup (K := K) (a := tp) (xs := [.str "row", .str "side"])) (fun i G2 => Same G1 G2 ∧ G2 Dl = some (.lst ((told a b i).map V.str))) ⟨same_upd nD, upd_same⟩ (fun i G2 _ ⟨sm2, _⟩ => SqT.of (sm2 _ _ et)) (fun i x' G2 G3 hi ⟨sm2, hD2⟩ ⟨e, hx⟩ => ?_) (fun G2 ⟨sm2, hD2⟩ => ?_)
    · subst e
      obtain ⟨i2, rfl⟩ := way_at hx
      have ru2 := ru1.same sm2
      have hl := told_len a b i
      refine ⟨rfl, _, rfl, _, rfl, r, _, rfl, DGet.k (k := Sum.inr (way i)) ru2.at_, _, rfl, ?_⟩
      rw [val_way a b i2]
      cases er : rul a b i with
      | none => exact if_neg' rfl ⟨sm2, by rw [told_succ, er]; show G3 Dl = some (.lst ((told a b i ++ []).map V.str)); rw [List.append_nil]; exact hD2⟩
      | some z =>
        obtain ⟨w', q⟩ := z
        obtain ⟨dq, hq⟩ := ru2.at_way er
        refine if_pos' rfl ⟨_, rfl, _, rfl, _, rfl, r, _, rfl, ?_, q, D, dq, _, _, rfl, hq, U.cl, U.nW, rf_word _, (by show 2 ≤ sizeLine; omega), fun t2 n2 => ⟨t2, rfl, ⟨_, SqT.of upd_same⟩, ?_⟩⟩
        · have z := DGet.k (k := Sum.inr (way i)) ru2.at_
          rw [val_way a b i2, er] at z
          exact z
        · have s2 : Same G3 (upd G3 t2 (.tup [.str (way i), .str (rwd w')])) := same_upd n2
          have e2 : (upd G3 t2 (.tup [.str (way i), .str (rwd w')])) t2 = some (.tup [.str (way i), .str (rwd w')]) := upd_same
          generalize upd G3 t2 (.tup [.str (way i), .str (rwd w')]) = G4 at s2 e2 ⊢
          refine walk_it (walk_tup (K := K) (a := t2) (xs := [.str (way i), .str (rwd w')])) (fun j G5 => (Same G1 G5 ∧ G5 t2 = some (.tup [.str (way i), .str (rwd w')])) ∧ G5 Dl = some (.lst ((told a b i ++ ([way i, rwd w'] : List Str).take j).map V.str)))
            ⟨⟨sm2.trans s2, e2⟩, by rw [List.take_zero, List.append_nil]; exact s2 _ _ hD2⟩ (fun j G5 _ h => SqT.of h.1.2) (fun j y G5 G6 hj ⟨⟨sm5, e5⟩, hD5⟩ ⟨e, hy⟩ => ?_) (fun G5 ⟨⟨sm5, e5⟩, hD5⟩ => ?_)
          · subst e
            have hy2 : ∃ z, ([way i, rwd w'] : List Str)[j]? = some z ∧ y = .str z := by
              match j, hy with
              | 0, h => cases h; exact ⟨_, rfl, rfl⟩
              | 1, h => cases h; exact ⟨_, rfl, rfl⟩
            obtain ⟨z, hz, rfl⟩ := hy2
            have ne : t2 ≠ Dl := fun q => by rw [q, hD5] at e5; cases e5
            refine ⟨rfl, yes_go (iteT ⟨_, rfl, _, hD5, ?_, ⟨same_put sm5 nD, by rw [upd_ne ne]; exact e5⟩, ?_⟩)⟩
            · rw [List.length_map, List.length_append, List.length_take]
              have : min j [way i, rwd w'].length ≤ 2 := Nat.min_le_right _ _
              omega
            · rw [upd_same, take_succ_at hz, ← List.append_assoc]
              simp only [List.map_append]
              rfl
          · refine ⟨sm5, ?_⟩
            rw [told_succ, er]
            exact hD5
    · have s02 := s01.trans sm2
      have hD2 : G2 Dl = some (.lst ((told a b 2).map V.str)) := hD2
      have hk2 := s02 _ _ hk
      have hc2 := s02 _ _ hc
      have hp2 := sm2 _ _ (s1 _ _ hpw)
      have hl := told_len a b 2
      have sz : ∀ {α : Type} {β : Type} (f : α → β) (l : List α), (l.map f).length = l.length := fun f l => List.length_map ..
      refine ⟨_, rfl, k, C, dx, _, _, rfl, hk2, kc.cl, kc.n1, l1, _, rfl, k, C, dx, _, _, rfl, hk2, kc.cl, kc.n3, l2, c, _, rfl, .inl (SqT.of hc2), ?_, fun q1 n1 => ?_⟩
      · simp only [List.length_cons, List.length_append, List.length_map, List.length_nil]
        omega
      have s3 : Same G2 (upd G2 q1 (.lst (V.str "path" :: V.str x :: (cs.map V.str ++ [])))) := same_upd n1
      have e3 : (upd G2 q1 (.lst (V.str "path" :: V.str x :: (cs.map V.str ++ [])))) q1 = some (.lst (V.str "path" :: V.str x :: (cs.map V.str ++ []))) := upd_same
      generalize upd G2 q1 (.lst (V.str "path" :: V.str x :: (cs.map V.str ++ []))) = G3 at s3 e3 ⊢
      refine ⟨⟨_, rfl⟩, _, rfl, pw, _, rfl, .inr (SqL.of (s3 _ _ hp2)), _, rfl, Dl, _, rfl, .inr (SqL.of (s3 _ _ hD2)), ?_, fun q2 n2 => ?_⟩
      · simp only [List.length_append, List.length_map, List.length_nil]
        have : (if d then [("directed" : Str)] else []).length ≤ 1 := by cases d <;> simp
        omega
      · have e0 : ((if d then [("directed" : Str)] else []) : List Str).map V.str ++ ((told a b 2).map V.str ++ []) = (((if d then [("directed" : Str)] else []) : List Str) ++ told a b 2).map V.str := by rw [List.append_nil, List.map_append]
        have et2 : told a b 2 = wayT "row" a ++ wayT "side" b := by
          rw [told_succ, told_succ]
          rfl
        have s4 : Same G3 (upd G3 q2 (.lst (((if d then [("directed" : Str)] else []) : List Str).map V.str ++ ((told a b 2).map V.str ++ [])))) := same_upd n2
        have e4 : (upd G3 q2 (.lst (((if d then [("directed" : Str)] else []) : List Str).map V.str ++ ((told a b 2).map V.str ++ [])))) q2 = some (.lst ((((if d then [("directed" : Str)] else []) : List Str) ++ told a b 2).map V.str)) := by rw [upd_same, e0]
        generalize upd G3 q2 (.lst (((if d then [("directed" : Str)] else []) : List Str).map V.str ++ ((told a b 2).map V.str ++ []))) = G4 at s4 e4 ⊢
        have one : (Str.ofString " ").length = 1 := by decide +kernel
        have short : ∀ y ∈ (((if d then [("directed" : Str)] else []) : List Str) ++ told a b 2), y.length ≤ 9 := fun y hy => by
          have hw : ∀ w : Bool, (rwd w).length ≤ 9 := by decide +kernel
          rw [et2] at hy
          rcases List.mem_append.mp hy with h | h
          · cases d with
            | true => rw [List.mem_singleton.mp h]; decide +kernel
            | false => cases h
          · rcases List.mem_append.mp h with h | h
            · unfold wayT at h
              split at h
              · rcases List.mem_cons.mp h with h | h
                · rw [h]; decide +kernel
                · rw [List.mem_singleton.mp h]; exact hw _
              · cases h
            · unfold wayT at h
              split at h
              · rcases List.mem_cons.mp h with h | h
                · rw [h]; decide +kernel
                · rw [List.mem_singleton.mp h]; exact hw _
              · cases h
        have ln : (((if d then [("directed" : Str)] else []) : List Str) ++ told a b 2).length ≤ 5 := by
          rw [List.length_append]
          have : (if d then [("directed" : Str)] else []).length ≤ 1 := by cases d <;> simp
          omega
        generalize hz : (((if d then [("directed" : Str)] else []) : List Str) ++ told a b 2) = zs at e4 short ln
        have sm := sum_le short
        have pt : Txt.join " " zs = Txt.join " " ((if d then [("directed" : Str)] else []) ++ (wayT "row" a ++ wayT "side" b)) := by rw [← hz, et2]
        refine ⟨" ", q2, zs, rfl, rfl, .inl (SqL.of e4), by rw [one]; omega, ?_⟩
        refine ⟨q1, "path" :: x :: cs, Txt.join " " zs, rfl, SqL.of ?_, by simp only [List.length_cons]; omega, ?_, ?_, fun H' s' => ?_⟩
        · rw [s4 _ _ e3, List.append_nil]
          all_goals rfl
        · have sm2 := sum_le c12
          unfold size
          rw [List.map_cons, List.map_cons, List.sum_cons, List.sum_cons, show (Str.ofString "path").length = 4 by decide +kernel]
          omega
        · have := join_le (a := " ") zs
          rw [one] at this
          omega
        · have z := fin H' (s02.trans (s3.trans (s4.trans s')))
          unfold pathT at z
          rw [← pt] at z
          exact z
end
end R4
end

-- SupX3
section
set_option Elab.async false
set_option linter.all false
set_option maxRecDepth 100000
set_option maxHeartbeats 2000000
/-! defs def f(self, name, *v, k = d): what they promise for positional arguments and keywords; making instances by them. -/
namespace SupX
open PySem PySem.Spec PyProof.Rows L2 StX
abbrev SpA := List V → List (Str × V) → Hp → VK → XK → Prop
/-- a def's promise, called with positional arguments and keywords -/
def FnA (P : Program) (w : World) (K : PySem.W.Frag) (mg : Str → Option Value) (base : Heap) (CX : CXT) (k : Nat) (f : Addr) (sp : SpA) : Prop :=
  ∀ (A : Around) (outer : List Env) (s : Shared) (H : Hp) (us : List Value) (vs : List V) (ks : List Str) (ws : List Value) (zs : List V) (Q : VK) (E : XK), Room k A → Env0 P w K mg base A outer s H → Vals vs us → Vals zs ws → zs.length = ks.length → sp vs (ks.zip zs) H Q E →
    codeAny (model P w) A (.call (.ref f) ⟨us, ks.zip ws⟩) (CR CX outer P w H s Q E) s
section
variable {P : Program} {w : World} {K : PySem.W.Frag} {mg : Str → Option Value} {base : Heap} {CX : CXT} {j k : Nat} {f : Addr} {sp sp' : SpA}
theorem FnA.mono (F : FnA P w K mg base CX j f sp) (h : j ≤ k) : FnA P w K mg base CX k f sp := fun A outer s H us vs ks ws zs Q E hr => F A outer s H us vs ks ws zs Q E (hr.mono h)
theorem FnA.imp (F : FnA P w K mg base CX k f sp) (h : ∀ vs kv H Q E, sp' vs kv H Q E → sp vs kv H Q E) : FnA P w K mg base CX k f sp' := fun A outer s H us vs ks ws zs Q E hr e0 r rz l hs => F A outer s H us vs ks ws zs Q E hr e0 r rz l (h _ _ _ _ _ hs)
theorem FnA.pos (F : FnA P w K mg base CX k f sp) : FnR P w K mg base CX k f (fun vs H Q E => sp vs [] H Q E) := fun A outer s H us vs Q E hr e0 r hs => F A outer s H us vs [] [] [] Q E hr e0 r .nil rfl hs
end
/-- how the arguments come in: the written ones, the keyword-only ones by gV, what is left over -/
def BindA (K : PySem.W.Frag) (fd : FuncData) (p1 p2 : Str) (kn : List Str) (pv : Str) (okK : List (Str × V) → Prop) (gV : List (Str × V) → List V) : Prop :=
  ∀ (ks : List Str) (ws : List Value) (zs : List V), Vals zs ws → zs.length = ks.length → okK (ks.zip zs) → ∃ cs : List Value, Vals (gV (ks.zip zs)) cs ∧ (gV (ks.zip zs)).length = kn.length ∧
    ∀ (M : Model) (A : Around) (s : Shared) (a b : Value) (rest : List Value) (Q : List (Str × Value) → Shared → Prop) (E : Value → Shared → Prop), K.In s.heap →
      wpAny M A (newTuple rest >>= fun t => pure ((p1 :: p2 :: kn ++ [pv]).zip (a :: b :: cs ++ [t]))) Q E s → wpAny M A (bindArgs fd ⟨a :: b :: rest, ks.zip ws⟩) Q E s
section
variable {CX : CXT} {P : Program} {w : World} {K : PySem.W.Frag} {mg : Str → Option Value} {base : Heap} {k : Nat} {f cda cc D : Addr} {name qual : Str} {params : Arguments} {body : List Stmt} {scope : Scope} {dV kV doc pm ct oc : Value} {an od : Option Addr} {cl : Value} {cld : Option Addr} {csl : Array (Option Value)}
  {osl : Array (Option Value)} {N kn : List Str} {p1 p2 pv : Str} {sp : Sp} {okK : List (Str × V) → Prop} {gV : List (Str × V) → List V}
theorem fnA_S (lk : K.lookup f = some ⟨oc, od, .func (PySem.W.ksFn name qual params body scope dV kV doc pm an (.ref cda) ct cc), osl⟩) (hcd : PySem.W.codeIn K (.ref cda) qual = true) (S : SScope N (p1 :: p2 :: kn ++ [pv]) scope) (hcc : K.lookup cc = some ⟨cl, cld, .cell (some (.ref D)), csl⟩) (hCX : CXUp CX)
    (hb : BindA K (PySem.W.ksFn name qual params body scope dV kV doc pm an (.ref cda) ct cc) p1 p2 kn pv okK gV)
    (hbody : ∀ (A : Around) (outer : List Env) (s : Shared) (H : Hp) (vs : List V) (Q : VK) (E : XK), Room k (A.deeper (envS qual scope s.heap.objs.size f cda cc)) → sp vs H Q E →
      ∃ t, PSsA (cxS CX P w K mg base N qual scope f cda cc A outer s H E) (.func body (envS qual scope s.heap.objs.size f cda cc)) body t ∧ t { nx := fun _ H' => Q .non H', rt := Q } (L2.start N vs) H) :
    FnA P w K mg base CX (k + 1) f (fun vs kv H Q E => ∃ a b rest, vs = a :: b :: rest ∧ okK kv ∧ rest.length ≤ sizeLine ∧ ∀ p, H p = Option.none → sp (a :: b :: gV kv ++ [V.ref p]) (upd H p (.tup rest)) Q E) := by
  intro A outer s H us vs ks ws zs Q E hr e0 r rz lz hsp
  obtain ⟨a, b, rest, ev, ok, hz, hq⟩ := hsp
  subst ev
  cases r with
  | cons ra r =>
  cases r with
  | @cons _ ub _ u2 rb r2 =>
  rename_i ua
  obtain ⟨cs, rc, lc, hbind⟩ := hb ks ws zs rz lz ok
  have KX : K.In s.heap := e0.mod.kin.keeps fun b o e => (e0.bs b o e).1
  have hn : H s.heap.objs.size = Option.none := e0.hok.fresh (Nat.le_refl _)
  have hl2 : u2.length ≤ sizeLine := by rw [← r2.length]; exact hz
  refine run_bndS lk hcd S hcc hr e0 (G := fun xs H2 => ∃ p, H p = Option.none ∧ xs = a :: b :: gV (ks.zip zs) ++ [V.ref p] ∧ H2 = upd H p (.tup rest)) (fun A' Ex Q' h => ?_) fun s2 H2 xs ⟨p, hp, ex, eH⟩ hr' => ?_
  · refine hbind _ _ _ _ _ _ _ _ KX ?_
    refine wpAny_bind (wpAny_newTuple (wpAny_pure ?_) hl2)
    have new : ObjOk P w (upd H s.heap.objs.size (.tup rest)) (s.heap.push ({ cls := .type "tuple", data := .seq u2.toArray } : Obj)) s.heap.objs.size (.tup rest) := ⟨hz, u2, r2, ⟨_, Heap.get?_push_size _ rfl, rfl, _, rfl⟩⟩
    have un := un_laid (fs := frs outer) (s := s) (o := ({ cls := .type "tuple", data := .seq u2.toArray } : Obj)) (u := .tup rest) hn
    exact h _ _ (a :: b :: gV (ks.zip zs) ++ [V.ref s.heap.objs.size]) (ua :: ub :: cs ++ [Value.ref s.heap.objs.size]) (env0_laid e0 new) un rfl (fun e s' => hCX outer s H _ _ E e s' un (fun b o q => Heap.get?_push_of_some _ q) rfl) (.cons ra (.cons rb (rc.append (.cons rfl .nil))))
      (by simp only [List.length_append, List.length_cons, List.length_nil, lc]) ⟨_, hn, rfl, rfl⟩
  · subst ex eH
    exact hbody A outer s2 _ _ Q E hr' (hq p hp)
end
/-! ### making by such an __init__ -/
def tMakeA (C : Addr) (ks : List Str) (sp : SpA) (E : XK) (t tk : TA) : TE := fun σ H Q => t σ H fun vs H1 => tk σ H1 fun zs H2 => zs.length = ks.length ∧ ∀ x dx, H2 x = none → H2 dx = none → dx ≠ x →
  sp (.ref x :: vs) (ks.zip zs) (upd (upd H2 dx (.own x)) x (.ins C dx [])) (fun v H3 => v = .non ∧ Q (.ref x) H3) E
section
variable {X : Cx} {CX : CXT} {k : Nat} {f C : Addr} {ks : List Str} {sp : SpA} {E : XK} {x : Str} {p pos : Pos} {e : Expr} {es : List Expr} {kws : List Keyword} {t tk : TA}
theorem run_makeA {pins : List (Addr × Obj)} {σ : L2.St} {H : Hp} {s : Shared} {Q : VK} {us ws : List Value} {vs zs : List V} (M : Mk X.K C f) (F : FnA X.prog X.w X.K X.mg X.base CX k f sp) (hr : Room (k + 1) X.A) (hx : Passes CX X E)
    (I : Inv X pins σ H s) (r : Vals vs us) (rz : Vals zs ws) (l2 : zs.length = ks.length)
    (h : ∀ x dx, H x = none → H dx = none → dx ≠ x → sp (.ref x :: vs) (ks.zip zs) (upd (upd H dx (.own x)) x (.ins C dx [])) (fun v H2 => v = .non ∧ Q (.ref x) H2) E) :
    wpAny (model X.prog X.w) X.A (call (.ref C) us (ks.zip ws)) (EP X pins σ Q) X.xe s := by
  have hq := h (s.heap.objs.size + 1) s.heap.objs.size (I.hok.fresh (Nat.le_succ _)) (I.hok.fresh (Nat.le_refl _)) (Nat.ne_of_lt (Nat.lt_succ_self _))
  have I2 := Inv.made (C := C) I
  refine wpAny_call (make_map (f := f) I.kIn M.makes M.init (beq_iff_eq.mp M.fn) (codeAny_mono (F _ X.stack _ _ (Value.ref (s.heap.objs.size + 1) :: us) (V.ref (s.heap.objs.size + 1) :: vs) ks ws zs _ E (hr.make C us (ks.zip ws)) (I2.env0.make C us (ks.zip ws)) (.cons rfl r) rz l2 hq) fun r s' hq' => ?_))
  cases r with
  | error e => exact hx pins σ _ _ e s' I2 hq'
  | ok fl =>
    cases fl with
    | ret u =>
      obtain ⟨v, H', I3, rv, ev, q3⟩ := I2.after hq'
      subst ev
      exact ⟨rv, ⟨V.ref (s.heap.objs.size + 1), H', I3, rfl, q3⟩⟩
    | next => exact False.elim hq'
    | brk => exact False.elim hq'
    | cont => exact False.elim hq'
/-- C(e, ..) -/
theorem pe_makeA0 (M : Mk X.K C f) (F : FnA X.prog X.w X.K X.mg X.base CX k f sp) (hr : Room (k + 1) X.A) (hg : Gl X x) (hm : X.mg x = some (.ref C)) (hx : Passes CX X E) (ha : PA X (e :: es) t)
    (hdb : (x == ("__debug__" : Str)) = false := by decide) (he : starEach (e :: es) X.env = (false, eval e X.env) :: starEach es X.env := by rfl) (hpl : (backTo pos (starEach es X.env)).any (·.1) = false := by rfl) :
    PE X (.Call (.Name x p) (e :: es) [] pos) (tMakeA C [] sp E t tNil) := by
  refine ⟨fun pins s σ H Q I h => ?_⟩
  refine wpAny_Call_Name_kw (ld_glob I hg hm ?_ hdb)
  refine PySem.W.callWith_K (h₀ := X.base) I.ok.mod.kin M.kp (thn (ha.run pos pins s σ H _ I h) fun us s1 ⟨vs, H1, I1, r, q⟩ => ⟨I1.kIn, ?_⟩) he hpl
  exact run_makeA (ks := []) (ws := []) M F hr hx I1 r .nil q.1 q.2
/-- C(e, .., k = v, ..) -/
theorem pe_makeA (M : Mk X.K C f) (F : FnA X.prog X.w X.K X.mg X.base CX k f sp) (hr : Room (k + 1) X.A) (hg : Gl X x) (hm : X.mg x = some (.ref C)) (hx : Passes CX X E) (ha : PA X (e :: es) t) (hkw : PK X kws tk)
    (hall : (backToKw pos (keywordEach kws X.env)).all (·.1.isSome) = true := by rfl) (hks : (backToKw pos (keywordEach kws X.env)).filterMap (·.1) = ks := by rfl) (hdb : (x == ("__debug__" : Str)) = false := by decide)
    (he : starEach (e :: es) X.env = (false, eval e X.env) :: starEach es X.env := by rfl) (hpl : ((backTo pos (starEach (e :: es) X.env)).any (·.1) || (backToKw pos (keywordEach kws X.env)).any (·.1.isNone)) = false := by rfl) :
    PE X (.Call (.Name x p) (e :: es) kws pos) (tMakeA C ks sp E t tk) := by
  refine ⟨fun pins s σ H Q I h => ?_⟩
  refine wpAny_Call_Name_kw (ld_glob I hg hm ?_ hdb)
  refine PySem.W.callWith_KW (h₀ := X.base) I.ok.mod.kin M.kp hall (thn (ha.run pos pins s σ H _ I h) fun us s1 ⟨vs, H1, I1, r, q⟩ => ?_) hpl he
  refine thn (hkw.run pos pins s1 σ H1 _ I1 q) fun ws s2 ⟨zs, H2, I2, rz, l2, q2⟩ => ⟨I2.kIn, ?_⟩
  rw [hks]
  exact run_makeA M F hr hx I2 r rz l2 q2
end
end SupX
end

-- K4g
section
set_option Elab.async false
set_option linter.all false
set_option maxRecDepth 100000
set_option exponentiation.threshold 10000
namespace R4
open PySem L2 OwnOps OwnNe G1 StX SupX
/-- a def of a class that says super() -/
structure SDef (K : PySem.W.Frag) (P : Program) (qual : Str) (st : Stmt) (kw : List (Str × V)) (f D : Addr) : Prop where
  ex : ∃ (oc : Value) (od : Option Addr) (kV doc pm : Value) (an : Option Addr) (cda : Addr) (ct : Value) (cc : Addr) (osl : Array (Option Value)),
    K.lookup f = some ⟨oc, od, .func (PySem.W.ksFn "__init__" qual (defArgs st) (defBody st) (defScope st) .none kV doc pm an (.ref cda) ct cc), osl⟩ ∧ PySem.W.codeIn K (.ref cda) qual = true ∧ KwdV K kV kw ∧
      (∃ cl od vs sl file tf, K.lookup cda = some ⟨cl, od, .fields vs, sl⟩ ∧ vs[2]? = some (.str file tf) ∧ ((P.main.file : Str) == file) = true) ∧ ∃ cl cld csl, K.lookup cc = some ⟨cl, cld, .cell (some (.ref D)), csl⟩
  cls : (PySem.W.clsIn K D).isSome = true
structure SupG (K : PySem.W.Frag) (P : Program) : Prop where
  sup : PySem.W.nsIn K mainGlobals "super" = some none
  any : PySem.W.nsIn K cStatics "thirdparty.any" = some none
  top : (P.main.scope.names.lookup ("super" : Str)).isSome = false
/-- a tuple of tuples of ints -/
def TT (H : Hp) (a : Addr) (os : List (List Int)) : Prop := ∃ as : List Addr, H a = some (.tup (as.map V.ref)) ∧ as.length = os.length ∧ ∀ (i : Nat) (q : Addr), as[i]? = some q → ∃ o : List Int, os[i]? = some o ∧ H q = some (.tup (o.map V.int))
theorem TT.same {H H' : Hp} {a : Addr} {os : List (List Int)} (h : TT H a os) (s : Same H H') : TT H' a os := by
  obtain ⟨as, h1, h2, h3⟩ := h
  exact ⟨as, s _ _ h1, h2, fun i q hq => let ⟨o, a, b⟩ := h3 i q hq; ⟨o, a, s _ _ b⟩⟩
theorem TT.sameX {p : Addr} {H H' : Hp} {a : Addr} {os : List (List Int)} {o : HO} (h : TT H a os) (s : SameX p H H') (hp : H p = some o) (no : ∀ xs, o ≠ .tup xs) : TT H' a os := by
  obtain ⟨as, h1, h2, h3⟩ := h
  have ne : ∀ {q : Addr} {xs}, H q = some (.tup xs) → q ≠ p := fun {q xs} h z => by rw [z, hp] at h; exact no _ (Option.some.inj h)
  exact ⟨as, s _ _ (ne h1) h1, h2, fun i q hq => let ⟨o, a, b⟩ := h3 i q hq; ⟨o, a, s _ _ (ne b) b⟩⟩
/-- the orders of a path's pins -/
def upto (n : Nat) : List Int := (List.range n).map Int.ofNat
def pathO (d : Bool) (n : Nat) : List (List Int) := upto n :: if d then [] else [1 :: 0 :: (upto n).drop 2]
/-- a path kind's instance, behind its __init__ -/
structure PathI (H : Hp) (p C dx : Addr) (x : Str) (cs : List Str) (d : Bool) (r : List (Str × V)) (line : Str) : Prop where
  ex : ∃ pa ca oa, H p = some (.ins C dx (kf (.str x) (.ref pa) (.ref ca) (.bl true) (.ref oa) (.str line) ++ r)) ∧ H pa = some (.tup ((("a" : Str) :: "b" :: cs).map V.str)) ∧ H ca = some (.tup (cs.map V.str)) ∧ TT H oa (pathO d (cs.length + 2))
theorem rg_upto (n : Nat) : rgV 0 (n : Int) = (upto n).map V.int := by
  unfold rgV upto
  rw [List.map_map, show ((n : Int) - 0).toNat = n by omega]
  refine List.map_congr_left fun i _ => ?_
  show V.int (0 + (i : Int)) = V.int (Int.ofNat i)
  rw [Int.zero_add]
  rfl
theorem upto_len (n : Nat) : (upto n).length = n := by
  unfold upto
  rw [List.length_map, List.length_range]
theorem cut2 {n : Nat} (h : 2 ≤ n) : ¬ (HT.sIx ((upto n).map V.int).length 0 (some 2) = 0 ∧ HT.sIx ((upto n).map V.int).length ((upto n).map V.int).length none = ((upto n).map V.int).length) ∧ cutV ((upto n).map V.int) (some 2) none = (((upto n).drop 2).map V.int) := by
  have l : ((upto n).map V.int).length = n := by rw [List.length_map, upto_len]
  rw [l]
  have e : HT.sIx n 0 (some 2) = 2 := by
    rw [show (some 2 : Option Int) = some ((2 : Nat) : Int) from rfl, HT.sIx_nat]
    omega
  refine ⟨fun z => by rw [e] at z; omega, ?_⟩
  unfold cutV
  rw [l, e, HT.sIx_none, List.map_drop, List.take_of_length_le]
  rw [List.length_drop, l]
  all_goals exact Nat.le_refl _
/-- the orders of a path's pins are laid -/
theorem orders_ok {K : PySem.W.Frag} {σ : L2.St} {G : Hp} {Q : VK} {al : Addr} {d : Bool} {n : Nat} (h3 : σ[3]? = some (some (.ref al))) (hal : G al = some (.tup ((upto n).map V.int))) (n2 : 2 ≤ n) (n8 : n ≤ 100)
    (hq : ∀ oa G', Same G G' → TT G' oa (pathO d n) → Q (.ref oa) G') :
    if d = true then tTup (tCons (tVar 3) tNil) σ G Q else tTup (tCons (tVar 3) (tCons (tOp (rCatA K) (tTup (tCons (tC (.int 1)) (tCons (tC (.int 0)) tNil))) (tSl (rSlA K) (tVar 3) (tPart (tC (.int 2))) tNoPart)) tNil)) σ G Q := by
  have line : 1000 ≤ sizeLine := by decide
  cases d with
  | true =>
    refine iteT ⟨_, h3, by show 1 ≤ sizeLine; omega, fun q nq => hq q _ (same_upd nq) ⟨[al], upd_same, rfl, fun i a ha => ?_⟩⟩
    match i, ha with
    | 0, ha => cases ha; exact ⟨_, rfl, same_upd nq _ _ hal⟩
  | false =>
    refine iteF ⟨_, h3, by show 2 ≤ sizeLine; omega, fun q1 n1 => ⟨_, h3, _, rfl, al, _, rfl, SqT.of (same_upd n1 _ _ hal), fun z => absurd z (cut2 n2).1, fun _ q2 nq2 => ?_⟩⟩
    rw [(cut2 n2).2]
    have e1 : (upd (upd G q1 (.tup [.int 1, .int 0])) q2 (.tup (((upto n).drop 2).map V.int))) q1 = some (.tup [.int 1, .int 0]) := same_upd nq2 _ _ upd_same
    have e2 : (upd (upd G q1 (.tup [.int 1, .int 0])) q2 (.tup (((upto n).drop 2).map V.int))) q2 = some (.tup (((upto n).drop 2).map V.int)) := upd_same
    have s2 : Same G (upd (upd G q1 (.tup [.int 1, .int 0])) q2 (.tup (((upto n).drop 2).map V.int))) := (same_upd n1).trans (same_upd nq2)
    generalize upd (upd G q1 (.tup [.int 1, .int 0])) q2 (.tup (((upto n).drop 2).map V.int)) = G2 at e1 e2 s2 ⊢
    have fin : ∀ q G3, Same G2 G3 → G3 q = some (.tup ((1 :: 0 :: (upto n).drop 2).map V.int)) → (2 ≤ sizeLine ∧ ∀ oa, G3 oa = none → Q (.ref oa) (upd G3 oa (.tup [.ref al, .ref q]))) := fun q G3 s3 hq3 => by
      refine ⟨by omega, fun oa no => hq oa _ ((s2.trans s3).trans (same_upd no)) ⟨[al, q], upd_same, rfl, fun i a ha => ?_⟩⟩
      match i, ha with
      | 0, ha => cases ha; exact ⟨_, rfl, same_upd no _ _ (s3 _ _ (s2 _ _ hal))⟩
      | 1, ha => cases ha; exact ⟨_, rfl, same_upd no _ _ hq3⟩
    refine ⟨q1, q2, _, _, rfl, rfl, SqT.of e1, SqT.of e2, ?_, fun z => absurd z (by simp), fun _ z => ?_, fun _ _ q3 n3 => ?_⟩
    · rw [List.length_map, List.length_drop, upto_len]
      show 2 + (n - 2) ≤ sizeLine
      omega
    · refine fin q1 G2 (Same.refl _) ?_
      rw [e1]
      have : (upto n).drop 2 = [] := by
        cases h : (upto n).drop 2 with
        | nil => rfl
        | cons a b => rw [h] at z; cases z
      rw [this]
      rfl
    · exact fin q3 _ (same_upd n3) upd_same
abbrev NPI : List Str := ["self", "name", "controls", "along"]
section
variable {P : Program} {w : World} {K : PySem.W.Frag} {mg : Str → Option Value} {base : Heap} {D CK fCK CN DP fP : Addr}
/-- what an __init__ of a path promises, its arguments given -/
def spPathB (K : PySem.W.Frag) (CN CK : Addr) (SO : Addr → Prop) : Sp := fun vs H Q E => ∃ (p dx C ca : Addr) (v : V) (rest : List V) (d : Bool) (u : Value), vs = [.ref p, v, .ref ca] ∧ H p = some (.ins C dx []) ∧ H ca = some (.tup rest) ∧ KCls K C ∧ SO C ∧ Con K C "DIRECTED" (.bl d) u ∧
  Av H v ∧ Shr v ∧ rest.length ≤ 6 ∧ (∀ y ∈ rest, Av H y ∧ Shr y) ∧
  ((wdV v = false ∧ ∀ e H', SameX p H H' → H' e = some (xd v) → E (.ref CN) (some e) H') ∨
   (wdV v = true ∧ (decide (3 < rest.length) || !difV (.str "a" :: .str "b" :: rest)) = true ∧ ∀ e H', SameX p H H' → H' e = some (xd (.ref ca)) → E (.ref CK) (some e) H') ∨
   (∃ x cs, v = .str x ∧ rest = cs.map V.str ∧ wd x = true ∧ (decide (3 < rest.length) || !difV (.str "a" :: .str "b" :: rest)) = false ∧ (∀ y ∈ cs, y.length ≤ 12) ∧ ∀ H', SameX p H H' → PathI H' p C dx x cs d [] (pathT d x cs none none) → Q .non H'))
theorem bind_path {kV doc pm ct : Value} {an : Option Addr} {cda cc : Addr} : BindA K (PySem.W.ksFn "__init__" "PathKind.__init__" (defArgs (sPath 0)) (defBody (sPath 0)) (defScope (sPath 0)) .none kV doc pm an (.ref cda) ct cc) "self" "name" [] "controls" (fun kv => kv = []) (fun _ => []) := by
  intro ks ws zs rz lz ok
  have e : zs = [] := by
    cases zs with
    | nil => rfl
    | cons z zs => cases ks with
      | nil => cases lz
      | cons k ks => cases ok
  subst e
  cases rz
  refine ⟨[], .nil, rfl, fun M A s a b rest Q E KI h => ?_⟩
  rw [show ks.zip ([] : List Value) = [] from by cases ks <;> rfl]
  cases rest with
  | nil => exact h
  | cons r rs => exact h
theorem ok_path {f : Addr} (F : SDef K P "PathKind.__init__" (sPath 0) [] f DP) (G : SupG K P) (T : Bi mg) (N : Nums mg) (U : RTxt K mg D CK fCK) {g : Addr} (GK : FnR P w K mg base (L2.CX P w) 3 g (spKI K CN)) (tg : PySem.W.typeIn K (.ref g) = some (.type "function")) (fg : PySem.W.fnIn K g = true)
    (GD : Glb P w K mg base "are_different_words" 2 ["values"] (spDiff K)) (GL : Glb P w K mg base "_path_line" 2 ["kind", "rules"] (spPL K D)) :
    FnA P w K mg base (L2.CX P w) 5 f (fun vs kv H Q E => ∃ a b rest, vs = a :: b :: rest ∧ kv = [] ∧ rest.length ≤ sizeLine ∧ ∀ p, H p = none → spPathB K CN CK (fun C => SupAt K C DP "__init__" g) (a :: b :: [] ++ [V.ref p]) (upd H p (.tup rest)) Q E) := by
  obtain ⟨_, _, mD, kD, GD, bD⟩ := GD.ex
  obtain ⟨_, _, mL, kL, GL, bL⟩ := GL.ex
  obtain ⟨t3, n3⟩ := N.ctrl
  obtain ⟨oc, od, kV, doc, pm, an, cda, ct, cc, osl, lk, hcd, _, hcode, cl, cld, csl, hcc⟩ := F.ex
  have sc : SScope NPI ["self", "name", "controls"] (defScope (sPath 0)) := ⟨rfl, rfl, rfl, by decide +kernel, rfl, by decide +kernel, by decide +kernel, by decide +kernel, by decide +kernel, by decide +kernel⟩
  have hN := sc.nd
  have SD : SupDef K P f cda cc DP g "self" := ⟨⟨_, _, _, _, _, lk, rfl, rfl⟩, hcode, ⟨cl, cld, csl, hcc⟩, F.cls, G.sup, G.any, tg, fg, G.top⟩
  refine fnA_S (CX := L2.CX P w) (k := 4) (N := NPI) (kn := []) lk hcd sc hcc cxUp bind_path (fun A outer s H vs Q E hr h => ?_)
  obtain ⟨p, dx, C, ca, v, rest, d, u, rfl, hp, hca, kc, so, con, av, sh, n6, its, k⟩ := h
  refine ⟨_, psA_sup (qual := "PathKind.__init__") (E := E) (sp := spKI K CN) rfl sc rfl (by decide +kernel) SD (by decide) GK (hr.mono (by decide)) (passes_call (takes_of rfl rfl rfl rfl) (fun _ _ _ _ h => h)) (pa_cons (pv 1) pa_nil) (argsPlain rfl (fun _ => rfl))
    (pss_cons (ps_if (PW.pt (pw_or (pt_cmpR op_gt (pe_callB call_len_seq (by rfl) T.len PySem.boot_len (pa_cons (pv 2) pa_nil)) (pe_glob (v := .int 3) (by rfl) n3 ⟨_, rfl⟩) (nomark _))
        (pw_or1 (pt_not (pt_val (pe_call GD (hr.mono (by decide)) (by rfl) mD kD bD .nil passL (pa_cons (pe_tup (pa_cons pe_str (pa_cons pe_str (pa_star (pv 2) pa_nil)))) pa_nil)))))))
      (pss_one (ps_raiseGiv rfl PySem.Giv.ok_VE U.eK hr (takes_of rfl rfl rfl rfl) (pa_cons (pv 2) pa_nil) (by rfl))) pss_nil)
    (pss_cons (ps_fld (pv 0) (pe_tup (pa_cons pe_str (pa_cons pe_str (pa_star (pv 2) pa_nil)))) rfl)
    (pss_cons (ps_fld (pv 0) (pv 2) rfl)
    (pss_cons (ps_fld (pv 0) pe_bl rfl)
    (pss_cons (ps_set (i := 3) hN rfl (Or.inl rfl) (pe_tupRg rfl (by rfl) T.tuple (prg_1 (by rfl) T.range (pe_callB call_len_seq (by rfl) T.len PySem.boot_len (pa_cons (pe_fld (pv 0) rfl) pa_nil)))))
    (pss_cons (ps_fld (pv 0) (pe_ifExp (pt_val (pe_con (pv 0) rfl)) (pe_tup (pa_cons (pv 3) pa_nil)) (pe_tup (pa_cons (pv 3) (pa_cons (pe_op op_catA (pe_tup (pa_cons pe_int (pa_cons pe_int pa_nil))) (pe_slice sl_tupA (pv 3) (po_some pe_int) po_none)) pa_nil)))) rfl)
    (pss_one (ps_fld (pv 0) (pe_call GL (hr.mono (by decide)) (by rfl) mL kL bL .nil passL (pa_cons (pv 0) (pa_cons pe_dnewK pa_nil))) rfl)))))))) (by rfl), ?_⟩
  refine ⟨p, C, dx, [], rfl, hp, so, _, rfl, ?_⟩
  have nca : ca ≠ p := fun z => by rw [z, hp] at hca; cases hca
  -- the name is none
  by_cases hv : wdV v = true
  case neg =>
    rcases k with ⟨b, k⟩ | ⟨b, _⟩ | ⟨x, cs, e1, e2, b, _⟩
    · exact ⟨p, dx, C, v, rfl, hp, kc, av, sh, .inl ⟨b, fun e H' sm he => k e H' sm he⟩⟩
    · exact absurd b hv
    · rw [e1] at hv; exact absurd b hv
  obtain ⟨x, rfl, wx⟩ : ∃ x, v = .str x ∧ wd x = true := by
    cases v with
    | str x => exact ⟨x, rfl, hv⟩
    | _ => exact absurd hv (by simp [wdV])
  refine ⟨p, dx, C, .str x, rfl, hp, kc, av, sh, .inr ⟨x, rfl, wx, fun H1 a1 c0 a3 sm hp1 hc0 => ?_⟩⟩
  have hca1 : H1 ca = some (.tup rest) := sm _ _ nca hca
  have line : 1000 ≤ sizeLine := by decide
  have m1 : Mkg p C dx H H1 (kf (.str x) (.ref a1) (.ref c0) (.bl false) (.ref a3) (.str (kindT x))) := ⟨sm, hp1⟩
  have its1 : ∀ G, Same H1 G → ∀ y ∈ (V.str "a" :: V.str "b" :: rest), Av G y ∧ Shr y := fun G s y hy => by
    rcases List.mem_cons.mp hy with rfl | hy
    · exact ⟨.str _, (by decide +kernel : (Str.ofString "a").length ≤ 1000)⟩
    · rcases List.mem_cons.mp hy with rfl | hy
      · exact ⟨.str _, (by decide +kernel : (Str.ofString "b").length ≤ 1000)⟩
      · obtain ⟨h1, h2⟩ := its y hy
        refine ⟨Av.same ?_ s, h2⟩
        cases h1 with
        | str => exact .str _
        | non => exact .non
        | int => exact .int _
        | bl => exact .bl _
        | lst e => exact .lst (sm _ _ (fun z => by rw [z, hp] at e; cases e) e)
        | tup e => exact .tup (sm _ _ (fun z => by rw [z, hp] at e; cases e) e)
  -- are the controls different words?
  have bad : ∀ G, Same H1 G → (decide (3 < rest.length) || !difV (.str "a" :: .str "b" :: rest)) = true → ∀ e H', Same G H' → H' e = some (xd (.ref ca)) → E (.ref CK) (some e) H' := fun G s b e H' s' he => by
    rcases k with ⟨b', _⟩ | ⟨_, _, k⟩ | ⟨_, _, _, _, _, b', _⟩
    · rw [hv] at b'; cases b'
    · exact k e H' (fun c u n q => s' _ _ (s _ _ (sm c u n q))) he
    · rw [b] at b'; cases b'
  refine ⟨_, rfl, ca, _, rfl, .inr (SqT.of hca1), _, _, rfl, rfl, _, rfl, ?_⟩
  by_cases h3 : (3 : Int) < (rest.length : Int)
  · refine if_pos' (decide_eq_true h3) (if_pos' rfl ⟨_, rfl, _, rfl, fun e ne => ?_⟩)
    exact bad H1 (Same.refl _) (by rw [decide_eq_true (show 3 < rest.length by omega)]; rfl) e _ (same_upd ne) upd_same
  refine if_neg' (decide_eq_false h3) ⟨_, rfl, ca, _, rfl, .inl (SqT.of hca1), ?_, fun t1 nt1 => ?_⟩
  · show (V.str "a" :: V.str "b" :: (rest ++ [])).length ≤ sizeLine
    simp only [List.length_cons, List.length_append, List.length_nil]
    omega
  rw [List.append_nil]
  have s2 : Same H1 (upd H1 t1 (.tup (V.str "a" :: V.str "b" :: rest))) := same_upd nt1
  have e2 : (upd H1 t1 (.tup (V.str "a" :: V.str "b" :: rest))) t1 = some (.tup (V.str "a" :: V.str "b" :: rest)) := upd_same
  generalize upd H1 t1 (.tup (V.str "a" :: V.str "b" :: rest)) = G1 at s2 e2 ⊢
  refine ⟨t1, _, rfl, .inr (SqT.of e2), by simp only [List.length_cons]; omega, its1 G1 s2, fun G2 s3 => ⟨_, rfl, ?_⟩⟩
  cases hd : difV (V.str "a" :: V.str "b" :: rest) with
  | false =>
    refine if_pos' rfl ⟨_, rfl, _, rfl, fun e ne => ?_⟩
    exact bad G2 (s2.trans s3) (by rw [hd]; simp) e _ (same_upd ne) upd_same
  | true =>
  refine if_neg' rfl ?_
  obtain ⟨x', cs, e1, er, _, good, c12, kk⟩ : ∃ x' cs, V.str x = .str x' ∧ rest = cs.map V.str ∧ wd x' = true ∧ (decide (3 < rest.length) || !difV (.str "a" :: .str "b" :: rest)) = false ∧ (∀ y ∈ cs, y.length ≤ 12) ∧ ∀ H', SameX p H H' → PathI H' p C dx x' cs d [] (pathT d x' cs none none) → Q .non H' := by
    rcases k with ⟨b', _⟩ | ⟨_, b', _⟩ | k
    · rw [hv] at b'; cases b'
    · rw [hd, decide_eq_false (show ¬ 3 < rest.length by omega)] at b'; cases b'
    · exact k
  cases e1
  clear k
  subst er
  have m2 := m1.same (s2.trans s3)
  have hca2 := s3 _ _ (s2 _ _ hca1)
  clear its1 bad
  have put_keep : ∀ {G : Hp} {t : Addr} {o : HO} {fs : List (Str × V)} (u : HO), Mkg p C dx H G fs → G t = some o → (∀ C dx fs, o ≠ .ins C dx fs) → upd G p u t = some o := fun u m h no => put_ne h m.at_ no
  -- pins
  refine ⟨_, rfl, ca, _, rfl, .inl (SqT.of hca2), ?_, fun t2 n2 => ⟨_, rfl, p, C, dx, _, rfl, (m2.new n2).at_, kc.cl, kc.n2, kf_few .., ?_⟩⟩
  · simp only [List.length_cons, List.length_append, List.length_nil, List.length_map]
    rw [List.length_map] at h3
    omega
  rw [kp_pins, List.append_nil]
  have hca3 := put_keep (.ins C dx (kf (.str x) (.ref t2) (.ref c0) (.bl false) (.ref a3) (.str (kindT x)))) (m2.new n2 (o := .tup (V.str "a" :: V.str "b" :: cs.map V.str))) (same_upd n2 _ _ hca2) (by intro _ _ _ z; cases z)
  have ht3 := put_keep (.ins C dx (kf (.str x) (.ref t2) (.ref c0) (.bl false) (.ref a3) (.str (kindT x)))) (m2.new n2 (o := .tup (V.str "a" :: V.str "b" :: cs.map V.str))) upd_same (by intro _ _ _ z; cases z)
  have m3 := (m2.new n2 (o := .tup (V.str "a" :: V.str "b" :: cs.map V.str))).put (fs' := kf (.str x) (.ref t2) (.ref c0) (.bl false) (.ref a3) (.str (kindT x)))
  generalize upd (upd G2 t2 (.tup (V.str "a" :: V.str "b" :: cs.map V.str))) p (.ins C dx (kf (.str x) (.ref t2) (.ref c0) (.bl false) (.ref a3) (.str (kindT x)))) = G3 at m3 hca3 ht3 ⊢
  -- controls, is_path
  refine ⟨_, rfl, _, rfl, p, C, dx, _, rfl, m3.at_, kc.cl, kc.n3, kf_few .., ?_⟩
  rw [kp_ctl]
  have hca4 := put_keep (.ins C dx (kf (.str x) (.ref t2) (.ref ca) (.bl false) (.ref a3) (.str (kindT x)))) m3 hca3 (by intro _ _ _ z; cases z)
  have ht4 := put_keep (.ins C dx (kf (.str x) (.ref t2) (.ref ca) (.bl false) (.ref a3) (.str (kindT x)))) m3 ht3 (by intro _ _ _ z; cases z)
  have m4 := m3.put (fs' := kf (.str x) (.ref t2) (.ref ca) (.bl false) (.ref a3) (.str (kindT x)))
  generalize upd G3 p (.ins C dx (kf (.str x) (.ref t2) (.ref ca) (.bl false) (.ref a3) (.str (kindT x)))) = G4 at m4 hca4 ht4 ⊢
  refine ⟨_, rfl, p, C, dx, _, rfl, m4.at_, kc.cl, kc.n4, kf_few .., ?_⟩
  rw [kp_isp]
  have hca5 := put_keep (.ins C dx (kf (.str x) (.ref t2) (.ref ca) (.bl true) (.ref a3) (.str (kindT x)))) m4 hca4 (by intro _ _ _ z; cases z)
  have ht5 := put_keep (.ins C dx (kf (.str x) (.ref t2) (.ref ca) (.bl true) (.ref a3) (.str (kindT x)))) m4 ht4 (by intro _ _ _ z; cases z)
  have m5 := m4.put (fs' := kf (.str x) (.ref t2) (.ref ca) (.bl true) (.ref a3) (.str (kindT x)))
  generalize upd G4 p (.ins C dx (kf (.str x) (.ref t2) (.ref ca) (.bl true) (.ref a3) (.str (kindT x)))) = G5 at m5 hca5 ht5 ⊢
  -- along
  refine ⟨_, rfl, p, C, dx, _, _, rfl, m5.at_, kc.cl, kc.n2, kp_pins' .., t2, _, rfl, .inr (SqT.of ht5), ?_⟩
  have ln : ((V.str "a" :: V.str "b" :: cs.map V.str).length : Int) = ((cs.length + 2 : Nat) : Int) := by
    simp only [List.length_cons, List.length_map]
  have n6 : cs.length ≤ 3 := by
    rw [List.length_map] at h3
    omega
  refine ⟨_, rfl, RgOk.of_le (Int.le_refl _) (by rw [ln]; omega) (by decide) (by rw [ln]; omega), fun al nal => ?_⟩
  rw [ln, rg_upto]
  have m6 := m5.new nal (o := .tup ((upto (cs.length + 2)).map V.int))
  have hca6 := same_upd nal (o := .tup ((upto (cs.length + 2)).map V.int)) _ _ hca5
  have ht6 := same_upd nal (o := .tup ((upto (cs.length + 2)).map V.int)) _ _ ht5
  have hal6 : (upd G5 al (.tup ((upto (cs.length + 2)).map V.int))) al = some (.tup ((upto (cs.length + 2)).map V.int)) := upd_same
  generalize upd G5 al (.tup ((upto (cs.length + 2)).map V.int)) = G6 at m6 hca6 ht6 hal6 ⊢
  -- orders
  refine ⟨_, rfl, p, C, dx, _, _, u, rfl, m6.at_, kc.cl, con, by kernel_rfl, _, rfl, orders_ok (n := cs.length + 2) rfl hal6 (by omega) (by omega) fun oa G7 s7 tt => ?_⟩
  have m7 := m6.same s7
  refine ⟨_, rfl, p, C, dx, _, rfl, m7.at_, kc.cl, kc.n5, kf_few .., ?_⟩
  rw [kp_ords]
  have hca8 := put_keep (.ins C dx (kf (.str x) (.ref t2) (.ref ca) (.bl true) (.ref oa) (.str (kindT x)))) m7 (s7 _ _ hca6) (by intro _ _ _ z; cases z)
  have ht8 := put_keep (.ins C dx (kf (.str x) (.ref t2) (.ref ca) (.bl true) (.ref oa) (.str (kindT x)))) m7 (s7 _ _ ht6) (by intro _ _ _ z; cases z)
  have m8 := m7.put (fs' := kf (.str x) (.ref t2) (.ref ca) (.bl true) (.ref oa) (.str (kindT x)))
  have tt8 : TT (upd G7 p (.ins C dx (kf (.str x) (.ref t2) (.ref ca) (.bl true) (.ref oa) (.str (kindT x))))) oa (pathO d (cs.length + 2)) := tt.sameX (p := p) (fun b o nb e => by rw [upd_ne nb]; exact e) m7.at_ (by intro xs z; cases z)
  generalize upd G7 p (.ins C dx (kf (.str x) (.ref t2) (.ref ca) (.bl true) (.ref oa) (.str (kindT x)))) = G8 at m8 hca8 ht8 tt8 ⊢
  -- the line
  refine ⟨_, rfl, fun r nr => ?_⟩
  have m9 := m8.new nr (o := .dK [])
  have s9 : Same G8 (upd G8 r (.dK [])) := same_upd nr
  have er : (upd G8 r (.dK [])) r = some (.dK []) := upd_same
  generalize upd G8 r (.dK []) = G9 at m9 s9 er ⊢
  have x12 : x.length ≤ 12 := by
    unfold wd at wx
    simp only [Bool.and_eq_true, decide_eq_true_eq] at wx
    exact wx.1.1.1.1.2
  refine ⟨p, r, C, dx, ca, _, x, cs, d, u, none, none, rfl, m9.at_, kc, con, by kernel_rfl, kp_name' .., kp_ctl' .., s9 _ _ hca8, ⟨er, (fun _ _ z => by cases z), (fun _ _ z => by cases z)⟩, x12, by omega, c12, fun G10 s10 => ?_⟩
  have m10 := m9.same s10
  refine ⟨_, rfl, p, C, dx, _, rfl, m10.at_, kc.cl, kc.n6, kf_few .., ?_⟩
  rw [kp_line]
  have put10 : ∀ {t : Addr} {o : HO}, G8 t = some o → (∀ C dx fs, o ≠ .ins C dx fs) → upd G10 p (.ins C dx (kf (.str x) (.ref t2) (.ref ca) (.bl true) (.ref oa) (.str (pathT d x cs none none)))) t = some o := fun h no => put_keep _ m10 (s10 _ _ (s9 _ _ h)) no
  refine kk _ (m10.put (fs' := kf (.str x) (.ref t2) (.ref ca) (.bl true) (.ref oa) (.str (pathT d x cs none none)))).sm ⟨t2, ca, oa, by rw [List.append_nil]; exact upd_same, put10 ht8 (by intro _ _ _ z; cases z), put10 hca8 (by intro _ _ _ z; cases z), ?_⟩
  exact (tt8.same (s9.trans s10)).sameX (p := p) (fun b o nb e => by rw [upd_ne nb]; exact e) m10.at_ (by intro xs z; cases z)
end
end R4
end

-- SupX4
section
set_option Elab.async false
set_option linter.all false
set_option maxRecDepth 100000
set_option maxHeartbeats 2000000
/-! super().m(e, *y) ahead in a def. -/
namespace SupX
open PySem PySem.Spec PyProof.Rows L2 StX
section
open PySem.W
variable {prog : Program} {w : World} {M : Model} {A : Around} {E : Value → Shared → Prop} {h : Heap} {g : Array GenState} {d : Drawn} {t : Nat} {os : OsState}
theorem getAttr_super {so D x C f : Addr} {of : Obj} {l₀ l : List Value} {K : Frag} {name : Str} {Q : Value → Shared → Prop}
    (hso : h.get? so = some { cls := .type "super", dict := none, data := .fields #[.ref D, .ref x, .ref C], slots := #[] }) (hno : Looks (model prog w) h (opaqueClassAbove (.ref C)) none)
    (hC : Looks (model prog w) h (mroOf (.ref C)) l₀) (hl : (l₀.dropWhile (· != .ref D)).drop 1 = l) (X : K.In h)
    (hf : alongIn K name l = some (some (.ref f))) (hfo : h.get? f = some of) (hfc : of.cls = .type "function") (hxC : x ≠ C) (hn : (name == ("__class__" : Str)) = false)
    (hq : Q (.ref h.objs.size) ⟨h.push { cls := .type "method", data := .fields #[.ref f, .ref x] }, g, d, t + 1, os⟩) :
    wpAny (model prog w) A (getAttr (.ref so) name true) Q E ⟨h, g, d, t, os⟩ := by
  have hlk := F.ks_slot_super_ga.lookup
  have hcan := F.ks_canon_super_ga
  have hT : ∀ t', (⟨h, g, d, t', os⟩ : Shared).TypeIs (.ref so) "super" := fun _ => ⟨_, hso, rfl⟩
  unfold getAttr getAttrBy
  refine wpAny_bind (wpAny_mkText (wpAny_holding (wpAny_bind (wpAny_typeOf (hT _) (wpAny_bind (wpAny_of_eq hlk ?_))))))
  show wpAny _ _ (getAttrByItsOwn (.ref so) (.str name t) (.type "super") (.builtin "super.__getattribute__") true _) _ _ _
  unfold getAttrByItsOwn hookBefore callGetattribute boundAndCalled
  refine wpAny_bind (wpAny_of_eq (show (if onTheHeap (.type "super") then typeLookup (.type "super") "__getattr__" else pure none) = pure none from rfl) ?_)
  refine wpAny_bind (wpAny_attempt (wpAny_holding ?_))
  show wpAny _ _ (bindSpecial (.builtin "super.__getattribute__") (.ref so) >>= _) _ _ _
  refine wpAny_bind (wpAny_of_eq (F.ks_slot_super_ga.bind _) ?_)
  refine wpAny_mono (Q := fun v s' => v = .ref h.objs.size ∧ s' = ⟨h.push { cls := .type "method", data := .fields #[.ref f, .ref x] }, g, d, t + 1, os⟩) (E := fun _ _ => False)
    (wpAny_call_entry F.ks_slot_super_ga (hT _) F.ks_entry_super_ga (ks_wpAny_super_ga hso hno hC hl X hf hfo hfc hxC hn ⟨_, rfl, rfl, rfl⟩) (F.ks_gaArgs_super _ _)) (fun v s' hv => ?_) fun _ _ z => z.elim
  obtain ⟨rfl, rfl⟩ := hv
  exact wpAny_pure hq
end
theorem wpAt_MethS {M : Model} {A : Around} {c : Code} {E : Value → Shared → Prop} {s : Shared} {env : Env} {o e1 e2 : Expr} {m : Str} {p apos pos : Pos} {Q : Value → Shared → Prop}
    (hst : starEach [e1, .Starred e2 p] env = [(false, eval e1 env), (true, eval e2 env)])
    (h : PySem.wpAt M A c (attributeBase o m env (eval o env)) (fun ov s₁ => wpAny M A (getAttr ov m true) (fun f s₂ => wpAny M A (callWith pos f [] (backTo pos [(false, eval e1 env), (true, eval e2 env)]) []) Q E s₂) E s₁) E s) :
    PySem.wpAt M A c (eval (.Call (.Attribute o m apos) [e1, .Starred e2 p] [] pos) env) Q E s := by
  have hke : backToKw pos (keywordEach [] env) = [] := rfl
  have hform : methodCallForm ([e1, Expr.Starred e2 p].length + ([] : List Keyword).length) (backTo pos [(false, eval e1 env), (true, eval e2 env)]) [] = false := rfl
  have hpos : methodCallPos false o env apos pos = pure pos := rfl
  have hcal : ∀ ov, calleeOf false o env ov m = (getAttr ov m true >>= fun v => pure (v, [])) := fun _ => rfl
  rw [arm_eval_Call, hst, hke]
  refine PySem.wpAt_bind (PySem.ks_wpAt_mono h (fun ov s₁ h₁ => PySem.wpAt_of_wpAny ?_) fun _ _ x => x)
  refine wpAny_bind (wpAny_standAt ?_)
  unfold methodCall
  rw [hform, hpos, hcal]
  refine wpAny_bind (wpAny_holding (wpAny_bind (wpAny_mono h₁ (fun f s₂ h₂ => wpAny_pure ?_) fun _ _ x => x)))
  exact wpAny_bind (wpAny_pure h₂)
section
variable {X : Cx} {CX : CXT} {k j : Nat} {f cda cc D g : Addr} {qual m p1 : Str} {scope : Scope} {L : Addr} {sp : Sp} {E : XK} {t : TA} {rest : TS} {code : List Stmt} {es : List Expr} {ss : List Stmt} {N ps : List Str}
theorem psA_supS {q0 q1 q2 q3 q4 sp_ : Pos} {e1 e2 : Expr} (he : X.env = envS qual scope L f cda cc) (S : SScope N ps scope) (hN : X.N[0]? = some p1) (hl : scope.names.lookup p1 = some .local) (SD : SupDef X.K X.prog f cda cc D g p1) (hm : (m == ("__class__" : Str)) = false) (F : FnR X.prog X.w X.K X.mg X.base CX k g sp) (hr : Room k X.A) (hx : Passes CX X E)
    (ha : PA X [e1, .Starred e2 sp_] t) (hA : ArgsOk X [e1, .Starred e2 sp_]) (hrest : PSs X ss rest) (hst : starEach [e1, .Starred e2 sp_] X.env = [(false, eval e1 X.env), (true, eval e2 X.env)] := by rfl) :
    PSsA X (.func code X.env) (.Expr (.Call (.Attribute (.Call (.Name "super" q0) [] [] q1) m q2) [e1, .Starred e2 sp_] [] q3) q4 :: ss) (tSup (fun C => SupAt X.K C D m g) sp E t rest) := by
  intro pins s σ H De I q
  obtain ⟨x, C, dx, fs, hσ, hx0, so, q⟩ := q
  obtain ⟨_, _, fd, _, ar, lkf, har, ear⟩ := SD.fn
  obtain ⟨_, _, vsC, _, file, tf, lkc, hvs, hfile⟩ := SD.code
  obtain ⟨_, _, _, lkcc⟩ := SD.cell
  obtain ⟨cdD, hD⟩ := Option.isSome_iff_exists.mp SD.cls
  obtain ⟨cdC, hC⟩ := Option.isSome_iff_exists.mp so.cls
  obtain ⟨od, J⟩ := OwnOps.inst_at I hx0
  have XK := I.kIn
  have hsc : X.env.scope = scope := by rw [he]
  obtain ⟨oD, hD1, hD2⟩ : ∃ oD, s.heap.get? D = some oD ∧ oD.data = .cls cdD := by
    unfold PySem.W.clsIn at hD
    split at hD
    · rename_i c d cd' sl ho
      cases hD
      exact ⟨_, XK _ _ ho, rfl⟩
    · cases hD
  have hkS : X.env.kindOf "super" = some .globalImplicit := by
    rw [he]; exact S.sup
  have hkC : X.env.kindOf kC = some .free := by
    rw [he]; exact S.has
  have hce : X.env.cells.lookup kC = some cc := by
    rw [he]
    show (cellsFrom (L + 1) scope.names [] ++ [(kC, cc)]).lookup kC = _
    have ncl : (cellsFrom (L + 1) scope.names []).lookup kC = none := by
      cases q : (cellsFrom (L + 1) scope.names []).lookup kC with
      | none => rfl
      | some c =>
        rcases cell_mem (PySem.mem_of_lookup q) with z | z
        · cases z
        · cases S.once _ z rfl
    rw [lookup_app_none ncl]
    simp [List.lookup]
  have hloc : ∃ mL, s.heap.Ns X.env.locals mL ∧ mL p1 = some (.ref x) := by
    obtain ⟨mL, h1, h2⟩ := I.loc
    obtain ⟨u, ru, lk⟩ := h2 0 p1 (.ref x) hN hσ (.inl (by rw [hsc]; exact hl))
    cases (show u = Value.ref x from ru)
    rcases lk with ⟨_, z⟩ | ⟨z, _⟩
    · exact ⟨mL, h1, z⟩
    · exfalso
      have e : X.env.kindOf p1 = some .local := by rw [he]; exact hl
      rw [e] at z
      rcases z with z | z <;> cases z
  obtain ⟨mL, hns, hself⟩ := hloc
  have hkind := I.ok.kind
  have hgl : s.heap.Ns X.env.globals X.mg := by
    rw [I.ok.glob]
    exact I.mod.glob.keeps I.bk
  obtain ⟨mb, hmb, hbb⟩ := I.mod.blt
  have hbl : s.heap.Ns X.env.builtins mb := by
    rw [I.ok.blt]
    exact hmb.keeps I.bk
  have hmgS : X.mg "super" = none := PySem.W.mg_none_of I.mod.kin I.mod.glob SD.sup
  refine PySem.ks_wpAt_execs_cons (PySem.ks_wpAt_Expr_any (wpAt_MethS hst ?_) I.quiet)
  refine PySem.ks_wpAt_super_base (f := f) (cc := cda) (ar := ar) (fd := fd) (vs := vsC) (file := file) (tf := tf) hkS hkC hm (by rw [he]) (XK _ _ lkf) rfl har (by rw [he]) (XK _ _ lkc) rfl hvs hfile SD.top ?_
  refine PySem.W.ks_loadName_global hkind hkS (PySem.Calls.loadGlobal_builtin hgl hmgS hbl ((hbb _ (by decide +kernel)).trans (show bootBuiltins "super" = some (.type "super") by first | rfl | kernel_rfl)) ⟨rfl, ?_⟩)
  refine wpAny_loadName_free hkind hkC hce ⟨_, XK _ _ lkcc, rfl⟩ ?_
  rw [ear]
  refine wpAny_loadName_local hkind (by rw [he]; exact hl) hns hself ?_
  refine PySem.ks_wpAny_isType_cls hD1 hD2 ⟨rfl, ?_⟩
  refine PySem.ks_wpAny_call_super hD1 hD2 J.at_ J.cls (fun c e => ?_) (PySem.W.looks_mroIn XK so.sub) (fun h' e kp => ?_)
  · have := J.no
    unfold PySem.W.notCls at this
    rw [e] at this
    exact Bool.noConfusion this
  · obtain ⟨hh, g0, d0, t0, os0⟩ := s
    dsimp only at e kp
    have Xh : X.K.In h' := fun b o q => kp b o (XK b o q)
    have htg : ∃ og, h'.get? g = some og ∧ og.cls = .type "function" := by
      have z : (X.K.lookup g).map (·.cls) = some (.type "function") := SD.tg
      cases q : X.K.lookup g with
      | none => rw [q] at z; cases z
      | some og => rw [q] at z; exact ⟨og, Xh _ _ q, Option.some.inj z⟩
    obtain ⟨og, hog, cog⟩ := htg
    have hal : PySem.W.alongIn X.K m ((cdC.mro.dropWhile (· != .ref D)).drop 1) = some (some (.ref g)) := by
      have z := so.at_
      unfold PySem.W.ks_superIn at z
      rw [hC] at z
      exact z
    refine getAttr_super (D := D) (x := x) (C := C) (f := g) (of := og) (K := X.K) (l₀ := cdC.mro) (l := (cdC.mro.dropWhile (· != .ref D)).drop 1) e (PySem.W.looks_opaque Xh SD.any) ?_ rfl Xh hal hog cog (PySem.W.ks_ne XK J hC) hm ?_
    · exact fun A Q E s k q => wpAny_bind ((PySem.W.looks_clsIn Xh hC) A _ E s k (wpAny_pure q))
    · have kp2 : ∀ b u, hh.get? b = some u → (h'.push { cls := .type "method", data := .fields #[.ref g, .ref x] }).get? b = some u := fun b u q => Heap.get?_push_of_some _ (kp b u q)
      have I2 : Inv X pins σ H ⟨h'.push { cls := .type "method", data := .fields #[.ref g, .ref x] }, g0, d0, t0 + 1, os0⟩ := Inv.kept (s := ⟨hh, g0, d0, t0, os0⟩) I kp2
      have I1 : Inv X pins σ H ⟨h', g0, d0, t0 + 1, os0⟩ := Inv.kept (s := ⟨hh, g0, d0, t0, os0⟩) I kp
      have fr : H h'.objs.size = none := I1.fresh
      have nl : h'.objs.size ≠ X.env.locals := Nat.ne_of_gt I1.lt
      have nf : h'.objs.size ∉ X.fs := I1.nofs (Nat.le_refl _)
      have I3 : Inv X ((h'.objs.size, PySem.W.methodObj (.ref g) (.ref x)) :: pins) σ H ⟨h'.push { cls := .type "method", data := .fields #[.ref g, .ref x] }, g0, d0, t0 + 1, os0⟩ := I2.pins_of fun p hp => by
        rcases List.mem_cons.mp hp with rfl | hp
        · exact ⟨Heap.get?_push_at rfl rfl, fr, nl, nf, fun v z => by cases z⟩
        · exact I2.pin p (List.mem_append_right _ hp)
      rw [← hst]
      refine hA q3 h'.objs.size (.ref x) g _ _ _ SD.fg (thn (ha.run q3 _ _ σ H _ I3 q) fun us s2 got => ?_)
      obtain ⟨vs, H1, I4, r, hq⟩ := got
      have hb := (I4.pin _ (List.mem_append_right _ List.mem_cons_self)).1
      refine ⟨⟨hb, I4.kIn⟩, wpAny_call (PySem.ks_codeAny_call_bound hb (codeAny_mono (F X.A X.stack s2 H1 (.ref x :: us) (.ref x :: vs) _ E hr I4.env0 (.cons rfl r) hq) fun r s' h => ?_))⟩
      cases r with
      | error e => exact hx _ σ H1 s2 e s' I4 h
      | ok fl =>
        cases fl with
        | ret u =>
          obtain ⟨v, H2, I5, _, h5⟩ := I4.after h
          have I6 : Inv X pins σ H2 s' := I5.pins_of fun p hp => I5.pin p (List.mem_append_right _ (List.mem_cons_of_mem _ hp))
          exact wpAt_of_wpAny (hrest.run pins s' σ H2 De I6 h5)
        | next => exact False.elim h
        | brk => exact False.elim h
        | cont => exact False.elim h
end
end SupX
end

-- K4h
section
set_option Elab.async false
set_option linter.all false
set_option maxRecDepth 100000
set_option exponentiation.threshold 10000
namespace R4
open PySem L2 OwnOps OwnNe G1 StX SupX
/-- what may be handed in as a rule -/
inductive RVal (D : Addr) (H : Hp) : V → Option Bool → Prop
  | non : RVal D H .non none
  | word (w : Bool) : RVal D H (.str (rwd w)) (some w)
  | rul {q : Addr} {w : Bool} (h : Rul D H q w) : RVal D H (.ref q) (some w)
theorem rf_ne (w : Bool) : rf w ≠ [] := fun z => by
  have h := rf_word w
  rw [z] at h
  cases h
theorem Rul.sameX {D p C dx : Addr} {H H' : Hp} {q : Addr} {w : Bool} (r : Rul D H q w) (hp : H p = some (.ins C dx [])) (s : SameX p H H') : Rul D H' q w := by
  obtain ⟨dq, h⟩ := r
  refine ⟨dq, s _ _ (fun z => ?_) h⟩
  rw [z, hp] at h
  injection h with h
  injection h with _ _ h
  exact rf_ne w h.symm
theorem RVal.sameX {D p C dx : Addr} {H H' : Hp} {v : V} {a : Option Bool} (r : RVal D H v a) (hp : H p = some (.ins C dx [])) (s : SameX p H H') : RVal D H' v a := by
  cases r with
  | non => exact .non
  | word w => exact .word w
  | rul h => exact .rul (h.sameX hp s)
theorem RVal.same {D : Addr} {H H' : Hp} {v : V} {a : Option Bool} (r : RVal D H v a) (s : Same H H') : RVal D H' v a := by
  cases r with
  | non => exact .non
  | word w => exact .word w
  | rul h => exact .rul (h.same s)
theorem Av.sameX {p C dx : Addr} {fs : List (Str × V)} {H H' : Hp} {v : V} (h : Av H v) (hp : H p = some (.ins C dx fs)) (s : SameX p H H') : Av H' v := by
  cases h with
  | str => exact .str _
  | non => exact .non
  | int => exact .int _
  | bl => exact .bl _
  | lst e => exact .lst (s _ _ (fun z => by rw [z, hp] at e; cases e) e)
  | tup e => exact .tup (s _ _ (fun z => by rw [z, hp] at e; cases e) e)
/-- what _as_rule makes of it -/
inductive RRes (D : Addr) (H : Hp) : V → RR → Prop
  | non : RRes D H .non none
  | rul {q : Addr} {w : Bool} (h : Rul D H q w) : RRes D H (.ref q) (some (w, q))
theorem RRes.same {D : Addr} {H H' : Hp} {v : V} {a : RR} (r : RRes D H v a) (s : Same H H') : RRes D H' v a := by
  cases r with
  | non => exact .non
  | rul h => exact .rul (h.same s)
def one (k : Str) (a : RR) : List (Key × V) := match a with | some (_, q) => [(Sum.inr k, V.ref q)] | none => []
theorem rKvs_eq (a b : RR) : rKvs a b = one "row" a ++ one "side" b := rfl
theorem put_row (q : Addr) : putK ([] : List (Key × V)) (Sum.inr ("row" : Str)) (.ref q) = [((Sum.inr ("row" : Str) : Key), V.ref q)] := rfl
theorem put_side (a : RR) (q : Addr) : putK (rKvs a none) (Sum.inr ("side" : Str)) (.ref q) = rKvs a (some (true, q)) := by
  rcases a with _ | ⟨w, r⟩
  · rfl
  · kernel_rfl
theorem given_kvs (u v : V) : mergeK [] [((Sum.inr ("row" : Str) : Key), u), (Sum.inr ("side" : Str), v)] = [((Sum.inr ("row" : Str) : Key), u), (Sum.inr ("side" : Str), v)] := by kernel_rfl
theorem asr_go {D CK : Addr} {G : Hp} {Q : VK} {E : XK} {r : V} {a : Option Bool} (rv : RVal D G r a) (kk : ∀ v a' G', Same G G' → RRes D G' v a' → a'.map Prod.fst = a → Q v G') : spAsR D CK [r] G Q E := by
  cases rv with
  | non => exact ⟨_, rfl, .inl ⟨rfl, kk .non none G (Same.refl _) .non rfl⟩⟩
  | word w => exact ⟨_, rfl, .inr (.inl (.inl ⟨w, rfl, fun q H' s ru => kk (.ref q) (some (w, q)) H' s (.rul ru) rfl⟩))⟩
  | @rul q w h => exact ⟨_, rfl, .inr (.inl (.inr ⟨w, q, rfl, h, fun q' H' s ru => kk (.ref q') (some (w, q')) H' s (.rul ru) rfl⟩))⟩
theorem RRes.put {D : Addr} {H : Hp} {v : V} {a : RR} {p : Addr} {o u : HO} (r : RRes D H v a) (hp : H p = some o) (no : ∀ C dx fs, o ≠ .ins C dx fs) : RRes D (upd H p u) v a := by
  cases r with
  | non => exact .non
  | rul h =>
    obtain ⟨dq, h⟩ := h
    exact .rul ⟨dq, by rw [upd_ne (fun z => by rw [z, hp] at h; exact no _ _ _ (Option.some.inj h))]; exact h⟩
theorem RRes.is {D : Addr} {H : Hp} {v : V} {a : RR} (r : RRes D H v a) : ∀ w q, a = some (w, q) → Rul D H q w := by
  cases r with
  | non => intro w q z; cases z
  | rul h => intro w q z; cases z; exact h
theorem rf_line (nm pins ctl isp ords line v r : V) : putF "_line" v (kf nm pins ctl isp ords line ++ [(("_rules" : Str), r)]) = kf nm pins ctl isp ords v ++ [(("_rules" : Str), r)] := by kernel_rfl
theorem rf_name (nm pins ctl isp ords line r : V) : (kf nm pins ctl isp ords line ++ [(("_rules" : Str), r)]).lookup ("name" : Str) = some nm := by kernel_rfl
theorem rf_ctl (nm pins ctl isp ords line r : V) : (kf nm pins ctl isp ords line ++ [(("_rules" : Str), r)]).lookup ("controls" : Str) = some ctl := by kernel_rfl
theorem rf_rul (nm pins ctl isp ords line r : V) : (kf nm pins ctl isp ords line ++ [(("_rules" : Str), r)]).lookup ("_rules" : Str) = some r := by kernel_rfl
theorem rf_few (nm pins ctl isp ords line r : V) : (kf nm pins ctl isp ords line ++ [(("_rules" : Str), r)]).length < 1000 := by
  show 7 < 1000
  decide
def seen (a b : RR) (i : Nat) : List (Key × V) := rKvs (if 0 < i then a else none) (if 1 < i then b else none)
theorem row_ne : ¬ ((Sum.inr ("row" : Str) : Key) = Sum.inr ("side" : Str)) := by decide +kernel
theorem put_side' (a : RR) (q : Addr) (w : Bool) : putK (rKvs a none) (Sum.inr ("side" : Str)) (.ref q) = rKvs a (some (w, q)) := by
  rcases a with _ | ⟨w, r⟩
  · rfl
  · kernel_rfl
abbrev NJI : List Str := ["self", "name", "row", "side", "controls", "given", "way", "rule"]
section
variable {P : Program} {w : World} {K : PySem.W.Frag} {mg : Str → Option Value} {base : Heap} {D CK fCK CN DP DJ gK : Addr}
def spJoiB (K : PySem.W.Frag) (D CK DP DJ gK gP : Addr) : Sp := fun vs H Q E => ∃ (p dx C ca : Addr) (x : Str) (cs : List Str) (r s : V) (d : Bool) (u : Value), vs = [.ref p, .str x, r, s, .ref ca] ∧ H p = some (.ins C dx []) ∧ H ca = some (.tup (cs.map V.str)) ∧ KCls K C ∧ SupAt K C DP "__init__" gK ∧ SupAt K C DJ "__init__" gP ∧ Con K C "DIRECTED" (.bl d) u ∧
  wd x = true ∧ cs.length ≤ 3 ∧ difV (.str "a" :: .str "b" :: cs.map V.str) = true ∧ (∀ y ∈ cs, y.length ≤ 12) ∧
  ((∃ a b, RVal D H r a ∧ RVal D H s b ∧ ∀ H' ra a' b', SameX p H H' → a'.map Prod.fst = a → b'.map Prod.fst = b → PathI H' p C dx x cs d [("_rules", .ref ra)] (pathT d x cs a' b') → Ruls D H' ra a' b' → Q .non H') ∨
   (r ≠ .non ∧ NoWd H r ∧ ∀ e H', SameX p H H' → H' e = some (xd r) → E (.ref CK) (some e) H') ∨
   (∃ a, RVal D H r a ∧ s ≠ .non ∧ NoWd H s ∧ ∀ e H', SameX p H H' → H' e = some (xd s) → E (.ref CK) (some e) H'))
def okJ (kv : List (Str × V)) : Prop := ∃ r s, kv = [(("row" : Str), r), (("side" : Str), s)] ∨ kv = [(("side" : Str), s), (("row" : Str), r)]
def gJ (kv : List (Str × V)) : List V := [(kv.lookup ("row" : Str)).getD .non, (kv.lookup ("side" : Str)).getD .non]
theorem bind_joi {kV doc pm ct : Value} {an : Option Addr} {cda cc : Addr} : BindA K (PySem.W.ksFn "__init__" "JoiningKind.__init__" (defArgs (sJoi 0)) (defBody (sJoi 0)) (defScope (sJoi 0)) .none kV doc pm an (.ref cda) ct cc) "self" "name" ["row", "side"] "controls" okJ gJ := by
  intro ks ws zs rz lz ok
  have two : ∃ k1 k2 z1 z2, ks = [k1, k2] ∧ zs = [z1, z2] := by
    obtain ⟨r, s, e | e⟩ := ok <;> (
      have l := congrArg List.length e
      rw [List.length_zip, lz, Nat.min_self] at l
      match ks, zs, lz, l with
      | [k1, k2], [z1, z2], _, _ => exact ⟨_, _, _, _, rfl, rfl⟩)
  obtain ⟨k1, k2, z1, z2, rfl, rfl⟩ := two
  cases rz with
  | @cons _ w1 _ ws r1 rz =>
  cases rz with
  | @cons _ w2 _ ws r2 rz =>
  cases rz
  obtain ⟨r, s, e | e⟩ := ok
  · cases e
    exact ⟨[w1, w2], .cons r1 (.cons r2 .nil), rfl, fun M A st a b rest Q E KI h => by
      cases rest with
      | nil => exact h
      | cons r rs => exact h⟩
  · cases e
    exact ⟨[w2, w1], .cons r2 (.cons r1 .nil), rfl, fun M A st a b rest Q E KI h => by
      cases rest with
      | nil => exact h
      | cons r rs => exact h⟩
theorem ok_joi {f : Addr} (F : SDef K P "JoiningKind.__init__" (sJoi 0) [("row", .non), ("side", .non)] f DJ) (G : SupG K P) (T : Bi mg) (U : RTxt K mg D CK fCK) {gP : Addr}
    (GP : FnR P w K mg base (L2.CX P w) 5 gP (fun vs H Q E => ∃ a b rest, vs = a :: b :: rest ∧ rest.length ≤ sizeLine ∧ ∀ p, H p = none → spPathB K CN CK (fun C => SupAt K C DP "__init__" gK) (a :: b :: [] ++ [V.ref p]) (upd H p (.tup rest)) Q E)) (tg : PySem.W.typeIn K (.ref gP) = some (.type "function")) (fg : PySem.W.fnIn K gP = true)
    (GA : Glb P w K mg base "_as_rule" 6 ["value"] (spAsR D CK)) (GL : Glb P w K mg base "_path_line" 2 ["kind", "rules"] (spPL K D)) :
    FnA P w K mg base (L2.CX P w) 7 f (fun vs kv H Q E => ∃ a b rest, vs = a :: b :: rest ∧ okJ kv ∧ rest.length ≤ sizeLine ∧ ∀ p, H p = none → spJoiB K D CK DP DJ gK gP (a :: b :: gJ kv ++ [V.ref p]) (upd H p (.tup rest)) Q E) := by
  obtain ⟨_, _, mA, kA, GA, bA⟩ := GA.ex
  obtain ⟨_, _, mL, kL, GL, bL⟩ := GL.ex
  obtain ⟨oc, od, kV, doc, pm, an, cda, ct, cc, osl, lk, hcd, _, hcode, cl, cld, csl, hcc⟩ := F.ex
  have sc : SScope NJI ["self", "name", "row", "side", "controls"] (defScope (sJoi 0)) := ⟨rfl, rfl, rfl, by decide +kernel, rfl, by decide +kernel, by decide +kernel, by decide +kernel, by decide +kernel, by decide +kernel⟩
  have hN := sc.nd
  have SD : SupDef K P f cda cc DJ gP "self" := ⟨⟨_, _, _, _, _, lk, rfl, rfl⟩, hcode, ⟨cl, cld, csl, hcc⟩, F.cls, G.sup, G.any, tg, fg, G.top⟩
  refine fnA_S (CX := L2.CX P w) (k := 6) (N := NJI) (kn := ["row", "side"]) lk hcd sc hcc cxUp bind_joi (fun A outer s H vs Q E hr h => ?_)
  obtain ⟨p, dx, C, ca, x, cs, r, sv, d, u, rfl, hp, hca, kc, so, soJ, con, wx, n3, dif, c12, k⟩ := h
  have pE : Passes (L2.CX P w) (cxS (L2.CX P w) P w K mg base NJI "JoiningKind.__init__" (defScope (sJoi 0)) f cda cc A outer s H E) E := passes_call (takes_of rfl rfl rfl rfl) (fun _ _ _ _ h => h)
  refine ⟨_, psA_supS (qual := "JoiningKind.__init__") (E := E) rfl sc rfl (by decide +kernel) SD (by decide) GP (hr.mono (by decide)) pE (pa_cons (pv 1) (pa_star (pv 4) pa_nil)) (argsStar rfl (fun _ => rfl))
    (pss_cons (ps_set (i := 5) hN rfl (Or.inl rfl) (pe_disp (pps_cons pe_str (pe_call (E := E) GA (hr.mono (by decide)) (by rfl) mA kA bA .nil pE (pa_cons (pv 2) pa_nil)) (pps_cons pe_str (pe_call (E := E) GA (hr.mono (by decide)) (by rfl) mA kA bA .nil pE (pa_cons (pv 3) pa_nil)) pps_nil)) (by rfl) rfl (by simp) (by decide)))
    (pss_cons (ps_fld (pv 0) (pe_lock (pe_dc (own := [("way", 6), ("rule", 7)]) (g := gTup K 2 (gCons (gName 6) (gCons (gName 7) gNil))) (tt := tTest (tOp (fun x y H Q => y = .non ∧ Q (.bl (!decide (x = .non))) H) (tVar 7) (tC .non))) (tk := tVar 6) (tv := tVar 7) rfl hN (pi_items (pv 5)) (blkOk_by (N := NJI) (sc := defScope (sJoi 0)) (by decide +kernel)) (fun _ _ _ _ _ => pg_two (i := 6) (j := 7) rfl hN rfl (Or.inl rfl) rfl (Or.inl rfl))
        (fun _ _ _ _ _ => pts_one (pt_cmpR op_notN (pv 7) pe_non (nomark _))) (fun _ _ _ _ _ => pv 6) (fun _ _ _ _ _ => pv 7))) rfl)
    (pss_one (ps_fld (pv 0) (pe_call GL (hr.mono (by decide)) (by rfl) mL kL bL .nil passL (pa_cons (pv 0) (pa_cons (pe_fld (pv 0) rfl) pa_nil))) rfl)))), ?_⟩
  have line : 1000 ≤ sizeLine := by decide
  have hap : (cs.map V.str ++ []) = cs.map V.str := List.append_nil _
  refine ⟨p, C, dx, [], rfl, hp, soJ, _, rfl, _, rfl, ca, _, rfl, .inl (SqT.of hca), ?_⟩
  refine ⟨_, _, cs.map V.str ++ [], rfl, by rw [hap, List.length_map]; omega, fun q nq => ?_⟩
  have nqp : q ≠ p := fun z => by rw [z, hp] at nq; cases nq
  have hp0 : (upd H q (.tup (cs.map V.str ++ []))) p = some (.ins C dx []) := by rw [upd_ne (Ne.symm nqp)]; exact hp
  refine ⟨p, dx, C, q, .str x, cs.map V.str ++ [], d, u, rfl, hp0, upd_same, kc, so, con, .str x, ?_, by rw [hap, List.length_map]; omega, fun y hy => ?_, .inr (.inr ⟨x, cs, rfl, hap, wx, ?_, c12, fun H1 sm pi => ?_⟩)⟩
  · show x.length ≤ 1000
    unfold wd at wx
    simp only [Bool.and_eq_true, decide_eq_true_eq] at wx
    have := wx.1.1.1.1.2
    omega
  · rw [hap] at hy
    obtain ⟨z, hz, rfl⟩ := List.mem_map.mp hy
    exact ⟨.str _, Nat.le_trans (c12 z hz) (by decide)⟩
  · rw [hap, dif, List.length_map, decide_eq_false (show ¬ 3 < cs.length by omega)]
    rfl
  have sm1 : SameX p H H1 := fun b o nb e => sm b o nb (by rw [upd_ne (ne_of_none e nq)]; exact e)
  clear sm hp0 nqp nq
  obtain ⟨pa, ca1, oa, hp1, hpa, hca1, tt⟩ := pi
  rw [List.append_nil] at hp1
  -- given
  refine fun p0 np0 => ?_
  have s0 : Same H1 (upd H1 p0 (.dK [])) := same_upd np0
  have e0 : (upd H1 p0 (.dK [])) p0 = some (.dK []) := upd_same
  generalize upd H1 p0 (.dK []) = G0 at s0 e0 ⊢
  have smG : SameX p H G0 := fun b o nb e => s0 _ _ (sm1 b o nb e)
  have bad : ∀ {v : V} {G : Hp}, Same G0 G → v ≠ .non → NoWd H v → (∀ e H', SameX p H H' → H' e = some (xd v) → E (.ref CK) (some e) H') → spAsR D CK [v] G (fun _ _ => False) E := fun {v G} s nn nw ke =>
    ⟨v, rfl, .inr (.inr ⟨nn, ⟨nw.1.sameX hp (fun b o nb e => s _ _ (smG b o nb e)), nw.2⟩, fun e H' s' he => ke e H' (fun b o nb q => s' _ _ (s _ _ (smG b o nb q))) he⟩)⟩
  have weak : ∀ {v : V} {G : Hp} {Q' : VK}, spAsR D CK [v] G (fun _ _ => False) E → spAsR D CK [v] G Q' E := fun {v G Q'} ⟨v', e, h⟩ => ⟨v', e, by
    rcases h with ⟨_, z⟩ | (⟨w', h1, z⟩ | ⟨w', q', h1, h2, z⟩) | h
    · exact z.elim
    · exact .inr (.inl (.inl ⟨w', h1, fun q H' s r => (z q H' s r).elim⟩))
    · exact .inr (.inl (.inr ⟨w', q', h1, h2, fun q H' s r => (z q H' s r).elim⟩))
    · exact .inr (.inr h)⟩
  rcases k with ⟨a, b, ra, rb, k⟩ | ⟨nn, nw, ke⟩ | ⟨a, ra, nn, nw, ke⟩
  rotate_left
  · refine ⟨_, rfl, ?_⟩
    dsimp only [tNil, List.append_nil, List.cons_append, List.nil_append]
    exact weak (bad (Same.refl _) nn nw ke)
  · refine ⟨_, rfl, ?_⟩
    dsimp only [tNil, List.append_nil, List.cons_append, List.nil_append]
    refine asr_go (ra.sameX hp smG) fun v a' G' s _ _ => ⟨_, rfl, ?_⟩
    dsimp only [tNil, List.append_nil, List.cons_append, List.nil_append]
    exact weak (bad s nn nw ke)
  refine ⟨_, rfl, ?_⟩
  dsimp only [tNil, List.append_nil, List.cons_append, List.nil_append]
  refine asr_go (ra.sameX hp smG) fun v1 a' G1 s1 r1 ea => ⟨_, rfl, ?_⟩
  dsimp only [tNil, List.append_nil, List.cons_append, List.nil_append]
  refine asr_go ((rb.sameX hp smG).same s1) fun v2 b' G2 s2 r2 eb => ?_
  have e2 : G2 p0 = some (.dK []) := s2 _ _ (s1 _ _ e0)
  refine ⟨e2, [((Sum.inr ("row" : Str) : Key), v1), (Sum.inr ("side" : Str), v2)], rfl, by simp, ?_⟩
  rw [given_kvs]
  have s3 : Same H1 (upd G2 p0 (.dK [((Sum.inr ("row" : Str) : Key), v1), (Sum.inr ("side" : Str), v2)])) := same_put (s0.trans (s1.trans s2)) np0
  have r1' := (r1.same s2).put e2 (by intro _ _ _ z; cases z) (u := .dK [((Sum.inr ("row" : Str) : Key), v1), (Sum.inr ("side" : Str), v2)])
  have r2' := r2.put e2 (by intro _ _ _ z; cases z) (u := .dK [((Sum.inr ("row" : Str) : Key), v1), (Sum.inr ("side" : Str), v2)])
  have e3 : (upd G2 p0 (.dK [((Sum.inr ("row" : Str) : Key), v1), (Sum.inr ("side" : Str), v2)])) p0 = some (.dK [((Sum.inr ("row" : Str) : Key), v1), (Sum.inr ("side" : Str), v2)]) := upd_same
  generalize upd G2 p0 (.dK [((Sum.inr ("row" : Str) : Key), v1), (Sum.inr ("side" : Str), v2)]) = G3 at s3 r1' r2' e3 ⊢
  clear r1 r2 s1 s2 e2 e0 s0 smG bad weak
  -- the rules
  refine ⟨p0, _, e3, trivial, fun odd => ⟨_, rfl, p0, odd, _, rfl, upd_same, fun Dl nD => ?_⟩⟩
  refine walk_it walk_items (fun i G => Same (upd G3 p0 (.frz odd (.dK [((Sum.inr ("row" : Str) : Key), v1), (Sum.inr ("side" : Str), v2)]))) G ∧ G Dl = some (.dK (seen a' b' i))) ⟨same_upd nD, upd_same⟩ (fun i G _ ⟨sm, _⟩ => sm _ _ upd_same) (fun i y G G' hi ⟨sm, hD⟩ ⟨Tq, u1, v1', e1, nT, e2, hu, hv⟩ => ?_) (fun G ⟨sm, hD⟩ => ?_)
  · subst e1 e2
    have st : Same G (upd G Tq (.tup [u1, v1'])) := same_upd nT
    have nx : Same (upd G3 p0 (.frz odd (.dK [((Sum.inr ("row" : Str) : Key), v1), (Sum.inr ("side" : Str), v2)]))) (upd G Tq (.tup [u1, v1'])) := sm.trans st
    have hD' := st _ _ hD
    refine ⟨Tq, _, rfl, SqT.of upd_same, rfl, _, _, rfl, _, _, rfl, rfl, rfl, _, rfl, rfl, _, rfl, ?_⟩
    match i, hi, hu, hv with
    | 0, _, hu, hv =>
      cases hu
      cases hv
      cases r1' with
      | non => exact if_neg' rfl ⟨nx, hD'⟩
      | @rul q w' h => exact if_pos' rfl ⟨_, rfl, _, rfl, seen (some (w', q)) b' 0, Sum.inr ("row" : Str), rfl, hD', by show (0 : Nat) < sizeLine; omega, same_put nx nD, by rw [upd_same]; rfl⟩
    | 1, _, hu, hv =>
      cases hu
      cases hv
      cases r2' with
      | non => exact if_neg' rfl ⟨nx, hD'⟩
      | @rul q w' h =>
        refine if_pos' rfl ⟨_, rfl, _, rfl, seen a' (some (w', q)) 1, Sum.inr ("side" : Str), rfl, hD', ?_, same_put nx nD, ?_⟩
        · show (rKvs a' none).length < sizeLine
          have : (rKvs a' none).length ≤ 1 := by rcases a' with _ | ⟨_, _⟩ <;> simp [rKvs]
          omega
        · rw [upd_same]
          exact congrArg (fun z => some (HO.dK z)) (put_side' a' q w')
  obtain ⟨e4, s4⟩ := same_unlock e3 sm
  refine ⟨e4, ?_⟩
  have nDp : Dl ≠ p0 := fun z => by rw [z, upd_same] at nD; cases nD
  have hD4 : (upd G p0 (.dK [((Sum.inr ("row" : Str) : Key), v1), (Sum.inr ("side" : Str), v2)])) Dl = some (.dK (rKvs a' b')) := by rw [upd_ne nDp]; exact hD
  generalize upd G p0 (.dK [((Sum.inr ("row" : Str) : Key), v1), (Sum.inr ("side" : Str), v2)]) = G4 at s4 hD4 ⊢
  have s14 : Same H1 G4 := s3.trans s4
  have m4 : Mkg p C dx H G4 _ := ⟨fun b o nb e => s14 _ _ (sm1 b o nb e), s14 _ _ hp1⟩
  have ru4 : Ruls D G4 Dl a' b' := ⟨hD4, (r1'.same s4).is, (r2'.same s4).is⟩
  refine ⟨_, rfl, p, C, dx, _, rfl, m4.at_, kc.cl, kc.n8, kf_few .., ?_⟩
  rw [kf_rul]
  have keep : ∀ {t : Addr} {o : HO} {fs : List (Str × V)} {G : Hp} (u : HO), Mkg p C dx H G fs → G t = some o → (∀ C dx fs, o ≠ .ins C dx fs) → upd G p u t = some o := fun u m h no => put_ne h m.at_ no
  have rulput : ∀ {q : Addr} {w : Bool} {G : Hp} {fs fs' : List (Str × V)}, Mkg p C dx H G fs → fs.length ≠ 1 → Rul D G q w → Rul D (upd G p (.ins C dx fs')) q w := fun {q w G fs fs'} m ne ⟨dq, h⟩ => ⟨dq, by
    rw [upd_ne (fun z => by
      rw [z, m.at_] at h
      injection h with h
      injection h with _ _ h
      exact ne (by rw [h]; rfl))]
    exact h⟩
  have m5 := m4.put (fs' := kf (.str x) (.ref pa) (.ref ca1) (.bl true) (.ref oa) (.str (pathT d x cs none none)) ++ [(("_rules" : Str), V.ref Dl)])
  have hca5 := keep (.ins C dx (kf (.str x) (.ref pa) (.ref ca1) (.bl true) (.ref oa) (.str (pathT d x cs none none)) ++ [(("_rules" : Str), V.ref Dl)])) m4 (s14 _ _ hca1) (by intro _ _ _ z; cases z)
  have hpa5 := keep (.ins C dx (kf (.str x) (.ref pa) (.ref ca1) (.bl true) (.ref oa) (.str (pathT d x cs none none)) ++ [(("_rules" : Str), V.ref Dl)])) m4 (s14 _ _ hpa) (by intro _ _ _ z; cases z)
  have hD5 := keep (.ins C dx (kf (.str x) (.ref pa) (.ref ca1) (.bl true) (.ref oa) (.str (pathT d x cs none none)) ++ [(("_rules" : Str), V.ref Dl)])) m4 hD4 (by intro _ _ _ z; cases z)
  have ru5 : Ruls D (upd G4 p (.ins C dx (kf (.str x) (.ref pa) (.ref ca1) (.bl true) (.ref oa) (.str (pathT d x cs none none)) ++ [(("_rules" : Str), V.ref Dl)]))) Dl a' b' := ⟨hD5, fun w q e => rulput m4 (by show 6 ≠ 1; decide) (ru4.ra w q e), fun w q e => rulput m4 (by show 6 ≠ 1; decide) (ru4.rb w q e)⟩
  have tt5 : TT (upd G4 p (.ins C dx (kf (.str x) (.ref pa) (.ref ca1) (.bl true) (.ref oa) (.str (pathT d x cs none none)) ++ [(("_rules" : Str), V.ref Dl)]))) oa (pathO d (cs.length + 2)) := (tt.same s14).sameX (p := p) (fun b o nb e => by rw [upd_ne nb]; exact e) m4.at_ (by intro xs z; cases z)
  generalize upd G4 p (.ins C dx (kf (.str x) (.ref pa) (.ref ca1) (.bl true) (.ref oa) (.str (pathT d x cs none none)) ++ [(("_rules" : Str), V.ref Dl)])) = G5 at m5 hca5 hpa5 hD5 ru5 tt5 ⊢
  -- the line
  have x12 : x.length ≤ 12 := by
    unfold wd at wx
    simp only [Bool.and_eq_true, decide_eq_true_eq] at wx
    exact wx.1.1.1.1.2
  refine ⟨_, rfl, _, rfl, p, C, dx, _, _, rfl, m5.at_, kc.cl, kc.n8, rf_rul .., p, Dl, C, dx, ca1, _, x, cs, d, u, a', b', rfl, m5.at_, kc, con, kf_dirR .., rf_name .., rf_ctl .., hca5, ru5, x12, by omega, c12, fun G6 s6 => ?_⟩
  have m6 := m5.same s6
  refine ⟨_, rfl, p, C, dx, _, rfl, m6.at_, kc.cl, kc.n6, rf_few .., ?_⟩
  rw [rf_line]
  have ru6 := ru5.same s6
  have m7 := m6.put (fs' := kf (.str x) (.ref pa) (.ref ca1) (.bl true) (.ref oa) (.str (pathT d x cs a' b')) ++ [(("_rules" : Str), V.ref Dl)])
  refine k _ Dl a' b' m7.sm ea eb ⟨pa, ca1, oa, m7.at_, keep _ m6 (s6 _ _ hpa5) (by intro _ _ _ z; cases z), keep _ m6 (s6 _ _ hca5) (by intro _ _ _ z; cases z), ?_⟩ ⟨keep _ m6 (s6 _ _ hD5) (by intro _ _ _ z; cases z), fun w q e => rulput m6 (by show 7 ≠ 1; decide) (ru6.ra w q e), fun w q e => rulput m6 (by show 7 ≠ 1; decide) (ru6.rb w q e)⟩
  exact (tt5.same s6).sameX (p := p) (fun b o nb e => by rw [upd_ne nb]; exact e) m6.at_ (by intro xs z; cases z)
end
end R4
end

-- K4i
section
set_option Elab.async false
set_option linter.all false
set_option maxRecDepth 100000
set_option exponentiation.threshold 10000
namespace R4
open PySem L2 OwnOps OwnNe G1 StX SupX
/-- what is met as a group -/
inductive Gr (H : Hp) : V → Option (List Str) → Prop
  | tup {a : Addr} {zs : List Str} (e : H a = some (.tup (zs.map V.str))) : Gr H (.ref a) (some zs)
  | lst {a : Addr} {xs : List V} (e : H a = some (.lst xs)) : Gr H (.ref a) none
  | str (x : Str) : Gr H (.str x) none
theorem Gr.same {H H' : Hp} {v : V} {o : Option (List Str)} (g : Gr H v o) (s : Same H H') : Gr H' v o := by
  cases g with
  | tup e => exact .tup (s _ _ e)
  | lst e => exact .lst (s _ _ e)
  | str x => exact .str x
def gOk : Option (List Str) → Bool
  | some zs => decide (2 ≤ zs.length)
  | none => false
/-- the groups, as they are met -/
structure Grs (H : Hp) (a : Addr) (gs : List V) (os : List (Option (List Str))) : Prop where
  at_ : H a = some (.tup gs)
  len : gs.length = os.length
  it : ∀ (i : Nat) v, gs[i]? = some v → ∃ o, os[i]? = some o ∧ Gr H v o
theorem Grs.same {H H' : Hp} {a : Addr} {gs : List V} {os : List (Option (List Str))} (g : Grs H a gs os) (s : Same H H') : Grs H' a gs os := ⟨s _ _ g.at_, g.len, fun i v h => let ⟨o, h1, h2⟩ := g.it i v h; ⟨o, h1, h2.same s⟩⟩
def texts (os : List (Option (List Str))) : List Str := os.flatMap fun o => o.getD []
def grpB (os : List (Option (List Str))) (pins : List Str) : Bool := os.all gOk && (difV ((texts os).map V.str) && (texts os).all fun z => pins.contains z)
abbrev rLenQ (K : PySem.W.Frag) : List V → Hp → VK → Prop := fun xs H Q => ∃ p ys, xs = [.ref p] ∧ (SqL K H p ys ∨ SqT K H p ys) ∧ Q (.int ys.length) H
theorem eqV_str (a b : Str) : eqV (.str a) (.str b) = decide (a = b) := by
  show (a == b) = decide (a = b)
  by_cases h : a = b
  · rw [h, decide_eq_true rfl]; exact beq_self_eq_true _
  · rw [decide_eq_false h]; exact beq_eq_false_iff_ne.mpr h
theorem inV_str (x : Str) (xs : List Str) : inV (.str x) (xs.map V.str) = xs.contains x := by
  unfold inV
  rw [List.any_map]
  induction xs with
  | nil => rfl
  | cons y r ih =>
    rw [List.any_cons, List.contains_cons, ih]
    congr 1
    show eqV (.str y) (.str x) = _
    rw [eqV_str]
    by_cases h : y = x
    · rw [h, decide_eq_true rfl]; exact (beq_self_eq_true _).symm
    · rw [decide_eq_false h]; exact (beq_eq_false_iff_ne.mpr (Ne.symm h)).symm
theorem flat_strs (xs : List Str) : (xs.map V.str).all flatV = true := by
  rw [List.all_map]
  exact List.all_eq_true.mpr fun _ _ => rfl
theorem texts_succ {os : List (Option (List Str))} {i : Nat} {o : Option (List Str)} (h : os[i]? = some o) : texts (os.take (i + 1)) = texts (os.take i) ++ o.getD [] := by
  unfold texts
  rw [take_succ_at h, List.flatMap_append]
  simp
theorem texts_le {os : List (Option (List Str))} (i : Nat) : (texts (os.take i)).length ≤ (texts os).length := by
  unfold texts
  have e : os = os.take i ++ os.drop i := (List.take_append_drop i os).symm
  have : (os.flatMap fun o => o.getD []).length = ((os.take i).flatMap fun o => o.getD []).length + ((os.drop i).flatMap fun o => o.getD []).length := by
    rw [← List.length_append, ← List.flatMap_append, ← e]
  omega
abbrev NGr : List Str := ["swaps", "pins", "grouped", "group", "pin"]
section
variable {P : Program} {w : World} {K : PySem.W.Frag} {mg : Str → Option Value} {base : Heap}
def spGrp (K : PySem.W.Frag) : Sp := fun vs H Q _ => ∃ v pa pins, vs = [v, .ref pa] ∧ SqT K H pa (pins.map V.str) ∧ ((Av H v ∧ (∀ a xs, v = .ref a → H a ≠ some (.tup xs)) ∧ Q (.bl false) H) ∨
  ∃ a gs os, v = .ref a ∧ Grs H a gs os ∧ gs.length ≤ 10 ∧ (texts os).length ≤ 40 ∧ (∀ z ∈ texts os, z.length ≤ 1000) ∧ ∀ H', Same H H' → Q (.bl (grpB os pins)) H')
theorem ok_grp {f : Addr} {fd : FuncData} (F : Fun K "_are_groups" "_are_groups" sGrp f fd) (T : Bi mg) (GD : Glb P w K mg base "are_different_words" 2 ["values"] (spDiff K)) : FnOk P w K mg base (L2.CX P w) 3 f fd ["swaps", "pins"] (spGrp K) := by
  obtain ⟨_, _, mD, kD, GD, bD⟩ := GD.ex
  have sc : FnScope NGr ["swaps", "pins"] (defScope sGrp) := ⟨rfl, rfl, rfl, by decide +kernel, rfl, by decide +kernel, by decide +kernel⟩
  have hN := sc.nd
  refine F.okX sc (fun vs H Q E h => ?_) (fun cdv A outer s H vs Q E hr h => ?_)
  · obtain ⟨v, pa, pins, rfl, _⟩ := h
    rfl
  · obtain ⟨v, pa, pins, rfl, hpa, k⟩ := h
    refine ⟨_, pss_cons (ps_if (pt_not (pt_val (pe_callB call_isi (by rfl) T.isi (by decide +kernel) (pa_cons (pv 0) (pa_cons (pe_bltn (v := .ty "tuple") (by rfl) T.tuple (by decide +kernel) rfl) pa_nil))))) (pss_one (ps_ret pe_bl)) pss_nil)
      (pss_cons (ps_if (pt_not (pt_val (pe_callB (cr_all rfl) (by rfl) T.all (by decide +kernel) (pa_cons (pe_lc (own := [("group", 3)]) (g := gName 3) (tt := tYes) (te := tAndV (tCB (rIsi K) (tCons (tVar 3) (tCons (tC (.ty "tuple")) tNil))) (tOp (rI0 fun i j => .bl (decide (j ≤ i))) (tCB (rLenQ K) (tCons (tVar 3) tNil)) (tC (.int 2)))) rfl hN (pi_tup (pv 0))
          (blkOk_by (N := NGr) (sc := defScope sGrp) (by decide +kernel)) (fun _ _ _ _ _ => pg_name (i := 3) hN rfl (Or.inl rfl)) (fun _ _ _ _ _ => pts_nil)
          (fun _ _ _ _ _ => pe_and (pe_callB (id := "isinstance") (show CallR _ (.builtin "isinstance") (rIsi K) from call_isi) (by rfl) T.isi (by decide +kernel) (pa_cons (pv 3) (pa_cons (pe_bltn (v := .ty "tuple") (by rfl) T.tuple (by decide +kernel) rfl) pa_nil))) (pe_one (pe_cmpR op_ge (pe_callB call_len_seq (by rfl) T.len PySem.boot_len (pa_cons (pv 3) pa_nil)) pe_int (nomark _))))) pa_nil)))) (pss_one (ps_ret pe_bl)) pss_nil)
      (pss_cons (ps_setLc2 (i := 2) (own := [("group", 3), ("pin", 4)]) (vs1 := [4]) (g := gName 3) (g1 := gName 4) (tt := tYes) (tt1 := tYes) (wi1 := iTup K (tVar 3)) (te := tVar 4) rfl hN rfl rfl (sw_true rfl rfl rfl (by decide +kernel)) (pi_tup (pv 0))
          (blkOk_by (N := NGr) (sc := defScope sGrp) (by decide +kernel)) (by decide) (fun _ _ _ _ _ => pg_name (i := 3) hN rfl (Or.inl rfl)) (fun _ _ _ _ _ => pts_nil) (fun _ _ _ _ _ => pi_tup (pv 3)) (fun _ _ _ _ _ => pg_name (i := 4) hN rfl (Or.inl rfl)) (fun _ _ _ _ _ => pts_nil) (fun _ _ _ _ _ => pv 4))
      (pss_one (ps_ret (pe_and (pe_call GD hr (by rfl) mD kD bD .nil passL (pa_cons (pv 2) pa_nil)) (pe_one (pe_callB (cr_all rfl) (by rfl) T.all (by decide +kernel) (pa_cons
          (pe_lc (own := [("pin", 4)]) (g := gName 4) (tt := tYes) (te := tOp (rIn K false) (tVar 4) (tVar 1)) rfl hN (pi_list (pv 2)) (blkOk_by (N := NGr) (sc := defScope sGrp) (by decide +kernel)) (fun _ _ _ _ _ => pg_name (i := 4) hN rfl (Or.inl rfl)) (fun _ _ _ _ _ => pts_nil)
            (fun _ _ _ _ _ => pe_cmpR op_in_seq (pv 4) (pv 1) (by rfl))) pa_nil)))))))), ?_⟩
    have line : 1000 ≤ sizeLine := by decide
    rcases k with ⟨av, nt, k⟩ | ⟨a, gs, os, rfl, gr, n10, n40, sh, k⟩
    · cases av with
      | non => exact ⟨_, rfl, _, _, _, _, _, rfl, .ty _, .base .non, kit_ty (r := false) (by decide +kernel), _, rfl, if_pos' rfl k⟩
      | str x => exact ⟨_, rfl, _, _, _, _, _, rfl, .ty _, .base (.str _), kit_ty (r := false) (by decide +kernel), _, rfl, if_pos' rfl k⟩
      | int i => exact ⟨_, rfl, _, _, _, _, _, rfl, .ty _, .base (.int i), kit_ty (r := false) (by decide +kernel), _, rfl, if_pos' rfl k⟩
      | bl b => exact ⟨_, rfl, _, _, _, _, _, rfl, .ty _, .base (.bl b), kit_ty (r := false) (by decide +kernel), _, rfl, if_pos' rfl k⟩
      | lst e => exact ⟨_, rfl, _, _, _, _, _, rfl, .ty _, .base (.lst e), kit_ty (r := false) (by decide +kernel), _, rfl, if_pos' rfl k⟩
      | tup e => exact absurd e (nt _ _ rfl)
    refine ⟨_, rfl, _, _, _, _, _, rfl, .ty _, .base (.tup gr.at_), kit_ty (r := true) (by decide +kernel), _, rfl, if_neg' rfl ?_⟩
    refine ⟨_, rfl, a, rfl, ⟨_, SqT.of gr.at_⟩, fun D nD => ?_⟩
    refine walk_it (walk_tup (K := K) (a := a) (xs := gs)) (fun i G => Same H G ∧ G D = some (.lst (((os.take i).map gOk).map V.bl))) ⟨same_upd nD, upd_same⟩ (fun i G _ ⟨sm, _⟩ => SqT.of (sm _ _ gr.at_)) (fun i v G G' hi ⟨sm, hD⟩ ⟨e, hx⟩ => ?_) (fun G ⟨sm, hD⟩ => ?_)
    · subst e
      obtain ⟨o, ho, g⟩ := gr.it i v hx
      have g := g.same sm
      have room : (((os.take i).map gOk).map V.bl).length < sizeLine := by
        rw [List.length_map, List.length_map, List.length_take]
        have := gr.len
        omega
      have nxt : ∀ b, b = gOk o → (upd G' D (.lst (((os.take i).map gOk).map V.bl ++ [V.bl b]))) D = some (.lst (((os.take (i + 1)).map gOk).map V.bl)) := fun b e => by
        rw [upd_same, take_succ_at ho, List.map_append, List.map_append, e]
        rfl
      cases g with
      | @tup q zs h1 =>
        exact ⟨rfl, yes_go (iteT ⟨_, rfl, _, _, _, _, _, rfl, .ty _, .base (.tup h1), kit_ty (r := true) (by decide +kernel), _, rfl, if_pos' rfl ⟨_, rfl, _, _, rfl, .inr (SqT.of h1), _, _, rfl, rfl, _, hD, room, same_put sm nD, nxt _ (by
          show decide ((2 : Int) ≤ ((List.map V.str zs).length : Nat)) = decide _
          rw [List.length_map, decide_eq_decide]
          omega)⟩⟩)⟩
      | str x => exact ⟨rfl, yes_go (iteT ⟨_, rfl, _, _, _, _, _, rfl, .ty _, .base (.str _), kit_ty (r := false) (by decide +kernel), _, rfl, if_neg' rfl ⟨_, hD, room, same_put sm nD, nxt _ rfl⟩⟩)⟩
      | lst h1 => exact ⟨rfl, yes_go (iteT ⟨_, rfl, _, _, _, _, _, rfl, .ty _, .base (.lst h1), kit_ty (r := false) (by decide +kernel), _, rfl, if_neg' rfl ⟨_, hD, room, same_put sm nD, nxt _ rfl⟩⟩)⟩
    rw [show os.take gs.length = os by rw [gr.len]; exact List.take_length] at hD
    refine ⟨D, _, rfl, SqL.of hD, _, rfl, ?_⟩
    rw [List.all_map, show (os.all (id ∘ gOk)) = os.all gOk from rfl]
    cases ha : os.all gOk with
    | false =>
      refine if_pos' rfl ?_
      have z := k G sm
      unfold grpB at z
      rw [ha] at z
      exact z
    | true =>
    refine if_neg' rfl ?_
    have gr1 := gr.same sm
    refine ⟨_, rfl, a, rfl, ⟨_, SqT.of gr1.at_⟩, fun D2 nD2 => ?_⟩
    refine walk_it (walk_tup (K := K) (a := a) (xs := gs)) (fun i G2 => Same G G2 ∧ G2 D2 = some (.lst ((texts (os.take i)).map V.str))) ⟨same_upd nD2, upd_same⟩ (fun i G2 _ ⟨sm2, _⟩ => SqT.of (sm2 _ _ gr1.at_)) (fun i v G2 G3 hi ⟨sm2, hD2⟩ ⟨e, hx⟩ => ?_) (fun G2 ⟨sm2, hD2⟩ => ?_)
    · subst e
      obtain ⟨o, ho, g⟩ := gr1.it i v hx
      have g := g.same sm2
      have ok : gOk o = true := List.all_eq_true.mp ha o (List.mem_of_getElem? ho)
      cases g with
      | str x => cases ok
      | lst h => cases ok
      | @tup q zs h1 =>
      have le1 := texts_le (os := os) (i + 1)
      rw [texts_succ ho, List.length_append] at le1
      refine ⟨rfl, yes_go (iteT ⟨_, rfl, q, rfl, ⟨_, SqT.of h1⟩, ?_⟩)⟩
      refine walk_it (walk_tup (K := K) (a := q) (xs := zs.map V.str)) (fun j G4 => Same G G4 ∧ G4 q = some (.tup (zs.map V.str)) ∧ G4 D2 = some (.lst ((texts (os.take i) ++ zs.take j).map V.str))) ⟨sm2, h1, by rw [List.take_zero, List.append_nil]; exact hD2⟩ (fun j G4 _ h => SqT.of h.2.1) (fun j y G4 G5 hj ⟨sm4, e4, hD4⟩ ⟨e, hy⟩ => ?_) (fun G4 ⟨sm4, e4, hD4⟩ => ?_)
      · subst e
        rw [List.getElem?_map] at hy
        obtain ⟨z, hz, rfl⟩ := Option.map_eq_some_iff.mp hy
        have ne : q ≠ D2 := fun w => by rw [w, hD4] at e4; cases e4
        refine ⟨rfl, yes_go (iteT ⟨_, rfl, _, hD4, ?_, same_put sm4 nD2, by rw [upd_ne ne]; exact e4, ?_⟩)⟩
        · rw [List.length_map, List.length_append, List.length_take]
          have : min j zs.length ≤ zs.length := Nat.min_le_right _ _
          have e : (Option.getD (some zs) ([] : List Str)).length = zs.length := rfl
          omega
        · rw [upd_same, take_succ_at hz, ← List.append_assoc]
          simp only [List.map_append]
          rfl
      · refine ⟨sm4, ?_⟩
        rw [List.length_map, List.take_length] at hD4
        rw [texts_succ ho]
        exact hD4
    rw [show os.take gs.length = os by rw [gr.len]; exact List.take_length] at hD2
    have sm02 := sm.trans sm2
    refine ⟨_, rfl, D2, _, rfl, .inl (SqL.of hD2), by rw [List.length_map]; omega, fun y hy => ?_, fun G3 s3 => ?_⟩
    · obtain ⟨z, hz, rfl⟩ := List.mem_map.mp hy
      exact ⟨.str z, sh z hz⟩
    cases hd : difV ((texts os).map V.str) with
    | false =>
      refine ⟨_, rfl, if_neg' rfl ?_⟩
      have z := k G3 (sm02.trans s3)
      unfold grpB at z
      rw [ha, hd] at z
      exact z
    | true =>
    have hD3 := s3 _ _ hD2
    have hpa3 := Same.tupS s3 (Same.tupS sm02 hpa)
    refine ⟨_, rfl, if_pos' rfl ⟨_, rfl, D2, rfl, ⟨_, SqL.of hD3⟩, fun D4 nD4 => ?_⟩⟩
    refine walk_it (walk_list (K := K) (a := D2) (xs := (texts os).map V.str)) (fun i G4 => Same G3 G4 ∧ G4 D4 = some (.lst ((((texts os).take i).map fun z => pins.contains z).map V.bl))) ⟨same_upd nD4, upd_same⟩ (fun i G4 _ ⟨sm4, _⟩ => SqL.of (sm4 _ _ hD3)) (fun i v G4 G5 hi ⟨sm4, hD4⟩ ⟨e, hx⟩ => ?_) (fun G4 ⟨sm4, hD4⟩ => ?_)
    · subst e
      rw [List.getElem?_map] at hx
      obtain ⟨z, hz, rfl⟩ := Option.map_eq_some_iff.mp hx
      refine ⟨rfl, yes_go (iteT ⟨_, rfl, _, rfl, pa, _, rfl, .inr (Same.tupS sm4 hpa3), rfl, flat_strs _, _, hD4, ?_, same_put sm4 nD4, ?_⟩)⟩
      · rw [List.length_map, List.length_map, List.length_take]
        omega
      · rw [upd_same, take_succ_at hz, inV_str]
        simp only [List.map_append]
        rfl
    · rw [List.length_map, List.take_length] at hD4
      refine ⟨D4, _, rfl, SqL.of hD4, ?_⟩
      have z := k G4 (sm02.trans (s3.trans sm4))
      unfold grpB at z
      rw [ha, hd] at z
      rw [List.all_map]
      exact z
end
end R4
end

-- EnumT
section
set_option Elab.async false
set_option maxRecDepth 100000
/-! enumerate over a tuple, for the hand layer -/
namespace EnumT
open PySem PySem.Spec PyProof.Rows L2
open Sem (wp)

set_option maxHeartbeats 1000000 in
theorem enumNew {v : Value} {ob : Obj} {Hs : Heap → Prop} (B : Begins v ob Hs) :
    Meets (Builtin.«enumerate.__new__» ⟨[.type "enumerate", v], []⟩) (fun _ R s => Hs s.heap ∧
      R (.ok (.ret (.ref (s.heap.push ob).objs.size))) { s with heap := (s.heap.push ob).push { cls := .type "enumerate", data := .fields #[.none, .bool false, .ref s.heap.objs.size, rawInt 0, .none, .none] } }) := by
  refine .of_wp fun P w A R s hR => ?_
  obtain ⟨hp, gl, dd, tk, os⟩ := s
  obtain ⟨hs, hr⟩ := hR
  have sub := sub_enumerate
  have fwd : ∀ {A' : Around} {E : Value → Shared → Prop} {Q : Value → Shared → Prop}, Q (.ref hp.objs.size) ⟨hp.push ob, gl, dd, tk, os⟩ → wpAny (model P w) A' (pyIter v) Q E ⟨hp, gl, dd, tk, os⟩ :=
    fun q => B.iter P w _ _ ⟨hp, gl, dd, tk, os⟩ _ hs q
  wp_walk using fwd
  refine wpAny_stack_any fun st => wpAny_pure ?_
  split
  · rename_i c _ _ _ _ _
    rcases hb : (c == Value.type "enumerate") with _ | _
    all_goals
      wp_walk using fwd
      exact ⟨_, rfl, hr⟩
  · wp_walk using fwd
    exact ⟨_, rfl, hr⟩

theorem enumOver {P : Program} {w : World} {A : Around} {E : Value → Shared → Prop} {s : Shared} {v : Value} {ob : Obj} {Hs : Heap → Prop} {Q : Value → Shared → Prop} (B : Begins v ob Hs) (hs : Hs s.heap)
    (k : ∀ h', IsEnum h' (s.heap.objs.size + 1) s.heap.objs.size 0 .none → h'.get? s.heap.objs.size = some ob →
      (∀ b o, s.heap.get? b = some o → h'.get? b = some o) → Q (.ref (s.heap.objs.size + 1)) { s with heap := h' }) :
    wpAny (model P w) A (call (.type "enumerate") [v]) Q E s := by
  refine callType_new F.called_enumerate (by decide) (F.typeCall_enumerate_1 _) (F.newCall_enumerate_1 _) (fun obj => F.args_object_init_2 obj _) F.entry_enumerate_new
    (enumNew B) ⟨hs, ?_⟩
  have z : (s.heap.push ob).objs.size = s.heap.objs.size + 1 := Heap.size_push ..
  have he := Heap.get?_push_size (s.heap.push ob) (o := { cls := .type "enumerate", data := .fields #[.none, .bool false, .ref s.heap.objs.size, rawInt 0, .none, .none] }) rfl
  show _ ∧ _
  rw [z] at he ⊢
  exact ⟨⟨_, he, rfl⟩, k _ he (Heap.get?_push_of_some _ (Heap.get?_push_size _ B.free)) fun b o x => Heap.get?_push_of_some _ (Heap.get?_push_of_some _ x)⟩

/-- the tuple at a, each item in a new pair -/
def ItE (K : PySem.W.Frag) (a : Addr) : It :=
  ⟨fun i H => ∃ (xs : List V) (x : V), SqT K H a xs ∧ xs[i]? = some x,
   fun i H v H' => ∃ T x, v = .ref T ∧ H T = none ∧ H' = upd H T (.tup [.int (i : Nat), x]) ∧ ∀ xs, SqT K H a xs → xs[i]? = some x,
   fun i H => ∃ xs : List V, SqT K H a xs ∧ xs.length ≤ i⟩

theorem turnE {P : Program} {w : World} {K : PySem.W.Frag} {elts : List Expr} {kk : Nat} {tpos : Pos} (a e it : Addr) :
    Turn P w K (.Tuple elts kk tpos) (ItE K a) [e, it] e (fun i h => (∃ old, IsEnum h e it ((i : Nat) : Int) old) ∧ h.IsTupleIter it a i ∧ e ≠ it) where
  mem := List.mem_cons_self ..
  obj := by
    rintro i h ⟨⟨old, he⟩, ⟨o, ho, hc, hd⟩, _⟩ b hb
    rcases List.mem_cons.mp hb with rfl | hb
    · exact ⟨_, he, fun v q => nomatch q⟩
    · obtain rfl := List.mem_singleton.mp hb
      exact ⟨o, ho, fun v q => by rw [hd] at q; cases q⟩
  keep := by
    rintro i h h' ⟨⟨old, he⟩, hi, ne⟩ k
    exact ⟨⟨old, k e (by simp) _ he⟩, hi.at fun o q => k it (by simp) o q, ne⟩
  item := by
    intro X hP hw hK hc i pins s σ H E I hf st hg
    subst hP hw hK
    obtain ⟨⟨old, he⟩, hit, hne⟩ := st
    obtain ⟨xs, x, hq, hx⟩ := hg
    obtain ⟨its, rv, p, hz⟩ := I.tuple hq
    obtain ⟨u, hu, ru⟩ := rv.get hx
    have ai : a ≠ it := by
      obtain ⟨o, ho, hc, _⟩ := p
      obtain ⟨o', ho', hc', _⟩ := hit
      intro z
      subst z
      rw [ho] at ho'
      cases ho'
      rw [hc] at hc'
      exact absurd hc' (by decide)
    have ae : e ≠ a := by
      obtain ⟨o, ho, hc, _⟩ := p
      intro z
      subst z
      have e' := he.symm.trans ho
      cases e'
      exact absurd (show Value.type "enumerate" = Value.type "tuple" from hc) (by decide)
    have hel : e < s.heap.objs.size := Heap.lt_size he
    have hil : it < s.heap.objs.size := by obtain ⟨_, q, _⟩ := hit; exact Heap.lt_size q
    have lt : i < its.toArray.size := by
      have := List.getElem?_eq_some_iff.mp hu
      simpa using this.1
    refine wpAny_pyNext_enum_itemC (Draws.tuple (A := X.A.in1) (I.ok.hd hc) it a ai its.toArray) he ⟨hit, p⟩ lt hne (by simp [hne, ae]) fun y h' tk hy ho st' hT hsz hk => ?_
    obtain rfl : y = u := by
      have hy' : its[i]? = some y := by simpa using hy
      exact Option.some.inj (hy'.symm.trans hu)
    refine ⟨_, rfl, wpAny_letOwnedTupleGo_enum (s := { s with heap := h', toks := tk + 1 }) ho fun h'' he' sb => ?_⟩
    have hT2 : h''.get? s.heap.objs.size = some { cls := .type "tuple", data := .seq #[.int i tk, y] } := (sb.2 _ (Nat.ne_of_gt hel)).trans hT
    have new : ObjOk X.prog X.w (upd H s.heap.objs.size (.tup [.int (i : Nat), x])) h'' s.heap.objs.size (.tup [.int (i : Nat), x]) :=
      ⟨by show 2 ≤ sizeLine; decide, [.int i tk, y], .cons ⟨_, rfl⟩ (.cons ru .nil), ⟨_, hT2, rfl, _, rfl⟩⟩
    have I1 : Inv X pins σ (upd H s.heap.objs.size (.tup [.int (i : Nat), x])) { s with heap := h'', toks := tk + 1 } :=
      I.turnedNew (ch := [e, it]) (fun b ob hb q => (sb.2 b (fun z => hb (by simp [z]))).trans (hk b ob (fun z => hb (by simp [z])) (fun z => hb (by simp [z])) q)) hf (Nat.le_refl _) new
    refine ⟨.ref s.heap.objs.size, _, I1, rfl, ⟨_, x, rfl, I.hok.fresh (Nat.le_refl _), rfl, fun ys hy => by rw [I.tuple_inj hy hq]; exact hx⟩, ⟨⟨y, ?_⟩, st'.1.at fun o q => (sb.2 it (Ne.symm hne)).trans q, hne⟩, fun b hb => ?_⟩
    · rw [Int.natCast_succ]; exact he'
    · have lt2 : b < s.heap.objs.size := by
        rcases List.mem_cons.mp hb with rfl | h2
        · exact hel
        · exact (List.mem_singleton.mp h2) ▸ hil
      rw [upd_ne (Nat.ne_of_lt lt2)]
      exact (hf b hb).1
  done := by
    intro X hP hw hK hc i pins s σ H E I hf st hg
    subst hP hw hK
    obtain ⟨⟨old, he⟩, hit, hne⟩ := st
    obtain ⟨xs, hq, hx⟩ := hg
    obtain ⟨its, rv, p, hz⟩ := I.tuple hq
    obtain ⟨f0, f1, f2, f3, f4, f5⟩ := hf it (by simp)
    have hl := rv.length
    have D : Draws X.prog X.w X.A.in1 it [it, a] i (fun _ _ => True) (fun j h => j = i ∧ h.IsTupleIter it a i ∧ h.IsTuple a its.toArray) :=
      { live := fun j h q => let ⟨o, ho, _⟩ := q.2.1; ⟨o, ho⟩
        frame := fun j h h' q k => ⟨q.1, q.2.1.at fun o e => k it (by simp) o e, q.2.2.at fun o e => k a (by simp) o e⟩
        item := fun j s Q E lt q => absurd q.1 (Nat.ne_of_lt lt)
        done := fun s Q E q h => wpAny_nextOf_tuple_end (I.ok.hd hc) q.2.1 q.2.2 (by simp; omega) h }
    exact wpAny_pyNext_enum_endD D he ⟨rfl, hit, p⟩ fun h' eb => ⟨rfl, I.turned (t' := s.toks) (fun b o hb q => eb b o hb q) f0 f1 f3 f4 f5⟩
  self := fun A i s Q E st h => let ⟨⟨_, he⟩, _⟩ := st; wpAny_pyIter_enum he h

def iEnumT (K : PySem.W.Frag) (ta : TA) : TI := fun σ H R => ta σ H fun vs H1 => ∃ a xs, vs = [.ref a] ∧ SqT K H1 a xs ∧ R (ItE K a) H1

theorem pi_enumT {X : Cx} {e : Expr} {ta : TA} {p pos tpos : Pos} {elts : List Expr} {kk : Nat} (hg : Gl X "enumerate") (hm : X.mg "enumerate" = none) (ha : PA X [e] ta) (hs : starEach [e] X.env = [(false, eval e X.env)] := by rfl) :
    PI X (.Tuple elts kk tpos) (.Call (.Name "enumerate" p) [e] [] pos) (iEnumT X.K ta) := by
  constructor
  intro pins s σ H R I h
  refine Call_ (ld_blt I hg hm boot_enumerate (PyProof.Rows.callWith_type1 (thn (ha.run pos pins s σ H _ I h) fun us s1 ⟨vs, H1, I1, r1, a, xs, ex, hq, q⟩ => ?_) hs rfl))
  subst ex
  rcases r1 with _ | ⟨r, rr⟩
  cases rr
  cases r
  obtain ⟨its, rv, p', hz⟩ := I1.tuple hq
  refine enumOver (begins_tuple a its.toArray) p' fun h' he hit hk => wpAny_pyIter_enum he ?_
  have I2 : Inv X pins σ H1 { s1 with heap := h' } := I1.kept (t' := s1.toks) hk
  refine ⟨s1.heap.objs.size + 1, [s1.heap.objs.size + 1, s1.heap.objs.size], _, _, H1, rfl, I2, turnE a _ s1.heap.objs.size, ⟨⟨.none, he⟩, ⟨_, hit, rfl, rfl⟩, Nat.succ_ne_self _⟩, fun b hb => ?_, q⟩
  have le : s1.heap.objs.size ≤ b := by
    rcases List.mem_cons.mp hb with rfl | hb
    · exact Nat.le_succ _
    · exact Nat.le_of_eq (List.mem_singleton.mp hb).symm
  exact I1.fpOk le (I1.hok.fresh le)
end EnumT
end

-- K4j
section
set_option Elab.async false
set_option linter.all false
set_option maxRecDepth 100000
set_option exponentiation.threshold 10000
namespace R4
open PySem L2 OwnOps OwnNe G1 StX SupX EnumT
/-- lists of texts, in a list -/
structure LLt (H : Hp) (a : Addr) (gss : List (List Str)) (qs : List Addr) : Prop where
  at_ : H a = some (.lst (qs.map V.ref))
  len : qs.length = gss.length
  it : ∀ (i : Nat) (q : Addr), qs[i]? = some q → ∃ g, gss[i]? = some g ∧ H q = some (.lst (g.map V.str))
theorem LLt.same {H H' : Hp} {a : Addr} {gss : List (List Str)} {qs : List Addr} (g : LLt H a gss qs) (s : Same H H') : LLt H' a gss qs := ⟨s _ _ g.at_, g.len, fun i v h => let ⟨o, h1, h2⟩ := g.it i v h; ⟨o, h1, s _ _ h2⟩⟩
def gmates (pin : Str) (gss : List (List Str)) : List Str := gss.flatMap fun g => if g.contains pin then g else []
def mOk (pin : Str) (ms pins : List Str) (i : Nat) : Bool := decide (pins.getD i Str.empty = pin) || ms.contains (pins.getD i Str.empty)
def mTo (pin : Str) (ms pins : List Str) (n : Nat) : List Nat := (List.range n).filter fun i => mOk pin ms pins i
def matesT (pin : Str) (pins : List Str) (gss : List (List Str)) : List Nat := mTo pin (gmates pin gss) pins pins.length
def nV (n : Nat) : V := .int (n : Int)
theorem gmates_succ {pin : Str} {gss : List (List Str)} {i : Nat} {g : List Str} (h : gss[i]? = some g) : gmates pin (gss.take (i + 1)) = gmates pin (gss.take i) ++ (if g.contains pin then g else []) := by
  unfold gmates
  rw [take_succ_at h, List.flatMap_append]
  simp
theorem gmates_le {pin : Str} {gss : List (List Str)} (i : Nat) : (gmates pin (gss.take i)).length ≤ (gmates pin gss).length := by
  have e : gss = gss.take i ++ gss.drop i := (List.take_append_drop i gss).symm
  have : (gmates pin gss).length = (gmates pin (gss.take i)).length + (gmates pin (gss.drop i)).length := by
    unfold gmates
    rw [← List.length_append, ← List.flatMap_append, ← e]
  omega
theorem gmates_flat {pin : Str} (gss : List (List Str)) : (gmates pin gss).length ≤ gss.flatten.length := by
  unfold gmates
  induction gss with
  | nil => exact Nat.le_refl _
  | cons g r ih =>
    rw [List.flatMap_cons, List.flatten_cons, List.length_append, List.length_append]
    split
    · omega
    · simp only [List.length_nil]
      omega
theorem mTo_succ {pin : Str} {ms pins : List Str} (n : Nat) : mTo pin ms pins (n + 1) = mTo pin ms pins n ++ (if mOk pin ms pins n = true then [n] else []) := by
  unfold mTo
  rw [List.range_succ, List.filter_append]
  congr 1
  by_cases h : mOk pin ms pins n = true
  · rw [if_pos h, List.filter_cons_of_pos h]
    rfl
  · rw [if_neg h, List.filter_cons_of_neg h]
    rfl
theorem mTo_len {pin : Str} {ms pins : List Str} (n : Nat) : (mTo pin ms pins n).length ≤ n := by
  unfold mTo
  have := List.length_filter_le (fun i => mOk pin ms pins i) (List.range n)
  rw [List.length_range] at this
  exact this
theorem getD_at {pins : List Str} {i : Nat} {x : Str} (h : pins[i]? = some x) : pins.getD i Str.empty = x := by
  rw [List.getD_eq_getElem?_getD, h]
  rfl
theorem walk_enumT {K : PySem.W.Frag} {a : Addr} {xs : List V} : Walk (ItE K a) xs.length (fun H => SqT K H a xs) (YPair (fun i => some (.int (i : Nat))) (fun i => xs[i]?)) := by
  refine ⟨fun i _ hi q => ⟨xs, xs[i], q, by simp [hi]⟩, fun _ q => ⟨xs, q, Nat.le_refl _⟩, fun i H v H' _ q y => ?_⟩
  obtain ⟨T, x, h1, h2, h3, h4⟩ := y
  exact ⟨T, .int (i : Nat), x, h1, h2, h3, rfl, h4 xs q⟩
theorem in_b (x : Str) (xs : List Str) : (if false = true then !inV (.str x) (xs.map V.str) else inV (.str x) (xs.map V.str)) = xs.contains x := (if_neg Bool.false_ne_true).trans (inV_str x xs)
abbrev NMt : List Str := ["pin", "pins", "groups", "mates", "group", "mate", "index", "other"]
section
variable {P : Program} {w : World} {K : PySem.W.Frag} {mg : Str → Option Value} {base : Heap}
def spMat (K : PySem.W.Frag) : Sp := fun vs H Q _ => ∃ pin pa pins ga gss qs, vs = [.str pin, .ref pa, .ref ga] ∧ SqT K H pa (pins.map V.str) ∧ LLt H ga gss qs ∧ pins.length ≤ 100 ∧ gss.length ≤ 100 ∧ gss.flatten.length ≤ 100 ∧
  ∀ r H', Same H H' → H' r = some (.lst ((matesT pin pins gss).map nV)) → Q (.ref r) H'
theorem ok_mat {f : Addr} {fd : FuncData} (F : Fun K "_mates" "_mates" sMat f fd) (T : Bi mg) : FnOk P w K mg base (L2.CX P w) 3 f fd ["pin", "pins", "groups"] (spMat K) := by
  have sc : FnScope NMt ["pin", "pins", "groups"] (defScope sMat) := ⟨rfl, rfl, rfl, by decide +kernel, rfl, by decide +kernel, by decide +kernel⟩
  have hN := sc.nd
  refine F.okX sc (fun vs H Q E h => ?_) (fun cdv A outer s H vs Q E hr h => ?_)
  · obtain ⟨pin, pa, pins, ga, gss, qs, rfl, _⟩ := h
    rfl
  · obtain ⟨pin, pa, pins, ga, gss, qs, rfl, hpa, hg, n1, n2, n3, k⟩ := h
    refine ⟨_, pss_cons (ps_set (i := 3) hN rfl (Or.inr rfl) (pe_lc2 (own := [("group", 4), ("mate", 5)]) (vs1 := [5]) (g := gName 4) (g1 := gName 5) (tt := tTest (tOp (rIn K false) (tVar 0) (tVar 4))) (tt1 := tYes) (wi1 := iList K (tVar 4)) (te := tVar 5) rfl hN (pi_list (pv 2))
          (blkOk_by (N := NMt) (sc := defScope sMat) (by decide +kernel)) (by decide) (fun _ _ _ _ _ => pg_name (i := 4) hN rfl (Or.inl rfl)) (fun _ _ _ _ _ => pts_one (pt_cmpR op_in_seq (pv 0) (pv 4) (by rfl))) (fun _ _ _ _ _ => pi_list (pv 4)) (fun _ _ _ _ _ => pg_name (i := 5) hN rfl (Or.inl rfl)) (fun _ _ _ _ _ => pts_nil) (fun _ _ _ _ _ => pv 5)))
      (pss_one (ps_ret (pe_lc (own := [("index", 6), ("other", 7)]) (g := gTup K 2 (gCons (gName 6) (gCons (gName 7) gNil))) (tt := tOr (tTest (tOp rEq (tVar 7) (tVar 0))) (tTest (tOp (rIn K false) (tVar 7) (tVar 3)))) (te := tVar 6) rfl hN (pi_enumT (by rfl) T.enum (pa_cons (pv 1) pa_nil))
          (blkOk_by (N := NMt) (sc := defScope sMat) (by decide +kernel)) (fun _ _ _ _ _ => pg_two (i := 6) (j := 7) rfl hN rfl (Or.inl rfl) rfl (Or.inl rfl)) (fun _ _ _ _ _ => pts_one (PW.pt (pw_or (pt_cmpR op_eq (pv 7) (pv 0) (nomark _)) (pw_or1 (pt_cmpR op_in_seq (pv 7) (pv 3) (by rfl)))))) (fun _ _ _ _ _ => pv 6)))), ?_⟩
    have line : 1000 ≤ sizeLine := by decide
    have few := gmates_flat (pin := pin) gss
    refine ⟨_, rfl, ga, rfl, ⟨_, SqL.of hg.at_⟩, fun D nD => ?_⟩
    refine walk_it (walk_list (K := K) (a := ga) (xs := qs.map V.ref)) (fun i G => Same H G ∧ G D = some (.lst ((gmates pin (gss.take i)).map V.str))) ⟨same_upd nD, upd_same⟩ (fun i G _ ⟨sm, _⟩ => SqL.of (sm _ _ hg.at_)) (fun i v G G' hi ⟨sm, hD⟩ ⟨e, hx⟩ => ?_) (fun G ⟨sm, hD⟩ => ?_)
    · subst e
      rw [List.getElem?_map] at hx
      obtain ⟨q, hq, rfl⟩ := Option.map_eq_some_iff.mp hx
      obtain ⟨g, hgi, hq0⟩ := hg.it i q hq
      have hgq := sm _ _ hq0
      have ne : q ≠ D := fun w => by rw [w, nD] at hq0; cases hq0
      have le1 := gmates_le (pin := pin) (gss := gss) (i + 1)
      have sc1 := gmates_succ (pin := pin) hgi
      rw [sc1, List.length_append] at le1
      refine ⟨rfl, _, rfl, _, rfl, q, _, rfl, .inl (SqL.of hgq), rfl, flat_strs _, _, rfl, ?_⟩
      cases hc : g.contains pin with
      | false =>
        rw [hc] at sc1
        refine if_neg' ((in_b pin g).trans hc) ⟨sm, ?_⟩
        rw [sc1]
        simpa using hD
      | true =>
        rw [hc] at sc1 le1
        refine if_pos' ((in_b pin g).trans hc) ⟨_, rfl, q, rfl, ⟨_, SqL.of hgq⟩, ?_⟩
        refine walk_it (walk_list (K := K) (a := q) (xs := g.map V.str)) (fun j G4 => Same H G4 ∧ G4 q = some (.lst (g.map V.str)) ∧ G4 D = some (.lst ((gmates pin (gss.take i) ++ g.take j).map V.str))) ⟨sm, hgq, by rw [List.take_zero, List.append_nil]; exact hD⟩ (fun j G4 _ h => SqL.of h.2.1) (fun j y G4 G5 hj ⟨sm4, e4, hD4⟩ ⟨e, hy⟩ => ?_) (fun G4 ⟨sm4, e4, hD4⟩ => ?_)
        · subst e
          rw [List.getElem?_map] at hy
          obtain ⟨z, hz, rfl⟩ := Option.map_eq_some_iff.mp hy
          refine ⟨rfl, yes_go (iteT ⟨_, rfl, _, hD4, ?_, same_put sm4 nD, by rw [upd_ne ne]; exact e4, ?_⟩)⟩
          · rw [List.length_map, List.length_append, List.length_take]
            have : min j g.length ≤ g.length := Nat.min_le_right _ _
            have e : (if true = true then g else ([] : List Str)).length = g.length := rfl
            omega
          · rw [upd_same, take_succ_at hz, ← List.append_assoc]
            simp only [List.map_append]
            rfl
        · refine ⟨sm4, ?_⟩
          rw [List.length_map, List.take_length] at hD4
          rw [sc1]
          exact hD4
    rw [show gss.take (qs.map V.ref).length = gss by rw [List.length_map, hg.len]; exact List.take_length] at hD
    have hpaG := Same.tupS sm hpa
    refine ⟨_, rfl, pa, _, rfl, hpaG, fun D2 nD2 => ?_⟩
    have nDD : D ≠ D2 := fun w => by rw [← w, hD] at nD2; cases nD2
    refine walk_it (walk_enumT (K := K) (a := pa) (xs := pins.map V.str)) (fun i G2 => Same G G2 ∧ G2 D2 = some (.lst ((mTo pin (gmates pin gss) pins i).map nV))) ⟨same_upd nD2, upd_same⟩ (fun i G2 _ ⟨sm2, _⟩ => Same.tupS sm2 hpaG) (fun i v G2 G3 hi ⟨sm2, hD2⟩ ⟨T0, u, v', ex, nT, eG, hu, hv⟩ => ?_) (fun G2 ⟨sm2, hD2⟩ => ?_)
    · subst ex eG
      cases hu
      have hv : (pins.map V.str)[i]? = some v' := hv
      rw [List.getElem?_map] at hv
      obtain ⟨z, hz, rfl⟩ := Option.map_eq_some_iff.mp hv
      rw [List.length_map] at hi
      have sT := same_upd (o := .tup [V.int (i : Nat), V.str z]) nT
      have hD2' := sT _ _ hD2
      have hm3 := sT _ _ (sm2 _ _ hD)
      have len := mTo_len (pin := pin) (ms := gmates pin gss) (pins := pins) i
      have sc2 := mTo_succ (pin := pin) (ms := gmates pin gss) (pins := pins) i
      have room : ((mTo pin (gmates pin gss) pins i).map nV).length < sizeLine := by
        rw [List.length_map]
        omega
      have yes : mOk pin (gmates pin gss) pins i = true → (upd (upd G2 T0 (.tup [V.int (i : Nat), V.str z])) D2 (.lst ((mTo pin (gmates pin gss) pins i).map nV ++ [V.int (i : Nat)]))) D2 = some (.lst ((mTo pin (gmates pin gss) pins (i + 1)).map nV)) := fun h => by
        rw [upd_same, sc2, if_pos h, List.map_append]
        rfl
      have eok : mOk pin (gmates pin gss) pins i = (decide (z = pin) || (gmates pin gss).contains z) := by
        unfold mOk
        rw [getD_at hz]
      refine ⟨T0, _, rfl, SqT.of upd_same, rfl, _, _, rfl, _, _, rfl, rfl, rfl, _, rfl, _, rfl, rfl, _, rfl, ?_⟩
      have e1 : decide (V.str z = V.str pin) = decide (z = pin) := by rw [decide_eq_decide]; exact ⟨fun h => V.str.inj h, fun h => by rw [h]⟩
      rw [e1]
      cases h1 : decide (z = pin) with
      | true => exact iteT (iteT ⟨_, rfl, _, hD2', room, same_put (sm2.trans sT) nD2, yes (by rw [eok, h1]; rfl)⟩)
      | false =>
        refine if_neg' rfl ⟨_, rfl, _, rfl, D, _, rfl, .inl (SqL.of hm3), rfl, flat_strs _, _, rfl, ?_⟩
        rw [in_b]
        cases h2 : (gmates pin gss).contains z with
        | true => exact iteT ⟨_, rfl, _, hD2', room, same_put (sm2.trans sT) nD2, yes (by rw [eok, h1, h2]; rfl)⟩
        | false =>
          refine if_neg' rfl ⟨sm2.trans sT, ?_⟩
          rw [hD2', sc2, eok, h1, h2]
          simp
    · rw [List.length_map] at hD2
      exact k D2 G2 (sm.trans sm2) hD2
end
end R4
end

-- K4k
section
set_option Elab.async false
set_option linter.all false
set_option maxRecDepth 100000
set_option exponentiation.threshold 10000
namespace R4
open PySem L2 OwnOps OwnNe G1 StX SupX EnumT
/-- tuples of ints, in a list -/
structure LTs (H : Hp) (a : Addr) (os : List (List Int)) (as : List Addr) : Prop where
  at_ : H a = some (.lst (as.map V.ref))
  len : as.length = os.length
  it : ∀ (i : Nat) (q : Addr), as[i]? = some q → ∃ o, os[i]? = some o ∧ H q = some (.tup (o.map V.int))
theorem LTs.same {H H' : Hp} {a : Addr} {os : List (List Int)} {as : List Addr} (g : LTs H a os as) (s : Same H H') : LTs H' a os as := ⟨s _ _ g.at_, g.len, fun i v h => let ⟨o, h1, h2⟩ := g.it i v h; ⟨o, h1, s _ _ h2⟩⟩
theorem LTs.push {G : Hp} {D T : Addr} {os : List (List Int)} {as : List Addr} (h : LTs G D os as) (nT : G T = none) (o : List Int) :
    LTs (upd (upd G T (.tup (o.map V.int))) D (.lst (as.map V.ref ++ [V.ref T]))) D (os ++ [o]) (as ++ [T]) where
  at_ := by rw [upd_same, List.map_append]; rfl
  len := by rw [List.length_append, List.length_append, h.len]; rfl
  it := fun i q hq => by
    have nTD : T ≠ D := fun z => by rw [z, h.at_] at nT; cases nT
    by_cases lt : i < as.length
    · rw [List.getElem?_append_left lt] at hq
      obtain ⟨o', h1, h2⟩ := h.it i q hq
      have nqD : q ≠ D := fun z => by rw [z, h.at_] at h2; cases h2
      refine ⟨o', by rw [List.getElem?_append_left (h.len ▸ lt)]; exact h1, ?_⟩
      rw [upd_ne nqD]
      exact same_upd nT _ _ h2
    · have lt2 := (List.getElem?_eq_some_iff.mp hq).1
      rw [List.length_append, List.length_singleton] at lt2
      have e : i = as.length := by omega
      subst e
      rw [List.getElem?_append_right (Nat.le_refl _), Nat.sub_self] at hq
      cases hq
      refine ⟨o, by rw [h.len, List.getElem?_append_right (Nat.le_refl _), Nat.sub_self]; rfl, ?_⟩
      rw [upd_ne nTD, upd_same]
/-- ints, in lists, in a list -/
structure LIs (H : Hp) (a : Addr) (css : List (List Int)) (qs : List Addr) : Prop where
  at_ : H a = some (.lst (qs.map V.ref))
  len : qs.length = css.length
  it : ∀ (i : Nat) (q : Addr), qs[i]? = some q → ∃ c, css[i]? = some c ∧ H q = some (.lst (c.map V.int))
theorem LIs.same {H H' : Hp} {a : Addr} {os : List (List Int)} {as : List Addr} (g : LIs H a os as) (s : Same H H') : LIs H' a os as := ⟨s _ _ g.at_, g.len, fun i v h => let ⟨o, h1, h2⟩ := g.it i v h; ⟨o, h1, s _ _ h2⟩⟩
def extO (o c : List Int) : List (List Int) := (c.filter fun i => !o.contains i).map fun i => o ++ [i]
def stepO (os : List (List Int)) (c : List Int) : List (List Int) := os.flatMap fun o => extO o c
def ordersT (css : List (List Int)) : List (List Int) := css.foldl stepO [[]]
theorem extO_len (o c : List Int) : (extO o c).length ≤ c.length := by
  unfold extO
  rw [List.length_map]
  exact List.length_filter_le _ _
theorem extO_succ {o c : List Int} {j : Nat} {z : Int} (h : c[j]? = some z) : extO o (c.take (j + 1)) = extO o (c.take j) ++ (if o.contains z then [] else [o ++ [z]]) := by
  unfold extO
  rw [take_succ_at h, List.filter_append, List.map_append]
  congr 1
  cases hc : o.contains z with
  | true => rw [List.filter_cons_of_neg (by rw [hc]; decide)]; rfl
  | false => rw [List.filter_cons_of_pos (by rw [hc]; rfl)]; rfl
theorem stepO_succ {os : List (List Int)} {c o : List Int} {i : Nat} (h : os[i]? = some o) : stepO (os.take (i + 1)) c = stepO (os.take i) c ++ extO o c := by
  unfold stepO
  rw [take_succ_at h, List.flatMap_append]
  simp
theorem stepO_len {c : List Int} (hc : c.length ≤ 6) : ∀ os : List (List Int), (stepO os c).length ≤ 6 * os.length
  | [] => Nat.le_refl _
  | o :: os => by
    have h1 := stepO_len hc os
    have h2 := extO_len o c
    unfold stepO at h1 ⊢
    rw [List.flatMap_cons, List.length_append, List.length_cons]
    omega
theorem orders_len {css : List (List Int)} (hc : ∀ c ∈ css, c.length ≤ 6) : ∀ k, (ordersT (css.take k)).length ≤ 6 ^ k
  | 0 => Nat.le_refl _
  | k + 1 => by
    have ih := orders_len hc k
    by_cases lt : k < css.length
    · have e : css[k]? = some css[k] := List.getElem?_eq_getElem lt
      unfold ordersT at ih ⊢
      rw [take_succ_at e, List.foldl_append]
      have := stepO_len (hc _ (List.getElem_mem lt)) ((css.take k).foldl stepO [[]])
      rw [Nat.pow_succ]
      show (stepO _ _).length ≤ _
      omega
    · rw [List.take_of_length_le (by omega)]
      rw [List.take_of_length_le (by omega)] at ih
      rw [Nat.pow_succ]
      omega
theorem orders_succ {css : List (List Int)} {k : Nat} {c : List Int} (h : css[k]? = some c) : ordersT (css.take (k + 1)) = stepO (ordersT (css.take k)) c := by
  unfold ordersT
  rw [take_succ_at h, List.foldl_append]
  rfl
theorem orders_each {css : List (List Int)} : ∀ k, ∀ o ∈ ordersT (css.take k), o.length ≤ k
  | 0, o, h => by
    rw [show ordersT (css.take 0) = [[]] from rfl, List.mem_singleton] at h
    rw [h]
    exact Nat.le_refl _
  | k + 1, o, h => by
    by_cases lt : k < css.length
    · have e : css[k]? = some css[k] := List.getElem?_eq_getElem lt
      rw [orders_succ e] at h
      obtain ⟨o1, h1, h2⟩ := List.mem_flatMap.mp h
      obtain ⟨z, _, rfl⟩ := List.mem_map.mp h2
      have := orders_each k o1 h1
      rw [List.length_append]
      show _ + 1 ≤ _
      omega
    · rw [List.take_of_length_le (by omega)] at h
      have := orders_each (css := css) k o (by rw [List.take_of_length_le (by omega)]; exact h)
      omega
theorem eqV_int (a b : Int) : eqV (.int a) (.int b) = decide (a = b) := by
  show (a == b) = decide (a = b)
  by_cases h : a = b
  · rw [h, decide_eq_true rfl]; exact beq_self_eq_true _
  · rw [decide_eq_false h]; exact beq_eq_false_iff_ne.mpr h
theorem inV_int (x : Int) (xs : List Int) : inV (.int x) (xs.map V.int) = xs.contains x := by
  unfold inV
  rw [List.any_map]
  induction xs with
  | nil => rfl
  | cons y r ih =>
    rw [List.any_cons, List.contains_cons, ih]
    congr 1
    show eqV (.int y) (.int x) = _
    rw [eqV_int]
    by_cases h : y = x
    · rw [h, decide_eq_true rfl]; exact (beq_self_eq_true _).symm
    · rw [decide_eq_false h]; exact (beq_eq_false_iff_ne.mpr (Ne.symm h)).symm
theorem notin_b (x : Int) (xs : List Int) : (if true = true then !inV (.int x) (xs.map V.int) else inV (.int x) (xs.map V.int)) = !xs.contains x := (if_pos rfl).trans (congrArg _ (inV_int x xs))
theorem flat_ints (xs : List Int) : (xs.map V.int).all flatV = true := by
  rw [List.all_map]
  exact List.all_eq_true.mpr fun _ _ => rfl
theorem passOwn {X : Cx} {K : Value → Shared → Prop} {E₁ : Value → Shared → Prop} (hx : X.xe = fun e s' => wpAny (model X.prog X.w) X.A (leaving X.env e) (fun _ s'' => K e s'') E₁ s' := by rfl) : PassesOwn (model X.prog X.w) X.A X.env X.xe := passes_of hx
abbrev NOr : List Str := ["choices", "orders", "indices", "order", "index"]
section
variable {P : Program} {w : World} {K : PySem.W.Frag} {mg : Str → Option Value} {base : Heap}
def spOrd : Sp := fun vs H Q _ => ∃ ca css qs, vs = [.ref ca] ∧ LIs H ca css qs ∧ css.length ≤ 6 ∧ (∀ c ∈ css, c.length ≤ 6) ∧ ∀ r H', Same H H' → TT H' r (ordersT css) → Q (.ref r) H'
theorem ok_ord {f : Addr} {fd : FuncData} (F : Fun K "_orders" "_orders" sOrd f fd) (T : Bi mg) : FnOk P w K mg base (L2.CX P w) 3 f fd ["choices"] spOrd := by
  have sc : FnScope NOr ["choices"] (defScope sOrd) := ⟨rfl, rfl, rfl, by decide +kernel, rfl, by decide +kernel, by decide +kernel⟩
  have hN := sc.nd
  refine F.okX sc (fun vs H Q E h => ?_) (fun cdv A outer s H vs Q E hr h => ?_)
  · obtain ⟨ca, css, qs, rfl, _⟩ := h
    rfl
  · obtain ⟨ca, css, qs, rfl, hc, n1, n2, k⟩ := h
    refine ⟨_, pss_cons (ps_set (i := 1) hN rfl (Or.inl rfl) (pe_lst (pa_cons (pe_tup pa_nil) pa_nil)))
      (pss_cons (ps_for passOwn rfl (pi_list (pv 0)) (pg_name (i := 2) hN rfl (Or.inr rfl)) (pss_one (ps_setLc2 (i := 1) (own := [("order", 3), ("index", 4)]) (vs1 := [4]) (g := gName 3) (g1 := gName 4) (tt := tYes) (tt1 := tTest (tOp (rIn K true) (tVar 4) (tVar 3))) (wi1 := iList K (tVar 2)) (te := tTup (tStar K (tVar 3) (tCons (tVar 4) tNil))) rfl hN rfl rfl (sw_true rfl rfl rfl (by decide +kernel)) (pi_list (pv 1))
          (blkOk_by (N := NOr) (sc := defScope sOrd) (by decide +kernel)) (by decide) (fun _ _ _ _ _ => pg_name (i := 3) hN rfl (Or.inl rfl)) (fun _ _ _ _ _ => pts_nil) (fun _ _ _ _ _ => pi_list (pv 2)) (fun _ _ _ _ _ => pg_name (i := 4) hN rfl (Or.inl rfl)) (fun _ _ _ _ _ => pts_one (pt_cmpR op_notIn_seq (pv 4) (pv 3) (by rfl))) (fun _ _ _ _ _ => pe_tup (pa_star (pv 3) (pa_cons (pv 4) pa_nil))))))
      (pss_one (ps_ret (pe_tupleOf (by rfl) T.tuple (pv 1))))), ?_⟩
    have line : 300000 ≤ sizeLine := by decide
    refine ⟨by show 0 ≤ sizeLine; omega, fun t0 nt0 => ⟨by show 1 ≤ sizeLine; omega, fun D0 nD0 => ?_⟩⟩
    have s0 : Same H (upd (upd H t0 (.tup [])) D0 (.lst [V.ref t0])) := (same_upd nt0).trans (same_upd nD0)
    have l0 : LTs (upd (upd H t0 (.tup [])) D0 (.lst [V.ref t0])) D0 (ordersT (css.take 0)) [t0] := by
      refine ⟨upd_same, rfl, fun i q hq => ?_⟩
      match i, hq with
      | 0, hq => cases hq; exact ⟨[], rfl, same_upd nD0 _ _ upd_same⟩
    refine ⟨_, rfl, ca, rfl, ⟨_, SqL.of (s0 _ _ hc.at_)⟩, for_it (walk_list (K := K) (a := ca) (xs := qs.map V.ref)) (fun i σ G => (∃ D as v2, σ = [some (.ref ca), some (.ref D), v2, none, none] ∧ LTs G D (ordersT (css.take i)) as) ∧ Same H G)
      ⟨⟨D0, [t0], none, rfl, l0⟩, s0⟩ (fun i σ G _ ⟨_, sm⟩ => SqL.of (sm _ _ hc.at_)) (fun i v σ G G' hi ⟨⟨D, as, v2, e, lt⟩, sm⟩ ⟨eG, hx⟩ => ?_) (fun σ G ⟨⟨D, as, v2, e, lt⟩, sm⟩ => ?_)⟩
    · subst e eG
      rw [List.getElem?_map] at hx
      obtain ⟨q, hq, rfl⟩ := Option.map_eq_some_iff.mp hx
      obtain ⟨c, hci, hq0⟩ := hc.it i q hq
      have hqG := sm _ _ hq0
      have c6 := n2 c (List.mem_of_getElem? hci)
      have o6 := orders_len n2 i
      rw [orders_succ hci]
      have oL : ∀ o ∈ ordersT (css.take i), o.length ≤ i := fun o h => orders_each i o h
      generalize ordersT (css.take i) = os at lt o6 oL
      have p6 : 6 ^ i ≤ 46656 := by
        have : i < 6 := by rw [List.length_map, hc.len] at hi; omega
        exact Nat.le_trans (Nat.pow_le_pow_right (by decide) (show i ≤ 6 by omega)) (by decide)
      have few : os.length ≤ 46656 := Nat.le_trans o6 p6
      refine ⟨_, rfl, D, rfl, ⟨_, SqL.of lt.at_⟩, fun L nL => ?_⟩
      refine walk_it (walk_list (K := K) (a := D) (xs := as.map V.ref)) (fun j G1 => Same G' G1 ∧ ∃ bs, LTs G1 L (stepO (os.take j) c) bs) ⟨same_upd nL, [], upd_same, rfl, fun i q h => by cases h⟩ (fun j G1 _ ⟨s1, _⟩ => SqL.of (s1 _ _ lt.at_)) (fun j v G1 G2 hj ⟨s1, bs, hb⟩ ⟨eG, hy⟩ => ?_) (fun G1 ⟨s1, bs, hb⟩ => ?_)
      · subst eG
        rw [List.getElem?_map] at hy
        obtain ⟨p, hp, rfl⟩ := Option.map_eq_some_iff.mp hy
        obtain ⟨o, hoj, hpo⟩ := lt.it j p hp
        have hj' : j < os.length := by rw [List.length_map, lt.len] at hj; exact hj
        have bl := stepO_len c6 (os.take j)
        rw [List.length_take] at bl
        rw [stepO_succ hoj]
        generalize stepO (os.take j) c = pre at hb bl
        refine ⟨rfl, yes_go (iteT ⟨_, rfl, q, rfl, ⟨_, SqL.of (s1 _ _ hqG)⟩, ?_⟩)⟩
        refine walk_it (walk_list (K := K) (a := q) (xs := c.map V.int)) (fun m G3 => Same G' G3 ∧ ∃ bs, LTs G3 L (pre ++ extO o (c.take m)) bs) ⟨s1, bs, by rw [List.take_zero, show extO o [] = [] from rfl, List.append_nil]; exact hb⟩ (fun m G3 _ h => SqL.of (h.1 _ _ hqG)) (fun m y G3 G4 hm ⟨s3, bs, hb⟩ ⟨eG, hz⟩ => ?_) (fun G3 ⟨s3, bs, hb⟩ => ?_)
        · subst eG
          rw [List.getElem?_map] at hz
          obtain ⟨z, hzc, rfl⟩ := Option.map_eq_some_iff.mp hz
          have hpo3 := s3 _ _ hpo
          have el := extO_len o (c.take m)
          rw [List.length_take] at el
          refine ⟨rfl, _, rfl, _, rfl, p, _, rfl, .inr (SqT.of hpo3), rfl, flat_ints _, _, rfl, ?_⟩
          rw [notin_b, extO_succ hzc]
          cases hz2 : o.contains z with
          | true => exact iteF ⟨s3, bs, by simpa using hb⟩
          | false =>
            refine iteT ⟨_, rfl, p, _, rfl, .inl (SqT.of hpo3), _, rfl, ?_, fun T nT => ⟨_, same_upd nT _ _ hb.at_, ?_, ?_, ?_⟩⟩
            · rw [List.length_append, List.length_map]
              have := oL o (List.mem_of_getElem? hoj)
              have e : ([V.int z] : List V).length = 1 := rfl
              rw [List.length_map, hc.len] at hi
              show _ + _ ≤ _
              omega
            · rw [List.length_map, hb.len, List.length_append]
              omega
            · exact same_put (s3.trans (same_upd nT)) nL
            · refine ⟨bs ++ [T], ?_⟩
              have := hb.push nT (o ++ [z])
              rw [List.map_append] at this
              rw [← List.append_assoc]
              exact this
        · refine ⟨s3, bs, ?_⟩
          rw [List.length_map, List.take_length] at hb
          exact hb
      · rw [List.length_map, lt.len, List.take_length] at hb
        exact ⟨⟨L, bs, _, rfl, hb⟩, sm.trans s1⟩
    · subst e
      rw [show css.take (qs.map V.ref).length = css by rw [List.length_map, hc.len]; exact List.take_length] at lt
      refine ⟨_, rfl, .inl ⟨D, _, rfl, SqL.of lt.at_, fun r nr => k r _ (sm.trans (same_upd nr)) ⟨as, upd_same, lt.len, fun i q hq => ?_⟩⟩⟩
      obtain ⟨o, h1, h2⟩ := lt.it i q hq
      exact ⟨o, h1, same_upd nr _ _ h2⟩
end
end R4
end

-- SupXF
section
set_option Elab.async false
set_option linter.all false
set_option maxRecDepth 100000
set_option maxHeartbeats 2000000
/-! defs def f(self, name, *v, k = d) whose star tuple is asked for its methods: it stands exactly (frz), so that it is known to have no dict. -/
namespace SupX
open PySem PySem.Spec PyProof.Rows L2 StX
section
variable {CX : CXT} {P : Program} {w : World} {K : PySem.W.Frag} {mg : Str → Option Value} {base : Heap} {k : Nat} {f cda cc D : Addr} {name qual : Str} {params : Arguments} {body : List Stmt} {scope : Scope} {dV kV doc pm ct oc : Value} {an od : Option Addr} {cl : Value} {cld : Option Addr} {csl : Array (Option Value)}
  {osl : Array (Option Value)} {N kn : List Str} {p1 p2 pv : Str} {sp : Sp} {okK : List (Str × V) → Prop} {gV : List (Str × V) → List V}
theorem fnA_F (lk : K.lookup f = some ⟨oc, od, .func (PySem.W.ksFn name qual params body scope dV kV doc pm an (.ref cda) ct cc), osl⟩) (hcd : PySem.W.codeIn K (.ref cda) qual = true) (S : SScope N (p1 :: p2 :: kn ++ [pv]) scope) (hcc : K.lookup cc = some ⟨cl, cld, .cell (some (.ref D)), csl⟩) (hCX : CXUp CX)
    (hb : BindA K (PySem.W.ksFn name qual params body scope dV kV doc pm an (.ref cda) ct cc) p1 p2 kn pv okK gV)
    (hbody : ∀ (A : Around) (outer : List Env) (s : Shared) (H : Hp) (vs : List V) (Q : VK) (E : XK), Room k (A.deeper (envS qual scope s.heap.objs.size f cda cc)) → sp vs H Q E →
      ∃ t, PSsA (cxS CX P w K mg base N qual scope f cda cc A outer s H E) (.func body (envS qual scope s.heap.objs.size f cda cc)) body t ∧ t { nx := fun _ H' => Q .non H', rt := Q } (L2.start N vs) H) :
    FnA P w K mg base CX (k + 1) f (fun vs kv H Q E => ∃ a b rest, vs = a :: b :: rest ∧ okK kv ∧ rest.length ≤ sizeLine ∧ ∀ p o, H p = Option.none → o.dict = Option.none → o.cls = .type "tuple" → sp (a :: b :: gV kv ++ [V.ref p]) (upd H p (.frz o (.tup rest))) Q E) := by
  intro A outer s H us vs ks ws zs Q E hr e0 r rz lz hsp
  obtain ⟨a, b, rest, ev, ok, hz, hq⟩ := hsp
  subst ev
  cases r with
  | cons ra r =>
  cases r with
  | @cons _ ub _ u2 rb r2 =>
  rename_i ua
  obtain ⟨cs, rc, lc, hbind⟩ := hb ks ws zs rz lz ok
  have KX : K.In s.heap := e0.mod.kin.keeps fun b o e => (e0.bs b o e).1
  have hn : H s.heap.objs.size = Option.none := e0.hok.fresh (Nat.le_refl _)
  have hl2 : u2.length ≤ sizeLine := by rw [← r2.length]; exact hz
  refine run_bndS lk hcd S hcc hr e0 (G := fun xs H2 => ∃ p o, H p = Option.none ∧ o.dict = Option.none ∧ o.cls = .type "tuple" ∧ xs = a :: b :: gV (ks.zip zs) ++ [V.ref p] ∧ H2 = upd H p (.frz o (.tup rest))) (fun A' Ex Q' h => ?_) fun s2 H2 xs ⟨p, o, hp, od, oc', ex, eH⟩ hr' => ?_
  · refine hbind _ _ _ _ _ _ _ _ KX ?_
    refine wpAny_bind (wpAny_newTuple (wpAny_pure ?_) hl2)
    have new : ObjOk P w (upd H s.heap.objs.size (.frz ({ cls := .type "tuple", data := .seq u2.toArray } : Obj) (.tup rest))) (s.heap.push ({ cls := .type "tuple", data := .seq u2.toArray } : Obj)) s.heap.objs.size (.frz ({ cls := .type "tuple", data := .seq u2.toArray } : Obj) (.tup rest)) := ⟨Heap.get?_push_size _ rfl, hz, u2, r2, ⟨_, Heap.get?_push_size _ rfl, rfl, _, rfl⟩⟩
    have un := un_laid (fs := frs outer) (s := s) (o := ({ cls := .type "tuple", data := .seq u2.toArray } : Obj)) (u := .frz ({ cls := .type "tuple", data := .seq u2.toArray } : Obj) (.tup rest)) hn
    exact h _ _ (a :: b :: gV (ks.zip zs) ++ [V.ref s.heap.objs.size]) (ua :: ub :: cs ++ [Value.ref s.heap.objs.size]) (env0_laid e0 new) un rfl (fun e s' => hCX outer s H _ _ E e s' un (fun b o q => Heap.get?_push_of_some _ q) rfl) (.cons ra (.cons rb (rc.append (.cons rfl .nil))))
      (by simp only [List.length_append, List.length_cons, List.length_nil, lc]) ⟨_, _, hn, rfl, rfl, rfl, rfl⟩
  · subst ex eH
    exact hbody A outer s2 _ _ Q E hr' (hq p o hp od oc')
end
/-- o.m(..), o a tuple that stands exactly -/
def tBMF (r : V → List V → Hp → VK → Prop) (to : TE) (t : TA) : TE := fun σ H Q => to σ H fun x H1 => (∃ p o u, x = .ref p ∧ H1 p = some (.frz o u) ∧ o.cls = .type "tuple" ∧ o.dict = Option.none) ∧ t σ H1 fun xs H2 => r x xs H2 Q
section
variable {X : Cx} {o e : Expr} {es : List Expr} {to : TE} {t : TA} {name : Str} {apos cpos : Pos} {id : String} {r : V → List V → Hp → VK → Prop}
theorem pe_bmF (pa : PlainAttrs "tuple") (slot : Slot "tuple" name id) (hty : typeOf (.builtin id) = pure (.type "method_descriptor")) (hm : MtR X id r) (ho : PE X o to) (ha : PA X (e :: es) t)
    (hbase : attributeBase o name X.env (eval o X.env) = eval o X.env := by rfl)
    (hfew : ((backTo cpos (starEach (e :: es) X.env)).all (fun x => !x.1) && (backToKw cpos (keywordEach [] X.env)).all (fun x => x.1.isSome)
      && decide ((e :: es).length + ([] : List Keyword).length + (if ([] : List Keyword).isEmpty then 0 else 1) < 30)) = true := by rfl)
    (hline : (apos.endLine == cpos.line) = true := by rfl) (hs : starEach (e :: es) X.env = (false, eval e X.env) :: starEach es X.env := by rfl) (hplain : (backTo cpos (starEach es X.env)).any (·.1) = false := by rfl) :
    PE X (.Call (.Attribute o name apos) (e :: es) [] cpos) (tBMF r to t) := by
  constructor
  intro pins s σ H Q I h
  refine wpAny_Call_method_late hbase hfew hline rfl (thn (ho.run pins s σ H _ I h) fun v s1 ⟨x, H1, I1, r1, ⟨p, ob, u, ex, hp, hc, hd⟩, q1⟩ => ?_)
  subst ex
  cases r1
  have here := (I1.hok p _ hp).1
  refine ⟨"tuple", id, pa, slot, hty, ⟨ob, here, hc⟩, fun a ea => ?_, ?_⟩
  · cases ea
    exact ⟨ob, here, hd⟩
  have args := ha.run cpos pins s1 σ H1 _ I1 q1
  rw [hs] at args ⊢
  refine Calls.callWith_builtin (by show (false || (backTo cpos (starEach es X.env)).any (·.1)) = false; rw [hplain] <;> rfl) (Calls.evalArgs_plain ?_)
  exact thn args fun us s2 ⟨xs, H2, I2, r2, q2⟩ => hm pins s2 σ H2 (.ref p) xs _ us Q I2 rfl r2 q2
end
end SupX
end

-- K4l
section
set_option Elab.async false
set_option linter.all false
set_option maxRecDepth 100000
set_option exponentiation.threshold 10000
namespace R4
open PySem L2 OwnOps OwnNe G1 StX SupX EnumT
abbrev rTIdx (K : PySem.W.Frag) : V → List V → Hp → VK → Prop := fun x xs H Q => ∃ p, ∃ ys : List Str, ∃ z j, x = .ref p ∧ xs = [.str z] ∧ SqT K H p (ys.map V.str) ∧ ys[j]? = some z ∧ (∀ m, m < j → ys[m]? ≠ some z) ∧ Q (.int (j : Nat)) H
abbrev rJn (K : PySem.W.Frag) : V → List V → Hp → VK → Prop := fun x xs H Q => ∃ a p, ∃ ys : List Str, x = .str a ∧ xs = [.ref p] ∧ (SqL K H p (ys.map V.str) ∨ SqT K H p (ys.map V.str)) ∧ (ys.map (·.length)).sum + ys.length * a.length ≤ 16777216 ∧ Q (.str (Txt.join a ys)) H
abbrev teA (K : PySem.W.Frag) : TE := tLc (iTup K (tVar 3)) (gName 6) (tTest (tOp (rIn K false) (tVar 6) (tVar 7))) (tVar 6) [6]
abbrev teB0 (K : PySem.W.Frag) : TE := tBMF (rTIdx K) (tVar 3) (tCons (tVar 6) tNil)
abbrev teB (K : PySem.W.Frag) : TE := tLc (iList K (tVar 7)) (gName 6) tYes (teB0 K) [6]
abbrev teC (K : PySem.W.Frag) : TE := tCall (spMat K) [] E0 (tCons (tVar 6) (tCons (tVar 3) (tCons (tVar 4) tNil)))
abbrev teE (K : PySem.W.Frag) : TE := tM1 (rJn K) (tC (.str " ")) (tVar 7)
abbrev ttD (K : PySem.W.Frag) : L2.TT := tTest (tOp rEq (tOp (rIxL K) (tVar 7) (tC (.int 0))) (tVar 6))
/-- the groups in the order of the pins -/
def inPins (pins zs : List Str) : List Str := pins.filter fun z => zs.contains z
def gsOf (pins : List Str) (os : List (Option (List Str))) : List (List Str) := os.map fun o => inPins pins (o.getD [])
def ordG (pins : List Str) (gss : List (List Str)) : List (List Str) := pins.flatMap fun pin => gss.filter fun g => decide (g.head? = some pin)
theorem gsOf_succ {pins : List Str} {os : List (Option (List Str))} {i : Nat} {o : Option (List Str)} (h : os[i]? = some o) : gsOf pins (os.take (i + 1)) = gsOf pins (os.take i) ++ [inPins pins (o.getD [])] := by
  unfold gsOf
  rw [take_succ_at h, List.map_append]
  rfl
theorem inPins_succ {pins zs : List Str} {j : Nat} {z : Str} (h : pins[j]? = some z) : inPins (pins.take (j + 1)) zs = inPins (pins.take j) zs ++ (if zs.contains z then [z] else []) := by
  unfold inPins
  rw [take_succ_at h, List.filter_append]
  congr 1
  cases hc : zs.contains z with
  | true => rw [List.filter_cons_of_pos hc]; rfl
  | false => rw [List.filter_cons_of_neg (by rw [hc]; decide)]; rfl
theorem inPins_len (pins zs : List Str) : (inPins pins zs).length ≤ pins.length := List.length_filter_le _ _
theorem LLt.push {G : Hp} {D q : Addr} {gss : List (List Str)} {qs : List Addr} {g : List Str} (h : LLt G D gss qs) (e : G q = some (.lst (g.map V.str))) (ne : q ≠ D) : LLt (upd G D (.lst (qs.map V.ref ++ [V.ref q]))) D (gss ++ [g]) (qs ++ [q]) where
  at_ := by rw [upd_same, List.map_append]; rfl
  len := by rw [List.length_append, List.length_append, h.len]; rfl
  it := fun i a ha => by
    by_cases lt : i < qs.length
    · rw [List.getElem?_append_left lt] at ha
      obtain ⟨g', h1, h2⟩ := h.it i a ha
      have nD : a ≠ D := fun z => by
        rw [z, h.at_] at h2
        cases qs with
        | nil => cases ha
        | cons b bs =>
          have h2 : (HO.lst (List.map V.ref (b :: bs))) = HO.lst (List.map V.str g') := Option.some.inj h2
          cases g' with
          | nil => cases h2
          | cons c cs => cases h2
      exact ⟨g', by rw [List.getElem?_append_left (h.len ▸ lt)]; exact h1, by rw [upd_ne nD]; exact h2⟩
    · have lt2 := (List.getElem?_eq_some_iff.mp ha).1
      rw [List.length_append, List.length_singleton] at lt2
      have e1 : i = qs.length := by omega
      subst e1
      rw [List.getElem?_append_right (Nat.le_refl _), Nat.sub_self] at ha
      cases ha
      exact ⟨g, by rw [h.len, List.getElem?_append_right (Nat.le_refl _), Nat.sub_self]; rfl, by rw [upd_ne ne]; exact e⟩
theorem LIs.push {G : Hp} {D q : Addr} {gss : List (List Int)} {qs : List Addr} {g : List Int} (h : LIs G D gss qs) (e : G q = some (.lst (g.map V.int))) (ne : q ≠ D) : LIs (upd G D (.lst (qs.map V.ref ++ [V.ref q]))) D (gss ++ [g]) (qs ++ [q]) where
  at_ := by rw [upd_same, List.map_append]; rfl
  len := by rw [List.length_append, List.length_append, h.len]; rfl
  it := fun i a ha => by
    by_cases lt : i < qs.length
    · rw [List.getElem?_append_left lt] at ha
      obtain ⟨g', h1, h2⟩ := h.it i a ha
      have nD : a ≠ D := fun z => by
        rw [z, h.at_] at h2
        cases qs with
        | nil => cases ha
        | cons b bs =>
          have h2 : (HO.lst (List.map V.ref (b :: bs))) = HO.lst (List.map V.int g') := Option.some.inj h2
          cases g' with
          | nil => cases h2
          | cons c cs => cases h2
      exact ⟨g', by rw [List.getElem?_append_left (h.len ▸ lt)]; exact h1, by rw [upd_ne nD]; exact h2⟩
    · have lt2 := (List.getElem?_eq_some_iff.mp ha).1
      rw [List.length_append, List.length_singleton] at lt2
      have e1 : i = qs.length := by omega
      subst e1
      rw [List.getElem?_append_right (Nat.le_refl _), Nat.sub_self] at ha
      cases ha
      exact ⟨g, by rw [h.len, List.getElem?_append_right (Nat.le_refl _), Nat.sub_self]; rfl, by rw [upd_ne ne]; exact e⟩
theorem first_at {z : Str} : ∀ {ys : List Str}, z ∈ ys → ∃ j : Nat, ys[j]? = some z ∧ ∀ m : Nat, m < j → ys[m]? ≠ some z
  | y :: ys, h => by
    by_cases e : y = z
    · exact ⟨0, by rw [e]; rfl, fun m h => by omega⟩
    · obtain ⟨j, h1, h2⟩ := first_at (ys := ys) ((List.mem_cons.mp h).resolve_left (fun z => e z.symm))
      refine ⟨j + 1, h1, fun m hm => ?_⟩
      cases m with
      | zero => exact fun w => e (Option.some.inj w)
      | succ m => exact h2 m (by omega)
section
variable {K : PySem.W.Frag} {G : Hp} {Q : VK} {sa pa gb ob : Addr} {y0 y1 y2 y3 y4 y5 y6 y7 : Option V} {pins : List Str}
theorem lcA {gs : List V} {os : List (Option (List Str))} (gr : Grs G sa gs os) (ok : os.all gOk = true) (hpa : SqT K G pa (pins.map V.str)) (n6 : pins.length ≤ 6) (n10 : gs.length ≤ 10)
    (fin : ∀ D qs G', Same G G' → LLt G' D (gsOf pins os) qs → Q (.ref D) G') : tLc (iTup K (tVar 2)) (gName 7) tYes (teA K) [7] [y0, y1, some (.ref sa), some (.ref pa), y4, y5, y6, y7] G Q := by
  have line : 1000 ≤ sizeLine := by decide
  refine ⟨_, rfl, sa, rfl, ⟨_, SqT.of gr.at_⟩, fun D nD => ?_⟩
  refine walk_it (walk_tup (K := K) (a := sa) (xs := gs)) (fun i G1 => Same G G1 ∧ ∃ qs, LLt G1 D (gsOf pins (os.take i)) qs) ⟨same_upd nD, [], upd_same, rfl, fun i q h => by cases h⟩ (fun i G1 _ ⟨sm, _⟩ => SqT.of (sm _ _ gr.at_)) (fun i v G1 G2 hi ⟨sm, qs, lt⟩ ⟨e, hx⟩ => ?_) (fun G1 ⟨sm, qs, lt⟩ => ?_)
  · subst e
    obtain ⟨o, ho, g⟩ := gr.it i v hx
    have g := g.same sm
    have okO : gOk o = true := List.all_eq_true.mp ok o (List.mem_of_getElem? ho)
    cases g with
    | str x => cases okO
    | lst h => cases okO
    | @tup q zs h1 =>
    have hpa1 := Same.tupS sm hpa
    refine ⟨rfl, yes_go (iteT ⟨_, rfl, pa, rfl, ⟨_, hpa1⟩, fun D2 nD2 => ?_⟩)⟩
    have n2 : D2 ≠ D := fun z => by rw [z, lt.at_] at nD2; cases nD2
    refine walk_it (walk_tup (K := K) (a := pa) (xs := pins.map V.str)) (fun j G3 => Same G2 G3 ∧ G3 D2 = some (.lst ((inPins (pins.take j) zs).map V.str))) ⟨same_upd nD2, upd_same⟩ (fun j G3 _ ⟨s3, _⟩ => Same.tupS s3 hpa1) (fun j y G3 G4 hj ⟨s3, hD2⟩ ⟨e, hy⟩ => ?_) (fun G3 ⟨s3, hD2⟩ => ?_)
    · subst e
      rw [List.getElem?_map] at hy
      obtain ⟨z, hz, rfl⟩ := Option.map_eq_some_iff.mp hy
      refine ⟨rfl, _, rfl, _, rfl, q, _, rfl, .inr (SqT.of (s3 _ _ h1)), rfl, flat_strs _, _, rfl, ?_⟩
      rw [in_b, inPins_succ hz]
      cases hc : zs.contains z with
      | false => exact iteF ⟨s3, by simpa using hD2⟩
      | true =>
        refine iteT ⟨_, rfl, _, hD2, ?_, same_put s3 nD2, by rw [upd_same, List.map_append]; rfl⟩
        have := inPins_len (pins.take j) zs
        rw [List.length_take] at this
        rw [List.length_map]
        omega
    · rw [List.length_map, List.take_length] at hD2
      have lt3 := lt.same s3
      refine ⟨_, lt3.at_, ?_, same_put (sm.trans s3) nD, qs ++ [D2], ?_⟩
      · rw [List.length_map, lt.len]
        unfold gsOf
        rw [List.length_map, List.length_take]
        have := gr.len
        omega
      · rw [gsOf_succ ho]
        exact lt3.push hD2 n2
  · rw [show os.take gs.length = os by rw [gr.len]; exact List.take_length] at lt
    exact fin D qs G1 sm lt
theorem lcB {gss : List (List Str)} {qs : List Addr} {o : Obj} (L : LLt G gb gss qs) (hf : G pa = some (.frz o (.tup (pins.map V.str)))) (od : o.dict = none) (oc : o.cls = .type "tuple") (sub : ∀ g ∈ gss, ∀ z ∈ g, z ∈ pins) (n6 : ∀ g ∈ gss, g.length ≤ 6) (n10 : gss.length ≤ 10)
    (fin : ∀ D xs G', Same G G' → G' D = some (.lst xs) → Q (.ref D) G') : tLc (iList K (tVar 4)) (gName 7) tYes (teB K) [7] [y0, y1, y2, some (.ref pa), some (.ref gb), y5, y6, y7] G Q := by
  have line : 1000 ≤ sizeLine := by decide
  refine ⟨_, rfl, gb, rfl, ⟨_, SqL.of L.at_⟩, fun D nD => ?_⟩
  refine walk_it (walk_list (K := K) (a := gb) (xs := qs.map V.ref)) (fun i G1 => Same G G1 ∧ ∃ xs, G1 D = some (.lst xs) ∧ xs.length = i) ⟨same_upd nD, [], upd_same, rfl⟩ (fun i G1 _ ⟨sm, _⟩ => SqL.of (sm _ _ L.at_)) (fun i v G1 G2 hi ⟨sm, xs, hD, lx⟩ ⟨e, hx⟩ => ?_) (fun G1 ⟨sm, xs, hD, _⟩ => fin D xs G1 sm hD)
  subst e
  rw [List.getElem?_map] at hx
  obtain ⟨q, hq, rfl⟩ := Option.map_eq_some_iff.mp hx
  obtain ⟨g, hg, hq0⟩ := L.it i q hq
  have hq1 := sm _ _ hq0
  have mem := List.mem_of_getElem? hg
  have gl := n6 g mem
  refine ⟨rfl, yes_go (iteT ⟨_, rfl, q, rfl, ⟨_, SqL.of hq1⟩, fun D2 nD2 => ?_⟩)⟩
  refine walk_it (walk_list (K := K) (a := q) (xs := g.map V.str)) (fun j G3 => Same G2 G3 ∧ ∃ ys, G3 D2 = some (.lst ys) ∧ ys.length = j) ⟨same_upd nD2, [], upd_same, rfl⟩ (fun j G3 _ ⟨s3, _⟩ => SqL.of (s3 _ _ hq1)) (fun j y G3 G4 hj ⟨s3, ys, hD2, ly⟩ ⟨e, hy⟩ => ?_) (fun G3 ⟨s3, ys, hD2, ly⟩ => ?_)
  · subst e
    rw [List.getElem?_map] at hy
    obtain ⟨z, hz, rfl⟩ := Option.map_eq_some_iff.mp hy
    obtain ⟨m, hm, hmin⟩ := first_at (sub g mem z (List.mem_of_getElem? hz))
    have hf3 := s3 _ _ (sm _ _ hf)
    rw [List.length_map] at hj
    refine ⟨rfl, yes_go (iteT ⟨_, rfl, ⟨pa, o, _, rfl, hf3, oc, od⟩, _, rfl, pa, pins, z, m, rfl, rfl, .inl (.inr ⟨o, hf3⟩), hm, hmin, ys, hD2, by omega, same_put s3 nD2, _, upd_same, ?_⟩)⟩
    rw [List.length_append, ly]
    rfl
  · have hD3 := s3 _ _ hD
    refine ⟨xs, hD3, ?_, same_put (sm.trans s3) nD, _, upd_same, ?_⟩
    · rw [List.length_map, L.len] at hi
      omega
    · rw [List.length_append, lx]
      rfl
theorem lcC {gss : List (List Str)} {qs : List Addr} (L : LLt G gb gss qs) (hpa : SqT K G pa (pins.map V.str)) (n6 : pins.length ≤ 6) (n10 : gss.length ≤ 10) (nf : gss.flatten.length ≤ 100)
    (fin : ∀ D rs G', Same G G' → LIs G' D (pins.map fun z => (matesT z pins gss).map Int.ofNat) rs → Q (.ref D) G') : tLc (iTup K (tVar 3)) (gName 6) tYes (teC K) [6] [y0, y1, y2, some (.ref pa), some (.ref gb), y5, y6, y7] G Q := by
  have line : 1000 ≤ sizeLine := by decide
  refine ⟨_, rfl, pa, rfl, ⟨_, hpa⟩, fun D nD => ?_⟩
  refine walk_it (walk_tup (K := K) (a := pa) (xs := pins.map V.str)) (fun i G1 => Same G G1 ∧ ∃ rs, LIs G1 D ((pins.take i).map fun z => (matesT z pins gss).map Int.ofNat) rs) ⟨same_upd nD, [], upd_same, rfl, fun i q h => by cases h⟩ (fun i G1 _ ⟨sm, _⟩ => Same.tupS sm hpa) (fun i v G1 G2 hi ⟨sm, rs, lt⟩ ⟨e, hx⟩ => ?_) (fun G1 ⟨sm, rs, lt⟩ => ?_)
  · subst e
    rw [List.getElem?_map] at hx
    obtain ⟨z, hz, rfl⟩ := Option.map_eq_some_iff.mp hx
    rw [List.length_map] at hi
    refine ⟨rfl, yes_go (iteT ⟨_, rfl, _, rfl, _, rfl, z, pa, pins, gb, gss, qs, rfl, Same.tupS sm hpa, L.same sm, by omega, by omega, nf, fun r G3 s3 hr => ?_⟩)⟩
    have lt3 := lt.same s3
    have hr : G3 r = some (.lst (((matesT z pins gss).map Int.ofNat).map V.int)) := by
      rw [hr, List.map_map]
      rfl
    have some_ : i ∈ matesT z pins gss := by
      unfold matesT mTo
      rw [List.mem_filter, List.mem_range]
      refine ⟨hi, ?_⟩
      unfold mOk
      rw [getD_at hz, decide_eq_true rfl]
      rfl
    have ne : r ≠ D := fun w => by
      rw [w, lt3.at_] at hr
      cases hm : matesT z pins gss with
      | nil => rw [hm] at some_; cases some_
      | cons a b =>
        rw [hm] at hr
        cases rs with
        | nil => cases hr
        | cons c d => cases hr
    refine ⟨_, lt3.at_, ?_, same_put (sm.trans s3) nD, rs ++ [r], ?_⟩
    · rw [List.length_map, lt.len, List.length_map, List.length_take]
      omega
    · rw [take_succ_at hz, List.map_append]
      exact lt3.push hr ne
  · rw [List.length_map, List.take_length] at lt
    exact fin D rs G1 sm lt
theorem lcD {gss : List (List Str)} {qs : List Addr} (L : LLt G gb gss qs) (hpa : SqT K G pa (pins.map V.str)) (n6 : pins.length ≤ 6) (n10 : gss.length ≤ 10) (ne : ∀ g ∈ gss, g ≠ [])
    (fin : ∀ D rs G', Same G G' → LLt G' D (ordG pins gss) rs → Q (.ref D) G') : tLc2 (iTup K (tVar 3)) (gName 6) tYes (iList K (tVar 4)) (gName 7) (ttD K) (tVar 7) [6, 7] [7] [y0, y1, y2, some (.ref pa), some (.ref gb), y5, y6, y7] G Q := by
  have line : 1000 ≤ sizeLine := by decide
  have ordL : ∀ i, (ordG (pins.take i) gss).length ≤ i * 10 := fun i => by
    unfold ordG
    induction i with
    | zero => exact Nat.le_refl _
    | succ i ih =>
      by_cases lt : i < pins.length
      · rw [take_succ_at (List.getElem?_eq_getElem lt), List.flatMap_append, List.length_append]
        have := List.length_filter_le (fun g : List Str => decide (g.head? = some pins[i])) gss
        simp only [List.flatMap_cons, List.flatMap_nil, List.append_nil]
        omega
      · rw [List.take_of_length_le (by omega)]
        rw [List.take_of_length_le (by omega)] at ih
        omega
  refine ⟨_, rfl, pa, rfl, ⟨_, hpa⟩, fun D nD => ?_⟩
  refine walk_it (walk_tup (K := K) (a := pa) (xs := pins.map V.str)) (fun i G1 => Same G G1 ∧ ∃ rs, LLt G1 D (ordG (pins.take i) gss) rs) ⟨same_upd nD, [], upd_same, rfl, fun i q h => by cases h⟩ (fun i G1 _ ⟨sm, _⟩ => Same.tupS sm hpa) (fun i v G1 G2 hi ⟨sm, rs, lt⟩ ⟨e, hx⟩ => ?_) (fun G1 ⟨sm, rs, lt⟩ => ?_)
  · subst e
    rw [List.getElem?_map] at hx
    obtain ⟨pin, hp, rfl⟩ := Option.map_eq_some_iff.mp hx
    have Lg := (L.same sm).at_
    have oL := ordL i
    rw [List.length_map] at hi
    have os : ordG (pins.take (i + 1)) gss = ordG (pins.take i) gss ++ gss.filter fun g => decide (g.head? = some pin) := by
      unfold ordG
      rw [take_succ_at hp, List.flatMap_append]
      simp
    rw [os]
    generalize ordG (pins.take i) gss = pre at lt oL
    refine ⟨rfl, yes_go (iteT ⟨_, rfl, gb, rfl, ⟨_, SqL.of Lg⟩, ?_⟩)⟩
    refine walk_it (walk_list (K := K) (a := gb) (xs := qs.map V.ref)) (fun j G3 => Same G G3 ∧ ∃ rs, LLt G3 D (pre ++ (gss.take j).filter fun g => decide (g.head? = some pin)) rs) ⟨sm, rs, by rw [List.take_zero, List.filter_nil, List.append_nil]; exact lt⟩ (fun j G3 _ h => SqL.of (h.1 _ _ L.at_)) (fun j y G3 G4 hj ⟨s3, rs, l3⟩ ⟨e, hy⟩ => ?_) (fun G3 ⟨s3, rs, l3⟩ => ?_)
    · subst e
      rw [List.getElem?_map] at hy
      obtain ⟨q, hq, rfl⟩ := Option.map_eq_some_iff.mp hy
      obtain ⟨g, hg, hq0⟩ := L.it j q hq
      have nqD : q ≠ D := fun w => by rw [w, nD] at hq0; cases hq0
      have hq3 := s3 _ _ hq0
      rw [List.length_map, L.len] at hj
      cases g with
      | nil => exact absurd rfl (ne [] (List.mem_of_getElem? hg))
      | cons z zs =>
      refine ⟨rfl, _, rfl, q, _, 0, .str z, rfl, rfl, SqL.of hq3, at_hd rfl, _, rfl, rfl, _, rfl, ?_⟩
      have e1 : decide (V.str z = V.str pin) = decide ((z :: zs).head? = some pin) := by
        rw [decide_eq_decide]
        exact ⟨fun h => by rw [V.str.inj h]; rfl, fun h => by rw [Option.some.inj h]⟩
      rw [e1, take_succ_at hg, List.filter_append, ← List.append_assoc]
      have fl := List.length_filter_le (fun g : List Str => decide (g.head? = some pin)) (gss.take j)
      rw [List.length_take] at fl
      cases hc : decide ((z :: zs).head? = some pin) with
      | false =>
        refine iteF ⟨s3, rs, ?_⟩
        rw [List.filter_cons_of_neg (by rw [hc]; decide), List.filter_nil, List.append_nil]
        exact l3
      | true =>
        refine iteT ⟨_, rfl, _, l3.at_, ?_, same_put s3 nD, rs ++ [q], ?_⟩
        · rw [List.length_map, l3.len, List.length_append]
          omega
        · rw [show List.filter (fun g => decide (g.head? = some pin)) [z :: zs] = [z :: zs] from List.filter_cons_of_pos (p := fun g : List Str => decide (g.head? = some pin)) hc]
          exact l3.push hq3 nqD
    · rw [List.length_map, L.len, List.take_length] at l3
      exact ⟨s3, rs, l3⟩
  · rw [List.length_map, List.take_length] at lt
    exact fin D rs G1 sm lt
theorem lcE {ogs : List (List Str)} {rs : List Addr} (L : LLt G ob ogs rs) (n : ogs.length ≤ 100) (gl : ∀ g ∈ ogs, g.length ≤ 6 ∧ ∀ z ∈ g, z.length ≤ 12)
    (fin : ∀ D G', Same G G' → G' D = some (.lst ((ogs.map (Txt.join " ")).map V.str)) → Q (.ref D) G') : tLc (iList K (tVar 5)) (gName 7) tYes (teE K) [7] [y0, y1, y2, y3, y4, some (.ref ob), y6, y7] G Q := by
  have line : 1000 ≤ sizeLine := by decide
  have one : (Str.ofString " ").length = 1 := by decide +kernel
  refine ⟨_, rfl, ob, rfl, ⟨_, SqL.of L.at_⟩, fun D nD => ?_⟩
  refine walk_it (walk_list (K := K) (a := ob) (xs := rs.map V.ref)) (fun i G1 => Same G G1 ∧ G1 D = some (.lst (((ogs.take i).map (Txt.join " ")).map V.str))) ⟨same_upd nD, upd_same⟩ (fun i G1 _ ⟨sm, _⟩ => SqL.of (sm _ _ L.at_)) (fun i v G1 G2 hi ⟨sm, hD⟩ ⟨e, hx⟩ => ?_) (fun G1 ⟨sm, hD⟩ => ?_)
  · subst e
    rw [List.getElem?_map] at hx
    obtain ⟨q, hq, rfl⟩ := Option.map_eq_some_iff.mp hx
    obtain ⟨g, hg, hq0⟩ := L.it i q hq
    obtain ⟨g6, g12⟩ := gl g (List.mem_of_getElem? hg)
    have su : (g.map (·.length)).sum ≤ 12 * g.length := sum_le fun z hz => g12 z hz
    refine ⟨rfl, yes_go (iteT ⟨⟨_, rfl⟩, _, rfl, " ", q, g, rfl, rfl, .inl (SqL.of (sm _ _ hq0)), by rw [one]; omega, _, hD, ?_, same_put sm nD, ?_⟩)⟩
    · rw [List.length_map, List.length_map, List.length_take]
      omega
    · rw [upd_same, take_succ_at hg, List.map_append, List.map_append]
      rfl
  · rw [List.length_map, L.len, List.take_length] at hD
    exact fin D G1 sm hD
end
end R4
end

-- K4m
section
set_option Elab.async false
set_option linter.all false
set_option maxRecDepth 100000
set_option exponentiation.threshold 10000
namespace R4
open PySem L2 OwnOps OwnNe G1 StX SupX EnumT
abbrev NPn : List Str := ["self", "name", "swaps", "pins", "groups", "ordered", "pin", "group"]
abbrev scA : Scope := { kind := .function, names := [(".0", .local), ("group", .cell), ("pins", .cell)], isGenerator := false, isCoroutine := false, more := [] }
abbrev scB : Scope := { kind := .function, names := [(".0", .local), ("group", .local), ("pins", .cell)], isGenerator := false, isCoroutine := false, more := [] }
abbrev scA0 : Scope := { kind := .function, names := [(".0", .local), ("group", .cell), ("pins", .free)], isGenerator := false, isCoroutine := false, more := [] }
abbrev scB0 : Scope := { kind := .function, names := [(".0", .local), ("group", .local), ("pins", .free)], isGenerator := false, isCoroutine := false, more := [] }
def gssT (pins : List Str) (os : List (Option (List Str))) : List (List Str) := gsOf pins os
def pinO (pins : List Str) (gss : List (List Str)) : List (List Int) := ordersT (pins.map fun z => (matesT z pins gss).map Int.ofNat)
def pinT (x : Str) (pins : List Str) (gss : List (List Str)) : Str := worded (("pins" : Str) :: x :: pins) (Txt.join " , " ((ordG pins gss).map (Txt.join " ")))
/-- a pin kind's instance, behind its __init__ -/
structure PinI (K : PySem.W.Frag) (H : Hp) (p C dx : Addr) (x : Str) (pins : List Str) (gss : List (List Str)) : Prop where
  ex : ∃ pa ca oa ga, H p = some (.ins C dx (kf (.str x) (.ref pa) (.ref ca) (.bl false) (.ref oa) (.str (pinT x pins gss)) ++ [(("_groups" : Str), .ref ga)])) ∧ SqT K H pa (pins.map V.str) ∧ H ca = some (.tup []) ∧ TT H oa (pinO pins gss)
theorem Gr.sameX {p C dx : Addr} {fs : List (Str × V)} {H H' : Hp} {v : V} {o : Option (List Str)} (g : Gr H v o) (hp : H p = some (.ins C dx fs)) (s : SameX p H H') : Gr H' v o := by
  cases g with
  | tup e => exact .tup (s _ _ (fun z => by rw [z, hp] at e; cases e) e)
  | lst e => exact .lst (s _ _ (fun z => by rw [z, hp] at e; cases e) e)
  | str x => exact .str x
theorem Grs.sameX {p C dx : Addr} {fs : List (Str × V)} {H H' : Hp} {a : Addr} {gs : List V} {os : List (Option (List Str))} (g : Grs H a gs os) (hp : H p = some (.ins C dx fs)) (s : SameX p H H') : Grs H' a gs os :=
  ⟨s _ _ (fun z => by have e := g.at_; rw [z, hp] at e; cases e) g.at_, g.len, fun i v h => let ⟨o, h1, h2⟩ := g.it i v h; ⟨o, h1, h2.sameX hp s⟩⟩
theorem ordG_len (pins : List Str) (gss : List (List Str)) : (ordG pins gss).length ≤ pins.length * gss.length := by
  unfold ordG
  induction pins with
  | nil => simp
  | cons z r ih =>
    have := List.length_filter_le (fun g : List Str => decide (g.head? = some z)) gss
    rw [List.flatMap_cons, List.length_append, List.length_cons, Nat.succ_mul]
    omega
theorem ordG_mem {pins : List Str} {gss : List (List Str)} {g : List Str} (h : g ∈ ordG pins gss) : g ∈ gss := by
  obtain ⟨z, _, h2⟩ := List.mem_flatMap.mp h
  exact (List.mem_filter.mp h2).1
theorem flat_len {gss : List (List Str)} {n : Nat} (h : ∀ g ∈ gss, g.length ≤ n) : gss.flatten.length ≤ n * gss.length := by
  induction gss with
  | nil => simp
  | cons g r ih =>
    have h1 := h g List.mem_cons_self
    have h2 := ih fun z hz => h z (List.mem_cons_of_mem _ hz)
    rw [List.flatten_cons, List.length_append, List.length_cons, Nat.mul_succ]
    omega
theorem grp_ne {os : List (Option (List Str))} {pins : List Str} (h : grpB os pins = true) : ∀ g ∈ gsOf pins os, g ≠ [] := by
  intro g hg
  obtain ⟨o, ho, rfl⟩ := List.mem_map.mp hg
  unfold grpB at h
  rw [Bool.and_eq_true, Bool.and_eq_true] at h
  have h1 := List.all_eq_true.mp h.1 o ho
  cases o with
  | none => cases h1
  | some zs =>
    have h2 : 2 ≤ zs.length := of_decide_eq_true h1
    cases zs with
    | nil => exact absurd h2 (by decide)
    | cons z r =>
      have hz : z ∈ texts os := List.mem_flatMap.mpr ⟨some (z :: r), ho, List.mem_cons_self⟩
      have h3 := List.all_eq_true.mp h.2.2 z hz
      have hp : z ∈ pins := List.contains_iff_mem.mp h3
      intro e
      have : z ∈ inPins pins (z :: r) := List.mem_filter.mpr ⟨hp, List.contains_iff_mem.mpr List.mem_cons_self⟩
      rw [show inPins pins ((some (z :: r)).getD []) = inPins pins (z :: r) from rfl] at e
      rw [e] at this
      cases this
theorem gs_sub {os : List (Option (List Str))} {pins : List Str} : ∀ g ∈ gsOf pins os, ∀ z ∈ g, z ∈ pins := by
  intro g hg z hz
  obtain ⟨o, _, rfl⟩ := List.mem_map.mp hg
  exact (List.mem_filter.mp hz).1
theorem gs_len {os : List (Option (List Str))} {pins : List Str} : ∀ g ∈ gsOf pins os, g.length ≤ pins.length := by
  intro g hg
  obtain ⟨o, _, rfl⟩ := List.mem_map.mp hg
  exact inPins_len _ _
section
variable {P : Program} {w : World} {K : PySem.W.Frag} {mg : Str → Option Value} {base : Heap} {D CK fCK CN DI gK : Addr}
def spPinB (K : PySem.W.Frag) (CN CK DI gK : Addr) : Sp := fun vs H Q E => ∃ (p dx C pa : Addr) (v sv : V) (rest : List V) (o : Obj), vs = [.ref p, v, sv, .ref pa] ∧ H p = some (.ins C dx []) ∧ H pa = some (.frz o (.tup rest)) ∧ o.dict = none ∧ o.cls = .type "tuple" ∧ KCls K C ∧ SupAt K C DI "__init__" gK ∧
  Av H v ∧ Shr v ∧ 1 ≤ rest.length ∧ rest.length ≤ 6 ∧ (∀ y ∈ rest, Av H y ∧ Shr y) ∧
  ((wdV v = false ∧ ∀ e H', SameX p H H' → H' e = some (xd v) → E (.ref CN) (some e) H') ∨
   (wdV v = true ∧ difV rest = false ∧ ∀ e H', SameX p H H' → H' e = some (xd (.ref pa)) → E (.ref CK) (some e) H') ∨
   (∃ x pins, v = .str x ∧ rest = pins.map V.str ∧ wd x = true ∧ difV rest = true ∧ (∀ z ∈ pins, z.length ≤ 12) ∧
     ((Av H sv ∧ (∀ a xs, sv = .ref a → H a ≠ some (.tup xs)) ∧ ∀ e H', SameX p H H' → H' e = some (xd sv) → E (.ref CK) (some e) H') ∨
      ∃ a gs os, sv = .ref a ∧ Grs H a gs os ∧ gs.length ≤ 10 ∧ (texts os).length ≤ 40 ∧ (∀ z ∈ texts os, z.length ≤ 1000) ∧
        ((grpB os pins = false ∧ ∀ e H', SameX p H H' → H' e = some (xd sv) → E (.ref CK) (some e) H') ∨
         (grpB os pins = true ∧ ∀ H', SameX p H H' → PinI K H' p C dx x pins (gsOf pins os) → Q .non H')))))
def okP (kv : List (Str × V)) : Prop := kv = [] ∨ ∃ v, kv = [(("swaps" : Str), v)]
def gP (sd : Addr) (kv : List (Str × V)) : List V := [(kv.lookup ("swaps" : Str)).getD (.ref sd)]
theorem bind_pin {kV doc pm ct : Value} {an : Option Addr} {cda cc sd : Addr} (kd : KwdV K kV [("swaps", .ref sd)]) : BindA K (PySem.W.ksFn "__init__" "PinKind.__init__" (defArgs (sPin 0)) (defBody (sPin 0)) (defScope (sPin 0)) .none kV doc pm an (.ref cda) ct cc) "self" "name" ["swaps"] "pins" okP (gP sd) := by
  intro ks ws zs rz lz ok
  rcases ok with e | ⟨v, e⟩
  · have e1 : zs = [] := by
      cases zs with
      | nil => rfl
      | cons z zs => cases ks with
        | nil => cases lz
        | cons k ks => cases e
    subst e1
    have e2 : ks = [] := List.length_eq_zero_iff.mp lz.symm
    subst e2
    cases rz
    rcases kd with z | ⟨Dk, rfl, hq⟩
    · cases z
    obtain ⟨u, hu, ru⟩ := hq _ (List.mem_singleton_self _)
    refine ⟨[u], .cons ru .nil, rfl, fun M A st a b rest Q E KI h => ?_⟩
    cases rest with
    | nil =>
      have ch : ∃ (β γ : Type) (k1 : Option Value → Sem β) (k2 : β → Sem γ) (k3 : γ → Sem (List (Str × Value))) (c : β), bindArgs (PySem.W.ksFn "__init__" "PinKind.__init__" (defArgs (sPin 0)) (defBody (sPin 0)) (defScope (sPin 0)) .none (.ref Dk) doc pm an (.ref cda) ct cc) ⟨a :: b :: [], []⟩ = ((nsGet Dk ("swaps" : Str) >>= k1) >>= k2) >>= k3 ∧ k1 (some u) = pure c ∧ (k2 c >>= k3) = (newTuple ([]) >>= fun t => pure ((["self", "name", "swaps", "pins"] : List Str).zip (a :: b :: [u] ++ [t]))) := ⟨_, _, _, _, _, _, rfl, rfl, rfl⟩
      obtain ⟨β, γ, k1, k2, k3, c, e1, e2, e3⟩ := ch
      show wpAny M A (bindArgs _ ⟨a :: b :: [], []⟩) Q E st
      rw [e1, bind_assoc]
      refine wpAny_bind (((PySem.W.looks_nsIn (K := K) KI hu).andThen (PySem.W.Looks.of_pure e2)) A _ _ st (fun _ _ e => e) ?_)
      rw [e3]
      exact h
    | cons r rs =>
      have ch : ∃ (β γ : Type) (k1 : Option Value → Sem β) (k2 : β → Sem γ) (k3 : γ → Sem (List (Str × Value))) (c : β), bindArgs (PySem.W.ksFn "__init__" "PinKind.__init__" (defArgs (sPin 0)) (defBody (sPin 0)) (defScope (sPin 0)) .none (.ref Dk) doc pm an (.ref cda) ct cc) ⟨a :: b :: r :: rs, []⟩ = ((nsGet Dk ("swaps" : Str) >>= k1) >>= k2) >>= k3 ∧ k1 (some u) = pure c ∧ (k2 c >>= k3) = (newTuple (r :: rs) >>= fun t => pure ((["self", "name", "swaps", "pins"] : List Str).zip (a :: b :: [u] ++ [t]))) := ⟨_, _, _, _, _, _, rfl, rfl, rfl⟩
      obtain ⟨β, γ, k1, k2, k3, c, e1, e2, e3⟩ := ch
      show wpAny M A (bindArgs _ ⟨a :: b :: r :: rs, []⟩) Q E st
      rw [e1, bind_assoc]
      refine wpAny_bind (((PySem.W.looks_nsIn (K := K) KI hu).andThen (PySem.W.Looks.of_pure e2)) A _ _ st (fun _ _ e => e) ?_)
      rw [e3]
      exact h
  · have two : ∃ k1 z1, ks = [k1] ∧ zs = [z1] := by
      have l := congrArg List.length e
      rw [List.length_zip, lz, Nat.min_self] at l
      match ks, zs, lz, l with
      | [k1], [z1], _, _ => exact ⟨_, _, rfl, rfl⟩
    obtain ⟨k1, z1, rfl, rfl⟩ := two
    cases rz with
    | @cons _ w1 _ ws r1 rz =>
    cases rz
    cases e
    exact ⟨[w1], .cons r1 .nil, rfl, fun M A st a b rest Q E KI h => by
      cases rest with
      | nil => exact h
      | cons r rs => exact h⟩
theorem ok_pin {f sd : Addr} (F : SDef K P "PinKind.__init__" (sPin 0) [("swaps", .ref sd)] f DI) (G : SupG K P) (T : Bi mg) (N : Nums mg) (U : RTxt K mg D CK fCK) (GK : FnR P w K mg base (L2.CX P w) 3 gK (spKI K CN)) (tg : PySem.W.typeIn K (.ref gK) = some (.type "function")) (fg : PySem.W.fnIn K gK = true)
    (GD : Glb P w K mg base "are_different_words" 2 ["values"] (spDiff K)) (GG : Glb P w K mg base "_are_groups" 3 ["swaps", "pins"] (spGrp K)) (GM : Glb P w K mg base "_mates" 3 ["pin", "pins", "groups"] (spMat K)) (GO : Glb P w K mg base "_orders" 3 ["choices"] spOrd) (GW : Glb P w K mg base "_worded" 1 ["words", "tail"] (spWrd K)) :
    FnA P w K mg base (L2.CX P w) 6 f (fun vs kv H Q E => ∃ a b rest, vs = a :: b :: rest ∧ okP kv ∧ rest.length ≤ sizeLine ∧ ∀ p o, H p = none → o.dict = none → o.cls = .type "tuple" → spPinB K CN CK DI gK (a :: b :: gP sd kv ++ [V.ref p]) (upd H p (.frz o (.tup rest))) Q E) := by
  obtain ⟨_, _, mD, kD, GD, bD⟩ := GD.ex
  obtain ⟨_, _, mG, kG, GG, bG⟩ := GG.ex
  obtain ⟨_, _, mM, kM, GM, bM⟩ := GM.ex
  obtain ⟨_, _, mO, kO, GO, bO⟩ := GO.ex
  obtain ⟨_, _, mW, kW, GW, bW⟩ := GW.ex
  obtain ⟨t6, n6⟩ := N.pins
  obtain ⟨oc, od, kV, doc, pm, an, cda, ct, cc, osl, lk, hcd, kd, hcode, cl, cld, csl, hcc⟩ := F.ex
  have sc : SScope NPn ["self", "name", "swaps", "pins"] (defScope (sPin 0)) := ⟨rfl, rfl, rfl, by decide +kernel, rfl, by decide +kernel, by decide +kernel, by decide +kernel, by decide +kernel, by decide +kernel⟩
  have hN := sc.nd
  have SD : SupDef K P f cda cc DI gK "self" := ⟨⟨_, _, _, _, _, lk, rfl, rfl⟩, hcode, ⟨cl, cld, csl, hcc⟩, F.cls, G.sup, G.any, tg, fg, G.top⟩
  refine fnA_F (CX := L2.CX P w) (k := 5) (N := NPn) (kn := ["swaps"]) lk hcd sc hcc cxUp (bind_pin kd) (fun A outer s H vs Q E hr h => ?_)
  have pE : Passes (L2.CX P w) (cxS (L2.CX P w) P w K mg base NPn "PinKind.__init__" (defScope (sPin 0)) f cda cc A outer s H E) E := passes_call (takes_of rfl rfl rfl rfl) (fun _ _ _ _ h => h)
  refine ⟨_, psA_sup (qual := "PinKind.__init__") (E := E) (sp := spKI K CN) rfl sc rfl (by decide +kernel) SD (by decide) GK (hr.mono (by decide)) pE (pa_cons (pv 1) pa_nil) (argsPlain rfl (fun _ => rfl))
    (pss_cons (ps_if (PW.pt (pw_or (pt_not (pt_chain op_le op_le pe_int (pe_callB call_len_seq (by rfl) T.len PySem.boot_len (pa_cons (pv 3) pa_nil)) (pe_glob (v := .int 6) (by rfl) n6 ⟨_, rfl⟩)))
        (pw_or1 (pt_not (pt_val (pe_call GD (hr.mono (by decide)) (by rfl) mD kD bD .nil passL (pa_cons (pv 3) pa_nil)))))))
      (pss_one (ps_raiseGiv rfl PySem.Giv.ok_VE U.eK hr (takes_of rfl rfl rfl rfl) (pa_cons (pv 3) pa_nil) (by rfl))) pss_nil)
    (pss_cons (ps_if (pt_not (pt_val (pe_call GG (hr.mono (by decide)) (by rfl) mG kG bG .nil passL (pa_cons (pv 2) (pa_cons (pv 3) pa_nil)))))
      (pss_one (ps_raiseGiv rfl PySem.Giv.ok_VE U.eK hr (takes_of rfl rfl rfl rfl) (pa_cons (pv 2) pa_nil) (by rfl))) pss_nil)
    (pss_cons (ps_fld (pv 0) (pv 3) rfl)
    (pss_cons (ps_set (i := 4) hN rfl (Or.inr rfl) (pe_lc (scope := scA0) (own := [("group", 7)]) (g := gName 7) (tt := tYes) (te := teA K) rfl hN (pi_tup (pv 2)) (blkOk_by (N := NPn) (sc := defScope (sPin 0)) (by decide +kernel)) (fun _ _ _ _ _ => pg_name (i := 7) hN rfl (Or.inr rfl)) (fun _ _ _ _ _ => pts_nil)
        (fun _ _ _ _ _ => pe_lc (own := [("pin", 6)]) (g := gName 6) rfl hN (pi_tup (pv 3)) (blkOk_by (N := NPn) (sc := scA) (by decide +kernel)) (fun _ _ _ _ _ => pg_name (i := 6) hN rfl (Or.inl rfl)) (fun _ _ _ _ _ => pts_one (pt_cmpR op_in_seq (pv 6) (pv 7) (by rfl))) (fun _ _ _ _ _ => pv 6))))
    (pss_cons (ps_fld (pv 0) (pe_lc (scope := scB0) (own := [("group", 7)]) (g := gName 7) (tt := tYes) (te := teB K) rfl hN (pi_list (pv 4)) (blkOk_by (N := NPn) (sc := defScope (sPin 0)) (by decide +kernel)) (fun _ _ _ _ _ => pg_name (i := 7) hN rfl (Or.inl rfl)) (fun _ _ _ _ _ => pts_nil)
        (fun _ _ _ _ _ => pe_lc (wi := iList K (tVar 7)) (own := [("pin", 6)]) (g := gName 6) (tt := tYes) (te := teB0 K) rfl hN (pi_list (pv 7)) (blkOk_by (N := NPn) (sc := scB) (by decide +kernel)) (fun _ _ _ _ _ => pg_name (i := 6) hN rfl (Or.inl rfl)) (fun _ _ _ _ _ => pts_nil)
          (fun _ _ _ _ _ => pe_bmF PySem.F.plainAttrs_tuple PySem.F.slot_tuple_index PySem.F.type_tuple_index mt_tup_index (pv 3) (pa_cons (pv 6) pa_nil)))) rfl)
    (pss_cons (ps_fld (pv 0) (pe_call GO (hr.mono (by decide)) (by rfl) mO kO bO .nil passL (pa_cons (pe_lc (own := [("pin", 6)]) (g := gName 6) (tt := tYes) (te := teC K) rfl hN (pi_tup (pv 3)) (blkOk_by (N := NPn) (sc := defScope (sPin 0)) (by decide +kernel)) (fun _ _ _ _ _ => pg_name (i := 6) hN rfl (Or.inl rfl)) (fun _ _ _ _ _ => pts_nil)
        (fun _ _ _ _ _ => pe_call GM (hr.mono (by decide)) (by rfl) mM kM bM .nil passL (pa_cons (pv 6) (pa_cons (pv 3) (pa_cons (pv 4) pa_nil))))) pa_nil)) rfl)
    (pss_cons (ps_setLc2 (i := 5) (own := [("pin", 6), ("group", 7)]) (vs1 := [7]) (g := gName 6) (g1 := gName 7) (tt := tYes) (tt1 := ttD K) (wi1 := iList K (tVar 4)) (te := tVar 7) rfl hN rfl rfl (sw_true rfl rfl rfl (by decide +kernel)) (pi_tup (pv 3))
          (blkOk_by (N := NPn) (sc := defScope (sPin 0)) (by decide +kernel)) (by decide) (fun _ _ _ _ _ => pg_name (i := 6) hN rfl (Or.inl rfl)) (fun _ _ _ _ _ => pts_nil) (fun _ _ _ _ _ => pi_list (pv 4)) (fun _ _ _ _ _ => pg_name (i := 7) hN rfl (Or.inl rfl)) (fun _ _ _ _ _ => pts_one (pt_cmpR op_eq (pe_ix (show IxR _ (rIxL K) from ix_list) (pv 7) pe_int (fun _ _ => rfl)) (pv 6) (nomark _))) (fun _ _ _ _ _ => pv 7))
    (pss_one (ps_fld (pv 0) (pe_call GW (hr.mono (by decide)) (by rfl) mW kW bW .nil passL (pa_cons (pe_lst (pa_cons pe_str (pa_cons (pv 1) (pa_star (pv 3) pa_nil)))) (pa_cons (pe_join pe_str (pe_lc (own := [("group", 7)]) (g := gName 7) (tt := tYes) (te := teE K) rfl hN (pi_list (pv 5)) (blkOk_by (N := NPn) (sc := defScope (sPin 0)) (by decide +kernel)) (fun _ _ _ _ _ => pg_name (i := 7) hN rfl (Or.inl rfl)) (fun _ _ _ _ _ => pts_nil)
        (fun _ _ _ _ _ => pe_join pe_str (pv 7)))) pa_nil))) rfl))))))))) (by rfl), ?_⟩
  obtain ⟨p, dx, C, pa, v, sv, rest, o, rfl, hp, hpa, od', oc', kc, so, av, sh, l1, l6, its, k⟩ := h
  refine ⟨p, C, dx, [], rfl, hp, so, _, rfl, ?_⟩
  have npa : pa ≠ p := fun z => by rw [z, hp] at hpa; cases hpa
  by_cases hv : wdV v = true
  case neg =>
    rcases k with ⟨b, k⟩ | ⟨b, _⟩ | ⟨x, pins, e1, e2, b, _⟩
    · exact ⟨p, dx, C, v, rfl, hp, kc, av, sh, .inl ⟨b, fun e H' sm he => k e H' sm he⟩⟩
    · exact absurd b hv
    · rw [e1] at hv; exact absurd b hv
  obtain ⟨x, rfl, wx⟩ : ∃ x, v = .str x ∧ wd x = true := by
    cases v with
    | str x => exact ⟨x, rfl, hv⟩
    | _ => exact absurd hv (by simp [wdV])
  refine ⟨p, dx, C, .str x, rfl, hp, kc, av, sh, .inr ⟨x, rfl, wx, fun H1 a1 c0 a3 sm hp1 hc0 => ?_⟩⟩
  have hpa1 := sm _ _ npa hpa
  have line : 1000 ≤ sizeLine := by decide
  have sqF : ∀ {G : Hp}, G pa = some (.frz o (.tup rest)) → SqT K G pa rest := fun h => .inl (.inr ⟨o, h⟩)
  have its1 : ∀ G, Same H1 G → ∀ y ∈ rest, Av G y ∧ Shr y := fun G s y hy => by
    obtain ⟨h1, h2⟩ := its y hy
    exact ⟨(h1.sameX hp sm).same s, h2⟩
  refine ⟨_, rfl, pa, _, rfl, .inr (sqF hpa1), _, _, rfl, rfl, _, rfl, ?_⟩
  refine if_pos' (decide_eq_true (by omega)) ⟨_, _, rfl, rfl, _, rfl, ?_⟩
  refine if_neg' (by rw [decide_eq_true (show ((rest.length : Nat) : Int) ≤ 6 by omega)]; rfl) ?_
  refine ⟨_, rfl, pa, _, rfl, .inr (sqF hpa1), by omega, its1 H1 (Same.refl _), fun G2 s2 => ⟨_, rfl, ?_⟩⟩
  have sm2 : SameX p H G2 := fun b u n q => s2 _ _ (sm b u n q)
  have hpa2 := s2 _ _ hpa1
  cases hd : difV rest with
  | false =>
    refine if_pos' rfl ⟨_, rfl, _, rfl, fun e ne => ?_⟩
    rcases k with ⟨b', _⟩ | ⟨_, _, k⟩ | ⟨_, _, _, _, _, b', _⟩
    · rw [hv] at b'; cases b'
    · exact k e _ (fun b u n q => same_upd ne _ _ (sm2 b u n q)) upd_same
    · rw [hd] at b'; cases b'
  | true =>
  refine if_neg' rfl ?_
  rcases k with ⟨b', _⟩ | ⟨_, b', _⟩ | ⟨x', pins, e1, er, _, _, c12, k⟩
  · rw [hv] at b'; cases b'
  · rw [hd] at b'; cases b'
  cases e1
  subst er
  rw [List.length_map] at l1 l6
  -- the groups
  rcases k with ⟨av2, nt, ke⟩ | ⟨ga, gs, os, rfl, gr, n10, n40, sh2, k⟩
  · refine ⟨_, rfl, _, rfl, sv, pa, pins, rfl, sqF hpa2, .inl ⟨(av2.sameX hp sm).same s2, fun a xs e h => ?_, _, rfl, if_pos' rfl ⟨_, rfl, _, rfl, fun e ne => ke e _ (fun b u n q => same_upd ne _ _ (sm2 b u n q)) upd_same⟩⟩⟩
    subst e
    cases av2 with
    | lst e =>
      have := sm2 _ _ (fun z => by rw [z, hp] at e; cases e) e
      rw [h] at this
      cases this
    | tup e => exact nt _ _ rfl e
  refine ⟨_, rfl, _, rfl, _, pa, pins, rfl, sqF hpa2, .inr ⟨ga, gs, os, rfl, gr.sameX hp sm2, n10, n40, sh2, fun G3 s3 => ⟨_, rfl, ?_⟩⟩⟩
  have sm3 : SameX p H G3 := fun b u n q => s3 _ _ (sm2 b u n q)
  rcases k with ⟨hb, ke⟩ | ⟨hb, kk⟩
  · rw [hb]
    exact if_pos' rfl ⟨_, rfl, _, rfl, fun e ne => ke e _ (fun b u n q => same_upd ne _ _ (sm3 b u n q)) upd_same⟩
  rw [hb]
  refine if_neg' rfl ?_
  have gOks : os.all gOk = true := by
    unfold grpB at hb
    rw [Bool.and_eq_true] at hb
    exact hb.1
  have gne := grp_ne hb
  have gsub := @gs_sub os pins
  have glen := @gs_len os pins
  have gcnt : (gsOf pins os).length ≤ 10 := by
    have e : (gsOf pins os).length = os.length := List.length_map ..
    have := gr.len
    omega
  have gflat : (gsOf pins os).flatten.length ≤ 100 := by
    have := flat_len (gss := gsOf pins os) (n := 6) fun g hg => Nat.le_trans (glen g hg) l6
    omega
  -- pins
  have m3 : Mkg p C dx H1 G3 (kf (.str x) (.ref a1) (.ref c0) (.bl false) (.ref a3) (.str (kindT x))) := (Mkg.start hp1).same (s2.trans s3)
  refine ⟨_, rfl, _, rfl, p, C, dx, _, rfl, m3.at_, kc.cl, kc.n2, kf_few .., ?_⟩
  rw [kp_pins]
  have m4 := m3.put (fs' := kf (.str x) (.ref pa) (.ref c0) (.bl false) (.ref a3) (.str (kindT x)))
  generalize upd G3 p (.ins C dx (kf (.str x) (.ref pa) (.ref c0) (.bl false) (.ref a3) (.str (kindT x)))) = G4 at m4 ⊢
  have nc0 : c0 ≠ p := fun z => by rw [z, hp1] at hc0; cases hc0
  have smH : ∀ {G : Hp} {fs : List (Str × V)}, Mkg p C dx H1 G fs → SameX p H G := fun m b u n q => m.sm b u n (sm b u n q)
  -- groups
  dsimp only [tSeq, tAsg]
  refine lcA (gr.sameX hp (smH m4)) gOks (sqF (m4.sm _ _ npa hpa1)) l6 n10 fun D qs G5 s5 L5 => ?_
  have m5 := m4.same s5
  have glen6 : ∀ g ∈ gsOf pins os, g.length ≤ 6 := fun g hg => Nat.le_trans (glen g hg) l6
  dsimp only [gName, tSeq, sFld, tAsg]
  refine lcB L5 (m5.sm _ _ npa hpa1) od' oc' gsub glen6 gcnt fun B xs G6 s6 hB => ?_
  have m6 := m5.same s6
  have L6 := L5.same s6
  refine ⟨_, rfl, p, C, dx, _, rfl, m6.at_, kc.cl, kc.n7, kf_few .., ?_⟩
  rw [kf_grp]
  have m7 := m6.put (fs' := kf (.str x) (.ref pa) (.ref c0) (.bl false) (.ref a3) (.str (kindT x)) ++ [(("_groups" : Str), V.ref B)])
  have Lput : ∀ {G : Hp} {fs : List (Str × V)} {u : HO}, Mkg p C dx H1 G fs → LLt G D (gsOf pins os) qs → LLt (upd G p u) D (gsOf pins os) qs := fun {G fs u} m L =>
    ⟨put_ne L.at_ m.at_ (by intro _ _ _ z; cases z), L.len, fun i q hq => let ⟨g, h1, h2⟩ := L.it i q hq; ⟨g, h1, put_ne h2 m.at_ (by intro _ _ _ z; cases z)⟩⟩
  have L7 := Lput (u := .ins C dx (kf (.str x) (.ref pa) (.ref c0) (.bl false) (.ref a3) (.str (kindT x)) ++ [(("_groups" : Str), V.ref B)])) m6 L6
  generalize upd G6 p (.ins C dx (kf (.str x) (.ref pa) (.ref c0) (.bl false) (.ref a3) (.str (kindT x)) ++ [(("_groups" : Str), V.ref B)])) = G7 at m7 L7 ⊢
  -- orders
  dsimp only [tSeq, sFld, tCall, tCons, tNil]
  refine lcC L7 (sqF (m7.sm _ _ npa hpa1)) l6 gcnt gflat fun Cc rs G8 s8 L8 => ?_
  refine ⟨Cc, _, rs, rfl, L8, by rw [List.length_map]; exact l6, fun c hc => ?_, fun r G9 s9 tt => ?_⟩
  · obtain ⟨z, _, rfl⟩ := List.mem_map.mp hc
    rw [List.length_map]
    exact Nat.le_trans (mTo_len _) l6
  have m9 := m7.same (s8.trans s9)
  refine ⟨_, rfl, p, C, dx, _, rfl, m9.at_, kc.cl, kc.n5, by show 7 < 1000; decide, ?_⟩
  rw [kf_ords]
  have m10 := m9.put (fs' := kf (.str x) (.ref pa) (.ref c0) (.bl false) (.ref r) (.str (kindT x)) ++ [(("_groups" : Str), V.ref B)])
  have L10 := Lput (u := .ins C dx (kf (.str x) (.ref pa) (.ref c0) (.bl false) (.ref r) (.str (kindT x)) ++ [(("_groups" : Str), V.ref B)])) m9 (L7.same (s8.trans s9))
  have tt10 : TT (upd G9 p (.ins C dx (kf (.str x) (.ref pa) (.ref c0) (.bl false) (.ref r) (.str (kindT x)) ++ [(("_groups" : Str), V.ref B)]))) r (pinO pins (gsOf pins os)) := tt.sameX (p := p) (fun b o nb e => by rw [upd_ne nb]; exact e) m9.at_ (by intro xs z; cases z)
  generalize upd G9 p (.ins C dx (kf (.str x) (.ref pa) (.ref c0) (.bl false) (.ref r) (.str (kindT x)) ++ [(("_groups" : Str), V.ref B)])) = G10 at m10 L10 tt10 ⊢
  -- ordered
  refine lcD L10 (sqF (m10.sm _ _ npa hpa1)) l6 gcnt gne fun Dd ds G11 s11 L11 => ?_
  have m11 := m10.same s11
  have hpa11 := sqF (m11.sm _ _ npa hpa1)
  have tt11 := tt10.same s11
  -- the line
  have x12 : x.length ≤ 12 := by
    unfold wd at wx
    simp only [Bool.and_eq_true, decide_eq_true_eq] at wx
    exact wx.1.1.1.1.2
  have ol : (ordG pins (gsOf pins os)).length ≤ 60 := by
    have h1 := ordG_len pins (gsOf pins os)
    have h2 : pins.length * (gsOf pins os).length ≤ 6 * 10 := Nat.mul_le_mul l6 gcnt
    omega
  refine ⟨_, rfl, _, rfl, pa, _, rfl, .inl hpa11, ?_, fun l nl => ?_⟩
  · simp only [List.length_cons, List.length_append, List.length_nil, List.length_map]
    omega
  have sl := same_upd (o := .lst (V.str "pins" :: V.str x :: (pins.map V.str ++ []))) nl
  refine ⟨⟨_, rfl⟩, ?_⟩
  refine lcE (L11.same sl) (by omega) (fun g hg => ⟨glen6 g (ordG_mem hg), fun z hz => c12 z (gsub g (ordG_mem hg) z hz)⟩) fun De G12 s12 hDe => ?_
  have spc : (Str.ofString " ").length = 1 := by decide +kernel
  have com : (Str.ofString " , ").length = 3 := by decide +kernel
  have each : ∀ y ∈ (ordG pins (gsOf pins os)).map (Txt.join " "), y.length ≤ 78 := fun y hy => by
    obtain ⟨g, hg, rfl⟩ := List.mem_map.mp hy
    have h1 := join_le (a := " ") g
    have h2 := sum_le (ys := g) (n := 12) fun z hz => c12 z (gsub g (ordG_mem hg) z hz)
    have h3 := glen6 g (ordG_mem hg)
    rw [spc] at h1
    omega
  have tot := sum_le each
  rw [List.length_map] at tot
  have tail_le := join_le (a := " , ") ((ordG pins (gsOf pins os)).map (Txt.join " "))
  rw [com, List.length_map] at tail_le
  refine ⟨" , ", De, _, rfl, rfl, .inl (SqL.of hDe), by rw [com, List.length_map]; omega, ?_⟩
  have m12 := m11.same ((same_upd (o := .lst (V.str "pins" :: V.str x :: (pins.map V.str ++ []))) nl).trans s12)
  have ws : G12 l = some (.lst ((("pins" : Str) :: x :: pins).map V.str)) := by
    rw [s12 _ _ upd_same, List.append_nil]
    rfl
  refine ⟨l, ("pins" : Str) :: x :: pins, _, rfl, SqL.of ws, by simp only [List.length_cons]; omega, ?_, by omega, fun G13 s13 => ?_⟩
  · have h1 := sum_le (ys := pins) (n := 12) c12
    unfold size
    rw [List.map_cons, List.map_cons, List.sum_cons, List.sum_cons, show (Str.ofString "pins").length = 4 by decide +kernel]
    omega
  have m13 := m12.same s13
  refine ⟨_, rfl, p, C, dx, _, rfl, m13.at_, kc.cl, kc.n6, by show 7 < 1000; decide, ?_⟩
  rw [kf_line]
  have m14 := m13.put (fs' := kf (.str x) (.ref pa) (.ref c0) (.bl false) (.ref r) (.str (pinT x pins (gsOf pins os))) ++ [(("_groups" : Str), V.ref B)])
  refine kk _ (smH m14) ⟨pa, c0, r, B, m14.at_, sqF (m14.sm _ _ npa hpa1), m14.sm _ _ nc0 hc0, ?_⟩
  exact (tt11.same (((same_upd (o := .lst (V.str "pins" :: V.str x :: (pins.map V.str ++ []))) nl).trans s12).trans s13)).sameX (p := p) (fun b o nb e => by rw [upd_ne nb]; exact e) m13.at_ (by intro xs z; cases z)
end
end R4
end

-- K4n
section
set_option Elab.async false
set_option linter.all false
set_option maxRecDepth 100000
set_option exponentiation.threshold 10000
namespace SupX
open PySem PySem.Spec PyProof.Rows L2
/-- e.f, a property of whatever class of ours -/
def tPropC (S : Addr → Prop) (sp : Sp) (E : XK) (ta : TE) : TE := fun σ H Q => ta σ H fun x H1 => ∃ a C dx fs, x = .ref a ∧ H1 a = some (.ins C dx fs) ∧ S C ∧ sp [.ref a] H1 Q E
section
variable {X : Cx} {CX : CXT} {k : Nat} {p g : Addr} {f : Str} {fd : FuncData} {ps : List Str} {sp : Sp} {E : XK} {e : Expr} {pos : Pos} {ta : TE} {S : Addr → Prop}
theorem pe_propC (he : PE X e ta) (c : ∀ C, S C → Cls X.K C ∧ PropOf X.K C f p g) (F : FnOk X.prog X.w X.K X.mg X.base CX k g fd ps sp) (hr : Room (k + 1) X.A) (hb : L2.Binds X.K fd ps []) (hx : Passes CX X.nox E)
    (hab : attributeBase e f X.env (eval e X.env) = eval e X.env) : PE X (.Attribute e f pos) (tPropC S sp E ta) := by
  constructor
  intro pins s σ H Q I h
  refine attr_of hab (thn (he.run pins s σ H _ I h) fun u s1 ⟨x, H1, I1, rx, a, C, dx, fs, ex, ea, hS, q⟩ => ?_)
  subst ex
  cases rx
  exact getprop_ok I1 ea (c C hS).1 (c C hS).2 F hr hb .nil hx q
end
end SupX
namespace R4
open PySem L2 OwnOps OwnNe G1 StX SupX
/-- a class of kinds, by what is asked of its instances -/
structure KndC (K : PySem.W.Frag) (DK tp tg C : Addr) : Prop where
  kc : KCls K C
  tx : PropOf K C "text" tp tg
  ha : PySem.W.findIn K (.ref C) "__class__" = some (some (.builtin "object.__class__"))
  hm : PySem.W.mroIn K C (.type "object") = some true
  kK : PySem.W.kitOne K (.ref C) (.ref DK) = some true
structure KndT (K : PySem.W.Frag) (mg : Str → Option Value) (DK : Addr) : Prop where
  gK : mg "Kind" = some (.ref DK)
  hn : PySem.W.specialIn K (.builtin "object.__class__") "__get__" = some (some (.builtin "getset_descriptor.__get__"))
  htk : PySem.W.takesIn K (.builtin "object.__class__") = some true
  ksK : PySem.W.kitOne K (.type "str") (.ref DK) = some false
/-- a kind, by its line -/
structure KndI (K : PySem.W.Frag) (DK tp tg : Addr) (H : Hp) (p : Addr) (l : Str) : Prop where
  ex : ∃ C dx fs, H p = some (.ins C dx fs) ∧ KndC K DK tp tg C ∧ fs.lookup ("_line" : Str) = some (.str l)
section
variable {P : Program} {w : World} {K : PySem.W.Frag} {mg : Str → Option Value} {base : Heap} {DK tp tg : Addr}
def spText (K : PySem.W.Frag) (DK tp tg : Addr) : Sp := fun vs H Q _ => ∃ p l, vs = [.ref p] ∧ KndI K DK tp tg H p l ∧ Q (.str l) H
theorem ok_text {f : Addr} {fd : FuncData} (F : Fun K "text" "Kind.text" (sKi 4) f fd) : FnOk P w K mg base (L2.CX P w) 1 f fd ["self"] (spText K DK tp tg) := by
  have sc : FnScope ["self"] ["self"] (defScope (sKi 4)) := ⟨rfl, rfl, rfl, by decide +kernel, rfl, by decide +kernel, by decide +kernel⟩
  refine F.okX sc (fun vs H Q E h => ?_) (fun cdv A outer s H vs Q E hr h => ?_)
  · obtain ⟨p, l, rfl, _⟩ := h
    rfl
  · obtain ⟨p, l, rfl, ⟨C, dx, fs, hp, kc, lk⟩, k⟩ := h
    exact ⟨_, pss_one (ps_ret (pe_fld (pv 0) rfl)), _, rfl, p, C, dx, fs, _, rfl, hp, kc.kc.cl, kc.kc.n6, lk, k⟩
def spKEq (K : PySem.W.Frag) (DK tp tg : Addr) : Sp := fun vs H Q _ => ∃ p l v, vs = [.ref p, v] ∧ KndI K DK tp tg H p l ∧ ((∃ q l', v = .ref q ∧ KndI K DK tp tg H q l' ∧ Q (.bl (decide (l = l'))) H) ∨ (∃ z, v = .str z ∧ Q (.bl false) H))
theorem ok_keq {f ft : Addr} {fd ftd : FuncData} (F : Fun K "__eq__" "Kind.__eq__" (sKi 5) f fd) (T : Bi mg) (U : KndT K mg DK) (GT : FnOk P w K mg base (L2.CX P w) 1 tg ftd ["self"] (spText K DK tp tg)) (bT : L2.Binds K ftd ["self"] []) :
    FnOk P w K mg base (L2.CX P w) 3 f fd ["self", "other"] (spKEq K DK tp tg) := by
  have sc : FnScope ["self", "other"] ["self", "other"] (defScope (sKi 5)) := ⟨rfl, rfl, rfl, by decide +kernel, rfl, by decide +kernel, by decide +kernel⟩
  refine F.okX sc (fun vs H Q E h => ?_) (fun cdv A outer s H vs Q E hr h => ?_)
  · obtain ⟨p, l, v, rfl, _⟩ := h
    rfl
  · obtain ⟨p, l, v, rfl, kp, k⟩ := h
    have cS : ∀ C, KndC K DK tp tg C → Cls K C ∧ PropOf K C "text" tp tg := fun C h => ⟨h.kc.cl, h.tx⟩
    refine ⟨_, pss_one (ps_ret (pe_and (pe_callB call_isi (by rfl) T.isi (by decide +kernel) (pa_cons (pv 1) (pa_cons (pe_glob (v := .ref DK) (by rfl) U.gK rfl) pa_nil))) (pe_one (pe_cmpR op_eq (pe_propC (E := E0) (pv 0) cS GT hr bT passL rfl) (pe_propC (E := E0) (pv 1) cS GT hr bT passL rfl) (nomark _))))), ?_⟩
    rcases k with ⟨q, l', rfl, kq, k⟩ | ⟨z, rfl, k⟩
    · obtain ⟨C, dx, fs, hp, kc, lk⟩ := id kp
      obtain ⟨C', dx', fs', hq, kc', lk'⟩ := id kq
      refine ⟨_, rfl, _, _, _, _, _, rfl, .own DK, .base (.ins hq kc'.kc.cl kc'.ha U.hn U.htk kc'.hm), kc'.kK, _, rfl, iteT ⟨_, rfl, p, C, dx, fs, rfl, hp, kc, p, l, rfl, kp, _, rfl, q, C', dx', fs', rfl, hq, kc', q, l', rfl, kq, rfl, ?_⟩⟩
      have e : decide (V.str l = V.str l') = decide (l = l') := by rw [decide_eq_decide]; exact ⟨fun h => V.str.inj h, fun h => by rw [h]⟩
      rw [e]
      exact k
    · exact ⟨_, rfl, _, _, _, _, _, rfl, .own DK, .base (.str z), U.ksK, _, rfl, iteF k⟩
/-- rules(): a new dict -/
def spRules (K : PySem.W.Frag) : Sp := fun vs H Q _ => ∃ p C dx fs ra kvs, vs = [.ref p] ∧ H p = some (.ins C dx fs) ∧ KCls K C ∧ fs.lookup ("_rules" : Str) = some (.ref ra) ∧ H ra = some (.dK kvs) ∧ ∀ r H', Same H H' → H r = none → H' r = some (.dK kvs) → Q (.ref r) H'
theorem ok_rules {f : Addr} {fd : FuncData} (F : Fun K "rules" "JoiningKind.rules" (sJoi 1) f fd) (T : Bi mg) : FnOk P w K mg base (L2.CX P w) 1 f fd ["self"] (spRules K) := by
  have sc : FnScope ["self"] ["self"] (defScope (sJoi 1)) := ⟨rfl, rfl, rfl, by decide +kernel, rfl, by decide +kernel, by decide +kernel⟩
  refine F.okX sc (fun vs H Q E h => ?_) (fun cdv A outer s H vs Q E hr h => ?_)
  · obtain ⟨p, C, dx, fs, ra, kvs, rfl, _⟩ := h
    rfl
  · obtain ⟨p, C, dx, fs, ra, kvs, rfl, hp, kc, lk, hra, k⟩ := h
    refine ⟨_, pss_one (ps_ret (pe_callTy call_dictD (by rfl) T.dict (by decide +kernel) (pa_cons (pe_fld (pv 0) rfl) pa_nil))), ?_⟩
    exact ⟨_, rfl, p, C, dx, fs, _, rfl, hp, kc.cl, kc.n8, lk, ra, kvs, rfl, .inl hra, fun r nr => k r _ (same_upd nr) nr upd_same⟩
end
end R4
end

-- K4o
section
set_option Elab.async false
set_option linter.all false
set_option maxRecDepth 100000
set_option exponentiation.threshold 10000
namespace R4
open PySem L2 OwnOps OwnNe G1 StX SupX
abbrev sDraws : Stmt := top 37
abbrev sDraw : Stmt := top 38
theorem dp_ints {K : PySem.W.Frag} {H : Hp} : ∀ ns : List Int, DpAll K H (ns.map V.int) (ns.map PyData.int)
  | [] => .nil
  | n :: r => .cons (.int n) (dp_ints r)
theorem atI_mod {ns : List Int} {k : Int} (h : ns ≠ []) : ∃ z, atI (ns.map V.int) (k % (ns.length : Int)) = some (.int z) := by
  have hl : 0 < ns.length := List.length_pos_iff.mpr h
  have h1 : 0 ≤ k % (ns.length : Int) := Int.emod_nonneg _ (by omega)
  have h2 : k % (ns.length : Int) < ns.length := Int.emod_lt_of_pos _ (by omega)
  obtain ⟨j, hj⟩ : ∃ j : Nat, k % (ns.length : Int) = j := ⟨_, (Int.toNat_of_nonneg h1).symm⟩
  have h3 : j < ns.length := by omega
  refine ⟨ns[j], at_of hj ?_⟩
  rw [List.getElem?_map, List.getElem?_eq_getElem h3]
  rfl
section
variable {P : Program} {w : World} {K : PySem.W.Frag} {mg : Str → Option Value} {base : Heap}
/-! ### the law's draws -/
def spDraws (K : PySem.W.Frag) : Sp := fun vs H Q _ => ∃ (a : Addr) (ns : List Int) (k : Int), vs = [.ref a, .int k] ∧ SqL K H a (ns.map V.int) ∧
  ∀ p x y H', Same H H' → H' p = some (.lst [.int x, .int y]) → H p = none → Q (.ref p) H'
theorem ok_draws {f : Addr} {fd : FuncData} (F : Fun K "_law_draws" "_law_draws" sDraws f fd) (T : Bi mg) :
    FnOk P w K mg base (L2.CX P w) 1 f fd ["_law_script", "_law_k"] (spDraws K) := by
  have sc : FnScope ["_law_script", "_law_k", "_law_cell", "_law_seed"] ["_law_script", "_law_k"] (defScope sDraws) := ⟨rfl, rfl, rfl, by decide +kernel, rfl, by decide +kernel, by decide +kernel⟩
  refine F.okX sc (fun vs H Q E h => ?_) (fun cdv A outer s H vs Q E hr h => ?_)
  · obtain ⟨a, ns, k, rfl, _⟩ := h
    rfl
  · obtain ⟨a, ns, k, rfl, hS, fin⟩ := h
    refine ⟨_, pss_cons (ps_set (i := 2) sc.nd rfl (Or.inl rfl) pe_int)
      (pss_cons (ps_if (pt_cmpR (op_neD hr.units) (pv 0) (pe_lst pa_nil) (nomark _))
        (pss_one (ps_set (i := 2) sc.nd rfl (Or.inl rfl) (pe_ix ix_list (pv 0) (pe_op op_mod (pe_callTy call_int1 (by rfl) T.int (by decide +kernel) (pa_cons (pv 1) pa_nil)) (pe_callB call_len_seq (by rfl) T.len PySem.boot_len (pa_cons (pv 0) pa_nil))) (fun _ _ => rfl)))) pss_nil)
      (pss_cons (ps_if (pt_cmpR op_ge (pv 1) (pe_callB call_len_seq (by rfl) T.len PySem.boot_len (pa_cons (pv 0) pa_nil)) (nomark _))
        (pss_one (ps_set (i := 2) sc.nd rfl (Or.inl rfl) (pe_op op_mod (pe_callTy call_int1 (by rfl) T.int (by decide +kernel) (pa_cons (pv 2) pa_nil)) pe_int))) pss_nil)
      (pss_cons (ps_set (i := 3) sc.nd rfl (Or.inl rfl) (pe_op op_mod (pe_op op_mul (pe_callTy call_int1 (by rfl) T.int (by decide +kernel) (pa_cons
          (pe_op op_add (pe_op op_add (pe_op op_mod (pe_callTy call_int1 (by rfl) T.int (by decide +kernel) (pa_cons (pv 2) pa_nil)) pe_int) (pe_op op_mul pe_int (pv 1))) pe_int) pa_nil)) pe_int) pe_int))
      (pss_one (ps_ret (pe_lst (pa_cons (pe_op op_mul (pv 2) (pe_callTy call_int1 (by rfl) T.int (by decide +kernel) (pa_cons (pe_cmpR op_ge (pv 2) (pe_op op_pow pe_int pe_int) (nomark _)) pa_nil))) (pa_cons (pv 3) pa_nil)))))))), ?_⟩
    refine ⟨_, rfl, (by show 0 ≤ sizeLine; exact Nat.zero_le _), fun p0 np0 => ?_⟩
    have s0 : Same H (upd H p0 (.lst [])) := same_upd np0
    have hS0 := s0.seq hS
    have e0 : (upd H p0 (.lst [])) p0 = some (.lst []) := upd_same
    generalize upd H p0 (.lst []) = H0 at s0 hS0 e0
    have el : (1000003 : Int) > 0 := by decide
    have bits : ∀ z : Int, -(2 ^ 64) < (if decide (z ≥ 10 ^ 18) = true then (1 : Int) else 0) ∧ (if decide (z ≥ 10 ^ 18) = true then (1 : Int) else 0) < 2 ^ 64 := fun z => by
      split <;> exact ⟨by decide, by decide⟩
    refine ⟨.list (ns.map PyData.int), .list [], .lst hS0 (dp_ints ns), .lst (SqL.of e0) .nil, PySem.W.ke_shaped_ints ns, by decide +kernel, _, rfl, ?_⟩
    by_cases hn : ns = []
    · subst hn
      refine iteF ?_
      refine ⟨_, rfl, _, rfl, a, _, rfl, .inl hS0, _, _, rfl, rfl, _, rfl, ?_⟩
      refine ite2 (fun _ => ⟨_, rfl, .inl ⟨_, rfl, _, _, rfl, rfl, (by show (0 : Int) < 1000003; decide), ?_⟩⟩) (fun _ => ?_)
      all_goals
        refine ⟨_, rfl, .inl ⟨_, rfl, _, _, rfl, rfl, (by show (0 : Int) < 2147483629; decide), _, rfl, _, _, rfl, rfl, .inl ⟨by decide, by decide⟩, _, _, rfl, rfl, _, _, rfl, rfl, .inl ⟨_, rfl, _, _, rfl, rfl, .inr ⟨by decide, by decide⟩, _, _, rfl, rfl, (by show (0 : Int) < 2147483647; decide), ?_⟩⟩⟩
        refine ⟨_, rfl, _, rfl, _, _, rfl, rfl, ⟨by decide, by decide, by decide +kernel⟩, _, _, rfl, rfl, .inr ⟨_, rfl, _, _, rfl, rfl, .inr (bits _), _, rfl, (by show 2 ≤ sizeLine; decide), fun p np => ?_⟩⟩
        exact fin p _ _ _ (s0.trans (same_upd np)) upd_same (s0.free np)
    · have ef : PyData.eqv (.list (ns.map PyData.int)) (.list []) = false := by
        cases ns with
        | nil => exact absurd rfl hn
        | cons _ _ => rfl
      rw [ef]
      obtain ⟨z, hz⟩ := atI_mod (k := k) hn
      refine iteT ⟨_, rfl, _, rfl, .inl ⟨_, rfl, _, rfl, a, _, rfl, .inl hS0, _, _, rfl, rfl, (by rw [List.length_map]; exact Int.natCast_pos.mpr (List.length_pos_iff.mpr hn)), a, _, _, _, rfl, rfl, hS0, (by rw [List.length_map]; exact hz), ?_⟩⟩
      refine ⟨_, rfl, _, rfl, a, _, rfl, .inl hS0, _, _, rfl, rfl, _, rfl, ?_⟩
      refine ite2 (fun _ => ⟨_, rfl, .inl ⟨_, rfl, _, _, rfl, rfl, (by show (0 : Int) < 1000003; decide), ?_⟩⟩) (fun _ => ?_)
      all_goals
        refine ⟨_, rfl, .inl ⟨_, rfl, _, _, rfl, rfl, (by show (0 : Int) < 2147483629; decide), _, rfl, _, _, rfl, rfl, .inl ⟨by decide, by decide⟩, _, _, rfl, rfl, _, _, rfl, rfl, .inl ⟨_, rfl, _, _, rfl, rfl, .inr ⟨by decide, by decide⟩, _, _, rfl, rfl, (by show (0 : Int) < 2147483647; decide), ?_⟩⟩⟩
        refine ⟨_, rfl, _, rfl, _, _, rfl, rfl, ⟨by decide, by decide, by decide +kernel⟩, _, _, rfl, rfl, .inr ⟨_, rfl, _, _, rfl, rfl, .inr (bits _), _, rfl, (by show 2 ≤ sizeLine; decide), fun p np => ?_⟩⟩
        exact fin p _ _ _ (s0.trans (same_upd np)) upd_same (s0.free np)
def spDraw : Sp := fun vs H Q _ => ∃ (l : Addr) (u x y : Int), vs = [.ref l, .int u] ∧ 0 < u ∧ u < 1073741824 ∧ H l = some (.lst [.int x, .int y]) ∧
  ∀ d x' y', 0 ≤ d → d < u → Q (.int d) (upd H l (.lst [.int x', .int y']))
theorem ok_draw {f : Addr} {fd : FuncData} (F : Fun K "_law_draw" "_law_draw" sDraw f fd) (T : Bi mg) :
    FnOk P w K mg base (L2.CX P w) 1 f fd ["_law_draws_here", "_law_upto"] spDraw := by
  have sc : FnScope ["_law_draws_here", "_law_upto", "_law_digit"] ["_law_draws_here", "_law_upto"] (defScope sDraw) := ⟨rfl, rfl, rfl, by decide +kernel, rfl, by decide +kernel, by decide +kernel⟩
  refine F.okX sc (fun vs H Q E h => ?_) (fun cdv A outer s H vs Q E hr h => ?_)
  · obtain ⟨l, u, x, y, rfl, _⟩ := h
    rfl
  · obtain ⟨l, u, x, y, rfl, u0, u1, hl, fin⟩ := h
    refine ⟨_, pss_cons (ps_if (pt_cmpR op_gt (pe_ix ix_list (pv 0) pe_int (fun _ _ => rfl)) pe_int (nomark _))
        (pss_cons (ps_set (i := 2) sc.nd rfl (Or.inl rfl) (pe_op op_mod (pe_callTy call_int1 (by rfl) T.int (by decide +kernel) (pa_cons (pe_ix ix_list (pv 0) pe_int (fun _ _ => rfl)) pa_nil)) (pv 1)))
        (pss_cons (ps_asg (pe_op op_fdiv (pe_ix ix_list (pv 0) pe_int (fun _ _ => rfl)) (pv 1)) (pg_sub (pv 0) pe_int set_list))
        (pss_one (ps_ret (pv 2))))) pss_nil)
      (pss_cons (ps_asg (pe_op op_mod (pe_callTy call_int1 (by rfl) T.int (by decide +kernel) (pa_cons (pe_op op_add (pe_op op_mul (pe_ix ix_list (pv 0) pe_int (fun _ _ => rfl)) pe_int) pe_int) pa_nil)) pe_int) (pg_sub (pv 0) pe_int set_list))
      (pss_one (ps_ret (pe_op op_mod (pe_callTy call_int1 (by rfl) T.int (by decide +kernel) (pa_cons (pe_op op_fdiv (pe_op op_mod (pe_callTy call_int1 (by rfl) T.int (by decide +kernel)
        (pa_cons (pe_op op_mul (pe_ix ix_list (pv 0) pe_int (fun _ _ => rfl)) (pe_ix ix_list (pv 0) pe_int (fun _ _ => rfl))) pa_nil)) pe_int) pe_int) pa_nil)) (pv 1))))), ?_⟩
    refine ⟨_, rfl, l, _, _, _, rfl, rfl, SqL.of hl, at_of (j := 0) rfl rfl, _, _, rfl, rfl, _, rfl, ?_⟩
    refine ite2 (fun _ => ?_) (fun _ => ?_)
    · refine ⟨_, rfl, l, _, _, _, rfl, rfl, SqL.of hl, at_of (j := 0) rfl rfl, .inl ⟨_, rfl, _, rfl, _, _, rfl, rfl, u0, ?_⟩⟩
      refine ⟨_, rfl, l, _, _, _, rfl, rfl, SqL.of hl, at_of (j := 0) rfl rfl, _, rfl, _, _, rfl, rfl, ⟨u0, u1⟩, _, rfl, l, _, _, 0, rfl, rfl, hl, rfl, _, rfl, ?_⟩
      exact fin _ _ _ (Int.emod_nonneg _ (Int.ne_of_gt u0)) (Int.emod_lt_of_pos _ u0)
    · refine ⟨_, rfl, l, _, _, _, rfl, rfl, SqL.of hl, at_of (j := 1) rfl rfl, _, _, rfl, rfl, .inr ⟨by decide, by decide⟩, _, _, rfl, rfl, .inl ⟨_, rfl, _, _, rfl, rfl, (by show (0 : Int) < 2147483647; decide), _, rfl, l, _, _, 1, rfl, rfl, hl, rfl, ?_⟩⟩
      have y0 : 0 ≤ (y * 48271 + 11) % 2147483647 := Int.emod_nonneg _ (by decide)
      have y1 : (y * 48271 + 11) % 2147483647 < 2147483647 := Int.emod_lt_of_pos _ (by decide)
      have hl2 : (upd H l (.lst [.int x, .int ((y * 48271 + 11) % 2147483647)])) l = some (.lst [.int x, .int ((y * 48271 + 11) % 2147483647)]) := upd_same
      refine ⟨_, rfl, l, _, _, .int ((y * 48271 + 11) % 2147483647), rfl, rfl, SqL.of hl2, at_of (j := 1) rfl rfl, _, rfl, l, _, _, .int ((y * 48271 + 11) % 2147483647), rfl, rfl, SqL.of hl2, at_of (j := 1) rfl rfl, _, _, rfl, rfl, .inl ⟨by omega, by omega⟩, .inl ⟨_, rfl, _, _, rfl, rfl, (by show (0 : Int) < 2147483629; decide), _, _, rfl, rfl, ⟨by decide, by decide⟩, .inl ⟨_, rfl, _, rfl, _, _, rfl, rfl, u0, ?_⟩⟩⟩
      exact fin _ _ _ (Int.emod_nonneg _ (Int.ne_of_gt u0)) (Int.emod_lt_of_pos _ u0)
end
end R4
end

-- K4p
section
set_option Elab.async false
set_option linter.all false
set_option maxRecDepth 100000
set_option exponentiation.threshold 10000
namespace R4
open PySem L2 OwnOps OwnNe G1 StX SupX
abbrev sLOr : Stmt := top 39
/-- all orders of n things, as the law finds them -/
def lawO (n : Nat) : List (List Int) := ordersT (List.replicate n (upto n))
theorem LTs.cat {G : Hp} {L D M : Addr} {o1 o2 : List (List Int)} {as bs : List Addr} (h1 : LTs G L o1 as) (h2 : LTs G D o2 bs) (nM : G M = none) : LTs (upd G M (.lst (as.map V.ref ++ bs.map V.ref))) M (o1 ++ o2) (as ++ bs) where
  at_ := by rw [upd_same, List.map_append]
  len := by rw [List.length_append, List.length_append, h1.len, h2.len]
  it := fun i q hq => by
    by_cases lt : i < as.length
    · rw [List.getElem?_append_left lt] at hq
      obtain ⟨o, a, b⟩ := h1.it i q hq
      exact ⟨o, by rw [List.getElem?_append_left (h1.len ▸ lt)]; exact a, same_upd nM _ _ b⟩
    · rw [List.getElem?_append_right (by omega)] at hq
      obtain ⟨o, a, b⟩ := h2.it _ q hq
      exact ⟨o, by rw [List.getElem?_append_right (by have := h1.len; omega), ← h1.len]; exact a, same_upd nM _ _ b⟩
theorem lawO_step {n k : Nat} (h : k < n) : ordersT ((List.replicate n (upto n)).take (k + 1)) = stepO (ordersT ((List.replicate n (upto n)).take k)) (upto n) :=
  orders_succ (by rw [List.getElem?_replicate_of_lt h])
theorem upto_at {n m : Nat} (h : m < n) : (upto n)[m]? = some ((m : Nat) : Int) := by
  unfold upto
  rw [List.getElem?_map, List.getElem?_range h]
  rfl
abbrev NLo : List Str := ["_law_size", "_law_found", "_law_again", "_law_longer", "_law_one", "_law_at"]
section
variable {P : Program} {w : World} {K : PySem.W.Frag} {mg : Str → Option Value} {base : Heap}
def spLOr : Sp := fun vs H Q _ => ∃ n : Nat, vs = [.int (n : Int)] ∧ n ≤ 6 ∧ ∀ r as H', Same H H' → LTs H' r (lawO n) as → Q (.ref r) H'
abbrev teO (K : PySem.W.Frag) : TE := tOp (rCatA K) (tVar 4) (tTup (tCons (tVar 5) tNil))
theorem ok_lor {f : Addr} {fd : FuncData} (F : Fun K "_law_orders" "_law_orders" sLOr f fd) (T : Bi mg) : FnOk P w K mg base (L2.CX P w) 1 f fd ["_law_size"] spLOr := by
  have sc : FnScope NLo ["_law_size"] (defScope sLOr) := ⟨rfl, rfl, rfl, by decide +kernel, rfl, by decide +kernel, by decide +kernel⟩
  have hN := sc.nd
  refine F.okX sc (fun vs H Q E h => ?_) (fun cdv A outer s H vs Q E hr h => ?_)
  · obtain ⟨n, rfl, _⟩ := h
    rfl
  · obtain ⟨n, rfl, n6, k⟩ := h
    refine ⟨_, pss_cons (ps_set (i := 1) hN rfl (Or.inl rfl) (pe_lst (pa_cons (pe_tup pa_nil) pa_nil)))
      (pss_cons (ps_for passOwn rfl (pi_range1 rfl T.range (pa_cons (pv 0) pa_nil)) (pg_name (i := 2) hN rfl (Or.inl rfl))
        (pss_cons (ps_set (i := 3) hN rfl (Or.inl rfl) (pe_lst pa_nil))
        (pss_cons (ps_for passOwn rfl (pi_list (pv 1)) (pg_name (i := 4) hN rfl (Or.inr rfl))
          (pss_one (ps_set (i := 3) hN rfl (Or.inl rfl) (pe_op op_cat (pv 3) (pe_lc (own := [("_law_at", 5)]) (g := gName 5) (tt := tTest (tOp (rIn K true) (tVar 5) (tVar 4))) (te := teO K) rfl hN (pi_range1 rfl T.range (pa_cons (pv 0) pa_nil)) (blkOk_by (N := NLo) (sc := defScope sLOr) (by decide +kernel)) (fun _ _ _ _ _ => pg_name (i := 5) hN rfl (Or.inl rfl))
            (fun _ _ _ _ _ => pts_one (pt_cmpR op_notIn_seq (pv 5) (pv 4) (by rfl))) (fun _ _ _ _ _ => pe_op op_catA (pv 4) (pe_tup (pa_cons (pv 5) pa_nil))))))))
        (pss_one (ps_set (i := 1) hN rfl (Or.inl rfl) (pv 3))))))
      (pss_one (ps_ret (pv 1)))), ?_⟩
    have line : 16777216 = sizeLine := by decide
    refine ⟨by show 0 ≤ sizeLine; omega, fun t0 nt0 => ⟨by show 1 ≤ sizeLine; omega, fun D0 nD0 => ?_⟩⟩
    have s0 : Same H (upd (upd H t0 (.tup [])) D0 (.lst [V.ref t0])) := (same_upd nt0).trans (same_upd nD0)
    have l0 : LTs (upd (upd H t0 (.tup [])) D0 (.lst [V.ref t0])) D0 (ordersT ((List.replicate n (upto n)).take 0)) [t0] := by
      refine ⟨upd_same, rfl, fun i q hq => ?_⟩
      match i, hq with
      | 0, hq => cases hq; exact ⟨[], rfl, same_upd nD0 _ _ upd_same⟩
    have rep6 : ∀ c ∈ List.replicate n (upto n), c.length ≤ 6 := fun c hc => by
      rw [List.eq_of_mem_replicate hc, upto_len]
      exact n6
    have nn : ((n : Nat) : Int).toNat = n := Int.toNat_natCast n
    refine ⟨_, rfl, _, rfl, by omega, by omega, for_it (walk_range (lo := 0) (n := ((n : Nat) : Int).toNat)) (fun i σ G => (∃ F as v2 v3 v4, σ = [some (.int n), some (.ref F), v2, v3, v4, none] ∧ LTs G F (ordersT ((List.replicate n (upto n)).take i)) as) ∧ Same H G)
      ⟨⟨D0, [t0], none, none, none, rfl, l0⟩, s0⟩ (fun _ _ _ _ _ => trivial) (fun i v σ G G' hi ⟨⟨Fa, as, v2, v3, v4, e, lt⟩, sm⟩ ⟨eG, hx⟩ => ?_) (fun σ G ⟨⟨Fa, as, v2, v3, v4, e, lt⟩, sm⟩ => ?_)⟩
    · subst e eG hx
      rw [nn] at hi
      have o6 := orders_len rep6 i
      have oL : ∀ o ∈ ordersT ((List.replicate n (upto n)).take i), o.length ≤ i := fun o h => orders_each i o h
      rw [lawO_step hi]
      generalize ordersT ((List.replicate n (upto n)).take i) = os at lt o6 oL
      have p6 : 6 ^ i ≤ 46656 := Nat.le_trans (Nat.pow_le_pow_right (by decide) (show i ≤ 6 by omega)) (by decide)
      have few : os.length ≤ 46656 := Nat.le_trans o6 p6
      have cl : (upto n).length ≤ 6 := by rw [upto_len]; exact n6
      refine ⟨by show 0 ≤ sizeLine; omega, fun L0 nL0 => ?_⟩
      have sL := same_upd (o := .lst []) nL0
      have lt0 := lt.same sL
      refine ⟨_, rfl, Fa, rfl, ⟨_, SqL.of lt0.at_⟩, for_it (walk_list (K := K) (a := Fa) (xs := as.map V.ref)) (fun j σ G2 => (∃ L bs v4, σ = [some (.int n), some (.ref Fa), some (.int (0 + (i : Int))), some (.ref L), v4, none] ∧ LTs G2 L (stepO (os.take j) (upto n)) bs) ∧ Same (upd G' L0 (.lst [])) G2)
        ⟨⟨L0, [], v4, rfl, ⟨upd_same, rfl, fun i q h => by cases h⟩⟩, Same.refl _⟩ (fun j σ G2 _ ⟨_, s2⟩ => SqL.of (s2 _ _ lt0.at_)) (fun j v σ G2 G3 hj ⟨⟨L, bs, w4, e, lb⟩, s2⟩ ⟨eG, hy⟩ => ?_) (fun σ G2 ⟨⟨L, bs, w4, e, lb⟩, s2⟩ => ?_)⟩
      · subst e eG
        rw [List.getElem?_map] at hy
        obtain ⟨p, hp, rfl⟩ := Option.map_eq_some_iff.mp hy
        obtain ⟨o, hoj, hpo0⟩ := lt0.it j p hp
        have hpo := s2 _ _ hpo0
        have ol := oL o (List.mem_of_getElem? hoj)
        have hj' : j < os.length := by rw [List.length_map, lt0.len] at hj; exact hj
        have bl := stepO_len cl (os.take j)
        rw [List.length_take] at bl
        rw [stepO_succ hoj]
        generalize stepO (os.take j) (upto n) = pre at lb bl
        refine ⟨_, rfl, _, rfl, _, rfl, by omega, by omega, fun D nD => ?_⟩
        refine walk_it (walk_range (lo := 0) (n := ((n : Nat) : Int).toNat)) (fun m G4 => Same G3 G4 ∧ ∃ cs, LTs G4 D (extO o ((upto n).take m)) cs) ⟨same_upd nD, [], upd_same, rfl, fun i q h => by cases h⟩ (fun _ _ _ _ => trivial) (fun m y G4 G5 hm ⟨s4, cs, hb⟩ ⟨eG, hz⟩ => ?_) (fun G4 ⟨s4, cs, hb⟩ => ?_)
        · have hz : y = V.int ((m : Nat) : Int) := hz.trans (congrArg V.int (Int.zero_add _))
          subst eG hz
          rw [nn] at hm
          have hp4 := s4 _ _ hpo
          have el := extO_len o ((upto n).take m)
          rw [List.length_take] at el
          refine ⟨rfl, _, rfl, _, rfl, p, _, rfl, .inr (SqT.of hp4), rfl, flat_ints _, _, rfl, ?_⟩
          rw [notin_b, extO_succ (upto_at hm)]
          cases hz2 : o.contains ((m : Nat) : Int) with
          | true => exact iteF ⟨s4, cs, by simpa using hb⟩
          | false =>
            have room : (cs.map V.ref).length < sizeLine := by
              rw [List.length_map, hb.len]
              omega
            refine iteT ⟨_, rfl, _, rfl, by show 1 ≤ sizeLine; omega, fun T1 nT1 => ?_⟩
            have sT1 := same_upd (o := .tup [V.int ((m : Nat) : Int)]) nT1
            refine ⟨p, T1, _, _, rfl, rfl, SqT.of (sT1 _ _ hp4), SqT.of upd_same, ?_, fun e => ?_, fun _ e => (by cases e), fun _ _ T2 nT2 => ?_⟩
            · rw [List.length_map]
              show _ + 1 ≤ _
              omega
            · have e : o = [] := List.map_eq_nil_iff.mp e
              subst e
              refine ⟨_, sT1 _ _ hb.at_, room, same_put (s4.trans sT1) nD, cs ++ [T1], ?_⟩
              exact hb.push nT1 ([] ++ [((m : Nat) : Int)])
            · have hb1 := hb.same sT1
              have := hb1.push nT2 (o ++ [((m : Nat) : Int)])
              rw [List.map_append] at this
              exact ⟨_, same_upd nT2 _ _ hb1.at_, room, same_put ((s4.trans sT1).trans (same_upd nT2)) nD, cs ++ [T2], this⟩
        · rw [nn, show (upto n).take n = upto n from List.take_of_length_le (by rw [upto_len]; exact Nat.le_refl _)] at hb
          have lb4 := lb.same s4
          have el := extO_len o (upto n)
          refine ⟨L, D, _, _, rfl, rfl, lb4.at_, hb.at_, ?_, fun M nM => ⟨⟨M, bs ++ cs, _, rfl, lb4.cat hb nM⟩, (s2.trans s4).trans (same_upd nM)⟩⟩
          rw [List.length_map, List.length_map, lb4.len, hb.len]
          omega
      · subst e
        rw [List.length_map, lt0.len, List.take_length] at lb
        exact ⟨_, rfl, ⟨L, bs, _, _, _, rfl, lb⟩, (sm.trans sL).trans s2⟩
    · subst e
      rw [nn, show (List.replicate n (upto n)).take n = List.replicate n (upto n) from List.take_of_length_le (by rw [List.length_replicate]; exact Nat.le_refl _)] at lt
      exact ⟨_, rfl, k Fa as G sm lt⟩
end
end R4
end

-- K4q
section
set_option Elab.async false
set_option linter.all false
set_option maxRecDepth 100000
set_option exponentiation.threshold 10000
namespace R4
open PySem L2 OwnOps OwnNe G1 StX SupX
abbrev sGOf : Stmt := top 41
/-- tuples of texts, in a list -/
structure GTs (H : Hp) (a : Addr) (gts : List (List Str)) (as : List Addr) : Prop where
  at_ : H a = some (.lst (as.map V.ref))
  len : as.length = gts.length
  it : ∀ (i : Nat) (q : Addr), as[i]? = some q → ∃ g, gts[i]? = some g ∧ H q = some (.tup (g.map V.str))
theorem GTs.same {H H' : Hp} {a : Addr} {os : List (List Str)} {as : List Addr} (g : GTs H a os as) (s : Same H H') : GTs H' a os as := ⟨s _ _ g.at_, g.len, fun i v h => let ⟨o, h1, h2⟩ := g.it i v h; ⟨o, h1, s _ _ h2⟩⟩
def grpOf (gts : List (List Str)) (pin : Str) : List Str := (gts.find? fun g => g.contains pin).getD [pin]
theorem find_at {pin : Str} {g : List Str} : ∀ {gts : List (List Str)} {i : Nat}, gts[i]? = some g → (∀ g' ∈ gts.take i, g'.contains pin = false) → g.contains pin = true → (gts.find? fun g => g.contains pin) = some g
  | h :: r, 0, e, _, c => by
    cases e
    exact List.find?_cons_of_pos c
  | h :: r, i + 1, e, no, c => by
    rw [List.find?_cons_of_neg (by rw [no h (by rw [List.take_succ_cons]; exact List.mem_cons_self)]; decide)]
    exact find_at (gts := r) e (fun g' hg => no g' (by rw [List.take_succ_cons]; exact List.mem_cons_of_mem _ hg)) c
theorem find_none {pin : Str} {gts : List (List Str)} (no : ∀ g ∈ gts, g.contains pin = false) : (gts.find? fun g => g.contains pin) = none :=
  List.find?_eq_none.mpr fun g hg => by rw [no g hg]; decide
abbrev NGo : List Str := ["_law_groups", "_law_pin", "_law_group", "_law_one"]
section
variable {P : Program} {w : World} {K : PySem.W.Frag} {mg : Str → Option Value} {base : Heap}
def spGOf : Sp := fun vs H Q _ => ∃ ga gts as pin, vs = [.ref ga, .str pin] ∧ GTs H ga gts as ∧ (∀ g ∈ gts, g.length ≤ 10) ∧ ∀ r (zs : List Str) H', Same H H' → H r = none → H' r = some (.lst (zs.map V.str)) → zs.Perm (grpOf gts pin) → Q (.ref r) H'
theorem ok_gof {f : Addr} {fd : FuncData} (F : Fun K "_law_group_of" "_law_group_of" sGOf f fd) (T : Bi mg) : FnOk P w K mg base (L2.CX P w) 1 f fd ["_law_groups", "_law_pin"] spGOf := by
  have sc : FnScope NGo ["_law_groups", "_law_pin"] (defScope sGOf) := ⟨rfl, rfl, rfl, by decide +kernel, rfl, by decide +kernel, by decide +kernel⟩
  have hN := sc.nd
  refine F.okX sc (fun vs H Q E h => ?_) (fun cdv A outer s H vs Q E hr h => ?_)
  · obtain ⟨ga, gts, as, pin, rfl, _⟩ := h
    rfl
  · obtain ⟨ga, gts, as, pin, rfl, gt, few, k⟩ := h
    refine ⟨_, pss_cons (ps_for passOwn rfl (pi_list (pv 0)) (pg_name (i := 2) hN rfl (Or.inl rfl)) (pss_one (ps_if (pt_cmpR op_in_seq (pv 1) (pv 2) (by rfl))
        (pss_one (ps_ret (pe_callB cr_sortedS (by rfl) T.sorted (by decide +kernel) (pa_cons (pe_lc (own := [("_law_one", 3)]) (g := gName 3) (tt := tYes) (te := tCB (fun xs H Q => ∃ a, xs = [V.str a] ∧ Q (V.str a) H) (tCons (tVar 3) tNil)) rfl hN (pi_tup (pv 2)) (blkOk_by (N := NGo) (sc := defScope sGOf) (by decide +kernel)) (fun _ _ _ _ _ => pg_name (i := 3) hN rfl (Or.inl rfl)) (fun _ _ _ _ _ => pts_nil)
          (fun _ _ _ _ _ => pe_callTy SkE.call_str_str (by rfl) T.str (by decide +kernel) (pa_cons (pv 3) pa_nil))) pa_nil)))) pss_nil)))
      (pss_one (ps_ret (pe_lst (pa_cons (pv 1) pa_nil)))), ?_⟩
    have line : 1000 ≤ sizeLine := by decide
    refine ⟨_, rfl, ga, rfl, ⟨_, SqL.of gt.at_⟩, for_it (walk_list (K := K) (a := ga) (xs := as.map V.ref)) (fun i σ G => (∃ v2, σ = [some (.ref ga), some (.str pin), v2, none]) ∧ Same H G ∧ ∀ g' ∈ gts.take i, g'.contains pin = false)
      ⟨⟨none, rfl⟩, Same.refl _, fun g' h => by cases h⟩ (fun i σ G _ ⟨_, sm, _⟩ => SqL.of (sm _ _ gt.at_)) (fun i v σ G G' hi ⟨⟨v2, e⟩, sm, no⟩ ⟨eG, hx⟩ => ?_) (fun σ G ⟨⟨v2, e⟩, sm, no⟩ => ?_)⟩
    · subst e eG
      rw [List.getElem?_map] at hx
      obtain ⟨q, hq, rfl⟩ := Option.map_eq_some_iff.mp hx
      obtain ⟨g, hg, hq0⟩ := gt.it i q hq
      have hq1 := sm _ _ hq0
      have gl := few g (List.mem_of_getElem? hg)
      refine ⟨_, rfl, _, rfl, q, _, rfl, .inr (SqT.of hq1), rfl, flat_strs _, _, rfl, ?_⟩
      rw [in_b]
      cases hc : g.contains pin with
      | false =>
        refine iteF ⟨⟨_, rfl⟩, sm, fun g' hg' => ?_⟩
        rw [take_succ_at hg] at hg'
        rcases List.mem_append.mp hg' with h | h
        · exact no g' h
        · rw [List.mem_singleton.mp h]; exact hc
      | true =>
        refine iteT ⟨_, rfl, q, rfl, ⟨_, SqT.of hq1⟩, fun D nD => ?_⟩
        refine walk_it (walk_tup (K := K) (a := q) (xs := g.map V.str)) (fun j G3 => Same G' G3 ∧ G3 D = some (.lst ((g.take j).map V.str))) ⟨same_upd nD, upd_same⟩ (fun j G3 _ ⟨s3, _⟩ => SqT.of (s3 _ _ hq1)) (fun j y G3 G4 hj ⟨s3, hD⟩ ⟨eG, hy⟩ => ?_) (fun G3 ⟨s3, hD⟩ => ?_)
        · subst eG
          rw [List.getElem?_map] at hy
          obtain ⟨z, hz, rfl⟩ := Option.map_eq_some_iff.mp hy
          refine ⟨rfl, yes_go (iteT ⟨_, rfl, z, rfl, _, hD, ?_, same_put s3 nD, by rw [upd_same, take_succ_at hz, List.map_append]; rfl⟩)⟩
          rw [List.length_map, List.length_take]
          omega
        · rw [List.length_map, List.take_length] at hD
          refine ⟨D, g, rfl, SqL.of hD, by omega, fun ys p pm _ np => k p ys _ ((sm.trans s3).trans (same_upd np)) ((sm.trans s3).free np) upd_same ?_⟩
          unfold grpOf
          rw [find_at hg no hc]
          exact pm
    · subst e
      refine ⟨_, rfl, by show 1 ≤ sizeLine; omega, fun r nr => k r [pin] _ (sm.trans (same_upd nr)) (sm.free nr) upd_same ?_⟩
      have e : gts.take (as.map V.ref).length = gts := by rw [List.length_map, gt.len]; exact List.take_length
      rw [e] at no
      unfold grpOf
      rw [find_none no]
      exact .refl _
end
end R4
end

-- GenFor
section
set_option Elab.async false
set_option linter.all false
set_option maxRecDepth 100000
set_option maxHeartbeats 1000000
/-! for within a generator's body, at the level of segments. -/
namespace GenFor
open PySem PySem.Spec PyProof.Rows L2 GenW
section
variable {P : Program} {w : World} {A : Around} {R : GenEnd} {Y : Protocol} {n : Nat} {s₀ : Shared} {c : Code} {fs : List Frame} {s : Shared} {env : Env}
  {K : Flow → Sem PySem.Fin} {J : Value → Sem PySem.Fin} {gd : Bool → Bool} {lv : List Value → List Value} {target iter : Expr} {body : List Stmt} {pos : Pos}
/-- the frame that waits for the loop -/
abbrev forFrame (env : Env) (K : Flow → Sem PySem.Fin) (J : Value → Sem PySem.Fin) (gd : Bool → Bool) (lv : List Value → List Value) (c : Code) (p : Pos) : Frame :=
  .ret (fun r => ((match r with | .ok f => (.pure f : Sem Flow) | .error e => .raise e).onRaise (cameBack env)).wrap K J gd lv) none (gd false) (lv []) c p []
theorem seg_For (hs : ∀ x, foldedSetIterable iter env x = pure x)
    (h : wpAny (model P w) (A.over c fs) (eval iter env) (fun v s1 => wpAny (model P w) (A.over c fs) (pyIter v) (fun it s2 => ∀ p, Seg (model P w) A R Y n s₀ (.forLoop target it body [] env) ((model P w).den (.forLoop target it body [] env)) (forFrame env K J gd lv c p :: fs) s2)
      (fun x s' => Seg (model P w) A R Y n s₀ c (J x) fs s') s1) (fun x s' => Seg (model P w) A R Y n s₀ c (J x) fs s') s) :
    Seg (model P w) A R Y n s₀ c ((exec (.For target iter body [] pos) env).wrap K J gd lv) fs s := by
  show Seg _ A R Y n s₀ c (.at pos fun _ => ((eval iter env >>= fun v => foldedSetIterable iter env v >>= fun x => standAt iter.pos >>= fun _ => holding [x] (pyIter x) >>= fun it => runOwn (.forLoop target it body [] env) env)).wrap K J gd lv) fs s
  refine seg_at (seg_bind_wrap (wpAny_mono h (fun v s1 h1 => ?_) fun _ _ e => e))
  rw [hs]
  refine seg_bind_wrap (wpAny_pure ?_)
  refine seg_bind_wrap (wpAny_standAt ?_)
  refine seg_bind_wrap (wpAny_holding (wpAny_mono h1 (fun it s2 h2 => ?_) fun _ _ e => e))
  exact seg_call h2
/-- an exception in a loop's turn -/
abbrev XTurn (P : Program) (w : World) (A : Around) (R : GenEnd) (Y : Protocol) (n : Nat) (s₀ : Shared) (c : Code) (fs : List Frame) (env : Env) (x : Value) (s' : Shared) : Prop :=
  Seg (model P w) A R Y n s₀ c ((do noteFrame x env; theTreesLotGoes x : Sem Unit).wrap (fun _ => .raise x) .raise id id) fs s'
theorem seg_forLoop {it : Value} (h : wpAny (model P w) (A.over (.forLoop target it body [] env) fs) (pyNext it) (fun r s1 => match r with
      | none => Seg (model P w) A R Y n s₀ (.forLoop target it body [] env) (.pure (.again (.block [] env))) fs s1
      | some v => wpAny (model P w) (A.over (.forLoop target it body [] env) fs) (letOwnedTupleGo target it v) (fun _ s2 => wpAny (model P w) (A.over (.forLoop target it body [] env) fs) (assign target env v) (fun _ s3 =>
          Seg (model P w) A R Y n s₀ (.forLoop target it body [] env) ((execs body env).wrap (fun f => match f with
            | .next | .cont => .pure (.again (.forLoop target it body [] env))
            | .brk => .pure (.done .next)
            | .ret v => .pure (.done (.ret v))) (fun e => (do noteFrame e env; theTreesLotGoes e : Sem Unit).wrap (fun _ => .raise e) .raise id id) id id) fs s3)
          (XTurn P w A R Y n s₀ (.forLoop target it body [] env) fs env) s2) (XTurn P w A R Y n s₀ (.forLoop target it body [] env) fs env) s1)
      (XTurn P w A R Y n s₀ (.forLoop target it body [] env) fs env) s) :
    Seg (model P w) A R Y n s₀ (.forLoop target it body [] env) ((model P w).den (.forLoop target it body [] env)) fs s := by
  show Seg _ A R Y n s₀ _ ((forTurn target it body [] env).onRaise (fun x => do noteFrame x env; theTreesLotGoes x)) fs s
  unfold forTurn
  rw [Sem.onRaise_eq_wrap]
  have xx : ∀ x s', XTurn P w A R Y n s₀ (.forLoop target it body [] env) fs env x s' → Seg (model P w) A R Y n s₀ (.forLoop target it body [] env) ((do noteFrame x env; theTreesLotGoes x : Sem Unit).bind fun _ => .raise x) fs s' := fun x s' hx => by
    rw [Sem.bind_eq_wrap]
    exact hx
  refine seg_bind_wrap (wpAny_standAt ?_)
  refine seg_bind_wrap (wpAny_onRaise (wpAny_mono h (fun r s1 h1 => ?_) fun x s' hx => wpAny_standAt (xx x s' hx)))
  cases r with
  | none => exact h1
  | some v =>
    refine seg_bind_wrap (wpAny_mono h1 (fun _ s2 h2 => ?_) fun x s' hx => xx x s' hx)
    refine seg_bind_wrap (wpAny_mono h2 (fun _ s3 h3 => ?_) fun x s' hx => xx x s' hx)
    rw [Sem.bind_eq_wrap', Sem.wrap_wrap]
    rw [Sem.wrap_congr (execs body env) _ _ (K' := fun f => match f with
            | .next | .cont => .pure (.again (.forLoop target it body [] env))
            | .brk => .pure (.done .next)
            | .ret v => .pure (.done (.ret v))) (H' := (fun e => (do noteFrame e env; theTreesLotGoes e : Sem Unit).wrap (fun _ => .raise e) .raise id id))
        (fun f => by cases f <;> rfl)
        (fun e => by first | exact Sem.bind_eq_wrap _ _ | (show (do noteFrame e env; theTreesLotGoes e : Sem Unit).bind (fun _ => .raise e) = _; rw [Sem.bind_eq_wrap]))]
    exact h3
end
end GenFor
end

-- GenFor2
section
set_option Elab.async false
set_option linter.all false
set_option maxRecDepth 100000
set_option maxHeartbeats 1000000
/-! a generator def whose body goes over a tuple and hands each item out: its run beside a consumer that turns two objects. -/
namespace GenFor
open PySem PySem.Spec PyProof.Rows L2 GenW
/-- while the generator sleeps its consumer turns the objects at C and D; all else is kept -/
structure Woke (C D : Addr) (s s' : Shared) : Prop where
  os : s'.os = s.os
  bare : AllBare s'.gens
  keep : ∀ b o, b ≠ C → b ≠ D → s.heap.get? b = some o → s'.heap.get? b = some o
  c : ∃ o, s'.heap.get? C = some o ∧ ∀ v, o.data ≠ .cell v
  d : ∃ o, s'.heap.get? D = some o ∧ ∀ v, o.data ≠ .cell v
/-- running: the consumer's two objects stand as they stood when it was woken -/
def Two (X : Cx) (C D : Addr) (σ : L2.St) (H : Hp) (s₀ s : Shared) : Prop := ∃ oC oD, s₀.heap.get? C = some oC ∧ s₀.heap.get? D = some oD ∧ Inv X [(C, oC), (D, oD)] σ H s
structure Far (X : Cx) (C D : Addr) : Prop where
  c : Apart X C
  d : Apart X D
  pn : ∀ p ∈ X.pn, p.1 ≠ C ∧ p.1 ≠ D
theorem Two.at {X : Cx} {C D : Addr} {σ : L2.St} {H : Hp} {s₀ s : Shared} (h : Two X C D σ H s₀ s) : s.heap.get? C = s₀.heap.get? C ∧ s.heap.get? D = s₀.heap.get? D ∧ H C = none ∧ H D = none := by
  obtain ⟨oC, oD, e1, e2, I⟩ := h
  have h1 := I.pin (C, oC) (List.mem_append_right _ List.mem_cons_self)
  have h2 := I.pin (D, oD) (List.mem_append_right _ (List.mem_cons_of_mem _ List.mem_cons_self))
  exact ⟨h1.1.trans e1.symm, h2.1.trans e2.symm, h1.2.1, h2.2.1⟩
/-- woken again -/
theorem Two.woken {X : Cx} {C D : Addr} {σ : L2.St} {H : Hp} {s₀ s s' : Shared} (F : Far X C D) (h : Two X C D σ H s₀ s) (z : Woke C D s s') : Two X C D σ H s' s' := by
  obtain ⟨oC, oD, _, _, I⟩ := h
  obtain ⟨_, c1, c2, c3, _⟩ := I.pin (C, oC) (List.mem_append_right _ List.mem_cons_self)
  obtain ⟨_, d1, d2, d3, _⟩ := I.pin (D, oD) (List.mem_append_right _ (List.mem_cons_of_mem _ List.mem_cons_self))
  have I0 : Inv X [] σ H s := I.pins_of fun p hp => by cases hp
  obtain ⟨z1, z2, z3, ⟨oC', eC, nC⟩, ⟨oD', eD, nD⟩⟩ := z
  have nt : ∀ b u, H b = some u → b ≠ C ∧ b ≠ D := fun b u q => ⟨fun hb => (by rw [hb, c1] at q; cases q), fun hb => (by rw [hb, d1] at q; cases q)⟩
  have nc : ∀ b, b ∉ [C, D] → b ≠ C ∧ b ≠ D := fun b hb => ⟨fun e => hb (e ▸ List.mem_cons_self), fun e => hb (e ▸ List.mem_cons_of_mem _ List.mem_cons_self)⟩
  have keep : ∀ b ob, b ∉ [C, D] → s.heap.get? b = some ob → s'.heap.get? b = some ob := fun b ob hb q => z3 b ob (nc b hb).1 (nc b hb).2 q
  obtain ⟨hh, g, d, t, o⟩ := s'
  have ho : o = s.os := z1
  subst ho
  have J : Inv X [] σ H { s with heap := hh, gens := g, drawn := d, toks := t } := by
    refine I0.step (g' := g) (t' := t) (d' := d) (ch := [C, D]) (fun b hb => ?_)
      (fun b ob _ _ hc q _ => keep b ob hc q) (fun b ob _ _ hc q _ => ⟨ob.slots, keep b ob hc q⟩) (fun _ _ _ _ n => n) (fun b ob hc q => ⟨ob, keep b ob hc q⟩)
      (fun _ _ q => q) (fun _ _ _ q => q) (fun b ps q => ⟨#[], by rw [q]; simp⟩) (fun m hm => ?_) (fun b u q => ?_) z2
    · rcases List.mem_cons.mp hb with e | hb
      · rw [e]
        exact ⟨.inr F.c.1, F.c.2.1, F.c.2.2, fun p hp => by rw [List.append_nil] at hp; exact (F.pn p hp).1⟩
      · rw [List.mem_singleton.mp hb]
        exact ⟨.inr F.d.1, F.d.2.1, F.d.2.2, fun p hp => by rw [List.append_nil] at hp; exact (F.pn p hp).2⟩
    · obtain ⟨ob, es, ep, ho, r⟩ := hm
      exact ⟨ob, es, ep, z3 _ ob (Ne.symm c2) (Ne.symm d2) ho, r⟩
    · refine (I0.hok b u q).stay (fun c v hc y => ?_) (fun _ y => y) fun _ _ y => y
      rcases hc with y' | y'
      · rw [y'] at y ⊢; exact z3 b v (nt b u q).1 (nt b u q).2 y
      · exact z3 c v (nt c _ y').1 (nt c _ y').2 y
  refine ⟨oC', oD', eC, eD, J.pins_of fun p hp => ?_⟩
  rcases List.mem_cons.mp hp with hp | hp
  · rw [hp]
    exact ⟨eC, c1, c2, c3, nC⟩
  · rw [List.mem_singleton.mp hp]
    exact ⟨eD, d1, d2, d3, nD⟩
/-- an item is handed out -/
def Y2 (sB : Shared) (C D a : Addr) (g : Nat) (xs : List V) : Protocol := fun m s₀ v s1 kap =>
  ∃ (i : Nat) (x : V), i + m + 1 = xs.length ∧ xs[i]? = some x ∧ RelV x v ∧ s1.os = sB.os ∧ AllBare s1.gens ∧ s1.heap.NoLimit ∧ s1.heap.IsGen a g ∧ s1.heap.get? C = s₀.heap.get? C ∧ s1.heap.get? D = s₀.heap.get? D ∧ ∀ s', Woke C D s1 s' → kap (.send .none) s'
/-- all is handed out -/
def F2 (P : Program) (w : World) (outer : List Env) (H : Hp) (sB : Shared) (C D : Addr) : Nat → Shared → Shared → Prop := fun n s₀ s1 =>
  n = 0 ∧ s1.os = sB.os ∧ AllBare s1.gens ∧ Un (frs outer) [] H H sB.heap s1.heap ∧ HOk P w H s1.heap ∧ s1.heap.get? C = s₀.heap.get? C ∧ s1.heap.get? D = s₀.heap.get? D ∧ H C = none ∧ H D = none
def R2e (P : Program) (w : World) (outer : List Env) (H : Hp) (sB : Shared) (C D : Addr) : GenEnd := fun n s₀ r s1 =>
  ((r = .ok (.ret .none) ∨ r = .ok .next) ∧ F2 P w outer H sB C D n s₀ s1) ∨ ∃ e, r = .error e ∧ False
theorem fp_swap {X : Cx} {C D b : Addr} {o1 o2 o3 o4 : Obj} {H : Hp} (h : FpOk X [(C, o1), (D, o2)] H b) : FpOk X [(C, o3), (D, o4)] H b := by
  obtain ⟨a1, a2, a3, a4, a5, a6⟩ := h
  refine ⟨a1, a2, a3, a4, a5, fun p hp => ?_⟩
  rcases List.mem_append.mp hp with hp | hp
  · exact a6 p (List.mem_append_left _ hp)
  rcases List.mem_cons.mp hp with hp | hp
  · rw [hp]; exact a6 (C, o1) (List.mem_append_right _ List.mem_cons_self)
  · rw [List.mem_singleton.mp hp]; exact a6 (D, o2) (List.mem_append_right _ (List.mem_cons_of_mem _ List.mem_cons_self))
theorem fp_ne {X : Cx} {C D b : Addr} {o1 o2 : Obj} {H : Hp} (h : FpOk X [(C, o1), (D, o2)] H b) : b ≠ C ∧ b ≠ D := by
  obtain ⟨_, _, _, _, _, a6⟩ := h
  exact ⟨fun z => a6 (C, o1) (List.mem_append_right _ List.mem_cons_self) z.symm, fun z => a6 (D, o2) (List.mem_append_right _ (List.mem_cons_of_mem _ List.mem_cons_self)) z.symm⟩
section
variable {X : Cx} {A : Around} {R : GenEnd} {C D a oa it : Addr} {g j : Nat} {xs : List V} {sB : Shared} {fs : List Frame} {tgt e : Expr} {yp ep : Pos} {fp : List Addr} {tn : Nat → Heap → Prop} {H : Hp}
theorem seg_loop (hc : X.calm = true) (hxe : ∀ x s', X.xe x s' → False) (F : Far X C D) (hg : PG X tgt (gName j)) (he : PE X e (tVar j)) (T : Turn X.prog X.w X.K tgt (Itt X.K oa) fp it tn) (hq : SqT X.K H oa xs)
    (hgen : ∀ (pins : List (Addr × Obj)) (σ : L2.St) (s : Shared), Inv X pins σ H s → s.heap.IsGen a g) (hos : ∀ (pins : List (Addr × Obj)) (σ : L2.St) (s : Shared), Inv X pins σ H s → s.os = sB.os) (hjl : ∀ (σ : L2.St) (v : V), j < σ.length → (σ.set j (some v))[j]? = some (some v))
    (hov : A.over (.forLoop tgt (.ref it) [.Expr (.Yield (some e) yp) ep] [] X.env) fs = X.A) (hsp : splitAtGen fs = none) (hgu : fs.any Frame.guarded = false) (hco : X.env.scope.isCoroutine = false) (hin : interactive X.env = false)
    (hend : ∀ (σ : L2.St) (s₀ s1 : Shared), Two X C D σ H s₀ s1 → Seg (model X.prog X.w) A R (Y2 sB C D a g xs) 0 s₀ (.block [] X.env) (leafOf (.ok .next)) fs s1) :
    ∀ (r i : Nat) (σ : L2.St) (s₀ s : Shared), i + r = xs.length → j < σ.length → (∀ b ∈ fp, ∀ o1 o2, FpOk X [(C, o1), (D, o2)] H b) → Two X C D σ H s₀ s → tn i s.heap →
      Seg (model X.prog X.w) A R (Y2 sB C D a g xs) r s₀ (.forLoop tgt (.ref it) [.Expr (.Yield (some e) yp) ep] [] X.env) ((model X.prog X.w).den (.forLoop tgt (.ref it) [.Expr (.Yield (some e) yp) ep] [] X.env)) fs s := by
  intro r
  induction r with
  | zero =>
    intro i σ s₀ s hi hj hf hT ht
    refine seg_forLoop ?_
    rw [hov]
    obtain ⟨oC, oD, e1, e2, I⟩ := hT
    refine wpAny_mono (T.done X rfl rfl rfl hc i [(C, oC), (D, oD)] s σ H (fun _ _ => False) I (fun b hb => hf b hb _ _) ht ⟨xs, hq, by omega⟩) (fun r s1 ⟨er, I1⟩ => ?_) fun _ _ h => h.elim
    subst er
    refine seg_again rfl ?_
    exact hend σ s₀ s1 ⟨oC, oD, e1, e2, I1⟩
  | succ r ih =>
    intro i σ s₀ s hi hj hf hT ht
    refine seg_forLoop ?_
    rw [hov]
    obtain ⟨oC, oD, e1, e2, I⟩ := hT
    have lt : i < xs.length := by omega
    refine wpAny_mono (T.item X rfl rfl rfl hc i [(C, oC), (D, oD)] s σ H (fun _ _ => False) I (fun b hb => hf b hb _ _) ht ⟨xs, _, hq, List.getElem?_eq_getElem lt⟩) (fun r1 s1 ⟨u, er, h1⟩ => ?_) fun _ _ h => h.elim
    subst er
    refine wpAny_mono h1 (fun _ s2 h2 => ?_) fun _ _ h => h.elim
    obtain ⟨x, H', I2, ru, ⟨eH, hx⟩, ht2, _⟩ := h2
    subst eH
    have hxi := hx xs hq
    have I2' := I2.pinned (fun b hb => hf b hb oC oD) (T.obj _ _ ht2)
    refine wpAny_mono (hg.run _ s2 σ H' x u (fun σ' H2 => σ' = σ.set j (some x) ∧ H2 = H') I2' ru ⟨rfl, rfl⟩) (fun _ s3 h3 => ?_) fun x s' h => (hxe x s' h).elim
    obtain ⟨σ3, H3, I3, eσ, eH3⟩ := h3
    subst eσ eH3
    refine seg_execs_cons ?_
    refine seg_Expr_Yield hsp rfl hgu ?_ hco hin
    rw [hov]
    refine wpAny_mono (he.run _ s3 _ H3 (fun y H4 => y = x ∧ H4 = H3) I3 ⟨x, hjl σ x hj, rfl, rfl⟩) (fun v s4 h4 => ?_) fun x s' h => (hxe x s' h).elim
    obtain ⟨y, H4, I4, rv, ey, eH4⟩ := h4
    subst ey eH4
    intro kap hk
    have I5 := I4.unpinned
    have pC := I5.pin (C, oC) (List.mem_append_right _ List.mem_cons_self)
    have pD := I5.pin (D, oD) (List.mem_append_right _ (List.mem_cons_of_mem _ List.mem_cons_self))
    refine ⟨i, y, by omega, hxi, rv, hos _ _ _ I5, I5.bare, I5.nolimit, hgen _ _ _ I5, pC.1.trans e1.symm, pD.1.trans e2.symm, fun s' z => hk .none s' ?_⟩
    refine seg_execs_nil ?_
    refine seg_again rfl ?_
    refine ih (i + 1) _ s' s' (by omega) (by rw [List.length_set]; exact hj) hf ((show Two X C D _ H4 s₀ s4 from ⟨oC, oD, e1, e2, I5⟩).woken F z) ?_
    refine T.keep _ _ _ ht2 fun b hb o e => ?_
    obtain ⟨n1, n2⟩ := fp_ne (hf b hb oC oD)
    exact z.keep b o n1 n2 (I4.pin (b, o) (List.mem_append_right _ (List.mem_append_right _ (mem_pinsAt hb e)))).1
end
end GenFor
end

-- GenFor3
section
set_option Elab.async false
set_option linter.all false
set_option maxRecDepth 100000
set_option maxHeartbeats 1000000
/-! what a call of such a generator def gives. -/
namespace GenFor
open PySem PySem.Spec PyProof.Rows L2 GenW
/-- a generator that has not begun, and will hand out xs -/
def GMade2 (P : Program) (w : World) (k : Nat) (outer : List Env) (H : Hp) (s : Shared) (xs : List V) (u : Value) (s' : Shared) : Prop :=
  ∃ (a : Addr) (g : Nat) (c : Code), u = .ref a ∧ s.heap.objs.size ≤ a ∧ a < s'.heap.objs.size ∧ s'.heap.IsGen a g ∧ s'.gens[g]? = some (.fresh c) ∧ s'.os = s.os ∧ AllBare s'.gens ∧ s'.heap.NoLimit ∧ (∀ b o, s.heap.get? b = some o → s'.heap.get? b = some o) ∧
    ∀ (A : Around) (C D : Addr) (s2 : Shared), Room k A → A.frames = some outer → s'.heap.objs.size ≤ C → s'.heap.objs.size ≤ D → (∀ b o, s'.heap.get? b = some o → s2.heap.get? b = some o) → (∃ o, s2.heap.get? C = some o ∧ ∀ v, o.data ≠ .cell v) → (∃ o, s2.heap.get? D = some o ∧ ∀ v, o.data ≠ .cell v) →
      s2.os = s.os → AllBare s2.gens → Seg (model P w) A (R2e P w outer H s C D) (Y2 s C D a g xs) xs.length s2 c ((model P w).den c) [] s2
/-- a generator def that goes over a tuple -/
def GFn2 (P : Program) (w : World) (K : PySem.W.Frag) (mg : Str → Option Value) (base : Heap) (k : Nat) (f : Addr) (fd : FuncData) (ps : List Str) (sp : List V → Hp → List V → Prop) : Prop :=
  ∀ (A : Around) (outer : List Env) (s : Shared) (H : Hp) (args : Args) (us : List Value) (vs xs : List V), Room k A → Env0 P w K mg base A outer s H → BindsTo s fd args (ps.zip us) → Vals vs us → sp vs H xs →
    codeAny (model P w) A (.call (.ref f) args) (fun r s' => match r with | .ok (.ret u) => GMade2 P w k outer H s xs u s' | _ => False) s
abbrev gX (P : Program) (w : World) (K : PySem.W.Frag) (mg : Str → Option Value) (base : Heap) (N : List Str) (qual : Str) (scope : Scope) (f : Addr) (cdv : Value) (A : Around) (outer : List Env) (s : Shared) (H : Hp) (pn : List (Addr × Obj)) : Cx := (gcxOf P w K mg base N qual scope f cdv A outer s H (fun _ _ _ => False) pn).nox
theorem gen2_of {P : Program} {w : World} {K : PySem.W.Frag} {mg : Str → Option Value} {base : Heap} {k : Nat} {f : Addr} {name qual : Str} {params : Arguments} {scope : Scope} {dV kV doc pm cdv ct oc : Value} {an od : Option Addr}
    {osl : Array (Option Value)} {N ps : List Str} {sp : List V → Hp → List V → Prop} {tgt iter e : Expr} {yp ep fp : Pos} {j : Nat}
    (lk : K.lookup f = some ⟨oc, od, .func (PySem.W.fnOf name qual params [.For tgt iter [.Expr (.Yield (some e) yp) ep] [] fp] scope dV kV doc pm an cdv ct), osl⟩) (hcd : PySem.W.codeIn K cdv qual = true) (S : GScope N ps scope)
    (len : ∀ vs H xs, sp vs H xs → vs.length = ps.length) (hjN : j < N.length) (hs : ∀ (env : Env) (x : Value), foldedSetIterable iter env x = pure x) (hin : ∀ (L f' : Addr), interactive (envOfC qual scope L f' cdv) = false)
    (hbody : ∀ (A : Around) (outer : List Env) (s : Shared) (H : Hp) (vs xs : List V) (pn : List (Addr × Obj)), Room k (A.deeper (envOfC qual scope s.heap.objs.size f cdv)) → sp vs H xs →
      ∃ wi oa, PI (gX P w K mg base N qual scope f cdv A outer s H pn) tgt iter wi ∧ PG (gX P w K mg base N qual scope f cdv A outer s H pn) tgt (gName j) ∧ PE (gX P w K mg base N qual scope f cdv A outer s H pn) e (tVar j) ∧
        wi (start N vs) H (fun J H' => J = Itt K oa ∧ H' = H) ∧ SqT K H oa xs) :
    GFn2 P w K mg base (k + 1) f (PySem.W.fnOf name qual params [.For tgt iter [.Expr (.Yield (some e) yp) ep] [] fp] scope dV kV doc pm an cdv ct) ps sp := by
  intro A outer s H args us vs xs hr e0 hb r hsp
  have hl := len _ _ _ hsp
  have KX : K.In s.heap := e0.mod.kin.keeps fun b o e => (e0.bs b o e).1
  have lim : s.heap.NoLimit := e0.mod.nolimit.keeps fun b o e => (e0.bs b o e).1
  refine codeAny_call_generator hr.depth (KX _ _ lk) rfl S.co S.gen rfl (PySem.W.codeRec_of KX hcd) (hb _ _ _ _ ?_)
  refine wpAny_newFunctionEnv_cells S.kind (fun y hy => ?_) fun env he s1 x => ?_
  · rcases S.par y.1 (List.of_mem_zip hy).1 with q | q
    · exact .inl q
    · exact .inr ⟨q, PySem.W.cellsFrom_some _ _ _ (.inl q)⟩
  subst he
  refine ⟨lim.keeps x.toInCall.keep, ?_⟩
  have lim1 : s1.heap.NoLimit := lim.keeps x.toInCall.keep
  obtain ⟨h1, tk, es1, hk1⟩ := x.done
  have os1 : s1.os = s.os := by rw [es1]
  have gen1 : s1.gens = s.gens := by rw [es1]
  have lt1 : s.heap.objs.size < s1.heap.objs.size := x.toInCall.ns.lt
  have kp1 : ∀ b o, s.heap.get? b = some o → s1.heap.get? b = some o := x.toInCall.keep
  have main : ∀ (go : Obj) (nm qn : Value) (tk2 : Nat), go.cls = .type "generator" → go.data = .fields #[.int s1.gens.size 0, nm, qn] → go.slots = #[] → (∀ h : Heap, (h.push go).get? h.objs.size = some go) →
      GMade2 P w (k + 1) outer H s xs (.ref s1.heap.objs.size) { s1 with gens := s1.gens.push (.fresh (.func [.For tgt iter [.Expr (.Yield (some e) yp) ep] [] fp] (envOfC qual scope s.heap.objs.size f cdv))), toks := tk2, heap := s1.heap.push go } := by
    intro go nm qn tk2 hgc hgd0 hgs hgp
    have hgen : ∀ h : Heap, h.get? s1.heap.objs.size = some go → h.IsGen s1.heap.objs.size s1.gens.size := fun h e => ⟨go, nm, qn, e, hgc, hgd0, hgs⟩
    have hpushed : (s1.heap.push go).get? s1.heap.objs.size = some go := hgp _
    refine ⟨s1.heap.objs.size, s1.gens.size, _, rfl, Nat.le_of_lt lt1, ?_, hgen _ hpushed, Array.getElem?_push_size .., os1, AllBare.push (by rw [gen1]; exact e0.bare) rfl, lim1.keeps fun b o e => Heap.get?_push_of_some _ e, fun b o e => Heap.get?_push_of_some _ (kp1 b o e), ?_⟩
    · show _ < (s1.heap.push _).objs.size
      rw [Heap.size_push]; exact Nat.lt_succ_self _
    intro Aw C D s2 hrw hfr hC hD hk2 hCo hDo hos hba
    have e0w : Env0 P w K mg base Aw outer s H := ⟨hfr, e0.mod, e0.bs, e0.bsz, e0.funs, e0.frf, e0.hok, e0.bare⟩
    obtain ⟨wi, oa, hi, hg, he, hw, hq⟩ := hbody Aw outer s H vs xs [(s1.heap.objs.size, go)] (hrw.deeper _) hsp
    have I1 : Inv (gcxOf P w K mg base N qual scope f cdv Aw outer s H (fun _ _ _ => False) []) [] (start N vs) H s1 := inv_startG S hrw.hd e0w hl r x
    have kp2 : ∀ b o, s1.heap.get? b = some o → s2.heap.get? b = some o := fun b o e => hk2 b o (Heap.get?_push_of_some _ e)
    have I2 : Inv (gcxOf P w K mg base N qual scope f cdv Aw outer s H (fun _ _ _ => False) []) [] (start N vs) H s2 :=
      I1.call' (ch := []) (hos.trans os1.symm) (Un.kept kp2) (I1.hok.kept kp2) hba fun b z => by simp at z
    have above : ∀ {b : Addr}, (s1.heap.push go).objs.size ≤ b → s1.heap.objs.size < b := fun h => by rw [Heap.size_push] at h; exact h
    have hC1 := above hC
    have hD1 := above hD
    obtain ⟨oC, eC, nC⟩ := hCo
    obtain ⟨oD, eD, nD⟩ := hDo
    have young : ∀ b, s1.heap.objs.size ≤ b → H b = none ∧ b ≠ s.heap.objs.size ∧ b ∉ frs outer ∧ s.heap.objs.size ≤ b ∧ ∀ y c, (cellsFrom (s.heap.objs.size + 1) scope.names []).lookup y = some c → c ≠ b := fun b hb => by
      refine ⟨I1.hok.fresh hb, Nat.ne_of_gt (Nat.lt_of_lt_of_le lt1 hb), I1.nofs hb, Nat.le_trans (Nat.le_of_lt lt1) hb, fun y c e z => ?_⟩
      obtain ⟨v, ob, ho, _⟩ := I1.cell y c e
      have := Heap.lt_size ho
      rw [z] at this
      exact absurd (Nat.lt_of_lt_of_le this hb) (Nat.lt_irrefl _)
    obtain ⟨a1, a2, a3, a4, a5⟩ := young _ (Nat.le_refl _)
    obtain ⟨c1, c2, c3, c4, c5⟩ := young C (Nat.le_of_lt hC1)
    obtain ⟨d1, d2, d3, d4, d5⟩ := young D (Nat.le_of_lt hD1)
    have hT : Two (gX P w K mg base N qual scope f cdv Aw outer s H [(s1.heap.objs.size, go)]) C D (start N vs) H s2 s2 := by
      refine ⟨oC, oD, eC, eD, (Inv.pinnedG I2 fun p hp => ?_).wish _⟩
      rcases List.mem_append.mp hp with z | z
      · rw [List.mem_singleton.mp z]
        exact ⟨hk2 _ go hpushed, a1, a2, a3, fun v q => by rw [hgd0] at q; cases q⟩
      rcases List.mem_cons.mp z with z | z
      · rw [z]; exact ⟨eC, c1, c2, c3, nC⟩
      · rw [List.mem_singleton.mp z]; exact ⟨eD, d1, d2, d3, nD⟩
    have far : Far (gX P w K mg base N qual scope f cdv Aw outer s H [(s1.heap.objs.size, go)]) C D :=
      ⟨⟨c4, c2, c5⟩, ⟨d4, d2, d5⟩, fun p hp => by
        rw [List.mem_singleton.mp hp]
        exact ⟨Nat.ne_of_lt hC1, Nat.ne_of_lt hD1⟩⟩
    obtain ⟨oC', oD', eC', eD', I3⟩ := id hT
    refine seg_func ?_
    refine seg_execs_cons ?_
    refine seg_For (hs _) ?_
    rw [over_func]
    refine wpAny_mono (hi.run [(C, oC'), (D, oD')] s2 _ H _ I3 hw) (fun v s3 h3 => ?_) fun _ _ h => h.elim
    refine wpAny_mono h3 (fun itv s4 h4 => ?_) fun _ _ h => h.elim
    obtain ⟨it, fpa, tn, J, H4, eit, I4, T, st4, f4, eJ, eH⟩ := h4
    subst eit eJ eH
    intro p
    refine seg_loop (X := gX P w K mg base N qual scope f cdv Aw outer s H4 [(s1.heap.objs.size, go)]) (oa := oa) (j := j) rfl (fun _ _ h => h) far hg he T hq (fun pins σ s5 I5 => hgen _ (I5.pin (s1.heap.objs.size, go) (List.mem_append_left _ (List.mem_singleton.mpr rfl))).1) (fun pins σ s5 I5 => I5.os)
      (fun σ v h => List.getElem?_set_self h) ((over_loop rfl rfl).trans over_func) rfl rfl S.co (hin _ _) (fun σ s₀ s5 h5 => ?_) xs.length 0 (start N vs) s2 s4 (Nat.zero_add _) (by have := I4.len; exact this ▸ hjN) (fun b hb o1 o2 => fp_swap (f4 b hb)) ⟨oC', oD', eC', eD', I4⟩ st4
    refine seg_leaf (.ok .next) ?_
    show Seg _ _ _ _ _ _ _ (leafOf (.ok (.ret .none))) _ _
    obtain ⟨q1, q2, q3, q4⟩ := h5.at
    obtain ⟨_, _, _, _, I5⟩ := h5
    exact seg_end (.ok (.ret .none)) (.inl ⟨.inl rfl, rfl, I5.os, I5.bare, I5.base, I5.hok, q1, q2, q3, q4⟩)
  exact main _ _ _ _ rfl rfl rfl fun h => Heap.get?_push_size _ rfl
end GenFor
end

-- GenFor4
section
set_option Elab.async false
set_option linter.all false
set_option maxRecDepth 100000
set_option maxHeartbeats 1000000
/-! the consumer: [x for x in g], g such a generator: the comprehension's loop. -/
namespace GenFor
open PySem PySem.Spec PyProof.Rows L2 GenW
section
variable {P : Program} {w : World} {A : Around} {outer : List Env} {H : Hp} {sB : Shared} {C D a : Addr} {g : Nat} {xs : List V} {x : Str} {q p pos : Pos} {scope : Scope} {iter : Expr} {ce : Env} {R : Result → Shared → Prop}
/-- between two turns: i items are in the list -/
def Turns (P : Program) (w : World) (A : Around) (outer : List Env) (H : Hp) (sB : Shared) (C D a : Addr) (g : Nat) (xs : List V) (n : Nat) (s : Shared) : Prop :=
  ∃ (i : Nat) (us : List Value) (m : Str → Option Value), i + n = xs.length ∧ s.heap.IsGen a g ∧ s.heap.NoLimit ∧ (∃ gs, s.gens[g]? = some gs ∧ gs.Goes (model P w) A.in1 (R2e P w outer H sB C D) (Y2 sB C D a g xs) n (.send .none) (s.setGen g .running)) ∧
    s.heap.PlainList D us.toArray ∧ Vals (xs.take i) us ∧ s.heap.Ns C m
theorem comp_gen (hh : A.handled = none) (hd : A.depth < recursionLimit) (hl : ce.locals = C) (hk : ce.scope.kind = .function) (hx : ce.kindOf x = some .local) (hp : (ce.scope.kind == .class || (ce.scope.kind == .module && ce.locals != ce.globals)) = false) (hdb : (x == ("__debug__" : Str)) = false)
    (nCD : C ≠ D) (nCa : C ≠ a) (nDa : D ≠ a) (nCs : C ≠ cStatics) (nDs : D ≠ cStatics) (hsz : xs.length ≤ sizeLine)
    (done : ∀ s' us m, s'.os = sB.os → AllBare s'.gens → Un (frs outer) [] H H sB.heap s'.heap → HOk P w H s'.heap → H C = none → H D = none → s'.heap.PlainList D us.toArray → Vals xs us → s'.heap.Ns C m → R (.ok .next) s')
    (n : Nat) {s : Shared} (h : Turns P w A outer H sB C D a g xs n s) :
    codeAny (model P w) A (.compLoop (.ListComp (.Name x q) [⟨.Name x p, iter, [], 0⟩] scope pos) 0 (.ref a) (.ref D) ce) R s := by
  refine compLoop_any (fun n s => Turns P w A outer H sB C D a g xs n s) ?_ n h
  rintro n s ⟨i, us, m, hi, hg, hlim, ⟨gs, hgs, hgo⟩, hD, rv, hns⟩
  have hgl : g < s.gens.size := (Array.getElem?_eq_some_iff.mp hgs).1
  refine wpAny_gsz (n := g + 1) hgl (next_genG hh hlim hd hg hgs (F := F2 P w outer H sB C D) (Er := fun _ _ => False) (Y := Y2 sB C D a g xs) hgo (fun v s₁ gs' hbare hv => ?_) (fun s₁ hF h' hkp => ?_) fun e s₁ he => he.elim)
  · intro hsz'
    obtain ⟨i', y, hi', hy, rvy, hos, hba, hlm, hge, hC, hDq, hk'⟩ := hv
    have eC : s₁.heap.get? C = s.heap.get? C := hC
    have eD : s₁.heap.get? D = s.heap.get? D := hDq
    have hsz1 : g < s₁.gens.size := by
      have q : (s₁.setGen g gs').gens.size = s₁.gens.size := setGen_size _ _ _
      have hsz'' : g + 1 ≤ (s₁.setGen g gs').gens.size := hsz'
      omega
    have hns1 : s₁.heap.Ns C m := hns.at' fun o e => eC.trans e
    have hD1 : s₁.heap.PlainList D us.toArray := by
      obtain ⟨k, e⟩ := hD
      exact ⟨k, eD.trans e⟩
    refine wpAny_of_eq (rfl : letOwnedTupleGo (.Name x p) (.ref a) v = pure ()) ?_
    refine wpAny_assign_Name (wpAny_storeName_local (m := m) hx (by rw [hl]; exact hns1) (fun h₂ hn₂ hs₂ => ?_) hp)
    refine wpAny_tests_nil ?_
    rw [if_pos rfl]
    refine wpAny_Name (wpAny_loadName_local (v := v) hk hx hn₂ (if_pos rfl) ?_) hdb
    have nDl : D ≠ ce.locals := by rw [hl]; exact Ne.symm nCD
    have hD2 : h₂.PlainList D us.toArray := by
      obtain ⟨k, e⟩ := hD1
      exact ⟨k, hs₂.extBut D _ nDl e⟩
    have ul : us.length ≤ i := by rw [← rv.length, List.length_take]; exact Nat.min_le_left _ _
    refine wpAny_list_append_plain (hsz := by rw [List.size_toArray]; omega) hD2 fun h₅ hl₅ hs₅ => ?_
    have keep : ∀ b o, b ≠ C → b ≠ D → s₁.heap.get? b = some o → h₅.get? b = some o := fun b o n1 n2 e => hs₅.extBut b o n2 (hs₂.extBut b o (by rw [hl]; exact n1) e)
    have hns5 : h₅.Ns C (fun x_1 => if x_1 = x then some v else m x_1) := by
      rw [hl] at hn₂
      exact hn₂.at' fun o e => hs₅.extBut C o nCD e
    have wk : ∀ (t : Nat), Woke C D s₁ ({ s₁.setGen g gs' with heap := h₅, toks := t }.setGen g .running) := fun t => by
      refine ⟨rfl, allBare_setGen (allBare_setGen hba hbare) rfl, keep, ?_, ?_⟩
      · obtain ⟨ob, es, ep, ho, hd, _⟩ := hns5
        exact ⟨ob, ho, fun v e => by rw [hd] at e; cases e⟩
      · obtain ⟨k, e⟩ := hl₅
        exact ⟨_, e, fun v z => by cases z⟩
    cases n with
    | zero => exact (hk' _ (wk 0)).elim
    | succ n =>
      have e : i' = i := by omega
      subst e
      refine ⟨n, Nat.lt_succ_self _, i' + 1, us ++ [v], _, by omega, (let ⟨o, nm, qn, ho, r⟩ := hge; ⟨o, nm, qn, keep a o (Ne.symm nCa) (Ne.symm nDa) ho, r⟩), ?_, ⟨gs', setGen_at hsz1, hk' _ (wk _)⟩, ?_, ?_, hns5⟩
      · obtain ⟨mc, hnc, hnn⟩ := hlm
        exact ⟨mc, hnc.at' fun o e => keep _ o (Ne.symm nCs) (Ne.symm nDs) e, hnn⟩
      · have e : us.toArray.push v = (us ++ [v]).toArray := by simp
        rw [← e]
        exact hl₅
      · rw [List.take_add_one, hy]
        exact rv.append (.cons rvy .nil)
  · intro _
    obtain ⟨n0, os1, ba1, un, hok, hC, hDq, nC, nD⟩ := hF
    subst n0
    have e : xs.take i = xs := List.take_of_length_le (by omega)
    rw [e] at rv
    refine done _ us m os1 (allBare_setGen ba1 rfl) (un.trans (Un.kept hkp)) (hok.kept hkp) nC nD ?_ rv ?_
    · obtain ⟨k, e⟩ := hD
      exact ⟨k, hkp _ _ (hDq.trans e)⟩
    · exact hns.at' fun o e => hkp _ _ (hC.trans e)
end
end GenFor
end

-- GenFor5
section
set_option Elab.async false
set_option linter.all false
set_option maxRecDepth 100000
set_option maxHeartbeats 1000000
/-! [x for x in o.m()], m such a generator. -/
namespace GenFor
open PySem PySem.Spec PyProof.Rows L2 GenW
/-- an expression whose value is such a generator that has not begun: what it will hand out -/
structure PGen2 (X : Cx) (k : Nat) (e : Expr) (tg : TGen) : Prop where
  run : ∀ (pins : List (Addr × Obj)) (s : Shared) (σ : L2.St) (H : Hp) (cont : List V → Hp → Prop), Inv X pins σ H s → tg σ H cont → wpAny (model X.prog X.w) X.A (eval e X.env)
    (fun u s' => ∃ H1 sc xs, Inv X pins σ H1 sc ∧ GMade2 X.prog X.w k X.stack H1 sc xs u s' ∧ cont xs H1) X.xe s
def tMethG2 (S : Addr → Prop) (m : Str) (sp : List V → Hp → List V → Prop) (ta : TE) : TGen := fun σ H cont => ta σ H fun x H1 => ∃ a C dx fs xs, x = .ref a ∧ H1 a = some (.ins C dx fs) ∧ S C ∧ fs.lookup m = none ∧ sp [x] H1 xs ∧ cont xs H1
section
variable {X : Cx} {k : Nat} {f : Addr} {fd : FuncData} {ps : List Str} {sp : List V → Hp → List V → Prop} {o : Expr} {m : Str} {apos pos pos' : Pos} {ta : TE} {S : Addr → Prop}
/-- o.m(), of whatever class of ours -/
theorem pgen2_meth0 {pl : Sem Bool} (he : PE X o ta) (c : ∀ C, S C → Cls X.K C ∧ Meth X.K C m f) (F : GFn2 X.prog X.w X.K X.mg X.base k f fd ps sp) (len : ∀ vs H xs, sp vs H xs → vs.length = ps.length) (hr : Room k X.A) (hb : Binds X.K fd ps [])
    (ht : eval (.Call (.Attribute o m apos) [] [] pos') X.env = (do
      let ov ← eval o X.env
      standAt apos.atName
      let (f, first) ← holding [ov] (getMethod ov m pl)
      callWith pos' f first (backTo pos' (starEach [] X.env)) (backToKw pos' (keywordEach [] X.env))) := by rfl) :
    PGen2 X k (.Call (.Attribute o m apos) [] [] pos') (tMethG2 S m sp ta) := by
  constructor
  intro pins s σ H cont I h
  refine PySem.W.methodCall_KW (pl := pl) (thn (he.run pins s σ H _ I h) fun u s1 ⟨x, H1, I1, rx, a, C, dx, fs, xs, ex, ea, hS, l, hsp, hq⟩ => ?_) ht
  subst ex
  obtain rfl : u = Value.ref a := rx
  have hm := (c C hS).2
  refine getmeth_ok I1 ea (c C hS).1 hm l ?_
  refine PySem.W.callWith_K0 (first := [.ref a]) I1.kIn hm.kp ?_
  have hl2 : ([Value.ref a] ++ []).length = ps.length := len _ _ _ hsp
  refine wpAny_call (codeAny_mono (F X.A X.stack s1 H1 ⟨[.ref a], []⟩ ([Value.ref a] ++ []) [V.ref a] xs hr I1.env0 (hb s1 [Value.ref a] I1.kIn hl2) (show Vals [V.ref a] ([Value.ref a] ++ []) from .cons rfl .nil) hsp) fun r s' q => ?_)
  cases r with
  | error e => exact False.elim q
  | ok fl =>
    cases fl with
    | ret u => exact ⟨H1, s1, xs, I1, q, hq⟩
    | next => exact False.elim q
    | brk => exact False.elim q
    | cont => exact False.elim q
def tLcG (tg : TGen) : TE := fun σ H Q => tg σ H fun xs H1 => xs.length ≤ sizeLine ∧ ∀ p, H1 p = none → Q (.ref p) (upd H1 p (.lst xs))
theorem pe_lcG {iter : Expr} {tg : TGen} {x : Str} {q p : Pos} {scope : Scope} {own : List (Str × Nat)} (h : PGen2 X k iter tg) (hc : X.calm = true) (hr : Room (k + 1) X.A) (ok : BlkOk X.N X.env.scope scope own)
    (hx : ∀ (cl : List (Str × Addr)) (C : Addr), (compEnvC scope cl C X.env).kindOf x = some .local) (hdb : (x == ("__debug__" : Str)) = false := by decide) (hs : ∀ x, foldedSetIterable iter X.env x = pure x := by intro _; rfl) :
    PE X (.ListComp (.Name x q) [⟨.Name x p, iter, [], 0⟩] scope pos) (tLcG tg) := by
  constructor
  intro pins s σ H Q I hq
  rw [eval_ListComp]
  have hfree : ∀ y ∈ scope.names, y.2 = .free → ∃ c, X.env.cells.lookup y.1 = some c := fun y hy e => by
    rcases ok.free y hy e with k | k
    · exact I.ok.has _ (.inl k)
    · exact I.ok.has _ (.inr k)
  refine wpAny_comprehension_free (use := none) rfl hs (closure_ok hfree) ok.kind (fun y hy e => by rw [ok.uniq y hy, e])
    (thn (h.run pins s σ H _ I hq) fun u s1 ⟨H1, sc, xs, I1, G, hsz, hQ⟩ => ?_)
  obtain ⟨a, g, c, rfl, ha1, ha2, hgen, hfresh, os, ba, lim, kp, seg⟩ := G
  refine wpAny_pyIter_gen hgen ?_
  refine wpAny_newObj_type (newEnv_comp ?_) (by show 0 ≤ sizeLine; decide)
  generalize hD : s1.heap.objs.size = D
  generalize hs3 : ({ s1 with heap := s1.heap.push { cls := .type "list", data := .seq ([] : List Value).toArray } } : Shared) = s3
  show codeAny _ _ (.compStart (.ListComp (.Name x q) [⟨.Name x p, iter, [], 0⟩] scope pos) 0 (.ref a) (.ref D) (compEnvC scope (cellsFrom (s3.heap.objs.size + 1) scope.names (cloFrom X.env.cells scope.names [])) s3.heap.objs.size X.env)) (compPost (model X.prog X.w) X.A X.xe none (EP X pins σ Q) (.ref D) s3.heap.objs.size) { s3 with heap := pushCells (s3.heap.push { cls := .type "dict", data := .dict #[] }) scope.names }
  have hxe := hx (cellsFrom (s3.heap.objs.size + 1) scope.names (cloFrom X.env.cells scope.names [])) s3.heap.objs.size
  have kce : (compEnvC scope (cellsFrom (s3.heap.objs.size + 1) scope.names (cloFrom X.env.cells scope.names [])) s3.heap.objs.size X.env).scope.kind = .function := ok.kind
  generalize hce : compEnvC scope (cellsFrom (s3.heap.objs.size + 1) scope.names (cloFrom X.env.cells scope.names [])) s3.heap.objs.size X.env = ce at hxe kce ⊢
  have cL : ce.locals = s3.heap.objs.size := by subst hce; rfl
  have h3 : s3.heap = s1.heap.push { cls := .type "list", data := .seq ([] : List Value).toArray } := by rw [← hs3]
  have g3 : s3.gens = s1.gens := by rw [← hs3]
  have o3 : s3.os = s1.os := by rw [← hs3]
  have szC : s3.heap.objs.size = D + 1 := by rw [h3, Heap.size_push, hD]
  generalize hC : s3.heap.objs.size = C at cL szC ⊢
  have k3 : ∀ b o, s1.heap.get? b = some o → s3.heap.get? b = some o := fun b o e => by rw [h3]; exact Heap.get?_push_of_some _ e
  have k4 : ∀ b o, s3.heap.get? b = some o → (pushCells (s3.heap.push { cls := .type "dict", data := .dict #[] }) scope.names).get? b = some o := fun b o e => pushCells_keeps _ _ _ _ (Heap.get?_push_of_some _ e)
  have eC : (pushCells (s3.heap.push { cls := .type "dict", data := .dict #[] }) scope.names).get? C = some { cls := .type "dict", data := .dict #[] } := by
    rw [← hC]
    exact pushCells_keeps _ _ _ _ (Heap.get?_push_size _ rfl)
  have eD3 : s3.heap.get? D = some { cls := .type "list", data := .seq ([] : List Value).toArray } := by
    rw [h3, ← hD]
    exact Heap.get?_push_size _ rfl
  have eD := k4 _ _ eD3
  have kp4 : ∀ b o, s1.heap.get? b = some o → (pushCells (s3.heap.push { cls := .type "dict", data := .dict #[] }) scope.names).get? b = some o := fun b o e => k4 b o (k3 b o e)
  have aD : a < D := by rw [← hD]; exact ha2
  have stat : cStatics < D := by
    obtain ⟨mc, hns, _⟩ := id lim
    rw [← hD]
    exact hns.lt
  have scD : sc.heap.objs.size ≤ D := by rw [← hD]; exact Nat.le_trans ha1 (Nat.le_of_lt ha2)
  have DC : D < C := by rw [szC]; exact Nat.lt_succ_self _
  have aC : a < C := Nat.lt_trans aD DC
  have tC : cStatics < C := Nat.lt_trans stat DC
  generalize hs4 : ({ s3 with heap := pushCells (s3.heap.push { cls := .type "dict", data := .dict #[] }) scope.names } : Shared) = s4
  have h4 : s4.heap = pushCells (s3.heap.push { cls := .type "dict", data := .dict #[] }) scope.names := by rw [← hs4]
  have g4 : s4.gens = s1.gens := by rw [← hs4]; exact g3
  have o4 : s4.os = sc.os := by rw [← hs4]; exact o3.trans os
  rw [← h4] at eC eD kp4
  have ns4 : s4.heap.Ns C (fun _ => none) := ⟨_, _, _, eC, rfl, (fun e he => by simp at he), fun _ => rfl⟩
  have start : Turns X.prog X.w X.A X.stack H1 sc C D a g xs xs.length s4 := by
    refine ⟨0, [], _, Nat.zero_add _, hgen.keeps kp4, lim.keeps kp4, ⟨.fresh c, by rw [g4]; exact hfresh, rfl, ?_⟩, ⟨_, eD⟩, .nil, ns4⟩
    refine seg X.A.in1 C D (s4.setGen g .running) hr.in1 I1.ok.frames (by rw [hD, szC]; exact Nat.le_succ _) (Nat.le_of_eq hD) (fun b o e => kp4 b o e) ⟨_, eC, fun v z => by cases z⟩ ⟨_, eD, fun v z => by cases z⟩ o4 (allBare_setGen (by rw [g4]; exact ba) rfl)
  have loop : codeAny (model X.prog X.w) X.A (.compLoop (.ListComp (.Name x q) [⟨.Name x p, iter, [], 0⟩] scope pos) 0 (.ref a) (.ref D) ce) (compPost (model X.prog X.w) X.A X.xe none (EP X pins σ Q) (.ref D) C) s4 := by
    refine comp_gen (I1.ok.hd hc) hr.depth cL kce hxe (by rw [kce]; rfl) hdb (Nat.ne_of_gt DC) (Nat.ne_of_gt aC) (Nat.ne_of_gt aD) (Nat.ne_of_gt tC) (Nat.ne_of_gt stat) hsz (fun s' us m os' ba' un hok nC nD hl rv hns => ?_) xs.length start
    obtain ⟨kk, hl⟩ := hl
    have rv' : Vals xs us.toArray.toList := rv
    have I5 : Inv X pins σ (upd H1 D (.lst xs)) s' := I1.drained (ex := []) scD hsz hl rv' .nil os' ba' un hok nD
    have fC : FpOk X pins (upd H1 D (.lst xs)) C := I1.fpOk (Nat.le_trans scD (Nat.le_of_lt DC)) (by rw [upd_ne (Nat.ne_of_gt DC)]; exact nC)
    obtain ⟨f0, f1, f2, f3, f4, f5⟩ := fC
    exact ⟨m, hns, fun h'' sb => ⟨.ref D, _, I5.turned (t' := s'.toks) (fun b o hb e => (sb.2 b hb).trans e) f0 f1 f3 f4 f5, rfl, hQ D nD⟩⟩
  exact codeAny_compStart_list loop (wpAny_pyIter_gen (hgen.keeps kp4) loop)
end
end GenFor
end

-- K4r
section
set_option Elab.async false
set_option linter.all false
set_option maxRecDepth 100000
set_option exponentiation.threshold 10000
namespace R4
open PySem L2 OwnOps OwnNe G1 StX SupX GenFor
section
variable {P : Program} {w : World} {K : PySem.W.Frag} {mg : Str → Option Value} {base : Heap}
/-- exchanges(): the items of orders -/
def spExch (K : PySem.W.Frag) : List V → Hp → List V → Prop := fun vs H xs => ∃ p C dx fs oa, vs = [.ref p] ∧ H p = some (.ins C dx fs) ∧ KCls K C ∧ fs.lookup ("orders" : Str) = some (.ref oa) ∧ SqT K H oa xs
theorem ok_exch {f : Addr} {fd : FuncData} (F : Fun K "exchanges" "Kind.exchanges" (sKi 2) f fd) : GFn2 P w K mg base 1 f fd ["self"] (spExch K) := by
  obtain ⟨oc, od, kV, doc, pm, an, cdv, ct, osl, rfl, lk, hcd⟩ := F.ex
  have S : GScope ["self", "order"] ["self"] (defScope (sKi 2)) := ⟨rfl, rfl, rfl, by decide +kernel, rfl, by decide +kernel, by decide +kernel⟩
  refine gen2_of (k := 0) (N := ["self", "order"]) (j := 1) lk hcd S (fun vs H xs h => ?_) (by decide) (fun _ _ => rfl) (fun _ _ => rfl) (fun A outer s H vs xs pn hr h => ?_)
  · obtain ⟨p, C, dx, fs, oa, rfl, _⟩ := h
    rfl
  · obtain ⟨p, C, dx, fs, oa, rfl, hp, kc, lk', hq⟩ := h
    refine ⟨_, oa, pi_tup (pe_fld (pv 0) rfl), pg_name (i := 1) S.nd rfl (Or.inl rfl), pv 1, ?_, hq⟩
    exact ⟨_, rfl, p, C, dx, fs, _, rfl, hp, kc.cl, kc.n5, lk', oa, rfl, ⟨_, hq⟩, rfl, rfl⟩
end
end R4
end

-- K4s
section
set_option Elab.async false
set_option linter.all false
set_option maxRecDepth 100000
set_option exponentiation.threshold 10000
namespace R4
open PySem L2 OwnOps OwnNe G1 StX SupX GenFor
/-! the orders within choices are those of all orders that keep to them -/
def okO (ps : List (Int → Bool)) (o : List Int) : Bool := (o.zip ps).all fun q => q.2 q.1
theorem okO_snoc {ps : List (Int → Bool)} {o : List Int} {p : Int → Bool} (z : Int) (h : ps[o.length]? = some p) : okO ps (o ++ [z]) = (okO ps o && p z) := by
  unfold okO
  have e : ps = ps.take o.length ++ p :: ps.drop (o.length + 1) := by
    have lt := (List.getElem?_eq_some_iff.mp h).1
    have e2 := (List.getElem?_eq_some_iff.mp h).2
    rw [← e2, ← List.drop_eq_getElem_cons lt, List.take_append_drop]
  have lt := (List.getElem?_eq_some_iff.mp h).1
  have l : o.length = (ps.take o.length).length := by rw [List.length_take]; omega
  have h1 : (o ++ [z]).zip ps = o.zip (ps.take o.length) ++ [(z, p)] := by
    conv => lhs; rw [e]
    rw [List.zip_append l]
    rfl
  have h2 : o.zip ps = o.zip (ps.take o.length) := by
    conv => lhs; rw [e]
    rw [← List.append_nil o, List.append_nil o]
    have := List.zip_append (r₁ := ([] : List Int)) (r₂ := p :: ps.drop (o.length + 1)) l
    rw [List.append_nil] at this
    rw [this]
    simp
  rw [h1, h2, List.all_append]
  simp
theorem orders_exact {css : List (List Int)} : ∀ k, k ≤ css.length → ∀ o ∈ ordersT (css.take k), o.length = k
  | 0, _, o, h => by
    rw [show ordersT (css.take 0) = [[]] from rfl, List.mem_singleton] at h
    rw [h]
    rfl
  | k + 1, hk, o, h => by
    have lt : k < css.length := hk
    rw [orders_succ (List.getElem?_eq_getElem lt)] at h
    obtain ⟨o1, h1, h2⟩ := List.mem_flatMap.mp h
    obtain ⟨z, _, rfl⟩ := List.mem_map.mp h2
    rw [List.length_append, orders_exact k (Nat.le_of_lt lt) o1 h1]
    rfl
theorem ext_filter {ps : List (Int → Bool)} {o U : List Int} {p : Int → Bool} (h : ps[o.length]? = some p) : (extO o U).filter (okO ps) = if okO ps o = true then extO o (U.filter p) else [] := by
  unfold extO
  rw [List.filter_map]
  have e : (U.filter fun i => !o.contains i).filter (okO ps ∘ fun i => o ++ [i]) = (U.filter fun i => !o.contains i).filter fun i => okO ps o && p i :=
    List.filter_congr fun i _ => okO_snoc i h
  rw [e]
  cases hb : okO ps o with
  | true =>
    rw [if_pos rfl]
    congr 1
    rw [List.filter_filter, List.filter_filter]
    refine List.filter_congr fun i _ => ?_
    rw [Bool.true_and, Bool.and_comm]
  | false =>
    rw [if_neg Bool.false_ne_true]
    simp
theorem flatMap_if {α β : Type} (q : α → Bool) (f : α → List β) : ∀ l : List α, (l.filter q).flatMap f = l.flatMap fun a => if q a = true then f a else []
  | [] => rfl
  | a :: l => by
    rw [List.flatMap_cons, ← flatMap_if q f l]
    cases h : q a with
    | true => rw [List.filter_cons_of_pos h, List.flatMap_cons, if_pos rfl]
    | false => rw [List.filter_cons_of_neg (by rw [h]; decide), if_neg Bool.false_ne_true]; rfl
theorem flatMap_eq {α β : Type} {f g : α → List β} : ∀ {l : List α}, (∀ a ∈ l, f a = g a) → l.flatMap f = l.flatMap g
  | [], _ => rfl
  | a :: l, h => by
    rw [List.flatMap_cons, List.flatMap_cons, h a List.mem_cons_self, flatMap_eq fun b hb => h b (List.mem_cons_of_mem _ hb)]
theorem orders_filter (U : List Int) (ps : List (Int → Bool)) : ∀ k, k ≤ ps.length → ordersT ((ps.map fun p => U.filter p).take k) = (ordersT ((List.replicate ps.length U).take k)).filter (okO ps)
  | 0, _ => by
    rw [show ordersT ((ps.map fun p => U.filter p).take 0) = [[]] from rfl, show ordersT ((List.replicate ps.length U).take 0) = [[]] from rfl]
    rfl
  | k + 1, hk => by
    have lt : k < ps.length := hk
    have h1 : (ps.map fun p => U.filter p)[k]? = some (U.filter ps[k]) := by rw [List.getElem?_map, List.getElem?_eq_getElem lt]; rfl
    have h2 : (List.replicate ps.length U)[k]? = some U := List.getElem?_replicate_of_lt lt
    rw [orders_succ h1, orders_succ h2, orders_filter U ps k (Nat.le_of_lt lt)]
    unfold stepO
    rw [flatMap_if, List.filter_flatMap]
    refine flatMap_eq fun o ho => ?_
    have l := orders_exact k (by rw [List.length_replicate]; exact Nat.le_of_lt lt) o ho
    rw [ext_filter (by rw [l]; exact List.getElem?_eq_getElem lt)]
/-- the whole -/
theorem orders_all (n : Nat) (ps : List (Int → Bool)) (h : ps.length = n) : ordersT (ps.map fun p => (upto n).filter p) = (lawO n).filter (okO ps) := by
  have := orders_filter (upto n) ps n (by omega)
  rw [List.take_of_length_le (by rw [List.length_map]; omega), List.take_of_length_le (by rw [List.length_replicate]; omega), h] at this
  exact this
end R4
end

-- K4t
section
set_option Elab.async false
set_option linter.all false
set_option maxRecDepth 100000
set_option exponentiation.threshold 10000
namespace R4
open PySem L2 OwnOps OwnNe G1 StX SupX GenFor
/-! a pin's mates are its group, as the law tells it -/
theorem mates_filter (z : Str) (pins : List Str) (gss : List (List Str)) : (matesT z pins gss).map Int.ofNat = (upto pins.length).filter fun i => mOk z (gmates z gss) pins i.toNat := by
  unfold matesT mTo upto
  rw [List.filter_map]
  rfl
theorem mem_inPins {pins zs : List Str} {y : Str} : y ∈ inPins pins zs ↔ y ∈ pins ∧ y ∈ zs := by
  unfold inPins
  rw [List.mem_filter, List.contains_iff_mem]
theorem mem_gmates {z y : Str} {gss : List (List Str)} : y ∈ gmates z gss ↔ ∃ g ∈ gss, z ∈ g ∧ y ∈ g := by
  unfold gmates
  rw [List.mem_flatMap]
  constructor
  · rintro ⟨g, h1, h2⟩
    split at h2
    · rename_i hc
      exact ⟨g, h1, List.contains_iff_mem.mp hc, h2⟩
    · cases h2
  · rintro ⟨g, h1, h2, h3⟩
    refine ⟨g, h1, ?_⟩
    rw [if_pos (List.contains_iff_mem.mpr h2)]
    exact h3
theorem mates_law {pins : List Str} {gts : List (List Str)} {y z : Str} (dis : ∀ g ∈ gts, ∀ g' ∈ gts, ∀ u, u ∈ g → u ∈ g' → g = g') (hy : y ∈ pins) (hz : z ∈ pins) :
    (decide (y = z) || (gmates z (gsOf pins (gts.map some))).contains y) = (grpOf gts z).contains y := by
  rw [Bool.eq_iff_iff, Bool.or_eq_true, decide_eq_true_iff, List.contains_iff_mem, List.contains_iff_mem, mem_gmates]
  have gm : ∀ g, g ∈ gsOf pins (gts.map some) ↔ ∃ zs ∈ gts, g = inPins pins zs := fun g => by
    unfold gsOf
    rw [List.map_map, List.mem_map]
    constructor
    · rintro ⟨zs, h, rfl⟩; exact ⟨zs, h, rfl⟩
    · rintro ⟨zs, h, rfl⟩; exact ⟨zs, h, rfl⟩
  unfold grpOf
  cases hf : gts.find? (fun g => g.contains z) with
  | none =>
    have no := List.find?_eq_none.mp hf
    show _ ↔ y ∈ [z]
    rw [List.mem_singleton]
    constructor
    · rintro (h | ⟨g, h1, h2, h3⟩)
      · exact h
      · obtain ⟨zs, hzs, rfl⟩ := (gm g).mp h1
        exact absurd (List.contains_iff_mem.mpr (mem_inPins.mp h2).2) (no zs hzs)
    · exact fun h => .inl h
  | some g0 =>
    have h0 := List.mem_of_find?_eq_some hf
    have h1 : z ∈ g0 := List.contains_iff_mem.mp (List.find?_some (p := fun g : List Str => g.contains z) hf)
    show _ ↔ y ∈ g0
    constructor
    · rintro (h | ⟨g, h2, h3, h4⟩)
      · rw [h]; exact h1
      · obtain ⟨zs, hzs, rfl⟩ := (gm g).mp h2
        rw [dis g0 h0 zs hzs z h1 (mem_inPins.mp h3).2]
        exact (mem_inPins.mp h4).2
    · intro h
      exact .inr ⟨inPins pins g0, (gm _).mpr ⟨g0, h0, rfl⟩, mem_inPins.mpr ⟨hz, h1⟩, mem_inPins.mpr ⟨hy, h⟩⟩
/-- what the law asks of an order, place by place -/
def lawPs (pins : List Str) (gts : List (List Str)) : List (Int → Bool) := pins.map fun z i => (grpOf gts z).contains (pins.getD i.toNat Str.empty)
theorem mem_lawO {n : Nat} {o : List Int} (h : o ∈ lawO n) : o.length = n ∧ ∀ i ∈ o, ∃ k : Nat, k < n ∧ i = (k : Int) := by
  have key : ∀ k, k ≤ n → ∀ o ∈ ordersT ((List.replicate n (upto n)).take k), ∀ i ∈ o, ∃ k : Nat, k < n ∧ i = (k : Int) := by
    intro k
    induction k with
    | zero =>
      intro _ o h i hi
      rw [show ordersT ((List.replicate n (upto n)).take 0) = [[]] from rfl, List.mem_singleton] at h
      rw [h] at hi
      cases hi
    | succ k ih =>
      intro hk o h i hi
      rw [lawO_step hk] at h
      obtain ⟨o1, h1, h2⟩ := List.mem_flatMap.mp h
      obtain ⟨z, hz, rfl⟩ := List.mem_map.mp h2
      rcases List.mem_append.mp hi with hi | hi
      · exact ih (by omega) o1 h1 i hi
      · rw [List.mem_singleton.mp hi]
        have hz := (List.mem_filter.mp hz).1
        unfold upto at hz
        obtain ⟨m, hm, rfl⟩ := List.mem_map.mp hz
        exact ⟨m, List.mem_range.mp hm, rfl⟩
  have full : (List.replicate n (upto n)).take n = List.replicate n (upto n) := List.take_of_length_le (by rw [List.length_replicate]; exact Nat.le_refl _)
  have e := orders_exact (css := List.replicate n (upto n)) n (by rw [List.length_replicate]; exact Nat.le_refl _) o (by rw [full]; exact h)
  exact ⟨e, key n (Nat.le_refl _) o (by rw [full]; exact h)⟩
theorem okO_congr {ps qs : List (Int → Bool)} {o : List Int} (l : ps.length = qs.length) (h : ∀ (i : Nat) p q x, ps[i]? = some p → qs[i]? = some q → o[i]? = some x → p x = q x) : okO ps o = okO qs o := by
  unfold okO
  induction o generalizing ps qs with
  | nil => rfl
  | cons x o ih =>
    cases ps with
    | nil => cases qs with
      | nil => rfl
      | cons q qs => cases l
    | cons p ps => cases qs with
      | nil => cases l
      | cons q qs =>
        rw [List.zip_cons_cons, List.zip_cons_cons, List.all_cons, List.all_cons, ih (Nat.succ.inj l) fun i p' q' x' a b c => h (i + 1) p' q' x' a b c]
        congr 1
        exact h 0 p q x rfl rfl rfl
/-- the orders of a pin kind are what the law is due -/
theorem pinO_law {pins : List Str} {gts : List (List Str)} (dis : ∀ g ∈ gts, ∀ g' ∈ gts, ∀ u, u ∈ g → u ∈ g' → g = g') : pinO pins (gsOf pins (gts.map some)) = (lawO pins.length).filter (okO (lawPs pins gts)) := by
  unfold pinO
  have e : (pins.map fun z => (matesT z pins (gsOf pins (gts.map some))).map Int.ofNat) = (pins.map fun z (i : Int) => mOk z (gmates z (gsOf pins (gts.map some))) pins i.toNat).map fun p => (upto pins.length).filter p := by
    rw [List.map_map]
    refine List.map_congr_left fun z _ => ?_
    exact mates_filter z pins _
  rw [e, orders_all pins.length _ (List.length_map ..)]
  refine List.filter_congr fun o ho => ?_
  obtain ⟨l, mem⟩ := mem_lawO ho
  refine okO_congr (by unfold lawPs; rw [List.length_map, List.length_map]) fun i p q x hp hq hx => ?_
  unfold lawPs at hq
  rw [List.getElem?_map] at hp hq
  obtain ⟨z, hz, rfl⟩ := Option.map_eq_some_iff.mp hp
  rw [hz] at hq
  cases hq
  obtain ⟨k, hk, rfl⟩ := mem x (List.mem_of_getElem? hx)
  show mOk z _ pins ((k : Int)).toNat = (grpOf gts z).contains (pins.getD ((k : Int)).toNat Str.empty)
  rw [Int.toNat_natCast]
  have hy : pins.getD k Str.empty ∈ pins := by
    rw [List.getD_eq_getElem?_getD, List.getElem?_eq_getElem hk]
    exact List.getElem_mem hk
  exact mates_law dis hy (List.mem_of_getElem? hz)
end R4
end

-- K4u
section
set_option Elab.async false
set_option linter.all false
set_option maxRecDepth 100000
set_option exponentiation.threshold 10000
namespace R4
open PySem L2 OwnOps OwnNe G1 StX SupX GenFor
/-! the rows of a pin kind's line, as the law gathers them -/
theorem split_at {α : Type} {xs : List α} {k : Nat} {x : α} (h : xs[k]? = some x) : xs = xs.take k ++ x :: xs.drop (k + 1) := by
  have lt := (List.getElem?_eq_some_iff.mp h).1
  have e := (List.getElem?_eq_some_iff.mp h).2
  rw [← e, ← List.drop_eq_getElem_cons lt, List.take_append_drop]
theorem apart_at {α : Type} {xs : List α} {k : Nat} {x : α} (hn : xs.Nodup) (h : xs[k]? = some x) : x ∉ xs.take k ∧ x ∉ xs.drop (k + 1) := by
  rw [split_at h] at hn
  have h1 := List.nodup_append.mp hn
  refine ⟨fun hm => h1.2.2 x hm x List.mem_cons_self rfl, (List.nodup_cons.mp h1.2.1).1⟩
theorem head_iff {pins zs : List Str} {k : Nat} {pin : Str} (hn : pins.Nodup) (h : pins[k]? = some pin) : (inPins pins zs).head? = some pin ↔ pin ∈ zs ∧ ∀ u ∈ pins.take k, u ∉ zs := by
  obtain ⟨n1, n2⟩ := apart_at hn h
  have e : inPins pins zs = (pins.take k).filter (fun z => zs.contains z) ++ (pin :: pins.drop (k + 1)).filter fun z => zs.contains z := by
    unfold inPins
    conv => lhs; rw [split_at h]
    rw [List.filter_append]
  rw [e]
  cases hf : (pins.take k).filter (fun z => zs.contains z) with
  | nil =>
    have none_ : ∀ u ∈ pins.take k, u ∉ zs := fun u hu hz => by
      have : u ∈ (pins.take k).filter (fun z => zs.contains z) := List.mem_filter.mpr ⟨hu, List.contains_iff_mem.mpr hz⟩
      rw [hf] at this
      cases this
    rw [List.nil_append]
    cases hc : zs.contains pin with
    | true =>
      rw [List.filter_cons_of_pos hc]
      exact ⟨fun _ => ⟨List.contains_iff_mem.mp hc, none_⟩, fun _ => rfl⟩
    | false =>
      rw [List.filter_cons_of_neg (by rw [hc]; decide)]
      refine ⟨fun hh => ?_, fun hh => ?_⟩
      · have hm := List.mem_of_mem_head? (by rw [hh]; rfl : pin ∈ ((pins.drop (k + 1)).filter fun z => zs.contains z).head?)
        exact absurd (List.mem_filter.mp hm).1 n2
      · rw [List.contains_iff_mem.mpr hh.1] at hc
        cases hc
  | cons u r =>
    have hu : u ∈ (pins.take k).filter (fun z => zs.contains z) := by rw [hf]; exact List.mem_cons_self
    obtain ⟨hu1, hu2⟩ := List.mem_filter.mp hu
    refine ⟨fun hh => ?_, fun hh => absurd (List.contains_iff_mem.mp hu2) (hh.2 u hu1)⟩
    have : u = pin := Option.some.inj hh
    rw [this] at hu1
    exact absurd hu1 n1
/-- a turn of the law's loop: the rows so far, the pins seen -/
def rowsStep (pins : List Str) (gts : List (List Str)) (st : List (List Str) × List Str) (pin : Str) : List (List Str) × List Str :=
  if 1 < (grpOf gts pin).length ∧ pin ∉ st.2 then (st.1 ++ [inPins pins (grpOf gts pin)], st.2 ++ grpOf gts pin) else st
def lawRows (pins : List Str) (gts : List (List Str)) (k : Nat) : List (List Str) × List Str := (pins.take k).foldl (rowsStep pins gts) ([], [])
theorem lawRows_succ {pins : List Str} {gts : List (List Str)} {k : Nat} {pin : Str} (h : pins[k]? = some pin) : lawRows pins gts (k + 1) = rowsStep pins gts (lawRows pins gts k) pin := by
  unfold lawRows
  rw [take_succ_at h, List.foldl_append]
  rfl
theorem grpOf_in {gts : List (List Str)} {g : List Str} {pin : Str} (dis : ∀ g ∈ gts, ∀ g' ∈ gts, ∀ u, u ∈ g → u ∈ g' → g = g') (hg : g ∈ gts) (hp : pin ∈ g) : grpOf gts pin = g := by
  unfold grpOf
  cases hf : gts.find? (fun g => g.contains pin) with
  | none => exact absurd (List.contains_iff_mem.mpr hp) (List.find?_eq_none.mp hf g hg)
  | some g0 => exact dis g0 (List.mem_of_find?_eq_some hf) g hg pin (List.contains_iff_mem.mp (List.find?_some (p := fun g : List Str => g.contains pin) hf)) hp
theorem grpOf_out {gts : List (List Str)} {pin : Str} (no : ∀ g ∈ gts, pin ∉ g) : grpOf gts pin = [pin] := by
  unfold grpOf
  rw [List.find?_eq_none.mpr fun g hg => fun hc => no g hg (List.contains_iff_mem.mp hc)]
  rfl
theorem filter_one {α : Type} [DecidableEq α] {l : List α} {a : α} {q : α → Bool} (hn : l.Nodup) (hm : a ∈ l) (ha : q a = true) (ho : ∀ b ∈ l, b ≠ a → q b = false) : l.filter q = [a] := by
  induction l with
  | nil => cases hm
  | cons b l ih =>
    have hn' := List.nodup_cons.mp hn
    by_cases e : b = a
    · subst e
      rw [List.filter_cons_of_pos ha, List.filter_eq_nil_iff.mpr fun c hc => ?_]
      rw [ho c (List.mem_cons_of_mem _ hc) fun z => hn'.1 (z ▸ hc)]
      decide
    · rw [List.filter_cons_of_neg (by rw [ho b List.mem_cons_self e]; decide)]
      exact ih hn'.2 ((List.mem_cons.mp hm).resolve_left fun z => e z.symm) fun c hc => ho c (List.mem_cons_of_mem _ hc)
theorem rows_law {pins : List Str} {gts : List (List Str)} (hn : pins.Nodup) (hg : gts.Nodup) (dis : ∀ g ∈ gts, ∀ g' ∈ gts, ∀ u, u ∈ g → u ∈ g' → g = g') (two : ∀ g ∈ gts, 2 ≤ g.length) :
    ∀ k, k ≤ pins.length → (lawRows pins gts k).1 = ordG (pins.take k) (gsOf pins (gts.map some)) ∧ ∀ y, y ∈ (lawRows pins gts k).2 ↔ ∃ g ∈ gts, y ∈ g ∧ ∃ u ∈ pins.take k, u ∈ g
  | 0, _ => ⟨rfl, fun y => ⟨fun h => (by cases h), fun ⟨_, _, _, u, hu, _⟩ => (by cases hu)⟩⟩
  | k + 1, hk => by
    obtain ⟨ih1, ih2⟩ := rows_law hn hg dis two k (Nat.le_of_succ_le hk)
    have hp : pins[k]? = some pins[k] := List.getElem?_eq_getElem hk
    generalize pins[k] = pin at hp
    have eg : gsOf pins (gts.map some) = gts.map fun zs => inPins pins zs := by
      unfold gsOf
      rw [List.map_map]
      rfl
    have os : ordG (pins.take (k + 1)) (gsOf pins (gts.map some)) = ordG (pins.take k) (gsOf pins (gts.map some)) ++ ((gts.filter fun zs => decide ((inPins pins zs).head? = some pin)).map fun zs => inPins pins zs) := by
      unfold ordG
      rw [take_succ_at hp, List.flatMap_append]
      congr 1
      rw [List.flatMap_cons, List.flatMap_nil, List.append_nil, eg, List.filter_map]
      rfl
    rw [lawRows_succ hp, os, take_succ_at hp]
    unfold rowsStep
    by_cases hin : ∃ g ∈ gts, pin ∈ g
    · obtain ⟨g, hgm, hpg⟩ := hin
      rw [grpOf_in dis hgm hpg]
      have h2 := two g hgm
      by_cases seen : pin ∈ (lawRows pins gts k).2
      · rw [if_neg fun h => h.2 seen]
        obtain ⟨g', hg', hp', u, hu, hu'⟩ := (ih2 pin).mp seen
        have : g' = g := dis g' hg' g hgm pin hp' hpg
        subst this
        refine ⟨?_, fun y => ?_⟩
        · rw [ih1, List.filter_eq_nil_iff.mpr fun zs hz => ?_]
          · simp
          · intro hh
            have h3 := (head_iff hn hp).mp (of_decide_eq_true hh)
            have : zs = g' := dis zs hz g' hg' pin h3.1 hp'
            subst this
            exact h3.2 u hu hu'
        · rw [ih2 y]
          constructor
          · rintro ⟨a, b, c, v, hv, hv'⟩; exact ⟨a, b, c, v, List.mem_append_left _ hv, hv'⟩
          · rintro ⟨a, b, c, v, hv, hv'⟩
            rcases List.mem_append.mp hv with hv | hv
            · exact ⟨a, b, c, v, hv, hv'⟩
            · have e := List.mem_singleton.mp hv
              subst e
              have : a = g' := dis a b g' hg' v hv' hp'
              subst this
              exact ⟨a, b, c, u, hu, hu'⟩
      · rw [if_pos ⟨by omega, seen⟩]
        have fresh : ∀ u ∈ pins.take k, u ∉ g := fun u hu hug => seen ((ih2 pin).mpr ⟨g, hgm, hpg, u, hu, hug⟩)
        refine ⟨?_, fun y => ?_⟩
        · rw [ih1, filter_one hg hgm (decide_eq_true ((head_iff hn hp).mpr ⟨hpg, fresh⟩)) fun b hb ne => decide_eq_false fun hh => ne (dis b hb g hgm pin ((head_iff hn hp).mp hh).1 hpg)]
          rfl
        · rw [List.mem_append, ih2 y]
          constructor
          · rintro (⟨a, b, c, v, hv, hv'⟩ | hy)
            · exact ⟨a, b, c, v, List.mem_append_left _ hv, hv'⟩
            · exact ⟨g, hgm, hy, pin, List.mem_append_right _ (List.mem_singleton.mpr rfl), hpg⟩
          · rintro ⟨a, b, c, v, hv, hv'⟩
            rcases List.mem_append.mp hv with hv | hv
            · exact .inl ⟨a, b, c, v, hv, hv'⟩
            · have e := List.mem_singleton.mp hv
              subst e
              have : a = g := dis a b g hgm v hv' hpg
              subst this
              exact .inr c
    · have no : ∀ g ∈ gts, pin ∉ g := fun g h1 h2 => hin ⟨g, h1, h2⟩
      rw [grpOf_out no, if_neg (fun h => absurd (show 1 < 1 from h.1) (by decide))]
      refine ⟨?_, fun y => ?_⟩
      · rw [ih1, List.filter_eq_nil_iff.mpr fun zs hz => ?_]
        · simp
        · intro hh
          exact no zs hz ((head_iff hn hp).mp (of_decide_eq_true hh)).1
      · rw [ih2 y]
        constructor
        · rintro ⟨a, b, c, v, hv, hv'⟩; exact ⟨a, b, c, v, List.mem_append_left _ hv, hv'⟩
        · rintro ⟨a, b, c, v, hv, hv'⟩
          rcases List.mem_append.mp hv with hv | hv
          · exact ⟨a, b, c, v, hv, hv'⟩
          · rw [List.mem_singleton.mp hv] at hv'
            exact absurd hv' (no a b)
end R4
end

-- K4v
section
set_option Elab.async false
set_option linter.all false
set_option maxRecDepth 100000
set_option exponentiation.threshold 10000
namespace R4
open PySem L2 OwnOps OwnNe G1 StX SupX GenFor
/-! the line of a pin kind is the text that the law is due -/
theorem str_assoc (a b c : Str) : a ++ b ++ c = a ++ (b ++ c) := by
  cases a
  cases b
  cases c
  show (⟨_ ++ _ ++ _⟩ : Str) = ⟨_ ++ (_ ++ _)⟩
  rw [Array.append_assoc]
theorem tj (sep : Str) (xs : List Str) : Txt.join sep xs = Str.join sep xs := by
  unfold Txt.join
  rw [StrLaws.glued_eq_join]
theorem join_app (sep : Str) : ∀ (xs ys : List Str), xs ≠ [] → ys ≠ [] → Str.join sep (xs ++ ys) = Str.join sep xs ++ sep ++ Str.join sep ys
  | [x], y :: ys, _, _ => rfl
  | x :: x2 :: xs, ys, _, h => by
    show x ++ sep ++ Str.join sep ((x2 :: xs) ++ ys) = (x ++ sep ++ Str.join sep (x2 :: xs)) ++ sep ++ Str.join sep ys
    rw [join_app sep (x2 :: xs) ys (by simp) h]
    simp only [str_assoc]
def lawT (pins : List Str) (rows : List (List Str)) : Str := ("pins one " : Str) ++ Txt.join " " pins ++ (if rows = [] then Str.empty else (" : " : Str) ++ Txt.join " , " (rows.map (Txt.join " ")))
theorem str_empty (a : Str) : a ++ Str.empty = a := by
  cases a
  show (⟨_ ++ #[]⟩ : Str) = _
  rw [Array.append_empty]
theorem pinT_law {pins : List Str} {gss : List (List Str)} (hp : pins ≠ []) (h0 : (Txt.join " , " ((ordG pins gss).map (Txt.join " "))).length = 0 ↔ ordG pins gss = []) : pinT "one" pins gss = lawT pins (ordG pins gss) := by
  unfold pinT worded lawT
  have e1 : Txt.join " " (("pins" : Str) :: "one" :: pins) = ("pins one " : Str) ++ Txt.join " " pins := by
    rw [tj, tj, show (("pins" : Str) :: "one" :: pins) = [("pins" : Str), "one"] ++ pins from rfl, join_app _ _ _ (by simp) hp]
    congr 1
  by_cases h : ordG pins gss = []
  · rw [if_pos (h0.mpr h), if_pos h, e1, str_empty]
  · rw [if_neg (fun z => h (h0.mp z)), if_neg h, tj, join_app _ _ _ (by simp) (by simp), ← tj, e1]
    have e2 : Str.join " " [(":" : Str), Txt.join " , " ((ordG pins gss).map (Txt.join " "))] = (":" : Str) ++ " " ++ Txt.join " , " ((ordG pins gss).map (Txt.join " ")) := rfl
    rw [e2]
    rw [show Str.ofString " : " = Str.ofString " " ++ (Str.ofString ":" ++ Str.ofString " ") from by decide +kernel]
    simp only [str_assoc]
end R4
end

-- K4w
section
set_option Elab.async false
set_option linter.all false
set_option maxRecDepth 100000
set_option exponentiation.threshold 10000
namespace R4
open PySem L2 OwnOps OwnNe G1 StX SupX GenFor
/-! making kinds, as the callers read it -/
abbrev saPath (K : PySem.W.Frag) (CN CK DP gK : Addr) : SpA := fun vs kv H Q E => ∃ a b rest, vs = a :: b :: rest ∧ kv = [] ∧ rest.length ≤ sizeLine ∧ ∀ p, H p = none → spPathB K CN CK (fun C => SupAt K C DP "__init__" gK) (a :: b :: [] ++ [V.ref p]) (upd H p (.tup rest)) Q E
theorem made_same {H H' : Hp} {q dx C p : Addr} {o : HO} (hq : H q = none) (hd : H dx = none) (ne : dx ≠ q) (hp : (upd (upd H dx (.own q)) q (.ins C dx [])) p = none) (sx : SameX q (upd (upd (upd H dx (.own q)) q (.ins C dx [])) p o) H') : Same H H' := fun b u e => by
  refine sx b u (ne_of_none e hq) ?_
  have h1 : (upd (upd H dx (.own q)) q (.ins C dx [])) b = some u := by
    rw [upd_ne (ne_of_none e hq), upd_ne (ne_of_none e hd)]
    exact e
  rw [upd_ne (ne_of_none h1 hp)]
  exact h1
theorem made_at {H : Hp} {q dx C p : Addr} {o : HO} (hp : (upd (upd H dx (.own q)) q (.ins C dx [])) p = none) : (upd (upd (upd H dx (.own q)) q (.ins C dx [])) p o) q = some (.ins C dx []) := by
  have h1 : (upd (upd H dx (.own q)) q (.ins C dx [])) q = some (.ins C dx []) := upd_same
  rw [upd_ne (ne_of_none h1 hp)]
  exact h1
section
variable {K : PySem.W.Frag} {H : Hp} {Q : VK} {E : XK} {CN CK DP gK C : Addr} {d : Bool} {u : Value} {x : Str} {cs : List Str}
theorem mk_path {q dx : Addr} (hq : H q = none) (hd : H dx = none) (ne : dx ≠ q) (kc : KCls K C) (so : SupAt K C DP "__init__" gK) (con : Con K C "DIRECTED" (.bl d) u) (wx : wd x = true) (n3 : cs.length ≤ 3) (dif : difV (.str "a" :: .str "b" :: cs.map V.str) = true) (c12 : ∀ y ∈ cs, y.length ≤ 12)
    (k : ∀ H', Same H H' → PathI H' q C dx x cs d [] (pathT d x cs none none) → Q .non H') :
    saPath K CN CK DP gK (.ref q :: .str x :: cs.map V.str) [] (upd (upd H dx (.own q)) q (.ins C dx [])) Q E := by
  have line : 1000 ≤ sizeLine := by decide
  have x12 : x.length ≤ 12 := by
    unfold wd at wx
    simp only [Bool.and_eq_true, decide_eq_true_eq] at wx
    exact wx.1.1.1.1.2
  refine ⟨_, _, _, rfl, rfl, by rw [List.length_map]; omega, fun p hp => ⟨q, dx, C, p, .str x, cs.map V.str, d, u, rfl, made_at hp, upd_same, kc, so, con, .str x, by show x.length ≤ 1000; omega, by rw [List.length_map]; omega, fun y hy => ?_, .inr (.inr ⟨x, cs, rfl, rfl, wx, ?_, c12, fun H' sx pi => k H' (made_same hq hd ne hp sx) pi⟩)⟩⟩
  · obtain ⟨z, hz, rfl⟩ := List.mem_map.mp hy
    exact ⟨.str _, Nat.le_trans (c12 z hz) (by decide)⟩
  · rw [dif, List.length_map, decide_eq_false (show ¬ 3 < cs.length by omega)]
    rfl
abbrev saJoi (K : PySem.W.Frag) (D CK DP DJ gK gP : Addr) : SpA := fun vs kv H Q E => ∃ a b rest, vs = a :: b :: rest ∧ okJ kv ∧ rest.length ≤ sizeLine ∧ ∀ p, H p = none → spJoiB K D CK DP DJ gK gP (a :: b :: gJ kv ++ [V.ref p]) (upd H p (.tup rest)) Q E
theorem made_up {q dx p : Addr} {o : HO} (hq : H q = none) (hd : H dx = none) (hp : (upd (upd H dx (.own q)) q (.ins C dx [])) p = none) : Same H (upd (upd (upd H dx (.own q)) q (.ins C dx [])) p o) := fun b u e => by
  have h1 : (upd (upd H dx (.own q)) q (.ins C dx [])) b = some u := by
    rw [upd_ne (ne_of_none e hq), upd_ne (ne_of_none e hd)]
    exact e
  rw [upd_ne (ne_of_none h1 hp)]
  exact h1
theorem gJ_two (kv : List (Str × V)) (r s : V) (h : kv = [(("row" : Str), r), (("side" : Str), s)] ∨ kv = [(("side" : Str), s), (("row" : Str), r)]) : gJ kv = [r, s] := by
  rcases h with rfl | rfl <;> rfl
theorem mk_joi {q dx : Addr} (hq : H q = none) (hd : H dx = none) (ne : dx ≠ q) {D DJ gP : Addr} {r s : V} {a b : Option Bool} {kv : List (Str × V)} (hkv : kv = [(("row" : Str), r), (("side" : Str), s)] ∨ kv = [(("side" : Str), s), (("row" : Str), r)])
    (kc : KCls K C) (so : SupAt K C DP "__init__" gK) (soJ : SupAt K C DJ "__init__" gP) (con : Con K C "DIRECTED" (.bl d) u) (wx : wd x = true) (n3 : cs.length ≤ 3) (dif : difV (.str "a" :: .str "b" :: cs.map V.str) = true) (c12 : ∀ y ∈ cs, y.length ≤ 12)
    (ra : RVal D H r a) (rb : RVal D H s b)
    (k : ∀ H' rq a' b', Same H H' → a'.map Prod.fst = a → b'.map Prod.fst = b → PathI H' q C dx x cs d [("_rules", .ref rq)] (pathT d x cs a' b') → Ruls D H' rq a' b' → Q .non H') :
    saJoi K D CK DP DJ gK gP (.ref q :: .str x :: cs.map V.str) kv (upd (upd H dx (.own q)) q (.ins C dx [])) Q E := by
  have line : 1000 ≤ sizeLine := by decide
  refine ⟨_, _, _, rfl, ⟨r, s, hkv⟩, by rw [List.length_map]; omega, fun p hp => ?_⟩
  rw [gJ_two kv r s hkv]
  have up := made_up (C := C) (o := .tup (cs.map V.str)) hq hd hp
  exact ⟨q, dx, C, p, x, cs, r, s, d, u, rfl, made_at hp, upd_same, kc, so, soJ, con, wx, n3, dif, c12, .inl ⟨a, b, ra.same up, rb.same up, fun H' rq a' b' sx e1 e2 pi ru => k H' rq a' b' (made_same hq hd ne hp sx) e1 e2 pi ru⟩⟩
abbrev saPin (K : PySem.W.Frag) (CN CK DI gK sd : Addr) : SpA := fun vs kv H Q E => ∃ a b rest, vs = a :: b :: rest ∧ okP kv ∧ rest.length ≤ sizeLine ∧ ∀ p o, H p = none → o.dict = none → o.cls = .type "tuple" → spPinB K CN CK DI gK (a :: b :: gP sd kv ++ [V.ref p]) (upd H p (.frz o (.tup rest))) Q E
theorem mk_pin {q dx : Addr} (hq : H q = none) (hd : H dx = none) (ne : dx ≠ q) {DI sd ga : Addr} {pins : List Str} {gs : List V} {os : List (Option (List Str))} (kc : KCls K C) (so : SupAt K C DI "__init__" gK) (wx : wd x = true) (n1 : 1 ≤ pins.length) (n6 : pins.length ≤ 6) (dif : difV (pins.map V.str) = true) (c12 : ∀ z ∈ pins, z.length ≤ 12)
    (gr : Grs H ga gs os) (n10 : gs.length ≤ 10) (n40 : (texts os).length ≤ 40) (ok : grpB os pins = true) (sh : ∀ z ∈ texts os, z.length ≤ 1000)
    (k : ∀ H', Same H H' → PinI K H' q C dx x pins (gsOf pins os) → Q .non H') :
    saPin K CN CK DI gK sd (.ref q :: .str x :: pins.map V.str) [(("swaps" : Str), .ref ga)] (upd (upd H dx (.own q)) q (.ins C dx [])) Q E := by
  have line : 1000 ≤ sizeLine := by decide
  have x12 : x.length ≤ 12 := by
    unfold wd at wx
    simp only [Bool.and_eq_true, decide_eq_true_eq] at wx
    exact wx.1.1.1.1.2
  refine ⟨_, _, _, rfl, .inr ⟨_, rfl⟩, by rw [List.length_map]; omega, fun p o hp od oc => ?_⟩
  have up := made_up (C := C) (o := .frz o (.tup (pins.map V.str))) hq hd hp
  refine ⟨q, dx, C, p, .str x, .ref ga, pins.map V.str, o, rfl, made_at hp, upd_same, od, oc, kc, so, .str x, by show x.length ≤ 1000; omega, by rw [List.length_map]; exact n1, by rw [List.length_map]; exact n6, fun y hy => ?_, .inr (.inr ⟨x, pins, rfl, rfl, wx, dif, c12, .inr ⟨ga, gs, os, rfl, gr.same up, n10, n40, sh, .inr ⟨ok, fun H' sx pi => k H' (made_same hq hd ne hp sx) pi⟩⟩⟩)⟩
  obtain ⟨z, hz, rfl⟩ := List.mem_map.mp hy
  exact ⟨.str _, Nat.le_trans (c12 z hz) (by decide)⟩
end
end R4
end

-- K4x
section
set_option Elab.async false
set_option linter.all false
set_option maxRecDepth 100000
set_option exponentiation.threshold 10000
namespace R4
open PySem L2 OwnOps OwnNe G1 StX SupX GenFor
abbrev sLPk : Stmt := top 43
/-- a class of path kinds, as it is made -/
structure PCl (K : PySem.W.Frag) (mg : Str → Option Value) (nm : Str) (C fI DP gK : Addr) (d : Bool) : Prop where
  g : mg nm = some (.ref C)
  mks : Mk K C fI
  kc : KCls K C
  so : SupAt K C DP "__init__" gK
  con : ∃ u, Con K C "DIRECTED" (.bl d) u
abbrev NPk : List Str := ["_law_way", "_law_number", "_law_rules", "_law_rung", "_law_flank"]
def ctl (n : Nat) : List Str := ([("g" : Str), "h", "a1"]).take n
def ctlOf (way num : Nat) : List Str := ctl (if way = 0 then num else if way = 1 then num % 3 else num % 2)
def dirOf (way : Nat) : Bool := decide (way = 1) || decide (way = 3)
theorem PathI.same {H H' : Hp} {p C dx : Addr} {x : Str} {cs : List Str} {d : Bool} {r : List (Str × V)} {l : Str} (h : PathI H p C dx x cs d r l) (s : Same H H') : PathI H' p C dx x cs d r l := by
  obtain ⟨pa, ca, oa, h1, h2, h3, h4⟩ := h
  exact ⟨pa, ca, oa, s _ _ h1, s _ _ h2, s _ _ h3, h4.same s⟩
theorem wk : wd "k" = true := by decide +kernel
theorem dif0 : difV (.str "a" :: .str "b" :: ([] : List Str).map V.str) = true := by decide +kernel
theorem dif1 : difV (.str "a" :: .str "b" :: (["g"] : List Str).map V.str) = true := by decide +kernel
theorem dif2 : difV (.str "a" :: .str "b" :: (["g", "h"] : List Str).map V.str) = true := by decide +kernel
theorem dif3 : difV (.str "a" :: .str "b" :: (["g", "h", "a1"] : List Str).map V.str) = true := by decide +kernel
theorem c12_0 : ∀ y ∈ ([] : List Str), y.length ≤ 12 := by decide +kernel
theorem c12_1 : ∀ y ∈ (["g"] : List Str), y.length ≤ 12 := by decide +kernel
theorem c12_2 : ∀ y ∈ (["g", "h"] : List Str), y.length ≤ 12 := by decide +kernel
theorem c12_3 : ∀ y ∈ (["g", "h", "a1"] : List Str), y.length ≤ 12 := by decide +kernel
section
variable {P : Program} {w : World} {K : PySem.W.Frag} {mg : Str → Option Value} {base : Heap} {D CK fCK CN DP DJ gK gP C0 C1 C2 C3 fP fJ : Addr}
def clsOf (C0 C1 C2 C3 : Addr) (way : Nat) : Addr := if way = 0 then C0 else if way = 1 then C1 else if way = 2 then C2 else C3
def spLPk (D C0 C1 C2 C3 : Addr) : Sp := fun vs H Q _ => ∃ (way num : Nat) (ra : Addr) (r s : V) (a b : Option Bool), vs = [.int (way : Int), .int (num : Int), .ref ra] ∧ way < 4 ∧ num < 4 ∧ H ra = some (.tup [r, s]) ∧ RVal D H r a ∧ RVal D H s b ∧
  ∀ q dx H' rs a' b', Same H H' → PathI H' q (clsOf C0 C1 C2 C3 way) dx "k" (ctlOf way num) (dirOf way) rs (pathT (dirOf way) "k" (ctlOf way num) a' b') →
    ((way < 2 ∧ rs = [] ∧ a' = none ∧ b' = none) ∨ (2 ≤ way ∧ a'.map Prod.fst = a ∧ b'.map Prod.fst = b ∧ ∃ rq, rs = [(("_rules" : Str), V.ref rq)] ∧ Ruls D H' rq a' b')) → Q (.ref q) H'
theorem ok_lpk {f : Addr} {fd : FuncData} (F : Fun K "_law_path_kind" "_law_path_kind" sLPk f fd) (T : Bi mg) (c0 : PCl K mg "PathKind" C0 fP DP gK false) (c1 : PCl K mg "DirectedKind" C1 fP DP gK true) (c2 : PCl K mg "JoiningKind" C2 fJ DP gK false) (c3 : PCl K mg "DirectedJoiningKind" C3 fJ DP gK true)
    (j2 : SupAt K C2 DJ "__init__" gP) (j3 : SupAt K C3 DJ "__init__" gP) (FP : FnA P w K mg base (L2.CX P w) 5 fP (saPath K CN CK DP gK)) (FJ : FnA P w K mg base (L2.CX P w) 7 fJ (saJoi K D CK DP DJ gK gP)) :
    FnOk P w K mg base (L2.CX P w) 9 f fd ["_law_way", "_law_number", "_law_rules"] (spLPk D C0 C1 C2 C3) := by
  have sc : FnScope NPk ["_law_way", "_law_number", "_law_rules"] (defScope sLPk) := ⟨rfl, rfl, rfl, by decide +kernel, rfl, by decide +kernel, by decide +kernel⟩
  have hN := sc.nd
  refine F.okX sc (fun vs H Q E h => ?_) (fun cdv A outer s H vs Q E hr h => ?_)
  · obtain ⟨way, num, ra, r, s, a, b, rfl, _⟩ := h
    rfl
  · obtain ⟨way, num, ra, r, sv, a, b, rfl, hw, hn, hra, rr, rs, k⟩ := h
    refine ⟨_, pss_cons (ps_if (pt_cmpR op_eq (pv 0) pe_int (nomark _)) (pss_one (ps_ret (pe_ix ix_list (pe_lst
        (pa_cons (pe_makeA0 (E := E0) c0.mks FP (hr.mono (by decide)) (by rfl) c0.g passL (pa_cons pe_str pa_nil))
        (pa_cons (pe_makeA0 (E := E0) c0.mks FP (hr.mono (by decide)) (by rfl) c0.g passL (pa_cons pe_str (pa_cons pe_str pa_nil)))
        (pa_cons (pe_makeA0 (E := E0) c0.mks FP (hr.mono (by decide)) (by rfl) c0.g passL (pa_cons pe_str (pa_cons pe_str (pa_cons pe_str pa_nil))))
        (pa_cons (pe_makeA0 (E := E0) c0.mks FP (hr.mono (by decide)) (by rfl) c0.g passL (pa_cons pe_str (pa_cons pe_str (pa_cons pe_str (pa_cons pe_str pa_nil))))) pa_nil))))) (pv 1) (fun _ _ => rfl)))) pss_nil)
      (pss_cons (ps_if (pt_cmpR op_eq (pv 0) pe_int (nomark _)) (pss_one (ps_ret (pe_ix ix_list (pe_lst
        (pa_cons (pe_makeA0 (E := E0) c1.mks FP (hr.mono (by decide)) (by rfl) c1.g passL (pa_cons pe_str pa_nil))
        (pa_cons (pe_makeA0 (E := E0) c1.mks FP (hr.mono (by decide)) (by rfl) c1.g passL (pa_cons pe_str (pa_cons pe_str pa_nil)))
        (pa_cons (pe_makeA0 (E := E0) c1.mks FP (hr.mono (by decide)) (by rfl) c1.g passL (pa_cons pe_str (pa_cons pe_str (pa_cons pe_str pa_nil)))) pa_nil)))) (pe_op op_mod (pv 1) pe_int) (fun _ _ => rfl)))) pss_nil)
      (pss_cons (ps_asg (pv 2) (pg_two (i := 3) (j := 4) rfl hN rfl (Or.inl rfl) rfl (Or.inl rfl)))
      (pss_cons (ps_if (pt_cmpR op_eq (pv 0) pe_int (nomark _)) (pss_one (ps_ret (pe_ix ix_list (pe_lst
        (pa_cons (pe_makeA (ks := ["row", "side"]) (E := E0) c2.mks FJ (hr.mono (by decide)) (by rfl) c2.g passL (pa_cons pe_str pa_nil) (pk_cons (pv 3) (pk_cons (pv 4) pk_nil)))
        (pa_cons (pe_makeA (ks := ["side", "row"]) (E := E0) c2.mks FJ (hr.mono (by decide)) (by rfl) c2.g passL (pa_cons pe_str (pa_cons pe_str pa_nil)) (pk_cons (pv 4) (pk_cons (pv 3) pk_nil))) pa_nil))) (pe_op op_mod (pv 1) pe_int) (fun _ _ => rfl)))) pss_nil)
      (pss_cons (ps_if (pt_cmpR op_eq (pe_op op_mod (pe_callTy call_int1 (by rfl) T.int (by decide +kernel) (pa_cons (pv 1) pa_nil)) pe_int) pe_int (nomark _))
        (pss_one (ps_ret (pe_makeA (ks := ["row", "side"]) (E := E0) c3.mks FJ (hr.mono (by decide)) (by rfl) c3.g passL (pa_cons pe_str pa_nil) (pk_cons (pv 3) (pk_cons (pv 4) pk_nil))))) pss_nil)
      (pss_one (ps_ret (pe_makeA (ks := ["row", "side"]) (E := E0) c3.mks FJ (hr.mono (by decide)) (by rfl) c3.g passL (pa_cons pe_str (pa_cons pe_str pa_nil)) (pk_cons (pv 3) (pk_cons (pv 4) pk_nil))))))))), ?_⟩
    have line : 1000 ≤ sizeLine := by decide
    obtain ⟨u0, con0⟩ := c0.con
    obtain ⟨u1, con1⟩ := c1.con
    obtain ⟨u2, con2⟩ := c2.con
    obtain ⟨u3, con3⟩ := c3.con
    match way, hw, k with
    | 0, _, k =>
      refine ⟨_, rfl, rfl, _, rfl, if_pos' (decide_eq_true rfl) ?_⟩
      refine ⟨rfl, fun q0 dx0 hq hd ne => mk_path (cs := []) hq hd ne c0.kc c0.so con0 wk (by decide) dif0 c12_0 fun G0 s0 p0 => ⟨rfl, ?_⟩⟩
      refine ⟨rfl, fun q1 dx1 hq hd ne => mk_path (cs := ["g"]) hq hd ne c0.kc c0.so con0 wk (by decide) dif1 c12_1 fun G1 s1 p1 => ⟨rfl, ?_⟩⟩
      refine ⟨rfl, fun q2 dx2 hq hd ne => mk_path (cs := ["g", "h"]) hq hd ne c0.kc c0.so con0 wk (by decide) dif2 c12_2 fun G2 s2 p2 => ⟨rfl, ?_⟩⟩
      refine ⟨rfl, fun q3 dx3 hq hd ne => mk_path (cs := ["g", "h", "a1"]) hq hd ne c0.kc c0.so con0 wk (by decide) dif3 c12_3 fun G3 s3 p3 => ⟨rfl, ?_⟩⟩
      refine ⟨by show 4 ≤ sizeLine; omega, fun l nl => ?_⟩
      have sl := same_upd (o := .lst [V.ref q0, V.ref q1, V.ref q2, V.ref q3]) nl
      have s23 := s3.trans sl
      have s13 := s2.trans s23
      have s03 := s1.trans s13
      match num, hn, k with
      | 0, _, k => exact ⟨_, rfl, l, _, _, _, rfl, rfl, SqL.of upd_same, at_of (j := 0) rfl rfl, k q0 dx0 _ [] none none (s0.trans s03) (p0.same s03) (.inl ⟨by decide, rfl, rfl, rfl⟩)⟩
      | 1, _, k => exact ⟨_, rfl, l, _, _, _, rfl, rfl, SqL.of upd_same, at_of (j := 1) rfl rfl, k q1 dx1 _ [] none none (s0.trans s03) (p1.same s13) (.inl ⟨by decide, rfl, rfl, rfl⟩)⟩
      | 2, _, k => exact ⟨_, rfl, l, _, _, _, rfl, rfl, SqL.of upd_same, at_of (j := 2) rfl rfl, k q2 dx2 _ [] none none (s0.trans s03) (p2.same s23) (.inl ⟨by decide, rfl, rfl, rfl⟩)⟩
      | 3, _, k => exact ⟨_, rfl, l, _, _, _, rfl, rfl, SqL.of upd_same, at_of (j := 3) rfl rfl, k q3 dx3 _ [] none none (s0.trans s03) (p3.same sl) (.inl ⟨by decide, rfl, rfl, rfl⟩)⟩
    | 1, _, k =>
      refine ⟨_, rfl, rfl, _, rfl, if_neg' (decide_eq_false (fun z => absurd (V.int.inj z) (by decide))) ⟨_, rfl, rfl, _, rfl, if_pos' (decide_eq_true rfl) ?_⟩⟩
      refine ⟨rfl, fun q0 dx0 hq hd ne => mk_path (cs := []) hq hd ne c1.kc c1.so con1 wk (by decide) dif0 c12_0 fun G0 s0 p0 => ⟨rfl, ?_⟩⟩
      refine ⟨rfl, fun q1 dx1 hq hd ne => mk_path (cs := ["g"]) hq hd ne c1.kc c1.so con1 wk (by decide) dif1 c12_1 fun G1 s1 p1 => ⟨rfl, ?_⟩⟩
      refine ⟨rfl, fun q2 dx2 hq hd ne => mk_path (cs := ["g", "h"]) hq hd ne c1.kc c1.so con1 wk (by decide) dif2 c12_2 fun G2 s2 p2 => ⟨rfl, ?_⟩⟩
      refine ⟨by show 3 ≤ sizeLine; omega, fun l nl => ?_⟩
      have sl := same_upd (o := .lst [V.ref q0, V.ref q1, V.ref q2]) nl
      have s13 := s2.trans sl
      have s03 := s1.trans s13
      match num, hn, k with
      | 0, _, k => exact ⟨_, rfl, _, _, rfl, rfl, (by decide), l, _, _, _, rfl, rfl, SqL.of upd_same, at_of (j := 0) rfl rfl, k q0 dx0 _ [] none none (s0.trans s03) (p0.same s03) (.inl ⟨by decide, rfl, rfl, rfl⟩)⟩
      | 1, _, k => exact ⟨_, rfl, _, _, rfl, rfl, (by decide), l, _, _, _, rfl, rfl, SqL.of upd_same, at_of (j := 1) rfl rfl, k q1 dx1 _ [] none none (s0.trans s03) (p1.same s13) (.inl ⟨by decide, rfl, rfl, rfl⟩)⟩
      | 2, _, k => exact ⟨_, rfl, _, _, rfl, rfl, (by decide), l, _, _, _, rfl, rfl, SqL.of upd_same, at_of (j := 2) rfl rfl, k q2 dx2 _ [] none none (s0.trans s03) (p2.same sl) (.inl ⟨by decide, rfl, rfl, rfl⟩)⟩
      | 3, _, k => exact ⟨_, rfl, _, _, rfl, rfl, (by decide), l, _, _, _, rfl, rfl, SqL.of upd_same, at_of (j := 0) rfl rfl, k q0 dx0 _ [] none none (s0.trans s03) (p0.same s03) (.inl ⟨by decide, rfl, rfl, rfl⟩)⟩
    | 2, _, k =>
      refine ⟨_, rfl, rfl, _, rfl, if_neg' (decide_eq_false (fun z => absurd (V.int.inj z) (by decide))) ⟨_, rfl, rfl, _, rfl, if_neg' (decide_eq_false (fun z => absurd (V.int.inj z) (by decide))) ?_⟩⟩
      refine ⟨_, rfl, ra, _, rfl, SqT.of hra, rfl, _, _, rfl, _, _, rfl, rfl, ?_⟩
      refine ⟨_, rfl, rfl, _, rfl, if_pos' (decide_eq_true rfl) ?_⟩
      refine ⟨_, rfl, _, rfl, rfl, fun q0 dx0 hq hd ne => mk_joi (cs := []) (a := a) (b := b) hq hd ne (.inl rfl) c2.kc c2.so j2 con2 wk (by decide) dif0 c12_0 rr rs fun G0 rq0 a0 b0 s0 ea0 eb0 p0 ru0 => ⟨rfl, ?_⟩⟩
      refine ⟨_, rfl, _, rfl, rfl, fun q1 dx1 hq hd ne => mk_joi (cs := ["g"]) (a := a) (b := b) hq hd ne (.inr rfl) c2.kc c2.so j2 con2 wk (by decide) dif1 c12_1 (rr.same s0) (rs.same s0) fun G1 rq1 a1 b1 s1 ea1 eb1 p1 ru1 => ⟨rfl, ?_⟩⟩
      refine ⟨by show 2 ≤ sizeLine; omega, fun l nl => ?_⟩
      have sl := same_upd (o := .lst [V.ref q0, V.ref q1]) nl
      have s03 := s1.trans sl
      match num, hn, k with
      | 0, _, k => exact ⟨_, rfl, _, _, rfl, rfl, (by decide), l, _, _, _, rfl, rfl, SqL.of upd_same, at_of (j := 0) rfl rfl, k q0 dx0 _ _ a0 b0 (s0.trans s03) (p0.same s03) (.inr ⟨by decide, ea0, eb0, rq0, rfl, ru0.same s03⟩)⟩
      | 1, _, k => exact ⟨_, rfl, _, _, rfl, rfl, (by decide), l, _, _, _, rfl, rfl, SqL.of upd_same, at_of (j := 1) rfl rfl, k q1 dx1 _ _ a1 b1 (s0.trans s03) (p1.same sl) (.inr ⟨by decide, ea1, eb1, rq1, rfl, ru1.same sl⟩)⟩
      | 2, _, k => exact ⟨_, rfl, _, _, rfl, rfl, (by decide), l, _, _, _, rfl, rfl, SqL.of upd_same, at_of (j := 0) rfl rfl, k q0 dx0 _ _ a0 b0 (s0.trans s03) (p0.same s03) (.inr ⟨by decide, ea0, eb0, rq0, rfl, ru0.same s03⟩)⟩
      | 3, _, k => exact ⟨_, rfl, _, _, rfl, rfl, (by decide), l, _, _, _, rfl, rfl, SqL.of upd_same, at_of (j := 1) rfl rfl, k q1 dx1 _ _ a1 b1 (s0.trans s03) (p1.same sl) (.inr ⟨by decide, ea1, eb1, rq1, rfl, ru1.same sl⟩)⟩
    | 3, _, k =>
      refine ⟨_, rfl, rfl, _, rfl, if_neg' (decide_eq_false (fun z => absurd (V.int.inj z) (by decide))) ⟨_, rfl, rfl, _, rfl, if_neg' (decide_eq_false (fun z => absurd (V.int.inj z) (by decide))) ?_⟩⟩
      refine ⟨_, rfl, ra, _, rfl, SqT.of hra, rfl, _, _, rfl, _, _, rfl, rfl, ?_⟩
      refine ⟨_, rfl, rfl, _, rfl, if_neg' (decide_eq_false (fun z => absurd (V.int.inj z) (by decide))) ?_⟩
      match num, hn, k with
      | 0, _, k =>
        refine ⟨_, rfl, .inl ⟨_, rfl, _, _, rfl, rfl, (by decide), rfl, _, rfl, if_pos' (by decide) ?_⟩⟩
        exact ⟨_, rfl, _, rfl, rfl, fun q0 dx0 hq hd ne => mk_joi (cs := []) (a := a) (b := b) hq hd ne (.inl rfl) c3.kc c3.so j3 con3 wk (by decide) dif0 c12_0 rr rs fun G0 rq0 a0 b0 s0 ea0 eb0 p0 ru0 => ⟨rfl, k q0 dx0 _ _ a0 b0 s0 p0 (.inr ⟨by decide, ea0, eb0, rq0, rfl, ru0⟩)⟩⟩
      | 1, _, k =>
        refine ⟨_, rfl, .inl ⟨_, rfl, _, _, rfl, rfl, (by decide), rfl, _, rfl, if_neg' (by decide) ?_⟩⟩
        exact ⟨_, rfl, _, rfl, rfl, fun q0 dx0 hq hd ne => mk_joi (cs := ["g"]) (a := a) (b := b) hq hd ne (.inl rfl) c3.kc c3.so j3 con3 wk (by decide) dif1 c12_1 rr rs fun G0 rq0 a0 b0 s0 ea0 eb0 p0 ru0 => ⟨rfl, k q0 dx0 _ _ a0 b0 s0 p0 (.inr ⟨by decide, ea0, eb0, rq0, rfl, ru0⟩)⟩⟩
      | 2, _, k =>
        refine ⟨_, rfl, .inl ⟨_, rfl, _, _, rfl, rfl, (by decide), rfl, _, rfl, if_pos' (by decide) ?_⟩⟩
        exact ⟨_, rfl, _, rfl, rfl, fun q0 dx0 hq hd ne => mk_joi (cs := []) (a := a) (b := b) hq hd ne (.inl rfl) c3.kc c3.so j3 con3 wk (by decide) dif0 c12_0 rr rs fun G0 rq0 a0 b0 s0 ea0 eb0 p0 ru0 => ⟨rfl, k q0 dx0 _ _ a0 b0 s0 p0 (.inr ⟨by decide, ea0, eb0, rq0, rfl, ru0⟩)⟩⟩
      | 3, _, k =>
        refine ⟨_, rfl, .inl ⟨_, rfl, _, _, rfl, rfl, (by decide), rfl, _, rfl, if_neg' (by decide) ?_⟩⟩
        exact ⟨_, rfl, _, rfl, rfl, fun q0 dx0 hq hd ne => mk_joi (cs := ["g"]) (a := a) (b := b) hq hd ne (.inl rfl) c3.kc c3.so j3 con3 wk (by decide) dif1 c12_1 rr rs fun G0 rq0 a0 b0 s0 ea0 eb0 p0 ru0 => ⟨rfl, k q0 dx0 _ _ a0 b0 s0 p0 (.inr ⟨by decide, ea0, eb0, rq0, rfl, ru0⟩)⟩⟩
end
end R4
end

-- K4y
section
set_option Elab.async false
set_option linter.all false
set_option maxRecDepth 100000
set_option exponentiation.threshold 10000
namespace R4
open PySem L2 OwnOps OwnNe G1 StX SupX GenFor
/-! making kinds that are refused -/
section
variable {K : PySem.W.Frag} {H : Hp} {Q : VK} {E : XK} {CN CK DP DI DJ D gK gP C q dx sd : Addr} {d : Bool} {u : Value} {v : V} {rest : List V}
theorem wd_shr {x : Str} (wx : wd x = true) : x.length ≤ 1000 := by
  unfold wd at wx
  simp only [Bool.and_eq_true, decide_eq_true_eq] at wx
  have := wx.1.1.1.1.2
  omega
theorem pin_name (hq : H q = none) (hd : H dx = none) (ne : dx ≠ q) (kc : KCls K C) (so : SupAt K C DI "__init__" gK) (av : Av H v) (sh : Shr v) (nw : wdV v = false) (n1 : 1 ≤ rest.length) (n6 : rest.length ≤ 6) (its : ∀ y ∈ rest, Av H y ∧ Shr y)
    (k : ∀ e H', Same H H' → H' e = some (xd v) → E (.ref CN) (some e) H') : saPin K CN CK DI gK sd (.ref q :: v :: rest) [] (upd (upd H dx (.own q)) q (.ins C dx [])) Q E := by
  have line : 1000 ≤ sizeLine := by decide
  refine ⟨_, _, _, rfl, .inl rfl, by omega, fun p o hp od oc => ?_⟩
  have up := made_up (C := C) (o := .frz o (.tup rest)) hq hd hp
  exact ⟨q, dx, C, p, v, _, rest, o, rfl, made_at hp, upd_same, od, oc, kc, so, av.same up, sh, n1, n6, fun y hy => ⟨(its y hy).1.same up, (its y hy).2⟩, .inl ⟨nw, fun e H' sx he => k e H' (made_same hq hd ne hp sx) he⟩⟩
theorem pin_pins {x : Str} (hq : H q = none) (hd : H dx = none) (ne : dx ≠ q) (kc : KCls K C) (so : SupAt K C DI "__init__" gK) (wx : wd x = true) (n1 : 1 ≤ rest.length) (n6 : rest.length ≤ 6) (its : ∀ y ∈ rest, Av H y ∧ Shr y) (nd : difV rest = false)
    (k : ∀ e pa H', Same H H' → SqT K H' pa rest → H' e = some (xd (.ref pa)) → E (.ref CK) (some e) H') : saPin K CN CK DI gK sd (.ref q :: .str x :: rest) [] (upd (upd H dx (.own q)) q (.ins C dx [])) Q E := by
  have line : 1000 ≤ sizeLine := by decide
  refine ⟨_, _, _, rfl, .inl rfl, by omega, fun p o hp od oc => ?_⟩
  have up := made_up (C := C) (o := .frz o (.tup rest)) hq hd hp
  have pq : p ≠ q := fun z => by rw [z, upd_same] at hp; cases hp
  exact ⟨q, dx, C, p, .str x, _, rest, o, rfl, made_at hp, upd_same, od, oc, kc, so, .str x, wd_shr wx, n1, n6, fun y hy => ⟨(its y hy).1.same up, (its y hy).2⟩, .inr (.inl ⟨wx, nd, fun e H' sx he => k e p H' (made_same hq hd ne hp sx) (.inl (.inr ⟨o, sx _ _ pq upd_same⟩)) he⟩)⟩
theorem pin_swaps {x : Str} {pins : List Str} {sv : V} (hq : H q = none) (hd : H dx = none) (ne : dx ≠ q) (kc : KCls K C) (so : SupAt K C DI "__init__" gK) (wx : wd x = true) (n1 : 1 ≤ pins.length) (n6 : pins.length ≤ 6) (dif : difV (pins.map V.str) = true) (c12 : ∀ z ∈ pins, z.length ≤ 12)
    (bad : (Av H sv ∧ ∀ a xs, sv = .ref a → H a ≠ some (.tup xs)) ∨ ∃ a gs os, sv = .ref a ∧ Grs H a gs os ∧ gs.length ≤ 10 ∧ (texts os).length ≤ 40 ∧ (∀ z ∈ texts os, z.length ≤ 1000) ∧ grpB os pins = false)
    (k : ∀ e H', Same H H' → H' e = some (xd sv) → E (.ref CK) (some e) H') : saPin K CN CK DI gK sd (.ref q :: .str x :: pins.map V.str) [(("swaps" : Str), sv)] (upd (upd H dx (.own q)) q (.ins C dx [])) Q E := by
  have line : 1000 ≤ sizeLine := by decide
  refine ⟨_, _, _, rfl, .inr ⟨_, rfl⟩, by rw [List.length_map]; omega, fun p o hp od oc => ?_⟩
  have up := made_up (C := C) (o := .frz o (.tup (pins.map V.str))) hq hd hp
  refine ⟨q, dx, C, p, .str x, sv, pins.map V.str, o, rfl, made_at hp, upd_same, od, oc, kc, so, .str x, wd_shr wx, by rw [List.length_map]; exact n1, by rw [List.length_map]; exact n6, fun y hy => ?_, .inr (.inr ⟨x, pins, rfl, rfl, wx, dif, c12, ?_⟩)⟩
  · obtain ⟨z, hz, rfl⟩ := List.mem_map.mp hy
    exact ⟨.str _, Nat.le_trans (c12 z hz) (by decide)⟩
  · rcases bad with ⟨av, nt⟩ | ⟨a, gs, os, rfl, gr, n10, n40, sh, nb⟩
    · refine .inl ⟨av.same up, fun a xs e h => ?_, fun e H' sx he => k e H' (made_same hq hd ne hp sx) he⟩
      subst e
      cases av with
      | lst e =>
        have := up _ _ e
        rw [h] at this
        cases this
      | tup e => exact nt _ _ rfl e
    · exact .inr ⟨a, gs, os, rfl, gr.same up, n10, n40, sh, .inl ⟨nb, fun e H' sx he => k e H' (made_same hq hd ne hp sx) he⟩⟩
theorem path_name (hq : H q = none) (hd : H dx = none) (ne : dx ≠ q) (kc : KCls K C) (so : SupAt K C DP "__init__" gK) (con : Con K C "DIRECTED" (.bl d) u) (av : Av H v) (sh : Shr v) (nw : wdV v = false) (n6 : rest.length ≤ 6) (its : ∀ y ∈ rest, Av H y ∧ Shr y)
    (k : ∀ e H', Same H H' → H' e = some (xd v) → E (.ref CN) (some e) H') : saPath K CN CK DP gK (.ref q :: v :: rest) [] (upd (upd H dx (.own q)) q (.ins C dx [])) Q E := by
  have line : 1000 ≤ sizeLine := by decide
  refine ⟨_, _, _, rfl, rfl, by omega, fun p hp => ?_⟩
  have up := made_up (C := C) (o := .tup rest) hq hd hp
  exact ⟨q, dx, C, p, v, rest, d, u, rfl, made_at hp, upd_same, kc, so, con, av.same up, sh, n6, fun y hy => ⟨(its y hy).1.same up, (its y hy).2⟩, .inl ⟨nw, fun e H' sx he => k e H' (made_same hq hd ne hp sx) he⟩⟩
theorem path_ctl {x : Str} (hq : H q = none) (hd : H dx = none) (ne : dx ≠ q) (kc : KCls K C) (so : SupAt K C DP "__init__" gK) (con : Con K C "DIRECTED" (.bl d) u) (wx : wd x = true) (n6 : rest.length ≤ 6) (its : ∀ y ∈ rest, Av H y ∧ Shr y)
    (bad : (decide (3 < rest.length) || !difV (.str "a" :: .str "b" :: rest)) = true) (k : ∀ e ca H', Same H H' → H' ca = some (.tup rest) → H' e = some (xd (.ref ca)) → E (.ref CK) (some e) H') : saPath K CN CK DP gK (.ref q :: .str x :: rest) [] (upd (upd H dx (.own q)) q (.ins C dx [])) Q E := by
  have line : 1000 ≤ sizeLine := by decide
  refine ⟨_, _, _, rfl, rfl, by omega, fun p hp => ?_⟩
  have up := made_up (C := C) (o := .tup rest) hq hd hp
  have pq : p ≠ q := fun z => by rw [z, upd_same] at hp; cases hp
  exact ⟨q, dx, C, p, .str x, rest, d, u, rfl, made_at hp, upd_same, kc, so, con, .str x, wd_shr wx, n6, fun y hy => ⟨(its y hy).1.same up, (its y hy).2⟩, .inr (.inl ⟨wx, bad, fun e H' sx he => k e p H' (made_same hq hd ne hp sx) (sx _ _ pq upd_same) he⟩)⟩
theorem joi_row {x : Str} {cs : List Str} {r s : V} (hq : H q = none) (hd : H dx = none) (ne : dx ≠ q) (kc : KCls K C) (so : SupAt K C DP "__init__" gK) (soJ : SupAt K C DJ "__init__" gP) (con : Con K C "DIRECTED" (.bl d) u) (wx : wd x = true) (n3 : cs.length ≤ 3)
    (dif : difV (.str "a" :: .str "b" :: cs.map V.str) = true) (c12 : ∀ y ∈ cs, y.length ≤ 12) (nn : r ≠ .non) (nw : NoWd H r) (k : ∀ e H', Same H H' → H' e = some (xd r) → E (.ref CK) (some e) H') :
    saJoi K D CK DP DJ gK gP (.ref q :: .str x :: cs.map V.str) [(("row" : Str), r), (("side" : Str), s)] (upd (upd H dx (.own q)) q (.ins C dx [])) Q E := by
  have line : 1000 ≤ sizeLine := by decide
  refine ⟨_, _, _, rfl, ⟨r, s, .inl rfl⟩, by rw [List.length_map]; omega, fun p hp => ?_⟩
  rw [gJ_two _ r s (.inl rfl)]
  have up := made_up (C := C) (o := .tup (cs.map V.str)) hq hd hp
  exact ⟨q, dx, C, p, x, cs, r, s, d, u, rfl, made_at hp, upd_same, kc, so, soJ, con, wx, n3, dif, c12, .inr (.inl ⟨nn, ⟨nw.1.same up, nw.2⟩, fun e H' sx he => k e H' (made_same hq hd ne hp sx) he⟩)⟩
theorem joi_side {x : Str} {cs : List Str} {r s : V} {a : Option Bool} (hq : H q = none) (hd : H dx = none) (ne : dx ≠ q) (kc : KCls K C) (so : SupAt K C DP "__init__" gK) (soJ : SupAt K C DJ "__init__" gP) (con : Con K C "DIRECTED" (.bl d) u) (wx : wd x = true) (n3 : cs.length ≤ 3)
    (dif : difV (.str "a" :: .str "b" :: cs.map V.str) = true) (c12 : ∀ y ∈ cs, y.length ≤ 12) (ra : RVal D H r a) (nn : s ≠ .non) (nw : NoWd H s) (k : ∀ e H', Same H H' → H' e = some (xd s) → E (.ref CK) (some e) H') :
    saJoi K D CK DP DJ gK gP (.ref q :: .str x :: cs.map V.str) [(("row" : Str), r), (("side" : Str), s)] (upd (upd H dx (.own q)) q (.ins C dx [])) Q E := by
  have line : 1000 ≤ sizeLine := by decide
  refine ⟨_, _, _, rfl, ⟨r, s, .inl rfl⟩, by rw [List.length_map]; omega, fun p hp => ?_⟩
  rw [gJ_two _ r s (.inl rfl)]
  have up := made_up (C := C) (o := .tup (cs.map V.str)) hq hd hp
  exact ⟨q, dx, C, p, x, cs, r, s, d, u, rfl, made_at hp, upd_same, kc, so, soJ, con, wx, n3, dif, c12, .inr (.inr ⟨a, ra.same up, nn, ⟨nw.1.same up, nw.2⟩, fun e H' sx he => k e H' (made_same hq hd ne hp sx) he⟩)⟩
end
end R4
end

-- K4z
section
set_option Elab.async false
set_option linter.all false
set_option maxRecDepth 100000
set_option exponentiation.threshold 10000
namespace R4
open PySem L2 OwnOps OwnNe G1 StX SupX GenFor
/-! what good groups are: of two or more, of the pins, apart -/
theorem texts_some : ∀ gts : List (List Str), texts (gts.map some) = gts.flatten
  | [] => rfl
  | g :: r => by
    have ih := texts_some r
    unfold texts at ih ⊢
    rw [List.map_cons, List.flatMap_cons, ih, List.flatten_cons]
    rfl
theorem apart_dis : ∀ {gts : List (List Str)}, gts.flatten.Nodup → (∀ g ∈ gts, g ≠ []) → (∀ g ∈ gts, ∀ g' ∈ gts, ∀ u, u ∈ g → u ∈ g' → g = g') ∧ gts.Nodup
  | [], _, _ => ⟨fun g h => (by cases h), List.nodup_nil⟩
  | g :: r, hn, h0 => by
    rw [List.flatten_cons] at hn
    have h := List.nodup_append.mp hn
    obtain ⟨i1, i2⟩ := apart_dis (gts := r) h.2.1 fun g' hg => h0 g' (List.mem_cons_of_mem _ hg)
    have far : ∀ g' ∈ r, ∀ u, u ∈ g → u ∈ g' → False := fun g' hg u a b => h.2.2 u a u (List.mem_flatten.mpr ⟨g', hg, b⟩) rfl
    refine ⟨fun a ha b hb u ua ub => ?_, List.nodup_cons.mpr ⟨fun hm => ?_, i2⟩⟩
    · rcases List.mem_cons.mp ha with ea | ha'
      · rcases List.mem_cons.mp hb with eb | hb'
        · rw [ea, eb]
        · exact (far b hb' u (ea ▸ ua) ub).elim
      · rcases List.mem_cons.mp hb with eb | hb'
        · exact (far a ha' u (eb ▸ ub) ua).elim
        · exact i1 a ha' b hb' u ua ub
    · cases e : g with
      | nil => exact h0 g List.mem_cons_self e
      | cons x xs =>
        have hx : x ∈ g := by rw [e]; exact List.mem_cons_self
        exact far g hm x hx hx
theorem grp_facts {gts : List (List Str)} {pins : List Str} (h : grpB (gts.map some) pins = true) :
    (∀ g ∈ gts, 2 ≤ g.length) ∧ (∀ g ∈ gts, ∀ g' ∈ gts, ∀ u, u ∈ g → u ∈ g' → g = g') ∧ gts.Nodup := by
  unfold grpB at h
  rw [Bool.and_eq_true, Bool.and_eq_true, texts_some] at h
  obtain ⟨h1, h2, _⟩ := h
  have two : ∀ g ∈ gts, 2 ≤ g.length := fun g hg => of_decide_eq_true (List.all_eq_true.mp h1 (some g) (List.mem_map.mpr ⟨g, hg, rfl⟩))
  have nd : gts.flatten.Nodup := by
    unfold difV at h2
    rw [Bool.and_eq_true, decide_eq_true_iff] at h2
    exact nodup_str.mp h2.2
  obtain ⟨a, b⟩ := apart_dis nd fun g hg e => by
    have := two g hg
    rw [e] at this
    exact absurd this (by decide)
  exact ⟨two, a, b⟩
/-- the other way: such groups are good -/
theorem grp_good {gts : List (List Str)} {pins : List Str} (two : ∀ g ∈ gts, 2 ≤ g.length) (nd : gts.flatten.Nodup) (sub : ∀ z ∈ gts.flatten, z ∈ pins) (w : ∀ z ∈ pins, wd z = true) : grpB (gts.map some) pins = true := by
  unfold grpB
  rw [Bool.and_eq_true, Bool.and_eq_true, texts_some]
  refine ⟨List.all_eq_true.mpr fun o ho => ?_, ?_, List.all_eq_true.mpr fun z hz => List.contains_iff_mem.mpr (sub z hz)⟩
  · obtain ⟨g, hg, rfl⟩ := List.mem_map.mp ho
    exact decide_eq_true (two g hg)
  · unfold difV
    rw [Bool.and_eq_true, decide_eq_true_iff]
    refine ⟨List.all_eq_true.mpr fun v hv => ?_, nodup_str.mpr nd⟩
    obtain ⟨z, hz, rfl⟩ := List.mem_map.mp hv
    exact w z (sub z hz)
end R4
end

-- K40
section
set_option Elab.async false
set_option linter.all false
set_option maxRecDepth 100000
set_option exponentiation.threshold 10000
namespace R4
open PySem L2 OwnOps OwnNe G1 StX SupX GenFor
/-! the law's list of draws; what a turn of _law_pin_kind does to the groups -/
structure St (l : Addr) (H G : Hp) : Prop where
  sx : SameX l H G
  at_ : ∃ x y : Int, G l = some (.lst [.int x, .int y])
section
variable {l a : Addr} {H G G' : Hp} {o : HO}
theorem St.same (s : St l H G) (e : Same G G') : St l H G' := ⟨s.sx.trans (.of e), let ⟨x, y, h⟩ := s.at_; ⟨x, y, e _ _ h⟩⟩
theorem St.draw (s : St l H G) {x y : Int} : St l H (upd G l (.lst [.int x, .int y])) := ⟨s.sx.trans .upd, x, y, upd_same⟩
theorem ne_draw (hl : ∃ x y : Int, G l = some (.lst [.int x, .int y])) (h : G a = some o) (no : ∀ x y : Int, o ≠ .lst [.int x, .int y]) : a ≠ l := fun e => by
  obtain ⟨x, y, hl⟩ := hl
  rw [e, hl] at h
  exact no x y (Option.some.inj h).symm
theorem no_strs {zs : List Str} (x y : Int) : (HO.lst (zs.map V.str)) ≠ .lst [.int x, .int y] := fun e => by
  cases zs with
  | nil => cases e
  | cons z r => injection e with e; injection e with e1 e2; cases e1
theorem no_refs {zs : List Addr} (x y : Int) : (HO.lst (zs.map V.ref)) ≠ .lst [.int x, .int y] := fun e => by
  cases zs with
  | nil => cases e
  | cons z r => injection e with e; injection e with e1 e2; cases e1
theorem GTs.draw {gts : List (List Str)} {as : List Addr} (g : GTs G a gts as) (hl : ∃ x y : Int, G l = some (.lst [.int x, .int y])) (s : SameX l G G') : GTs G' a gts as :=
  ⟨s _ _ (ne_draw hl g.at_ no_refs) g.at_, g.len, fun i v h => let ⟨o, h1, h2⟩ := g.it i v h; ⟨o, h1, s _ _ (ne_draw hl h2 (fun _ _ e => by cases e)) h2⟩⟩
theorem St.free (s : St l H G) (hl : H l = some o) (h : G a = none) : H a = none ∧ l ≠ a := by
  have ne : l ≠ a := fun e => by
    obtain ⟨x, y, q⟩ := s.at_
    rw [e, h] at q
    cases q
  refine ⟨?_, ne⟩
  cases e : H a with
  | none => rfl
  | some u =>
    have := s.sx a u (fun z => ne z.symm) e
    rw [h] at this
    cases this
theorem St.grow (s : St l H G) (h : H a = none ∧ l ≠ a) : St l H (upd G a o) :=
  ⟨fun c u n e => by rw [upd_ne (ne_of_none e h.1)]; exact s.sx c u n e, let ⟨x, y, q⟩ := s.at_; ⟨x, y, by rw [upd_ne h.2]; exact q⟩⟩
end
theorem GTs.push {G : Hp} {D T : Addr} {os : List (List Str)} {as : List Addr} {g : List Str} (h : GTs G D os as) (hT : G T = some (.tup (g.map V.str))) : GTs (upd G D (.lst (as.map V.ref ++ [V.ref T]))) D (os ++ [g]) (as ++ [T]) where
  at_ := by rw [upd_same, List.map_append]; rfl
  len := by rw [List.length_append, List.length_append, h.len]; rfl
  it := fun i q hq => by
    have nD : ∀ b u, G b = some (.tup u) → (upd G D (.lst (as.map V.ref ++ [V.ref T]))) b = some (.tup u) := fun b u e => by
      rw [upd_ne (fun z => by rw [z, h.at_] at e; cases e)]
      exact e
    by_cases lt : i < as.length
    · rw [List.getElem?_append_left lt] at hq
      obtain ⟨o, a, b⟩ := h.it i q hq
      exact ⟨o, by rw [List.getElem?_append_left (h.len ▸ lt)]; exact a, nD _ _ b⟩
    · have e : i = as.length := by
        have := (List.getElem?_eq_some_iff.mp hq).1
        rw [List.length_append] at this
        simp only [List.length_cons, List.length_nil] at this
        omega
      subst e
      rw [List.getElem?_append_right (Nat.le_refl _), Nat.sub_self] at hq
      cases hq
      exact ⟨g, by rw [List.getElem?_append_right (by rw [h.len]; exact Nat.le_refl _), h.len, Nat.sub_self]; rfl, nD _ _ hT⟩
def P6 : List Str := ["q", "p", "o", "m", "z9", "abcdefghijkl"]
/-- what stands behind some turns -/
structure Parted (pins : List Str) (gts : List (List Str)) (left : List Str) : Prop where
  pm : (gts.flatten ++ left).Perm pins
  two : ∀ g ∈ gts, 2 ≤ g.length
theorem Parted.start (pins : List Str) : Parted pins [] pins := ⟨.refl _, fun g h => by cases h⟩
theorem Parted.step {pins left : List Str} {gts : List (List Str)} (p : Parted pins gts left) {k n : Nat} (h2 : 2 ≤ n) (h : k + n ≤ left.length) : Parted pins (gts ++ [((left.drop k).take n).reverse]) (left.take k ++ left.drop (k + n)) := by
  refine ⟨?_, fun g hg => ?_⟩
  · rw [List.flatten_append, List.flatten_singleton]
    have e : left = left.take k ++ ((left.drop k).take n ++ left.drop (k + n)) := by
      have h1 : (left.drop k).drop n = left.drop (k + n) := by rw [List.drop_drop]
      rw [← h1, List.take_append_drop, List.take_append_drop]
    refine List.Perm.trans ?_ p.pm
    rw [List.append_assoc]
    refine List.Perm.append_left _ ?_
    have q : (((left.drop k).take n).reverse ++ (left.take k ++ left.drop (k + n))).Perm (left.take k ++ ((left.drop k).take n ++ left.drop (k + n))) := by
      refine ((List.reverse_perm _).append_right _).trans ?_
      rw [← List.append_assoc, ← List.append_assoc]
      exact List.perm_append_comm.append_right _
    rw [← e] at q
    exact q
  · rcases List.mem_append.mp hg with h' | h'
    · exact p.two g h'
    · rw [List.mem_singleton.mp h', List.length_reverse, List.length_take, List.length_drop]
      omega
theorem Parted.left_le {pins left : List Str} {gts : List (List Str)} (p : Parted pins gts left) : left.length ≤ pins.length := by
  rw [← p.pm.length_eq, List.length_append]
  omega
theorem p6_wd : ∀ z ∈ P6, wd z = true := by decide +kernel
theorem p6_nd : P6.Nodup := by decide +kernel
theorem Parted.good {n : Nat} {left : List Str} {gts : List (List Str)} (p : Parted (P6.take n) gts left) : grpB (gts.map some) (P6.take n) = true := by
  refine grp_good p.two ?_ (fun z hz => p.pm.mem_iff.mp (List.mem_append_left _ hz)) (fun z hz => p6_wd z (List.mem_of_mem_take hz))
  exact (List.nodup_append.mp (p.pm.nodup_iff.mpr ((List.take_sublist n P6).nodup p6_nd))).1
theorem Parted.flat_le {n : Nat} {left : List Str} {gts : List (List Str)} (p : Parted (P6.take n) gts left) : gts.flatten.length ≤ 6 := by
  have := p.pm.length_eq
  rw [List.length_append] at this
  have h : (P6.take n).length ≤ 6 := by rw [List.length_take]; exact Nat.min_le_right _ _
  omega
theorem len_flat {gts : List (List Str)} {g : List Str} (h : g ∈ gts) : g.length ≤ gts.flatten.length := by
  induction gts with
  | nil => cases h
  | cons a r ih =>
    rw [List.flatten_cons, List.length_append]
    rcases List.mem_cons.mp h with e | h
    · rw [e]; omega
    · have := ih h; omega
theorem cut_to {xs : List V} {j : Nat} (h : j ≤ xs.length) : cutV xs none (some (j : Int)) = xs.take j := by
  unfold cutV
  rw [HT.sIx_nat, HT.sIx_none, List.drop_zero, Nat.sub_zero, Nat.min_eq_left h]
theorem cut_from {xs : List V} {j : Nat} (h : j ≤ xs.length) : cutV xs (some (j : Int)) none = xs.drop j := by
  unfold cutV
  rw [HT.sIx_nat, HT.sIx_none, Nat.min_eq_left h]
  exact List.take_of_length_le (by rw [List.length_drop]; exact Nat.le_refl _)
theorem cut_mid {xs : List V} {k n : Nat} (h : k + n ≤ xs.length) : cutV xs (some (k : Int)) (some ((k + n : Nat) : Int)) = (xs.drop k).take n := by
  unfold cutV
  rw [HT.sIx_nat, HT.sIx_nat, Nat.min_eq_left h, Nat.min_eq_left (by omega)]
  congr 1
  omega
/-- the groups, locked in a tuple -/
theorem GTs.grs {G : Hp} {D t : Addr} {gts : List (List Str)} {as : List Addr} (h : GTs G D gts as) (ht : G t = some (.tup (as.map V.ref))) : Grs G t (as.map V.ref) (gts.map some) where
  at_ := ht
  len := by rw [List.length_map, List.length_map, h.len]
  it := fun i v hv => by
    rw [List.getElem?_map] at hv
    obtain ⟨q, hq, rfl⟩ := Option.map_eq_some_iff.mp hv
    obtain ⟨g, h1, h2⟩ := h.it i q hq
    exact ⟨some g, by rw [List.getElem?_map, h1]; rfl, .tup h2⟩
theorem PinI.same {K : PySem.W.Frag} {H H' : Hp} {p C dx : Addr} {x : Str} {pins : List Str} {gss : List (List Str)} (h : PinI K H p C dx x pins gss) (s : Same H H') : PinI K H' p C dx x pins gss :=
  let ⟨pa, ca, oa, ga, h1, h2, h3, h4⟩ := h.ex
  ⟨pa, ca, oa, ga, s _ _ h1, Same.tupS s h2, s _ _ h3, h4.same s⟩
theorem w1 : wd "one" = true := by decide +kernel
theorem dif6 : ∀ n, n ≤ 6 → difV ((P6.take n).map V.str) = true
  | 0, _ => by decide +kernel
  | 1, _ => by decide +kernel
  | 2, _ => by decide +kernel
  | 3, _ => by decide +kernel
  | 4, _ => by decide +kernel
  | 5, _ => by decide +kernel
  | 6, _ => by decide +kernel
  | n + 7, h => absurd h (by omega)
theorem p6_12 : ∀ z ∈ P6, z.length ≤ 12 := by decide +kernel
end R4
end

-- K41
section
set_option Elab.async false
set_option linter.all false
set_option maxRecDepth 100000
set_option exponentiation.threshold 10000
namespace R4
open PySem L2 OwnOps OwnNe G1 StX SupX GenFor
abbrev sLPin : Stmt := top 40
abbrev NLp : List Str := ["_law_draws_here", "_law_pins", "_law_groups", "_law_left", "_law_again", "_law_size", "_law_at", "_law_trades", "_law_kind"]
section
variable {P : Program} {w : World} {K : PySem.W.Frag} {mg : Str → Option Value} {base : Heap} {D CK CN DI gK C0 fP sd : Addr}
def spLPin (K : PySem.W.Frag) (C0 : Addr) : Sp := fun vs H Q _ => ∃ l x y, vs = [.ref l] ∧ H l = some (.lst [.int x, .int y]) ∧
  ∀ (t kp lp lg dx : Addr) (n : Nat) (gts : List (List Str)) (as : List Addr) H', St l H H' → H' t = some (.tup [.ref kp, .ref lp, .ref lg]) → PinI K H' kp C0 dx "one" (P6.take n) (gsOf (P6.take n) (gts.map some)) →
    H' lp = some (.lst ((P6.take n).map V.str)) → GTs H' lg gts as → 1 ≤ n → n ≤ 6 → grpB (gts.map some) (P6.take n) = true → gts.flatten.length ≤ 6 → gts.length ≤ 2 → Q (.ref t) H'
theorem ok_lpin {f : Addr} {fd : FuncData} (F : Fun K "_law_pin_kind" "_law_pin_kind" sLPin f fd) (T : Bi mg) (GD : Glb P w K mg base "_law_draw" 1 ["_law_draws_here", "_law_upto"] spDraw) (gP : mg "PinKind" = some (.ref C0)) (MP : Mk K C0 fP) (kc : KCls K C0) (so : SupAt K C0 DI "__init__" gK)
    (FP : FnA P w K mg base (L2.CX P w) 6 fP (saPin K CN CK DI gK sd)) : FnOk P w K mg base (L2.CX P w) 9 f fd ["_law_draws_here"] (spLPin K C0) := by
  obtain ⟨_, _, mD, kD, GD, bD⟩ := GD.ex
  have sc : FnScope NLp ["_law_draws_here"] (defScope sLPin) := ⟨rfl, rfl, rfl, by decide +kernel, rfl, by decide +kernel, by decide +kernel⟩
  have hN := sc.nd
  refine F.okX sc (fun vs H Q E h => ?_) (fun cdv A outer s H vs Q E hr h => ?_)
  · obtain ⟨l, x, y, rfl, _⟩ := h
    rfl
  · obtain ⟨l, x, y, rfl, hl, k⟩ := h
    refine ⟨_, pss_cons (ps_set (i := 1) hN rfl (Or.inl rfl) (pe_slice sl_list (pe_lst (pa_cons pe_str (pa_cons pe_str (pa_cons pe_str (pa_cons pe_str (pa_cons pe_str (pa_cons pe_str pa_nil))))))) po_none (po_some (pe_op op_add pe_int (pe_call GD (hr.mono (by decide)) (by rfl) mD kD bD .nil passL (pa_cons (pv 0) (pa_cons pe_int pa_nil)))))))
      (pss_cons (ps_par (i := 2) (j := 3) rfl hN rfl rfl (by decide) rfl rfl (pa_cons (pe_lst pa_nil) (pa_cons (pe_callTy call_list_of (by rfl) T.list (by decide +kernel) (pa_cons (pv 1) pa_nil)) pa_nil)) (by rfl))
      (pss_cons (ps_for passOwn rfl (pi_range1 rfl T.range (pa_cons (pe_call GD (hr.mono (by decide)) (by rfl) mD kD bD .nil passL (pa_cons (pv 0) (pa_cons pe_int pa_nil))) pa_nil)) (pg_name (i := 4) hN rfl (Or.inl rfl))
        (pss_cons (ps_set (i := 5) hN rfl (Or.inl rfl) (pe_op op_add pe_int (pe_call GD (hr.mono (by decide)) (by rfl) mD kD bD .nil passL (pa_cons (pv 0) (pa_cons pe_int pa_nil)))))
        (pss_one (ps_if (pt_cmpR op_ge (pe_callB call_len_seq (by rfl) T.len PySem.boot_len (pa_cons (pv 3) pa_nil)) (pv 5) (nomark _))
          (pss_cons (ps_set (i := 6) hN rfl (Or.inl rfl) (pe_call GD (hr.mono (by decide)) (by rfl) mD kD bD .nil passL (pa_cons (pv 0) (pa_cons (pe_op op_add (pe_op op_sub (pe_callB call_len_seq (by rfl) T.len PySem.boot_len (pa_cons (pv 3) pa_nil)) (pv 5)) pe_int) pa_nil))))
          (pss_cons (ps_expr (pe_bm PySem.F.plainAttrs_list PySem.F.slot_list_append PySem.F.type_list_append mt_append (pv 2) (pa_cons (pe_tupleOf (by rfl) T.tuple (pe_revL (pe_slice sl_list (pv 3) (po_some (pv 6)) (po_some (pe_op op_add (pv 6) (pv 5)))))) pa_nil)))
          (pss_one (ps_set (i := 3) hN rfl (Or.inl rfl) (pe_op op_cat (pe_slice sl_list (pv 3) po_none (po_some (pv 6))) (pe_slice sl_list (pv 3) (po_some (pe_op op_add (pv 6) (pv 5))) po_none)))))) pss_nil))))
      (pss_cons (ps_set (i := 7) hN rfl (Or.inl rfl) (pe_tupleOf (by rfl) T.tuple (pv 2)))
      (pss_cons (ps_if (pt_cmpR op_eq (pe_callB call_len_seq (by rfl) T.len PySem.boot_len (pa_cons (pv 1) pa_nil)) pe_int (nomark _)) (pss_one (ps_set (i := 8) hN rfl (Or.inl rfl) (pe_makeA (ks := ["swaps"]) (E := E0) MP FP (hr.mono (by decide)) (by rfl) gP passL (pa_cons pe_str (pa_cons (pe_ix ix_list (pv 1) pe_int (fun _ _ => rfl)) pa_nil)) (pk_cons (pv 7) pk_nil)))) (pss_one (ps_if (pt_cmpR op_eq (pe_callB call_len_seq (by rfl) T.len PySem.boot_len (pa_cons (pv 1) pa_nil)) pe_int (nomark _)) (pss_one (ps_set (i := 8) hN rfl (Or.inl rfl) (pe_makeA (ks := ["swaps"]) (E := E0) MP FP (hr.mono (by decide)) (by rfl) gP passL (pa_cons pe_str (pa_cons (pe_ix ix_list (pv 1) pe_int (fun _ _ => rfl)) (pa_cons (pe_ix ix_list (pv 1) pe_int (fun _ _ => rfl)) pa_nil))) (pk_cons (pv 7) pk_nil)))) (pss_one (ps_if (pt_cmpR op_eq (pe_callB call_len_seq (by rfl) T.len PySem.boot_len (pa_cons (pv 1) pa_nil)) pe_int (nomark _)) (pss_one (ps_set (i := 8) hN rfl (Or.inl rfl) (pe_makeA (ks := ["swaps"]) (E := E0) MP FP (hr.mono (by decide)) (by rfl) gP passL (pa_cons pe_str (pa_cons (pe_ix ix_list (pv 1) pe_int (fun _ _ => rfl)) (pa_cons (pe_ix ix_list (pv 1) pe_int (fun _ _ => rfl)) (pa_cons (pe_ix ix_list (pv 1) pe_int (fun _ _ => rfl)) pa_nil)))) (pk_cons (pv 7) pk_nil)))) (pss_one (ps_if (pt_cmpR op_eq (pe_callB call_len_seq (by rfl) T.len PySem.boot_len (pa_cons (pv 1) pa_nil)) pe_int (nomark _)) (pss_one (ps_set (i := 8) hN rfl (Or.inl rfl) (pe_makeA (ks := ["swaps"]) (E := E0) MP FP (hr.mono (by decide)) (by rfl) gP passL (pa_cons pe_str (pa_cons (pe_ix ix_list (pv 1) pe_int (fun _ _ => rfl)) (pa_cons (pe_ix ix_list (pv 1) pe_int (fun _ _ => rfl)) (pa_cons (pe_ix ix_list (pv 1) pe_int (fun _ _ => rfl)) (pa_cons (pe_ix ix_list (pv 1) pe_int (fun _ _ => rfl)) pa_nil))))) (pk_cons (pv 7) pk_nil)))) (pss_one (ps_if (pt_cmpR op_eq (pe_callB call_len_seq (by rfl) T.len PySem.boot_len (pa_cons (pv 1) pa_nil)) pe_int (nomark _)) (pss_one (ps_set (i := 8) hN rfl (Or.inl rfl) (pe_makeA (ks := ["swaps"]) (E := E0) MP FP (hr.mono (by decide)) (by rfl) gP passL (pa_cons pe_str (pa_cons (pe_ix ix_list (pv 1) pe_int (fun _ _ => rfl)) (pa_cons (pe_ix ix_list (pv 1) pe_int (fun _ _ => rfl)) (pa_cons (pe_ix ix_list (pv 1) pe_int (fun _ _ => rfl)) (pa_cons (pe_ix ix_list (pv 1) pe_int (fun _ _ => rfl)) (pa_cons (pe_ix ix_list (pv 1) pe_int (fun _ _ => rfl)) pa_nil)))))) (pk_cons (pv 7) pk_nil)))) (pss_one (ps_set (i := 8) hN rfl (Or.inl rfl) (pe_makeA (ks := ["swaps"]) (E := E0) MP FP (hr.mono (by decide)) (by rfl) gP passL (pa_cons pe_str (pa_cons (pe_ix ix_list (pv 1) pe_int (fun _ _ => rfl)) (pa_cons (pe_ix ix_list (pv 1) pe_int (fun _ _ => rfl)) (pa_cons (pe_ix ix_list (pv 1) pe_int (fun _ _ => rfl)) (pa_cons (pe_ix ix_list (pv 1) pe_int (fun _ _ => rfl)) (pa_cons (pe_ix ix_list (pv 1) pe_int (fun _ _ => rfl)) (pa_cons (pe_ix ix_list (pv 1) pe_int (fun _ _ => rfl)) pa_nil))))))) (pk_cons (pv 7) pk_nil)))))))))))))
      (pss_one (ps_ret (pe_tup (pa_cons (pv 8) (pa_cons (pv 1) (pa_cons (pv 2) pa_nil)))))))))), ?_⟩
    have line : 1000 ≤ sizeLine := by decide
    refine ⟨by show 6 ≤ sizeLine; omega, fun L0 nL0 => ?_⟩
    have S0 : St l H (upd H L0 (.lst [V.str "q", .str "p", .str "o", .str "m", .str "z9", .str "abcdefghijkl"])) := ⟨.of (same_upd nL0), x, y, same_upd nL0 _ _ hl⟩
    have hL0 : (upd H L0 (.lst [V.str "q", .str "p", .str "o", .str "m", .str "z9", .str "abcdefghijkl"])) L0 = some (.lst [V.str "q", .str "p", .str "o", .str "m", .str "z9", .str "abcdefghijkl"]) := upd_same
    refine ⟨_, rfl, l, 6, x, y, rfl, by decide, by decide, same_upd nL0 _ _ hl, fun d x1 y1 d0 d1 => ⟨_, _, rfl, rfl, _, rfl, _, _, rfl, SqL.of (xs := [V.str "q", .str "p", .str "o", .str "m", .str "z9", .str "abcdefghijkl"]) ?_, fun lp nlp => ?_⟩⟩
    · rw [upd_ne (ne_draw S0.at_ hL0 (no_strs (zs := P6)))]
      exact hL0
    replace S0 := S0.draw (x := x1) (y := y1)
    generalize upd (upd H L0 (.lst [V.str "q", .str "p", .str "o", .str "m", .str "z9", .str "abcdefghijkl"])) l (.lst [.int x1, .int y1]) = G0 at S0 nlp ⊢
    obtain ⟨n, hn⟩ : ∃ n : Nat, 1 + d = (n : Int) := ⟨(1 + d).toNat, (Int.toNat_of_nonneg (by omega)).symm⟩
    have n1 : 1 ≤ n := by omega
    have n6 : n ≤ 6 := by omega
    have pl : (P6.take n).length = n := by rw [List.length_take]; exact Nat.min_eq_left n6
    have hc : cutV [V.str "q", .str "p", .str "o", .str "m", .str "z9", .str "abcdefghijkl"] none (some (1 + d)) = (P6.take n).map V.str := by
      rw [hn, cut_to (by show n ≤ 6; exact n6), List.map_take]
      rfl
    have S1 := S0.same (same_upd (o := .lst (cutV [V.str "q", .str "p", .str "o", .str "m", .str "z9", .str "abcdefghijkl"] none (some (1 + d)))) nlp)
    have hlp : (upd G0 lp (.lst (cutV [V.str "q", .str "p", .str "o", .str "m", .str "z9", .str "abcdefghijkl"] none (some (1 + d))))) lp = some (.lst ((P6.take n).map V.str)) := by rw [upd_same, hc]
    generalize upd G0 lp (.lst (cutV [V.str "q", .str "p", .str "o", .str "m", .str "z9", .str "abcdefghijkl"] none (some (1 + d)))) = G1 at S1 hlp ⊢
    refine ⟨by show 0 ≤ sizeLine; omega, fun lg nlg => ?_⟩
    have fr := S1.free hl nlg
    have s2 := same_upd (o := .lst []) nlg
    have S2 := S1.same s2
    have hlp2 := s2 _ _ hlp
    have hlg : GTs (upd G1 lg (.lst [])) lg [] [] := ⟨upd_same, rfl, fun i q h => by cases h⟩
    generalize upd G1 lg (.lst []) = G2 at S2 hlp2 hlg ⊢
    refine ⟨_, rfl, lp, _, rfl, .inl (SqL.of hlp2), fun ll nll => ⟨_, _, rfl, ?_⟩⟩
    have s3 := same_upd (o := .lst ((P6.take n).map V.str)) nll
    have S3 := S2.same s3
    have hlp3 := s3 _ _ hlp2
    have hlg3 := hlg.same s3
    have hll : (upd G2 ll (.lst ((P6.take n).map V.str))) ll = some (.lst ((P6.take n).map V.str)) := upd_same
    generalize upd G2 ll (.lst ((P6.take n).map V.str)) = G3 at S3 hlp3 hlg3 hll ⊢
    obtain ⟨x3, y3, hl3⟩ := S3.at_
    refine ⟨_, rfl, l, 3, x3, y3, rfl, by decide, by decide, hl3, fun e x4 y4 e0 e1 => ?_⟩
    have S4 := S3.draw (x := x4) (y := y4)
    have X4 : SameX l G3 (upd G3 l (.lst [.int x4, .int y4])) := .upd
    have hlp4 := X4 _ _ (ne_draw S3.at_ hlp3 no_strs) hlp3
    have hlg4 := hlg3.draw S3.at_ X4
    have hll4 := X4 _ _ (ne_draw S3.at_ hll no_strs) hll
    generalize upd G3 l (.lst [.int x4, .int y4]) = G4 at S4 hlp4 hlg4 hll4 ⊢
    refine ⟨_, rfl, by omega, by omega, for_it (walk_range (lo := 0) (n := e.toNat)) (fun i σ G => ∃ ll v4 v5 v6 gts as left, σ = [some (.ref l), some (.ref lp), some (.ref lg), some (.ref ll), v4, v5, v6, none, none] ∧ St l H G ∧ G lp = some (.lst ((P6.take n).map V.str)) ∧ GTs G lg gts as ∧ G ll = some (.lst (left.map V.str)) ∧ Parted (P6.take n) gts left ∧ gts.length ≤ i)
      ⟨ll, none, none, none, [], [], P6.take n, rfl, S4, hlp4, hlg4, hll4, .start _, Nat.le_refl _⟩ (fun _ _ _ _ _ => trivial) (fun i v σ G G' hi ⟨ll, v4, v5, v6, gts, as, left, ee, S, hlp, hlg, hll, pp, gl⟩ ⟨eG, hx⟩ => ?_) (fun σ G ⟨ll, v4, v5, v6, gts, as, left, ee, S, hlp, hlg, hll, pp, gl⟩ => ?_)⟩
    · subst ee eG hx
      obtain ⟨xa, ya, hla⟩ := S.at_
      refine ⟨_, rfl, l, 3, xa, ya, rfl, by decide, by decide, hla, fun d2 x5 y5 d20 d21 => ⟨_, _, rfl, rfl, ?_⟩⟩
      have X5 : SameX l G' (upd G' l (.lst [.int x5, .int y5])) := .upd
      replace hlp := X5 _ _ (ne_draw S.at_ hlp no_strs) hlp
      replace hll := X5 _ _ (ne_draw S.at_ hll no_strs) hll
      replace hlg := hlg.draw S.at_ X5
      replace S := S.draw (x := x5) (y := y5)
      generalize upd G' l (.lst [.int x5, .int y5]) = G5 at S hlp hll hlg ⊢
      obtain ⟨m, hm⟩ : ∃ m : Nat, 2 + d2 = (m : Int) := ⟨(2 + d2).toNat, (Int.toNat_of_nonneg (by omega)).symm⟩
      have m2 : 2 ≤ m := by omega
      have lle := pp.left_le
      rw [pl] at lle
      refine ⟨_, rfl, ll, _, rfl, .inl (SqL.of hll), _, rfl, _, _, rfl, rfl, _, rfl, ite2 (fun hge => ?_) (fun _ => ?_)⟩
      · have hge := of_decide_eq_true hge
        rw [List.length_map, hm] at hge
        obtain ⟨xb, yb, hlb⟩ := S.at_
        refine ⟨_, rfl, _, rfl, ll, _, rfl, .inl (SqL.of hll), _, rfl, _, _, rfl, rfl, _, _, rfl, rfl, l, _, xb, yb, rfl, by rw [List.length_map]; omega, by rw [List.length_map]; omega, hlb, fun d3 x6 y6 d30 d31 => ?_⟩
        rw [List.length_map] at d31
        have X6 : SameX l G5 (upd G5 l (.lst [.int x6, .int y6])) := .upd
        replace hlp := X6 _ _ (ne_draw S.at_ hlp no_strs) hlp
        replace hll := X6 _ _ (ne_draw S.at_ hll no_strs) hll
        replace hlg := hlg.draw S.at_ X6
        replace S := S.draw (x := x6) (y := y6)
        generalize upd G5 l (.lst [.int x6, .int y6]) = G6 at S hlp hll hlg ⊢
        obtain ⟨k3, rfl⟩ : ∃ m : Nat, d3 = (m : Int) := ⟨d3.toNat, (Int.toNat_of_nonneg d30).symm⟩
        have km : k3 + m ≤ left.length := by omega
        have ekm : (k3 : Int) + (2 + d2) = ((k3 + m : Nat) : Int) := by omega
        refine ⟨_, rfl, .inl ⟨rfl, _, .inl (.inl hlg.at_)⟩, _, rfl, _, rfl, _, rfl, _, rfl, _, rfl, _, _, rfl, rfl, _, rfl, ll, _, rfl, SqL.of hll, fun c1 nc1 => ?_⟩
        have s7 := same_upd (o := .lst (cutV (left.map V.str) (some (k3 : Int)) (some ((k3 : Int) + (2 + d2))))) nc1
        have hc1 : cutV (left.map V.str) (some (k3 : Int)) (some ((k3 : Int) + (2 + d2))) = ((left.drop k3).take m).map V.str := by
          rw [ekm, cut_mid (by rw [List.length_map]; exact km), ← List.map_drop, ← List.map_take]
        have h7 : (upd G6 c1 (.lst (cutV (left.map V.str) (some (k3 : Int)) (some ((k3 : Int) + (2 + d2)))))) c1 = some (.lst (((left.drop k3).take m).map V.str)) := by rw [upd_same, hc1]
        replace hlp := s7 _ _ hlp
        replace hll := s7 _ _ hll
        replace hlg := hlg.same s7
        replace S := S.same s7
        generalize upd G6 c1 (.lst (cutV (left.map V.str) (some (k3 : Int)) (some ((k3 : Int) + (2 + d2))))) = G7 at S hlp hll hlg h7 ⊢
        refine ⟨_, _, rfl, SqL.of h7, fun c2 nc2 => .inl ⟨_, _, rfl, SqL.of upd_same, fun t nt => ?_⟩⟩
        have et : (((left.drop k3).take m).map V.str).reverse = (((left.drop k3).take m).reverse).map V.str := (List.map_reverse).symm
        rw [et] at nt ⊢
        have s8 := (same_upd (o := .lst ((((left.drop k3).take m).reverse).map V.str)) nc2).trans (same_upd (o := .tup ((((left.drop k3).take m).reverse).map V.str)) nt)
        have h8 : (upd (upd G7 c2 (.lst ((((left.drop k3).take m).reverse).map V.str))) t (.tup ((((left.drop k3).take m).reverse).map V.str))) t = some (.tup ((((left.drop k3).take m).reverse).map V.str)) := upd_same
        replace hlp := s8 _ _ hlp
        replace hll := s8 _ _ hll
        replace hlg := hlg.same s8
        replace S := S.same s8
        generalize upd (upd G7 c2 (.lst ((((left.drop k3).take m).reverse).map V.str))) t (.tup ((((left.drop k3).take m).reverse).map V.str)) = G8 at S hlp hll hlg h8 ⊢
        refine ⟨lg, _, _, rfl, rfl, hlg.at_, by rw [List.length_map, hlg.len]; omega, ?_⟩
        have pg := hlg.push h8
        have lpg : lp ≠ lg := fun z => by
          rw [z, hlg.at_] at hlp
          have e := HO.lst.inj (Option.some.inj hlp)
          have e0 : (as.map V.ref).length = ((P6.take n).map V.str).length := congrArg List.length e
          rw [List.length_map, List.length_map, pl] at e0
          cases as with
          | nil => simp only [List.length_nil] at e0; omega
          | cons a r =>
            cases hp : P6.take n with
            | nil => rw [hp] at pl; simp only [List.length_nil] at pl; omega
            | cons p r => rw [hp] at e; cases e
        have llg : ll ≠ lg := fun z => by
          rw [z, hlg.at_] at hll
          have e := HO.lst.inj (Option.some.inj hll)
          have e0 : (as.map V.ref).length = (left.map V.str).length := congrArg List.length e
          rw [List.length_map, List.length_map] at e0
          cases as with
          | nil => simp only [List.length_nil] at e0; omega
          | cons a r =>
            cases left with
            | nil => simp only [List.length_nil, List.length_cons] at e0; omega
            | cons p r => cases e
        have S9 : St l H (upd G8 lg (.lst (as.map V.ref ++ [V.ref t]))) := S.grow fr
        have hlp9 : (upd G8 lg (.lst (as.map V.ref ++ [V.ref t]))) lp = some (.lst ((P6.take n).map V.str)) := by rw [upd_ne lpg]; exact hlp
        have hll9 : (upd G8 lg (.lst (as.map V.ref ++ [V.ref t]))) ll = some (.lst (left.map V.str)) := by rw [upd_ne llg]; exact hll
        clear hlp hll S
        generalize upd G8 lg (.lst (as.map V.ref ++ [V.ref t])) = G9 at S9 hlp9 hll9 pg ⊢
        refine ⟨_, rfl, _, rfl, _, rfl, ll, _, rfl, SqL.of hll9, fun u1 nu1 => ?_⟩
        have e1 : cutV (left.map V.str) none (some (k3 : Int)) = (left.take k3).map V.str := by rw [cut_to (by rw [List.length_map]; omega), List.map_take]
        have e2 : cutV (left.map V.str) (some ((k3 : Int) + (2 + d2))) none = (left.drop (k3 + m)).map V.str := by rw [ekm, cut_from (by rw [List.length_map]; exact km), List.map_drop]
        rw [e1]
        have su1 := same_upd (o := .lst ((left.take k3).map V.str)) nu1
        refine ⟨_, rfl, _, rfl, _, rfl, _, _, rfl, rfl, _, rfl, ll, _, rfl, SqL.of (su1 _ _ hll9), fun u2 nu2 => ?_⟩
        rw [e2]
        have su2 := same_upd (o := .lst ((left.drop (k3 + m)).map V.str)) nu2
        have lens : ((left.take k3).map V.str).length + ((left.drop (k3 + m)).map V.str).length ≤ 100 := by
          rw [List.length_map, List.length_map, List.length_take, List.length_drop]
          omega
        refine ⟨u1, u2, _, _, rfl, rfl, su2 _ _ upd_same, upd_same, by omega, fun M nM => ?_⟩
        have sM := su1.trans (su2.trans (same_upd (o := .lst ((left.take k3).map V.str ++ (left.drop (k3 + m)).map V.str)) nM))
        refine ⟨M, _, _, _, gts ++ [((left.drop k3).take m).reverse], as ++ [t], left.take k3 ++ left.drop (k3 + m), rfl, S9.same sM, sM _ _ hlp9, pg.same sM, ?_, pp.step m2 km, ?_⟩
        · rw [upd_same, List.map_append]
        · rw [List.length_append, List.length_singleton]
          omega
      · exact ⟨ll, _, _, _, gts, as, left, rfl, S, hlp, hlg, hll, pp, by omega⟩
    · subst ee
      have g2 : gts.length ≤ 2 := by omega
      have fl := pp.flat_le
      have nt0 : texts (gts.map some) = gts.flatten := texts_some gts
      have sh : ∀ z ∈ texts (gts.map some), z.length ≤ 1000 := fun z hz => by
        rw [nt0] at hz
        exact Nat.le_trans (p6_12 z (List.mem_of_mem_take (pp.pm.mem_iff.mp (List.mem_append_left _ hz)))) (by decide)
      refine ⟨_, rfl, .inl ⟨lg, _, rfl, SqL.of hlg.at_, fun tt ntt => ?_⟩⟩
      have stt := same_upd (o := .tup (as.map V.ref)) ntt
      replace hlp := stt _ _ hlp
      have gr : Grs (upd G tt (.tup (as.map V.ref))) tt (as.map V.ref) (gts.map some) := (hlg.same stt).grs upd_same
      replace hlg := hlg.same stt
      replace S := S.same stt
      have as2 : (as.map V.ref).length ≤ 10 := by rw [List.length_map, hlg.len]; omega
      generalize upd G tt (.tup (as.map V.ref)) = Gt at S hlp hlg gr ⊢
      have fin : ∀ (q dx : Addr) G', Same Gt G' → PinI K G' q C0 dx "one" (P6.take n) (gsOf (P6.take n) (gts.map some)) → ∀ t, G' t = none → Q (.ref t) (upd G' t (.tup [.ref q, .ref lp, .ref lg])) := fun q dx G' s p t nt =>
        k t q lp lg dx n gts as _ ((S.same s).same (same_upd nt)) upd_same (p.same (same_upd nt)) (same_upd nt _ _ (s _ _ hlp)) ((hlg.same s).same (same_upd nt)) n1 n6 pp.good fl g2
      have ok := pp.good
      have c12 : ∀ z ∈ P6.take n, z.length ≤ 12 := fun z hz => p6_12 z (List.mem_of_mem_take hz)
      have df := dif6 n n6
      have len := pl
      have two : 3 ≤ sizeLine := by omega
      clear hc hn pp k
      match n, n1, n6 with
      | 1, n1, n6 =>
        refine ⟨_, rfl, lp, _, rfl, .inl (SqL.of hlp), rfl, _, rfl, if_pos' (decide_eq_true rfl) ?_⟩
        exact ⟨_, rfl, lp, _, _, _, rfl, rfl, SqL.of hlp, at_of (j := 0) rfl rfl, _, rfl, rfl, fun q dx hq hd ne => mk_pin (pins := P6.take 1) hq hd ne kc so w1 (by rw [len]; exact n1) (by rw [len]; exact n6) df c12 gr as2 (by rw [nt0]; omega) ok sh fun G s p => ⟨rfl, _, rfl, _, rfl, _, rfl, two, fin q dx G s p⟩⟩
      | 2, n1, n6 =>
        refine ⟨_, rfl, lp, _, rfl, .inl (SqL.of hlp), rfl, _, rfl, if_neg' (decide_eq_false (fun z => absurd (V.int.inj z) (by decide))) ?_⟩
        refine ⟨_, rfl, lp, _, rfl, .inl (SqL.of hlp), rfl, _, rfl, if_pos' (decide_eq_true rfl) ?_⟩
        exact ⟨_, rfl, lp, _, _, _, rfl, rfl, SqL.of hlp, at_of (j := 0) rfl rfl, _, rfl, lp, _, _, _, rfl, rfl, SqL.of hlp, at_of (j := 1) rfl rfl, _, rfl, rfl, fun q dx hq hd ne => mk_pin (pins := P6.take 2) hq hd ne kc so w1 (by rw [len]; exact n1) (by rw [len]; exact n6) df c12 gr as2 (by rw [nt0]; omega) ok sh fun G s p => ⟨rfl, _, rfl, _, rfl, _, rfl, two, fin q dx G s p⟩⟩
      | 3, n1, n6 =>
        refine ⟨_, rfl, lp, _, rfl, .inl (SqL.of hlp), rfl, _, rfl, if_neg' (decide_eq_false (fun z => absurd (V.int.inj z) (by decide))) ?_⟩
        refine ⟨_, rfl, lp, _, rfl, .inl (SqL.of hlp), rfl, _, rfl, if_neg' (decide_eq_false (fun z => absurd (V.int.inj z) (by decide))) ?_⟩
        refine ⟨_, rfl, lp, _, rfl, .inl (SqL.of hlp), rfl, _, rfl, if_pos' (decide_eq_true rfl) ?_⟩
        exact ⟨_, rfl, lp, _, _, _, rfl, rfl, SqL.of hlp, at_of (j := 0) rfl rfl, _, rfl, lp, _, _, _, rfl, rfl, SqL.of hlp, at_of (j := 1) rfl rfl, _, rfl, lp, _, _, _, rfl, rfl, SqL.of hlp, at_of (j := 2) rfl rfl, _, rfl, rfl, fun q dx hq hd ne => mk_pin (pins := P6.take 3) hq hd ne kc so w1 (by rw [len]; exact n1) (by rw [len]; exact n6) df c12 gr as2 (by rw [nt0]; omega) ok sh fun G s p => ⟨rfl, _, rfl, _, rfl, _, rfl, two, fin q dx G s p⟩⟩
      | 4, n1, n6 =>
        refine ⟨_, rfl, lp, _, rfl, .inl (SqL.of hlp), rfl, _, rfl, if_neg' (decide_eq_false (fun z => absurd (V.int.inj z) (by decide))) ?_⟩
        refine ⟨_, rfl, lp, _, rfl, .inl (SqL.of hlp), rfl, _, rfl, if_neg' (decide_eq_false (fun z => absurd (V.int.inj z) (by decide))) ?_⟩
        refine ⟨_, rfl, lp, _, rfl, .inl (SqL.of hlp), rfl, _, rfl, if_neg' (decide_eq_false (fun z => absurd (V.int.inj z) (by decide))) ?_⟩
        refine ⟨_, rfl, lp, _, rfl, .inl (SqL.of hlp), rfl, _, rfl, if_pos' (decide_eq_true rfl) ?_⟩
        exact ⟨_, rfl, lp, _, _, _, rfl, rfl, SqL.of hlp, at_of (j := 0) rfl rfl, _, rfl, lp, _, _, _, rfl, rfl, SqL.of hlp, at_of (j := 1) rfl rfl, _, rfl, lp, _, _, _, rfl, rfl, SqL.of hlp, at_of (j := 2) rfl rfl, _, rfl, lp, _, _, _, rfl, rfl, SqL.of hlp, at_of (j := 3) rfl rfl, _, rfl, rfl, fun q dx hq hd ne => mk_pin (pins := P6.take 4) hq hd ne kc so w1 (by rw [len]; exact n1) (by rw [len]; exact n6) df c12 gr as2 (by rw [nt0]; omega) ok sh fun G s p => ⟨rfl, _, rfl, _, rfl, _, rfl, two, fin q dx G s p⟩⟩
      | 5, n1, n6 =>
        refine ⟨_, rfl, lp, _, rfl, .inl (SqL.of hlp), rfl, _, rfl, if_neg' (decide_eq_false (fun z => absurd (V.int.inj z) (by decide))) ?_⟩
        refine ⟨_, rfl, lp, _, rfl, .inl (SqL.of hlp), rfl, _, rfl, if_neg' (decide_eq_false (fun z => absurd (V.int.inj z) (by decide))) ?_⟩
        refine ⟨_, rfl, lp, _, rfl, .inl (SqL.of hlp), rfl, _, rfl, if_neg' (decide_eq_false (fun z => absurd (V.int.inj z) (by decide))) ?_⟩
        refine ⟨_, rfl, lp, _, rfl, .inl (SqL.of hlp), rfl, _, rfl, if_neg' (decide_eq_false (fun z => absurd (V.int.inj z) (by decide))) ?_⟩
        refine ⟨_, rfl, lp, _, rfl, .inl (SqL.of hlp), rfl, _, rfl, if_pos' (decide_eq_true rfl) ?_⟩
        exact ⟨_, rfl, lp, _, _, _, rfl, rfl, SqL.of hlp, at_of (j := 0) rfl rfl, _, rfl, lp, _, _, _, rfl, rfl, SqL.of hlp, at_of (j := 1) rfl rfl, _, rfl, lp, _, _, _, rfl, rfl, SqL.of hlp, at_of (j := 2) rfl rfl, _, rfl, lp, _, _, _, rfl, rfl, SqL.of hlp, at_of (j := 3) rfl rfl, _, rfl, lp, _, _, _, rfl, rfl, SqL.of hlp, at_of (j := 4) rfl rfl, _, rfl, rfl, fun q dx hq hd ne => mk_pin (pins := P6.take 5) hq hd ne kc so w1 (by rw [len]; exact n1) (by rw [len]; exact n6) df c12 gr as2 (by rw [nt0]; omega) ok sh fun G s p => ⟨rfl, _, rfl, _, rfl, _, rfl, two, fin q dx G s p⟩⟩
      | 6, n1, n6 =>
        refine ⟨_, rfl, lp, _, rfl, .inl (SqL.of hlp), rfl, _, rfl, if_neg' (decide_eq_false (fun z => absurd (V.int.inj z) (by decide))) ?_⟩
        refine ⟨_, rfl, lp, _, rfl, .inl (SqL.of hlp), rfl, _, rfl, if_neg' (decide_eq_false (fun z => absurd (V.int.inj z) (by decide))) ?_⟩
        refine ⟨_, rfl, lp, _, rfl, .inl (SqL.of hlp), rfl, _, rfl, if_neg' (decide_eq_false (fun z => absurd (V.int.inj z) (by decide))) ?_⟩
        refine ⟨_, rfl, lp, _, rfl, .inl (SqL.of hlp), rfl, _, rfl, if_neg' (decide_eq_false (fun z => absurd (V.int.inj z) (by decide))) ?_⟩
        refine ⟨_, rfl, lp, _, rfl, .inl (SqL.of hlp), rfl, _, rfl, if_neg' (decide_eq_false (fun z => absurd (V.int.inj z) (by decide))) ?_⟩
        exact ⟨_, rfl, lp, _, _, _, rfl, rfl, SqL.of hlp, at_of (j := 0) rfl rfl, _, rfl, lp, _, _, _, rfl, rfl, SqL.of hlp, at_of (j := 1) rfl rfl, _, rfl, lp, _, _, _, rfl, rfl, SqL.of hlp, at_of (j := 2) rfl rfl, _, rfl, lp, _, _, _, rfl, rfl, SqL.of hlp, at_of (j := 3) rfl rfl, _, rfl, lp, _, _, _, rfl, rfl, SqL.of hlp, at_of (j := 4) rfl rfl, _, rfl, lp, _, _, _, rfl, rfl, SqL.of hlp, at_of (j := 5) rfl rfl, _, rfl, rfl, fun q dx hq hd ne => mk_pin (pins := P6.take 6) hq hd ne kc so w1 (by rw [len]; exact n1) (by rw [len]; exact n6) df c12 gr as2 (by rw [nt0]; omega) ok sh fun G s p => ⟨rfl, _, rfl, _, rfl, _, rfl, two, fin q dx G s p⟩⟩
end
end R4
end

-- K42a
section
set_option Elab.async false
set_option linter.all false
set_option maxRecDepth 100000
set_option exponentiation.threshold 10000
namespace R4
open PySem L2 OwnOps OwnNe G1 StX SupX GenFor
/-! orders as data; the pure part of _law_pins_right -/
def iD (o : List Int) : PyData := .tuple (o.map .int)
theorem lay_ints : ∀ o : List Int, PyData.canLayAll0 (o.map .int) = true
  | [] => by simp [PyData.canLayAll0]
  | x :: r => by simp only [List.map_cons, PyData.canLayAll0, PyData.canLay0, lay_ints r, Bool.and_self]
theorem dep_ints : ∀ o : List Int, PyData.depthAll (o.map .int) = 0
  | [] => by simp [PyData.depthAll]
  | x :: r => by simp only [List.map_cons, PyData.depthAll, PyData.depth, dep_ints r, Nat.max_self]
theorem lay_iDs : ∀ os : List (List Int), PyData.canLayAll0 (os.map iD) = true
  | [] => by simp [PyData.canLayAll0]
  | o :: r => by simp only [List.map_cons, iD, PyData.canLayAll0, PyData.canLay0, lay_ints o, lay_iDs r, Bool.and_self]
theorem dep_iDs : ∀ os : List (List Int), PyData.depthAll (os.map iD) ≤ 1
  | [] => by simp [PyData.depthAll]
  | o :: r => by
    have := dep_iDs r
    simp only [List.map_cons, iD, PyData.depthAll, PyData.depth, dep_ints]
    omega
theorem shp {d : PyData} (h1 : d.canLay0 = true) (h2 : d.depth ≤ 64) : SeqAt.shaped d = true := by
  show (d.canLay0 && decide (d.depth ≤ 64)) = true
  rw [Bool.and_eq_true]
  exact ⟨h1, decide_eq_true h2⟩
theorem osL_lay (os : List (List Int)) : PyData.canLay0 (.list (os.map iD)) = true := by simp only [PyData.canLay0]; exact lay_iDs os
theorem osT_lay (os : List (List Int)) : PyData.canLay0 (.tuple (os.map iD)) = true := by simp only [PyData.canLay0]; exact lay_iDs os
theorem osL_shp (os : List (List Int)) : SeqAt.shaped (.list (os.map iD)) = true := shp (osL_lay os) (by have := dep_iDs os; simp only [PyData.depth]; omega)
theorem osT_shp (os : List (List Int)) : SeqAt.shaped (.tuple (os.map iD)) = true := shp (osT_lay os) (by have := dep_iDs os; simp only [PyData.depth]; omega)
section
variable {K : PySem.W.Frag} {H : Hp}
theorem dp_each : ∀ (as : List Addr) (os : List (List Int)), as.length = os.length → (∀ (i : Nat) (q : Addr), as[i]? = some q → ∃ o : List Int, os[i]? = some o ∧ H q = some (.tup (o.map V.int))) → DpAll K H (as.map V.ref) (os.map iD)
  | [], [], _, _ => .nil
  | [], _ :: _, l, _ => by cases l
  | _ :: _, [], l, _ => by cases l
  | a :: r, o :: os, l, it => by
    obtain ⟨o', e, h⟩ := it 0 a rfl
    cases e
    exact .cons (.tup (SqT.of h) (dp_ints _)) (dp_each r os (Nat.succ.inj l) fun i q hq => it (i + 1) q hq)
theorem LTs.dp {a : Addr} {os : List (List Int)} {as : List Addr} (h : LTs H a os as) : Dp K H (.ref a) (.list (os.map iD)) := .lst (SqL.of h.at_) (dp_each as os h.len h.it)
end
theorem join_ge (sep x : Str) : ∀ xs : List Str, x.length ≤ (Str.join sep (x :: xs)).length
  | [] => Nat.le_refl _
  | y :: r => by
    show x.length ≤ (x ++ sep ++ Str.join sep (y :: r)).length
    rw [app_len, app_len]
    omega
theorem join_pos {sep x : Str} {xs : List Str} (h : 1 ≤ x.length) : 1 ≤ (Txt.join sep (x :: xs)).length := by
  rw [tj]
  exact Nat.le_trans h (join_ge sep x xs)
theorem rows0 {pins : List Str} {gss : List (List Str)} (ne : ∀ g ∈ gss, g ≠ []) (pos : ∀ g ∈ gss, ∀ z ∈ g, 1 ≤ z.length) : (Txt.join " , " ((ordG pins gss).map (Txt.join " "))).length = 0 ↔ ordG pins gss = [] := by
  refine ⟨fun h => ?_, fun h => by rw [h]; decide +kernel⟩
  cases e : ordG pins gss with
  | nil => rfl
  | cons g r =>
    have hg : g ∈ gss := ordG_mem (pins := pins) (by rw [e]; exact List.mem_cons_self)
    rw [e] at h
    cases g with
    | nil => exact absurd rfl (ne _ hg)
    | cons z zs =>
      have h1 : 1 ≤ (Txt.join " " (z :: zs)).length := join_pos (pos _ hg z List.mem_cons_self)
      have h2 : 1 ≤ (Txt.join " , " ((Txt.join " " (z :: zs)) :: r.map (Txt.join " "))).length := join_pos h1
      rw [List.map_cons] at h
      omega
theorem p6_1 : ∀ z ∈ P6, 1 ≤ z.length := by decide +kernel
/-- the line of the law's kind -/
theorem law_line {n : Nat} {gts : List (List Str)} (n1 : 1 ≤ n) (n6 : n ≤ 6) (ok : grpB (gts.map some) (P6.take n) = true) : pinT "one" (P6.take n) (gsOf (P6.take n) (gts.map some)) = lawT (P6.take n) (lawRows (P6.take n) gts n).1 := by
  obtain ⟨two, dis, nd⟩ := grp_facts ok
  have hn : (P6.take n).Nodup := (List.take_sublist n P6).nodup p6_nd
  have hl : (P6.take n).length = n := by rw [List.length_take]; exact Nat.min_eq_left n6
  have e := (rows_law hn nd dis two n (Nat.le_of_eq hl.symm)).1
  rw [List.take_of_length_le (Nat.le_of_eq hl)] at e
  rw [e]
  refine pinT_law (fun z => by rw [z] at hl; simp only [List.length_nil] at hl; omega) (rows0 (grp_ne ok) fun g hg z hz => ?_)
  exact p6_1 z (List.mem_of_mem_take (gs_sub g hg z hz))
theorem law_orders {n : Nat} {gts : List (List Str)} (n6 : n ≤ 6) (ok : grpB (gts.map some) (P6.take n) = true) : pinO (P6.take n) (gsOf (P6.take n) (gts.map some)) = (lawO n).filter (okO (lawPs (P6.take n) gts)) := by
  obtain ⟨two, dis, nd⟩ := grp_facts ok
  have hl : (P6.take n).length = n := by rw [List.length_take]; exact Nat.min_eq_left n6
  have := pinO_law (pins := P6.take n) dis
  rw [hl] at this
  exact this
theorem LTs.keep {G : Hp} {r D : Addr} {os : List (List Int)} {as : List Addr} {xs : List V} {o : HO} (h : LTs G r os as) (ne : r ≠ D) (hD : G D = some (.lst xs)) : LTs (upd G D o) r os as :=
  ⟨by rw [upd_ne ne]; exact h.at_, h.len, fun i q hq => let ⟨o', h1, h2⟩ := h.it i q hq; ⟨o', h1, by rw [upd_ne (fun z => by rw [z, hD] at h2; cases h2)]; exact h2⟩⟩
theorem LTs.pushE {G : Hp} {D T : Addr} {os : List (List Int)} {as : List Addr} {g : List Int} (h : LTs G D os as) (hT : G T = some (.tup (g.map V.int))) : LTs (upd G D (.lst (as.map V.ref ++ [V.ref T]))) D (os ++ [g]) (as ++ [T]) where
  at_ := by rw [upd_same, List.map_append]; rfl
  len := by rw [List.length_append, List.length_append, h.len]; rfl
  it := fun i q hq => by
    have nD : ∀ b u, G b = some (.tup u) → (upd G D (.lst (as.map V.ref ++ [V.ref T]))) b = some (.tup u) := fun b u e => by
      rw [upd_ne (fun z => by rw [z, h.at_] at e; cases e)]
      exact e
    by_cases lt : i < as.length
    · rw [List.getElem?_append_left lt] at hq
      obtain ⟨o, a, b⟩ := h.it i q hq
      exact ⟨o, by rw [List.getElem?_append_left (h.len ▸ lt)]; exact a, nD _ _ b⟩
    · have e : i = as.length := by
        have := (List.getElem?_eq_some_iff.mp hq).1
        rw [List.length_append] at this
        simp only [List.length_cons, List.length_nil] at this
        omega
      subst e
      rw [List.getElem?_append_right (Nat.le_refl _), Nat.sub_self] at hq
      cases hq
      exact ⟨g, by rw [List.getElem?_append_right (by rw [h.len]; exact Nat.le_refl _), h.len, Nat.sub_self]; rfl, nD _ _ hT⟩
theorem lawO_ne : ∀ n, n ≤ 6 → lawO n ≠ [] := by
  have h : ∀ n, n ≤ 6 → (lawO n).isEmpty = false := by decide +kernel
  intro n hn e
  have := h n hn
  rw [e] at this
  cases this
theorem lawO_len {n : Nat} (h : n ≤ 6) : (lawO n).length ≤ 46656 := by
  have h1 := orders_len (css := List.replicate n (upto n)) (fun c hc => by rw [List.eq_of_mem_replicate hc, upto_len]; exact h) n
  rw [List.take_of_length_le (by rw [List.length_replicate]; exact Nat.le_refl _)] at h1
  exact Nat.le_trans h1 (Nat.le_trans (Nat.pow_le_pow_right (by decide) h) (by decide))
theorem notin_s (x : Str) (xs : List Str) : (if true = true then !inV (.str x) (xs.map V.str) else inV (.str x) (xs.map V.str)) = !xs.contains x := (if_pos rfl).trans (congrArg _ (inV_str x xs))
theorem perm_has {a b : List Str} (h : a.Perm b) (x : Str) : a.contains x = b.contains x := by
  rw [Bool.eq_iff_iff, List.contains_iff_mem, List.contains_iff_mem]
  exact h.mem_iff
theorem grpOf_len {gts : List (List Str)} {z : Str} (fl : gts.flatten.length ≤ 6) : (grpOf gts z).length ≤ 6 := by
  unfold grpOf
  cases e : gts.find? (fun g => g.contains z) with
  | none => exact (by decide : 1 ≤ 6)
  | some g => exact Nat.le_trans (len_flat (List.mem_of_find?_eq_some e)) fl
theorem kind_shp : ∀ n, n ≤ 6 → SeqAt.shaped (.list [.str "one", .tuple ((P6.take n).map .str), .tuple []]) = true := by decide +kernel
theorem dp_strs {K : PySem.W.Frag} {H : Hp} : ∀ ns : List Str, DpAll K H (ns.map V.str) (ns.map PyData.str)
  | [] => .nil
  | n :: r => .cons (.str n) (dp_strs r)
theorem inPins_perm {pins a b : List Str} (h : a.Perm b) : inPins pins a = inPins pins b := by
  unfold inPins
  exact List.filter_congr fun z _ => perm_has h z
end R4
end

-- MulTxt
section
set_option Elab.async false
set_option linter.all false
set_option maxRecDepth 100000
namespace OwnOps
open PySem L2
/-- a text times 0 or 1 -/
theorem op_mulTxt {X : Cx} : OpR X (binaryOp .Mult) (fun x y H Q => ∃ (z : Str) (k : Bool), x = .str z ∧ y = .int (if k = true then 1 else 0) ∧ Q (.str (if k = true then z else Str.empty)) H) := by
  intro pins s σ H x y v u Q I rx ry h
  obtain ⟨z, k, rfl, rfl, q⟩ := h
  obtain ⟨t, rfl⟩ := (show ∃ t, v = Value.str z t from rx)
  cases k with
  | true =>
    obtain ⟨t', rfl⟩ := (show ∃ t', u = Value.int 1 t' from ry)
    refine P.mul_str (by decide) (fun _ h => absurd h (by simp)) (fun _ h => absurd h (by simp)) ?_
    rw [if_neg (by decide), if_pos (by simp)]
    exact ⟨.str z, H, I, ⟨t, rfl⟩, q⟩
  | false =>
    obtain ⟨t', rfl⟩ := (show ∃ t', u = Value.int 0 t' from ry)
    exact P.mul_str_none (by decide) (by decide) ⟨.str Str.empty, H, I.tok _, ⟨_, rfl⟩, q⟩
end OwnOps
end

-- K42
section
set_option Elab.async false
set_option linter.all false
set_option maxRecDepth 100000
set_option exponentiation.threshold 10000
namespace R4
open PySem L2 OwnOps OwnNe G1 StX SupX GenFor
abbrev sLRight : Stmt := top 42
abbrev NLr : List Str := ["_law_kind", "_law_pins", "_law_groups", "_law_due", "_law_order", "_law_pin", "_law_rows", "_law_seen", "_law_own", "_law_text", "_law_at", "_law_one"]
/-- a class of kinds, by its own == -/
structure KndE (K : PySem.W.Frag) (C gE : Addr) : Prop where
  hm : PySem.W.mroIn K C (.type "object") = some true
  ne : PySem.W.findIn K (.ref C) "__ne__" = some (some (.builtin "object.__ne__"))
  eq : PySem.W.findIn K (.ref C) "__eq__" = some (some (.ref gE))
  fn : PySem.W.isFn K (.ref gE) = true
  nS : PySem.W.notFirst K C (.type "str") = true
def RStr : V → Hp → Prop := fun y _ => ∃ z, y = .str z
theorem looks_S {X : Cx} {C : Addr} (hs : PySem.W.notFirst X.K C (.type "str") = true) {y : V} {H : Hp} {u : Value} {pins : List (Addr × Obj)} {σ : L2.St} {s : Shared} (I : L2.Inv X pins σ H s) (h : RStr y H) (ry : RelV y u) :
    ∃ tb, PySem.W.Looks (model X.prog X.w) s.heap (typeOf u) tb ∧ PySem.W.notFirst X.K C tb = true := by
  obtain ⟨z, rfl⟩ := h
  obtain ⟨t, rfl⟩ := (show ∃ t, u = Value.str z t from ry)
  exact ⟨_, PySem.W.Looks.of_pure rfl, hs⟩
section
variable {P : Program} {w : World} {K : PySem.W.Frag} {mg : Str → Option Value} {base : Heap} {DK tp tg C0 fx gE : Addr}
def spLRight (K : PySem.W.Frag) (C0 : Addr) : Sp := fun vs H Q _ => ∃ (kp lp lg dx : Addr) (n : Nat) (gts : List (List Str)) (as : List Addr), vs = [.ref kp, .ref lp, .ref lg] ∧
  PinI K H kp C0 dx "one" (P6.take n) (gsOf (P6.take n) (gts.map some)) ∧ H lp = some (.lst ((P6.take n).map V.str)) ∧ GTs H lg gts as ∧ 1 ≤ n ∧ n ≤ 6 ∧ grpB (gts.map some) (P6.take n) = true ∧ gts.flatten.length ≤ 6 ∧ gts.length ≤ 2 ∧ ∀ H', Same H H' → Q (.bl true) H'
theorem ok_lright {f : Addr} {fd tgd fxd gEd : FuncData} (F : Fun K "_law_pins_right" "_law_pins_right" sLRight f fd) (T : Bi mg) (kc : KndC K DK tp tg C0) (ke : KndE K C0 gE) (con : ∃ u, Con K C0 "DIRECTED" (.bl false) u)
    (GT : FnOk P w K mg base (L2.CX P w) 1 tg tgd ["self"] (spText K DK tp tg)) (bT : L2.Binds K tgd ["self"] []) (mx : Meth K C0 "exchanges" fx) (GX : GFn2 P w K mg base 1 fx fxd ["self"] (spExch K)) (bX : L2.Binds K fxd ["self"] [])
    (GE : FnOk P w K mg base (L2.CX P w) 3 gE gEd ["self", "other"] (spKEq K DK tp tg)) (bE : L2.Binds K gEd ["self", "other"] [])
    (GO : Glb P w K mg base "_law_orders" 1 ["_law_size"] spLOr) (GG : Glb P w K mg base "_law_group_of" 1 ["_law_groups", "_law_pin"] spGOf) :
    FnOk P w K mg base (L2.CX P w) 5 f fd ["_law_kind", "_law_pins", "_law_groups"] (spLRight K C0) := by
  obtain ⟨_, _, mO, kO, GO, bO⟩ := GO.ex
  obtain ⟨_, _, mG, kG, GG, bG⟩ := GG.ex
  have sc : FnScope NLr ["_law_kind", "_law_pins", "_law_groups"] (defScope sLRight) := ⟨rfl, rfl, rfl, by decide +kernel, rfl, by decide +kernel, by decide +kernel⟩
  have hN := sc.nd
  have cS : ∀ C, KndC K DK tp tg C → Cls K C ∧ PropOf K C "text" tp tg := fun C h => ⟨h.kc.cl, h.tx⟩
  refine F.okX sc (fun vs H Q E h => ?_) (fun cdv A outer s H vs Q E hr h => ?_)
  · obtain ⟨kp, lp, lg, dx, n, gts, as, rfl, _⟩ := h
    rfl
  · obtain ⟨kp, lp, lg, dx, n, gts, as, rfl, pin, hlp, hlg, n1, n6, ok, fl, g2, k⟩ := h
    refine ⟨_, pss_cons (ps_set (i := 3) hN rfl (Or.inl rfl) (pe_lst pa_nil))
      (pss_cons (ps_for passOwn rfl (pi_list (pe_call GO (hr.mono (by decide)) (by rfl) mO kO bO .nil passL (pa_cons (pe_callB call_len_seq (by rfl) T.len PySem.boot_len (pa_cons (pv 1) pa_nil)) pa_nil))) (pg_name (i := 4) hN rfl (Or.inr rfl))
        (pss_one (ps_if (pt_cmpR (op_eqD hr.units) (pe_lc (own := [("_law_at", 10), ("_law_pin", 5)]) (g := gTup K 2 (gCons (gName 10) (gCons (gName 5) gNil))) (tt := tTest (tOp (rIn K true) (tOp (rIxL K) (tVar 1) (tOp (rIxT K) (tVar 4) (tVar 10))) (tCall spGOf [] E0 (tCons (tVar 2) (tCons (tVar 5) tNil))))) (te := tVar 10) rfl hN
              (pi_enum (by rfl) T.enum (pa_cons (pv 1) pa_nil)) (blkOk_by (N := NLr) (sc := defScope sLRight) (by decide +kernel)) (fun _ _ _ _ _ => pg_two (i := 10) (j := 5) rfl hN rfl (Or.inl rfl) rfl (Or.inl rfl))
              (fun _ _ _ _ _ => pts_one (pt_cmpR op_notIn_seq (pe_ix (show IxR _ (rIxL K) from ix_list) (pv 1) (pe_ix (show IxR _ (rIxT K) from ix_tup) (pv 4) (pv 10) (fun _ _ => rfl)) (fun _ _ => rfl)) (pe_call GG (hr.mono (by decide)) (by rfl) mG kG bG .nil passL (pa_cons (pv 2) (pa_cons (pv 5) pa_nil))) (by rfl))) (fun _ _ _ _ _ => pv 10)) (pe_lst pa_nil) (nomark _))
          (pss_one (ps_expr (pe_bm PySem.F.plainAttrs_list PySem.F.slot_list_append PySem.F.type_list_append mt_append (pv 3) (pa_cons (pv 4) pa_nil)))) pss_nil)))
      (pss_cons (ps_if (PW.pt (pw_or (pt_cmpR (op_neD hr.units) (pe_lcG (own := [("_law_order", 4)]) (pgen2_meth0 (S := fun C => C = C0) (pv 0) (fun C h => by subst h; exact ⟨kc.kc.cl, mx⟩) GX (fun vs H xs h => by obtain ⟨p, C, dx, fs, oa, rfl, _⟩ := h; rfl) (hr.mono (by decide)) bX) rfl (hr.mono (by decide)) (blkOk_by (N := NLr) (sc := defScope sLRight) (by decide +kernel)) (fun _ _ => rfl)) (pv 3) (nomark _))
          (pw_or1 (pt_cmpR (op_neD hr.units) (pe_fld (pv 0) rfl) (pe_tupleOf (by rfl) T.tuple (pv 3)) (nomark _))))) (pss_one (ps_ret pe_bl)) pss_nil)
      (pss_cons (ps_par (i := 6) (j := 7) rfl hN rfl rfl (by decide) rfl rfl (pa_cons (pe_lst pa_nil) (pa_cons (pe_lst pa_nil) pa_nil)) (by rfl))
      (pss_cons (ps_for passOwn rfl (pi_list (pv 1)) (pg_name (i := 5) hN rfl (Or.inl rfl))
        (pss_cons (ps_set (i := 8) hN rfl (Or.inr rfl) (pe_call GG (hr.mono (by decide)) (by rfl) mG kG bG .nil passL (pa_cons (pv 2) (pa_cons (pv 5) pa_nil))))
        (pss_one (ps_if (PW.pt (pw_and (pt_cmpR op_gt (pe_callB call_len_seq (by rfl) T.len PySem.boot_len (pa_cons (pv 8) pa_nil)) pe_int (nomark _)) (pw_and1 (pt_cmpR op_notIn_seq (pv 5) (pv 7) (by rfl)))))
          (pss_cons (ps_expr (pe_bm PySem.F.plainAttrs_list PySem.F.slot_list_append PySem.F.type_list_append mt_append (pv 6) (pa_cons (pe_join pe_str (pe_lc (own := [("_law_one", 11)]) (g := gName 11) (tt := tTest (tOp (rIn K false) (tVar 11) (tVar 8))) (te := tVar 11) rfl hN (pi_list (pv 1)) (blkOk_by (N := NLr) (sc := defScope sLRight) (by decide +kernel)) (fun _ _ _ _ _ => pg_name (i := 11) hN rfl (Or.inl rfl))
              (fun _ _ _ _ _ => pts_one (pt_cmpR op_in_seq (pv 11) (pv 8) (by rfl))) (fun _ _ _ _ _ => pv 11))) pa_nil)))
          (pss_one (ps_set (i := 7) hN rfl (Or.inl rfl) (pe_op op_cat (pv 7) (pv 8))))) pss_nil))))
      (pss_cons (ps_set (i := 9) hN rfl (Or.inl rfl) (pe_op op_add_str (pe_op op_add_str pe_str (pe_join pe_str (pv 1))) (pe_op op_mulTxt (pe_op op_add_str pe_str (pe_join pe_str (pv 6))) (pe_callTy call_int1 (by rfl) T.int (by decide +kernel) (pa_cons (pe_cmpR (op_neEmp hr.units0) (pv 6) (pe_lst pa_nil) (nomark _)) pa_nil)))))
      (pss_cons (ps_if (PW.pt (pw_or (pt_cmpR op_ne (pe_propC (E := E0) (pv 0) cS GT (hr.mono (by decide)) bT passL rfl) (pv 9) (nomark _))
          (pw_or1 (pt_cmpR (op_neD hr.units) (pe_lst (pa_cons (pe_fld (pv 0) rfl) (pa_cons (pe_fld (pv 0) rfl) (pa_cons (pe_fld (pv 0) rfl) pa_nil)))) (pe_lst (pa_cons pe_str (pa_cons (pe_tupleOf (by rfl) T.tuple (pv 1)) (pa_cons (pe_tup pa_nil) pa_nil)))) (nomark _))))) (pss_one (ps_ret pe_bl)) pss_nil)
      (pss_one (ps_ret (pe_and (pe_cmpR op_isBl (pe_fld (pv 0) rfl) pe_bl (nomark _)) (pe_and (pe_cmpR op_isBl (pe_con (pv 0) rfl) pe_bl (nomark _)) (pe_one (pe_cmpR (op := .NotEq) (op_neOwn (C := C0) (E := E0) (R := RStr) ke.hm ke.ne ke.eq ke.fn GE (hr.mono (by decide)) bE passL (looks_S ke.nS)) (pv 0) pe_str (nomark _))))))))))))), ?_⟩
    have line : 100000 ≤ sizeLine := by decide
    have pl : (P6.take n).length = n := by rw [List.length_take]; exact Nat.min_eq_left n6
    have few : ∀ g ∈ gts, g.length ≤ 10 := fun g hg => Nat.le_trans (len_flat hg) (by omega)
    have e1 := law_line n1 n6 ok
    have e2 := law_orders (gts := gts) n6 ok
    refine ⟨by show 0 ≤ sizeLine; omega, fun D0 nD0 => ?_⟩
    have s0 := same_upd (o := .lst []) nD0
    have hlp0 := s0 _ _ hlp
    have pin0 := pin.same s0
    have hlg0 := hlg.same s0
    have hD0 : (upd H D0 (.lst [])) D0 = some (.lst []) := upd_same
    generalize eG0 : upd H D0 (.lst []) = G0 at s0 hlp0 pin0 hlg0 hD0 ⊢
    refine ⟨_, rfl, lp, _, rfl, .inl (SqL.of hlp0), _, rfl, by rw [List.length_map, pl]; exact n6, fun r as1 G1 s1 lts => ⟨r, rfl, ⟨_, SqL.of lts.at_⟩, ?_⟩⟩
    rw [List.length_map, pl] at lts
    have rD : r ≠ D0 := fun z => by
      have h1 := lts.at_
      rw [z, s1 _ _ hD0] at h1
      have h2 := HO.lst.inj (Option.some.inj h1)
      have h3 := lts.len
      rw [List.map_eq_nil_iff.mp h2.symm] at h3
      exact lawO_ne n n6 (List.length_eq_zero_iff.mp h3.symm)
    have lO := lawO_len n6
    refine for_it (walk_list (K := K) (a := r) (xs := as1.map V.ref)) (fun i σ G => (∃ v4, σ = [some (.ref kp), some (.ref lp), some (.ref lg), some (.ref D0), v4, none, none, none, none, none, none, none]) ∧ Same H G ∧ LTs G r (lawO n) as1 ∧ ∃ bs, LTs G D0 (((lawO n).take i).filter (okO (lawPs (P6.take n) gts))) bs)
      ⟨⟨none, rfl⟩, s0.trans s1, lts, [], s1 _ _ hD0, rfl, fun i q h => by cases h⟩ (fun i σ G _ ⟨_, _, lt, _⟩ => SqL.of lt.at_) (fun i v σ G G' hi ⟨⟨v4, e⟩, sm, lt, bs, due⟩ ⟨eG, hx⟩ => ?_) (fun σ G ⟨⟨v4, e⟩, sm, lt, bs, due⟩ => ?_)
    · subst e eG
      rw [List.getElem?_map] at hx
      obtain ⟨q, hq, rfl⟩ := Option.map_eq_some_iff.mp hx
      obtain ⟨o, hoi, hq0⟩ := lt.it i q hq
      obtain ⟨ol, oin⟩ := mem_lawO (List.mem_of_getElem? hoi)
      have hlp1 := sm _ _ hlp
      have hlg1 := hlg.same sm
      refine ⟨_, rfl, lp, _, rfl, SqL.of hlp1, fun D nD => ?_⟩
      refine walk_it (walk_enum (K := K) (a := lp) (xs := (P6.take n).map V.str)) (fun j G2 => Same G' G2 ∧ ∃ acc : List Int, G2 D = some (.lst (acc.map V.int)) ∧ acc.length ≤ j ∧ (acc = [] ↔ okO (lawPs (P6.take n) gts) (o.take j) = true)) ⟨same_upd nD, [], upd_same, Nat.le_refl _, ⟨fun _ => rfl, fun _ => rfl⟩⟩
        (fun j G2 _ ⟨sm2, _⟩ => SqL.of (sm2 _ _ hlp1)) (fun j v G2 G3 hj ⟨sm2, acc, hD, al, ai⟩ ⟨T0, u, v', ex, nT, eG, hu, hv⟩ => ?_) (fun G2 ⟨sm2, acc, hD, al, ai⟩ => ?_)
      · subst ex eG
        cases hu
        have hv : ((P6.take n).map V.str)[j]? = some v' := hv
        rw [List.getElem?_map] at hv
        obtain ⟨z, hz, rfl⟩ := Option.map_eq_some_iff.mp hv
        rw [List.length_map, pl] at hj
        have sT := same_upd (o := .tup [V.int (j : Nat), V.str z]) nT
        have s3 := sm2.trans sT
        have hD' := sT _ _ hD
        have hq3 := s3 _ _ hq0
        have hj2 : j < o.length := by omega
        obtain ⟨k2, k2n, hk2⟩ := oin o[j] (List.getElem_mem hj2)
        have hoj : o[j]? = some (k2 : Int) := by rw [List.getElem?_eq_getElem hj2, hk2]
        have hk3 : k2 < (P6.take n).length := by rw [pl]; exact k2n
        have hy : (P6.take n)[k2]? = some (P6.take n)[k2] := List.getElem?_eq_getElem hk3
        generalize (P6.take n)[k2] = y at hy
        refine ⟨T0, _, rfl, SqT.of upd_same, rfl, _, _, rfl, _, _, rfl, rfl, rfl, ?_⟩
        refine ⟨_, rfl, _, rfl, _, rfl, q, _, (j : Int), .int (k2 : Int), rfl, rfl, SqT.of hq3, at_of (j := j) rfl (by rw [List.getElem?_map, hoj]; rfl), ?_⟩
        refine ⟨lp, _, (k2 : Int), .str y, rfl, rfl, SqL.of (s3 _ _ hlp1), at_of (j := k2) rfl (by rw [List.getElem?_map, hy]; rfl), ?_⟩
        refine ⟨_, rfl, _, rfl, lg, gts, as, z, rfl, hlg1.same s3, few, fun r2 zs G4 s4 nr2 hr2 pm => ?_⟩
        refine ⟨r2, _, rfl, .inl (SqL.of hr2), rfl, flat_strs _, _, rfl, ?_⟩
        rw [notin_s, perm_has pm]
        have oj : (o.take j).length = j := by rw [List.length_take]; omega
        have ek : (lawPs (P6.take n) gts)[(o.take j).length]? = some fun i => (grpOf gts z).contains ((P6.take n).getD i.toNat Str.empty) := by
          unfold lawPs
          rw [oj, List.getElem?_map, hz]
          rfl
        have es := okO_snoc (k2 : Int) ek
        rw [← take_succ_at hoj, Int.toNat_natCast, getD_at hy] at es
        cases hc : (grpOf gts z).contains y with
        | true =>
          rw [hc, Bool.and_true] at es
          refine iteF ⟨s3.trans s4, acc, s4 _ _ hD', by omega, ?_⟩
          rw [es]
          exact ai
        | false =>
          rw [hc, Bool.and_false] at es
          refine iteT ⟨_, rfl, _, s4 _ _ hD', by rw [List.length_map]; omega, same_put (s3.trans s4) nD, acc ++ [(j : Int)], by rw [upd_same, List.map_append]; rfl, by rw [List.length_append, List.length_singleton]; omega, ?_⟩
          rw [es]
          exact ⟨fun h => absurd h (by simp), fun h => by cases h⟩
      · rw [List.length_map, pl, List.take_of_length_le (Nat.le_of_eq ol)] at ai
        refine ⟨by show 0 ≤ sizeLine; omega, fun e0 ne0 => ?_⟩
        have se := same_upd (o := .lst []) ne0
        refine ⟨.list (acc.map PyData.int), .list [], .lst (SqL.of (se _ _ hD)) (dp_ints acc), .lst (SqL.of upd_same) .nil, PySem.W.ke_shaped_ints acc, by decide +kernel, _, rfl, ?_⟩
        have st := sm2.trans se
        have ev : PyData.eqv (.list (acc.map PyData.int)) (.list []) = okO (lawPs (P6.take n) gts) o := by
          cases acc with
          | nil => exact (ai.mp rfl).symm ▸ (by decide +kernel)
          | cons a r =>
            have : okO (lawPs (P6.take n) gts) o = false := by
              cases hh : okO (lawPs (P6.take n) gts) o with
              | false => rfl
              | true => exact absurd (ai.mpr hh) (by simp)
            rw [this]
            rfl
        rw [ev]
        rw [take_succ_at hoi, List.filter_append]
        cases hok : okO (lawPs (P6.take n) gts) o with
        | false =>
          refine iteF ⟨⟨_, rfl⟩, sm.trans st, lt.same st, bs, ?_⟩
          rw [List.filter_cons_of_neg (by rw [hok]; decide), List.filter_nil, List.append_nil]
          exact due.same st
        | true =>
          have dl : (((lawO n).take i).filter (okO (lawPs (P6.take n) gts))).length ≤ 46656 := Nat.le_trans (List.length_filter_le _ _) (by rw [List.length_take]; omega)
          have due' := due.same st
          refine iteT ⟨_, rfl, .inl ⟨rfl, _, .inl (.inl due'.at_)⟩, _, rfl, D0, _, _, rfl, rfl, due'.at_, by rw [List.length_map, due'.len]; omega, ⟨_, rfl⟩, ?_, (lt.same st).keep rD due'.at_, bs ++ [q], ?_⟩
          · exact same_put (sm.trans st) nD0
          · rw [List.filter_cons_of_pos hok, List.filter_nil]
            exact due'.pushE (st _ _ hq0)
    · subst e
      have e0 : (lawO n).take (as1.map V.ref).length = lawO n := by rw [List.length_map, lts.len]; exact List.take_length
      rw [e0, ← e2] at due
      clear s0 hlp0 pin0 hlg0 hD0 s1 lts eG0
      obtain ⟨pa, ca, oa, ga, hpH, hpaH, hcaH, as2, hoaH, ol2, oiH⟩ := pin.ex
      have hoa := sm _ _ hoaH
      have oi2 : ∀ (i : Nat) (q : Addr), as2[i]? = some q → ∃ o : List Int, (pinO (P6.take n) (gsOf (P6.take n) (gts.map some)))[i]? = some o ∧ G q = some (.tup (o.map V.int)) := fun i q h => let ⟨o, h1, h2⟩ := oiH i q h; ⟨o, h1, sm _ _ h2⟩
      clear oiH
      have dpo : ∀ {G'}, Same G G' → DpAll K G' (as2.map V.ref) ((pinO (P6.take n) (gsOf (P6.take n) (gts.map some))).map iD) := fun s => dp_each as2 _ ol2 fun i q h => let ⟨o, h1, h2⟩ := oi2 i q h; ⟨o, h1, s _ _ h2⟩
      have plen : (pinO (P6.take n) (gsOf (P6.take n) (gts.map some))).length ≤ 46656 := by rw [e2]; exact Nat.le_trans (List.length_filter_le _ _) lO
      rw [e1] at hpH
      generalize pinO (P6.take n) (gsOf (P6.take n) (gts.map some)) = os at due dpo ol2 oi2 plen
      obtain ⟨fs, efs⟩ : ∃ fs, fs = kf (.str "one") (.ref pa) (.ref ca) (.bl false) (.ref oa) (.str (lawT (P6.take n) (lawRows (P6.take n) gts n).1)) ++ [(("_groups" : Str), V.ref ga)] := ⟨_, rfl⟩
      have lx : fs.lookup ("exchanges" : Str) = none := by rw [efs]; kernel_rfl
      have lo : fs.lookup ("orders" : Str) = some (.ref oa) := by rw [efs]; exact kf_ords' ..
      have ln : fs.lookup ("name" : Str) = some (.str "one") := by rw [efs]; exact kf_name' ..
      have lp' : fs.lookup ("pins" : Str) = some (.ref pa) := by rw [efs]; exact kf_pins' ..
      have lc : fs.lookup ("controls" : Str) = some (.ref ca) := by rw [efs]; exact kf_ctl' ..
      have li : fs.lookup ("is_path" : Str) = some (.bl false) := by rw [efs]; exact kf_isp' ..
      have ll : fs.lookup ("_line" : Str) = some (.str (lawT (P6.take n) (lawRows (P6.take n) gts n).1)) := by rw [efs]; exact kf_line' ..
      have ld : fs.lookup ("DIRECTED" : Str) = none := by rw [efs]; kernel_rfl
      rw [← efs] at hpH
      have hp := sm _ _ hpH
      clear efs pin
      refine ⟨_, rfl, kp, C0, dx, fs, as2.map V.ref, rfl, hp, rfl, lx, ⟨kp, C0, dx, fs, oa, rfl, hp, kc.kc, lo, SqT.of hoa⟩, by rw [List.length_map, ol2]; omega, fun D nD => ?_⟩
      have sD := same_upd (o := .lst (as2.map V.ref)) nD
      refine ⟨_, rfl, .list (os.map iD), .list (os.map iD), .lst (SqL.of upd_same) (dpo sD), (due.same sD).dp, osL_shp os, osL_shp os, _, rfl, if_neg' (by rw [SeqAt.eqv_refl _ (osL_lay os)]; rfl) ?_⟩
      refine ⟨_, rfl, kp, C0, dx, _, _, rfl, sD _ _ hp, kc.kc.cl, kc.kc.n5, lo, _, rfl, .inl ⟨D0, _, rfl, SqL.of (due.same sD).at_, fun t nt => ?_⟩⟩
      have sDt := sD.trans (same_upd (o := .tup (bs.map V.ref)) nt)
      refine ⟨.tuple (os.map iD), .tuple (os.map iD), .tup (SqT.of (sDt _ _ hoa)) (dpo sDt), .tup (SqT.of upd_same) (dp_each bs os due.len fun i q h => let ⟨o, h1, h2⟩ := due.it i q h; ⟨o, h1, sDt _ _ h2⟩), osT_shp os, osT_shp os, _, rfl, if_neg' (by rw [SeqAt.eqv_refl _ (osT_lay os)]; rfl) ?_⟩
      have smt := sm.trans sDt
      clear hp
      clear sm due dpo hoa oi2 sD nt lt
      generalize upd (upd G D (.lst (as2.map V.ref))) t (.tup (bs.map V.ref)) = G1 at smt sDt ⊢
      refine ⟨by show 0 ≤ sizeLine; omega, fun R0 nR0 => ⟨by show 0 ≤ sizeLine; omega, fun S0 nS0 => ⟨_, _, rfl, ?_⟩⟩⟩
      have sR := (same_upd (o := .lst []) nR0).trans (same_upd (o := .lst []) nS0)
      have hR0 : (upd (upd G1 R0 (.lst [])) S0 (.lst [])) R0 = some (.lst []) := same_upd nS0 _ _ upd_same
      have hS0 : (upd (upd G1 R0 (.lst [])) S0 (.lst [])) S0 = some (.lst []) := upd_same
      have neRS : S0 ≠ R0 := fun z => by rw [z, upd_same] at nS0; cases nS0
      have freeR := smt.free nR0
      replace smt := smt.trans sR
      clear sDt
      have hlpG := smt _ _ hlp
      have nRG : (upd (upd G1 R0 (.lst [])) S0 (.lst [])) R0 ≠ none := by rw [hR0]; exact fun z => by cases z
      generalize upd (upd G1 R0 (.lst [])) S0 (.lst []) = G2 at smt hR0 hS0 hlpG ⊢
      refine ⟨_, rfl, lp, rfl, ⟨_, SqL.of hlpG⟩, for_it (walk_list (K := K) (a := lp) (xs := (P6.take n).map V.str)) (fun i σ G => (∃ v5 v8 S sl, σ = [some (.ref kp), some (.ref lp), some (.ref lg), some (.ref D0), v4, v5, some (.ref R0), some (.ref S), v8, none, none, none] ∧ S ≠ R0 ∧
          G R0 = some (.lst (((lawRows (P6.take n) gts i).1.map (Txt.join " ")).map V.str)) ∧ G S = some (.lst (sl.map V.str)) ∧ (∀ y, y ∈ sl ↔ y ∈ (lawRows (P6.take n) gts i).2) ∧ sl.length ≤ 6 * i ∧ (lawRows (P6.take n) gts i).1.length ≤ i ∧ (∀ g ∈ (lawRows (P6.take n) gts i).1, g.length ≤ 6 ∧ ∀ z ∈ g, z.length ≤ 12)) ∧ Same H G)
        ⟨⟨_, _, S0, [], rfl, neRS, hR0, hS0, fun y => Iff.rfl, Nat.le_refl _, Nat.le_refl _, fun g h => by cases h⟩, smt⟩ (fun i σ G _ ⟨_, s⟩ => SqL.of (s _ _ hlp)) (fun i v σ G G' hi ⟨⟨v5, v8, S, sl, e, nSR, hR, hS, seen, sll, rl, r12⟩, sm⟩ ⟨eG, hx⟩ => ?_) (fun σ G ⟨⟨v5, v8, S, sl, e, nSR, hR, hS, seen, sll, rl, r12⟩, sm⟩ => ?_)⟩
      · subst e eG
        rw [List.getElem?_map] at hx
        obtain ⟨z, hz, rfl⟩ := Option.map_eq_some_iff.mp hx
        rw [List.length_map, pl] at hi
        rw [lawRows_succ hz]
        generalize lawRows (P6.take n) gts i = st at hR seen rl r12 ⊢
        have hlg1 := hlg.same sm
        refine ⟨_, rfl, _, rfl, lg, gts, as, z, rfl, hlg1, few, fun r1 zs G3 s3 nr1 hr1 pm => ?_⟩
        have r1R : r1 ≠ R0 := fun w => by rw [w, hR] at nr1; cases nr1
        have zl : zs.length ≤ 6 := by rw [pm.length_eq]; exact grpOf_len fl
        have hlp3 := (sm.trans s3) _ _ hlp
        replace hR := s3 _ _ hR
        replace hS := s3 _ _ hS
        refine ⟨_, rfl, r1, _, rfl, .inl (SqL.of hr1), _, _, rfl, rfl, _, rfl, ?_⟩
        rw [List.length_map, pm.length_eq]
        by_cases h1 : 1 < (grpOf gts z).length
        · refine if_pos' (decide_eq_true (by omega)) ?_
          refine ⟨_, rfl, _, rfl, S, _, rfl, .inl (SqL.of hS), rfl, flat_strs _, _, rfl, ?_⟩
          rw [notin_s]
          by_cases h2 : z ∈ sl
          · refine if_neg' (by rw [List.contains_iff_mem.mpr h2]; rfl) ?_
            have es : rowsStep (P6.take n) gts st z = st := if_neg fun h => h.2 ((seen z).mp h2)
            rw [es]
            exact ⟨⟨_, _, S, sl, rfl, nSR, hR, hS, seen, by omega, by omega, r12⟩, sm.trans s3⟩
          · have es : rowsStep (P6.take n) gts st z = (st.1 ++ [inPins (P6.take n) (grpOf gts z)], st.2 ++ grpOf gts z) := if_pos ⟨h1, fun h => h2 ((seen z).mpr h)⟩
            have h2' : sl.contains z = false := by
              cases e : sl.contains z with
              | false => rfl
              | true => exact absurd (List.contains_iff_mem.mp e) h2
            refine if_pos' (by rw [h2']; rfl) ?_
            rw [es]
            refine ⟨_, rfl, .inl ⟨rfl, _, .inl (.inl hR)⟩, ⟨_, rfl⟩, _, rfl, lp, rfl, ⟨_, SqL.of hlp3⟩, fun D2 nD2 => ?_⟩
            refine walk_it (walk_list (K := K) (a := lp) (xs := (P6.take n).map V.str)) (fun j G4 => Same G3 G4 ∧ G4 D2 = some (.lst ((inPins ((P6.take n).take j) zs).map V.str))) ⟨same_upd nD2, upd_same⟩ (fun j G4 _ ⟨s4, _⟩ => SqL.of (s4 _ _ hlp3)) (fun j y G4 G5 hj ⟨s4, hD⟩ ⟨eG, hy⟩ => ?_) (fun G4 ⟨s4, hD⟩ => ?_)
            · subst eG
              rw [List.getElem?_map] at hy
              obtain ⟨u, hu, rfl⟩ := Option.map_eq_some_iff.mp hy
              refine ⟨rfl, _, rfl, _, rfl, r1, _, rfl, .inl (SqL.of (s4 _ _ hr1)), rfl, flat_strs _, _, rfl, ?_⟩
              rw [in_b, inPins_succ hu]
              cases hc : zs.contains u with
              | false => exact iteF ⟨s4, by simpa using hD⟩
              | true =>
                refine iteT ⟨_, rfl, _, hD, ?_, same_put s4 nD2, by rw [upd_same, if_pos rfl, List.map_append]; rfl⟩
                have := inPins_len ((P6.take n).take j) zs
                rw [List.length_take] at this
                rw [List.length_map]
                omega
            · rw [List.length_map, List.take_length] at hD
              have il := inPins_len (P6.take n) zs
              have i12 : ∀ u ∈ inPins (P6.take n) zs, u.length ≤ 12 := fun u hu => p6_12 u (List.mem_of_mem_take (mem_inPins.mp hu).1)
              have su := sum_le i12
              have one : (Str.ofString " ").length = 1 := by decide +kernel
              have hR4 := s4 _ _ hR
              have hS4 := s4 _ _ hS
              refine ⟨" ", D2, _, rfl, rfl, .inl (SqL.of hD), by rw [one]; omega, R0, _, _, rfl, rfl, hR4, by rw [List.length_map, List.length_map]; omega, ?_⟩
              have sx : ∀ b u, b ≠ R0 → G4 b = some u → (upd G4 R0 (.lst ((st.1.map (Txt.join " ")).map V.str ++ [V.str (Txt.join " " (inPins (P6.take n) zs))]))) b = some u := fun b u ne e => by rw [upd_ne ne]; exact e
              have smR : Same H (upd G4 R0 (.lst ((st.1.map (Txt.join " ")).map V.str ++ [V.str (Txt.join " " (inPins (P6.take n) zs))]))) := same_put ((sm.trans s3).trans s4) freeR
              have hS5 := sx _ _ nSR hS4
              have hr5 := sx _ _ r1R (s4 _ _ hr1)
              have hR5 : (upd G4 R0 (.lst ((st.1.map (Txt.join " ")).map V.str ++ [V.str (Txt.join " " (inPins (P6.take n) zs))]))) R0 = some (.lst (((st.1 ++ [inPins (P6.take n) (grpOf gts z)]).map (Txt.join " ")).map V.str)) := by
                rw [upd_same, inPins_perm pm, List.map_append, List.map_append]
                rfl
              generalize upd G4 R0 (.lst ((st.1.map (Txt.join " ")).map V.str ++ [V.str (Txt.join " " (inPins (P6.take n) zs))])) = G5 at smR hS5 hr5 hR5 ⊢
              refine ⟨_, rfl, _, rfl, S, r1, _, _, rfl, rfl, hS5, hr5, by rw [List.length_map, List.length_map]; omega, fun M nM => ?_⟩
              have sM := same_upd (o := .lst (sl.map V.str ++ zs.map V.str)) nM
              refine ⟨⟨_, _, M, sl ++ zs, rfl, (fun w => by rw [w, hR5] at nM; cases nM), sM _ _ hR5, by rw [upd_same, List.map_append], fun y => ?_, by rw [List.length_append]; omega, by rw [List.length_append, List.length_singleton]; omega, fun g hg => ?_⟩, smR.trans sM⟩
              · rw [List.mem_append, List.mem_append, seen y, pm.mem_iff]
              · rcases List.mem_append.mp hg with h | h
                · exact r12 g h
                · rw [List.mem_singleton.mp h, ← inPins_perm pm]
                  exact ⟨by omega, i12⟩
        · refine if_neg' (decide_eq_false (by omega)) ?_
          have es : rowsStep (P6.take n) gts st z = st := if_neg fun h => h1 h.1
          rw [es]
          exact ⟨⟨_, _, S, sl, rfl, nSR, hR, hS, seen, by omega, by omega, r12⟩, sm.trans s3⟩
      · subst e
        have ei : ((P6.take n).map V.str).length = n := by rw [List.length_map, pl]
        rw [ei] at hR rl r12
        have hlp1 := sm _ _ hlp
        generalize hrows : (lawRows (P6.take n) gts n).1 = rows at hR rl r12 ll
        clear seen sll
        have one : (Str.ofString " ").length = 1 := by decide +kernel
        have l3 : (Str.ofString " , ").length = 3 := by decide +kernel
        have l4 : (Str.ofString " : ").length = 3 := by decide +kernel
        have l9 : (Str.ofString "pins one ").length = 9 := by decide +kernel
        have su := sum_le (n := 12) (ys := P6.take n) fun z hz => p6_12 z (List.mem_of_mem_take hz)
        have jl := join_le (a := " ") (P6.take n)
        rw [one] at jl
        have rj : ∀ y ∈ rows.map (Txt.join " "), y.length ≤ 78 := fun y hy => by
          obtain ⟨g, hg, rfl⟩ := List.mem_map.mp hy
          obtain ⟨g6, g12⟩ := r12 g hg
          have h1 := join_le (a := " ") g
          have h2 := sum_le g12
          rw [one] at h1
          omega
        have sr := sum_le rj
        rw [List.length_map] at sr
        have jr := join_le (a := " , ") (rows.map (Txt.join " "))
        rw [l3, List.length_map] at jr
        refine ⟨⟨_, rfl⟩, _, rfl, " ", lp, _, rfl, rfl, .inl (SqL.of hlp1), by rw [one]; omega, _, _, rfl, rfl, by rw [l9]; omega, ?_⟩
        refine ⟨⟨_, rfl⟩, _, rfl, " , ", R0, _, rfl, rfl, .inl (SqL.of hR), by rw [l3, List.length_map]; omega, _, _, rfl, rfl, by rw [l4]; omega, ?_⟩
        refine ⟨_, rfl, by show 0 ≤ sizeLine; omega, fun e0 ne0 => ?_⟩
        have se := same_upd (o := .lst []) ne0
        refine ⟨R0, e0, _, rfl, rfl, se _ _ hR, upd_same, .inr ⟨_, rfl, _, _, rfl, rfl, _, _, rfl, rfl, ?_, ?_⟩⟩
        · split
          · rw [app_len, app_len, l9, l4]; omega
          · rw [app_len, l9, len0]; omega
        have et : (Str.ofString "pins one " ++ Txt.join " " (P6.take n)) ++ (if (!((rows.map (Txt.join " ")).map V.str).isEmpty) = true then Str.ofString " : " ++ Txt.join " , " (rows.map (Txt.join " ")) else Str.empty) = lawT (P6.take n) rows := by
          unfold lawT
          cases rows with
          | nil => rfl
          | cons g r => rfl
        rw [et]
        replace sm := sm.trans se
        generalize upd G e0 (.lst []) = G7 at sm ⊢
        have hp := sm _ _ hpH
        have kd : KndI K DK tp tg G7 kp (lawT (P6.take n) rows) := ⟨C0, dx, fs, hp, kc, ll⟩
        obtain ⟨cu, con⟩ := con
        refine ⟨_, rfl, kp, C0, dx, fs, rfl, hp, kc, kp, _, rfl, kd, _, rfl, rfl, _, rfl, if_neg' (by rw [decide_eq_true rfl]; rfl) ?_⟩
        refine ⟨_, rfl, kp, C0, dx, _, _, rfl, hp, kc.kc.cl, kc.kc.n1, ln, _, rfl, kp, C0, dx, _, _, rfl, hp, kc.kc.cl, kc.kc.n2, lp', _, rfl, kp, C0, dx, _, _, rfl, hp, kc.kc.cl, kc.kc.n3, lc, by show 3 ≤ sizeLine; omega, fun L1 nL1 => ?_⟩
        have sL1 := same_upd (o := .lst [.str "one", .ref pa, .ref ca]) nL1
        refine ⟨_, rfl, .inl ⟨lp, _, rfl, SqL.of ((sm.trans sL1) _ _ hlp), fun t1 nt1 => ?_⟩⟩
        have st1 := same_upd (o := .tup ((P6.take n).map V.str)) nt1
        refine ⟨by show 0 ≤ sizeLine; omega, fun t2 nt2 => ?_⟩
        have st2 := same_upd (o := .tup []) nt2
        refine ⟨by show 3 ≤ sizeLine; omega, fun L2 nL2 => ?_⟩
        have sL2 := same_upd (o := .lst [.str "one", .ref t1, .ref t2]) nL2
        have s12 := sL1.trans (st1.trans (st2.trans sL2))
        refine ⟨.list [.str "one", .tuple ((P6.take n).map .str), .tuple []], .list [.str "one", .tuple ((P6.take n).map .str), .tuple []], .lst (SqL.of ((st1.trans (st2.trans sL2)) _ _ upd_same)) (.cons (.str _) (.cons (.tup (Same.tupS (sm.trans s12) hpaH) (dp_strs _)) (.cons (.tup (SqT.of ((sm.trans s12) _ _ hcaH)) .nil) .nil))),
          .lst (SqL.of upd_same) (.cons (.str _) (.cons (.tup (SqT.of ((st2.trans sL2) _ _ upd_same)) (dp_strs _)) (.cons (.tup (SqT.of (sL2 _ _ upd_same)) .nil) .nil))), kind_shp n n6, kind_shp n n6, _, rfl, if_neg' (by rw [SeqAt.eqv_refl _ (SeqAt.canLay_of_shaped (kind_shp n n6))]; rfl) ?_⟩
        have s8 := sm.trans s12
        generalize upd (upd (upd (upd G7 L1 (.lst [.str "one", .ref pa, .ref ca])) t1 (.tup ((P6.take n).map V.str))) t2 (.tup [])) L2 (.lst [.str "one", .ref t1, .ref t2]) = G8 at s8 ⊢
        have hp8 := s8 _ _ hpH
        have kd8 : KndI K DK tp tg G8 kp (lawT (P6.take n) rows) := ⟨C0, dx, fs, hp8, kc, ll⟩
        exact ⟨_, rfl, kp, C0, dx, _, _, rfl, hp8, kc.kc.cl, kc.kc.n4, li, _, _, rfl, rfl, _, rfl, iteT ⟨_, rfl, kp, C0, dx, fs, _, _, rfl, hp8, kc.kc.cl, con, ld, _, _, rfl, rfl, _, rfl, iteT ⟨_, rfl, kp, dx, fs, rfl, hp8, ⟨_, rfl⟩, kp, _, _, rfl, kd8, .inr ⟨_, rfl, _, rfl, k _ s8⟩⟩⟩⟩
end
end R4
end

-- MethS
section
set_option Elab.async false
set_option linter.all false
set_option maxRecDepth 100000
/-! methods and == of instances of whatever class of ours -/
namespace SupX
open PySem PySem.Spec PyProof.Rows L2 OwnOps OwnNe
def tMethS0 (S : Addr → Prop) (m : Str) (sp : Sp) (E : XK) (ta : TE) : TE := fun σ H Q => ta σ H fun x H1 => ∃ a C dx fs, (x = .ref a ∧ H1 a = some (.ins C dx fs) ∧ S C ∧ fs.lookup m = none) ∧ sp [.ref a] H1 Q E
/-- x op y, x of a class of S -/
def rOwnS (S : Addr → Prop) (R : V → Hp → Prop) (sp : Sp) (E : XK) : R2 := fun x y H Q => ∃ a C dx fs, (x = .ref a ∧ H a = some (.ins C dx fs) ∧ S C) ∧ R y H ∧ sp [x, y] H Q E
section
variable {X : Cx} {CX : CXT} {k : Nat} {f : Addr} {m : Str} {fd : FuncData} {ps : List Str} {sp : Sp} {E : XK} {o : Expr} {apos pos : Pos} {ta : TE} {S : Addr → Prop}
theorem pe_methS0 {pl : Sem Bool} (he : PE X o ta) (c : ∀ C, S C → Cls X.K C ∧ Meth X.K C m f) (F : FnOk X.prog X.w X.K X.mg X.base CX k f fd ps sp) (hr : Room k X.A) (hb : Binds X.K fd ps []) (hx : Passes CX X E)
    (ht : eval (.Call (.Attribute o m apos) [] [] pos) X.env = eval o X.env >>= fun ov => standAt apos.atName >>= fun _ => holding [ov] (getMethod ov m pl) >>= fun fs => callWith pos fs.1 fs.2 (backTo pos (starEach [] X.env)) (backToKw pos (keywordEach [] X.env)) := by rfl) :
    PE X (.Call (.Attribute o m apos) [] [] pos) (tMethS0 S m sp E ta) := by
  constructor
  intro pins s σ H Q I h
  refine PySem.W.methodCall_KW (pl := pl) (thn (he.run pins s σ H _ I h) fun u s1 ⟨x, H1, I1, rx, a, C, dx, fs, ⟨ex, ea, hS, l⟩, q⟩ => ?_) ht
  subst ex
  cases (show u = Value.ref a from rx)
  obtain ⟨cl, hm⟩ := c C hS
  exact getmeth_ok I1 ea cl hm l (PySem.W.callWith_K0 (first := [.ref a]) I1.kIn hm.kp (run_fn (us := [.ref a]) (vs := [.ref a]) F hr hb .nil hx I1 (.cons rfl .nil) q))
theorem cmp_ownS {op : CmpOp} (hop : ∀ a b, compareOp op a b = richCompare op a b) (hs : ∀ C, S C → PySem.W.findIn X.K (.ref C) (cmpInfo op).2.1 = some (some (.ref f))) (hf : PySem.W.isFn X.K (.ref f) = true)
    (F : FnOk X.prog X.w X.K X.mg X.base CX k f fd ps sp) (hr : Room k X.A) (hb : Binds X.K fd ps []) (hx : Passes CX X E) {R : V → Hp → Prop}
    (hR : ∀ {C : Addr} {y : V} {H : Hp} {u : Value} {pins : List (Addr × Obj)} {σ : L2.St} {s : Shared}, S C → L2.Inv X pins σ H s → R y H → RelV y u → ∃ tb, PySem.W.Looks (model X.prog X.w) s.heap (typeOf u) tb ∧ PySem.W.notFirst X.K C tb = true) :
    OpR X (compareOp op) (rOwnS S R sp E) := by
  intro pins s σ H x y v u Q I rx ry h
  obtain ⟨a, C, dx, fs, ⟨rfl, ha, hS⟩, hy, q⟩ := h
  exact cmp_own (C := C) hop (hs C hS) hf F hr hb hx (R := R) (fun I h r => hR hS I h r) pins s σ H (.ref a) y v u Q I rx ry ⟨a, dx, fs, rfl, ha, hy, q⟩
/-- what e gives is locked for good -/
def tFix (t : TE) : TE := fun σ H Q => t σ H fun x H1 => ∃ d u, x = .ref d ∧ (H1 d = some u ∧ Mut (some u)) ∧ ∀ od, Q x (upd H1 d (.frz od u))
theorem pe_fix {e : Expr} {t : TE} (h : PE X e t) : PE X e (tFix t) := by
  constructor
  intro pins s σ H Q I hw
  refine thn (h.run pins s σ H _ I hw) fun v s1 ⟨x, H1, I1, r, d, u, ex, ⟨hd, mu⟩, q⟩ => ?_
  obtain ⟨od, I2⟩ := I1.lock hd mu
  exact ⟨x, _, I2, r, q od⟩
end
end SupX
end

-- ZipM
section
set_option Elab.async false
set_option maxRecDepth 100000
/-! zip of a list and a tuple, for the hand layer -/
namespace ZipM
open PySem PySem.Spec PyProof.Rows L2
open Sem (wp)
/-- the list at a and the tuple at b, side by side, in new pairs -/
def ItZ (K : PySem.W.Frag) (a b : Addr) : It :=
  ⟨fun i H => ∃ (xs ys : List V) (x y : V), (SqL K H a xs ∧ SqT K H b ys) ∧ xs[i]? = some x ∧ ys[i]? = some y,
   fun i H v H' => ∃ T x y, (v = .ref T ∧ H T = none ∧ H' = upd H T (.tup [x, y])) ∧ (∀ xs, SqL K H a xs → xs[i]? = some x) ∧ ∀ ys, SqT K H b ys → ys[i]? = some y,
   fun i H => ∃ xs ys : List V, (SqL K H a xs ∧ SqT K H b ys) ∧ (xs.length ≤ i ∨ ys.length ≤ i)⟩
/-- the cells of such a zip, apart -/
structure Apt (z TI TO i1 i2 a b : Addr) : Prop where
  s2 : ZipSep2 z TI TO i1 i2 [i1, a] [i2, b]
  a1 : a ≠ i1
  b2 : b ≠ i2
theorem apt (n a b : Nat) (ha : a < n) (hb : b < n) : Apt (n + 4) (n + 2) (n + 3) n (n + 1) a b := by
  have ne : ∀ x y : Nat, x < y ∨ y < x → x ≠ y := fun x y h e => by omega
  refine ⟨⟨ne _ _ (by omega), ne _ _ (by omega), ne _ _ (by omega), ne _ _ (by omega), List.mem_cons_self, ?_, ?_, ne _ _ (by omega), List.mem_cons_self, ?_, ?_, ?_, ?_⟩, ne _ _ (by omega), ne _ _ (by omega)⟩
  all_goals
    intro h
    rcases List.mem_cons.mp h with h | h
    · exact ne _ _ (by omega) h
    · exact ne _ _ (by omega) (List.mem_singleton.mp h)
/-- an iterator that has come to its end -/
theorem doneL {P : Program} {w : World} {A : Around} (hh : A.handled = none) (it l : Addr) (items : Array Value) (i : Nat) (le : items.size ≤ i) :
    Draws P w A it [it, l] i (fun _ _ => True) (fun j h => j = i ∧ h.IsListIter it l i ∧ h.IsList l items) where
  live := fun j h q => let ⟨o, ho, _⟩ := q.2.1; ⟨o, ho⟩
  frame := fun j h h' q k => ⟨q.1, q.2.1.at fun o e => k it (by simp) o e, q.2.2.at fun o e => k l (by simp) o e⟩
  item := fun j s Q E lt q => absurd q.1 (Nat.ne_of_lt lt)
  done := fun s Q E q h => wpAny_nextOf_list_end hh q.2.1 q.2.2 (by simp; omega) h
theorem doneT {P : Program} {w : World} {A : Around} (hh : A.handled = none) (it l : Addr) (items : Array Value) (i : Nat) (le : items.size ≤ i) :
    Draws P w A it [it, l] i (fun _ _ => True) (fun j h => j = i ∧ h.IsTupleIter it l i ∧ h.IsTuple l items) where
  live := fun j h q => let ⟨o, ho, _⟩ := q.2.1; ⟨o, ho⟩
  frame := fun j h h' q k => ⟨q.1, q.2.1.at fun o e => k it (by simp) o e, q.2.2.at fun o e => k l (by simp) o e⟩
  item := fun j s Q E lt q => absurd q.1 (Nat.ne_of_lt lt)
  done := fun s Q E q h => wpAny_nextOf_tuple_end hh q.2.1 q.2.2 (by simp; omega) h

theorem turnZ {P : Program} {w : World} {K : PySem.W.Frag} {elts : List Expr} {kk : Nat} {tpos : Pos} {a b z TI TO i1 i2 : Addr} (D : Apt z TI TO i1 i2 a b) :
    Turn P w K (.Tuple elts kk tpos) (ItZ K a b) [z, TI, TO, i1, i2] z (fun i h => (IsZip h z TI TO .none ∧ IsTupOf2 h TI (.ref i1) (.ref i2) ∧ ∃ x y, IsTupOf2 h TO x y) ∧ h.IsListIter i1 a i ∧ h.IsTupleIter i2 b i) where
  mem := List.mem_cons_self
  obj := by
    rintro i h ⟨⟨hz, hTI, x, y, hTO⟩, ⟨o1, e1, c1, d1⟩, o2, e2, c2, d2⟩ c hc
    simp only [List.mem_cons, List.not_mem_nil, or_false] at hc
    rcases hc with rfl | rfl | rfl | rfl | rfl
    · exact ⟨_, hz, fun v q => nomatch q⟩
    · exact ⟨_, hTI, fun v q => nomatch q⟩
    · exact ⟨_, hTO, fun v q => nomatch q⟩
    · exact ⟨o1, e1, fun v q => (by rw [d1] at q; cases q)⟩
    · exact ⟨o2, e2, fun v q => (by rw [d2] at q; cases q)⟩
  keep := by
    rintro i h h' ⟨⟨hz, hTI, x, y, hTO⟩, h1, h2⟩ k
    exact ⟨⟨k z (by simp) _ hz, k TI (by simp) _ hTI, x, y, k TO (by simp) _ hTO⟩, h1.at (fun o q => k i1 (by simp) o q), h2.at fun o q => k i2 (by simp) o q⟩
  item := by
    intro X hP hw hK hc i pins s σ H E I hf st hg
    subst hP hw hK
    obtain ⟨⟨hz, hTI, x0, y0, hTO⟩, h1, h2⟩ := st
    obtain ⟨xs, ys, x, y, ⟨qx, qy⟩, hx, hy⟩ := hg
    obtain ⟨its, rv, p1, _⟩ := I.list qx
    obtain ⟨its2, rv2, p2, _⟩ := I.tuple qy
    obtain ⟨u, hu, ru⟩ := rv.get hx
    obtain ⟨u2, hu2, ru2⟩ := rv2.get hy
    have lt1 : i < its.toArray.size := by simpa using (List.getElem?_eq_some_iff.mp hu).1
    have lt2 : i < its2.toArray.size := by simpa using (List.getElem?_eq_some_iff.mp hu2).1
    have hzl : z < s.heap.objs.size := Heap.lt_size hz
    refine wpAny_pyNext_zipD2_item D.s2 (Draws.list (A := X.A.in1) (I.ok.hd hc) i1 a D.a1 its.toArray) (Draws.tuple (A := X.A.in1) (I.ok.hd hc) i2 b D.b2 its2.toArray) hz hTI hTO ⟨h1, p1.isList⟩ ⟨h2, p2⟩ lt1 lt2 fun v1 v2 h' tk e1 e2 z' TO' st1 st2 hT hsz hk => ?_
    obtain rfl : v1 = u := Option.some.inj ((show its[i]? = some v1 by simpa using e1).symm.trans hu)
    obtain rfl : v2 = u2 := Option.some.inj ((show its2[i]? = some v2 by simpa using e2).symm.trans hu2)
    refine ⟨_, rfl, wpAny_letOwnedTupleGo_zip (s := { s with heap := h', toks := tk }) z' fun h'' z'' sb => ?_⟩
    have hT2 := (sb.2 _ (Nat.ne_of_gt hzl)).trans hT
    have new : ObjOk X.prog X.w (upd H s.heap.objs.size (.tup [x, y])) h'' s.heap.objs.size (.tup [x, y]) := ⟨(by show 2 ≤ sizeLine; decide), [v1, v2], .cons ru (.cons ru2 .nil), _, hT2, rfl, _, rfl⟩
    have I1 := I.turnedNew (t' := tk) (ch := [z, TI, TO, i1, i2]) (h' := h'') (fun c o hb q => (sb.2 c fun e => hb (by simp [e])).trans (hk c o (fun e => hb (by simp [e])) (fun e => hb (by simp [e])) (fun e => hb (by simp [e])) (fun e => hb (by simp [e])) q)) hf (Nat.le_refl _) new
    refine ⟨.ref s.heap.objs.size, _, I1, rfl, ⟨_, x, y, ⟨rfl, I.hok.fresh (Nat.le_refl _), rfl⟩, fun l hl => (by rw [I.list_inj hl qx]; exact hx), fun l hl => by rw [I.tuple_inj hl qy]; exact hy⟩, ⟨⟨z'', ?_, v1, v2, ?_⟩, ?_, ?_⟩, fun c hcm => ?_⟩
    · exact (sb.2 _ D.s2.TIz).trans (hk _ _ D.s2.TIz D.s2.TITO D.s2.TIi1 D.s2.TIi2 hTI)
    · exact (sb.2 _ D.s2.TOz).trans TO'
    · exact st1.1.at fun o q => (sb.2 _ (Ne.symm D.s2.zi1)).trans q
    · exact st2.1.at fun o q => (sb.2 _ (Ne.symm D.s2.zi2)).trans q
    · have lt : c < s.heap.objs.size := by
        obtain ⟨o1, e1, _⟩ := h1
        obtain ⟨o2, e2, _⟩ := h2
        simp only [List.mem_cons, List.not_mem_nil, or_false] at hcm
        rcases hcm with rfl | rfl | rfl | rfl | rfl
        · exact hzl
        · exact Heap.lt_size hTI
        · exact Heap.lt_size hTO
        · exact Heap.lt_size e1
        · exact Heap.lt_size e2
      rw [upd_ne (Nat.ne_of_lt lt)]
      exact (hf c hcm).1
  done := by
    intro X hP hw hK hc i pins s σ H E I hf st hg
    subst hP hw hK
    obtain ⟨⟨hz, hTI, x0, y0, hTO⟩, h1, h2⟩ := st
    obtain ⟨xs, ys, ⟨qx, qy⟩, hend⟩ := hg
    obtain ⟨its, rv, p1, _⟩ := I.list qx
    obtain ⟨its2, rv2, p2, _⟩ := I.tuple qy
    have l1 := rv.length
    have l2 := rv2.length
    have fin : ∀ h' tk, (∀ c o, c ≠ z → c ≠ TO → c ≠ i1 → c ≠ i2 → s.heap.get? c = some o → h'.get? c = some o) → (none : Option Value) = none ∧ Inv X pins σ H { s with heap := h', toks := tk } := fun h' tk hk =>
      ⟨rfl, I.turnedL (t' := tk) (ch := [z, TI, TO, i1, i2]) (fun c o hb q => hk c o (fun e => hb (by simp [e])) (fun e => hb (by simp [e])) (fun e => hb (by simp [e])) (fun e => hb (by simp [e])) q) hf⟩
    by_cases c1 : its.toArray.size ≤ i
    · by_cases c2 : its2.toArray.size ≤ i
      · exact wpAny_pyNext_zipD2_end D.s2 (doneL (A := X.A.in1) (I.ok.hd hc) i1 a its.toArray i c1) (doneT (A := X.A.in1) (I.ok.hd hc) i2 b its2.toArray i c2) hz hTI hTO ⟨rfl, h1, p1.isList⟩ ⟨rfl, h2, p2⟩ (Nat.le_refl _) (Nat.le_refl _) (.inl rfl) fin
      · exact wpAny_pyNext_zipD2_end D.s2 (doneL (A := X.A.in1) (I.ok.hd hc) i1 a its.toArray i c1) (Draws.tuple (A := X.A.in1) (I.ok.hd hc) i2 b D.b2 its2.toArray) hz hTI hTO ⟨rfl, h1, p1.isList⟩ ⟨h2, p2⟩ (Nat.le_refl _) (by omega) (.inl rfl) fin
    · have c2 : its2.toArray.size ≤ i := by
        simp only [List.size_toArray] at c1 ⊢
        omega
      exact wpAny_pyNext_zipD2_end D.s2 (Draws.list (A := X.A.in1) (I.ok.hd hc) i1 a D.a1 its.toArray) (doneT (A := X.A.in1) (I.ok.hd hc) i2 b its2.toArray i c2) hz hTI hTO ⟨h1, p1.isList⟩ ⟨rfl, h2, p2⟩ (by omega) (Nat.le_refl _) (.inr rfl) fin
  self := fun A i s Q E st h => wpAny_pyIter_zip st.1.1 h
def iZipM (K : PySem.W.Frag) (ta : TA) : TI := fun σ H R => ta σ H fun vs H1 => ∃ a b xs ys, vs = [.ref a, .ref b] ∧ SqL K H1 a xs ∧ SqT K H1 b ys ∧ R (ItZ K a b) H1
theorem pi_zipM {X : Cx} {e e2 : Expr} {ta : TA} {p pos tpos : Pos} {elts : List Expr} {kk : Nat} (hg : Gl X "zip") (hm : X.mg "zip" = none) (ha : PA X [e, e2] ta) (hs : starEach [e, e2] X.env = (false, eval e X.env) :: starEach [e2] X.env := by rfl)
    (hpl : (backTo pos (starEach [e2] X.env)).any (·.1) = false := by rfl) : PI X (.Tuple elts kk tpos) (.Call (.Name "zip" p) [e, e2] [] pos) (iZipM X.K ta) := by
  constructor
  intro pins s σ H R I h
  refine Call_ (ld_blt I hg hm PyProof.Rows.boot_zip (PyProof.Rows.callWith_type1 (thn (ha.run pos pins s σ H _ I h) fun us s1 ⟨vs, H1, I1, r1, a, b, xs, ys, ex, qx, qy, q⟩ => ?_) hs hpl))
  subst ex
  rcases r1 with _ | ⟨r, rr⟩
  rcases rr with _ | ⟨r', rr⟩
  cases rr
  cases r
  cases r'
  obtain ⟨its, rv, p1, _⟩ := I1.list qx
  obtain ⟨its2, rv2, p2, _⟩ := I1.tuple qy
  obtain ⟨o2, ho2, _⟩ := id p2
  refine zip_begins2 (begins_list a its.toArray) (begins_tuple b its2.toArray) p1.isList p2 fun h' hz hTI hTO g1 g2 hsz hk => wpAny_pyIter_zip hz ?_
  refine ⟨s1.heap.objs.size + 4, [s1.heap.objs.size + 4, s1.heap.objs.size + 2, s1.heap.objs.size + 3, s1.heap.objs.size, s1.heap.objs.size + 1], _, _, H1, rfl, I1.kept (t' := s1.toks) hk, turnZ (apt s1.heap.objs.size a b p1.lt (Heap.lt_size ho2)), ⟨⟨hz, hTI, _, _, hTO⟩, ⟨_, g1, rfl, rfl⟩, _, g2, rfl, rfl⟩, fun c hcm => ?_, q⟩
  have le : s1.heap.objs.size ≤ c := by
    simp only [List.mem_cons, List.not_mem_nil, or_false] at hcm
    have ge : ∀ n m : Nat, n ≤ n + m := fun n m => Nat.le_add_right n m
    rcases hcm with rfl | rfl | rfl | rfl | rfl
    · exact ge _ _
    · exact ge _ _
    · exact ge _ _
    · exact Nat.le_refl _
    · exact ge _ _
  exact I1.fpOk le (I1.hok.fresh le)
theorem walk_zipM {K : PySem.W.Frag} {a b : Addr} {xs ys : List V} {n : Nat} (hn : n = xs.length) (hm : n = ys.length) : Walk (ItZ K a b) n (fun H => SqL K H a xs ∧ SqT K H b ys) (YPair (fun i => xs[i]?) (fun i => ys[i]?)) := by
  refine ⟨fun i _ hi q => ⟨xs, ys, xs[i]'(by omega), ys[i]'(by omega), q, List.getElem?_eq_getElem _, List.getElem?_eq_getElem _⟩, fun _ q => ⟨xs, ys, q, by omega⟩, fun i H v H' _ q y => ?_⟩
  obtain ⟨T, x, y, ⟨h1, h2, h3⟩, h4, h5⟩ := y
  exact ⟨T, x, y, h1, h2, h3, h4 xs q.1, h5 ys q.2⟩
end ZipM
end

-- K44a
section
set_option Elab.async false
set_option linter.all false
set_option maxRecDepth 100000
set_option exponentiation.threshold 10000
namespace R4
open PySem L2 OwnOps OwnNe G1 StX SupX GenFor
/-! the pure part of _law_path_right -/
def wv : Option Bool → V
  | none => .non
  | some w => .str (rwd w)
def wayA (k : Str) : Option Bool → List Str
  | none => []
  | some w => [k, rwd w]
def wa (a b : Option Bool) (i : Nat) : Option Bool := if i = 0 then a else b
/-- the law's options, behind i turns -/
def optU (w : Nat) (a b : Option Bool) : Nat → List Str
  | 0 => if dirOf w then ["directed"] else []
  | i + 1 => optU w a b i ++ (if 1 < w then wayA (way i) (wa a b i) else [])
def szOf (w n : Nat) : Nat := if w = 0 then n else if w = 1 then n % 3 else n % 2
theorem ctlOf_sz (w n : Nat) : ctlOf w n = ctl (szOf w n) := rfl
theorem sz4 {w n : Nat} (h : n < 4) : szOf w n < 4 := by
  unfold szOf
  split
  · exact h
  · split <;> omega
theorem ctl_len {n : Nat} (h : n < 4) : (ctl n).length = n := by
  unfold ctl
  rw [List.length_take]
  show min n 3 = n
  omega
theorem sz_at {w n : Nat} (h : w < 4) : [V.int (n : Int), .int ((n : Int) % 3), .int ((n : Int) % 2), .int ((n : Int) % 2)][w]? = some (.int (szOf w n : Nat)) := by
  match w, h with
  | 0, _ => rfl
  | 1, _ => rfl
  | 2, _ => rfl
  | 3, _ => rfl
theorem in13 {w : Nat} (h : w < 4) : inV (.int (w : Int)) [.int 1, .int 3] = dirOf w := by
  match w, h with
  | 0, _ => decide +kernel
  | 1, _ => decide +kernel
  | 2, _ => decide +kernel
  | 3, _ => decide +kernel
theorem rep_b (c : Bool) (xs : List V) : (List.replicate (if c = true then (1 : Int) else 0).toNat xs).flatten = if c = true then xs else [] := by
  cases c
  · rfl
  · show (List.replicate 1 xs).flatten = xs
    simp
/-- words and options, as the law joins them -/
theorem worded_law {ws opts : List Str} (hw : ws ≠ []) (h0 : (Txt.join " " opts).length = 0 ↔ opts = []) : worded ws (Txt.join " " opts) = Txt.join " " ws ++ (if opts = [] then Str.empty else (" : " : Str) ++ Txt.join " " opts) := by
  unfold worded
  by_cases h : opts = []
  · rw [if_pos (h0.mpr h), if_pos h, str_empty]
  · rw [if_neg (fun z => h (h0.mp z)), if_neg h, tj, join_app _ _ _ hw (by simp), ← tj]
    have e2 : Str.join " " [(":" : Str), Txt.join " " opts] = (":" : Str) ++ " " ++ Txt.join " " opts := rfl
    rw [e2]
    rw [show Str.ofString " : " = Str.ofString " " ++ (Str.ofString ":" ++ Str.ofString " ") from by decide +kernel]
    simp only [str_assoc]
theorem opts0 {opts : List Str} (pos : ∀ z ∈ opts, 1 ≤ z.length) : (Txt.join " " opts).length = 0 ↔ opts = [] := by
  refine ⟨fun h => ?_, fun h => by rw [h]; decide +kernel⟩
  cases opts with
  | nil => rfl
  | cons z r =>
    have := join_pos (sep := " ") (xs := r) (pos z List.mem_cons_self)
    omega
theorem wayT_A (k : Str) (a : RR) : wayT k a = wayA k (a.map Prod.fst) := by
  cases a <;> rfl
theorem rwd_1 (w : Bool) : 1 ≤ (rwd w).length ∧ (rwd w).length ≤ 12 := by
  cases w <;> decide +kernel
theorem way_1 (i : Nat) : 1 ≤ (way i).length ∧ (way i).length ≤ 12 := by
  unfold way
  split <;> decide +kernel
theorem wayA_pos {i : Nat} {a : Option Bool} {z : Str} (h : z ∈ wayA (way i) a) : 1 ≤ z.length ∧ z.length ≤ 12 := by
  cases a with
  | none => cases h
  | some w =>
    rcases List.mem_cons.mp h with rfl | h
    · exact way_1 i
    · rw [List.mem_singleton.mp h]
      exact rwd_1 w
theorem optU_pos {w : Nat} {a b : Option Bool} : ∀ {i : Nat} {z : Str}, z ∈ optU w a b i → 1 ≤ z.length ∧ z.length ≤ 12
  | 0, z, h => by
    unfold optU at h
    cases e : dirOf w with
    | false => rw [e] at h; cases h
    | true =>
      rw [e] at h
      rw [List.mem_singleton.mp h]
      decide +kernel
  | i + 1, z, h => by
    rcases List.mem_append.mp h with h | h
    · exact optU_pos h
    · split at h
      · exact wayA_pos h
      · cases h
theorem optU_len {w : Nat} {a b : Option Bool} : ∀ i, (optU w a b i).length ≤ 1 + 2 * i
  | 0 => by
    unfold optU
    split <;> decide
  | i + 1 => by
    have := optU_len (w := w) (a := a) (b := b) i
    show (optU w a b i ++ _).length ≤ _
    rw [List.length_append]
    have : ∀ c : Option Bool, (wayA (way i) c).length ≤ 2 := fun c => by cases c <;> simp [wayA]
    have h2 := this (wa a b i)
    split
    · omega
    · simp only [List.length_nil]; omega
/-- the line of a path kind -/
theorem pathT_law {w n : Nat} {a b : Option Bool} {a' b' : RR} (h : (w < 2 ∧ a' = none ∧ b' = none) ∨ (2 ≤ w ∧ a'.map Prod.fst = a ∧ b'.map Prod.fst = b)) :
    pathT (dirOf w) "k" (ctlOf w n) a' b' = Txt.join " " (("path" : Str) :: "k" :: ctlOf w n) ++ (if optU w a b 2 = [] then Str.empty else (" : " : Str) ++ Txt.join " " (optU w a b 2)) := by
  rw [← worded_law (by simp) (opts0 fun z hz => (optU_pos hz).1)]
  unfold pathT
  congr 2
  show _ = (optU w a b 0 ++ _) ++ _
  rw [wayT_A, wayT_A]
  rcases h with ⟨h, rfl, rfl⟩ | ⟨h, rfl, rfl⟩
  · rw [if_neg (show ¬ 1 < w by omega), if_neg (show ¬ 1 < w by omega), List.append_nil, List.append_nil]
    show _ ++ ([] ++ []) = _
    rw [List.append_nil, List.append_nil]
    rfl
  · rw [if_pos (show 1 < w by omega), if_pos (show 1 < w by omega), List.append_assoc]
    rfl
theorem line_ok : ∀ w, w < 4 → ∀ n, n < 4 → ∀ a b : Option Bool, PyData.strOk (Txt.join " " (("path" : Str) :: "k" :: ctlOf w n) ++ (if optU w a b 2 = [] then Str.empty else (" : " : Str) ++ Txt.join " " (optU w a b 2))) = true := by
  intro w hw n hn a b
  have h : ∀ w, w < 4 → ∀ n, n < 4 → ∀ i, i < 3 → ∀ j, j < 3 → PyData.strOk (Txt.join " " (("path" : Str) :: "k" :: ctlOf w n) ++ (if optU w (if i = 0 then none else if i = 1 then some true else some false) (if j = 0 then none else if j = 1 then some true else some false) 2 = [] then Str.empty else (" : " : Str) ++ Txt.join " " (optU w (if i = 0 then none else if i = 1 then some true else some false) (if j = 0 then none else if j = 1 then some true else some false) 2))) = true := by decide +kernel
  have pick : ∀ c : Option Bool, ∃ i, i < 3 ∧ c = (if i = 0 then none else if i = 1 then some true else some false) := fun c => match c with
    | none => ⟨0, by decide, rfl⟩
    | some true => ⟨1, by decide, rfl⟩
    | some false => ⟨2, by decide, rfl⟩
  obtain ⟨i, hi, rfl⟩ := pick a
  obtain ⟨j, hj, rfl⟩ := pick b
  exact h w hw n hn i hi j hj
theorem kg_line : pathT false "k" ["g"] none none = "path k g" := by decide +kernel
theorem RVal.draw {D l : Addr} {G G' : Hp} {v : V} {a : Option Bool} (r : RVal D G v a) (hl : ∃ x y : Int, G l = some (.lst [.int x, .int y])) (s : SameX l G G') : RVal D G' v a := by
  cases r with
  | non => exact .non
  | word w => exact .word w
  | rul h =>
    obtain ⟨dx, e⟩ := h
    exact .rul ⟨dx, s _ _ (ne_draw hl e (fun _ _ z => by cases z)) e⟩
theorem RVal.keep {D q : Addr} {G : Hp} {v : V} {a : Option Bool} {xs : List V} {o : HO} (r : RVal D G v a) (hq : G q = some (.lst xs)) : RVal D (upd G q o) v a := by
  cases r with
  | non => exact .non
  | word w => exact .word w
  | rul h =>
    obtain ⟨dx, e⟩ := h
    exact .rul ⟨dx, by rw [upd_ne (fun z => by rw [z, hq] at e; cases e)]; exact e⟩
def pick3 (j : Nat) : Option Bool := if j = 0 then none else if j = 1 then some true else some false
theorem pick3_at {j : Nat} (h : j < 3) : [V.non, .str "sum", .str "inverse"][j]? = some (wv (pick3 j)) := by
  match j, h with
  | 0, _ => rfl
  | 1, _ => rfl
  | 2, _ => rfl
theorem no_nss (x y : Int) : (HO.lst [V.non, .str "sum", .str "inverse"]) ≠ .lst [.int x, .int y] := fun e => by
  injection e with e
  injection e with e1 e2
  cases e1
theorem word_at {a b : Option Bool} {i : Nat} {v : V} (h : [wv a, wv b][i]? = some v) : i < 2 ∧ v = wv (wa a b i) := by
  match i, h with
  | 0, h => cases h; exact ⟨by omega, rfl⟩
  | 1, h => cases h; exact ⟨by omega, rfl⟩
theorem nat_of {d : Int} (h : 0 ≤ d) : ∃ n : Nat, d = (n : Int) := ⟨d.toNat, (Int.toNat_of_nonneg h).symm⟩
theorem rep_ok (c : Bool) (xs : List V) (h : xs.length ≤ 100) : -(2 ^ 63) ≤ (if c = true then (1 : Int) else 0) ∧ (if c = true then (1 : Int) else 0) < 2 ^ 63 ∧ xs.length * (if c = true then (1 : Int) else 0).toNat ≤ sizeLine := by
  have line : 1000 ≤ sizeLine := by decide
  cases c
  · exact ⟨by decide, by decide, by show xs.length * 0 ≤ _; omega⟩
  · exact ⟨by decide, by decide, by show xs.length * 1 ≤ _; omega⟩
theorem catA_ok {K : PySem.W.Frag} {σ : L2.St} {G : Hp} {Q : VK} {al : Addr} {n : Nat} (h3 : σ[12]? = some (some (.ref al))) (hal : G al = some (.tup ((upto n).map V.int))) (n2 : 2 ≤ n) (n8 : n ≤ 100)
    (k : ∀ qq G', Same G G' → G' qq = some (.tup ((1 :: 0 :: (upto n).drop 2).map V.int)) → Q (.ref qq) G') :
    tOp (rCatA K) (tTup (tCons (tC (.int 1)) (tCons (tC (.int 0)) tNil))) (tSl (rSlA K) (tVar 12) (tPart (tC (.int 2))) tNoPart) σ G Q := by
  have line : 1000 ≤ sizeLine := by decide
  refine ⟨by show 2 ≤ sizeLine; omega, fun q1 n1 => ⟨_, h3, _, rfl, al, _, rfl, SqT.of (same_upd n1 _ _ hal), fun z => absurd z (cut2 n2).1, fun _ q2 nq2 => ?_⟩⟩
  rw [(cut2 n2).2]
  have e1 := same_upd nq2 (o := .tup (((upto n).drop 2).map V.int)) _ _ (upd_same (H := G) (a := q1) (o := .tup [.int 1, .int 0]))
  have s2 : Same G (upd (upd G q1 (.tup [.int 1, .int 0])) q2 (.tup (((upto n).drop 2).map V.int))) := (same_upd n1).trans (same_upd nq2)
  refine ⟨q1, q2, _, _, rfl, rfl, SqT.of e1, SqT.of upd_same, ?_, fun z => absurd z (by simp), fun _ z => ?_, fun _ _ q3 n3 => k q3 _ (s2.trans (same_upd n3)) upd_same⟩
  · rw [List.length_map, List.length_drop, upto_len]
    show 2 + (n - 2) ≤ sizeLine
    omega
  · refine k q1 _ s2 ?_
    rw [e1, List.map_eq_nil_iff.mp z]
    rfl
theorem pk_shp {tx : Str} (h : PyData.strOk tx = true) {n : Nat} (hn : n < 4) : SeqAt.shaped (.list [.str tx, .tuple ((("a" : Str) :: "b" :: ctl n).map .str), .tuple ((ctl n).map .str)]) = true := by
  have key : ∀ n, n < 4 → PyData.canLayAll0 [.tuple ((("a" : Str) :: "b" :: ctl n).map .str), .tuple ((ctl n).map .str)] = true ∧ PyData.depthAll [.tuple ((("a" : Str) :: "b" :: ctl n).map .str), .tuple ((ctl n).map .str)] ≤ 60 := by decide +kernel
  obtain ⟨k1, k2⟩ := key n hn
  refine shp ?_ ?_
  · show (PyData.strOk tx && PyData.canLayAll0 [.tuple ((("a" : Str) :: "b" :: ctl n).map .str), .tuple ((ctl n).map .str)]) = true
    rw [h, k1]
    rfl
  · show max 0 (PyData.depthAll [.tuple ((("a" : Str) :: "b" :: ctl n).map .str), .tuple ((ctl n).map .str)]) + 1 ≤ 64
    omega
/-- the ways that have a word -/
def nmU (a b : Option Bool) : Nat → List Str
  | 0 => []
  | i + 1 => nmU a b i ++ (if (wa a b i).isSome then [way i] else [])
theorem nmU_len (a b : Option Bool) : ∀ i, (nmU a b i).length ≤ i
  | 0 => Nat.le_refl _
  | i + 1 => by
    have := nmU_len a b i
    show (nmU a b i ++ _).length ≤ _
    rw [List.length_append]
    split
    · simp only [List.length_cons, List.length_nil]; omega
    · simp only [List.length_nil]; omega
theorem nmU_keys (a' b' : RR) : (rKvs a' b').map (fun kv => kV kv.1) = (nmU (a'.map Prod.fst) (b'.map Prod.fst) 2).map V.str := by
  rcases a' with _ | ⟨_, _⟩ <;> rcases b' with _ | ⟨_, _⟩ <;> rfl
theorem nmU_sorted {a b : Option Bool} {ys : List Str} (p : ys.Perm (nmU a b 2)) (h : PyProof.Rows.sortedS ys = true) : ys = nmU a b 2 := by
  have two : ∀ u v : Str, ys.Perm [u, v] → ys = [u, v] ∨ ys = [v, u] := fun u v p => by
    have l := p.length_eq
    match ys, l with
    | [x, y], _ =>
      have hx : x ∈ [u, v] := p.mem_iff.mp List.mem_cons_self
      rcases List.mem_cons.mp hx with rfl | hx
      · have := (List.perm_cons x).mp p
        rw [List.singleton_perm_singleton.mp this]
        exact .inl rfl
      · rw [List.mem_singleton.mp hx] at p ⊢
        have := (List.perm_cons v).mp (p.trans (List.Perm.swap v u []))
        rw [List.singleton_perm_singleton.mp this]
        exact .inr rfl
  cases a with
  | none =>
    cases b with
    | none => exact List.Perm.eq_nil p
    | some w => exact List.perm_singleton.mp p
  | some w =>
    cases b with
    | none => exact List.perm_singleton.mp p
    | some w' =>
      rcases two "row" "side" p with e | e
      · exact e
      · rw [e] at h
        exact absurd h (by decide +kernel)
theorem nm_shp (a b : Option Bool) : SeqAt.shaped (.list ((nmU a b 2).map .str)) = true := by
  have e : ∀ c : Option Bool, c.isSome = true ∨ c.isSome = false := fun c => by cases c <;> simp
  show SeqAt.shaped (.list ((([] ++ (if (wa a b 0).isSome then [way 0] else [])) ++ (if (wa a b 1).isSome then [way 1] else [])).map .str)) = true
  rcases e (wa a b 0) with h | h <;> rcases e (wa a b 1) with h' | h' <;> rw [h, h'] <;> decide +kernel
theorem rKvs_at {a b : RR} {i : Nat} {k : Key} {v : V} (h : (rKvs a b)[i]? = some (k, v)) : ∃ z : Str, k = Sum.inr z := by
  have m := List.mem_of_getElem? h
  rcases a with _ | ⟨_, _⟩ <;> rcases b with _ | ⟨_, _⟩
  · cases m
  · rcases List.mem_cons.mp m with e | e
    · cases e; exact ⟨_, rfl⟩
    · cases e
  · rcases List.mem_cons.mp m with e | e
    · cases e; exact ⟨_, rfl⟩
    · cases e
  · rcases List.mem_cons.mp m with e | e
    · cases e; exact ⟨_, rfl⟩
    · rcases List.mem_cons.mp e with e | e
      · cases e; exact ⟨_, rfl⟩
      · cases e
theorem rul_at {a' b' : RR} {i : Nat} {w : Bool} (h : wa (a'.map Prod.fst) (b'.map Prod.fst) i = some w) : ∃ q, rul a' b' i = some (w, q) := by
  unfold wa at h
  unfold rul
  split at h
  · obtain ⟨⟨_, q⟩, e, rfl⟩ := Option.map_eq_some_iff.mp h
    exact ⟨q, by rw [if_pos (by assumption)]; exact e⟩
  · obtain ⟨⟨_, q⟩, e, rfl⟩ := Option.map_eq_some_iff.mp h
    exact ⟨q, by rw [if_neg (by assumption)]; exact e⟩
theorem cutH {goal : Prop} {C Y : Hp → Prop} (body : (∀ G, C G → Y G) → goal) (next : ∀ G, C G → Y G) : goal := body next
end R4
end

-- K44
section
set_option Elab.async false
set_option linter.all false
set_option maxRecDepth 100000
set_option exponentiation.threshold 10000
namespace R4
open PySem L2 OwnOps OwnNe G1 StX SupX GenFor ZipM
abbrev sLPr : Stmt := top 44
abbrev NLq : List Str := ["_law_draws_here", "_law_way", "_law_number", "_law_words", "_law_word", "_law_rules", "_law_kind", "_law_size", "_law_controls", "_law_options", "_law_name", "_law_text", "_law_plain", "_law_due", "_law_named", "_law_order"]
/-- a class of kinds, as _law_path_right asks it -/
structure PKnd (K : PySem.W.Frag) (DK tp tg fx gE C0 C : Addr) : Prop where
  kn : KndC K DK tp tg C
  mx : Meth K C "exchanges" fx
  eq : PySem.W.findIn K (.ref C) "__eq__" = some (some (.ref gE))
  fn : PySem.W.isFn K (.ref gE) = true
  nf : PySem.W.notFirst K C (.ref C0) = true
/-- the rules' class -/
structure RulE (K : PySem.W.Frag) (D gV : Addr) : Prop where
  hm : PySem.W.mroIn K D (.type "object") = some true
  ne : PySem.W.findIn K (.ref D) "__ne__" = some (some (.builtin "object.__ne__"))
  eq : PySem.W.findIn K (.ref D) "__eq__" = some (some (.ref gV))
  fn : PySem.W.isFn K (.ref gV) = true
  nD : PySem.W.notFirst K D (.ref D) = true
theorem looks_ins2 {X : Cx} {C D : Addr} (hs : PySem.W.notFirst X.K C (.ref D) = true) {y : V} {H : Hp} {u : Value} {pins : List (Addr × Obj)} {σ : L2.St} {s : Shared} (I : L2.Inv X pins σ H s) (h : RIns D y H) (ry : RelV y u) :
    ∃ tb, PySem.W.Looks (model X.prog X.w) s.heap (typeOf u) tb ∧ PySem.W.notFirst X.K C tb = true := by
  obtain ⟨a, dx, fs, rfl, ha⟩ := h
  cases (show u = Value.ref a from ry)
  obtain ⟨od, J⟩ := inst_at I ha
  exact ⟨_, J.type, hs⟩
section
variable {P : Program} {w : World} {K : PySem.W.Frag} {mg : Str → Option Value} {base : Heap} {DK tp tg fx gE gV fR D CK fV CN DP DJ gK gP C0 C1 C2 C3 fP : Addr}
def spLPr : Sp := fun vs H Q _ => ∃ (l : Addr) (x y : Int), vs = [.ref l] ∧ H l = some (.lst [.int x, .int y]) ∧ ∀ H', St l H H' → Q (.bl true) H'
set_option maxHeartbeats 4000000 in
theorem ok_lpr {f : Addr} {fd tgd fxd gEd gVd fRd fdV : FuncData} (F : Fun K "_law_path_right" "_law_path_right" sLPr f fd) (T : Bi mg) (c0 : PCl K mg "PathKind" C0 fP DP gK false) (c1 : ∃ u, Con K C1 "DIRECTED" (.bl true) u) (c2 : ∃ u, Con K C2 "DIRECTED" (.bl false) u) (c3 : ∃ u, Con K C3 "DIRECTED" (.bl true) u)
    (p0 : PKnd K DK tp tg fx gE C0 C0) (p1 : PKnd K DK tp tg fx gE C0 C1) (p2 : PKnd K DK tp tg fx gE C0 C2) (p3 : PKnd K DK tp tg fx gE C0 C3) (r2 : Meth K C2 "rules" fR) (r3 : Meth K C3 "rules" fR) (dE : RulE K D gV) (gDm : mg "ValueRule" = some (.ref D)) (mkV : Mk K D fV)
    (GVi : FnOk P w K mg base (L2.CX P w) 4 fV fdV ["self", "word"] (spVI D CK)) (bVi : L2.Binds K fdV ["self", "word"] []) (GVQ : FnOk P w K mg base (L2.CX P w) 1 gV gVd ["self", "other"] (spVEq D)) (bVQ : L2.Binds K gVd ["self", "other"] [])
    (GT : FnOk P w K mg base (L2.CX P w) 1 tg tgd ["self"] (spText K DK tp tg)) (bT : L2.Binds K tgd ["self"] []) (GX : GFn2 P w K mg base 1 fx fxd ["self"] (spExch K)) (bX : L2.Binds K fxd ["self"] [])
    (GE : FnOk P w K mg base (L2.CX P w) 3 gE gEd ["self", "other"] (spKEq K DK tp tg)) (bE : L2.Binds K gEd ["self", "other"] []) (GRl : FnOk P w K mg base (L2.CX P w) 1 fR fRd ["self"] (spRules K)) (bRl : L2.Binds K fRd ["self"] [])
    (FP : FnA P w K mg base (L2.CX P w) 5 fP (saPath K CN CK DP gK)) (GD : Glb P w K mg base "_law_draw" 1 ["_law_draws_here", "_law_upto"] spDraw) (GK : Glb P w K mg base "_law_path_kind" 9 ["_law_way", "_law_number", "_law_rules"] (spLPk D C0 C1 C2 C3)) :
    FnOk P w K mg base (L2.CX P w) 11 f fd ["_law_draws_here"] spLPr := by
  obtain ⟨_, _, mD, kD, GD, bD⟩ := GD.ex
  obtain ⟨_, _, mK, kK, GK, bK⟩ := GK.ex
  have sc : FnScope NLq ["_law_draws_here"] (defScope sLPr) := ⟨rfl, rfl, rfl, by decide +kernel, rfl, by decide +kernel, by decide +kernel⟩
  have hN := sc.nd
  let SK : Addr → Prop := fun C => PKnd K DK tp tg fx gE C0 C
  let SR : Addr → Prop := fun C => Cls K C ∧ Meth K C "rules" fR
  refine F.okX sc (fun vs H Q E h => ?_) (fun cdv A outer s H vs Q E hr h => ?_)
  · obtain ⟨l, x, y, rfl, _⟩ := h
    rfl
  · obtain ⟨l, x, y, rfl, hl, k⟩ := h
    refine ⟨_, (pss_cons (ps_par (i := 1) (j := 2) rfl hN rfl rfl (by decide) rfl rfl (pa_cons (pe_call GD (hr.mono (by decide)) (by rfl) mD kD bD .nil passL (pa_cons (pv 0) (pa_cons pe_int pa_nil))) (pa_cons (pe_call GD (hr.mono (by decide)) (by rfl) mD kD bD .nil passL (pa_cons (pv 0) (pa_cons pe_int pa_nil))) pa_nil)) (by rfl))
      (pss_cons (ps_set (i := 3) hN rfl (Or.inl rfl) (pe_tup (pa_cons (pe_ix ix_list (pe_lst (pa_cons pe_non (pa_cons pe_str (pa_cons pe_str pa_nil)))) (pe_call GD (hr.mono (by decide)) (by rfl) mD kD bD .nil passL (pa_cons (pv 0) (pa_cons pe_int pa_nil))) (fun _ _ => rfl)) (pa_cons (pe_ix ix_list (pe_lst (pa_cons pe_non (pa_cons pe_str (pa_cons pe_str pa_nil)))) (pe_call GD (hr.mono (by decide)) (by rfl) mD kD bD .nil passL (pa_cons (pv 0) (pa_cons pe_int pa_nil))) (fun _ _ => rfl)) pa_nil))))
      (pss_cons (ps_setLc (i := 5) (own := [("_law_word", 4)]) (g := gName 4) (tt := tYes) rfl hN rfl rfl (sw_true rfl rfl rfl (by decide +kernel)) (pi_tup (pv 3)) (blkOk_by (N := NLq) (sc := defScope sLPr) (by decide +kernel)) (fun _ _ _ _ _ => pg_name (i := 4) hN rfl (Or.inl rfl)) (fun _ _ _ _ _ => pts_nil)
        (fun _ _ _ _ _ => pe_ifExp (PW.pt (pw_or (pt_cmpR op_isN (pv 4) pe_non (nomark _)) (pw_or1 (pt_cmpR op_eq (pe_call GD (hr.mono (by decide)) (by rfl) mD kD bD .nil passL (pa_cons (pv 0) (pa_cons pe_int pa_nil))) pe_int (nomark _))))) (pv 4) (pe_make (E := E0) mkV GVi (hr.mono (by decide)) (by rfl) gDm bVi .nil passL (pa_cons (pv 4) pa_nil))))
      (pss_cons (ps_set (i := 6) hN rfl (Or.inl rfl) (pe_call GK (hr.mono (by decide)) (by rfl) mK kK bK .nil passL (pa_cons (pv 1) (pa_cons (pv 2) (pa_cons (pe_tup (pa_cons (pe_ix ix_list (pv 5) pe_int (fun _ _ => rfl)) (pa_cons (pe_ix ix_list (pv 5) pe_int (fun _ _ => rfl)) pa_nil))) pa_nil)))))
      (pss_cons (ps_set (i := 7) hN rfl (Or.inl rfl) (pe_ix ix_list (pe_lst (pa_cons (pv 2) (pa_cons (pe_op op_mod (pe_callTy call_int1 (by rfl) T.int (by decide +kernel) (pa_cons (pv 2) pa_nil)) pe_int) (pa_cons (pe_op op_mod (pe_callTy call_int1 (by rfl) T.int (by decide +kernel) (pa_cons (pv 2) pa_nil)) pe_int) (pa_cons (pe_op op_mod (pe_callTy call_int1 (by rfl) T.int (by decide +kernel) (pa_cons (pv 2) pa_nil)) pe_int) pa_nil))))) (pv 1) (fun _ _ => rfl)))
      (pss_cons (ps_set (i := 8) hN rfl (Or.inl rfl) (pe_slice sl_list (pe_lst (pa_cons pe_str (pa_cons pe_str (pa_cons pe_str pa_nil)))) po_none (po_some (pv 7))))
      (pss_cons (ps_set (i := 9) hN rfl (Or.inl rfl) (pe_op op_rep (pe_lst (pa_cons pe_str pa_nil)) (pe_callTy call_int1 (by rfl) T.int (by decide +kernel) (pa_cons (pe_cmpR op_in_seq (pv 1) (pe_tup (pa_cons pe_int (pa_cons pe_int pa_nil))) (by rfl)) pa_nil))))
      (pss_cons (ps_for passOwn rfl (pi_zipM (by rfl) T.zip (pa_cons (pe_lst (pa_cons pe_str (pa_cons pe_str pa_nil))) (pa_cons (pv 3) pa_nil))) (pg_two (i := 10) (j := 4) rfl hN rfl (Or.inl rfl) rfl (Or.inl rfl)) (pss_one (ps_set (i := 9) hN rfl (Or.inl rfl) (pe_op op_cat (pv 9) (pe_op op_rep (pe_lst (pa_cons (pv 10) (pa_cons (pv 4) pa_nil))) (pe_callTy call_int1 (by rfl) T.int (by decide +kernel) (pa_cons (pe_and (pe_cmpR op_gt (pv 1) pe_int (nomark _)) (pe_one (pe_cmpR op_notN (pv 4) pe_non (nomark _)))) pa_nil)))))))
      (pss_cons (ps_set (i := 11) hN rfl (Or.inl rfl) (pe_op op_add_str (pe_join pe_str (pe_op op_cat (pe_lst (pa_cons pe_str (pa_cons pe_str pa_nil))) (pv 8))) (pe_op op_mulTxt (pe_op op_add_str pe_str (pe_join pe_str (pv 9))) (pe_callTy call_int1 (by rfl) T.int (by decide +kernel) (pa_cons (pe_cmpR (op_neEmp hr.units0) (pv 9) (pe_lst pa_nil) (nomark _)) pa_nil)))))
      (pss_cons (ps_set (i := 12) hN rfl (Or.inl rfl) (pe_tupRg rfl (by rfl) T.tuple (prg_1 (by rfl) T.range (pe_op op_add pe_int (pv 7)))))
      (pss_cons (ps_set (i := 13) hN rfl (Or.inl rfl) (pe_op op_cat (pe_lst (pa_cons (pv 12) pa_nil)) (pe_op op_rep (pe_lst (pa_cons (pe_op op_catA (pe_tup (pa_cons pe_int (pa_cons pe_int pa_nil))) (pe_slice sl_tupA (pv 12) (po_some pe_int) po_none)) pa_nil)) (pe_callTy call_int1 (by rfl) T.int (by decide +kernel) (pa_cons (pe_cmpR op_notIn_seq (pv 1) (pe_tup (pa_cons pe_int (pa_cons pe_int pa_nil))) (by rfl)) pa_nil)))))
      (pss_cons (ps_if (pt_cmpR (op_neD hr.units) (pe_lst (pa_cons (pe_propC (S := SK) (E := E0) (pv 6) (fun C h => ⟨h.kn.kc.cl, h.kn.tx⟩) GT (hr.mono (by decide)) bT passL rfl) (pa_cons (pe_fld (pv 6) rfl) (pa_cons (pe_fld (pv 6) rfl) pa_nil)))) (pe_lst (pa_cons (pv 11) (pa_cons (pe_tupleOf (by rfl) T.tuple (pe_op op_cat (pe_lst (pa_cons pe_str (pa_cons pe_str pa_nil))) (pv 8))) (pa_cons (pe_tupleOf (by rfl) T.tuple (pv 8)) pa_nil)))) (nomark _)) (pss_one (ps_ret pe_bl)) pss_nil)
      (pss_cons (ps_if (pt_cmpR (op_neD hr.units) (pe_lcG (own := [("_law_order", 15)]) (pgen2_meth0 (S := SK) (pv 6) (fun C h => ⟨h.kn.kc.cl, h.mx⟩) GX (fun vs H xs h => by obtain ⟨p, C, dx, fs, oa, rfl, _⟩ := h; rfl) (hr.mono (by decide)) bX) rfl (hr.mono (by decide)) (blkOk_by (N := NLq) (sc := defScope sLPr) (by decide +kernel)) (fun _ _ => rfl)) (pv 13) (nomark _)) (pss_one (ps_ret pe_bl)) pss_nil)
      (pss_cons (ps_if (PW.pt (pw_or (pt_cmpR op_notBl (pe_fld (pv 6) rfl) pe_bl (nomark _)) (pw_or1 (pt_cmpR op_ne (pe_con (pv 6) rfl) (pe_cmpR op_in_seq (pv 1) (pe_tup (pa_cons pe_int (pa_cons pe_int pa_nil))) (by rfl)) (nomark _))))) (pss_one (ps_ret pe_bl)) pss_nil)
      (pss_cons (ps_setLc (i := 14) (own := [("_law_name", 10), ("_law_word", 4)]) (g := gTup K 2 (gCons (gName 10) (gCons (gName 4) gNil))) (te := tVar 10) rfl hN rfl rfl (sw_true rfl rfl rfl (by decide +kernel)) (pi_zipM (by rfl) T.zip (pa_cons (pe_lst (pa_cons pe_str (pa_cons pe_str pa_nil))) (pa_cons (pv 3) pa_nil))) (blkOk_by (N := NLq) (sc := defScope sLPr) (by decide +kernel)) (fun _ _ _ _ _ => (pg_two (i := 10) (j := 4) rfl hN rfl (Or.inl rfl) rfl (Or.inl rfl)))
        (fun _ _ _ _ _ => pts_one (pt_cmpR op_notN (pv 4) pe_non (nomark _))) (fun _ _ _ _ _ => pv 10))
      (pss_cons (ps_if (PW.pt (pw_and (pt_cmpR op_gt (pv 1) pe_int (nomark _)) (pw_and1 (pt_cmpR (op_neD hr.units) (pe_callB cr_sortedS (by rfl) T.sorted (by decide +kernel) (pa_cons (pe_lc (own := [("_law_name", 10)]) (g := gName 10) (tt := tYes) (te := tCB (fun xs H Q => ∃ a, xs = [V.str a] ∧ Q (V.str a) H) (tCons (tVar 10) tNil)) rfl hN (pi_keys (pe_fix (pe_methS0 (S := SR) (E := E0) (pv 6) (fun C h => h) GRl (hr.mono (by decide)) bRl passL))) (blkOk_by (N := NLq) (sc := defScope sLPr) (by decide +kernel)) (fun _ _ _ _ _ => pg_name (i := 10) hN rfl (Or.inl rfl)) (fun _ _ _ _ _ => pts_nil)
        (fun _ _ _ _ _ => pe_callTy SkE.call_str_str (by rfl) T.str (by decide +kernel) (pa_cons (pv 10) pa_nil))) pa_nil)) (pv 14) (nomark _))))) (pss_one (ps_ret pe_bl)) pss_nil)
      (pss_cons (ps_for passOwn rfl (pi_zipM (by rfl) T.zip (pa_cons (pe_lst (pa_cons pe_str (pa_cons pe_str pa_nil))) (pa_cons (pv 3) pa_nil))) (pg_two (i := 10) (j := 4) rfl hN rfl (Or.inl rfl) rfl (Or.inl rfl)) (pss_one (ps_if (PW.pt (pw_and (pt_cmpR op_gt (pv 1) pe_int (nomark _)) (pw_and (pt_cmpR op_notN (pv 4) pe_non (nomark _)) (pw_and1 (pt_cmpR (op := .NotEq) (op_neOwn (C := D) (E := E0) (R := RIns D) dE.hm dE.ne dE.eq dE.fn GVQ (hr.mono (by decide)) bVQ passL (looks_ins dE.nD)) (pe_dget (hu_of hr) (pe_methS0 (S := SR) (E := E0) (pv 6) (fun C h => h) GRl (hr.mono (by decide)) bRl passL) (pv 10) (fun _ _ => rfl)) (pe_make (E := E0) mkV GVi (hr.mono (by decide)) (by rfl) gDm bVi .nil passL (pa_cons (pv 4) pa_nil)) (nomark _)))))) (pss_one (ps_ret pe_bl)) pss_nil)))
      (pss_one (ps_ret (pe_cmpR op_eq (pe_cmpR (op := .Eq) (cmp_ownS (S := SK) (E := E0) (R := RIns C0) (fun _ _ => rfl) (fun C h => h.eq) p0.fn GE (hr.mono (by decide)) bE passL (fun h => looks_ins2 h.nf)) (pv 6) (pe_makeA0 (E := E0) c0.mks FP (hr.mono (by decide)) (by rfl) c0.g passL (pa_cons pe_str (pa_cons pe_str pa_nil))) (nomark _)) (pe_cmpR op_eq (pv 11) pe_str (nomark _)) (nomark _))))))))))))))))))))), ?_⟩
    have line : 100000 ≤ sizeLine := by decide
    have S0 : St l H H := ⟨.refl _ _, x, y, hl⟩
    refine ⟨_, rfl, l, 4, x, y, rfl, by decide, by decide, hl, fun d1 xa ya d10 d11 => ?_⟩
    have S1 := S0.draw (x := xa) (y := ya)
    have hl1 : (upd H l (.lst [.int xa, .int ya])) l = some (.lst [.int xa, .int ya]) := upd_same
    generalize upd H l (.lst [.int xa, .int ya]) = G1 at S1 hl1 ⊢
    refine ⟨_, rfl, l, 4, xa, ya, rfl, by decide, by decide, hl1, fun d2 xb yb d20 d21 => ⟨_, _, rfl, ?_⟩⟩
    replace S1 := S1.draw (x := xb) (y := yb)
    generalize upd G1 l (.lst [.int xb, .int yb]) = G2 at S1 ⊢
    clear hl1
    obtain ⟨way, rfl⟩ := nat_of d10
    obtain ⟨num, rfl⟩ := nat_of d20
    have hw : way < 4 := by omega
    have hn : num < 4 := by omega
    -- the words
    refine ⟨by show 3 ≤ sizeLine; omega, fun L1 nL1 => ?_⟩
    have sa := same_upd (o := .lst [.non, .str "sum", .str "inverse"]) nL1
    have hL1 : (upd G2 L1 (.lst [.non, .str "sum", .str "inverse"])) L1 = some (.lst [.non, .str "sum", .str "inverse"]) := upd_same
    replace S1 := S1.same sa
    generalize upd G2 L1 (.lst [.non, .str "sum", .str "inverse"]) = G3 at S1 hL1 ⊢
    obtain ⟨x3, y3, hl3⟩ := S1.at_
    refine ⟨_, rfl, l, 3, x3, y3, rfl, by decide, by decide, hl3, fun d3 x4 y4 d30 d31 => ?_⟩
    have hL1' := (SameX.upd (o := .lst [.int x4, .int y4])) _ _ (ne_draw S1.at_ hL1 no_nss) hL1
    replace S1 := S1.draw (x := x4) (y := y4)
    generalize upd G3 l (.lst [.int x4, .int y4]) = G4 at S1 hL1' ⊢
    obtain ⟨j1, rfl⟩ := nat_of d30
    have hj1 : j1 < 3 := by omega
    refine ⟨L1, _, (j1 : Int), wv (pick3 j1), rfl, rfl, SqL.of hL1', at_of (j := j1) rfl (pick3_at hj1), ?_⟩
    refine ⟨by show 3 ≤ sizeLine; omega, fun L2 nL2 => ?_⟩
    have sb := same_upd (o := .lst [.non, .str "sum", .str "inverse"]) nL2
    have hL2 : (upd G4 L2 (.lst [.non, .str "sum", .str "inverse"])) L2 = some (.lst [.non, .str "sum", .str "inverse"]) := upd_same
    replace S1 := S1.same sb
    generalize upd G4 L2 (.lst [.non, .str "sum", .str "inverse"]) = G5 at S1 hL2 ⊢
    obtain ⟨x5, y5, hl5⟩ := S1.at_
    refine ⟨_, rfl, l, 3, x5, y5, rfl, by decide, by decide, hl5, fun d4 x6 y6 d40 d41 => ?_⟩
    have hL2' := (SameX.upd (o := .lst [.int x6, .int y6])) _ _ (ne_draw S1.at_ hL2 no_nss) hL2
    replace S1 := S1.draw (x := x6) (y := y6)
    generalize upd G5 l (.lst [.int x6, .int y6]) = G6 at S1 hL2' ⊢
    obtain ⟨j2, rfl⟩ := nat_of d40
    have hj2 : j2 < 3 := by omega
    refine ⟨L2, _, (j2 : Int), wv (pick3 j2), rfl, rfl, SqL.of hL2', at_of (j := j2) rfl (pick3_at hj2), by show 2 ≤ sizeLine; omega, fun tw ntw => ?_⟩
    generalize pick3 j1 = a
    generalize pick3 j2 = b
    have sc2 := same_upd (o := .tup [wv a, wv b]) ntw
    have htw : (upd G6 tw (.tup [wv a, wv b])) tw = some (.tup [wv a, wv b]) := upd_same
    replace S1 := S1.same sc2
    generalize upd G6 tw (.tup [wv a, wv b]) = G7 at S1 htw ⊢
    clear sa sb sc2 hL1 hL1' hL2 hL2' hl3 hl5 S0 nL1 nL2 ntw
    -- the rules
    refine ⟨_, rfl, tw, rfl, ⟨_, SqT.of htw⟩, fun Dr nDr => ?_⟩
    have frD := S1.free hl nDr
    have sd := same_upd (o := .lst []) nDr
    refine walk_it (walk_tup (K := K) (a := tw) (xs := [wv a, wv b])) (fun i G => St l H G ∧ G tw = some (.tup [wv a, wv b]) ∧ ∃ rs, G Dr = some (.lst rs) ∧ rs.length = i ∧ ∀ (j : Nat) v, rs[j]? = some v → RVal D G v (wa a b j)) ⟨S1.same sd, sd _ _ htw, [], upd_same, rfl, fun j v h => by cases h⟩
      (fun i G _ ⟨_, h, _⟩ => SqT.of h) (fun i v G G' hi ⟨S, htw, rs, hD, rl, rv⟩ ⟨eG, hx⟩ => ?_) (fun G ⟨S, htw, rs, hD, rl, rv⟩ => ?_)
    · subst eG
      obtain ⟨i2, rfl⟩ := word_at hx
      have twD : tw ≠ Dr := fun z => by rw [z, hD] at htw; cases htw
      have fin : ∀ (u : V) (G : Hp), St l H G → G tw = some (.tup [wv a, wv b]) → G Dr = some (.lst rs) → (∀ (j : Nat) v, rs[j]? = some v → RVal D G v (wa a b j)) → RVal D G u (wa a b i) →
          ∃ acc, G Dr = some (.lst acc) ∧ acc.length < sizeLine ∧ St l H (upd G Dr (.lst (acc ++ [u]))) ∧ (upd G Dr (.lst (acc ++ [u]))) tw = some (.tup [wv a, wv b]) ∧ ∃ rs, (upd G Dr (.lst (acc ++ [u]))) Dr = some (.lst rs) ∧ rs.length = i + 1 ∧ ∀ (j : Nat) v, rs[j]? = some v → RVal D (upd G Dr (.lst (acc ++ [u]))) v (wa a b j) := fun u G S h1 h2 h3 h4 => by
        refine ⟨rs, h2, by omega, S.grow frD, by rw [upd_ne twD]; exact h1, rs ++ [u], upd_same, by rw [List.length_append, rl]; rfl, fun j v hj => ?_⟩
        by_cases lt : j < rs.length
        · rw [List.getElem?_append_left lt] at hj
          exact (h3 j v hj).keep h2
        · have e : j = rs.length := by
            have := (List.getElem?_eq_some_iff.mp hj).1
            rw [List.length_append] at this
            simp only [List.length_cons, List.length_nil] at this
            omega
          subst e
          rw [List.getElem?_append_right (Nat.le_refl _), Nat.sub_self] at hj
          cases hj
          rw [rl]
          exact h4.keep h2
      refine ⟨rfl, yes_go (iteT ?_)⟩
      cases ew : wa a b i with
      | none =>
        rw [ew] at fin
        exact ⟨_, rfl, rfl, _, rfl, if_pos' rfl (if_pos' rfl ⟨_, rfl, fin _ G' S htw hD rv .non⟩)⟩
      | some w' =>
        rw [ew] at fin
        obtain ⟨x7, y7, hl7⟩ := S.at_
        refine ⟨_, rfl, rfl, _, rfl, if_neg' rfl ⟨_, rfl, l, 2, x7, y7, rfl, by decide, by decide, hl7, fun d5 x8 y8 d50 d51 => ⟨rfl, _, rfl, ?_⟩⟩⟩
        have X8 : SameX l G' (upd G' l (.lst [.int x8, .int y8])) := .upd
        have htw8 := X8 _ _ (ne_draw S.at_ htw (fun _ _ z => by cases z)) htw
        have hD8 := X8 Dr (.lst rs) (fun z => frD.2 z.symm) hD
        have rv8 : ∀ (j : Nat) v, rs[j]? = some v → RVal D (upd G' l (.lst [.int x8, .int y8])) v (wa a b j) := fun j v h => (rv j v h).draw S.at_ X8
        replace S := S.draw (x := x8) (y := y8)
        generalize upd G' l (.lst [.int x8, .int y8]) = G8 at S htw8 hD8 rv8 ⊢
        refine ite2 (fun _ => ⟨_, rfl, fin _ G8 S htw8 hD8 rv8 (.word w')⟩) (fun _ => ⟨_, rfl, fun q dx hq hd ne => ⟨q, dx, _, rfl, upd_same, .inl ⟨w', rfl, fun H' s => ⟨rfl, ?_⟩⟩⟩⟩)
        have st : Same G8 (upd H' q (.ins D dx (rf w'))) := same_put ((same_new hq hd).trans s) hq
        exact fin _ _ (S.same st) (st _ _ htw8) (st _ _ hD8) (fun j v h => (rv8 j v h).same st) (.rul ⟨dx, upd_same⟩)
    · have h0 : ∃ r0, rs[0]? = some r0 := ⟨_, List.getElem?_eq_getElem (by rw [rl]; exact Nat.zero_lt_succ 1)⟩
      have h1 : ∃ r1, rs[1]? = some r1 := ⟨_, List.getElem?_eq_getElem (by rw [rl]; exact Nat.lt_succ_self 1)⟩
      obtain ⟨r0, h0⟩ := h0
      obtain ⟨r1, h1⟩ := h1
      have v0 : RVal D G r0 a := rv 0 r0 h0
      have v1 : RVal D G r1 b := rv 1 r1 h1
      refine ⟨_, rfl, _, rfl, _, rfl, Dr, _, _, _, rfl, rfl, SqL.of hD, at_of (j := 0) rfl h0, _, rfl, Dr, _, _, _, rfl, rfl, SqL.of hD, at_of (j := 1) rfl h1, by show 2 ≤ sizeLine; omega, fun ra nra => ?_⟩
      have sr := same_upd (o := .tup [r0, r1]) nra
      refine ⟨way, num, ra, r0, r1, a, b, rfl, hw, hn, upd_same, v0.same sr, v1.same sr, fun q dx G9 rsf a' b' s9 pi alt => ?_⟩
      have S9 := (S.same sr).same s9
      replace htw := (sr.trans s9) _ _ htw
      clear v0 v1 h0 h1 rv rl hD sr s9 nra S1 frD sd nDr S
      -- the size and the controls
      refine ⟨_, rfl, _, rfl, .inl ⟨_, rfl, _, _, rfl, rfl, (by show (0 : Int) < 3; decide), _, rfl, .inl ⟨_, rfl, _, _, rfl, rfl, (by show (0 : Int) < 2; decide), _, rfl, .inl ⟨_, rfl, _, _, rfl, rfl, (by show (0 : Int) < 2; decide), by show 4 ≤ sizeLine; omega, fun Ls nLs => ?_⟩⟩⟩⟩
      have s10 := same_upd (o := .lst [.int (num : Int), .int ((num : Int) % 3), .int ((num : Int) % 2), .int ((num : Int) % 2)]) nLs
      refine ⟨_, rfl, Ls, _, (way : Int), .int (szOf way num : Nat), rfl, rfl, SqL.of upd_same, at_of (j := way) rfl (sz_at hw), ?_⟩
      refine ⟨by show 3 ≤ sizeLine; omega, fun Lc nLc => ⟨_, rfl, _, rfl, _, _, rfl, SqL.of upd_same, fun cl ncl => ?_⟩⟩
      have z4 := sz4 (w := way) hn
      have ec : cutV [V.str "g", .str "h", .str "a1"] none (some ((szOf way num : Nat) : Int)) = (ctl (szOf way num)).map V.str := by
        rw [cut_to (show szOf way num ≤ 3 by omega)]
        unfold ctl
        rw [List.map_take]
        rfl
      have s11 := (s10.trans (same_upd (o := .lst [.str "g", .str "h", .str "a1"]) nLc)).trans (same_upd (o := .lst (cutV [V.str "g", .str "h", .str "a1"] none (some ((szOf way num : Nat) : Int)))) ncl)
      have hcl : (upd (upd (upd G9 Ls (.lst [.int (num : Int), .int ((num : Int) % 3), .int ((num : Int) % 2), .int ((num : Int) % 2)])) Lc (.lst [.str "g", .str "h", .str "a1"])) cl (.lst (cutV [V.str "g", .str "h", .str "a1"] none (some ((szOf way num : Nat) : Int))))) cl = some (.lst ((ctl (szOf way num)).map V.str)) := by rw [upd_same, ec]
      generalize upd (upd (upd G9 Ls (.lst [.int (num : Int), .int ((num : Int) % 3), .int ((num : Int) % 2), .int ((num : Int) % 2)])) Lc (.lst [.str "g", .str "h", .str "a1"])) cl (.lst (cutV [V.str "g", .str "h", .str "a1"] none (some ((szOf way num : Nat) : Int)))) = G10 at s11 hcl ⊢
      clear s10 nLs nLc ncl ec
      replace htw := s11 _ _ htw
      replace pi := pi.same s11
      have alt2 : (way < 2 ∧ rsf = [] ∧ a' = none ∧ b' = none) ∨ (2 ≤ way ∧ a'.map Prod.fst = a ∧ b'.map Prod.fst = b ∧ ∃ rq, rsf = [(("_rules" : Str), V.ref rq)] ∧ Ruls D G10 rq a' b') := by
        rcases alt with h | ⟨h1, h2, h3, rq, h4, h5⟩
        · exact .inl h
        · exact .inr ⟨h1, h2, h3, rq, h4, h5.same s11⟩
      have S10 := S9.same s11
      clear alt s11 S9
      -- the options
      refine ⟨by show 1 ≤ sizeLine; omega, fun Lo nLo => ⟨_, rfl, by show 2 ≤ sizeLine; omega, fun t1 nt1 => ⟨t1, _, rfl, .inr (SqT.of upd_same), rfl, rfl, .inr ⟨_, rfl, Lo, _, _, rfl, rfl, same_upd nt1 _ _ upd_same, (rep_ok _ [V.str "directed"] (by show 1 ≤ 100; decide)).1, (rep_ok _ [V.str "directed"] (by show 1 ≤ 100; decide)).2.1, (rep_ok _ [V.str "directed"] (by show 1 ≤ 100; decide)).2.2, fun O0 nO0 => ?_⟩⟩⟩⟩
      have e13 : (if false = true then !inV (.int (way : Int)) [.int 1, .int 3] else inV (.int (way : Int)) [.int 1, .int 3]) = dirOf way := (if_neg Bool.false_ne_true).trans (in13 hw)
      rw [e13, rep_b]
      have eO : (if dirOf way = true then [V.str "directed"] else []) = (optU way a b 0).map V.str := by
        unfold optU
        cases dirOf way <;> rfl
      rw [eO]
      have s12 := ((same_upd (o := .lst [.str "directed"]) nLo).trans (same_upd (o := .tup [.int 1, .int 3]) nt1)).trans (same_upd (o := .lst ((optU way a b 0).map V.str)) nO0)
      have hO : (upd (upd (upd G10 Lo (.lst [.str "directed"])) t1 (.tup [.int 1, .int 3])) O0 (.lst ((optU way a b 0).map V.str))) O0 = some (.lst ((optU way a b 0).map V.str)) := upd_same
      generalize upd (upd (upd G10 Lo (.lst [.str "directed"])) t1 (.tup [.int 1, .int 3])) O0 (.lst ((optU way a b 0).map V.str)) = G11 at s12 hO ⊢
      refine ⟨by show 2 ≤ sizeLine; omega, fun Lz nLz => ?_⟩
      have sz := same_upd (o := .lst [.str "row", .str "side"]) nLz
      have hLz : (upd G11 Lz (.lst [.str "row", .str "side"])) Lz = some (.lst [.str "row", .str "side"]) := upd_same
      replace s12 := s12.trans sz
      replace hO := sz _ _ hO
      generalize upd G11 Lz (.lst [.str "row", .str "side"]) = G12 at s12 hO hLz ⊢
      clear sz nLz nLo nO0 nt1 eO
      have htw12 := s12 _ _ htw
      refine ⟨_, rfl, Lz, tw, _, _, rfl, SqL.of hLz, SqT.of htw12, for_it (walk_zipM (K := K) (a := Lz) (b := tw) (xs := [V.str "row", .str "side"]) (ys := [wv a, wv b]) (n := 2) rfl rfl) (fun i σ G => (∃ v4 v10 O, σ = [some (.ref l), some (.int (way : Int)), some (.int (num : Int)), some (.ref tw), v4, some (.ref Dr), some (.ref q), some (.int (szOf way num : Nat)), some (.ref cl), some (.ref O), v10, none, none, none, none, none] ∧ G O = some (.lst ((optU way a b i).map V.str))) ∧ Same G12 G)
        ⟨⟨none, none, O0, rfl, hO⟩, Same.refl _⟩ (fun i σ G _ ⟨_, s⟩ => ⟨SqL.of (s _ _ hLz), SqT.of (s _ _ htw12)⟩) (fun i v σ G G' hi ⟨⟨v4, v10, O, e, hO⟩, s⟩ ⟨T0, u, v', ex, nT, eG, hu, hv⟩ => ?_) (fun σ G ⟨⟨v4, v10, O, e, hO⟩, s⟩ => ?_)⟩
      · subst e ex eG
        obtain ⟨_, rfl⟩ := way_at hu
        obtain ⟨_, rfl⟩ := word_at hv
        have sT := same_upd (o := .tup [V.str (R4.way i), wv (wa a b i)]) nT
        have hO1 := sT _ _ hO
        have oL := optU_len (w := way) (a := a) (b := b) i
        refine ⟨T0, _, rfl, SqT.of upd_same, rfl, _, _, rfl, _, _, rfl, rfl, ?_⟩
        refine ⟨_, rfl, _, rfl, _, rfl, by show 2 ≤ sizeLine; omega, fun L nL => ?_⟩
        have sL := same_upd (o := .lst [V.str (R4.way i), wv (wa a b i)]) nL
        have hL : (upd (upd G T0 (.tup [V.str (R4.way i), wv (wa a b i)])) L (.lst [V.str (R4.way i), wv (wa a b i)])) L = some (.lst [V.str (R4.way i), wv (wa a b i)]) := upd_same
        have hO2 := sL _ _ hO1
        have s2 := s.trans (sT.trans sL)
        generalize upd (upd G T0 (.tup [V.str (R4.way i), wv (wa a b i)])) L (.lst [V.str (R4.way i), wv (wa a b i)]) = G2 at s2 hL hO2 ⊢
        have go : ∀ (c : Bool), (if c = true then [V.str (R4.way i), wv (wa a b i)] else []) = (if 1 < way then wayA (R4.way i) (wa a b i) else []).map V.str → ∀ R, G2 R = none → ∃ x y xs ys, V.ref O = .ref x ∧ V.ref R = .ref y ∧ (upd G2 R (.lst (List.replicate (if c = true then (1 : Int) else 0).toNat [V.str (R4.way i), wv (wa a b i)]).flatten)) x = some (.lst xs) ∧ (upd G2 R (.lst (List.replicate (if c = true then (1 : Int) else 0).toNat [V.str (R4.way i), wv (wa a b i)]).flatten)) y = some (.lst ys) ∧ xs.length + ys.length ≤ sizeLine ∧
            ∀ M, (upd G2 R (.lst (List.replicate (if c = true then (1 : Int) else 0).toNat [V.str (R4.way i), wv (wa a b i)]).flatten)) M = none → (upd (upd G2 R (.lst (List.replicate (if c = true then (1 : Int) else 0).toNat [V.str (R4.way i), wv (wa a b i)]).flatten)) M (.lst (xs ++ ys))) M = some (.lst ((optU way a b (i + 1)).map V.str)) ∧ Same G12 (upd (upd G2 R (.lst (List.replicate (if c = true then (1 : Int) else 0).toNat [V.str (R4.way i), wv (wa a b i)]).flatten)) M (.lst (xs ++ ys))) := fun c ec R nR => by
          rw [rep_b, ec]
          have sR := same_upd (o := .lst ((if 1 < way then wayA (R4.way i) (wa a b i) else []).map V.str)) nR
          refine ⟨O, R, _, _, rfl, rfl, sR _ _ hO2, upd_same, ?_, fun M nM => ⟨?_, (s2.trans sR).trans (same_upd nM)⟩⟩
          · rw [← List.length_append, ← List.map_append, List.length_map]
            have := optU_len (w := way) (a := a) (b := b) (i + 1)
            exact Nat.le_trans this (by omega)
          · rw [upd_same, ← List.map_append]
            rfl
        refine ⟨_, rfl, _, _, rfl, rfl, _, rfl, ?_⟩
        by_cases hw1 : 1 < way
        · refine if_pos' (decide_eq_true (by omega)) ⟨_, rfl, rfl, .inr ⟨_, rfl, L, _, _, rfl, rfl, hL, (rep_ok _ [V.str (R4.way i), wv (wa a b i)] (by show 2 ≤ 100; decide)).1, (rep_ok _ [V.str (R4.way i), wv (wa a b i)] (by show 2 ≤ 100; decide)).2.1, (rep_ok _ [V.str (R4.way i), wv (wa a b i)] (by show 2 ≤ 100; decide)).2.2, fun R nR => ?_⟩⟩
          obtain ⟨x, y, xs, ys, e1, e2, e3, e4, e5, e6⟩ := go (!decide (wv (wa a b i) = .non)) (by rw [if_pos hw1]; cases wa a b i <;> rfl) R nR
          exact ⟨x, y, xs, ys, e1, e2, e3, e4, e5, fun M nM => ⟨⟨_, _, M, rfl, (e6 M nM).1⟩, (e6 M nM).2⟩⟩
        · refine if_neg' (decide_eq_false (by omega)) (.inr ⟨_, rfl, L, _, _, rfl, rfl, hL, (rep_ok _ [V.str (R4.way i), wv (wa a b i)] (by show 2 ≤ 100; decide)).1, (rep_ok _ [V.str (R4.way i), wv (wa a b i)] (by show 2 ≤ 100; decide)).2.1, (rep_ok _ [V.str (R4.way i), wv (wa a b i)] (by show 2 ≤ 100; decide)).2.2, fun R nR => ?_⟩)
          obtain ⟨x, y, xs, ys, e1, e2, e3, e4, e5, e6⟩ := go false (by rw [if_neg hw1]; rfl) R nR
          exact ⟨x, y, xs, ys, e1, e2, e3, e4, e5, fun M nM => ⟨⟨_, _, M, rfl, (e6 M nM).1⟩, (e6 M nM).2⟩⟩
      · subst e
        have s13 := s12.trans s
        clear s
        replace htw := s13 _ _ htw
        replace hcl := s13 _ _ hcl
        replace pi := pi.same s13
        have alt3 : (way < 2 ∧ rsf = [] ∧ a' = none ∧ b' = none) ∨ (2 ≤ way ∧ a'.map Prod.fst = a ∧ b'.map Prod.fst = b ∧ ∃ rq, rsf = [(("_rules" : Str), V.ref rq)] ∧ Ruls D G rq a' b') := by
          rcases alt2 with h | ⟨h1, h2, h3, rq, h4, h5⟩
          · exact .inl h
          · exact .inr ⟨h1, h2, h3, rq, h4, h5.same s13⟩
        have SG := S10.same s13
        clear s12 s13 alt2 S10 htw12 hLz
        have oL := optU_len (w := way) (a := a) (b := b) 2
        have o12 : ∀ z ∈ optU way a b 2, z.length ≤ 12 := fun z hz => (optU_pos hz).2
        have cLen := ctl_len z4
        have c12 : ∀ z ∈ ("path" : Str) :: "k" :: ctl (szOf way num), z.length ≤ 12 := by
          have h : ∀ n, n < 4 → ∀ z ∈ ("path" : Str) :: "k" :: ctl n, z.length ≤ 12 := by decide +kernel
          exact h _ z4
        have so := sum_le o12
        have sp := sum_le c12
        have jo := join_le (a := " ") (optU way a b 2)
        have jp := join_le (a := " ") (("path" : Str) :: "k" :: ctl (szOf way num))
        have one : (Str.ofString " ").length = 1 := by decide +kernel
        have l4 : (Str.ofString " : ").length = 3 := by decide +kernel
        have cl2 : (("path" : Str) :: "k" :: ctl (szOf way num)).length ≤ 6 := by show (ctl (szOf way num)).length + 1 + 1 ≤ 6; omega
        rw [one] at jo jp
        refine ⟨⟨_, rfl⟩, by show 2 ≤ sizeLine; omega, fun Lp nLp => ?_⟩
        have s1 := same_upd (o := .lst [.str "path", .str "k"]) nLp
        refine ⟨_, rfl, Lp, cl, _, _, rfl, rfl, upd_same, s1 _ _ hcl, ?_, fun M nM => ?_⟩
        · rw [List.length_map, cLen]
          show 2 + _ ≤ _
          omega
        have s2 := s1.trans (same_upd (o := .lst ([.str "path", .str "k"] ++ (ctl (szOf way num)).map V.str)) nM)
        have hM : (upd (upd G Lp (.lst [.str "path", .str "k"])) M (.lst ([.str "path", .str "k"] ++ (ctl (szOf way num)).map V.str))) M = some (.lst ((("path" : Str) :: "k" :: ctl (szOf way num)).map V.str)) := upd_same
        generalize upd (upd G Lp (.lst [.str "path", .str "k"])) M (.lst ([.str "path", .str "k"] ++ (ctl (szOf way num)).map V.str)) = G2 at s2 hM ⊢
        have hO2 := s2 _ _ hO
        refine ⟨" ", M, _, rfl, rfl, .inl (SqL.of hM), by rw [one]; omega, ?_⟩
        refine ⟨⟨_, rfl⟩, _, rfl, " ", O, _, rfl, rfl, .inl (SqL.of hO2), by rw [one]; omega, _, _, rfl, rfl, by rw [l4]; omega, ?_⟩
        refine ⟨_, rfl, by show 0 ≤ sizeLine; omega, fun e0 ne0 => ?_⟩
        have se := same_upd (o := .lst []) ne0
        refine ⟨O, e0, _, rfl, rfl, se _ _ hO2, upd_same, .inr ⟨_, rfl, _, _, rfl, rfl, _, _, rfl, rfl, ?_, ?_⟩⟩
        · split
          · rw [app_len, l4]; omega
          · rw [len0]; omega
        have hline := pathT_law (n := num) (a := a) (b := b) (a' := a') (b' := b') (w := way) (by
          rcases alt3 with ⟨h1, _, h2, h3⟩ | ⟨h1, h2, h3, _⟩
          · exact .inl ⟨h1, h2, h3⟩
          · exact .inr ⟨h1, h2, h3⟩)
        have lok := line_ok way hw num hn a b
        have et : Txt.join " " (("path" : Str) :: "k" :: ctl (szOf way num)) ++ (if (!((optU way a b 2).map V.str).isEmpty) = true then Str.ofString " : " ++ Txt.join " " (optU way a b 2) else Str.empty) = Txt.join " " (("path" : Str) :: "k" :: ctlOf way num) ++ (if optU way a b 2 = [] then Str.empty else (" : " : Str) ++ Txt.join " " (optU way a b 2)) := by
          rw [ctlOf_sz]
          cases optU way a b 2 with
          | nil => rfl
          | cons g r => rfl
        rw [et]
        rw [hline] at pi
        generalize Txt.join " " (("path" : Str) :: "k" :: ctlOf way num) ++ (if optU way a b 2 = [] then Str.empty else (" : " : Str) ++ Txt.join " " (optU way a b 2)) = tx at pi lok ⊢
        have s3 := s2.trans se
        generalize upd G2 e0 (.lst []) = G3 at s3 ⊢
        clear s1 s2 se hM hO2 ne0 nM nLp so sp jo jp cl2 c12 o12 et
        -- the plain order and the due ones
        have e2 : (2 : Int) + ((szOf way num : Nat) : Int) = ((szOf way num + 2 : Nat) : Int) := by omega
        refine ⟨_, rfl, _, _, rfl, rfl, _, rfl, RgOk.of_le (Int.le_refl _) (by omega) (by decide) (by omega), fun al nal => ?_⟩
        rw [e2, rg_upto]
        have s4 := s3.trans (same_upd (o := .tup ((upto (szOf way num + 2)).map V.int)) nal)
        have hal : (upd G3 al (.tup ((upto (szOf way num + 2)).map V.int))) al = some (.tup ((upto (szOf way num + 2)).map V.int)) := upd_same
        generalize upd G3 al (.tup ((upto (szOf way num + 2)).map V.int)) = G4 at s4 hal ⊢
        refine ⟨_, rfl, by show 1 ≤ sizeLine; omega, fun La nLa => ?_⟩
        have sA := same_upd (o := .lst [.ref al]) nLa
        refine catA_ok (n := szOf way num + 2) rfl (sA _ _ hal) (by omega) (by omega) fun qq G5 s5 hqq => ⟨by show 1 ≤ sizeLine; omega, fun Lb nLb => ⟨_, rfl, by show 2 ≤ sizeLine; omega, fun t2 nt2 => ⟨t2, _, rfl, .inr (SqT.of upd_same), rfl, rfl, .inr ⟨_, rfl, Lb, _, _, rfl, rfl, same_upd nt2 _ _ upd_same, (rep_ok _ [V.ref qq] (by show 1 ≤ 100; decide)).1, (rep_ok _ [V.ref qq] (by show 1 ≤ 100; decide)).2.1, (rep_ok _ [V.ref qq] (by show 1 ≤ 100; decide)).2.2, fun R nR => ?_⟩⟩⟩⟩
        have e13n : (if true = true then !inV (.int (way : Int)) [.int 1, .int 3] else inV (.int (way : Int)) [.int 1, .int 3]) = !dirOf way := (if_pos rfl).trans (congrArg _ (in13 hw))
        rw [e13n, rep_b]
        have s6 := s5.trans (((same_upd (o := .lst [.ref qq]) nLb).trans (same_upd (o := .tup [.int 1, .int 3]) nt2)).trans (same_upd (o := .lst (if (!dirOf way) = true then [V.ref qq] else [])) nR))
        have hLa := s6 _ _ (upd_same (H := G4) (a := La) (o := .lst [.ref al]))
        have hR : (upd (upd (upd G5 Lb (.lst [.ref qq])) t2 (.tup [.int 1, .int 3])) R (.lst (if (!dirOf way) = true then [V.ref qq] else []))) R = some (.lst (if (!dirOf way) = true then [V.ref qq] else [])) := upd_same
        have hqq6 := (((same_upd (o := .lst [.ref qq]) nLb).trans (same_upd (o := .tup [.int 1, .int 3]) nt2)).trans (same_upd (o := .lst (if (!dirOf way) = true then [V.ref qq] else [])) nR)) _ _ hqq
        have s7 := s4.trans (sA.trans s6)
        have hal6 := s6 _ _ (sA _ _ hal)
        generalize upd (upd (upd G5 Lb (.lst [.ref qq])) t2 (.tup [.int 1, .int 3])) R (.lst (if (!dirOf way) = true then [V.ref qq] else [])) = G6 at s7 hLa hR hqq6 hal6 ⊢
        refine ⟨La, R, _, _, rfl, rfl, hLa, hR, by split <;> (simp only [List.length_cons, List.length_nil]; omega), fun Md nMd => ?_⟩
        have due : ∃ as, LTs (upd G6 Md (.lst ([V.ref al] ++ (if (!dirOf way) = true then [V.ref qq] else [])))) Md (pathO (dirOf way) (szOf way num + 2)) as := by
          cases dirOf way with
          | true =>
            refine ⟨[al], upd_same, rfl, fun i v h => ?_⟩
            match i, h with
            | 0, h => cases h; exact ⟨_, rfl, same_upd nMd _ _ hal6⟩
          | false =>
            refine ⟨[al, qq], upd_same, rfl, fun i v h => ?_⟩
            match i, h with
            | 0, h => cases h; exact ⟨_, rfl, same_upd nMd _ _ hal6⟩
            | 1, h => cases h; exact ⟨_, rfl, same_upd nMd _ _ hqq6⟩
        obtain ⟨as, due⟩ := due
        replace s7 := s7.trans (same_upd (o := .lst ([V.ref al] ++ (if (!dirOf way) = true then [V.ref qq] else []))) nMd)
        generalize upd G6 Md (.lst ([V.ref al] ++ (if (!dirOf way) = true then [V.ref qq] else []))) = G7 at s7 due ⊢
        clear hLa hR hqq6 hal6 s6 nR nt2 nLb hqq s5 sA nLa hal nal s4 s3 e13 e13n nMd
        replace pi := pi.same s7
        replace htw := s7 _ _ htw
        replace hcl := s7 _ _ hcl
        have alt4 : (way < 2 ∧ rsf = [] ∧ a' = none ∧ b' = none) ∨ (2 ≤ way ∧ a'.map Prod.fst = a ∧ b'.map Prod.fst = b ∧ ∃ rq, rsf = [(("_rules" : Str), V.ref rq)] ∧ Ruls D G7 rq a' b') := by
          rcases alt3 with h | ⟨h1, h2, h3, rq, h4, h5⟩
          · exact .inl h
          · exact .inr ⟨h1, h2, h3, rq, h4, h5.same s7⟩
        have S7 := SG.same s7
        clear alt3 SG s7 hO
        -- the class
        have pk : PKnd K DK tp tg fx gE C0 (clsOf C0 C1 C2 C3 way) := match way, hw with
          | 0, _ => p0
          | 1, _ => p1
          | 2, _ => p2
          | 3, _ => p3
        have con : ∃ u, Con K (clsOf C0 C1 C2 C3 way) "DIRECTED" (.bl (dirOf way)) u := match way, hw with
          | 0, _ => c0.con
          | 1, _ => c1
          | 2, _ => c2
          | 3, _ => c3
        have mr : 2 ≤ way → Meth K (clsOf C0 C1 C2 C3 way) "rules" fR := match way, hw with
          | 0, _ => fun h => absurd h (by decide)
          | 1, _ => fun h => absurd h (by decide)
          | 2, _ => fun _ => r2
          | 3, _ => fun _ => r3
        obtain ⟨cu, con⟩ := con
        obtain ⟨pa, ca, oa, hp, hpa, hca, as2, hoa, ol2, oi2⟩ := id pi
        generalize clsOf C0 C1 C2 C3 way = C at pk con mr hp pi
        rw [ctlOf_sz] at hpa hca ol2 oi2 pi
        rw [ctl_len z4] at ol2 oi2
        have kl : ∀ r : List (Str × V), (r = [] ∨ ∃ rq, r = [(("_rules" : Str), V.ref rq)]) → ∃ fs, fs = kf (.str "k") (.ref pa) (.ref ca) (.bl true) (.ref oa) (.str tx) ++ r ∧ fs.lookup ("exchanges" : Str) = none ∧ fs.lookup ("DIRECTED" : Str) = none ∧ fs.lookup ("rules" : Str) = none := fun r h => by
          refine ⟨_, rfl, ?_⟩
          rcases h with rfl | ⟨rq, rfl⟩
          · exact ⟨by kernel_rfl, by kernel_rfl, by kernel_rfl⟩
          · exact ⟨by kernel_rfl, by kernel_rfl, by kernel_rfl⟩
        obtain ⟨fs, efs, lx, ld, lru⟩ := kl rsf (by
          rcases alt4 with ⟨_, h, _⟩ | ⟨_, _, _, rq, h, _⟩
          · exact .inl h
          · exact .inr ⟨rq, h⟩)
        have lo : fs.lookup ("orders" : Str) = some (.ref oa) := by rw [efs]; exact kf_ords' ..
        have lp' : fs.lookup ("pins" : Str) = some (.ref pa) := by rw [efs]; exact kf_pins' ..
        have lc : fs.lookup ("controls" : Str) = some (.ref ca) := by rw [efs]; exact kf_ctl' ..
        have li : fs.lookup ("is_path" : Str) = some (.bl true) := by rw [efs]; exact kf_isp' ..
        have ll : fs.lookup ("_line" : Str) = some (.str tx) := by rw [efs]; exact kf_line' ..
        have lrl : ∀ rq, rsf = [(("_rules" : Str), V.ref rq)] → fs.lookup ("_rules" : Str) = some (.ref rq) := fun rq h => by rw [efs, h]; exact kf_rul' ..
        rw [← efs] at hp
        have kd : ∀ {G'}, Same G7 G' → KndI K DK tp tg G' q tx := fun s => ⟨C, dx, fs, s _ _ hp, pk.kn, ll⟩
        clear efs kl pi
        refine ⟨_, rfl, q, C, dx, fs, rfl, hp, pk, q, _, rfl, kd (.refl _), _, rfl, q, C, dx, _, _, rfl, hp, pk.kn.kc.cl, pk.kn.kc.n2, lp', _, rfl, q, C, dx, _, _, rfl, hp, pk.kn.kc.cl, pk.kn.kc.n3, lc, by show 3 ≤ sizeLine; omega, fun L1 nL1 => ?_⟩
        have s1 := same_upd (o := .lst [.str tx, .ref pa, .ref ca]) nL1
        refine ⟨_, rfl, by show 2 ≤ sizeLine; omega, fun L2 nL2 => ?_⟩
        have s2 := s1.trans (same_upd (o := .lst [.str "a", .str "b"]) nL2)
        refine ⟨_, rfl, L2, cl, _, _, rfl, rfl, upd_same, s2 _ _ hcl, ?_, fun M nM => .inl ⟨_, _, rfl, SqL.of upd_same, fun t5 nt5 => ?_⟩⟩
        · rw [List.length_map, cLen]
          show 2 + _ ≤ _
          omega
        have s3 := s2.trans (same_upd (o := .lst ([.str "a", .str "b"] ++ (ctl (szOf way num)).map V.str)) nM)
        have s4 := s3.trans (same_upd (o := .tup ([.str "a", .str "b"] ++ (ctl (szOf way num)).map V.str)) nt5)
        refine ⟨_, rfl, .inl ⟨cl, _, rfl, SqL.of (s4 _ _ hcl), fun t6 nt6 => ⟨by show 3 ≤ sizeLine; omega, fun L7 nL7 => ?_⟩⟩⟩
        have s5 := same_upd (o := .tup ((ctl (szOf way num)).map V.str)) nt6
        have s6 := same_upd (o := .lst [.str tx, .ref t5, .ref t6]) nL7
        have s7 := s4.trans (s5.trans s6)
        have shp := pk_shp lok z4
        refine ⟨.list [.str tx, .tuple ((("a" : Str) :: "b" :: ctl (szOf way num)).map .str), .tuple ((ctl (szOf way num)).map .str)], .list [.str tx, .tuple ((("a" : Str) :: "b" :: ctl (szOf way num)).map .str), .tuple ((ctl (szOf way num)).map .str)],
          .lst (SqL.of (((same_upd (o := .lst [.str "a", .str "b"]) nL2).trans ((same_upd (o := .lst ([.str "a", .str "b"] ++ (ctl (szOf way num)).map V.str)) nM).trans ((same_upd (o := .tup ([.str "a", .str "b"] ++ (ctl (szOf way num)).map V.str)) nt5).trans (s5.trans s6)))) _ _ upd_same)) (.cons (.str _) (.cons (.tup (SqT.of (s7 _ _ hpa)) (dp_strs _)) (.cons (.tup (SqT.of (s7 _ _ hca)) (dp_strs _)) .nil))),
          .lst (SqL.of upd_same) (.cons (.str _) (.cons (.tup (SqT.of ((s5.trans s6) _ _ upd_same)) (dp_strs (("a" : Str) :: "b" :: ctl (szOf way num)))) (.cons (.tup (SqT.of (s6 _ _ upd_same)) (dp_strs _)) .nil))), shp, shp, _, rfl, if_neg' (by rw [SeqAt.eqv_refl _ (SeqAt.canLay_of_shaped shp)]; rfl) ?_⟩
        generalize upd (upd (upd (upd (upd (upd G7 L1 (.lst [.str tx, .ref pa, .ref ca])) L2 (.lst [.str "a", .str "b"])) M (.lst ([.str "a", .str "b"] ++ (ctl (szOf way num)).map V.str))) t5 (.tup ([.str "a", .str "b"] ++ (ctl (szOf way num)).map V.str))) t6 (.tup ((ctl (szOf way num)).map V.str))) L7 (.lst [.str tx, .ref t5, .ref t6]) = G8 at s7 ⊢
        clear s1 s2 s3 s4 s5 s6 nL1 nL2 nM nt5 nt6 nL7 shp
        -- the exchanges
        have dpo : ∀ {G'}, Same G7 G' → DpAll K G' (as2.map V.ref) ((pathO (dirOf way) (szOf way num + 2)).map iD) := fun s => dp_each as2 _ ol2 fun i q h => let ⟨o, h1, h2⟩ := oi2 i q h; ⟨o, h1, s _ _ h2⟩
        have plen : (pathO (dirOf way) (szOf way num + 2)).length ≤ 2 := by unfold pathO; split <;> simp
        refine ⟨_, rfl, q, C, dx, fs, as2.map V.ref, rfl, s7 _ _ hp, pk, lx, ⟨q, C, dx, fs, oa, rfl, s7 _ _ hp, pk.kn.kc, lo, SqT.of (s7 _ _ hoa)⟩, by rw [List.length_map, ol2]; omega, fun Dxc nDxc => ?_⟩
        have sD := s7.trans (same_upd (o := .lst (as2.map V.ref)) nDxc)
        refine ⟨_, rfl, .list ((pathO (dirOf way) (szOf way num + 2)).map iD), .list ((pathO (dirOf way) (szOf way num + 2)).map iD), .lst (SqL.of upd_same) (dpo sD), (due.same sD).dp, osL_shp _, osL_shp _, _, rfl, if_neg' (by rw [SeqAt.eqv_refl _ (osL_lay _)]; rfl) ?_⟩
        generalize upd G8 Dxc (.lst (as2.map V.ref)) = G9 at sD ⊢
        clear dpo plen ol2 oi2 nDxc s7
        -- is_path, DIRECTED
        refine ⟨_, rfl, q, C, dx, _, _, rfl, sD _ _ hp, pk.kn.kc.cl, pk.kn.kc.n4, li, _, _, rfl, rfl, _, rfl, if_neg' rfl ?_⟩
        refine ⟨_, rfl, q, C, dx, fs, _, _, rfl, sD _ _ hp, pk.kn.kc.cl, con, ld, _, rfl, by show 2 ≤ sizeLine; omega, fun t2 nt2 => ⟨t2, _, rfl, .inr (SqT.of upd_same), rfl, rfl, rfl, _, rfl, ?_⟩⟩
        have e13 : (if false = true then !inV (.int (way : Int)) [.int 1, .int 3] else inV (.int (way : Int)) [.int 1, .int 3]) = dirOf way := (if_neg Bool.false_ne_true).trans (in13 hw)
        rw [e13]
        refine if_neg' (by rw [decide_eq_true rfl]; rfl) ?_
        have sE := sD.trans (same_upd (o := .tup [.int 1, .int 3]) nt2)
        generalize upd G9 t2 (.tup [.int 1, .int 3]) = G10 at sE ⊢
        clear sD nt2 e13
        -- the names that have a word
        have htwE := sE _ _ htw
        refine ⟨by show 2 ≤ sizeLine; omega, fun Lz nLz => ?_⟩
        have sz := same_upd (o := .lst [.str "row", .str "side"]) nLz
        have hLz : (upd G10 Lz (.lst [.str "row", .str "side"])) Lz = some (.lst [.str "row", .str "side"]) := upd_same
        replace htwE := sz _ _ htwE
        replace sE := sE.trans sz
        generalize upd G10 Lz (.lst [.str "row", .str "side"]) = G11 at sE htwE hLz ⊢
        clear sz nLz
        refine ⟨_, rfl, Lz, tw, _, _, rfl, SqL.of hLz, SqT.of htwE, fun Dn nDn => ?_⟩
        refine walk_it (walk_zipM (K := K) (a := Lz) (b := tw) (xs := [V.str "row", .str "side"]) (ys := [wv a, wv b]) (n := 2) rfl rfl) (fun i G => Same G11 G ∧ G Dn = some (.lst ((nmU a b i).map V.str))) ⟨same_upd nDn, upd_same⟩ (fun i G _ ⟨s, _⟩ => ⟨SqL.of (s _ _ hLz), SqT.of (s _ _ htwE)⟩) (fun i v G G' hi ⟨s, hD⟩ ⟨T0, u, v', ex, nT, eG, hu, hv⟩ => ?_) (fun G ⟨s, hDn⟩ => ?_)
        · subst ex eG
          obtain ⟨_, rfl⟩ := way_at hu
          obtain ⟨_, rfl⟩ := word_at hv
          have sT := same_upd (o := .tup [V.str (R4.way i), wv (wa a b i)]) nT
          have nl := nmU_len a b i
          refine ⟨T0, _, rfl, SqT.of upd_same, rfl, _, _, rfl, _, _, rfl, rfl, rfl, _, rfl, rfl, _, rfl, ?_⟩
          have en : nmU a b (i + 1) = nmU a b i ++ (if (wa a b i).isSome then [R4.way i] else []) := rfl
          rw [en]
          cases ew : wa a b i with
          | none => exact if_neg' rfl ⟨s.trans (ew ▸ sT), by simpa using (ew ▸ sT) _ _ hD⟩
          | some w' =>
            refine if_pos' rfl ⟨_, rfl, _, (ew ▸ sT) _ _ hD, by rw [List.length_map]; omega, same_put (s.trans (ew ▸ sT)) nDn, ?_⟩
            rw [upd_same, List.map_append]
            rfl
        have sF := sE.trans s
        replace htwE := s _ _ htwE
        clear s hLz sE nDn
        refine ⟨_, rfl, _, _, rfl, rfl, _, rfl, ?_⟩
        apply cutH (C := fun G' => Same G G')
        case body =>
          intro nxt
          by_cases hw1 : 1 < way
          · obtain ⟨w2, ea, eb, rq, er, ru⟩ : 2 ≤ way ∧ a'.map Prod.fst = a ∧ b'.map Prod.fst = b ∧ ∃ rq, rsf = [(("_rules" : Str), V.ref rq)] ∧ Ruls D G7 rq a' b' := by
              rcases alt4 with ⟨h, _⟩ | h
              · omega
              · exact h
            refine if_pos' (decide_eq_true (by omega)) ?_
            refine ⟨_, rfl, q, C, dx, fs, ⟨rfl, sF _ _ hp, ⟨pk.kn.kc.cl, mr w2⟩, lru⟩, q, C, dx, fs, rq, rKvs a' b', rfl, sF _ _ hp, pk.kn.kc, lrl rq er, sF _ _ ru.at_, fun r H' sr nr hr' => ⟨r, _, rfl, ⟨hr', trivial⟩, fun od => ⟨r, od, rfl, .inl ⟨_, upd_same, fun Dk nDk => ?_⟩⟩⟩⟩
            have s1 : Same G (upd H' r (.frz od (.dK (rKvs a' b')))) := same_put sr nr
            have hrz : (upd H' r (.frz od (.dK (rKvs a' b')))) r = some (.frz od (.dK (rKvs a' b'))) := upd_same
            generalize upd H' r (.frz od (.dK (rKvs a' b'))) = G2 at s1 hrz nDk ⊢
            have kl : (rKvs a' b').length ≤ 2 := by rcases a' with _ | ⟨_, _⟩ <;> rcases b' with _ | ⟨_, _⟩ <;> simp [rKvs]
            refine walk_it walk_keys (fun i G3 => Same G2 G3 ∧ G3 Dk = some (.lst (((rKvs a' b').take i).map fun kv => kV kv.1))) ⟨same_upd nDk, upd_same⟩ (fun i G3 _ ⟨s, _⟩ => s _ _ hrz) (fun i y G3 G4 hi ⟨s, hD⟩ ⟨eG, kk, vv, hk, ex⟩ => ?_) (fun G3 ⟨s, hD⟩ => ?_)
            · subst eG ex
              obtain ⟨z, rfl⟩ := rKvs_at hk
              refine ⟨rfl, yes_go (iteT ⟨_, rfl, z, rfl, _, hD, ?_, same_put s nDk, by rw [upd_same, take_succ_at hk, List.map_append]; rfl⟩)⟩
              rw [List.length_map, List.length_take]
              omega
            · rw [List.take_length, nmU_keys, ea, eb] at hD
              have nl := nmU_len a b 2
              refine ⟨Dk, nmU a b 2, rfl, SqL.of hD, by omega, fun ys p pm so np => ?_⟩
              rw [nmU_sorted pm so]
              have sp := same_upd (o := .lst ((nmU a b 2).map V.str)) np
              refine ⟨_, rfl, .list ((nmU a b 2).map .str), .list ((nmU a b 2).map .str), .lst (SqL.of upd_same) (dp_strs _), .lst (SqL.of ((s1.trans (s.trans sp)) _ _ hDn)) (dp_strs _), nm_shp a b, nm_shp a b, _, rfl, if_neg' (by rw [SeqAt.eqv_refl _ (SeqAt.canLay_of_shaped (nm_shp a b))]; rfl) ?_⟩
              have sfin := s1.trans (s.trans sp)
              generalize upd G3 p (.lst ((nmU a b 2).map V.str)) = G9 at sfin ⊢
              exact nxt G9 sfin
          · refine if_neg' (decide_eq_false (by omega)) ?_
            exact nxt G (Same.refl _)
        case next =>
        intro Gq sq
        replace sF := sF.trans sq
        replace htwE := sq _ _ htwE
        clear hDn sq
        refine ⟨by show 2 ≤ sizeLine; omega, fun Lz nLz => ?_⟩
        have sz := same_upd (o := .lst [.str "row", .str "side"]) nLz
        have hLz : (upd Gq Lz (.lst [.str "row", .str "side"])) Lz = some (.lst [.str "row", .str "side"]) := upd_same
        replace htwE := sz _ _ htwE
        replace sF := sF.trans sz
        generalize upd Gq Lz (.lst [.str "row", .str "side"]) = G12 at sF htwE hLz ⊢
        clear sz nLz
        refine ⟨_, rfl, Lz, tw, _, _, rfl, SqL.of hLz, SqT.of htwE, for_it (walk_zipM (K := K) (a := Lz) (b := tw) (xs := [V.str "row", .str "side"]) (ys := [wv a, wv b]) (n := 2) rfl rfl) (fun i σ G => (∃ v4 v10, σ = [some (.ref l), some (.int (way : Int)), some (.int (num : Int)), some (.ref tw), v4, some (.ref Dr), some (.ref q), some (.int (szOf way num : Nat)), some (.ref cl), some (.ref O), v10, some (.str tx), some (.ref al), some (.ref Md), some (.ref Dn), none]) ∧ Same G12 G)
          ⟨⟨_, _, rfl⟩, Same.refl _⟩ (fun i σ G _ ⟨_, s⟩ => ⟨SqL.of (s _ _ hLz), SqT.of (s _ _ htwE)⟩) (fun i v σ G G' hi ⟨⟨v4, v10, e⟩, s⟩ ⟨T0, u, v', ex, nT, eG, hu, hv⟩ => ?_) (fun σ G ⟨⟨v4, v10, e⟩, s⟩ => ?_)⟩
        · subst e ex eG
          obtain ⟨_, rfl⟩ := way_at hu
          obtain ⟨_, rfl⟩ := word_at hv
          have sT := same_upd (o := .tup [V.str (R4.way i), wv (wa a b i)]) nT
          replace s := s.trans sT
          refine ⟨T0, _, rfl, SqT.of upd_same, rfl, _, _, rfl, _, _, rfl, rfl, _, rfl, _, _, rfl, rfl, _, rfl, ?_⟩
          generalize upd G T0 (.tup [V.str (R4.way i), wv (wa a b i)]) = G2 at s ⊢
          by_cases hw1 : 1 < way
          · refine if_pos' (decide_eq_true (by omega)) ⟨_, rfl, rfl, _, rfl, ?_⟩
            cases ew : wa a b i with
            | none => exact if_neg' rfl ⟨⟨_, _, rfl⟩, s⟩
            | some w' =>
              refine if_pos' rfl ?_
              obtain ⟨w2, ea, eb, rq, er, ru⟩ : 2 ≤ way ∧ a'.map Prod.fst = a ∧ b'.map Prod.fst = b ∧ ∃ rq, rsf = [(("_rules" : Str), V.ref rq)] ∧ Ruls D G7 rq a' b' := by
                rcases alt4 with ⟨h, _⟩ | h
                · omega
                · exact h
              obtain ⟨qr, eqr⟩ := rul_at (a' := a') (b' := b') (by rw [ea, eb]; exact ew)
              have s7 := sF.trans s
              refine ⟨_, rfl, q, C, dx, fs, ⟨rfl, s7 _ _ hp, ⟨pk.kn.kc.cl, mr w2⟩, lru⟩, q, C, dx, fs, rq, rKvs a' b', rfl, s7 _ _ hp, pk.kn.kc, lrl rq er, s7 _ _ ru.at_, fun r H' sr nr hr' => ?_⟩
              have hv2 := val_way a' b' (i := i) (by omega)
              rw [eqr] at hv2
              have gt := DGet.k (k := Sum.inr (R4.way i)) hr'
              rw [hv2] at gt
              refine ⟨_, rfl, r, .ref qr, rfl, gt, ?_⟩
              refine ⟨_, rfl, fun xq dxq nx nd ne => ⟨xq, dxq, _, rfl, upd_same, .inl ⟨w', rfl, fun H2 s2 => ⟨rfl, ?_⟩⟩⟩⟩
              have s8 : Same H' (upd H2 xq (.ins D dxq (rf w'))) := same_put ((same_new nx nd).trans s2) nx
              have hqr := (ru.at_way eqr).same (s7.trans (sr.trans s8))
              obtain ⟨dq, hq0⟩ := id hqr
              have fin := s.trans (sr.trans s8)
              have hx8 : (upd H2 xq (.ins D dxq (rf w'))) xq = some (.ins D dxq (rf w')) := upd_same
              generalize upd H2 xq (.ins D dxq (rf w')) = G8 at hqr hq0 fin hx8 ⊢
              exact ⟨qr, dq, _, rfl, hq0, ⟨xq, dxq, _, rfl, hx8⟩, qr, w', _, rfl, hqr, .inl ⟨xq, w', rfl, ⟨dxq, hx8⟩, ⟨_, rfl, _, rfl, if_neg' (by cases w' <;> rfl) ⟨⟨_, _, rfl⟩, fin⟩⟩⟩⟩
          · exact if_neg' (decide_eq_false (by omega)) ⟨⟨_, _, rfl⟩, s⟩
        · subst e
          have s7 := sF.trans s
          obtain ⟨cu0, con0⟩ := c0.con
          refine ⟨_, rfl, rfl, fun xq dxq hq hd ne => mk_path (cs := ["g"]) hq hd ne c0.kc c0.so con0 wk (by decide) dif1 c12_1 fun G8 s8 p8 => ⟨rfl, ?_⟩⟩
          obtain ⟨pa2, ca2, oa2, hx, _, _, _⟩ := id p8
          have s9 := s7.trans s8
          have kx : KndI K DK tp tg G8 xq (pathT false "k" ["g"] none none) := ⟨C0, dxq, _, hx, p0.kn, kf_line' ..⟩
          refine ⟨q, C, dx, fs, ⟨rfl, s9 _ _ hp, pk⟩, ⟨xq, dxq, _, rfl, hx⟩, q, tx, _, rfl, kd s9, .inl ⟨xq, _, rfl, kx, _, rfl, rfl, rfl, ?_⟩⟩
          have ed : decide (V.bl (decide (tx = pathT false (Str.ofString "k") [Str.ofString "g"] none none)) = V.bl (decide (V.str tx = V.str (Str.ofString "path k g")))) = true := by
            refine decide_eq_true (congrArg V.bl ?_)
            rw [kg_line, decide_eq_decide]
            exact ⟨fun h => by rw [h], fun h => V.str.inj h⟩
          show Q (V.bl _) G8
          rw [ed]
          exact k G8 (S7.same s9)
end
end R4
end

-- K45
section
set_option Elab.async false
set_option linter.all false
set_option maxRecDepth 100000
set_option exponentiation.threshold 10000
namespace R4
open PySem L2 OwnOps OwnNe G1 StX SupX GenFor TryAs
abbrev sLErr : Stmt := top 45
abbrev NEr : List Str := ["_law_way", "_law_value", "e"]
theorem set2 {t : L2.St} (h : t.length = 3) (v : Option V) : (t.set 2 v)[2]? = some v := by
  rw [List.getElem?_set_self (by omega)]
def EN (n : Nat) (W : WX) : XK := fun cls d H' => ∀ t : L2.St, t.length = n → W cls d t H'
theorem pass_n {X : Cx} {W : WX} {n : Nat} (hn : X.N.length = n) (tk : Takes X W) : Passes (L2.CX X.prog X.w) X (EN n W) := by
  subst hn
  exact pass_all tk
/-- a new list of xs is handed back -/
def Gets (H : Hp) (Q : VK) (xs : List V) : Prop := ∀ r H', Same H H' → H' r = some (.lst xs) → Q (.ref r) H'
/-- .. of a word and a new tuple -/
def GetsT (K : PySem.W.Frag) (H : Hp) (Q : VK) (ts : List V) : Prop := ∀ r t H', Same H H' → SqT K H' t ts → H' r = some (.lst [.str "kind", .ref t]) → Q (.ref r) H'
def BadS (H : Hp) (v : V) : Prop := (Av H v ∧ ∀ a xs, v = .ref a → H a ≠ some (.tup xs)) ∨ ∃ a gs os, v = .ref a ∧ Grs H a gs os ∧ gs.length ≤ 10 ∧ (texts os).length ≤ 40 ∧ (∀ z ∈ texts os, z.length ≤ 1000) ∧ grpB os ["p", "q", "r"] = false
section
variable {P : Program} {w : World} {K : PySem.W.Frag} {mg : Str → Option Value} {base : Heap} {D CK fCK CN fCN DP DI DJ gK gP sd C0 CI CJ fP fI fJ : Addr}
def spLErr (K : PySem.W.Frag) : Sp := fun vs H Q _ => ∃ (way : Int) (v : V), vs = [.int way, v] ∧ (
  (((way = 0 ∨ way = 1) ∧ (Av H v ∧ Shr v ∧ wdV v = false)) ∧ Gets H Q [.str "name", v]) ∨
  ((way = 2 ∧ (Av H v ∧ Shr v ∧ difV [.str "p", v] = false)) ∧ GetsT K H Q [.str "p", v]) ∨
  ((way = 3 ∧ (Av H v ∧ Shr v ∧ difV [.str "a", .str "b", .str "g", v] = false)) ∧ GetsT K H Q [.str "g", v]) ∨
  ((way = 4 ∧ BadS H v) ∧ Gets H Q [.str "kind", v]) ∨
  ((way = 4 ∧ ∃ a, v = .ref a ∧ H a = some (.tup [])) ∧ Gets H Q [.str "none"]) ∨
  (((way = 5 ∨ way = 6) ∧ v ≠ .non ∧ NoWd H v) ∧ Gets H Q [.str "kind", v]) ∨
  ((way = 5 ∧ v = .str "sum") ∧ Gets H Q [.str "kind", .int 7]) ∨
  ((way = 6 ∧ v = .non) ∧ Gets H Q [.str "none"]))
set_option maxHeartbeats 4000000 in
theorem ok_lerr {f : Addr} {fd : FuncData} (F : Fun K "_law_error" "_law_error" sLErr f fd) (U : RTxt K mg D CK fCK) (eN : PySem.Giv.ErrTxt K mg "InvalidName" "InvalidName.__init__" "ValueError.__new__" veT CN fCN) (ZI : PySem.W.exmOne K (.ref CK) (.ref CN) = some false)
    (gI : mg "PinKind" = some (.ref CI)) (MI : Mk K CI fI) (kcI : KCls K CI) (soI : SupAt K CI DI "__init__" gK) (FI : FnA P w K mg base (L2.CX P w) 6 fI (saPin K CN CK DI gK sd))
    (c0 : PCl K mg "PathKind" C0 fP DP gK false) (FP : FnA P w K mg base (L2.CX P w) 5 fP (saPath K CN CK DP gK)) (cJ : PCl K mg "JoiningKind" CJ fJ DP gK false) (jJ : SupAt K CJ DJ "__init__" gP) (FJ : FnA P w K mg base (L2.CX P w) 7 fJ (saJoi K D CK DP DJ gK gP)) :
    FnOk P w K mg base (L2.CX P w) 9 f fd ["_law_way", "_law_value"] (spLErr K) := by
  have sc : FnScope NEr ["_law_way", "_law_value"] (defScope sLErr) := ⟨rfl, rfl, rfl, by decide +kernel, rfl, by decide +kernel, by decide +kernel⟩
  refine F.okX sc (fun vs H Q E h => ?_) (fun cdv A outer s H vs Q E hr h => ?_)
  · obtain ⟨way, v, rfl, _⟩ := h
    rfl
  · obtain ⟨way, v, rfl, h⟩ := h
    refine ⟨_, pss_cons (ps_try_all rfl rfl sc.nd (takes_of rfl rfl rfl rfl) (fun W pn xe tk _ => (pss_one (ps_if (pt_cmpR op_eq (pv 0) pe_int (nomark _))
          (pss_one (ps_expr (SupX.pe_makeA0 (CX := L2.CX P w) (E := EN 3 W) MI FI (hr.mono (by decide)) (by rfl) gI (pass_n rfl tk) (pa_cons (pv 1) (pa_cons (pv 1) pa_nil)))))
          (pss_one (ps_if (pt_cmpR op_eq (pv 0) pe_int (nomark _))
          (pss_one (ps_expr (SupX.pe_makeA0 (CX := L2.CX P w) (E := EN 3 W) c0.mks FP (hr.mono (by decide)) (by rfl) c0.g (pass_n rfl tk) (pa_cons (pv 1) (pa_cons pe_str pa_nil)))))
          (pss_one (ps_if (pt_cmpR op_eq (pv 0) pe_int (nomark _))
          (pss_one (ps_expr (SupX.pe_makeA0 (CX := L2.CX P w) (E := EN 3 W) MI FI (hr.mono (by decide)) (by rfl) gI (pass_n rfl tk) (pa_cons pe_str (pa_cons pe_str (pa_cons (pv 1) pa_nil))))))
          (pss_one (ps_if (pt_cmpR op_eq (pv 0) pe_int (nomark _))
          (pss_one (ps_expr (SupX.pe_makeA0 (CX := L2.CX P w) (E := EN 3 W) c0.mks FP (hr.mono (by decide)) (by rfl) c0.g (pass_n rfl tk) (pa_cons pe_str (pa_cons pe_str (pa_cons (pv 1) pa_nil))))))
          (pss_one (ps_if (pt_cmpR op_eq (pv 0) pe_int (nomark _))
          (pss_one (ps_expr (SupX.pe_makeA (CX := L2.CX P w) (ks := ["swaps"]) (E := EN 3 W) MI FI (hr.mono (by decide)) (by rfl) gI (pass_n rfl tk) (pa_cons pe_str (pa_cons pe_str (pa_cons pe_str (pa_cons pe_str pa_nil)))) (pk_cons (pv 1) pk_nil))))
          (pss_one (ps_if (pt_cmpR op_eq (pv 0) pe_int (nomark _))
          (pss_one (ps_expr (SupX.pe_makeA (CX := L2.CX P w) (ks := ["row", "side"]) (E := EN 3 W) cJ.mks FJ (hr.mono (by decide)) (by rfl) cJ.g (pass_n rfl tk) (pa_cons pe_str pa_nil) (pk_cons (pv 1) (pk_cons pe_int pk_nil)))))
          (pss_one (ps_expr (SupX.pe_makeA (CX := L2.CX P w) (ks := ["row", "side"]) (E := EN 3 W) cJ.mks FJ (hr.mono (by decide)) (by rfl) cJ.g (pass_n rfl tk) (pa_cons pe_str pa_nil) (pk_cons pe_str (pk_cons (pv 1) pk_nil))))))))))))))))))
        (Clauses.cons (i := 2) rfl rfl ⟨rfl, by decide, .inl eN.gC⟩ (fun a oe cls d pn hz hf => pss_one (ps_ret (pe_lst (pa_cons pe_str (pa_cons (pe_byGiv eN hz hf (pv 2)) pa_nil)))))
          (Clauses.cons (i := 2) rfl rfl ⟨rfl, by decide, .inl U.eK.gC⟩ (fun a oe cls d pn hz hf => pss_one (ps_ret (pe_lst (pa_cons pe_str (pa_cons (pe_byGiv U.eK hz hf (pv 2)) pa_nil))))) Clauses.nil)))
      (pss_one (ps_ret (pe_lst (pa_cons pe_str pa_nil)))), ?_⟩
    have two : (2 : Nat) ≤ sizeLine := by decide
    have wN : ∀ {i j : Int}, i ≠ j → decide (V.int i = V.int j) = false := fun h => decide_eq_false fun z => h (V.int.inj z)
    obtain ⟨u0, con0⟩ := c0.con
    obtain ⟨uJ, conJ⟩ := cJ.con
    have sh1 : ∀ x : Str, x.length ≤ 1 → Shr (.str x) := fun x h => Nat.le_trans h (by decide)
    have one1 : 1 ≤ [v].length := Nat.le_refl 1
    have one6 : [v].length ≤ 6 := by show 1 ≤ 6; decide
    have two1 : 1 ≤ [V.str "p", v].length := by show 1 ≤ 2; decide
    have two6 : [V.str "p", v].length ≤ 6 := by show 2 ≤ 6; decide
    have difq : difV ((["p", "q", "r"] : List Str).map V.str) = true := by decide +kernel
    have q12 : ∀ z ∈ (["p", "q", "r"] : List Str), z.length ≤ 12 := by decide +kernel
    rcases h with ⟨⟨rfl | rfl, av, sh, nw⟩, k⟩ | ⟨⟨rfl, av, sh, nd⟩, k⟩ | ⟨⟨rfl, av, sh, nd⟩, k⟩ | ⟨⟨rfl, bad⟩, k⟩ | ⟨⟨rfl, a, rfl, ha⟩, k⟩ | ⟨⟨rfl | rfl, nn, nw⟩, k⟩ | ⟨⟨rfl, rfl⟩, k⟩ | ⟨⟨rfl, rfl⟩, k⟩
    · exact ⟨_, rfl, rfl, _, rfl, if_pos' (decide_eq_true rfl) ⟨_, rfl, _, rfl, rfl, fun q dx hq hd ne =>  pin_name (rest := [v]) hq hd ne kcI soI av sh nw one1 one6 (fun y hy => by rw [List.mem_singleton.mp hy]; exact ⟨av, sh⟩) (fun d H1 sm hd t0 ht => ⟨true, eN.te, fun _ a ha => ⟨_, set2 ht _, rfl, rfl, d, _, rfl, hd, two, fun r nr => k r _ (sm.trans (same_upd nr)) upd_same⟩, fun z => nomatch z⟩)⟩⟩
    · exact ⟨_, rfl, rfl, _, rfl, if_neg' (wN (by decide)) ⟨_, rfl, rfl, _, rfl, if_pos' (decide_eq_true rfl) ⟨_, rfl, rfl, fun q dx hq hd ne =>  path_name (rest := [.str "a"]) hq hd ne c0.kc c0.so con0 av sh nw (by decide) (fun y hy => by rw [List.mem_singleton.mp hy]; exact ⟨.str _, sh1 _ (by decide +kernel)⟩) (fun d H1 sm hd t0 ht => ⟨true, eN.te, fun _ a ha => ⟨_, set2 ht _, rfl, rfl, d, _, rfl, hd, two, fun r nr => k r _ (sm.trans (same_upd nr)) upd_same⟩, fun z => nomatch z⟩)⟩⟩⟩
    · exact ⟨_, rfl, rfl, _, rfl, if_neg' (wN (by decide)) ⟨_, rfl, rfl, _, rfl, if_neg' (wN (by decide)) ⟨_, rfl, rfl, _, rfl, if_pos' (decide_eq_true rfl) ⟨_, rfl, rfl, fun q dx hq hd ne =>  pin_pins (x := "k") (rest := [.str "p", v]) hq hd ne kcI soI wk two1 two6 (fun y hy => by
        rcases List.mem_cons.mp hy with rfl | hy
        · exact ⟨.str _, sh1 _ (by decide +kernel)⟩
        · rw [List.mem_singleton.mp hy]
          exact ⟨av, sh⟩) nd (fun d pa H1 sm hpa hd t0 ht => ⟨false, ZI, (fun z => nomatch z), fun _ => ⟨true, U.eK.te, fun _ a ha => ⟨_, set2 ht _, rfl, rfl, d, _, rfl, hd, two, fun r nr => k r pa _ (sm.trans (same_upd nr)) (Same.tupS (same_upd nr) hpa) upd_same⟩, fun z => nomatch z⟩⟩)⟩⟩⟩⟩
    · exact ⟨_, rfl, rfl, _, rfl, if_neg' (wN (by decide)) ⟨_, rfl, rfl, _, rfl, if_neg' (wN (by decide)) ⟨_, rfl, rfl, _, rfl, if_neg' (wN (by decide)) ⟨_, rfl, rfl, _, rfl, if_pos' (decide_eq_true rfl) ⟨_, rfl, rfl, fun q dx hq hd ne =>  path_ctl (x := "k") (rest := [.str "g", v]) hq hd ne c0.kc c0.so con0 wk two6 (fun y hy => by
        rcases List.mem_cons.mp hy with rfl | hy
        · exact ⟨.str _, sh1 _ (by decide +kernel)⟩
        · rw [List.mem_singleton.mp hy]
          exact ⟨av, sh⟩) (by rw [nd]; rfl) (fun d pa H1 sm hpa hd t0 ht => ⟨false, ZI, (fun z => nomatch z), fun _ => ⟨true, U.eK.te, fun _ a ha => ⟨_, set2 ht _, rfl, rfl, d, _, rfl, hd, two, fun r nr => k r pa _ (sm.trans (same_upd nr)) (Same.tupS (same_upd nr) (SqT.of hpa)) upd_same⟩, fun z => nomatch z⟩⟩)⟩⟩⟩⟩⟩
    · exact ⟨_, rfl, rfl, _, rfl, if_neg' (wN (by decide)) ⟨_, rfl, rfl, _, rfl, if_neg' (wN (by decide)) ⟨_, rfl, rfl, _, rfl, if_neg' (wN (by decide)) ⟨_, rfl, rfl, _, rfl, if_neg' (wN (by decide)) ⟨_, rfl, rfl, _, rfl, if_pos' (decide_eq_true rfl) ⟨_, rfl, rfl, fun q dx hq hd ne =>  pin_swaps (x := "k") (pins := ["p", "q", "r"]) hq hd ne kcI soI wk (by decide) (by decide) difq q12 bad (fun d H1 sm hd t0 ht => ⟨false, ZI, (fun z => nomatch z), fun _ => ⟨true, U.eK.te, fun _ a ha => ⟨_, set2 ht _, rfl, rfl, d, _, rfl, hd, two, fun r nr => k r _ (sm.trans (same_upd nr)) upd_same⟩, fun z => nomatch z⟩⟩)⟩⟩⟩⟩⟩⟩
    · exact ⟨_, rfl, rfl, _, rfl, if_neg' (wN (by decide)) ⟨_, rfl, rfl, _, rfl, if_neg' (wN (by decide)) ⟨_, rfl, rfl, _, rfl, if_neg' (wN (by decide)) ⟨_, rfl, rfl, _, rfl, if_neg' (wN (by decide)) ⟨_, rfl, rfl, _, rfl, if_pos' (decide_eq_true rfl) ⟨_, rfl, rfl, fun q dx hq hd ne =>  mk_pin (x := "k") (pins := ["p", "q", "r"]) (gs := []) (os := []) hq hd ne kcI soI wk (by decide) (by decide) difq q12 ⟨ha, rfl, fun i v h => (by cases h)⟩ (by decide) (by decide) (by decide +kernel) (fun z h => by cases h) fun H1 sm pi => ⟨rfl, (by decide : 1 ≤ sizeLine), fun r nr => k r _ (sm.trans (same_upd nr)) upd_same⟩⟩⟩⟩⟩⟩⟩
    · exact ⟨_, rfl, rfl, _, rfl, if_neg' (wN (by decide)) ⟨_, rfl, rfl, _, rfl, if_neg' (wN (by decide)) ⟨_, rfl, rfl, _, rfl, if_neg' (wN (by decide)) ⟨_, rfl, rfl, _, rfl, if_neg' (wN (by decide)) ⟨_, rfl, rfl, _, rfl, if_neg' (wN (by decide)) ⟨_, rfl, rfl, _, rfl, if_pos' (decide_eq_true rfl) ⟨_, rfl, rfl, fun q dx hq hd ne =>  joi_row (x := "k") (cs := []) hq hd ne cJ.kc cJ.so jJ conJ wk (by decide) dif0 c12_0 nn nw (fun d H1 sm hd t0 ht => ⟨false, ZI, (fun z => nomatch z), fun _ => ⟨true, U.eK.te, fun _ a ha => ⟨_, set2 ht _, rfl, rfl, d, _, rfl, hd, two, fun r nr => k r _ (sm.trans (same_upd nr)) upd_same⟩, fun z => nomatch z⟩⟩)⟩⟩⟩⟩⟩⟩⟩
    · exact ⟨_, rfl, rfl, _, rfl, if_neg' (wN (by decide)) ⟨_, rfl, rfl, _, rfl, if_neg' (wN (by decide)) ⟨_, rfl, rfl, _, rfl, if_neg' (wN (by decide)) ⟨_, rfl, rfl, _, rfl, if_neg' (wN (by decide)) ⟨_, rfl, rfl, _, rfl, if_neg' (wN (by decide)) ⟨_, rfl, rfl, _, rfl, if_neg' (wN (by decide)) ⟨_, rfl, rfl, fun q dx hq hd ne =>  joi_side (x := "k") (cs := []) (a := some true) hq hd ne cJ.kc cJ.so jJ conJ wk (by decide) dif0 c12_0 (.word true) nn nw (fun d H1 sm hd t0 ht => ⟨false, ZI, (fun z => nomatch z), fun _ => ⟨true, U.eK.te, fun _ a ha => ⟨_, set2 ht _, rfl, rfl, d, _, rfl, hd, two, fun r nr => k r _ (sm.trans (same_upd nr)) upd_same⟩, fun z => nomatch z⟩⟩)⟩⟩⟩⟩⟩⟩⟩
    · exact ⟨_, rfl, rfl, _, rfl, if_neg' (wN (by decide)) ⟨_, rfl, rfl, _, rfl, if_neg' (wN (by decide)) ⟨_, rfl, rfl, _, rfl, if_neg' (wN (by decide)) ⟨_, rfl, rfl, _, rfl, if_neg' (wN (by decide)) ⟨_, rfl, rfl, _, rfl, if_neg' (wN (by decide)) ⟨_, rfl, rfl, _, rfl, if_pos' (decide_eq_true rfl) ⟨_, rfl, rfl, fun q dx hq hd ne =>  joi_side (x := "k") (cs := []) (a := some true) hq hd ne cJ.kc cJ.so jJ conJ wk (by decide) dif0 c12_0 (.word true) (fun z => by cases z) ⟨.int 7, fun w z => by cases z⟩ (fun d H1 sm hd t0 ht => ⟨false, ZI, (fun z => nomatch z), fun _ => ⟨true, U.eK.te, fun _ a ha => ⟨_, set2 ht _, rfl, rfl, d, _, rfl, hd, two, fun r nr => k r _ (sm.trans (same_upd nr)) upd_same⟩, fun z => nomatch z⟩⟩)⟩⟩⟩⟩⟩⟩⟩
    · exact ⟨_, rfl, rfl, _, rfl, if_neg' (wN (by decide)) ⟨_, rfl, rfl, _, rfl, if_neg' (wN (by decide)) ⟨_, rfl, rfl, _, rfl, if_neg' (wN (by decide)) ⟨_, rfl, rfl, _, rfl, if_neg' (wN (by decide)) ⟨_, rfl, rfl, _, rfl, if_neg' (wN (by decide)) ⟨_, rfl, rfl, _, rfl, if_neg' (wN (by decide)) ⟨_, rfl, rfl, fun q dx hq hd ne =>  mk_joi (x := "k") (cs := []) (a := some true) (b := none) hq hd ne (.inl rfl) cJ.kc cJ.so jJ conJ wk (by decide) dif0 c12_0 (.word true) .non fun H1 rq a' b' sm e1 e2 pi ru => ⟨rfl, (by decide : 1 ≤ sizeLine), fun r nr => k r _ (sm.trans (same_upd nr)) upd_same⟩⟩⟩⟩⟩⟩⟩⟩
end
end R4
end

-- K46a
section
set_option Elab.async false
set_option linter.all false
set_option maxRecDepth 100000
set_option exponentiation.threshold 10000
namespace R4
open PySem L2 OwnOps OwnNe G1 StX SupX GenFor TryAs
/-! data that is compared in _law_errors_right -/
def LyN (n : Nat) (d : PyData) : Prop := d.canLay0 = true ∧ d.depth ≤ n
def LyA (n : Nat) (ds : List PyData) : Prop := PyData.canLayAll0 ds = true ∧ PyData.depthAll ds ≤ n
theorem LyA.nil {n : Nat} : LyA n [] := ⟨by simp [PyData.canLayAll0], by simp [PyData.depthAll]⟩
theorem LyA.cons {n : Nat} {d : PyData} {ds : List PyData} (h : LyN n d) (t : LyA n ds) : LyA n (d :: ds) := by
  refine ⟨?_, ?_⟩
  · simp only [PyData.canLayAll0, h.1, t.1, Bool.and_self]
  · have h1 := h.2
    have h2 := t.2
    simp only [PyData.depthAll]
    omega
theorem LyN.lst {n : Nat} {ds : List PyData} (h : LyA n ds) : LyN (n + 1) (.list ds) := by
  refine ⟨by simp only [PyData.canLay0, h.1], ?_⟩
  have h1 := h.2
  simp only [PyData.depth]
  omega
theorem LyN.tup {n : Nat} {ds : List PyData} (h : LyA n ds) : LyN (n + 1) (.tuple ds) := by
  refine ⟨by simp only [PyData.canLay0, h.1], ?_⟩
  have h1 := h.2
  simp only [PyData.depth]
  omega
theorem LyN.mono {n m : Nat} {d : PyData} (h : LyN n d) (le : n ≤ m) : LyN m d := ⟨h.1, Nat.le_trans h.2 le⟩
theorem LyN.str {n : Nat} {x : Str} (h : PyData.strOk x = true) : LyN n (.str x) := ⟨by simp only [PyData.canLay0, h], by simp [PyData.depth]⟩
theorem LyN.shp {n : Nat} {d : PyData} (h : LyN n d) (le : n ≤ 64) : SeqAt.shaped d = true := R4.shp h.1 (Nat.le_trans h.2 le)
theorem LyN.ne {n : Nat} {d : PyData} (h : LyN n d) : (!PyData.eqv d d) = false := by rw [SeqAt.eqv_refl d h.1]; rfl
theorem dif_bad {v : V} (h : wdV v = false) : difV [.str "p", v] = false ∧ difV [.str "a", .str "b", .str "g", v] = false := by
  constructor
  · unfold difV
    simp only [List.all_cons, h, Bool.false_and, Bool.and_false]
  · unfold difV
    simp only [List.all_cons, h, Bool.false_and, Bool.and_false]
mutual
theorem Dp.same {K : PySem.W.Frag} {H H' : Hp} (s : Same H H') : ∀ {v : V} {d : PyData}, Dp K H v d → Dp K H' v d
  | _, _, .non => .non
  | _, _, .bl b => .bl b
  | _, _, .int i => .int i
  | _, _, .str x => .str x
  | _, _, .lst h t => .lst (s.seq h) (DpAll.same s t)
  | _, _, .tup h t => .tup (Same.tupS s h) (DpAll.same s t)
theorem DpAll.same {K : PySem.W.Frag} {H H' : Hp} (s : Same H H') : ∀ {vs : List V} {ds : List PyData}, DpAll K H vs ds → DpAll K H' vs ds
  | _, _, .nil => .nil
  | _, _, .cons h t => .cons (Dp.same s h) (DpAll.same s t)
end
def It1 (K : PySem.W.Frag) (H : Hp) (v : V) : Prop := (Av H v ∧ Shr v ∧ wdV v = false) ∧ ∃ d, Dp K H v d ∧ LyN 5 d
theorem It1.same {K : PySem.W.Frag} {H H' : Hp} {v : V} (h : It1 K H v) (s : Same H H') : It1 K H' v := ⟨⟨h.1.1.same s, h.1.2⟩, let ⟨d, h1, h2⟩ := h.2; ⟨d, Dp.same s h1, h2⟩⟩
theorem it1_str {K : PySem.W.Frag} {H : Hp} {x : Str} (h : (decide (x.length ≤ 1000) && (!wd x && PyData.strOk x)) = true) : It1 K H (.str x) := by
  simp only [Bool.and_eq_true, decide_eq_true_eq, Bool.not_eq_true'] at h
  exact ⟨⟨.str x, h.1, h.2.1⟩, .str x, .str x, .str h.2.2⟩
def It4 (K : PySem.W.Frag) (H : Hp) (v : V) : Prop := BadS H v ∧ ∃ d, Dp K H v d ∧ LyN 5 d
theorem Grs.one {H : Hp} {a : Addr} {v : V} {o : Option (List Str)} (ha : H a = some (.tup [v])) (g : Gr H v o) : Grs H a [v] [o] :=
  ⟨ha, rfl, fun i u h => match i, h with
    | 0, h => by cases h; exact ⟨o, rfl, g⟩⟩
theorem Grs.two {H : Hp} {a : Addr} {v u : V} {o p : Option (List Str)} (ha : H a = some (.tup [v, u])) (g : Gr H v o) (g' : Gr H u p) : Grs H a [v, u] [o, p] :=
  ⟨ha, rfl, fun i x h => match i, h with
    | 0, h => by cases h; exact ⟨o, rfl, g⟩
    | 1, h => by cases h; exact ⟨p, rfl, g'⟩⟩
theorem BadS.same {H H' : Hp} {v : V} (h : BadS H v) (s : Same H H') : BadS H' v := by
  rcases h with ⟨av, nt⟩ | ⟨a, gs, os, e, g, r⟩
  · refine .inl ⟨av.same s, fun a xs e h => ?_⟩
    subst e
    cases av with
    | lst e => rw [s _ _ e] at h; cases h
    | tup e => exact nt a _ rfl e
  · exact .inr ⟨a, gs, os, e, g.same s, r⟩
theorem It4.same {K : PySem.W.Frag} {H H' : Hp} {v : V} (h : It4 K H v) (s : Same H H') : It4 K H' v := ⟨h.1.same s, let ⟨d, h1, h2⟩ := h.2; ⟨d, Dp.same s h1, h2⟩⟩
def It5 (K : PySem.W.Frag) (H : Hp) (v : V) : Prop := (v ≠ .non ∧ NoWd H v) ∧ ∃ d, Dp K H v d ∧ LyN 5 d
theorem It5.same {K : PySem.W.Frag} {H H' : Hp} {v : V} (h : It5 K H v) (s : Same H H') : It5 K H' v := ⟨⟨h.1.1, h.1.2.1.same s, h.1.2.2⟩, let ⟨d, h1, h2⟩ := h.2; ⟨d, Dp.same s h1, h2⟩⟩
end R4
end

-- K46
section
set_option Elab.async false
set_option linter.all false
set_option maxRecDepth 100000
set_option exponentiation.threshold 10000
namespace R4
open PySem L2 OwnOps OwnNe G1 StX SupX GenFor TryAs
abbrev sLEr : Stmt := top 46
abbrev NLz : List Str := ["_law_value", "_law_some", "_law_way"]
section
variable {P : Program} {w : World} {K : PySem.W.Frag} {mg : Str → Option Value} {base : Heap}
def spLEr : Sp := fun vs H Q _ => vs = [] ∧ ∀ H', Same H H' → Q (.bl true) H'
set_option maxHeartbeats 4000000 in
theorem ok_ler {f : Addr} {fd : FuncData} (F : Fun K "_law_errors_right" "_law_errors_right" sLEr f fd) (T : Bi mg) (GE : Glb P w K mg base "_law_error" 9 ["_law_way", "_law_value"] (spLErr K)) :
    FnOk P w K mg base (L2.CX P w) 10 f fd [] spLEr := by
  obtain ⟨_, _, mE, kE, GE, bE⟩ := GE.ex
  have sc : FnScope NLz [] (defScope sLEr) := ⟨rfl, rfl, rfl, by decide +kernel, rfl, by decide +kernel, by decide +kernel⟩
  have hN := sc.nd
  refine F.okX sc (fun vs H Q E h => ?_) (fun cdv A outer s H vs Q E hr h => ?_)
  · obtain ⟨rfl, _⟩ := h
    rfl
  · obtain ⟨rfl, k⟩ := h
    refine ⟨_, (pss_cons (ps_for passOwn rfl (pi_list (pe_lst (pa_cons pe_non (pa_cons pe_int (pa_cons pe_str (pa_cons pe_str (pa_cons pe_str (pa_cons pe_str (pa_cons pe_str (pa_cons pe_str (pa_cons (pe_tup (pa_cons pe_str pa_nil)) pa_nil))))))))))) (pg_name (i := 0) hN rfl (Or.inr rfl)) (pss_cons (ps_if (pt_cmpR (op_neD hr.units) (pe_lc (own := [("_law_way", 2)]) (g := gName 2) (tt := tYes) (te := tCall (spLErr K) [] E0 (tCons (tVar 2) (tCons (tVar 0) tNil))) rfl hN (pi_list (pe_lst (pa_cons pe_int (pa_cons pe_int pa_nil)))) (blkOk_by (N := NLz) (sc := defScope sLEr) (by decide +kernel)) (fun _ _ _ _ _ => pg_name (i := 2) hN rfl (Or.inl rfl)) (fun _ _ _ _ _ => pts_nil) (fun _ _ _ _ _ => (pe_call GE (hr.mono (by decide)) (by rfl) mE kE bE .nil passL (pa_cons (pv 2) (pa_cons (pv 0) pa_nil))))) (pe_op op_rep (pe_lst (pa_cons (pe_lst (pa_cons pe_str (pa_cons (pv 0) pa_nil))) pa_nil)) pe_int) (nomark _)) (pss_one (ps_ret pe_bl)) pss_nil) (pss_one (ps_if (pt_cmpR (op_neD hr.units) (pe_lst (pa_cons (pe_call GE (hr.mono (by decide)) (by rfl) mE kE bE .nil passL (pa_cons pe_int (pa_cons (pv 0) pa_nil))) (pa_cons (pe_call GE (hr.mono (by decide)) (by rfl) mE kE bE .nil passL (pa_cons pe_int (pa_cons (pv 0) pa_nil))) pa_nil))) (pe_lst (pa_cons (pe_lst (pa_cons pe_str (pa_cons (pe_tup (pa_cons pe_str (pa_cons (pv 0) pa_nil))) pa_nil))) (pa_cons (pe_lst (pa_cons pe_str (pa_cons (pe_tup (pa_cons pe_str (pa_cons (pv 0) pa_nil))) pa_nil))) pa_nil))) (nomark _)) (pss_one (ps_ret pe_bl)) pss_nil))))
      (pss_cons (ps_if (pt_cmpR (op_neD hr.units) (pe_call GE (hr.mono (by decide)) (by rfl) mE kE bE .nil passL (pa_cons pe_int (pa_cons pe_str pa_nil))) (pe_lst (pa_cons pe_str (pa_cons (pe_tup (pa_cons pe_str (pa_cons pe_str pa_nil))) pa_nil))) (nomark _)) (pss_one (ps_ret pe_bl)) pss_nil)
      (pss_cons (ps_for passOwn rfl (pi_list (pe_lst (pa_cons pe_str (pa_cons pe_str (pa_cons pe_str pa_nil))))) (pg_name (i := 0) hN rfl (Or.inr rfl)) (pss_one (ps_if (pt_cmpR (op_neD hr.units) (pe_call GE (hr.mono (by decide)) (by rfl) mE kE bE .nil passL (pa_cons pe_int (pa_cons (pv 0) pa_nil))) (pe_lst (pa_cons pe_str (pa_cons (pe_tup (pa_cons pe_str (pa_cons (pv 0) pa_nil))) pa_nil))) (nomark _)) (pss_one (ps_ret pe_bl)) pss_nil)))
      (pss_cons (ps_set (i := 1) hN rfl (Or.inl rfl) (pe_lst (pa_cons pe_non (pa_cons (pe_lst pa_nil) (pa_cons pe_str (pa_cons (pe_tup (pa_cons (pe_tup (pa_cons pe_str pa_nil)) pa_nil)) (pa_cons (pe_tup (pa_cons (pe_tup (pa_cons pe_str (pa_cons pe_str pa_nil))) pa_nil)) (pa_cons (pe_tup (pa_cons (pe_tup (pa_cons pe_str (pa_cons pe_str pa_nil))) pa_nil)) pa_nil))))))))
      (pss_cons (ps_set (i := 1) hN rfl (Or.inl rfl) (pe_op op_cat (pv 1) (pe_lst (pa_cons (pe_tup (pa_cons (pe_tup (pa_cons pe_str (pa_cons pe_str pa_nil))) (pa_cons (pe_tup (pa_cons pe_str (pa_cons pe_str pa_nil))) pa_nil))) (pa_cons (pe_tup (pa_cons (pe_lst (pa_cons pe_str (pa_cons pe_str pa_nil))) pa_nil)) (pa_cons (pe_tup (pa_cons pe_str pa_nil)) pa_nil))))))
      (pss_cons (ps_for passOwn rfl (pi_list (pv 1)) (pg_name (i := 0) hN rfl (Or.inr rfl)) (pss_one (ps_if (pt_cmpR (op_neD hr.units) (pe_call GE (hr.mono (by decide)) (by rfl) mE kE bE .nil passL (pa_cons pe_int (pa_cons (pv 0) pa_nil))) (pe_lst (pa_cons pe_str (pa_cons (pv 0) pa_nil))) (nomark _)) (pss_one (ps_ret pe_bl)) pss_nil)))
      (pss_cons (ps_for passOwn rfl (pi_list (pe_lst (pa_cons pe_int (pa_cons pe_str (pa_cons pe_str (pa_cons (pe_tup (pa_cons pe_str pa_nil)) (pa_cons pe_bl pa_nil))))))) (pg_name (i := 0) hN rfl (Or.inr rfl)) (pss_one (ps_if (pt_cmpR (op_neD hr.units) (pe_lst (pa_cons (pe_call GE (hr.mono (by decide)) (by rfl) mE kE bE .nil passL (pa_cons pe_int (pa_cons (pv 0) pa_nil))) (pa_cons (pe_call GE (hr.mono (by decide)) (by rfl) mE kE bE .nil passL (pa_cons pe_int (pa_cons (pv 0) pa_nil))) pa_nil))) (pe_op op_rep (pe_lst (pa_cons (pe_lst (pa_cons pe_str (pa_cons (pv 0) pa_nil))) pa_nil)) pe_int) (nomark _)) (pss_one (ps_ret pe_bl)) pss_nil)))
      (pss_cons (ps_if (pt_not (PW.pt (pw_and (pt_cmpR (op_eqD hr.units) (pe_call GE (hr.mono (by decide)) (by rfl) mE kE bE .nil passL (pa_cons pe_int (pa_cons (pe_tup pa_nil) pa_nil))) (pe_lst (pa_cons pe_str pa_nil)) (nomark _)) (pw_and1 (pt_cmpR (op_eqD hr.units) (pe_call GE (hr.mono (by decide)) (by rfl) mE kE bE .nil passL (pa_cons pe_int (pa_cons pe_non pa_nil))) (pe_lst (pa_cons pe_str pa_nil)) (nomark _)))))) (pss_one (ps_ret pe_bl)) pss_nil)
      (pss_one (ps_ret (pe_cmpR (op_eqD hr.units) (pe_call GE (hr.mono (by decide)) (by rfl) mE kE bE .nil passL (pa_cons pe_int (pa_cons pe_str pa_nil))) (pe_lst (pa_cons pe_str (pa_cons pe_int pa_nil))) (nomark _)))))))))))), ?_⟩
    have line : 1000 ≤ sizeLine := by decide
    have okN : PyData.strOk "name" = true := by decide +kernel
    have okK : PyData.strOk "kind" = true := by decide +kernel
    have okP : PyData.strOk "p" = true := by decide +kernel
    have okG : PyData.strOk "g" = true := by decide +kernel
    -- names
    refine ⟨by show 1 ≤ sizeLine; omega, fun t1 nt1 => ⟨by show 9 ≤ sizeLine; omega, fun L1 nL1 => ⟨_, rfl, ⟨_, SqL.of upd_same⟩, ?_⟩⟩⟩
    have s0 := (same_upd (o := .tup [.str "a"]) nt1).trans (same_upd (o := .lst [.non, .int 5, .str "", .str "A", .str "1a", .str "abcdefghijklm", .str "a/b", .str "a b", .ref t1]) nL1)
    have hL1 : (upd (upd H t1 (.tup [.str "a"])) L1 (.lst [.non, .int 5, .str "", .str "A", .str "1a", .str "abcdefghijklm", .str "a/b", .str "a b", .ref t1])) L1 = some (.lst [.non, .int 5, .str "", .str "A", .str "1a", .str "abcdefghijklm", .str "a/b", .str "a b", .ref t1]) := upd_same
    have ht1 := same_upd (o := .lst [.non, .int 5, .str "", .str "A", .str "1a", .str "abcdefghijklm", .str "a/b", .str "a b", .ref t1]) nL1 _ _ (upd_same (H := H) (a := t1) (o := .tup [.str "a"]))
    generalize upd (upd H t1 (.tup [.str "a"])) L1 (.lst [.non, .int 5, .str "", .str "A", .str "1a", .str "abcdefghijklm", .str "a/b", .str "a b", .ref t1]) = G0 at s0 hL1 ht1 ⊢
    have its : ∀ v ∈ ([.non, .int 5, .str "", .str "A", .str "1a", .str "abcdefghijklm", .str "a/b", .str "a b", .ref t1] : List V), It1 K G0 v := fun v hv => by
      simp only [List.mem_cons, List.not_mem_nil, or_false] at hv
      rcases hv with rfl | rfl | rfl | rfl | rfl | rfl | rfl | rfl | rfl
      · exact ⟨⟨.non, trivial, rfl⟩, .none, .non, by decide, by decide⟩
      · exact ⟨⟨.int 5, trivial, rfl⟩, .int 5, .int 5, by decide, by decide⟩
      · exact it1_str (by decide +kernel)
      · exact it1_str (by decide +kernel)
      · exact it1_str (by decide +kernel)
      · exact it1_str (by decide +kernel)
      · exact it1_str (by decide +kernel)
      · exact it1_str (by decide +kernel)
      · exact ⟨⟨.tup ht1, trivial, rfl⟩, .tuple [.str "a"], .tup (SqT.of ht1) (.cons (.str _) .nil), by decide +kernel, by decide +kernel⟩
    refine for_it (walk_list (K := K) (a := L1) (xs := [.non, .int 5, .str "", .str "A", .str "1a", .str "abcdefghijklm", .str "a/b", .str "a b", .ref t1])) (fun i σ G => (∃ v0, σ = [v0, none, none]) ∧ Same G0 G) ⟨⟨none, rfl⟩, Same.refl _⟩ (fun i σ G _ ⟨_, s⟩ => SqL.of (s _ _ hL1)) (fun i v σ G G' hi ⟨⟨v0, e⟩, s⟩ ⟨eG, hx⟩ => ?_) (fun σ G ⟨⟨v0, e⟩, s⟩ => ?_)
    · subst e eG
      obtain ⟨⟨av, sh, nw⟩, d, dp, ly⟩ := (its v (List.mem_of_getElem? hx)).same s
      refine ⟨by show 2 ≤ sizeLine; omega, fun La nLa => ⟨La, rfl, ⟨_, SqL.of upd_same⟩, fun Dl nDl => ?_⟩⟩
      have sa := same_upd (o := .lst [.int 0, .int 1]) nLa
      have hLa : (upd G' La (.lst [.int 0, .int 1])) La = some (.lst [.int 0, .int 1]) := upd_same
      generalize upd G' La (.lst [.int 0, .int 1]) = G1 at sa hLa nDl ⊢
      refine walk_it (walk_list (K := K) (a := La) (xs := [V.int 0, .int 1])) (fun j G2 => Same G1 G2 ∧ ∃ rs : List Addr, G2 Dl = some (.lst (rs.map V.ref)) ∧ rs.length = j ∧ ∀ r ∈ rs, G2 r = some (.lst [.str "name", v])) ⟨same_upd nDl, [], upd_same, rfl, fun r h => by cases h⟩ (fun j G2 _ ⟨s2, _⟩ => SqL.of (s2 _ _ hLa)) (fun j y G2 G3 hj ⟨s2, rs, hD, rl, hr⟩ ⟨eG, hy⟩ => ?_) (fun G2 ⟨s2, rs, hD, rl, hr⟩ => ?_)
      · subst eG
        have wy : ∃ z : Int, y = .int z ∧ (z = 0 ∨ z = 1) := by
          match j, hy with
          | 0, hy => cases hy; exact ⟨0, rfl, .inl rfl⟩
          | 1, hy => cases hy; exact ⟨1, rfl, .inr rfl⟩
        obtain ⟨z, rfl, hz⟩ := wy
        have s12 := sa.trans s2
        have hj : j < 2 := hj
        refine ⟨rfl, yes_go (iteT ⟨_, rfl, _, rfl, z, v, rfl, .inl ⟨⟨hz, av.same s12, sh, nw⟩, fun r G4 s4 hr4 => ?_⟩⟩)⟩
        have hD4 := s4 _ _ hD
        have keep : ∀ r xs, G4 r = some (.lst [.str "name", xs]) → (upd G4 Dl (.lst (rs.map V.ref ++ [V.ref r]))) r = some (.lst [.str "name", xs]) ∧ r ≠ Dl := fun r xs h => by
          have ne : r ≠ Dl := fun z => by
            rw [z, hD4] at h
            have e := HO.lst.inj (Option.some.inj h)
            cases rs with
            | nil => cases e
            | cons a b => injection e with e1; cases e1
          exact ⟨by rw [upd_ne ne]; exact h, ne⟩
        refine ⟨_, hD4, by rw [List.length_map]; omega, same_put (s2.trans s4) nDl, rs ++ [r], by rw [upd_same, List.map_append]; rfl, by rw [List.length_append, rl]; rfl, fun r2 h2 => ?_⟩
        have h4 : G4 r2 = some (.lst [.str "name", v]) := by
          rcases List.mem_append.mp h2 with h | h
          · exact s4 _ _ (hr r2 h)
          · rw [List.mem_singleton.mp h]; exact hr4
        rw [upd_ne (fun z => by
          rw [z, hD4] at h4
          have e := HO.lst.inj (Option.some.inj h4)
          cases rs with
          | nil => cases e
          | cons a b => injection e with e1; cases e1)]
        exact h4
      · obtain ⟨ra, rb, rfl⟩ : ∃ a b, rs = [a, b] := by
          match rs, rl with
          | [a, b], _ => exact ⟨a, b, rfl⟩
        have hra := hr ra List.mem_cons_self
        have hrb := hr rb (List.mem_cons_of_mem _ List.mem_cons_self)
        refine ⟨_, rfl, by show 2 ≤ sizeLine; omega, fun L4 nL4 => ⟨by show 1 ≤ sizeLine; omega, fun L5 nL5 => ⟨L5, 2, _, rfl, rfl, upd_same, by decide, by decide, by show 1 * 2 ≤ sizeLine; omega, fun L6 nL6 => ?_⟩⟩⟩
        have s4 := same_upd (o := .lst [.str "name", v]) nL4
        have s5 := same_upd (o := .lst [.ref L4]) nL5
        have s6 := same_upd (o := .lst (List.replicate (2 : Int).toNat [V.ref L4]).flatten) nL6
        have s46 := s4.trans (s5.trans s6)
        have dv := Dp.same (sa.trans (s2.trans s46)) dp
        have lyD : LyN 7 (.list [.list [.str "name", d], .list [.str "name", d]]) := .lst (.cons (.lst (.cons (.str okN) (.cons ly .nil))) (.cons (.lst (.cons (.str okN) (.cons ly .nil))) .nil))
        have one : ∀ {r : Addr} {G : Hp}, G r = some (.lst [.str "name", v]) → Dp K G v d → Dp K G (.ref r) (.list [.str "name", d]) := fun h dv => .lst (SqL.of h) (.cons (.str _) (.cons dv .nil))
        refine ⟨.list [.list [.str "name", d], .list [.str "name", d]], .list [.list [.str "name", d], .list [.str "name", d]], .lst (SqL.of (s46 _ _ hD)) (.cons (one (s46 _ _ hra) dv) (.cons (one (s46 _ _ hrb) dv) .nil)), .lst (SqL.of upd_same) (.cons (one ((s5.trans s6) _ _ upd_same) dv) (.cons (one ((s5.trans s6) _ _ upd_same) dv) .nil)), lyD.shp (by decide), lyD.shp (by decide), _, rfl, if_neg' lyD.ne ?_⟩
        have sX := sa.trans (s2.trans s46)
        have dv0 := Dp.same sX dp
        have av0 := av.same sX
        replace s := s.trans sX
        generalize upd (upd (upd G2 L4 (.lst [.str "name", v])) L5 (.lst [.ref L4])) L6 (.lst (List.replicate (2 : Int).toNat [V.ref L4]).flatten) = G9 at s dv0 av0 ⊢
        clear sX dv s46 s4 s5 s6 nL4 nL5 nL6 hra hrb hr hD s2 sa hLa nDl av dp
        obtain ⟨b1, b2⟩ := dif_bad nw
        refine ⟨_, rfl, 2, v, rfl, .inr (.inl ⟨⟨rfl, av0, sh, b1⟩, fun r2 u2 Ga sa hu2 hr2 => ?_⟩)⟩
        refine ⟨_, rfl, 3, v, rfl, .inr (.inr (.inl ⟨⟨rfl, av0.same sa, sh, b2⟩, fun r3 u3 Gb sb hu3 hr3 => ⟨by show 2 ≤ sizeLine; omega, fun L4 nL4 => ?_⟩⟩))⟩
        have s4 := same_upd (o := .lst [.ref r2, .ref r3]) nL4
        refine ⟨_, rfl, by show 2 ≤ sizeLine; omega, fun q1 nq1 => ⟨by show 2 ≤ sizeLine; omega, fun M1 nM1 => ?_⟩⟩
        have sq1 := same_upd (o := .tup [.str "p", v]) nq1
        have sM1 := same_upd (o := .lst [.str "kind", .ref q1]) nM1
        refine ⟨_, rfl, by show 2 ≤ sizeLine; omega, fun q2 nq2 => ⟨by show 2 ≤ sizeLine; omega, fun M2 nM2 => ⟨by show 2 ≤ sizeLine; omega, fun M3 nM3 => ?_⟩⟩⟩
        have sq2 := same_upd (o := .tup [.str "g", v]) nq2
        have sM2 := same_upd (o := .lst [.str "kind", .ref q2]) nM2
        have sM3 := same_upd (o := .lst [.ref M1, .ref M2]) nM3
        have sR := sq1.trans (sM1.trans (sq2.trans (sM2.trans sM3)))
        have sAll := sa.trans (sb.trans (s4.trans sR))
        have dv := Dp.same sAll dv0
        have kd : ∀ {r t : Addr} {x : Str} {G : Hp}, G r = some (.lst [.str "kind", .ref t]) → SqT K G t [.str x, v] → Dp K G v d → Dp K G (.ref r) (.list [.str "kind", .tuple [.str x, d]]) := fun h1 h2 h3 => .lst (SqL.of h1) (.cons (.str _) (.cons (.tup h2 (.cons (.str _) (.cons h3 .nil))) .nil))
        have lyD : LyN 8 (.list [.list [.str "kind", .tuple [.str "p", d]], .list [.str "kind", .tuple [.str "g", d]]]) := .lst (.cons (.lst (.cons (.str okK) (.cons (.tup (.cons (.str okP) (.cons ly .nil))) .nil))) (.cons (.lst (.cons (.str okK) (.cons (.tup (.cons (.str okG) (.cons ly .nil))) .nil))) .nil))
        refine ⟨.list [.list [.str "kind", .tuple [.str "p", d]], .list [.str "kind", .tuple [.str "g", d]]], .list [.list [.str "kind", .tuple [.str "p", d]], .list [.str "kind", .tuple [.str "g", d]]],
          .lst (SqL.of (sR _ _ upd_same)) (.cons (kd ((sb.trans (s4.trans sR)) _ _ hr2) (Same.tupS (sb.trans (s4.trans sR)) hu2) dv) (.cons (kd ((s4.trans sR) _ _ hr3) (Same.tupS (s4.trans sR) hu3) dv) .nil)),
          .lst (SqL.of upd_same) (.cons (kd ((sq2.trans (sM2.trans sM3)) _ _ upd_same) (SqT.of ((sM1.trans (sq2.trans (sM2.trans sM3))) _ _ upd_same)) dv) (.cons (kd (sM3 _ _ upd_same) (SqT.of ((sM2.trans sM3) _ _ upd_same)) dv) .nil)), lyD.shp (by decide), lyD.shp (by decide), _, rfl, if_neg' lyD.ne ?_⟩
        exact ⟨⟨_, rfl⟩, s.trans sAll⟩
    · subst e
      replace s0 := s0.trans s
      clear its ht1 hL1 s
      -- p, p
      refine ⟨2, .str "p", rfl, .inr (.inl ⟨⟨rfl, .str _, by show (Str.ofString "p").length ≤ 1000; decide +kernel, by decide +kernel⟩, fun r2 u2 Ga sa hu2 hr2 => ?_⟩)⟩
      refine ⟨by show 2 ≤ sizeLine; omega, fun q1 nq1 => ⟨by show 2 ≤ sizeLine; omega, fun M1 nM1 => ?_⟩⟩
      have sq1 := same_upd (o := .tup [.str "p", .str "p"]) nq1
      have sM1 := same_upd (o := .lst [.str "kind", .ref q1]) nM1
      have shp1 : SeqAt.shaped (.list [.str "kind", .tuple [.str "p", .str "p"]]) = true := by decide +kernel
      refine ⟨.list [.str "kind", .tuple [.str "p", .str "p"]], .list [.str "kind", .tuple [.str "p", .str "p"]], .lst (SqL.of ((sq1.trans sM1) _ _ hr2)) (.cons (.str _) (.cons (.tup (Same.tupS (sq1.trans sM1) hu2) (.cons (.str _) (.cons (.str _) .nil))) .nil)), .lst (SqL.of upd_same) (.cons (.str _) (.cons (.tup (SqT.of (sM1 _ _ upd_same)) (.cons (.str _) (.cons (.str _) .nil))) .nil)), shp1, shp1, _, rfl, if_neg' (by decide +kernel) ?_⟩
      replace s0 := s0.trans (sa.trans (sq1.trans sM1))
      generalize upd (upd Ga q1 (.tup [.str "p", .str "p"])) M1 (.lst [.str "kind", .ref q1]) = G1 at s0 ⊢
      clear sa sq1 sM1 hu2 hr2 nq1 nM1
      -- g, a, b
      refine ⟨by show 3 ≤ sizeLine; omega, fun L1 nL1 => ⟨_, rfl, ⟨_, SqL.of upd_same⟩, ?_⟩⟩
      have sl := same_upd (o := .lst [.str "g", .str "a", .str "b"]) nL1
      have hL1 : (upd G1 L1 (.lst [.str "g", .str "a", .str "b"])) L1 = some (.lst [.str "g", .str "a", .str "b"]) := upd_same
      replace s0 := s0.trans sl
      generalize upd G1 L1 (.lst [.str "g", .str "a", .str "b"]) = G2 at s0 hL1 ⊢
      clear sl nL1
      refine for_it (walk_list (K := K) (a := L1) (xs := [.str "g", .str "a", .str "b"])) (fun i σ G => (∃ v0, σ = [v0, none, none]) ∧ Same G2 G) ⟨⟨_, rfl⟩, Same.refl _⟩ (fun i σ G _ ⟨_, s⟩ => SqL.of (s _ _ hL1)) (fun i v σ G G' hi ⟨⟨v0, e⟩, s⟩ ⟨eG, hx⟩ => ?_) (fun σ G ⟨⟨v0, e⟩, s⟩ => ?_)
      · subst e eG
        have iv : ∃ z : Str, v = .str z ∧ (decide (z.length ≤ 1000) && (!difV [.str "a", .str "b", .str "g", .str z] && PyData.strOk z)) = true := by
          have hv := List.mem_of_getElem? hx
          simp only [List.mem_cons, List.not_mem_nil, or_false] at hv
          rcases hv with rfl | rfl | rfl
          · exact ⟨_, rfl, by decide +kernel⟩
          · exact ⟨_, rfl, by decide +kernel⟩
          · exact ⟨_, rfl, by decide +kernel⟩
        obtain ⟨z, rfl, hz⟩ := iv
        simp only [Bool.and_eq_true, decide_eq_true_eq, Bool.not_eq_true'] at hz
        refine ⟨_, rfl, 3, _, rfl, .inr (.inr (.inl ⟨⟨rfl, .str _, hz.1, hz.2.1⟩, fun r3 u3 Gb sb hu3 hr3 => ?_⟩))⟩
        refine ⟨_, rfl, by show 2 ≤ sizeLine; omega, fun q2 nq2 => ⟨by show 2 ≤ sizeLine; omega, fun M2 nM2 => ?_⟩⟩
        have sq2 := same_upd (o := .tup [.str "g", .str z]) nq2
        have sM2 := same_upd (o := .lst [.str "kind", .ref q2]) nM2
        have lyD : LyN 8 (.list [.str "kind", .tuple [.str "g", .str z]]) := (LyN.lst (n := 1) (.cons (.str okK) (.cons (.tup (.cons (.str okG) (.cons (.str hz.2.2) .nil))) .nil))).mono (by decide)
        refine ⟨.list [.str "kind", .tuple [.str "g", .str z]], .list [.str "kind", .tuple [.str "g", .str z]], .lst (SqL.of ((sq2.trans sM2) _ _ hr3)) (.cons (.str _) (.cons (.tup (Same.tupS (sq2.trans sM2) hu3) (.cons (.str _) (.cons (.str _) .nil))) .nil)), .lst (SqL.of upd_same) (.cons (.str _) (.cons (.tup (SqT.of (sM2 _ _ upd_same)) (.cons (.str _) (.cons (.str _) .nil))) .nil)), lyD.shp (by decide), lyD.shp (by decide), _, rfl, if_neg' lyD.ne ?_⟩
        exact ⟨⟨_, rfl⟩, s.trans (sb.trans (sq2.trans sM2))⟩
      subst e
      replace s0 := s0.trans s
      clear hL1 s
      refine ⟨by show 0 ≤ sizeLine; omega, fun a1 na1 => ?_⟩
      have sa1 := same_upd (o := .lst []) na1
      have ha1 : (upd G a1 (.lst [])) a1 = some (.lst []) := upd_same
      replace s0 := s0.trans sa1
      generalize upd G a1 (.lst []) = X1 at s0 ha1  ⊢
      clear sa1 na1
      refine ⟨by show 1 ≤ sizeLine; omega, fun b1 nb1 => ?_⟩
      have sb1 := same_upd (o := .tup [.str "p"]) nb1
      have hb1 : (upd X1 b1 (.tup [.str "p"])) b1 = some (.tup [.str "p"]) := upd_same
      replace ha1 := sb1 _ _ ha1
      replace s0 := s0.trans sb1
      generalize upd X1 b1 (.tup [.str "p"]) = X2 at s0 hb1 ha1 ⊢
      clear sb1 nb1
      refine ⟨by show 1 ≤ sizeLine; omega, fun c1 nc1 => ?_⟩
      have sc1 := same_upd (o := .tup [.ref b1]) nc1
      have hc1 : (upd X2 c1 (.tup [.ref b1])) c1 = some (.tup [.ref b1]) := upd_same
      replace ha1 := sc1 _ _ ha1
      replace hb1 := sc1 _ _ hb1
      replace s0 := s0.trans sc1
      generalize upd X2 c1 (.tup [.ref b1]) = X3 at s0 hc1 ha1 hb1 ⊢
      clear sc1 nc1
      refine ⟨by show 2 ≤ sizeLine; omega, fun b2 nb2 => ?_⟩
      have sb2 := same_upd (o := .tup [.str "p", .str "p"]) nb2
      have hb2 : (upd X3 b2 (.tup [.str "p", .str "p"])) b2 = some (.tup [.str "p", .str "p"]) := upd_same
      replace ha1 := sb2 _ _ ha1
      replace hb1 := sb2 _ _ hb1
      replace hc1 := sb2 _ _ hc1
      replace s0 := s0.trans sb2
      generalize upd X3 b2 (.tup [.str "p", .str "p"]) = X4 at s0 hb2 ha1 hb1 hc1 ⊢
      clear sb2 nb2
      refine ⟨by show 1 ≤ sizeLine; omega, fun c2 nc2 => ?_⟩
      have sc2 := same_upd (o := .tup [.ref b2]) nc2
      have hc2 : (upd X4 c2 (.tup [.ref b2])) c2 = some (.tup [.ref b2]) := upd_same
      replace ha1 := sc2 _ _ ha1
      replace hb1 := sc2 _ _ hb1
      replace hc1 := sc2 _ _ hc1
      replace hb2 := sc2 _ _ hb2
      replace s0 := s0.trans sc2
      generalize upd X4 c2 (.tup [.ref b2]) = X5 at s0 hc2 ha1 hb1 hc1 hb2 ⊢
      clear sc2 nc2
      refine ⟨by show 2 ≤ sizeLine; omega, fun b3 nb3 => ?_⟩
      have sb3 := same_upd (o := .tup [.str "p", .str "z"]) nb3
      have hb3 : (upd X5 b3 (.tup [.str "p", .str "z"])) b3 = some (.tup [.str "p", .str "z"]) := upd_same
      replace ha1 := sb3 _ _ ha1
      replace hb1 := sb3 _ _ hb1
      replace hc1 := sb3 _ _ hc1
      replace hb2 := sb3 _ _ hb2
      replace hc2 := sb3 _ _ hc2
      replace s0 := s0.trans sb3
      generalize upd X5 b3 (.tup [.str "p", .str "z"]) = X6 at s0 hb3 ha1 hb1 hc1 hb2 hc2 ⊢
      clear sb3 nb3
      refine ⟨by show 1 ≤ sizeLine; omega, fun c3 nc3 => ?_⟩
      have sc3 := same_upd (o := .tup [.ref b3]) nc3
      have hc3 : (upd X6 c3 (.tup [.ref b3])) c3 = some (.tup [.ref b3]) := upd_same
      replace ha1 := sc3 _ _ ha1
      replace hb1 := sc3 _ _ hb1
      replace hc1 := sc3 _ _ hc1
      replace hb2 := sc3 _ _ hb2
      replace hc2 := sc3 _ _ hc2
      replace hb3 := sc3 _ _ hb3
      replace s0 := s0.trans sc3
      generalize upd X6 c3 (.tup [.ref b3]) = X7 at s0 hc3 ha1 hb1 hc1 hb2 hc2 hb3 ⊢
      clear sc3 nc3
      refine ⟨by show 6 ≤ sizeLine; omega, fun M1 nM1 => ?_⟩
      have sM1 := same_upd (o := .lst [.non, .ref a1, .str "pq", .ref c1, .ref c2, .ref c3]) nM1
      have hM1 : (upd X7 M1 (.lst [.non, .ref a1, .str "pq", .ref c1, .ref c2, .ref c3])) M1 = some (.lst [.non, .ref a1, .str "pq", .ref c1, .ref c2, .ref c3]) := upd_same
      replace ha1 := sM1 _ _ ha1
      replace hb1 := sM1 _ _ hb1
      replace hc1 := sM1 _ _ hc1
      replace hb2 := sM1 _ _ hb2
      replace hc2 := sM1 _ _ hc2
      replace hb3 := sM1 _ _ hb3
      replace hc3 := sM1 _ _ hc3
      replace s0 := s0.trans sM1
      generalize upd X7 M1 (.lst [.non, .ref a1, .str "pq", .ref c1, .ref c2, .ref c3]) = X8 at s0 hM1 ha1 hb1 hc1 hb2 hc2 hb3 hc3 ⊢
      clear sM1 nM1
      refine ⟨_, rfl, by show 2 ≤ sizeLine; omega, fun d1 nd1 => ?_⟩
      have sd1 := same_upd (o := .tup [.str "p", .str "q"]) nd1
      have hd1 : (upd X8 d1 (.tup [.str "p", .str "q"])) d1 = some (.tup [.str "p", .str "q"]) := upd_same
      replace ha1 := sd1 _ _ ha1
      replace hb1 := sd1 _ _ hb1
      replace hc1 := sd1 _ _ hc1
      replace hb2 := sd1 _ _ hb2
      replace hc2 := sd1 _ _ hc2
      replace hb3 := sd1 _ _ hb3
      replace hc3 := sd1 _ _ hc3
      replace hM1 := sd1 _ _ hM1
      replace s0 := s0.trans sd1
      generalize upd X8 d1 (.tup [.str "p", .str "q"]) = X9 at s0 hd1 ha1 hb1 hc1 hb2 hc2 hb3 hc3 hM1 ⊢
      clear sd1 nd1
      refine ⟨by show 2 ≤ sizeLine; omega, fun d2 nd2 => ?_⟩
      have sd2 := same_upd (o := .tup [.str "q", .str "r"]) nd2
      have hd2 : (upd X9 d2 (.tup [.str "q", .str "r"])) d2 = some (.tup [.str "q", .str "r"]) := upd_same
      replace ha1 := sd2 _ _ ha1
      replace hb1 := sd2 _ _ hb1
      replace hc1 := sd2 _ _ hc1
      replace hb2 := sd2 _ _ hb2
      replace hc2 := sd2 _ _ hc2
      replace hb3 := sd2 _ _ hb3
      replace hc3 := sd2 _ _ hc3
      replace hM1 := sd2 _ _ hM1
      replace hd1 := sd2 _ _ hd1
      replace s0 := s0.trans sd2
      generalize upd X9 d2 (.tup [.str "q", .str "r"]) = X10 at s0 hd2 ha1 hb1 hc1 hb2 hc2 hb3 hc3 hM1 hd1 ⊢
      clear sd2 nd2
      refine ⟨by show 2 ≤ sizeLine; omega, fun e1 ne1 => ?_⟩
      have se1 := same_upd (o := .tup [.ref d1, .ref d2]) ne1
      have he1 : (upd X10 e1 (.tup [.ref d1, .ref d2])) e1 = some (.tup [.ref d1, .ref d2]) := upd_same
      replace ha1 := se1 _ _ ha1
      replace hb1 := se1 _ _ hb1
      replace hc1 := se1 _ _ hc1
      replace hb2 := se1 _ _ hb2
      replace hc2 := se1 _ _ hc2
      replace hb3 := se1 _ _ hb3
      replace hc3 := se1 _ _ hc3
      replace hM1 := se1 _ _ hM1
      replace hd1 := se1 _ _ hd1
      replace hd2 := se1 _ _ hd2
      replace s0 := s0.trans se1
      generalize upd X10 e1 (.tup [.ref d1, .ref d2]) = X11 at s0 he1 ha1 hb1 hc1 hb2 hc2 hb3 hc3 hM1 hd1 hd2 ⊢
      clear se1 ne1
      refine ⟨by show 2 ≤ sizeLine; omega, fun f1 nf1 => ?_⟩
      have sf1 := same_upd (o := .lst [.str "p", .str "q"]) nf1
      have hf1 : (upd X11 f1 (.lst [.str "p", .str "q"])) f1 = some (.lst [.str "p", .str "q"]) := upd_same
      replace ha1 := sf1 _ _ ha1
      replace hb1 := sf1 _ _ hb1
      replace hc1 := sf1 _ _ hc1
      replace hb2 := sf1 _ _ hb2
      replace hc2 := sf1 _ _ hc2
      replace hb3 := sf1 _ _ hb3
      replace hc3 := sf1 _ _ hc3
      replace hM1 := sf1 _ _ hM1
      replace hd1 := sf1 _ _ hd1
      replace hd2 := sf1 _ _ hd2
      replace he1 := sf1 _ _ he1
      replace s0 := s0.trans sf1
      generalize upd X11 f1 (.lst [.str "p", .str "q"]) = X12 at s0 hf1 ha1 hb1 hc1 hb2 hc2 hb3 hc3 hM1 hd1 hd2 he1 ⊢
      clear sf1 nf1
      refine ⟨by show 1 ≤ sizeLine; omega, fun g1 ng1 => ?_⟩
      have sg1 := same_upd (o := .tup [.ref f1]) ng1
      have hg1 : (upd X12 g1 (.tup [.ref f1])) g1 = some (.tup [.ref f1]) := upd_same
      replace ha1 := sg1 _ _ ha1
      replace hb1 := sg1 _ _ hb1
      replace hc1 := sg1 _ _ hc1
      replace hb2 := sg1 _ _ hb2
      replace hc2 := sg1 _ _ hc2
      replace hb3 := sg1 _ _ hb3
      replace hc3 := sg1 _ _ hc3
      replace hM1 := sg1 _ _ hM1
      replace hd1 := sg1 _ _ hd1
      replace hd2 := sg1 _ _ hd2
      replace he1 := sg1 _ _ he1
      replace hf1 := sg1 _ _ hf1
      replace s0 := s0.trans sg1
      generalize upd X12 g1 (.tup [.ref f1]) = X13 at s0 hg1 ha1 hb1 hc1 hb2 hc2 hb3 hc3 hM1 hd1 hd2 he1 hf1 ⊢
      clear sg1 ng1
      refine ⟨by show 1 ≤ sizeLine; omega, fun h1 nh1 => ?_⟩
      have sh1 := same_upd (o := .tup [.str "pq"]) nh1
      have hh1 : (upd X13 h1 (.tup [.str "pq"])) h1 = some (.tup [.str "pq"]) := upd_same
      replace ha1 := sh1 _ _ ha1
      replace hb1 := sh1 _ _ hb1
      replace hc1 := sh1 _ _ hc1
      replace hb2 := sh1 _ _ hb2
      replace hc2 := sh1 _ _ hc2
      replace hb3 := sh1 _ _ hb3
      replace hc3 := sh1 _ _ hc3
      replace hM1 := sh1 _ _ hM1
      replace hd1 := sh1 _ _ hd1
      replace hd2 := sh1 _ _ hd2
      replace he1 := sh1 _ _ he1
      replace hf1 := sh1 _ _ hf1
      replace hg1 := sh1 _ _ hg1
      replace s0 := s0.trans sh1
      generalize upd X13 h1 (.tup [.str "pq"]) = X14 at s0 hh1 ha1 hb1 hc1 hb2 hc2 hb3 hc3 hM1 hd1 hd2 he1 hf1 hg1 ⊢
      clear sh1 nh1
      refine ⟨by show 3 ≤ sizeLine; omega, fun M2 nM2 => ?_⟩
      have sM2 := same_upd (o := .lst [.ref e1, .ref g1, .ref h1]) nM2
      have hM2 : (upd X14 M2 (.lst [.ref e1, .ref g1, .ref h1])) M2 = some (.lst [.ref e1, .ref g1, .ref h1]) := upd_same
      replace ha1 := sM2 _ _ ha1
      replace hb1 := sM2 _ _ hb1
      replace hc1 := sM2 _ _ hc1
      replace hb2 := sM2 _ _ hb2
      replace hc2 := sM2 _ _ hc2
      replace hb3 := sM2 _ _ hb3
      replace hc3 := sM2 _ _ hc3
      replace hM1 := sM2 _ _ hM1
      replace hd1 := sM2 _ _ hd1
      replace hd2 := sM2 _ _ hd2
      replace he1 := sM2 _ _ he1
      replace hf1 := sM2 _ _ hf1
      replace hg1 := sM2 _ _ hg1
      replace hh1 := sM2 _ _ hh1
      replace s0 := s0.trans sM2
      generalize upd X14 M2 (.lst [.ref e1, .ref g1, .ref h1]) = X15 at s0 hM2 ha1 hb1 hc1 hb2 hc2 hb3 hc3 hM1 hd1 hd2 he1 hf1 hg1 hh1 ⊢
      clear sM2 nM2
      refine ⟨M1, M2, _, _, rfl, rfl, hM1, hM2, by show 6 + 3 ≤ sizeLine; omega, fun M3 nM3 => ?_⟩
      have sM3 := same_upd (o := .lst ([V.non, .ref a1, .str "pq", .ref c1, .ref c2, .ref c3] ++ [V.ref e1, .ref g1, .ref h1])) nM3
      have hM3 : (upd X15 M3 (.lst ([V.non, .ref a1, .str "pq", .ref c1, .ref c2, .ref c3] ++ [V.ref e1, .ref g1, .ref h1]))) M3 = some (.lst ([V.non, .ref a1, .str "pq", .ref c1, .ref c2, .ref c3] ++ [V.ref e1, .ref g1, .ref h1])) := upd_same
      have its4 : ∀ v ∈ ([V.non, .ref a1, .str "pq", .ref c1, .ref c2, .ref c3] ++ [V.ref e1, .ref g1, .ref h1] : List V), It4 K X15 v := fun v hv => by
        simp only [List.mem_append, List.mem_cons, List.not_mem_nil, or_false] at hv
        have one : ∀ {c b : Addr} {zs : List Str}, X15 c = some (.tup [.ref b]) → X15 b = some (.tup (zs.map V.str)) → zs.length ≤ 30 → (∀ z ∈ zs, z.length ≤ 1000) → grpB [some zs] ["p", "q", "r"] = false → LyN 3 (.tuple (zs.map .str)) → It4 K X15 (.ref c) := fun hc hb n30 sh g ly => by
          refine ⟨.inr ⟨_, _, _, rfl, Grs.one hc (.tup hb), by show 1 ≤ 10; decide, ?_, ?_, g⟩, _, .tup (SqT.of hc) (.cons (.tup (SqT.of hb) (dp_strs _)) .nil), (LyN.tup (.cons ly .nil)).mono (by decide)⟩
          · show (_ ++ []).length ≤ 40
            rw [List.append_nil]
            exact Nat.le_trans n30 (by decide)
          · show ∀ z ∈ ((_ ++ []) : List Str), Str.length z ≤ 1000
            rw [List.append_nil]
            exact sh
        rcases hv with (rfl | rfl | rfl | rfl | rfl | rfl) | (rfl | rfl | rfl)
        · exact ⟨.inl ⟨.non, fun a xs e => by cases e⟩, .none, .non, by decide, by decide⟩
        · exact ⟨.inl ⟨.lst ha1, fun a xs e h => by cases e; rw [ha1] at h; cases h⟩, .list [], .lst (SqL.of ha1) .nil, by decide +kernel, by decide +kernel⟩
        · exact ⟨.inl ⟨.str _, fun a xs e => by cases e⟩, .str "pq", .str _, by decide +kernel, by decide +kernel⟩
        · exact one (zs := ["p"]) hc1 hb1 (by decide) (by decide +kernel) (by decide +kernel) (by constructor <;> decide +kernel)
        · exact one (zs := ["p", "p"]) hc2 hb2 (by decide) (by decide +kernel) (by decide +kernel) (by constructor <;> decide +kernel)
        · exact one (zs := ["p", "z"]) hc3 hb3 (by decide) (by decide +kernel) (by decide +kernel) (by constructor <;> decide +kernel)
        · exact ⟨.inr ⟨_, _, _, rfl, Grs.two he1 (.tup (zs := ["p", "q"]) hd1) (.tup (zs := ["q", "r"]) hd2), by show 2 ≤ 10; decide, by decide, by decide +kernel, by decide +kernel⟩, .tuple [.tuple [.str "p", .str "q"], .tuple [.str "q", .str "r"]], .tup (SqT.of he1) (.cons (.tup (SqT.of hd1) (.cons (.str _) (.cons (.str _) .nil))) (.cons (.tup (SqT.of hd2) (.cons (.str _) (.cons (.str _) .nil))) .nil)), by constructor <;> decide +kernel⟩
        · exact ⟨.inr ⟨_, _, _, rfl, Grs.one hg1 (.lst hf1), by show 1 ≤ 10; decide, by decide, by decide +kernel, by decide +kernel⟩, .tuple [.list [.str "p", .str "q"]], .tup (SqT.of hg1) (.cons (.lst (SqL.of hf1) (.cons (.str _) (.cons (.str _) .nil))) .nil), by constructor <;> decide +kernel⟩
        · exact ⟨.inr ⟨_, _, _, rfl, Grs.one hh1 (.str "pq"), by show 1 ≤ 10; decide, by decide, by decide +kernel, by decide +kernel⟩, .tuple [.str "pq"], .tup (SqT.of hh1) (.cons (.str _) .nil), by constructor <;> decide +kernel⟩
      replace its4 := fun v hv => (its4 v hv).same sM3
      replace s0 := s0.trans sM3
      generalize upd X15 M3 (.lst ([V.non, .ref a1, .str "pq", .ref c1, .ref c2, .ref c3] ++ [V.ref e1, .ref g1, .ref h1])) = Y0 at s0 hM3 its4 ⊢
      clear sM3 nM3 ha1 hb1 hc1 hb2 hc2 hb3 hc3 hM1 hd1 hd2 he1 hf1 hg1 hh1 hM2
      refine ⟨_, rfl, M3, rfl, ⟨_, SqL.of hM3⟩, for_it (walk_list (K := K) (a := M3) (xs := [V.non, .ref a1, .str "pq", .ref c1, .ref c2, .ref c3] ++ [V.ref e1, .ref g1, .ref h1])) (fun i σ G => (∃ v0, σ = [v0, some (.ref M3), none]) ∧ Same Y0 G) ⟨⟨_, rfl⟩, Same.refl _⟩ (fun i σ G _ ⟨_, s⟩ => SqL.of (s _ _ hM3)) (fun i v σ G G' hi ⟨⟨v0, e⟩, s⟩ ⟨eG, hx⟩ => ?_) (fun σ G ⟨⟨v0, e⟩, s⟩ => ?_)⟩
      · subst e eG
        obtain ⟨bad, d, dp, ly⟩ := (its4 v (List.mem_of_getElem? hx)).same s
        refine ⟨_, rfl, 4, _, rfl, .inr (.inr (.inr (.inl ⟨⟨rfl, bad⟩, fun r3 Gb sb hr3 => ?_⟩)))⟩
        refine ⟨_, rfl, by show 2 ≤ sizeLine; omega, fun N2 nN2 => ?_⟩
        have sN2 := same_upd (o := .lst [.str "kind", v]) nN2
        have dv := Dp.same (sb.trans sN2) dp
        have lyD : LyN 8 (.list [.str "kind", d]) := (LyN.lst (.cons (.str okK) (.cons ly .nil))).mono (by decide)
        refine ⟨.list [.str "kind", d], .list [.str "kind", d], .lst (SqL.of (sN2 _ _ hr3)) (.cons (.str _) (.cons dv .nil)), .lst (SqL.of upd_same) (.cons (.str _) (.cons dv .nil)), lyD.shp (by decide), lyD.shp (by decide), _, rfl, if_neg' lyD.ne ?_⟩
        exact ⟨⟨_, rfl⟩, s.trans (sb.trans sN2)⟩
      subst e
      replace s0 := s0.trans s
      clear its4 hM3 s
      -- rules
      refine ⟨by show 1 ≤ sizeLine; omega, fun t1 nt1 => ⟨by show 5 ≤ sizeLine; omega, fun L1 nL1 => ⟨_, rfl, ⟨_, SqL.of upd_same⟩, ?_⟩⟩⟩
      have sl := (same_upd (o := .tup [.str "sum"]) nt1).trans (same_upd (o := .lst [.int 5, .str "Sum", .str "", .ref t1, .bl true]) nL1)
      have hL1 : (upd (upd G t1 (.tup [.str "sum"])) L1 (.lst [.int 5, .str "Sum", .str "", .ref t1, .bl true])) L1 = some (.lst [.int 5, .str "Sum", .str "", .ref t1, .bl true]) := upd_same
      have ht1 := same_upd (o := .lst [.int 5, .str "Sum", .str "", .ref t1, .bl true]) nL1 _ _ (upd_same (H := G) (a := t1) (o := .tup [.str "sum"]))
      replace s0 := s0.trans sl
      generalize upd (upd G t1 (.tup [.str "sum"])) L1 (.lst [.int 5, .str "Sum", .str "", .ref t1, .bl true]) = Y1 at s0 hL1 ht1 ⊢
      clear sl nt1 nL1
      have its5 : ∀ v ∈ ([.int 5, .str "Sum", .str "", .ref t1, .bl true] : List V), It5 K Y1 v := fun v hv => by
        simp only [List.mem_cons, List.not_mem_nil, or_false] at hv
        rcases hv with rfl | rfl | rfl | rfl | rfl
        · exact ⟨⟨fun z => (by cases z), .int 5, fun w z => by cases z⟩, .int 5, .int 5, by decide, by decide⟩
        · exact ⟨⟨fun z => (by cases z), .str _, fun w z => by cases w <;> exact absurd (V.str.inj z) (by decide +kernel)⟩, .str "Sum", .str _, by decide +kernel, by decide +kernel⟩
        · exact ⟨⟨fun z => (by cases z), .str _, fun w z => by cases w <;> exact absurd (V.str.inj z) (by decide +kernel)⟩, .str "", .str _, by decide +kernel, by decide +kernel⟩
        · exact ⟨⟨fun z => (by cases z), .tup ht1, fun w z => by cases z⟩, .tuple [.str "sum"], .tup (SqT.of ht1) (.cons (.str _) .nil), by decide +kernel, by decide +kernel⟩
        · exact ⟨⟨fun z => (by cases z), .bl true, fun w z => by cases z⟩, .bool true, .bl true, by decide, by decide⟩
      refine for_it (walk_list (K := K) (a := L1) (xs := [.int 5, .str "Sum", .str "", .ref t1, .bl true])) (fun i σ G => (∃ v0, σ = [v0, some (.ref M3), none]) ∧ Same Y1 G) ⟨⟨_, rfl⟩, Same.refl _⟩ (fun i σ G _ ⟨_, s⟩ => SqL.of (s _ _ hL1)) (fun i v σ G G' hi ⟨⟨v0, e⟩, s⟩ ⟨eG, hx⟩ => ?_) (fun σ G ⟨⟨v0, e⟩, s⟩ => ?_)
      · subst e eG
        obtain ⟨⟨nn, nw⟩, d, dp, ly⟩ := (its5 v (List.mem_of_getElem? hx)).same s
        refine ⟨_, rfl, 5, _, rfl, .inr (.inr (.inr (.inr (.inr (.inl ⟨⟨.inl rfl, nn, nw⟩, fun r2 Ga sa hr2 => ?_⟩)))))⟩
        refine ⟨_, rfl, 6, _, rfl, .inr (.inr (.inr (.inr (.inr (.inl ⟨⟨.inr rfl, nn, nw.1.same sa, nw.2⟩, fun r3 Gb sb hr3 => ⟨by show 2 ≤ sizeLine; omega, fun L3 nL3 => ?_⟩⟩)))))⟩
        have s3 := same_upd (o := .lst [.ref r2, .ref r3]) nL3
        refine ⟨_, rfl, by show 2 ≤ sizeLine; omega, fun L4 nL4 => ⟨by show 1 ≤ sizeLine; omega, fun L5 nL5 => ⟨L5, 2, _, rfl, rfl, upd_same, by decide, by decide, by show 1 * 2 ≤ sizeLine; omega, fun L6 nL6 => ?_⟩⟩⟩
        have s4 := same_upd (o := .lst [.str "kind", v]) nL4
        have s5 := same_upd (o := .lst [.ref L4]) nL5
        have s6 := same_upd (o := .lst (List.replicate (2 : Int).toNat [V.ref L4]).flatten) nL6
        have s46 := s4.trans (s5.trans s6)
        have sAll := sa.trans (sb.trans (s3.trans s46))
        have dv := Dp.same sAll dp
        have lyD : LyN 7 (.list [.list [.str "kind", d], .list [.str "kind", d]]) := .lst (.cons (.lst (.cons (.str okK) (.cons ly .nil))) (.cons (.lst (.cons (.str okK) (.cons ly .nil))) .nil))
        have one : ∀ {r : Addr} {G : Hp}, G r = some (.lst [.str "kind", v]) → Dp K G v d → Dp K G (.ref r) (.list [.str "kind", d]) := fun h dv => .lst (SqL.of h) (.cons (.str _) (.cons dv .nil))
        refine ⟨.list [.list [.str "kind", d], .list [.str "kind", d]], .list [.list [.str "kind", d], .list [.str "kind", d]], .lst (SqL.of (s46 _ _ upd_same)) (.cons (one ((sb.trans (s3.trans s46)) _ _ hr2) dv) (.cons (one ((s3.trans s46) _ _ hr3) dv) .nil)), .lst (SqL.of upd_same) (.cons (one ((s5.trans s6) _ _ upd_same) dv) (.cons (one ((s5.trans s6) _ _ upd_same) dv) .nil)), lyD.shp (by decide), lyD.shp (by decide), _, rfl, if_neg' lyD.ne ?_⟩
        exact ⟨⟨_, rfl⟩, s.trans sAll⟩
      subst e
      replace s0 := s0.trans s
      clear its5 hL1 ht1 s
      -- none
      have shpN : SeqAt.shaped (.list [.str "none"]) = true := by decide +kernel
      refine ⟨by show 0 ≤ sizeLine; omega, fun t1 nt1 => ⟨4, .ref t1, rfl, .inr (.inr (.inr (.inr (.inl ⟨⟨rfl, t1, rfl, upd_same⟩, fun r2 Ga sa hr2 => ?_⟩))))⟩⟩
      replace s0 := s0.trans ((same_upd nt1).trans sa)
      refine ⟨by show 1 ≤ sizeLine; omega, fun L2 nL2 => ?_⟩
      have sl := same_upd (o := .lst [.str "none"]) nL2
      refine ⟨.list [.str "none"], .list [.str "none"], .lst (SqL.of (sl _ _ hr2)) (.cons (.str _) .nil), .lst (SqL.of upd_same) (.cons (.str _) .nil), shpN, shpN, _, rfl, if_pos' (by decide +kernel) ?_⟩
      replace s0 := s0.trans sl
      generalize upd Ga L2 (.lst [.str "none"]) = Y2 at s0 ⊢
      refine ⟨6, .non, rfl, .inr (.inr (.inr (.inr (.inr (.inr (.inr ⟨⟨rfl, rfl⟩, fun r3 Gb sb hr3 => ?_⟩))))))⟩
      refine ⟨by show 1 ≤ sizeLine; omega, fun L3 nL3 => ?_⟩
      have sl3 := same_upd (o := .lst [.str "none"]) nL3
      refine ⟨.list [.str "none"], .list [.str "none"], .lst (SqL.of (sl3 _ _ hr3)) (.cons (.str _) .nil), .lst (SqL.of upd_same) (.cons (.str _) .nil), shpN, shpN, _, rfl, if_neg' (by decide +kernel) ?_⟩
      replace s0 := s0.trans (sb.trans sl3)
      generalize upd Gb L3 (.lst [.str "none"]) = Y3 at s0 ⊢
      refine ⟨5, .str "sum", rfl, .inr (.inr (.inr (.inr (.inr (.inr (.inl ⟨⟨rfl, rfl⟩, fun r4 Gc sc4 hr4 => ?_⟩))))))⟩
      refine ⟨by show 2 ≤ sizeLine; omega, fun L4 nL4 => ?_⟩
      have sl4 := same_upd (o := .lst [.str "kind", .int 7]) nL4
      have shpK : SeqAt.shaped (.list [.str "kind", .int 7]) = true := by decide +kernel
      have ek : PyData.eqv (.list [.str "kind", .int 7]) (.list [.str "kind", .int 7]) = true := by decide +kernel
      refine ⟨.list [.str "kind", .int 7], .list [.str "kind", .int 7], .lst (SqL.of (sl4 _ _ hr4)) (.cons (.str _) (.cons (.int 7) .nil)), .lst (SqL.of upd_same) (.cons (.str _) (.cons (.int 7) .nil)), shpK, shpK, ?_⟩
      rw [ek]
      exact k _ (s0.trans (sc4.trans sl4))
end
end R4
end

-- K47
section
set_option Elab.async false
set_option linter.all false
set_option maxRecDepth 100000
set_option exponentiation.threshold 10000
namespace R4
open PySem L2 OwnOps OwnNe G1 StX SupX GenFor TryAs
abbrev sLaw : Stmt := top 47
abbrev NL : List Str := ["_law_script", "_law_k", "_law_draws_here", "_law_kind", "_law_pins", "_law_groups"]
section
variable {P : Program} {w : World} {K : PySem.W.Frag} {mg : Str → Option Value} {base : Heap} {C0 : Addr}
def spLaw (K : PySem.W.Frag) : Sp := fun vs H Q _ => ∃ (a : Addr) (ns : List Int), vs = [.ref a] ∧ SqL K H a (ns.map V.int) ∧ ∀ H', Same H H' → Q (.bl true) H'
theorem ok_law {f : Addr} {fd : FuncData} (F : Fun K "law" "law" sLaw f fd) (T : Bi mg) (GER : Glb P w K mg base "_law_errors_right" 10 [] spLEr) (GDs : Glb P w K mg base "_law_draws" 1 ["_law_script", "_law_k"] (spDraws K)) (GPk : Glb P w K mg base "_law_pin_kind" 9 ["_law_draws_here"] (spLPin K C0))
    (GPr : Glb P w K mg base "_law_pins_right" 5 ["_law_kind", "_law_pins", "_law_groups"] (spLRight K C0)) (GPa : Glb P w K mg base "_law_path_right" 11 ["_law_draws_here"] spLPr) : FnOk P w K mg base (L2.CX P w) 12 f fd ["_law_script"] (spLaw K) := by
  obtain ⟨_, _, mE, kE, GE, bE⟩ := GER.ex
  obtain ⟨_, _, mD, kD, GD, bD⟩ := GDs.ex
  obtain ⟨_, _, mP, kP, GP, bP⟩ := GPk.ex
  obtain ⟨_, _, mR, kR, GR, bR⟩ := GPr.ex
  obtain ⟨_, _, mA, kA, GA, bA⟩ := GPa.ex
  have sc : FnScope NL ["_law_script"] (defScope sLaw) := ⟨rfl, rfl, rfl, by decide +kernel, rfl, by decide +kernel, by decide +kernel⟩
  have hN := sc.nd
  refine F.okX sc (fun vs H Q E h => ?_) (fun cdv A outer s H vs Q E hr h => ?_)
  · obtain ⟨a, ns, rfl, _⟩ := h
    rfl
  · obtain ⟨a, ns, rfl, hS, fin⟩ := h
    refine ⟨_, pss_cons (ps_if (pt_not (pt_val (pe_call0 GE (hr.mono (by decide)) (by rfl) mE kE bE .nil passL))) (pss_one (ps_ret pe_bl)) pss_nil)
      (pss_cons (ps_for passOwn rfl (pi_range1 rfl T.range (pa_cons (pe_callB (call_max2 rfl) (by rfl) T.max (by decide +kernel) (pa_cons pe_int (pa_cons (pe_callB (call_min2 rfl) (by rfl) T.min (by decide +kernel) (pa_cons pe_int (pa_cons (pe_callB call_len_seq (by rfl) T.len PySem.boot_len (pa_cons (pv 0) pa_nil)) pa_nil))) pa_nil))) pa_nil)) (pg_name (i := 1) hN rfl (Or.inl rfl))
        (pss_cons (ps_set (i := 2) hN rfl (Or.inl rfl) (pe_call GD (hr.mono (by decide)) (by rfl) mD kD bD .nil passL (pa_cons (pv 0) (pa_cons (pv 1) pa_nil))))
        (pss_cons (ps_asg (pe_call GP (hr.mono (by decide)) (by rfl) mP kP bP .nil passL (pa_cons (pv 2) pa_nil)) (pg_tup rfl (pgs_cons (pg_name (i := 3) hN rfl (Or.inl rfl)) (pgs_cons (pg_name (i := 4) hN rfl (Or.inl rfl)) (pgs_cons (pg_name (i := 5) hN rfl (Or.inl rfl)) pgs_nil)))))
        (pss_one (ps_if (PW.pt (pw_or (pt_not (pt_val (pe_call GR (hr.mono (by decide)) (by rfl) mR kR bR .nil passL (pa_cons (pv 3) (pa_cons (pv 4) (pa_cons (pv 5) pa_nil)))))) (pw_or1 (pt_not (pt_val (pe_call GA (hr.mono (by decide)) (by rfl) mA kA bA .nil passL (pa_cons (pv 2) pa_nil))))))) (pss_one (ps_ret pe_bl)) pss_nil)))))
      (pss_one (ps_ret pe_bl))), ?_⟩
    refine ⟨rfl, fun G s0 => ⟨_, rfl, if_neg' rfl ?_⟩⟩
    refine ⟨_, rfl, a, _, rfl, .inl (s0.seq hS), _, _, rfl, _, _, rfl, _, rfl, ?_, ?_, for_range (fun j σ G2 => (∃ v1 v2 v3 v4 v5, σ = [some (.ref a), v1, v2, v3, v4, v5]) ∧ Same G G2) ⟨⟨_, _, _, _, _, rfl⟩, Same.refl G⟩ (fun j σ G2 hj ⟨⟨v1, v2, v3, v4, v5, e⟩, s2⟩ => ?_) (fun σ G2 ⟨⟨v1, v2, v3, v4, v5, e⟩, s2⟩ => ?_)⟩
    · split <;> split <;> omega
    · split <;> split <;> omega
    · subst e
      have S2 := s0.trans s2
      refine ⟨_, rfl, _, rfl, a, ns, _, rfl, S2.seq hS, fun l x y G3 s3 hl nl => ?_⟩
      refine ⟨_, rfl, l, x, y, rfl, hl, fun t kp lp lg dx n gts as G4 s4 ht pi hlp hlg n1 n6 ok fl g2 => ?_⟩
      refine ⟨t, _, rfl, SqT.of ht, rfl, _, _, rfl, _, _, rfl, _, _, rfl, rfl, ?_⟩
      refine ⟨_, rfl, _, rfl, _, rfl, kp, lp, lg, dx, n, gts, as, rfl, pi, hlp, hlg, n1, n6, ok, fl, g2, fun G5 s5 => ⟨_, rfl, if_neg' rfl ?_⟩⟩
      obtain ⟨x5, y5, hl4⟩ := s4.at_
      refine ⟨_, rfl, l, x5, y5, rfl, s5 _ _ hl4, fun G6 s6 => ⟨_, rfl, if_neg' rfl ⟨⟨_, _, _, _, _, rfl⟩, ?_⟩⟩⟩
      have h46 : SameX l G3 G6 := s4.sx.trans ((SameX.of s5).trans s6.sx)
      exact s2.trans fun b u e => h46 b u (ne_of_none e nl) (s3 b u e)
    · exact fin _ (s0.trans s2)
end
end R4
end

-- K49
section
set_option Elab.async false
set_option linter.all false
set_option maxRecDepth 100000
set_option maxHeartbeats 0
namespace R4
open PySem PySem.Spec PyProof.Rows L2 He HdB HdS OwnOps SupX OwnNe G1 StX GenFor
section
variable {P : Program} {w : World} {K : PySem.W.Frag} {mg : Str → Option Value} {base : Heap} {CX : CXT} {k : Nat} {f : Addr} {fd : FuncData} {ps : List Str} {sp : Sp}
theorem fnR_of (F : FnOk P w K mg base CX k f fd ps sp) (hb : L2.Binds K fd ps []) : FnR P w K mg base CX k f sp := fun A outer s H us vs Q E hr e0 r hs => by
  have KX : K.In s.heap := e0.mod.kin.keeps fun b o e => (e0.bs b o e).1
  have len : (us ++ []).length = ps.length := by
    rw [List.append_nil]
    exact r.length.symm.trans (F.len _ _ _ _ hs)
  have b := hb s us KX len
  rw [List.append_nil] at b
  exact F.run A outer s H ⟨us, []⟩ us vs Q E hr e0 b r hs
theorem KB.kc {C DK tp fx gE CP f gK DX : Addr} {d : Bool} (b : KB K C DK tp fx gE CP f gK DX d) : KCls K C := ⟨⟨b.pg, b.hd, b.po, b.sa⟩, b.n1, b.n2, b.n3, b.n4, b.n5, b.n6, b.n7, b.n8⟩
theorem KB.mk_ {C DK tp fx gE CP f gK DX : Addr} {d : Bool} (b : KB K C DK tp fx gE CP f gK DX d) : Mk K C f := ⟨b.mks, b.ini, b.fi, b.kp⟩
theorem con_of {C : Addr} {d : Bool} (e : PySem.W.findIn K (.ref C) "DIRECTED" = some (some (.bool d))) (ht : PySem.W.specialIn K (.bool true) "__get__" = some none) (hf : PySem.W.specialIn K (.bool false) "__get__" = some none) : ∃ u, Con K C "DIRECTED" (.bl d) u :=
  ⟨.bool d, e, rfl, by cases d <;> assumption, by decide +kernel⟩
theorem glbD {x : Str} {st : Stmt} {h : Heap} (X : K.In h) (G : h.Ns mainGlobals mg) (e : PySem.W.nsIn K mainGlobals x = some (some (.ref f))) (F : ∃ fd, Fun K x x st f fd) (ok : ∀ fd, Fun K x x st f fd → FnOk P w K mg base (L2.CX P w) k f fd ps sp)
    (b : ∀ fd, Fun K x x st f fd → L2.Binds K fd ps []) : Glb P w K mg base x k ps sp :=
  let ⟨fd, F⟩ := F
  ⟨f, fd, PySem.W.mg_of X G e, F.kp, ok fd F, b fd F⟩
end
set_option maxHeartbeats 0 in
theorem ends {w : World} {K : PySem.W.Frag} {h : Heap} {mg : Str → Option Value} {fa : Addr} (X : K.In h) (G : h.Ns mainGlobals mg) (hfa : mg "law" = some (.ref fa)) (c : SaysS ck fn sn pn K) :
    ∃ fd : FuncData, (∀ (s : Shared) (v : Value), BindsTo s fd ⟨[v], []⟩ [("_law_script", v)]) ∧ ∀ base : Heap, K.In base → base.Ns mainGlobals mg → FnGd.FnG (PySem.Challenge.rw_wishedwires_k04_kinds_described).prog w K mg base (L2.CX (PySem.Challenge.rw_wishedwires_k04_kinds_described).prog w) 12 fa fd ["_law_script"] (spLaw K) := by
  have e := hfa.symm.trans (PySem.W.mg_of X G (c.b.isP 66 (p := Fc66)))
  cases e
  obtain ⟨fdL, FL⟩ : ∃ fd, Fun K "law" "law" sLaw (gaX K "law") fd := funOf (c.b.def_ 18)
  refine ⟨fdL, fun s v => ?_, fun base KX KG => ?_⟩
  · obtain ⟨oc, od, kV, doc, pm, an, cdv, ct, osl, rfl, _, _⟩ := FL.ex
    exact .of_eq rfl
  have T : Bi mg := { isi := PySem.W.mg_none_of KX KG (c.b.isP 67 (p := Fc67)), int := PySem.W.mg_none_of KX KG (c.b.isP 68 (p := Fc68)), str := PySem.W.mg_none_of KX KG (c.b.isP 69 (p := Fc69)), len := PySem.W.mg_none_of KX KG (c.b.isP 70 (p := Fc70)), all := PySem.W.mg_none_of KX KG (c.b.isP 71 (p := Fc71)), set := PySem.W.mg_none_of KX KG (c.b.isP 72 (p := Fc72)), tuple := PySem.W.mg_none_of KX KG (c.b.isP 73 (p := Fc73)), list := PySem.W.mg_none_of KX KG (c.b.isP 74 (p := Fc74)), dict := PySem.W.mg_none_of KX KG (c.b.isP 75 (p := Fc75)), min := PySem.W.mg_none_of KX KG (c.b.isP 76 (p := Fc76)), max := PySem.W.mg_none_of KX KG (c.b.isP 77 (p := Fc77)), range := PySem.W.mg_none_of KX KG (c.b.isP 78 (p := Fc78)), enum := PySem.W.mg_none_of KX KG (c.b.isP 79 (p := Fc79)), zip := PySem.W.mg_none_of KX KG (c.b.isP 80 (p := Fc80)), sorted := PySem.W.mg_none_of KX KG (c.b.isP 81 (p := Fc81)), sup := PySem.W.mg_none_of KX KG (c.b.isP 82 (p := Fc82)) }
  have Nm : Nums mg := ⟨int_ok KX KG (c.b.isP 45 (p := Fc45)), int_ok KX KG (c.b.isP 46 (p := Fc46)), int_ok KX KG (c.b.isP 47 (p := Fc47))⟩
  have eN := ErrB.txt (c.b.isP 43 (p := Fc43)) (c.b.def_ 26) mg (PySem.W.mg_of KX KG (c.b.isP 43 (p := Fc43)).here)
  have eK := ErrB.txt (c.b.isP 42 (p := Fc42)) (c.b.def_ 25) mg (PySem.W.mg_of KX KG (c.b.isP 42 (p := Fc42)).here)
  have U : RTxt K mg (gaX K "ValueRule") (gaX K "InvalidKind") _ := { cl := (c.b.isP 34 (p := Fc34)), nW := (c.b.isP 35 (p := Fc35)), gD := PySem.W.mg_of KX KG (c.b.isP 15 (p := Fc15)), eK := eK, ha := (c.b.isP 36 (p := Fc36)), hn := (c.b.isP 19 (p := Fc19)), htk := (c.b.isP 20 (p := Fc20)), hm := (c.b.isP 37 (p := Fc37)), kDD := (c.b.isP 38 (p := Fc38)), ksD := (c.b.isP 39 (p := Fc39)) "str" (by simp) }
  have GW : Glb (PySem.Challenge.rw_wishedwires_k04_kinds_described).prog w K mg base "is_word" 1 ["value"] (spWord) := glbD (st := top 5) KX KG (c.b.isP 48 (p := Fc48)) (funOf (c.b.def_ 0)) (fun fd F => ok_word F T Nm) (fun fd F => F.binds (ps := ["value"]) fun _ _ _ _ _ _ us hl => match us, hl with | [_], _ => rfl)
  have GDi : Glb (PySem.Challenge.rw_wishedwires_k04_kinds_described).prog w K mg base "are_different_words" 2 ["values"] (spDiff K) := glbD (st := top 6) KX KG (c.b.isP 49 (p := Fc49)) (funOf (c.b.def_ 1)) (fun fd F => ok_diff F T GW) (fun fd F => F.binds (ps := ["values"]) fun _ _ _ _ _ _ us hl => match us, hl with | [_], _ => rfl)
  have GWr : Glb (PySem.Challenge.rw_wishedwires_k04_kinds_described).prog w K mg base "_worded" 1 ["words", "tail"] (spWrd K) := glbD (st := top 35) KX KG (c.b.isP 55 (p := Fc55)) (funOf (c.b.def_ 7)) (fun fd F => ok_wrd F) (fun fd F => F.binds (ps := ["words", "tail"]) fun _ _ _ _ _ _ us hl => match us, hl with | [_, _], _ => rfl)
  have GPl : Glb (PySem.Challenge.rw_wishedwires_k04_kinds_described).prog w K mg base "_path_line" 2 ["kind", "rules"] (spPL K (gaX K "ValueRule")) := glbD (st := top 34) KX KG (c.b.isP 54 (p := Fc54)) (funOf (c.b.def_ 6)) (fun fd F => ok_pl F T U GWr) (fun fd F => F.binds (ps := ["kind", "rules"]) fun _ _ _ _ _ _ us hl => match us, hl with | [_, _], _ => rfl)
  obtain ⟨fdK, FK⟩ : ∃ fd, Fun K "__init__" "Kind.__init__" (sKi 1) (maX K "Kind" "__init__") fd := funOf (c.b.def_ 21)
  have okK : FnOk (PySem.Challenge.rw_wishedwires_k04_kinds_described).prog w K mg base (L2.CX (PySem.Challenge.rw_wishedwires_k04_kinds_described).prog w) 3 (maX K "Kind" "__init__") fdK ["self", "name"] (spKI K (gaX K "InvalidName")) := ok_ki FK eN GW
  have GKR := fnR_of okK (FK.binds (ps := ["self", "name"]) fun _ _ _ _ _ _ us hl => match us, hl with | [_, _], _ => rfl)
  obtain ⟨fdV, FV⟩ : ∃ fd, Fun K "__init__" "ValueRule.__init__" (sVR 0) (maX K "ValueRule" "__init__") fd := funOf (c.b.def_ 19)
  have okV : FnOk (PySem.Challenge.rw_wishedwires_k04_kinds_described).prog w K mg base (L2.CX (PySem.Challenge.rw_wishedwires_k04_kinds_described).prog w) 4 (maX K "ValueRule" "__init__") fdV ["self", "word"] (spVI (gaX K "ValueRule") (gaX K "InvalidKind")) := ok_vi FV U
  have bV := (FV.binds (ps := ["self", "word"]) fun _ _ _ _ _ _ us hl => match us, hl with | [_, _], _ => rfl)
  obtain ⟨vm1, vm2, vm3, vm4⟩ := (c.b.isP 40 (p := Fc40))
  have mkV : Mk K (gaX K "ValueRule") (maX K "ValueRule" "__init__") := ⟨vm1, vm3, vm4, vm2⟩
  obtain ⟨fdQ, FQ⟩ : ∃ fd, Fun K "__eq__" "ValueRule.__eq__" (sVR 3) (maX K "ValueRule" "__eq__") fd := funOf (c.b.def_ 20)
  have okQ : FnOk (PySem.Challenge.rw_wishedwires_k04_kinds_described).prog w K mg base (L2.CX (PySem.Challenge.rw_wishedwires_k04_kinds_described).prog w) 1 (maX K "ValueRule" "__eq__") fdQ ["self", "other"] (spVEq (gaX K "ValueRule")) := ok_veq FQ T U
  have bQ := (FQ.binds (ps := ["self", "other"]) fun _ _ _ _ _ _ us hl => match us, hl with | [_, _], _ => rfl)
  obtain ⟨ve1, ve2, ve3, ve4⟩ := (c.b.isP 41 (p := Fc41))
  have dE : RulE K (gaX K "ValueRule") (maX K "ValueRule" "__eq__") := ⟨(c.b.isP 37 (p := Fc37)), ve3, ve1, ve2, ve4⟩
  have GAs : Glb (PySem.Challenge.rw_wishedwires_k04_kinds_described).prog w K mg base "_as_rule" 6 ["value"] (spAsR (gaX K "ValueRule") (gaX K "InvalidKind")) := glbD (st := top 30) KX KG (c.b.isP 50 (p := Fc50)) (funOf (c.b.def_ 2)) (fun fd F => ok_asr F T U ⟨_, _, mkV, okV, bV⟩ (c.b.isP 39 (p := Fc39))) (fun fd F => F.binds (ps := ["value"]) fun _ _ _ _ _ _ us hl => match us, hl with | [_], _ => rfl)
  have GGr : Glb (PySem.Challenge.rw_wishedwires_k04_kinds_described).prog w K mg base "_are_groups" 3 ["swaps", "pins"] (spGrp K) := glbD (st := top 31) KX KG (c.b.isP 51 (p := Fc51)) (funOf (c.b.def_ 3)) (fun fd F => ok_grp F T GDi) (fun fd F => F.binds (ps := ["swaps", "pins"]) fun _ _ _ _ _ _ us hl => match us, hl with | [_, _], _ => rfl)
  have GMa : Glb (PySem.Challenge.rw_wishedwires_k04_kinds_described).prog w K mg base "_mates" 3 ["pin", "pins", "groups"] (spMat K) := glbD (st := top 32) KX KG (c.b.isP 52 (p := Fc52)) (funOf (c.b.def_ 4)) (fun fd F => ok_mat F T) (fun fd F => F.binds (ps := ["pin", "pins", "groups"]) fun _ _ _ _ _ _ us hl => match us, hl with | [_, _, _], _ => rfl)
  have GOr : Glb (PySem.Challenge.rw_wishedwires_k04_kinds_described).prog w K mg base "_orders" 3 ["choices"] (spOrd) := glbD (st := top 33) KX KG (c.b.isP 53 (p := Fc53)) (funOf (c.b.def_ 5)) (fun fd F => ok_ord F T) (fun fd F => F.binds (ps := ["choices"]) fun _ _ _ _ _ _ us hl => match us, hl with | [_], _ => rfl)
  have SG : SupG K (PySem.Challenge.rw_wishedwires_k04_kinds_described).prog := ⟨(c.b.isP 29 (p := Fc29)), (c.b.isP 30 (p := Fc30)), by kernel_rfl⟩
  have SDI : SDef K (PySem.Challenge.rw_wishedwires_k04_kinds_described).prog "PinKind.__init__" (sPin 0) [(("swaps" : Str), V.ref (kwAd K (maX K "PinKind" "__init__") "swaps"))] (maX K "PinKind" "__init__") (gaX K "PinKind") := by
    obtain ⟨oc, od, kV, doc, pm, an, cda, ct, cc, osl, l1, l2, l3, ⟨cl, od2, vs, sl, file, tf, e1, e2, e3⟩, l5⟩ := c.sdef 0
    exact ⟨⟨oc, od, kV, doc, pm, an, cda, ct, cc, osl, l1, l2, l3, ⟨cl, od2, vs, sl, file, tf, e1, e2, beq_iff_eq.mpr e3.symm⟩, l5⟩, (c.b.isP 31 (p := Fc31))⟩
  have SDP : SDef K (PySem.Challenge.rw_wishedwires_k04_kinds_described).prog "PathKind.__init__" (sPath 0) [] (maX K "PathKind" "__init__") (gaX K "PathKind") := by
    obtain ⟨oc, od, kV, doc, pm, an, cda, ct, cc, osl, l1, l2, l3, ⟨cl, od2, vs, sl, file, tf, e1, e2, e3⟩, l5⟩ := c.sdef 1
    exact ⟨⟨oc, od, kV, doc, pm, an, cda, ct, cc, osl, l1, l2, l3, ⟨cl, od2, vs, sl, file, tf, e1, e2, beq_iff_eq.mpr e3.symm⟩, l5⟩, (c.b.isP 32 (p := Fc32))⟩
  have SDJ : SDef K (PySem.Challenge.rw_wishedwires_k04_kinds_described).prog "JoiningKind.__init__" (sJoi 0) [(("row" : Str), V.non), (("side" : Str), V.non)] (maX K "JoiningKind" "__init__") (gaX K "JoiningKind") := by
    obtain ⟨oc, od, kV, doc, pm, an, cda, ct, cc, osl, l1, l2, l3, ⟨cl, od2, vs, sl, file, tf, e1, e2, e3⟩, l5⟩ := c.sdef 2
    exact ⟨⟨oc, od, kV, doc, pm, an, cda, ct, cc, osl, l1, l2, l3, ⟨cl, od2, vs, sl, file, tf, e1, e2, beq_iff_eq.mpr e3.symm⟩, l5⟩, (c.b.isP 33 (p := Fc33))⟩
  obtain ⟨tK1, tK2⟩ := (c.b.isP 27 (p := Fc27))
  obtain ⟨tP1, tP2⟩ := (c.b.isP 28 (p := Fc28))
  have FPa : FnA (PySem.Challenge.rw_wishedwires_k04_kinds_described).prog w K mg base (L2.CX (PySem.Challenge.rw_wishedwires_k04_kinds_described).prog w) 5 (maX K "PathKind" "__init__") (saPath K (gaX K "InvalidName") (gaX K "InvalidKind") (gaX K "PathKind") (maX K "Kind" "__init__")) := ok_path SDP SG T Nm U GKR tK1 tK2 GDi GPl
  have FPR := (ok_path SDP SG T Nm U GKR tK1 tK2 GDi GPl).pos
  have FJo : FnA (PySem.Challenge.rw_wishedwires_k04_kinds_described).prog w K mg base (L2.CX (PySem.Challenge.rw_wishedwires_k04_kinds_described).prog w) 7 (maX K "JoiningKind" "__init__") (saJoi K (gaX K "ValueRule") (gaX K "InvalidKind") (gaX K "PathKind") (gaX K "JoiningKind") (maX K "Kind" "__init__") (maX K "PathKind" "__init__")) := ok_joi SDJ SG T U (FPR.imp fun vs H Q E ⟨a, b, rest, e1, e2, e3⟩ => ⟨a, b, rest, e1, rfl, e2, e3⟩) tP1 tP2 GAs GPl
  have FIn : FnA (PySem.Challenge.rw_wishedwires_k04_kinds_described).prog w K mg base (L2.CX (PySem.Challenge.rw_wishedwires_k04_kinds_described).prog w) 6 (maX K "PinKind" "__init__") (saPin K (gaX K "InvalidName") (gaX K "InvalidKind") (gaX K "PinKind") (maX K "Kind" "__init__") (kwAd K (maX K "PinKind" "__init__") "swaps")) := ok_pin SDI SG T Nm U GKR tK1 tK2 GDi GGr GMa GOr GWr
  have pr : ∀ C, PySem.W.findIn K (.ref C) "text" = some (some (.ref (maX K "Kind" "text"))) → PropOf K C "text" (maX K "Kind" "text") (tgX K) := fun C e => ⟨e, (c.b.isP 16 (p := Fc16)), (c.b.isP 17 (p := Fc17)), recB_ok (c.b.isP 18 (p := Fc18))⟩
  obtain ⟨fdT, FT⟩ : ∃ fd, Fun K "text" "Kind.text" (sKi 4) (tgX K) fd := funOf (c.pdef 0)
  have okT : FnOk (PySem.Challenge.rw_wishedwires_k04_kinds_described).prog w K mg base (L2.CX (PySem.Challenge.rw_wishedwires_k04_kinds_described).prog w) 1 (tgX K) fdT ["self"] (spText K (gaX K "Kind") (maX K "Kind" "text") (tgX K)) := ok_text FT
  have bT := (FT.binds (ps := ["self"]) fun _ _ _ _ _ _ us hl => match us, hl with | [_], _ => rfl)
  have KT : KndT K mg (gaX K "Kind") := ⟨PySem.W.mg_of KX KG (c.b.isP 14 (p := Fc14)), (c.b.isP 19 (p := Fc19)), (c.b.isP 20 (p := Fc20)), (c.b.isP 21 (p := Fc21))⟩
  obtain ⟨fdE, FE⟩ : ∃ fd, Fun K "__eq__" "Kind.__eq__" (sKi 5) (maX K "Kind" "__eq__") fd := funOf (c.b.def_ 23)
  have okE : FnOk (PySem.Challenge.rw_wishedwires_k04_kinds_described).prog w K mg base (L2.CX (PySem.Challenge.rw_wishedwires_k04_kinds_described).prog w) 3 (maX K "Kind" "__eq__") fdE ["self", "other"] (spKEq K (gaX K "Kind") (maX K "Kind" "text") (tgX K)) := ok_keq (ft := tgX K) FE T KT okT bT
  have bE := (FE.binds (ps := ["self", "other"]) fun _ _ _ _ _ _ us hl => match us, hl with | [_, _], _ => rfl)
  obtain ⟨fdX, FX⟩ : ∃ fd, Fun K "exchanges" "Kind.exchanges" (sKi 2) (maX K "Kind" "exchanges") fd := funOf (c.b.def_ 22)
  have okX : GFn2 (PySem.Challenge.rw_wishedwires_k04_kinds_described).prog w K mg base 1 (maX K "Kind" "exchanges") fdX ["self"] (spExch K) := ok_exch FX
  have bX := (FX.binds (ps := ["self"]) fun _ _ _ _ _ _ us hl => match us, hl with | [_], _ => rfl)
  obtain ⟨fdR, FR⟩ : ∃ fd, Fun K "rules" "JoiningKind.rules" (sJoi 1) (maX K "JoiningKind" "rules") fd := funOf (c.b.def_ 24)
  have okR : FnOk (PySem.Challenge.rw_wishedwires_k04_kinds_described).prog w K mg base (L2.CX (PySem.Challenge.rw_wishedwires_k04_kinds_described).prog w) 1 (maX K "JoiningKind" "rules") fdR ["self"] (spRules K) := ok_rules FR T
  have bR := (FR.binds (ps := ["self"]) fun _ _ _ _ _ _ us hl => match us, hl with | [_], _ => rfl)
  obtain ⟨fx1, fx2⟩ := (c.b.isP 24 (p := Fc24))
  obtain ⟨fr1, fr2⟩ := (c.b.isP 26 (p := Fc26))
  have b0 := (c.b.isP 0 (p := Fc0))
  have kn0 : KndC K (gaX K "Kind") (maX K "Kind" "text") (tgX K) (gaX K "PinKind") := ⟨b0.kc, pr _ b0.tx, b0.ha, b0.hm, b0.kK⟩
  have co0 := con_of b0.co (c.b.isP 22 (p := Fc22)) (c.b.isP 23 (p := Fc23))
  have b1 := (c.b.isP 2 (p := Fc2))
  have kn1 : KndC K (gaX K "Kind") (maX K "Kind" "text") (tgX K) (gaX K "PathKind") := ⟨b1.kc, pr _ b1.tx, b1.ha, b1.hm, b1.kK⟩
  have co1 := con_of b1.co (c.b.isP 22 (p := Fc22)) (c.b.isP 23 (p := Fc23))
  have b2 := (c.b.isP 4 (p := Fc4))
  have kn2 : KndC K (gaX K "Kind") (maX K "Kind" "text") (tgX K) (gaX K "DirectedKind") := ⟨b2.kc, pr _ b2.tx, b2.ha, b2.hm, b2.kK⟩
  have co2 := con_of b2.co (c.b.isP 22 (p := Fc22)) (c.b.isP 23 (p := Fc23))
  have b3 := (c.b.isP 6 (p := Fc6))
  have kn3 : KndC K (gaX K "Kind") (maX K "Kind" "text") (tgX K) (gaX K "JoiningKind") := ⟨b3.kc, pr _ b3.tx, b3.ha, b3.hm, b3.kK⟩
  have co3 := con_of b3.co (c.b.isP 22 (p := Fc22)) (c.b.isP 23 (p := Fc23))
  have b4 := (c.b.isP 8 (p := Fc8))
  have kn4 : KndC K (gaX K "Kind") (maX K "Kind" "text") (tgX K) (gaX K "DirectedJoiningKind") := ⟨b4.kc, pr _ b4.tx, b4.ha, b4.hm, b4.kK⟩
  have co4 := con_of b4.co (c.b.isP 22 (p := Fc22)) (c.b.isP 23 (p := Fc23))
  have c1 : PCl K mg "PathKind" (gaX K "PathKind") (maX K "PathKind" "__init__") (gaX K "PathKind") (maX K "Kind" "__init__") false := ⟨PySem.W.mg_of KX KG (c.b.isP 3 (p := Fc3)), b1.mk_, b1.kc, b1.so, co1⟩
  have p1 : PKnd K (gaX K "Kind") (maX K "Kind" "text") (tgX K) (maX K "Kind" "exchanges") (maX K "Kind" "__eq__") (gaX K "PathKind") (gaX K "PathKind") := ⟨kn1, ⟨b1.mx, fx1, fx2⟩, b1.eq, (c.b.isP 25 (p := Fc25)), b1.nf⟩
  have c2 : PCl K mg "DirectedKind" (gaX K "DirectedKind") (maX K "PathKind" "__init__") (gaX K "PathKind") (maX K "Kind" "__init__") true := ⟨PySem.W.mg_of KX KG (c.b.isP 5 (p := Fc5)), b2.mk_, b2.kc, b2.so, co2⟩
  have p2 : PKnd K (gaX K "Kind") (maX K "Kind" "text") (tgX K) (maX K "Kind" "exchanges") (maX K "Kind" "__eq__") (gaX K "PathKind") (gaX K "DirectedKind") := ⟨kn2, ⟨b2.mx, fx1, fx2⟩, b2.eq, (c.b.isP 25 (p := Fc25)), b2.nf⟩
  have c3 : PCl K mg "JoiningKind" (gaX K "JoiningKind") (maX K "JoiningKind" "__init__") (gaX K "PathKind") (maX K "Kind" "__init__") false := ⟨PySem.W.mg_of KX KG (c.b.isP 7 (p := Fc7)), b3.mk_, b3.kc, b3.so, co3⟩
  have p3 : PKnd K (gaX K "Kind") (maX K "Kind" "text") (tgX K) (maX K "Kind" "exchanges") (maX K "Kind" "__eq__") (gaX K "PathKind") (gaX K "JoiningKind") := ⟨kn3, ⟨b3.mx, fx1, fx2⟩, b3.eq, (c.b.isP 25 (p := Fc25)), b3.nf⟩
  have c4 : PCl K mg "DirectedJoiningKind" (gaX K "DirectedJoiningKind") (maX K "JoiningKind" "__init__") (gaX K "PathKind") (maX K "Kind" "__init__") true := ⟨PySem.W.mg_of KX KG (c.b.isP 9 (p := Fc9)), b4.mk_, b4.kc, b4.so, co4⟩
  have p4 : PKnd K (gaX K "Kind") (maX K "Kind" "text") (tgX K) (maX K "Kind" "exchanges") (maX K "Kind" "__eq__") (gaX K "PathKind") (gaX K "DirectedJoiningKind") := ⟨kn4, ⟨b4.mx, fx1, fx2⟩, b4.eq, (c.b.isP 25 (p := Fc25)), b4.nf⟩
  have keI : KndE K (gaX K "PinKind") (maX K "Kind" "__eq__") := ⟨b0.hm, b0.ne, b0.eq, (c.b.isP 25 (p := Fc25)), b0.nS⟩
  have GDs : Glb (PySem.Challenge.rw_wishedwires_k04_kinds_described).prog w K mg base "_law_draws" 1 ["_law_script", "_law_k"] (spDraws K) := glbD (st := top 37) KX KG (c.b.isP 56 (p := Fc56)) (funOf (c.b.def_ 8)) (fun fd F => ok_draws F T) (fun fd F => F.binds (ps := ["_law_script", "_law_k"]) fun _ _ _ _ _ _ us hl => match us, hl with | [_, _], _ => rfl)
  have GDr : Glb (PySem.Challenge.rw_wishedwires_k04_kinds_described).prog w K mg base "_law_draw" 1 ["_law_draws_here", "_law_upto"] (spDraw) := glbD (st := top 38) KX KG (c.b.isP 57 (p := Fc57)) (funOf (c.b.def_ 9)) (fun fd F => ok_draw F T) (fun fd F => F.binds (ps := ["_law_draws_here", "_law_upto"]) fun _ _ _ _ _ _ us hl => match us, hl with | [_, _], _ => rfl)
  have GLo : Glb (PySem.Challenge.rw_wishedwires_k04_kinds_described).prog w K mg base "_law_orders" 1 ["_law_size"] (spLOr) := glbD (st := top 39) KX KG (c.b.isP 58 (p := Fc58)) (funOf (c.b.def_ 10)) (fun fd F => ok_lor F T) (fun fd F => F.binds (ps := ["_law_size"]) fun _ _ _ _ _ _ us hl => match us, hl with | [_], _ => rfl)
  have GPk : Glb (PySem.Challenge.rw_wishedwires_k04_kinds_described).prog w K mg base "_law_pin_kind" 9 ["_law_draws_here"] (spLPin K (gaX K "PinKind")) := glbD (st := top 40) KX KG (c.b.isP 59 (p := Fc59)) (funOf (c.b.def_ 11)) (fun fd F => ok_lpin F T GDr (PySem.W.mg_of KX KG (c.b.isP 1 (p := Fc1))) b0.mk_ b0.kc b0.so FIn) (fun fd F => F.binds (ps := ["_law_draws_here"]) fun _ _ _ _ _ _ us hl => match us, hl with | [_], _ => rfl)
  have GGo : Glb (PySem.Challenge.rw_wishedwires_k04_kinds_described).prog w K mg base "_law_group_of" 1 ["_law_groups", "_law_pin"] (spGOf) := glbD (st := top 41) KX KG (c.b.isP 60 (p := Fc60)) (funOf (c.b.def_ 12)) (fun fd F => ok_gof F T) (fun fd F => F.binds (ps := ["_law_groups", "_law_pin"]) fun _ _ _ _ _ _ us hl => match us, hl with | [_, _], _ => rfl)
  have GPr : Glb (PySem.Challenge.rw_wishedwires_k04_kinds_described).prog w K mg base "_law_pins_right" 5 ["_law_kind", "_law_pins", "_law_groups"] (spLRight K (gaX K "PinKind")) := glbD (st := top 42) KX KG (c.b.isP 61 (p := Fc61)) (funOf (c.b.def_ 13)) (fun fd F => ok_lright F T kn0 keI co0 okT bT ⟨b0.mx, fx1, fx2⟩ okX bX okE bE GLo GGo) (fun fd F => F.binds (ps := ["_law_kind", "_law_pins", "_law_groups"]) fun _ _ _ _ _ _ us hl => match us, hl with | [_, _, _], _ => rfl)
  have GPk2 : Glb (PySem.Challenge.rw_wishedwires_k04_kinds_described).prog w K mg base "_law_path_kind" 9 ["_law_way", "_law_number", "_law_rules"] (spLPk (gaX K "ValueRule") (gaX K "PathKind") (gaX K "DirectedKind") (gaX K "JoiningKind") (gaX K "DirectedJoiningKind")) := glbD (st := top 43) KX KG (c.b.isP 62 (p := Fc62)) (funOf (c.b.def_ 14)) (fun fd F => ok_lpk F T c1 c2 c3 c4 (c.b.isP 10 (p := Fc10)) (c.b.isP 12 (p := Fc12)) FPa FJo) (fun fd F => F.binds (ps := ["_law_way", "_law_number", "_law_rules"]) fun _ _ _ _ _ _ us hl => match us, hl with | [_, _, _], _ => rfl)
  have GPa : Glb (PySem.Challenge.rw_wishedwires_k04_kinds_described).prog w K mg base "_law_path_right" 11 ["_law_draws_here"] (spLPr) := glbD (st := top 44) KX KG (c.b.isP 63 (p := Fc63)) (funOf (c.b.def_ 15)) (fun fd F => ok_lpr F T c1 co2 co3 co4 p1 p2 p3 p4 ⟨(c.b.isP 11 (p := Fc11)), fr1, fr2⟩ ⟨(c.b.isP 13 (p := Fc13)), fr1, fr2⟩ dE (PySem.W.mg_of KX KG (c.b.isP 15 (p := Fc15))) mkV okV bV okQ bQ okT bT okX bX okE bE okR bR FPa GDr GPk2) (fun fd F => F.binds (ps := ["_law_draws_here"]) fun _ _ _ _ _ _ us hl => match us, hl with | [_], _ => rfl)
  have GEr : Glb (PySem.Challenge.rw_wishedwires_k04_kinds_described).prog w K mg base "_law_error" 9 ["_law_way", "_law_value"] (spLErr K) := glbD (st := top 45) KX KG (c.b.isP 64 (p := Fc64)) (funOf (c.b.def_ 16)) (fun fd F => ok_lerr F U eN (c.b.isP 44 (p := Fc44)) (PySem.W.mg_of KX KG (c.b.isP 1 (p := Fc1))) b0.mk_ b0.kc b0.so FIn c1 FPa c3 (c.b.isP 10 (p := Fc10)) FJo) (fun fd F => F.binds (ps := ["_law_way", "_law_value"]) fun _ _ _ _ _ _ us hl => match us, hl with | [_, _], _ => rfl)
  have GEs : Glb (PySem.Challenge.rw_wishedwires_k04_kinds_described).prog w K mg base "_law_errors_right" 10 [] (spLEr) := glbD (st := top 46) KX KG (c.b.isP 65 (p := Fc65)) (funOf (c.b.def_ 17)) (fun fd F => ok_ler F T GEr) (fun fd F => F.binds (ps := []) fun _ _ _ _ _ _ us hl => match us, hl with | [], _ => rfl)
  exact FnGd.FnG.of (ok_law FL T GEs GDs GPk GPr GPa)
end R4
end

-- K4end
section
set_option Elab.async false
set_option linter.all false
open PySem PySem.W PyProof.Rows
set_option maxRecDepth 100000 in
set_option maxHeartbeats 0 in
theorem PySem.Challenge.cw_wishedwires_k04_kinds_described_holds : PySem.Challenge.rw_wishedwires_k04_kinds_described.Holds := by
  w_on; o_law
  refine HdI.head_imp (r := PySem.W.OpenLaw.row PySem.Challenge.rw_wishedwires_k04_kinds_described) (q := PySem.W.view (PySem.W.OpenLaw.row PySem.Challenge.rw_wishedwires_k04_kinds_described).prog [47]) (H := R4.hk) (ob := R4.ob) (M1 := 3000) (M := 20000) (loose := R4.names) (d := HandSHeadRun.topDef (PySem.W.OpenLaw.row PySem.Challenge.rw_wishedwires_k04_kinds_described).prog 47) (kwd := []) R4.ob_eq
    R4.run (by kernel_rfl) (by kernel_rfl) (by kernel_rfl) (by rfl) (by first | assumption | decide +kernel) (by decide +kernel) ⟨rfl, rfl, rfl, rfl, rfl, by decide +kernel⟩ ?hw ?hc
  case hw => w_witness2
  case hc =>
    refine HdB.walk_ofB (n := 63) (k := 12) (x := "_law_script") (CX := fun w => L2.CX (PySem.Challenge.rw_wishedwires_k04_kinds_described).prog w) rfl (by decide) (by kernel_rfl) ⟨rfl, by decide, by decide⟩ ?F fun w H s e s' z => ?g
    case F =>
      intro w mg fa h Y G hmg
      obtain ⟨K, KX, c⟩ := Y
      have hfa : mg ("law" : PySem.Str) = some (.ref fa) := by
        have e : (HandSHeadRun.topDef (OpenLaw.row PySem.Challenge.rw_wishedwires_k04_kinds_described).prog 47).name = ("law" : PySem.Str) := by kernel_rfl
        rw [← e]
        exact hmg
      obtain ⟨fd, hb, hF⟩ := R4.ends (w := w) KX G hfa c
      exact ⟨K, fd, R4.spLaw K, KX, hb, fun H a ns hl _ hS => ⟨a, ns, rfl, hS, fun _ _ => rfl⟩, hF⟩
    case g =>
      obtain ⟨_, _, _, _, _, _, _, _, _, _, _, _, z⟩ := z
      exact z
end
