import PyProof.Rows.All
import Wide.All
import OpenK.AllK
import Wide.FinOn
import HandS.ForExc
import KE.KOpsOwn
import KE.KCallOwn
import HandS.OwnEq
import KE.KExcInit
import HandS.ExcOwn
import HandS.TryMany
import PyProof.NeKinds
import HandS.ExcValue
import HandS.IsInst
import KE.KExcIs
import HandS.Comp
import HandS.DictComp
import HandS.ListItems
import HandS.Strs
import HandS.Zip
import PyProof.TupleIter
import PyProof.WalksMore
import KE.KSuper
import HandS.Star
import HandS.Nested
import HandS.ForMost
import HandS.Wide
import HandS.Defaults
import HandS.FStr
import HandS.Flow
import HandS.StrMore
import HandS.MapJoin
import HandS.Head0
import HandS.Head1
import HandS.Head2
import HandS.HeadHook1
import HandS.HeadHook2
import HandS.Words
import HandS.Walk
import HandS.MethStar
import HandS.Conv
import HandS.TupAny
import HandS.Iter
import KE.GoesEnum
import KE.KEqSeq
import HandS.Small
import HandS.SetFor
import HandS.List
import HandS.ClsMeth
import HandS.GenList
import HandS.GenCall
import PyProof.PlainList
import HandS.Property
import PySem.Challenge.RW_wishedwires_k74_block_kinds
-- OwnOps
section
set_option Elab.async false
set_option linter.all false
set_option maxRecDepth 100000
/-! Operators of own classes, as rules over values: by this text's own hand. -/
namespace OwnOps
open PySem L2

section
variable {X : Cx} {pins : List (Addr × Obj)} {σ : St} {H : Hp} {s : Shared} {a b C dx dy g : Addr} {fs fs' : List (Str × V)}

theorem inst_at (I : Inv X pins σ H s) (e : H a = some (.ins C dx fs)) : ∃ od, PySem.W.InstAt s.heap a (PySem.W.instObj C dx) C (some od) := by
  obtain ⟨mA, O, _⟩ := ins_get I.hok e
  obtain ⟨od, J, _⟩ := O.look
  exact ⟨od, J⟩

theorem back_of {Q : Value → Shared → Prop} {s' : Shared} {v : V} {u : Value} (r : RelV v u) (q : Q u s') : PySem.W.CmpBack Q u s' := by
  cases v with
  | non => cases (show u = Value.none from r); exact q
  | bl b => cases (show u = Value.bool b from r); exact q
  | int i => obtain ⟨t, rfl⟩ := (show ∃ t, u = Value.int i t from r); exact q
  | str y => obtain ⟨t, rfl⟩ := (show ∃ t, u = Value.str y t from r); exact q
  | byt y => obtain ⟨t, rfl⟩ := (show ∃ t, u = Value.bytes y t from r); exact q
  | flt y => obtain ⟨t, rfl⟩ := (show ∃ t, u = Value.float y t from r); exact q
  | ref c => cases (show u = Value.ref c from r); exact q
  | ty n => cases (show u = Value.type n from r); exact q

variable {CX : CXT} {k : Nat} {fd : FuncData} {ps : List Str} {sp : Sp} {E : XK} {A : Around}

/-- a def's call wherever the builtins around it stand -/
theorem run_any {Q : VK} {us : List Value} {vs : List V} (F : FnOk X.prog X.w X.K X.mg X.base CX k g fd ps sp) (hr : Room k A) (e0 : Env0 X.prog X.w X.K X.mg X.base A X.stack s H)
    (hb : Binds X.K fd ps []) (hx : Passes CX X E) (I : Inv X pins σ H s) (r : Vals vs us) (h : sp vs H Q E) :
    wpAny (model X.prog X.w) A (call (.ref g) us) (EP X pins σ Q) X.xe s := by
  have hl : (us ++ []).length = ps.length := by rw [List.append_nil, ← r.length]; exact F.len _ _ _ _ h
  have hb' := hb s us I.kIn hl
  rw [List.append_nil] at hb'
  refine wpAny_call (codeAny_mono (F.run A X.stack s H ⟨us, []⟩ us vs Q E hr e0 hb' r h) fun res s' hq => ?_)
  cases res with
  | error e => exact hx pins σ H s e s' I hq
  | ok fl =>
    cases fl with
    | ret u => exact I.after hq
    | next => exact False.elim hq
    | brk => exact False.elim hq
    | cont => exact False.elim hq
end

/-- what an own class says of a two-place operator: its def, of this class -/
structure Op2 (K : PySem.W.Frag) (C g : Addr) (nm : String) : Prop where
  at_ : PySem.W.findIn K (.ref C) (PySem.dunder nm) = some (some (.ref g))
  rf : ∃ rc, PySem.W.findIn K (.ref C) (PySem.dunderR nm) = some rc ∧ (rc = none ∨ ∃ q : Addr, rc = some (.ref q))
  fn : PySem.W.isFn K (.ref g) = true
  first : PySem.W.selfFirst K C = true
/-- what is known of a built-in type beside the class at C, for the operator -/
structure Ty2 (K : PySem.W.Frag) (C : Addr) (nm T : String) : Prop where
  lf : ∃ fo, PySem.W.findIn K (.type T) (PySem.dunder nm) = some fo
  rt : ∃ ro, PySem.W.findIn K (.type T) (PySem.dunderR nm) = some ro
  sub : PySem.W.subIn K (.type T) (.ref C) = some false

/-- the reading of x op y by x's own def -/
def rOwn2 (C : Addr) (R : V → Hp → Prop) (sp : Sp) (E : XK) : R2 := fun x y H Q => ∃ a dx fs, x = .ref a ∧ H a = some (.ins C dx fs) ∧ R y H ∧ sp [x, y] H Q E
def RIns (C : Addr) : V → Hp → Prop := fun y H => ∃ b dy fs, y = .ref b ∧ H b = some (.ins C dy fs)
def RInt : V → Hp → Prop := fun y _ => ∃ i, y = .int i

section
variable {X : Cx} {CX : CXT} {C g : Addr} {k : Nat} {fd : FuncData} {ps : List Str} {sp : Sp} {E : XK} {op : Operator} {T : String}

/-- x op y, both of the class at C -/
theorem op_ins (O : Op2 X.K C g op.info.2) (F : FnOk X.prog X.w X.K X.mg X.base CX k g fd ps sp) (hr : Room k X.A) (hb : Binds X.K fd ps []) (hx : Passes CX X E) :
    OpR X (binaryOp op) (rOwn2 C (RIns C) sp E) := by
  intro pins s σ H x y v u Q I rx ry h
  obtain ⟨a, dx, fs, rfl, ha, ⟨b, dy, fs', rfl, hb'⟩, q⟩ := h
  cases (show v = Value.ref a from rx)
  cases (show u = Value.ref b from ry)
  obtain ⟨od, J⟩ := inst_at I ha
  obtain ⟨od', J'⟩ := inst_at I hb'
  obtain ⟨m, hF⟩ := I.fr
  refine PySem.W.binop_K hF I.ok.mod.kin J J'.type O.first O.at_ O.fn ?_
  refine wpAny_mono (run_any (us := [.ref a, .ref b]) (vs := [.ref a, .ref b]) F hr I.env0 hb hx I (.cons rfl (.cons rfl .nil)) q) (fun w s' z => ?_) fun _ _ e => e
  obtain ⟨z', H', I', rz, qz⟩ := id z
  exact back_of rz z

/-- x op y, y of a built-in type that tells its type at once -/
theorem op_val (O : Op2 X.K C g op.info.2) (Y : Ty2 X.K C op.info.2 T) (F : FnOk X.prog X.w X.K X.mg X.base CX k g fd ps sp) (hr : Room k X.A) (hb : Binds X.K fd ps []) (hx : Passes CX X E)
    {R : V → Hp → Prop} (hR : ∀ {y : V} {H : Hp} {u : Value}, R y H → RelV y u → typeOf u = pure (.type T)) :
    OpR X (binaryOp op) (rOwn2 C R sp E) := by
  intro pins s σ H x y v u Q I rx ry h
  obtain ⟨a, dx, fs, rfl, ha, hy, q⟩ := h
  cases (show v = Value.ref a from rx)
  obtain ⟨od, J⟩ := inst_at I ha
  obtain ⟨m, hF⟩ := I.fr
  obtain ⟨fo, hfo⟩ := Y.lf
  obtain ⟨ro, hro⟩ := Y.rt
  obtain ⟨rc, hrc, hp⟩ := O.rf
  refine PySem.W.ksp_binT hF I.ok.mod.kin J (hR hy ry) O.first O.at_ O.fn hrc hp hfo hro Y.sub ?_
  refine wpAny_mono (run_any (us := [.ref a, u]) (vs := [.ref a, y]) F hr I.env0 hb hx I (.cons rfl (.cons ry .nil)) q) (fun w s' z => ?_) fun _ _ e => e
  obtain ⟨z', H', I', rz, qz⟩ := id z
  exact back_of rz z
end
end OwnOps
end

-- OwnOps2
section
set_option Elab.async false
set_option linter.all false
set_option maxRecDepth 100000
namespace OwnOps
open PySem L2

section
variable {prog : Program} {w : World} {A : Around} {E : Value → Shared → Prop} {s : Shared} {K : PySem.W.Frag} {y C f g : Addr} {oy : Obj} {od : Option Obj} {u : Value} {T : String}

/-- u op y by y's reflected def: u's own type has no slot for it, or declines -/
theorem refl_K {op : Operator} {left : Bool} {Q : Value → Shared → Prop} (Y : K.In s.heap) (I : PySem.W.InstAt s.heap y oy C od)
    (ht : PySem.W.Looks (model prog w) s.heap (typeOf u) (.type T)) (hc : PySem.W.selfFirst K C = true)
    (hs : PySem.W.findIn K (.ref C) (PySem.dunder op.info.2) = some (some (.ref f))) (hr : PySem.W.findIn K (.ref C) (PySem.dunderR op.info.2) = some (some (.ref g)))
    (hg : PySem.W.isFn K (.ref g) = true) (hl : PySem.W.Looks (model prog w) s.heap (fillsNumberSlot (.type T) op.info.2) left)
    (hsub : PySem.W.subIn K (.ref C) (.type T) = some false)
    (hd : left = true → ∀ {Q : Option Value → Shared → Prop}, Q none s → wpAny (model prog w) A (tryMethod u (PySem.dunder op.info.2) (.ref y)) Q E s)
    (h : wpAny (model prog w) A (call (.ref g) [.ref y, u]) (PySem.W.CmpBack Q) E s) : wpAny (model prog w) A (binaryOp op u (.ref y)) Q E s := by
  obtain ⟨cd, rest, hcd, hm⟩ := PySem.W.ksp_first hc
  rcases hi : op.info with ⟨sym, nm⟩
  rw [hi] at hs hr hl hd
  dsimp only at hs hr hl hd
  have one := PySem.W.ksp_try Y I hr hg h
  obtain ⟨hh, gg, d, tt, os⟩ := s
  have L1 : PySem.W.Looks (model prog w) hh (typeOf (.ref y)) (.ref C) := I.type
  have L3 : PySem.W.Looks (model prog w) hh (fillsNumberSlot (.ref C) nm) true := PySem.W.fills_K Y hcd hm hs
  have L5 : PySem.W.Looks (model prog w) hh (isSubtype (.ref C) (.type T)) false := PySem.W.looks_subIn Y hsub
  have L7 : PySem.W.Looks (model prog w) hh (numberSlotInPython (.type T) nm) false := PySem.W.Looks.of_pure rfl
  have hne : (Value.type T == Value.ref C) = false := Bool.eq_false_iff.mpr fun q => by cases beq_iff_eq.mp q
  simp only [binaryOp, hi]
  refine wpAny_holding (wpAny_bind ?_)
  unfold binaryOp1
  refine wpAny_bind (ht.at (wpAny_bind (L1.at (wpAny_bind (hl.at ?_)))))
  simp only [hne, Bool.false_eq_true, if_false]
  cases left with
  | false =>
    ksp_lk
    refine wpAny_mono one (fun r s' hr' => ?_) fun _ _ e => e
    obtain ⟨v, rfl, hq⟩ := hr'
    ksp_lk
    exact hq
  | true =>
    ksp_lk
    refine hd rfl ?_
    ksp_lk
    refine wpAny_mono one (fun r s' hr' => ?_) fun _ _ e => e
    obtain ⟨v, rfl, hq⟩ := hr'
    ksp_lk
    exact hq
end
end OwnOps
end

-- OwnOps3
section
set_option Elab.async false
set_option linter.all false
set_option maxRecDepth 100000
namespace OwnOps
open PySem L2

section
variable {prog : Program} {w : World} {A : Around} {E : Value → Shared → Prop} {s : Shared} {K : PySem.W.Frag} {y C f g : Addr} {oy : Obj} {od : Option Obj} {n : Int} {t : Tok}
open MeetsSeq MeetsSeq2 MeetsSeq3 SeqRoads2 AutoSeq1
theorem int_call_add {Q : Value → Shared → Prop} (hy : s.heap.get? y = some oy) (hp : oy.data = .plain) (h : Q .notImplemented s) :
    wpAny (model prog w) A (call (.builtin "int.__add__") [.int n t, .ref y]) Q E s := by
  refine GQ.call_here F.slot_int_add (typeIs_int s n t) F.entry_int_add (F.args_int_add_2 _ _) ?_
  obtain ⟨c, dd, dt, sl⟩ := oy
  cases hp
  obtain ⟨hh, gg, d, tt, os⟩ := s
  wp_walk using wpAny_loadPart' hy
  exact h
theorem int_call_sub {Q : Value → Shared → Prop} (hy : s.heap.get? y = some oy) (hp : oy.data = .plain) (h : Q .notImplemented s) :
    wpAny (model prog w) A (call (.builtin "int.__sub__") [.int n t, .ref y]) Q E s := by
  refine GQ.call_here F.slot_int_sub (typeIs_int s n t) F.entry_int_sub (F.args_int_sub_2 _ _) ?_
  obtain ⟨c, dd, dt, sl⟩ := oy
  cases hp
  obtain ⟨hh, gg, d, tt, os⟩ := s
  wp_walk using wpAny_loadPart' hy
  exact h
theorem int_call_mul {Q : Value → Shared → Prop} (hy : s.heap.get? y = some oy) (hp : oy.data = .plain) (h : Q .notImplemented s) :
    wpAny (model prog w) A (call (.builtin "int.__mul__") [.int n t, .ref y]) Q E s := by
  refine GQ.call_here F.slot_int_mul (typeIs_int s n t) F.entry_int_mul (F.args_int_mul_2 _ _) ?_
  obtain ⟨c, dd, dt, sl⟩ := oy
  cases hp
  obtain ⟨hh, gg, d, tt, os⟩ := s
  wp_walk using wpAny_loadPart' hy
  exact h
theorem bool_call_mul {k : Bool} {Q : Value → Shared → Prop} (hy : s.heap.get? y = some oy) (hp : oy.data = .plain) (h : Q .notImplemented s) :
    wpAny (model prog w) A (call (.builtin "int.__mul__") [.bool k, .ref y]) Q E s := by
  refine GQ.call_here F.slot_bool_mul (typeIs_bool s k) F.entry_int_mul (F.args_int_mul_2 _ _) ?_
  obtain ⟨c, dd, dt, sl⟩ := oy
  cases hp
  obtain ⟨hh, gg, d, tt, os⟩ := s
  wp_walk using wpAny_loadPart' hy
  exact h
/-- how an int meets an instance of no built-in kind -/
theorem int_cmp_eq {Q : Value → Shared → Prop} (hy : s.heap.get? y = some oy) (hp : oy.data = .plain) (h : Q .notImplemented s) :
    wpAny (model prog w) A (call (.builtin "int.__eq__") [.int n t, .ref y]) Q E s := by
  refine GQ.call_here F.slot_int_eq (typeIs_int s n t) F.entry_int_eq (F.args_int_eq_2 _ _) ?_
  obtain ⟨c, dd, dt, sl⟩ := oy
  cases hp
  obtain ⟨hh, gg, d, tt, os⟩ := s
  wp_walk using wpAny_loadPart' hy
  exact h
theorem int_cmp_ne {Q : Value → Shared → Prop} (hy : s.heap.get? y = some oy) (hp : oy.data = .plain) (h : Q .notImplemented s) :
    wpAny (model prog w) A (call (.builtin "int.__ne__") [.int n t, .ref y]) Q E s := by
  refine GQ.call_here F.slot_int_ne (typeIs_int s n t) F.entry_int_ne (F.args_int_ne_2 _ _) ?_
  obtain ⟨c, dd, dt, sl⟩ := oy
  cases hp
  obtain ⟨hh, gg, d, tt, os⟩ := s
  wp_walk using wpAny_loadPart' hy
  exact h
theorem int_cmp_lt {Q : Value → Shared → Prop} (hy : s.heap.get? y = some oy) (hp : oy.data = .plain) (h : Q .notImplemented s) :
    wpAny (model prog w) A (call (.builtin "int.__lt__") [.int n t, .ref y]) Q E s := by
  refine GQ.call_here F.slot_int_lt (typeIs_int s n t) F.entry_int_lt (F.args_int_lt_2 _ _) ?_
  obtain ⟨c, dd, dt, sl⟩ := oy
  cases hp
  obtain ⟨hh, gg, d, tt, os⟩ := s
  wp_walk using wpAny_loadPart' hy
  exact h
theorem int_cmp_le {Q : Value → Shared → Prop} (hy : s.heap.get? y = some oy) (hp : oy.data = .plain) (h : Q .notImplemented s) :
    wpAny (model prog w) A (call (.builtin "int.__le__") [.int n t, .ref y]) Q E s := by
  refine GQ.call_here F.slot_int_le (typeIs_int s n t) F.entry_int_le (F.args_int_le_2 _ _) ?_
  obtain ⟨c, dd, dt, sl⟩ := oy
  cases hp
  obtain ⟨hh, gg, d, tt, os⟩ := s
  wp_walk using wpAny_loadPart' hy
  exact h
theorem int_cmp_gt {Q : Value → Shared → Prop} (hy : s.heap.get? y = some oy) (hp : oy.data = .plain) (h : Q .notImplemented s) :
    wpAny (model prog w) A (call (.builtin "int.__gt__") [.int n t, .ref y]) Q E s := by
  refine GQ.call_here F.slot_int_gt (typeIs_int s n t) F.entry_int_gt (F.args_int_gt_2 _ _) ?_
  obtain ⟨c, dd, dt, sl⟩ := oy
  cases hp
  obtain ⟨hh, gg, d, tt, os⟩ := s
  wp_walk using wpAny_loadPart' hy
  exact h
theorem int_cmp_ge {Q : Value → Shared → Prop} (hy : s.heap.get? y = some oy) (hp : oy.data = .plain) (h : Q .notImplemented s) :
    wpAny (model prog w) A (call (.builtin "int.__ge__") [.int n t, .ref y]) Q E s := by
  refine GQ.call_here F.slot_int_ge (typeIs_int s n t) F.entry_int_ge (F.args_int_ge_2 _ _) ?_
  obtain ⟨c, dd, dt, sl⟩ := oy
  cases hp
  obtain ⟨hh, gg, d, tt, os⟩ := s
  wp_walk using wpAny_loadPart' hy
  exact h
end
/-- int op instance, declined -/
def IntDec (op : CmpOp) : Prop := ∀ {prog : Program} {w : World} {A : Around} {E : Value → Shared → Prop} {s : Shared} {y : Addr} {oy : Obj} {n : Int} {t : Tok} {Q : Option Value → Shared → Prop}, s.heap.get? y = some oy → oy.data = .plain → Q none s →
  wpAny (model prog w) A (tryCompare (.int n t) (cmpInfo op).2.1 (.ref y)) Q E s
theorem dec_eq : IntDec .Eq := fun hy hp h => wpAny_tryCompare_declines (typeIs_int _ _ _) F.slot_int_eq (int_cmp_eq hy hp ⟨rfl, h⟩)
theorem dec_ne : IntDec .NotEq := fun hy hp h => wpAny_tryCompare_declines (typeIs_int _ _ _) F.slot_int_ne (int_cmp_ne hy hp ⟨rfl, h⟩)
theorem dec_lt : IntDec .Lt := fun hy hp h => wpAny_tryCompare_declines (typeIs_int _ _ _) F.slot_int_lt (int_cmp_lt hy hp ⟨rfl, h⟩)
theorem dec_le : IntDec .LtE := fun hy hp h => wpAny_tryCompare_declines (typeIs_int _ _ _) F.slot_int_le (int_cmp_le hy hp ⟨rfl, h⟩)
theorem dec_gt : IntDec .Gt := fun hy hp h => wpAny_tryCompare_declines (typeIs_int _ _ _) F.slot_int_gt (int_cmp_gt hy hp ⟨rfl, h⟩)
theorem dec_ge : IntDec .GtE := fun hy hp h => wpAny_tryCompare_declines (typeIs_int _ _ _) F.slot_int_ge (int_cmp_ge hy hp ⟨rfl, h⟩)
def IntDecB (op : Operator) : Prop := ∀ {prog : Program} {w : World} {A : Around} {E : Value → Shared → Prop} {s : Shared} {y : Addr} {oy : Obj} {n : Int} {t : Tok} {Q : Option Value → Shared → Prop}, s.heap.get? y = some oy → oy.data = .plain → Q none s →
  wpAny (model prog w) A (tryMethod (.int n t) (PySem.dunder op.info.2) (.ref y)) Q E s
theorem dec_add : IntDecB .Add := by
  intro prog w A E s y oy n t Q hy hp h
  show wpAny (model prog w) A (tryMethod (.int n t) (PySem.dunder "add") (.ref y)) Q E s
  have hc : wpAny (model prog w) A (call (.builtin "int.__add__") [.int n t, .ref y]) (fun v s' => v = .notImplemented ∧ Q none s') E s := int_call_add hy hp ⟨rfl, h⟩
  exact wpAny_tryMethod_declines (name := PySem.dunder "add") (id := "int.__add__") (typeIs_int s n t) F.slot_int_add hc
theorem dec_sub : IntDecB .Sub := by
  intro prog w A E s y oy n t Q hy hp h
  show wpAny (model prog w) A (tryMethod (.int n t) (PySem.dunder "sub") (.ref y)) Q E s
  have hc : wpAny (model prog w) A (call (.builtin "int.__sub__") [.int n t, .ref y]) (fun v s' => v = .notImplemented ∧ Q none s') E s := int_call_sub hy hp ⟨rfl, h⟩
  exact wpAny_tryMethod_declines (name := PySem.dunder "sub") (id := "int.__sub__") (typeIs_int s n t) F.slot_int_sub hc
theorem dec_mul : IntDecB .Mult := by
  intro prog w A E s y oy n t Q hy hp h
  show wpAny (model prog w) A (tryMethod (.int n t) (PySem.dunder "mul") (.ref y)) Q E s
  have hc : wpAny (model prog w) A (call (.builtin "int.__mul__") [.int n t, .ref y]) (fun v s' => v = .notImplemented ∧ Q none s') E s := int_call_mul hy hp ⟨rfl, h⟩
  exact wpAny_tryMethod_declines (name := PySem.dunder "mul") (id := "int.__mul__") (typeIs_int s n t) F.slot_int_mul hc

section
variable {prog : Program} {w : World} {A : Around} {E : Value → Shared → Prop} {s : Shared} {K : PySem.W.Frag} {y C f g : Addr} {oy : Obj} {od : Option Obj} {n : Int} {t : Tok}
/-- n op y by y's def for the comparison turned round -/
theorem cmp_refl {op : CmpOp} {Q : Value → Shared → Prop} (hu : A.units < cLine) (Y : K.In s.heap) (I : PySem.W.InstAt s.heap y oy C od) (hp : oy.data = .plain) (dec : IntDec op)
    (hsub : PySem.W.subIn K (.ref C) (.type "int") = some false) (hr : PySem.W.findIn K (.ref C) (cmpInfo op).2.2 = some (some (.ref g))) (hg : PySem.W.isFn K (.ref g) = true)
    (h : wpAny (model prog w) A (call (.ref g) [.ref y, .int n t]) (PySem.W.CmpBack Q) E s) : wpAny (model prog w) A (richCompare op (.int n t) (.ref y)) Q E s := by
  have one : wpAny (model prog w) A (tryCompare (.ref y) (cmpInfo op).2.2 (.int n t)) (fun r s' => ∃ v, r = some v ∧ Q v s') E s := by
    unfold tryCompare
    refine wpAny_bind (PySem.W.ifBound_K Y I hr hg (wpAny_mono h (fun v s' hv => ?_) fun _ _ e => e))
    cases v <;> first | exact hv.elim | exact wpAny_pure ⟨_, rfl, hv⟩
  have h1 : oneThing? op (.int n t) (.ref y) = none := rfl
  have hne : (Value.type "int" != Value.ref C) = true := rfl
  unfold richCompare
  simp only [h1]
  refine wpAny_holding (wpAny_bind (wpAny_cRoomFor hu ?_))
  refine wpAny_bind ((PySem.W.Looks.of_pure rfl : PySem.W.Looks (model prog w) s.heap (typeOf (.int n t)) (.type "int")).here (wpAny_bind (I.type.here ?_)))
  rw [hne]
  simp only [if_true]
  refine wpAny_bind ((PySem.W.looks_subIn Y hsub).here ?_)
  simp only [Bool.false_eq_true, if_false]
  refine wpAny_bind (dec I.at_ hp ?_)
  simp only [Bool.not_false, if_true]
  refine wpAny_bind (wpAny_mono one (fun r s' z => ?_) fun _ _ e => e)
  obtain ⟨v, rfl, hq⟩ := z
  exact wpAny_pure hq
end
end OwnOps
end

-- OwnOps4
section
set_option Elab.async false
set_option linter.all false
set_option maxRecDepth 100000
namespace OwnOps
open PySem L2

section
variable {X : Cx} {CX : CXT} {C g f : Addr} {k : Nat} {fd : FuncData} {ps : List Str} {sp : Sp} {E : XK} {op : Operator} {T : String}

/-- the reading of n op y by y's def -/
def rRef2 (C : Addr) (sp : Sp) (E : XK) : R2 := fun x y H Q => ∃ (i : Int) (b dy : Addr) (fs : List (Str × V)), x = .int i ∧ y = .ref b ∧ H b = some (.ins C dy fs) ∧ sp [y, x] H Q E

theorem op_refl {nm : String} (hnm : op.info.2 = nm) (O : Op2 X.K C f nm) (hrf : PySem.W.findIn X.K (.ref C) (PySem.dunderR nm) = some (some (.ref g))) (hg : PySem.W.isFn X.K (.ref g) = true) (hl : fillsNumberSlot (.type "int") nm = pure true)
    (hsub : PySem.W.subIn X.K (.ref C) (.type "int") = some false) (dec : IntDecB op)
    (F : FnOk X.prog X.w X.K X.mg X.base CX k g fd ps sp) (hr : Room k X.A) (hb : Binds X.K fd ps []) (hx : Passes CX X E) : OpR X (binaryOp op) (rRef2 C sp E) := by
  subst hnm
  intro pins s σ H x y v u Q I rx ry h
  obtain ⟨i, b, dy, fs, rfl, rfl, hb', q⟩ := h
  obtain ⟨t, rfl⟩ := (show ∃ t, v = Value.int i t from rx)
  cases (show u = Value.ref b from ry)
  obtain ⟨od, J⟩ := inst_at I hb'
  refine refl_K I.kIn J (PySem.W.Looks.of_pure rfl) O.first O.at_ hrf hg (PySem.W.Looks.of_pure hl) hsub (fun _ Q' q' => dec J.at_ rfl q') ?_
  refine wpAny_mono (run_any (us := [.ref b, .int i t]) (vs := [.ref b, .int i]) F hr I.env0 hb hx I (.cons rfl (.cons ⟨t, rfl⟩ .nil)) q) (fun w s' z => ?_) fun _ _ e => e
  obtain ⟨z', H', I', rz, qz⟩ := id z
  exact back_of rz z

/-- x op y (a comparison), x of the class at C -/
theorem cmp_own {op : CmpOp} (hop : ∀ a b, compareOp op a b = richCompare op a b) (hs : PySem.W.findIn X.K (.ref C) (cmpInfo op).2.1 = some (some (.ref g))) (hf : PySem.W.isFn X.K (.ref g) = true)
    (F : FnOk X.prog X.w X.K X.mg X.base CX k g fd ps sp) (hr : Room k X.A) (hb : Binds X.K fd ps []) (hx : Passes CX X E)
    {R : V → Hp → Prop} (hR : ∀ {y : V} {H : Hp} {u : Value} {pins : List (Addr × Obj)} {σ : St} {s : Shared}, L2.Inv X pins σ H s → R y H → RelV y u → ∃ tb, PySem.W.Looks (model X.prog X.w) s.heap (typeOf u) tb ∧ PySem.W.notFirst X.K C tb = true) :
    OpR X (compareOp op) (rOwn2 C R sp E) := by
  intro pins s σ H x y v u Q I rx ry h
  obtain ⟨a, dx, fs, rfl, ha, hy, q⟩ := h
  cases (show v = Value.ref a from rx)
  obtain ⟨od, J⟩ := inst_at I ha
  obtain ⟨m, hF⟩ := I.fr
  obtain ⟨tb, ht, hn⟩ := hR I hy ry
  rw [hop]
  refine PySem.W.cmp_K (op := op) hr.units0 hF I.ok.mod.kin J ht hn hs hf ?_
  refine wpAny_mono (run_any (us := [.ref a, u]) (vs := [.ref a, y]) F hr I.env0 hb hx I (.cons rfl (.cons ry .nil)) q) (fun w s' z => ?_) fun _ _ e => e
  obtain ⟨z', H', I', rz, qz⟩ := id z
  exact back_of rz z
theorem looks_ins (hsame : PySem.W.notFirst X.K C (.ref C) = true) {y : V} {H : Hp} {u : Value} {pins : List (Addr × Obj)} {σ : St} {s : Shared} (I : L2.Inv X pins σ H s) (h : RIns C y H) (ry : RelV y u) :
    ∃ tb, PySem.W.Looks (model X.prog X.w) s.heap (typeOf u) tb ∧ PySem.W.notFirst X.K C tb = true := by
  obtain ⟨b, dy, fs, rfl, hb⟩ := h
  cases (show u = Value.ref b from ry)
  obtain ⟨od, J⟩ := inst_at I hb
  exact ⟨_, J.type, hsame⟩
theorem looks_int (hi : PySem.W.notFirst X.K C (.type "int") = true) {y : V} {H : Hp} {u : Value} {pins : List (Addr × Obj)} {σ : St} {s : Shared} (I : L2.Inv X pins σ H s) (h : RInt y H) (ry : RelV y u) :
    ∃ tb, PySem.W.Looks (model X.prog X.w) s.heap (typeOf u) tb ∧ PySem.W.notFirst X.K C tb = true := by
  obtain ⟨i, rfl⟩ := h
  obtain ⟨t, rfl⟩ := (show ∃ t, u = Value.int i t from ry)
  exact ⟨_, PySem.W.Looks.of_pure rfl, hi⟩

theorem cmp_refl2 {op : CmpOp} (hop : ∀ a b, compareOp op a b = richCompare op a b) (dec : IntDec op) (hs : PySem.W.findIn X.K (.ref C) (cmpInfo op).2.2 = some (some (.ref g))) (hf : PySem.W.isFn X.K (.ref g) = true)
    (hsub : PySem.W.subIn X.K (.ref C) (.type "int") = some false)
    (F : FnOk X.prog X.w X.K X.mg X.base CX k g fd ps sp) (hr : Room k X.A) (hb : Binds X.K fd ps []) (hx : Passes CX X E) : OpR X (compareOp op) (rRef2 C sp E) := by
  intro pins s σ H x y v u Q I rx ry h
  obtain ⟨i, b, dy, fs, rfl, rfl, hb', q⟩ := h
  obtain ⟨t, rfl⟩ := (show ∃ t, v = Value.int i t from rx)
  cases (show u = Value.ref b from ry)
  obtain ⟨od, J⟩ := inst_at I hb'
  rw [hop]
  refine cmp_refl hr.units0 I.kIn J rfl dec hsub hs hf ?_
  refine wpAny_mono (run_any (us := [.ref b, .int i t]) (vs := [.ref b, .int i]) F hr I.env0 hb hx I (.cons rfl (.cons ⟨t, rfl⟩ .nil)) q) (fun w s' z => ?_) fun _ _ e => e
  obtain ⟨z', H', I', rz, qz⟩ := id z
  exact back_of rz z

/-- one-place: what x's own def hands back -/
def rOwn1 (C : Addr) (sp : Sp) (E : XK) (R : V → Prop) : V → Hp → VK → Prop := fun x H Q => ∃ a dx fs, x = .ref a ∧ H a = some (.ins C dx fs) ∧ sp [x] H (fun z H' => R z ∧ Q z H') E
theorem neg_own (hs : PySem.W.findIn X.K (.ref C) "__neg__" = some (some (.ref g))) (hf : PySem.W.isFn X.K (.ref g) = true)
    (F : FnOk X.prog X.w X.K X.mg X.base CX k g fd ps sp) (hr : Room k X.A) (hb : Binds X.K fd ps []) (hx : Passes CX X E) : UnR X (unaryOp .USub) (rOwn1 C sp E fun _ => True) := by
  intro pins s σ H x v Q I rx h
  obtain ⟨a, dx, fs, rfl, ha, q⟩ := h
  cases (show v = Value.ref a from rx)
  obtain ⟨od, J⟩ := inst_at I ha
  obtain ⟨m, hF⟩ := I.fr
  refine PySem.W.ksp_neg hF I.ok.mod.kin J hs hf ?_
  refine wpAny_mono (run_any (us := [.ref a]) (vs := [.ref a]) F hr I.env0 hb hx I (.cons rfl .nil) q) (fun w s' z => ?_) fun _ _ e => e
  obtain ⟨z', H', I', rz, _, qz⟩ := z
  exact ⟨z', H', I', rz, qz⟩

open Builtin in
theorem abs_K {prog : Program} {w : World} {A : Around} {E : Value → Shared → Prop} {s : Shared} {K : PySem.W.Frag} {x C f : Addr} {ox : Obj} {od : Option Obj} {Q : Value → Shared → Prop} (Y : K.In s.heap) (I : PySem.W.InstAt s.heap x ox C od)
    (hs : PySem.W.findIn K (.ref C) "__abs__" = some (some (.ref f))) (hf : PySem.W.isFn K (.ref f) = true)
    (h : wpAny (model prog w) A.in1 (call (.ref f) [.ref x]) Q E s) : wpAny (model prog w) A (call (.builtin "abs") [.ref x]) Q E s := by
  refine Calls.call_function_entry PyProof.Rows.kind_abs PyProof.Rows.plain_abs PyProof.Rows.entry_abs (PyProof.Rows.args_abs _) ?_
  unfold Builtin.«abs»
  refine wpAny_bind (m := oneArg "abs" _) (wpAny_pure ?_)
  refine wpAny_bind (m := callSpecial? (.ref x) (Str.ofString "__abs__")) (PySem.W.special_fn Y I hs (beq_iff_eq.mp hf) (wpAny_mono h (fun r s' z => ?_) fun _ _ e => e))
  exact wpAny_pure ⟨_, rfl, z⟩

theorem room2 {k : Nat} {A : Around} (r : Room (k + 2) A) : Room k A.in1.in1 := (Room.in1 (r.in1))

theorem call_absO (hs : PySem.W.findIn X.K (.ref C) "__abs__" = some (some (.ref g))) (hf : PySem.W.isFn X.K (.ref g) = true)
    (F : FnOk X.prog X.w X.K X.mg X.base CX k g fd ps sp) (hr : Room (k + 1) X.A) (hb : Binds X.K fd ps []) (hx : Passes CX X E) : CallR X (.builtin "abs") (fun xs H Q => ∃ x, xs = [x] ∧ rOwn1 C sp E (fun _ => True) x H Q) := by
  intro pins s σ H xs us Q I rx h
  obtain ⟨x, rfl, a, dx, fs, rfl, ha, q⟩ := h
  obtain ⟨u, rfl, ru⟩ := vals1 rx
  cases (show u = Value.ref a from ru)
  obtain ⟨od, J⟩ := inst_at I ha
  refine abs_K I.kIn J hs hf ?_
  refine wpAny_mono (run_any (us := [.ref a]) (vs := [.ref a]) F hr.in1 I.env0.in1 hb hx I (.cons rfl .nil) q) (fun w s' z => ?_) fun _ _ e => e
  obtain ⟨z', H', I', rz, _, qz⟩ := z
  exact ⟨z', H', I', rz, qz⟩

def IsStr : V → Prop := fun z => ∃ y, z = .str y
theorem strback {Q : Value → Shared → Prop} {z : V} {u : Value} {s' : Shared} (hz : IsStr z) (r : RelV z u) (q : Q u s') : PySem.W.StrBack Q u s' := by
  obtain ⟨y, rfl⟩ := hz
  obtain ⟨t, rfl⟩ := (show ∃ t, u = Value.str y t from r)
  exact q
theorem call_reprO (hs : PySem.W.findIn X.K (.ref C) "__repr__" = some (some (.ref g))) (hf : PySem.W.isFn X.K (.ref g) = true)
    (F : FnOk X.prog X.w X.K X.mg X.base CX k g fd ps sp) (hr : Room (k + 1) X.A) (hb : Binds X.K fd ps []) (hx : Passes CX X E) : CallR X (.builtin "repr") (fun xs H Q => ∃ x, xs = [x] ∧ rOwn1 C sp E IsStr x H Q) := by
  intro pins s σ H xs us Q I rx h
  obtain ⟨x, rfl, a, dx, fs, rfl, ha, q⟩ := h
  obtain ⟨u, rfl, ru⟩ := vals1 rx
  cases (show u = Value.ref a from ru)
  obtain ⟨od, J⟩ := inst_at I ha
  obtain ⟨m, hF⟩ := I.fr
  refine PySem.W.repr_K hr.in1.units0 hF I.ok.mod.kin J hs hf ?_
  refine wpAny_mono (run_any (us := [.ref a]) (vs := [.ref a]) F hr.in1 I.env0.in1 hb hx I (.cons rfl .nil) q) (fun w s' z => ?_) fun _ _ e => e
  obtain ⟨z', H', I', rz, hz, qz⟩ := z
  exact strback hz rz ⟨z', H', I', rz, qz⟩
theorem call_strO (hs : PySem.W.findIn X.K (.ref C) "__str__" = some (some (.ref g))) (hf : PySem.W.isFn X.K (.ref g) = true)
    (F : FnOk X.prog X.w X.K X.mg X.base CX k g fd ps sp) (hr : Room (k + 2) X.A) (hb : Binds X.K fd ps []) (hx : Passes CX X E) : CallR X (.type "str") (fun xs H Q => ∃ x, xs = [x] ∧ rOwn1 C sp E IsStr x H Q) := by
  intro pins s σ H xs us Q I rx h
  obtain ⟨x, rfl, a, dx, fs, rfl, ha, q⟩ := h
  obtain ⟨u, rfl, ru⟩ := vals1 rx
  cases (show u = Value.ref a from ru)
  obtain ⟨od, J⟩ := inst_at I ha
  refine PySem.W.kso_call (room2 hr).units0 I.kIn J hs hf ?_
  refine wpAny_mono (run_any (us := [.ref a]) (vs := [.ref a]) F (room2 hr) I.env0.in1.in1 hb hx I (.cons rfl .nil) q) (fun w s' z => ?_) fun _ _ e => e
  obtain ⟨z', H', I', rz, hz, qz⟩ := z
  exact strback hz rz ⟨z', H', I', rz, qz⟩

open Builtin in
theorem bool_K {prog : Program} {w : World} {A : Around} {E : Value → Shared → Prop} {s : Shared} {K : PySem.W.Frag} {x C f : Addr} {ox : Obj} {od : Option Obj} {Q : Value → Shared → Prop} {m : Str → Option Value} {h₀ : Heap} {L : Addr} (F : PyProof.Rows.Fr h₀ L s.heap m) (Y : K.In h₀) (I : PySem.W.InstAt s.heap x ox C od)
    (hs : PySem.W.findIn K (.ref C) "__bool__" = some (some (.ref f))) (hf : PySem.W.isFn K (.ref f) = true)
    (h : wpAny (model prog w) A.in1.in1 (call (.ref f) [.ref x]) (PySem.W.BoolBack fun b s' => Q (.bool b) s') E s) : wpAny (model prog w) A (call (.type "bool") [.ref x]) Q E s := by
  refine callType_codes (T := "bool") (Bi := Builtin.«object.__init__») (Q₁ := fun r s₁ => ∃ y, r = .bool y ∧ Q r s₁) PySem.F.called_bool (PySem.F.typeCall_bool_1 _) PySem.F.entry_object_init ?_ ?_
  · refine codeAny_of_tree ?_
    show wpAny _ A.in1.in1 (do checkBuiltinCall "bool.__new__" ⟨[.type "bool", .ref x], []⟩; again (.builtin "bool.__new__" ⟨[.type "bool", .ref x], []⟩)) _ _ s
    refine wpAny_bind (wpAny_of_eq (PySem.F.newCall_bool_1 _) (wpAny_pure ⟨plainId_quiet (by decide +kernel) _, codeAny_builtin PySem.F.entry_bool_new ?_⟩))
    rw [Around.under_plainId (by decide +kernel) _]
    have key : wpAny (model prog w) A.in1.in1 (truthy (.ref x)) (fun b s₁ => Q (.bool b) s₁) E s := PySem.W.truthy_K F Y I hs hf h
    have f1 := PySem.F.conv_sub_bool
    obtain ⟨hp, gg, d, tk, os⟩ := s
    repeat (any_goals (first | assumption | (with_reducible refine wpAny_bind (wpAny_mono key (fun b s1 z => ?_) fun _ _ e => e)) | wp_step))
    all_goals first | exact ⟨_, rfl, z⟩ | exact ⟨_, rfl, _, rfl, z⟩ | skip
  · rintro obj s₁ ⟨y, rfl, hq⟩
    exact ⟨typeIs_bool _ _, PySem.F.args_object_init_2 _ _, object_init_meets PySem.F.called_bool.init.lookup PySem.F.called_bool.made (by decide) prog w A.in1 _ s₁ ⟨typeIs_bool _ _, rfl, hq⟩⟩
end
end OwnOps
end

-- GivErr
section
set_option Elab.async false
set_option linter.all false
set_option maxRecDepth 100000
set_option maxHeartbeats 2000000
/-! An own error class, over any of three built-in ones, that keeps its one argument in the field `given`. -/
namespace PySem
namespace Giv
open PySem.W PySem.Calls PyProof.Rows PySem.HandSPX Builtin Builtin.ObjectAttr
/-- own classes, then the given tail -/
def tailIs (bt : List Value) : List Value → Bool
  | .ref _ :: r => tailIs bt r
  | l => l == bt
theorem tail_cases (bt : List Value) : ∀ l : List Value, tailIs bt l = true → (∃ c r, l = .ref c :: r ∧ tailIs bt r = true) ∨ l = bt := fun l e => by
  cases l with
  | nil => exact .inr (beq_iff_eq.mp e)
  | cons a r => cases a <;> first | exact .inl ⟨_, _, rfl, e⟩ | exact .inr (beq_iff_eq.mp e)
theorem tail_pass {bt : List Value} (hb : ∀ self, refuseLoop self "__setattr__" bt = pure ()) (self : Value) : ∀ l : List Value, tailIs bt l = true → refuseLoop self "__setattr__" l = pure () := fun l => by
  induction l with
  | nil => intro e; rcases tail_cases bt _ e with ⟨_, _, q, _⟩ | q; cases q; rw [q]; exact hb self
  | cons a r ih =>
    intro e
    rcases tail_cases bt (a :: r) e with ⟨c, r', q, h⟩ | q
    · cases q; rw [refuseLoop_ref]; exact ih h
    · rw [q]; exact hb self
theorem tail_has {bt : List Value} (Y : String) : ∀ l : List Value, tailIs bt l = true → l.contains (.type Y) = bt.contains (.type Y) := fun l => by
  induction l with
  | nil => intro e; rcases tail_cases bt _ e with ⟨_, _, q, _⟩ | q; cases q; rw [q]
  | cons a r ih =>
    intro e
    rcases tail_cases bt (a :: r) e with ⟨c, r', q, h⟩ | q
    · cases q; rw [List.contains_cons, ih h]; rfl
    · rw [q]
/-- what is used of the built-in base -/
structure BaseOk (B newId initId : String) (bt : List Value) : Prop where
  facts : ExcBaseFacts B newId initId bt
  pass : ∀ self, refuseLoop self "__setattr__" bt = pure ()
  obj : bt.contains (.type "object") = true
theorem ok_VE : BaseOk "ValueError" "ValueError.__new__" "ValueError.__init__" [.type "ValueError", .type "Exception", .type "BaseException", .type "object"] :=
  ⟨F.excBase_ValueError, fun self => F.store_ValueError.passes self, by decide +kernel⟩
theorem ok_ZD : BaseOk "ZeroDivisionError" "ZeroDivisionError.__new__" "ZeroDivisionError.__init__" [.type "ZeroDivisionError", .type "ArithmeticError", .type "Exception", .type "BaseException", .type "object"] :=
  ⟨F.excBase_ZeroDivisionError, fun self => F.store_ZeroDivisionError.passes self, by decide +kernel⟩

section
variable {prog : Program} {w : World} {A : Around} {E : Value → Shared → Prop} {R : Result → Shared → Prop} {hp : Heap} {g : Array GenState} {d : Drawn} {t : Nat} {os : OsState}
/-- self.name = v on a new exception -/
theorem osa_giv {K : W.Frag} {name : Str} {tk : Tok} {v : Value} {x C : Addr} {fv : Array Value} {cd : ClassData} {bt bm : List Value} (hb : ∀ self, refuseLoop self "__setattr__" bt = pure ()) (hbo : bt.contains (.type "object") = true)
    (Y : K.In hp) (hx : hp.get? x = some { cls := .ref C, data := .fields fv }) (hcd : W.clsIn K C = some cd) (hm : cd.mro = .ref C :: bm) (htl : tailIs bt bm = true) (hh : cd.hasDict = true) (hno : W.findIn K (.ref C) name = some none)
    (fin : ∀ h' tk' dx, (∀ b o, b ≠ x → hp.get? b = some o → h'.get? b = some o) → hp.objs.size ≤ dx → dx ≠ x → h'.get? x = some { cls := .ref C, dict := some dx, data := .fields fv } →
      h'.Ns1 dx (fun y => if y = name then some v else none) → R (.ok (.ret .none)) ⟨h', g, d, tk', os⟩) :
    codeAny (model prog w) A (.call (.builtin "object.__setattr__") ⟨[.ref x, .str name tk, v], []⟩) R ⟨hp, g, d, t, os⟩ := by
  have J : W.InstAt hp x { cls := .ref C, data := .fields fv } C none := ⟨hx, rfl, rfl, trivial⟩
  have SO := F.store_object
  have htail : tailIs bt cd.mro = true := by rw [hm]; exact htl
  have hob2 : cd.mro.contains (.type "object") = true := by rw [tail_has "object" _ htail]; exact hbo
  have hemp : cd.mro.isEmpty = false := by rw [hm]; rfl
  have apart : x ≠ hp.objs.size := Nat.ne_of_lt (Heap.lt_size hx)
  have Lsub : W.Looks (model prog w) hp (isInstance (.ref x) (.type "object")) true :=
    J.type.andThen (W.looks_mroIn Y (by unfold W.mroIn; rw [hcd, Option.bind_some, if_neg (by rw [hemp]; decide), hob2]))
  refine codeAny_call_builtin SO.slot.plain SO.entry (@W.check_slot (model prog w) _ _ ⟨hp, g, d, t, os⟩ "object.__setattr__" "object" "__setattr__" (.ref x)
    [.str name tk, v] [] _ SO.kind SO.split Lsub (SO.args (.ref x) (.str name tk) v) ?_)
  have Lmro : W.Looks (model prog w) hp (mroOf (.ref C)) cd.mro := (W.looks_clsIn Y hcd).andThen .now
  have Lno : W.Looks (model prog w) hp (storeTaker? none) none := .now
  have Lcd : W.Looks (model prog w) hp (classData C) cd := W.looks_clsIn Y hcd
  rw [W.osa_eq, refuse_eq]
  refine wpAny_bind (wpAny_bind (J.type.at (wpAny_bind (Lmro.at ?_))))
  rw [tail_pass hb _ _ htail]
  refine wpAny_pure (wpAny_bind (J.type.at (wpAny_bind ((W.looks_findIn Y hno).at (wpAny_bind (Lno.at ?_))))))
  show wpAny _ _ (storeInOwnDict (.ref x) (.ref C) (.str name tk) name v false) _ _ _
  obtain ⟨c1, c2, c3, c4, c5, c6, c7, c8, c9, c10, c11⟩ := cd
  dsimp only at hh
  subst hh
  unfold storeInOwnDict ownDictForStores
  repeat (first | (with_reducible refine store_in_new ?_ ?_) | (with_reducible refine wpAny_loadPart_at hx ?_) | (with_reducible refine Lcd.at ?_) | wp_step)
  · exact ⟨_, #[], _, (Heap.get?_update_ne _ _ _ _ apart.symm).trans (Heap.get?_push_at rfl rfl), rfl, fun e he => absurd he (by simp), fun _ => rfl⟩
  · intro h' tk' hn' hs
    have hx1 : (hp.push { cls := .type "dict", data := .dict #[] }).get? x = some { cls := .ref C, data := .fields fv } := Heap.get?_push_of_some _ hx
    refine fin h' tk' hp.objs.size (fun b o hb ho => ?_) (Nat.le_refl _) apart.symm ?_ hn'
    · exact (hs.2 b (Nat.ne_of_lt (Heap.lt_size ho))).trans ((Heap.get?_update_ne _ _ _ _ hb).trans (Heap.get?_push_of_some _ ho))
    · exact (hs.2 x apart).trans (Heap.get?_update_self _ hx1 rfl)
end

/-! ### the text of __init__ -/
def gA (p1 p2 : Pos) : Arguments := { posonlyargs := [], args := [{ arg := "self", annotation := none, pos := p1 }, { arg := "given", annotation := none, pos := p2 }], vararg := none, kwonlyargs := [], kw_defaults := [], kwarg := none, defaults := [] }
def gB (q1 q2 q3 q4 : Pos) : List Stmt := [.Assign [.Attribute (.Name "self" q1) "given" q2] (.Name "given" q3) q4]
def gS : Scope := { kind := .function, names := [(PySem.Str.ofString "self", .local), (PySem.Str.ofString "given", .local)], isGenerator := false, isCoroutine := false, more := [] }
/-- what the written part says of the class called cn, at C, and of its __init__, at fI -/
structure ErrTxt (K : Frag) (mg : Str → Option Value) (cn qn : Str) (newId : String) (bt : List Value) (C fI : Addr) : Prop where
  gC : mg cn = some (.ref C)
  cls : ∃ nm q N bs bm sn sub ab col dd k0 k1 k2 k3 k5, K.lookup C = some (excClassObj nm q C N bs bm true sn sub ab col dd k0 k1 k2 k3 k5 newId) ∧ tailIs bt bm = true
  sa : findIn K (.ref C) "__setattr__" = some (some (.builtin "object.__setattr__"))
  ga : findIn K (.ref C) "__getattribute__" = some (some (.builtin "BaseException.__getattribute__"))
  gg : findIn K (.ref C) "__getattr__" = some none
  noN : findIn K (.ref C) "given" = some none
  iC : findIn K (.ref C) "__init__" = some (some (.ref fI))
  tC : typeIn K (.ref fI) = some (.type "function")
  kC : keepIn K (.ref C) = true
  exC : subIn K (.ref C) (.type "BaseException") = some true
  tyC : typeIn K (.ref C) = some (.type "type")
  hdC : hasDictIn K C = true
  te : exmOne K (.ref C) (.ref C) = some true
  fn : ∃ (oc : Value) (od : Option Addr) (doc pm : Value) (an : Option Addr) (cdv ct : Value) (osl : Array (Option Value)) (p1 p2 q1 q2 q3 q4 : Pos),
    K.lookup fI = some ⟨oc, od, .func (fnOf "__init__" qn (gA p1 p2) (gB q1 q2 q3 q4) gS .none .none doc pm an cdv ct), osl⟩ ∧ codeIn K cdv qn = true
theorem one_fits (v : Value) : [v].length ≤ sizeLine := by
  rw [sizeLine_eq]
  exact (by decide : 1 ≤ 16777216)
theorem ldG {M : Model} {s : Shared} {name : Str} {scope : Scope} {L a : Addr} {cd : Value} {m : Str → Option Value} {x : Str} {pos : Pos} {v : Value} {Q : Value → Shared → Prop} {A : Around} {E : Value → Shared → Prop} (hn : s.heap.Ns L m) (hv : m x = some v) (h : Q v s)
    (hk : scope.kind = .function := by rfl) (hl : (envOfC name scope L a cd).kindOf x = some .local := by rfl) (hd : (x == ("__debug__" : Str)) = false := by decide) :
    wpAny M A (eval (.Name x pos) (envOfC name scope L a cd)) Q E s := wpAny_Name (wpAny_loadName_local hk hl hn hv h) hd
/-- what __init__ leaves -/
structure GivEnd (h h' : Heap) (x C dx t1 : Addr) (v : Value) : Prop where
  keep : ∀ b o, b ≠ x → h.get? b = some o → h'.get? b = some o
  obj : h'.get? x = some { cls := .ref C, dict := some dx, data := .fields #[.ref t1, .none, .none, .none, .bool false, .none] }
  dbig : h.objs.size ≤ dx
  dne : dx ≠ x
  ns : h'.Ns1 dx (fun y => if y = "given" then some v else none)
/-- a made one -/
structure GivMade (h h' : Heap) (e C d : Addr) (v : Value) : Prop where
  keep : ∀ b o, h.get? b = some o → h'.get? b = some o
  new : h.objs.size ≤ e
  obj : ∃ oe vs, h'.get? e = some oe ∧ oe.cls = .ref C ∧ oe.dict = some d ∧ oe.data = .fields vs ∧ vs[1]? = some .none
  dbig : h.objs.size ≤ d
  dne : d ≠ e
  ns : h'.Ns1 d (fun y => if y = "given" then some v else none)
section
variable {prog : Program} {w : World} {A : Around} {E : Value → Shared → Prop} {R : Result → Shared → Prop} {s : Shared} {K : Frag} {mg : Str → Option Value} {C fI : Addr} {cn qn : Str} {B newId initId : String} {bt : List Value}
theorem giv_init (Z : BaseOk B newId initId bt) (T : ErrTxt K mg cn qn newId bt C fI) {x t0 : Addr} {v : Value} (X : K.In s.heap) (hlim : s.heap.NoLimit) (hx : s.heap.get? x = some (excO C t0)) (hroom : A.depth < recursionLimit)
    (hq : ∀ h' tk dx, GivEnd s.heap h' x C dx t0 v → R (.ok (.ret .none)) { s with heap := h', toks := tk }) :
    codeAny (model prog w) A (.call (.ref fI) ⟨[.ref x, v], []⟩) R s := by
  obtain ⟨oc, od, doc, pm, an, cdv, ct, osl, p1, p2, q1, q2, q3, q4, ho, hcd⟩ := T.fn
  obtain ⟨nm, q, N, bs, bm, sn, sub, ab, col, dd, k0, k1, k2, k3, k5, hC, hbm⟩ := T.cls
  have hcl : clsIn K C = some { name := nm, bases := bs, mro := .ref C :: bm, ns := N, qualname := q, hasDict := true, slotNames := sn, subclasses := sub, abstract := ab, collection := col, hasDel := false } := by unfold clsIn; rw [hC] <;> rfl
  refine Att.call_fn (binds := [("self", .ref x), ("given", v)]) X hlim ho hcd hroom (BindsTo.of_eq (by first | rfl | with_unfolding_all rfl)) (by first | rfl | decide | with_unfolding_all rfl) (fun s₁ IC => ?_) rfl rfl rfl
  obtain ⟨h₁, tk₁, rfl⟩ := IC.toInCall.same
  have k : ∀ b o, s.heap.get? b = some o → h₁.get? b = some o := IC.toInCall.keep
  have hn := IC.toInCall.ns
  have X₁ : K.In h₁ := X.keeps k
  have hx₁ := k _ _ hx
  show wpAny _ _ (execs _ _) _ _ _
  refine wpAny_execs_cons (plainObj_wpAny_Assign_Attribute ?_)
  refine ldG (v := v) hn (by first | rfl | with_unfolding_all rfl | kernel_rfl) (ldG (v := .ref x) hn (by first | rfl | with_unfolding_all rfl | kernel_rfl) ?_)
  refine set_plain X₁ (ox := excO C t0) (od := none) ⟨hx₁, rfl, rfl, trivial⟩ T.sa ?_
  refine osa_giv Z.pass Z.obj X₁ hx₁ hcl rfl hbm rfl T.noN (fun h₃ tk₃ dx k₃ dn dne hx₃ hn₃ => ?_)
  show wpAny _ _ (execs _ _) _ _ _
  have z : s.heap.objs.size < h₁.objs.size := hn.lt
  exact wpAny_execs_nil (hq h₃ tk₃ dx ⟨fun b o hb e => k₃ b o hb (k b o e), hx₃, Nat.le_of_lt (Nat.lt_of_lt_of_le z dn), dne, hn₃⟩)
theorem giv_made (Z : BaseOk B newId initId bt) (T : ErrTxt K mg cn qn newId bt C fI) {v : Value} (X : K.In s.heap) (hlim : s.heap.NoLimit) (hroom : A.depth + 1 < recursionLimit)
    (hq : ∀ h' tk e d, GivMade s.heap h' e C d v → R (.ok (.ret (.ref e))) { s with heap := h', toks := tk }) :
    codeAny (model prog w) A (.call (.ref C) ⟨[v], []⟩) R s := by
  obtain ⟨nm, q, N, bs, bm, sn, sub, ab, col, dd, k0, k1, k2, k3, k5, hC, hbm⟩ := T.cls
  obtain ⟨hp, g, dr, tk, os⟩ := s
  have k : ∀ b o, hp.get? b = some o → ((hp.push (kdv_tup [v])).push (excO C hp.objs.size)).get? b = some o := fun b o e => Heap.get?_push_of_some _ (Heap.get?_push_of_some _ e)
  have hget : ((hp.push (kdv_tup [v])).push (excO C hp.objs.size)).get? (hp.objs.size + 1) = some (excO C hp.objs.size) := by heap_get
  refine call_own Z.facts (fun X => tail_has X bm hbm) (X _ _ hC) (looks_findIn X T.iC) (fun self => bind_fn X self T.tC) (one_fits v) ?_
  refine giv_init (s := ⟨(hp.push (kdv_tup [v])).push (excO C hp.objs.size), g, dr, tk, os⟩) Z T (X.keeps k) (hlim.keeps k) hget ?_ fun h' tk' dx ⟨k', hx, dn, dne, hns⟩ => ?_
  · show A.depth + 1 < recursionLimit
    exact hroom
  · have old : ∀ b o, hp.get? b = some o → h'.get? b = some o := fun b o e => k' b o (Nat.ne_of_lt (Nat.lt_succ_of_lt (Heap.lt_size e))) (k b o e)
    have z : hp.objs.size + 1 + 1 ≤ dx := by
      first
        | (simpa only [Heap.size_push] using dn)
        | exact dn
        | (have q := dn; rw [Heap.size_push, Heap.size_push] at q; exact q)
    exact ⟨rfl, hq h' tk' (hp.objs.size + 1) dx ⟨old, Nat.le_succ _, ⟨_, _, hx, rfl, rfl, rfl, rfl⟩, Nat.le_trans (Nat.le_trans (Nat.le_succ _) (Nat.le_succ _)) z, dne, hns⟩⟩
end
end Giv
end PySem
end

-- GivErr2
section
set_option Elab.async false
set_option linter.all false
set_option maxRecDepth 100000
set_option maxHeartbeats 2000000
namespace L2
open PySem PySem.Spec PyProof.Rows
theorem relO_giv {v : V} {v' : Value} (r : RelV v v') (f : Str) : RelO (List.lookup f [(("given" : Str), v)]) (if f = "given" then some v' else none) := by
  by_cases hw : f = "given"
  · subst hw
    rw [if_pos rfl]
    have q : List.lookup ("given" : Str) [(("given" : Str), v)] = some v := by simp [List.lookup]
    rw [q]
    exact r
  · rw [if_neg hw]
    have qw : (f == ("given" : Str)) = false := by simpa using hw
    have q2 : List.lookup f [(("given" : Str), v)] = none := by simp [List.lookup, qw]
    rw [q2]
    trivial
section
variable {X : Cx} {C fI : Addr} {cn qn : Str} {B newId initId : String} {bt : List Value}
/-- Err(e) -/
def tMkGiv (C : Addr) (ta : TA) : L2.St → Hp → XK → Prop := fun σ H Q => ta σ H fun vs H1 => ∃ v, vs = [v] ∧ ∀ d, H1 d = none → Q (.ref C) (some d) (upd H1 d (.xd [(("given" : Str), v)]))
theorem pmk_giv {a : Expr} {ta : TA} {p pos : Pos} {k : Nat} (Z : PySem.Giv.BaseOk B newId initId bt) (T : PySem.Giv.ErrTxt X.K X.mg cn qn newId bt C fI) (hr : Room k X.A) (ha : PA X [a] ta) (hg : Gl X cn) (hdb : (cn == ("__debug__" : Str)) = false)
    (he : starEach (a :: []) X.env = (false, eval a X.env) :: starEach [] X.env := by rfl) (hpl : (backTo pos (starEach [] X.env)).any (·.1) = false := by rfl) :
    PMk X (.Call (.Name cn p) [a] [] pos) (tMkGiv C ta) := by
  intro pins s σ H Q I h
  refine wpAny_Call_Name_kw (ld_glob I hg T.gC ?_ hdb)
  refine PySem.W.callWith_K (h₀ := X.base) I.ok.mod.kin T.kC (thn (ha.run pos pins s σ H _ I h) fun us s1 hh => ?_) he hpl
  obtain ⟨vs, H1, I1, r1, v, ev, q1⟩ := hh
  subst ev
  refine ⟨I1.kIn, ?_⟩
  cases r1 with
  | cons rv rn =>
    rename_i v' us'
    cases rn
    show wpAny _ _ (call (.ref C) [v']) _ _ _
    have hlim := I1.nolimit
    obtain ⟨hp, g, dr, tk, os⟩ := s1
    refine wpAny_call (PySem.Giv.giv_made Z T I1.kIn hlim (by have := hr.dp; omega) fun h' tk' e d M => ?_)
    show MkP X pins σ Q (.ref e) ⟨h', g, dr, tk', os⟩
    obtain ⟨oe, fv, hoe, hc, hd, hdat, h1⟩ := M.obj
    have hns := M.ns
    obtain ⟨G', g1, g2⟩ := restrict h' fun b => decide (b ≠ e)
    have gk : ∀ b, b ≠ e → G'.get? b = h'.get? b := fun b hb => g1 b (decide_eq_true hb)
    have ge : G'.get? e = none := g2 e (by simp)
    have old : ∀ b o, hp.get? b = some o → G'.get? b = some o := fun b o q => (gk b (Nat.ne_of_lt (Nat.lt_of_lt_of_le (Heap.lt_size q) M.new))).trans (M.keep b o q)
    have ob : ObjOk X.prog X.w (upd H1 d (.xd [(("given" : Str), v)])) G' d (.xd [(("given" : Str), v)]) :=
      ⟨_, hns.at (fun o q => (gk d M.dne).trans q), fun f => relO_giv rv f⟩
    have J : L2.Inv X pins σ (upd H1 d (.xd [(("given" : Str), v)])) ⟨G', g, dr, tk', os⟩ := I1.laid (t' := tk') old M.dbig ob
    refine ⟨e, oe, fv, ⟨G', g, dr, tk', os⟩, _, .ref C, some d, rfl, J, fun b o q => ?_, ge, hoe, ⟨hc, hd⟩, hdat, h1, ?_, rfl, I1.bare, raises_own T.exC T.tyC, q1 d (I1.hok.fresh M.dbig)⟩
    · by_cases hb : b = e
      · have q' : G'.get? b = some o := q
        rw [hb, ge] at q'; cases q'
      · exact (gk b hb).symm.trans q
    · rw [upd_ne (Ne.symm M.dne)]
      exact I1.hok.fresh M.new
/-- raise Err(e) -/
def tRaiseGiv (C : Addr) (W : WX) (ta : TA) : TS := fun _ σ H => tMkGiv C ta σ H fun cls d H' => W cls d σ H'
theorem ps_raiseGiv {a : Expr} {ta : TA} {W : WX} {p pos pos2 : Pos} {k : Nat} (hc : X.calm = true) (Z : PySem.Giv.BaseOk B newId initId bt) (T : PySem.Giv.ErrTxt X.K X.mg cn qn newId bt C fI) (hr : Room k X.A) (tk : Takes X W) (ha : PA X [a] ta) (hg : Gl X cn) (hdb : (cn == ("__debug__" : Str)) = false := by decide)
    (he : starEach (a :: []) X.env = (false, eval a X.env) :: starEach [] X.env := by rfl) (hpl : (backTo pos (starEach [] X.env)).any (·.1) = false := by rfl) :
    PS X (.Raise (some (.Call (.Name cn p) [a] [] pos)) none pos2) (tRaiseGiv C W ta) := ps_raise hc tk (pmk_giv Z T hr ha hg hdb he hpl)
/-- err.given, err the exception that the suite holds (at a; its class cls, its dict d) -/
def tByGiv (C : Addr) (a : Addr) (cls : Value) (d : Option Addr) (te : TE) : TE := fun σ H Q => te σ H fun x H1 => x = .ref a ∧ cls = .ref C ∧ ∃ (dd : Addr) (v : V), d = some dd ∧ H1 dd = some (.xd [(("given" : Str), v)]) ∧ Q v H1
theorem pe_byGiv {a : Addr} {oe : Obj} {cls : Value} {d : Option Addr} {pn : List (Addr × Obj)} {e : Expr} {te : TE} {pos : Pos} (T : PySem.Giv.ErrTxt X.K X.mg cn qn newId bt C fI) (hz : Zc cls d oe) (hf : ∃ vs, oe.data = .fields vs) (he : PE (X.suite a ((a, oe) :: pn)) e te)
    (hb : attributeBase e "given" X.env (eval e X.env) = eval e X.env := by rfl) :
    PE (X.suite a ((a, oe) :: pn)) (.Attribute e "given" pos) (tByGiv C a cls d te) := by
  refine ⟨fun pins s σ H Q I h => ?_⟩
  refine attr_of hb (thn (he.run pins s σ H _ I h) fun u s1 hh => ?_)
  obtain ⟨x, H1, I1, rx, ex, ec, dd, v, ed, ea, q⟩ := hh
  subst ex
  obtain rfl : u = Value.ref a := rx
  subst ec
  subst ed
  obtain ⟨ha, _⟩ := I1.pin (a, oe) (List.mem_append_left _ List.mem_cons_self)
  obtain ⟨vs, hd⟩ := hf
  have hx : ObjOk X.prog X.w H1 s1.heap dd (.xd [(("given" : Str), v)]) := I1.hok dd _ ea
  obtain ⟨mA, hns, hr⟩ := hx
  obtain ⟨od, ho, hl⟩ := lookIn_ns hns
  have l : List.lookup ("given" : Str) [(("given" : Str), v)] = some v := by simp [List.lookup]
  obtain ⟨u, hu, ru⟩ := RelO.some_of (v := v) (o := mA "given") (by rw [← l]; exact hr "given")
  have J : PySem.W.InstAt s1.heap a oe C (some od) := ⟨ha, hz.1, by unfold PySem.W.notCls; rw [hd] <;> rfl, by rw [hz.2]; exact ho⟩
  exact HandSPX.exc_get I1.kIn J T.ga T.gg T.exC (PySem.W.findObj_own T.hdC T.noN rfl (by rw [hl, hu])) (handed_of ru) ⟨v, H1, I1.tok _, ru, q⟩
end
end L2
end

-- TryAs
section
set_option Elab.async false
set_option linter.all false
set_option maxRecDepth 100000
/-! try: with several clauses «except X as n». -/
namespace TryAs
open PySem L2
/-- the ends of a clause's suite: slot i is emptied on every way out -/
def endsAs (D : Ends) (i : Nat) : Ends where
  nx := fun t K => D.nx (t.set i none) K
  rt := D.rt
  bk := fun t K => D.bk (t.set i none) K
  ct := fun t K => D.ct (t.set i none) K
abbrev Cl := Value × Nat × (Addr → Value → Option Addr → TS)
def wAll (K : PySem.W.Frag) (Wout : WX) (D : Ends) : List Cl → WX
  | [] => Wout
  | (c, i, ts) :: r => fun cls d σ H => ∃ b, PySem.W.exmOne K cls c = some b ∧
      (b = true → ∀ a, H a = none → ts a cls d (endsAs D i) (σ.set i (some (.ref a))) H) ∧ (b = false → wAll K Wout D r cls d σ H)
inductive Clauses (X : Cx) : List ExceptHandler → List Cl → Prop
  | nil : Clauses X [] []
  | cons {x n : Str} {c : Value} {i : Nat} {ts : Addr → Value → Option Addr → TS} {fst : Stmt} {suite : List Stmt} {np hpos : Pos} {hds : List ExceptHandler} {l : List Cl}
      (at_ : X.N[i]? = some n) (loc : X.env.kindOf n = some .local) (nam : Names X x c)
      (run : ∀ (a : Addr) (oe : Obj) (cls : Value) (d : Option Addr) (pn : List (Addr × Obj)), Zc cls d oe → (∃ vs, oe.data = .fields vs) → PSs (X.suite a ((a, oe) :: pn)) (fst :: suite) (ts a cls d))
      (more : Clauses X hds l) : Clauses X (.ExceptHandler (some (.Name x np)) (some n) (fst :: suite) hpos :: hds) ((c, i, ts) :: l)
section
variable {X : Cx} {body : List Stmt} {hd0 : ExceptHandler} {hds : List ExceptHandler} {l : List Cl} {pos : Pos} {tb : WX → TS} {Wout : WX}
theorem ps_try_all (stk : X.stack = X.env :: X.outer) (frm : X.env.frame = some X.env.locals) (nod : X.N.Nodup) (tk : Takes X Wout)
    (hb : ∀ (W : WX) (pn : List (Addr × Obj)) (xe : Value → Shared → Prop), Takes (X.tr pn xe) W → PassesOwn (model X.prog X.w) X.A X.env xe → PSs (X.tr pn xe) body (tb W))
    (cl : Clauses X (hd0 :: hds) l) : PS X (.Try body (hd0 :: hds) [] [] pos) (fun D σ H => tb (wAll X.K Wout D l) D σ H) := by
  constructor
  intro pins s σ H D I h
  have okX := I.ok
  have frs2 : X.A.frames = some (X.env :: X.outer) := by rw [okX.frames, stk]
  refine wpAny_Try_except ?_
  refine wpAny_mono ((hb (wAll X.K Wout D l) (X.pn ++ pins)
    (fun e s₁ => wpAny (model X.prog X.w) X.A (noteFrame e X.env)
      (fun _ s₂ => wpAny (model X.prog X.w) X.A (setFlight e none)
        (fun _ s₃ => wpAny (model X.prog X.w) X.A (handleBy e X.env (hd0 :: hds)) (SP X pins D) X.xe s₃) X.xe s₂) X.xe s₁)
    (fun u s' xx => ?_) PassesOwn.looking).run [] s σ H D (I.toTry _) h) (fun f s1 hsp => ?_) (fun e s1 he => he)
  · obtain ⟨a, B, sI, pins1, σ1, H1, cls, d, rfl, J0, nb, up, sky, na, os, ag, w⟩ := xx
    have J1 : L2.Inv X pins σ1 H1 sI := J0.ofTry okX
    have sky1 : Sky B (X.env :: X.outer) a (Zc cls d) X.env.locals s'.heap := by rw [← stk]; exact sky
    show wpAny (model X.prog X.w) X.A (noteFrame (.ref a) X.env) _ _ _
    refine Sky.land Zc.steady frs2 frm sky1 fun h3 fl3 up3 => ?_
    have J3 : L2.Inv X pins σ1 H1 { s' with heap := h3 } := J1.landed nb fl3.1 (up.trans up3) os ag
    obtain ⟨oe3, vs3, he3, hz3, hd3⟩ := fl3.there
    have apart : a ∉ frs (X.env :: X.outer) := fun hm => by
      obtain ⟨_, o', e', hnf⟩ := fl3.2.2.1.mem hm
      have q : some o' = some oe3 := e'.symm.trans he3
      cases q
      exact hnf _ hd3
    have notL : a ≠ X.env.locals := fun z => apart (List.mem_filterMap.mpr ⟨X.env, List.mem_cons_self, by rw [frm, z]⟩)
    have notF : a ∉ X.fs := fun hm => by
      obtain ⟨e, he, q⟩ := List.mem_filterMap.mp hm
      exact apart (List.mem_filterMap.mpr ⟨e, List.mem_cons_of_mem _ he, q⟩)
    have S3 := J3.suite he3 hd3 na notL notF
    have go : ∀ {hs2 : List ExceptHandler} {l2 : List Cl}, Clauses X hs2 l2 → wAll X.K Wout D l2 cls d σ1 H1 →
        wpAny (model X.prog X.w) X.A (handleBy (.ref a) X.env hs2) (SP X pins D) X.xe { s' with heap := h3 } := by
      intro hs2 l2 hk
      induction hk with
      | nil =>
        intro w
        refine wpAny_handleBy_nil ?_
        obtain ⟨k1, k2, k3, oe, vs, T, oT, ts', he, hz, hd, h1, hr⟩ := id fl3
        unfold PySem.passOn
        refine wpAny_bind (wpAny_field he hd h1 ?_)
        have tn : ¬ ((Value.ref T == Value.none) = true) := by simp
        rw [if_neg tn]
        have fin : wpAny (model X.prog X.w) X.A (setFlight (.ref a) X.env.frame) (fun _ s4 => wpAny (model X.prog X.w) X.A (throw (.ref a) : Sem Flow) (SP X pins D) X.xe s4) X.xe { s' with heap := h3 } := by
          rw [frm]
          refine HandSPX.setFlight_upZ fl3 fun h4 hh4 up4 => wpAny_throw (tk _ _ ?_)
          exact ⟨a, B, sI, pins, σ1, H1, cls, d, rfl, J1, nb, (up.trans up3).trans up4, .inr (.inr (by rw [stk]; exact hh4)), na, os, ag, w⟩
        first | exact (wpAny_bind (wpAny_pure (wpAny_bind fin))) | exact (wpAny_bind fin)
      | @cons x n c i ts fst suite np hpos hs3 l3 at_ loc nam run more ih =>
        intro w
        obtain ⟨b, hb1, yes, no⟩ := w
        have slot : Loc X.env.scope n := .inl loc
        refine wpAny_handleBy_cons (codeAny_handlers_test ?_) (by intro q; cases q)
        have Lty : PySem.W.Looks (model X.prog X.w) h3 (typeOf (.ref a)) cls := fun A Q E s k q => wpAny_typeOf_ref (k _ _ he3) (by rw [hz3.1]; exact q)
        have Lex := PySem.W.exm_one (M := model X.prog X.w) (J3.kIn) Lty hb1
        have tst : ∀ {Q : Value → Shared → Prop} {E : Value → Shared → Prop}, Q c { s' with heap := h3 } → wpAny (model X.prog X.w) (X.A.mark (some (.ref a))) (eval (.Name x np) X.env) Q E { s' with heap := h3 } := fun {Q E} q => by
          obtain ⟨hg, ndb, hm | ⟨hm, hv, nn⟩⟩ := nam
          · exact (ld_glob (X := X.suite a ((a, oe3) :: (X.pn ++ pins))) S3 hg hm q ndb)
          · exact (ld_blt (X := X.suite a ((a, oe3) :: (X.pn ++ pins))) S3 hg hm hv q nn ndb)
        refine tst (Lex.here ?_)
        cases b with
        | true =>
          refine codeAny_handlers_suite_as ?_
          refine HandSPX.lands_againZ fl3 fun h4 fl4 up4 => ?_
          have J4 : L2.Inv X pins σ1 H1 { s' with heap := h4 } := J1.landed nb fl4.1 ((up.trans up3).trans up4) os ag
          obtain ⟨oe4, vs4, he4, hz4, hd4⟩ := fl4.there
          have S4 := J4.suite he4 hd4 na notL notF
          refine store_ok (X := X.suite a ((a, oe4) :: (X.pn ++ pins))) (v := .ref a) S4 nod at_ slot rfl (fun s5 S5 => ?_) (.inr loc)
          refine wpAny_mono ((run a oe4 cls d (X.pn ++ pins) hz4 ⟨_, hd4⟩).run [] s5 _ H1 _ S5 (yes rfl a na)) (fun f s6 hsp => ?_) (fun _ _ z => False.elim z)
          have wipe : ∀ {t6 : L2.St} {K6 : Hp} {Q : Shared → Prop}, L2.Inv (X.suite a ((a, oe4) :: (X.pn ++ pins))) [] t6 K6 s6 → (∀ s7, L2.Inv X pins (t6.set i none) K6 s7 → Q s7) →
              wpAny (model X.prog X.w) X.A (do bindName X.env n .none; unbindBehindTheSuite X.env n hpos) (fun _ s7 => Q s7) X.xe s6 := fun {t6 K6 Q} S6 hq => gone_ok (S6.unsuite okX) nod at_ loc hq
          cases f with
          | next =>
            obtain ⟨t6, K6, S6, q6⟩ := hsp
            exact (wipe S6 fun s7 J7 => ⟨_, _, J7, q6⟩)
          | brk =>
            obtain ⟨t6, K6, S6, q6⟩ := hsp
            exact (wipe S6 fun s7 J7 => ⟨_, _, J7, q6⟩)
          | cont =>
            obtain ⟨t6, K6, S6, q6⟩ := hsp
            exact (wipe S6 fun s7 J7 => ⟨_, _, J7, q6⟩)
          | ret u =>
            obtain ⟨v6, t6, K6, S6, r6, q6⟩ := hsp
            exact (wipe S6 fun s7 J7 => ⟨_, _, _, J7, r6, q6⟩)
        | false =>
          show wpAny _ X.A (handleBy (.ref a) X.env hs3) _ _ _
          exact ih (no rfl)
    exact go cl w
  · cases f with
    | next =>
      obtain ⟨t1, K1, J1, q⟩ := hsp
      exact wpAny_execs_nil ⟨t1, K1, J1.ofTry okX, q⟩
    | brk =>
      obtain ⟨t1, K1, J1, q⟩ := hsp
      exact ⟨t1, K1, J1.ofTry okX, q⟩
    | cont =>
      obtain ⟨t1, K1, J1, q⟩ := hsp
      exact ⟨t1, K1, J1.ofTry okX, q⟩
    | ret u =>
      obtain ⟨v1, t1, K1, J1, r, q⟩ := hsp
      exact ⟨v1, t1, K1, J1.ofTry okX, r, q⟩
/-- an exception of a callee, wished for at every state of the slots that fits -/
def EAll (X : Cx) (W : WX) : XK := fun cls d H' => ∀ t : L2.St, t.length = X.N.length → W cls d t H'
theorem pass_all {W : WX} (tk : Takes X W) : Passes (L2.CX X.prog X.w) X (EAll X W) := fun _ _ _ _ _ _ I c =>
  tk _ _ (XE.of_call I (fun _ _ _ z => z _ I.len) c)
end
end TryAs
end

-- OwnOps5
section
set_option Elab.async false
set_option linter.all false
set_option maxRecDepth 100000
namespace OwnOps
open PySem L2

section
variable {prog : Program} {w : World} {A : Around} {E : Value → Shared → Prop} {s : Shared} {K : PySem.W.Frag} {x C g : Addr} {ox : Obj} {od : Option Obj} {u : Value} {T : String}
/-- x op u by x's own def, u of a built-in type that is told by a look -/
theorem left_K {op : Operator} {fo ro rc : Option Value} {Q : Value → Shared → Prop} (Y : K.In s.heap) (I : PySem.W.InstAt s.heap x ox C od)
    (ht : PySem.W.Looks (model prog w) s.heap (typeOf u) (.type T)) (hc : PySem.W.selfFirst K C = true)
    (hs : PySem.W.findIn K (.ref C) (PySem.dunder op.info.2) = some (some (.ref g))) (hg : PySem.W.isFn K (.ref g) = true)
    (hrc : PySem.W.findIn K (.ref C) (PySem.dunderR op.info.2) = some rc) (hp : rc = none ∨ ∃ q : Addr, rc = some (.ref q))
    (hfo : PySem.W.findIn K (.type T) (PySem.dunder op.info.2) = some fo) (hro : PySem.W.findIn K (.type T) (PySem.dunderR op.info.2) = some ro) (hsub : PySem.W.subIn K (.type T) (.ref C) = some false)
    (h : wpAny (model prog w) A (call (.ref g) [.ref x, u]) (PySem.W.CmpBack Q) E s) : wpAny (model prog w) A (binaryOp op (.ref x) u) Q E s := by
  obtain ⟨dat, tl, hcd, hmro⟩ := PySem.W.ksp_first hc
  rcases hi : op.info with ⟨sy, nam⟩
  rw [hi] at hs hrc hfo hro
  dsimp only at hs hrc hfo hro
  have one := PySem.W.ksp_try Y I hs hg h
  obtain ⟨hh, gg, d, tt, os⟩ := s
  have M1 : PySem.W.Looks (model prog w) hh (typeOf (.ref x)) (.ref C) := I.type
  have M3 : PySem.W.Looks (model prog w) hh (fillsNumberSlot (.ref C) nam) true := PySem.W.fills_K Y hcd hmro hs
  have M4 : PySem.W.Looks (model prog w) hh (fillsNumberSlot (.type T) nam) ((fo.isSome && !isSeqSlot fo) || (ro.isSome && !isSeqSlot ro)) := PySem.W.ksp_fillsT Y hfo hro
  have M5 : PySem.W.Looks (model prog w) hh (isSubtype (.type T) (.ref C)) false := PySem.W.looks_subIn Y hsub
  have M6 : PySem.W.Looks (model prog w) hh (numberSlotInPython (.ref C) nam) true := PySem.W.ksp_inPy Y hs hrc hp
  have M7 : PySem.W.Looks (model prog w) hh (numberSlotInPython (.type T) nam) false := PySem.W.Looks.of_pure rfl
  have M8 : PySem.W.Looks (model prog w) hh (typeLookup (.type T) (PySem.dunderR nam)) ro := PySem.W.looks_findIn Y hro
  generalize ((fo.isSome && !isSeqSlot fo) || (ro.isSome && !isSeqSlot ro)) = fills at M4
  have differ : (Value.ref C == Value.type T) = false := Bool.eq_false_iff.mpr fun q => by cases beq_iff_eq.mp q
  simp only [binaryOp, hi]
  refine wpAny_holding (wpAny_bind ?_)
  unfold binaryOp1
  refine wpAny_bind (M1.at (wpAny_bind (ht.at (wpAny_bind (M3.at ?_)))))
  simp only [differ, Bool.false_eq_true, if_false]
  cases fills
  all_goals
    ksp_lk
    refine wpAny_mono one (fun r s' back => ?_) fun _ _ e => e
    obtain ⟨v, rfl, hq⟩ := back
    ksp_lk
    exact hq
end
end OwnOps
end

-- OwnNe
section
set_option Elab.async false
set_option linter.all false
set_option maxRecDepth 100000
/-! != of two lists that are equal item by item, by an own == too. -/
namespace OwnNe
open PySem PySem.SeqAt GQ
open AutoSeq1 (wpAny_loadPart')
open MeetsSeq MeetsSeq2 MeetsSeq3 SeqRoads2
section
variable {prog : Program} {w : World} {A : Around} {R : Result → Shared → Prop} {E : Value → Shared → Prop}
/-- the loop over the items, from i on: all are equal, so the answer is no -/
theorem loopN (l b : Addr) (N : Nat) (I : Nat → Shared → Prop) (hl : ListI prog w A (fun e s' => R (.error e) s') l b N I) (fin : ∀ s, I N s → R (.ok (.ret (.bool false))) s) :
    ∀ (k i : Nat), N - i = k → i ≤ N → ∀ s, I i s → wpAny (model prog w) A.in1 (Builtin.«list.__eq__.loop» ⟨[.ref l, .ref b, rawInt i, rawInt 3], []⟩) (FinOf prog w A R) (fun e s' => R (.error e) s') s
  | 0, i, hk, hi, s, h => by
    obtain ⟨xs, ys, n, n2, hl1, hb1, z1, z2, _⟩ := hl _ _ h
    have last : i = N := by omega
    have done : R (.ok (.ret (.bool false))) s := fin s (last ▸ h)
    obtain ⟨hp, g, d, tk, os⟩ := s
    wp_walk using wpAny_loadPart' hl1, wpAny_loadPart' hb1
    have no1 : xs[((i : Nat) : Int).toNat]? = none := by simp; omega
    have no2 : ys[((i : Nat) : Int).toNat]? = none := by simp; omega
    rw [no1, no2]
    wp_walk using wpAny_loadPart' hl1, wpAny_loadPart' hb1
    show R (.ok (.ret (.bool (xs.size != ys.size)))) _
    rw [z1, z2]
    simpa using done
  | k + 1, i, hk, hi, s, h => by
    obtain ⟨xs, ys, n, n2, hl1, hb1, z1, z2, one⟩ := hl _ _ h
    have lt1 : i < xs.size := by omega
    have lt2 : i < ys.size := by omega
    have here := one lt1 lt2
    obtain ⟨hp, g, d, tk, os⟩ := s
    wp_walk using wpAny_loadPart' hl1, wpAny_loadPart' hb1
    have is1 : xs[((i : Nat) : Int).toNat]? = some xs[i] := by simp [lt1]
    have is2 : ys[((i : Nat) : Int).toNat]? = some ys[i] := by simp [lt2]
    have up : ((i : Int) + 1) = ((i + 1 : Nat) : Int) := by omega
    rw [is1, is2]
    refine wpAny_bind (wpAny_mono here (fun r s2 q => ?_) fun _ _ x => x)
    obtain ⟨hr, q⟩ := q
    subst hr
    have rest := loopN l b N I hl fin k (i + 1) (by omega) (by omega) s2 q
    obtain ⟨hp2, g2, d2, tk2, os2⟩ := s2
    wp_walk
    rw [up]
    exact ⟨plainId_quiet plain_eq_loop _, codeAny_builtin entry_eq_loop (by rw [Around.under_plainId plain_eq_loop _] <;> exact rest)⟩
theorem listN (l b : Addr) (N : Nat) (I : Nat → Shared → Prop) (hl : ListI prog w A (fun e s' => R (.error e) s') l b N I) (fin : ∀ s, I N s → R (.ok (.ret (.bool false))) s) {s : Shared} (h : I 0 s) :
    wpAny (model prog w) A.in1 (Builtin.«list.__ne__» ⟨[.ref l, .ref b], []⟩) (FinOf prog w A R) (fun e s' => R (.error e) s') s := by
  obtain ⟨xs, ys, n, n2, hl1, hb1, z1, z2, _⟩ := hl _ _ h
  have rest := loopN (A := A) (R := R) l b N I hl fin _ 0 rfl (Nat.zero_le _) s h
  obtain ⟨hp, g, d, tk, os⟩ := s
  have sub := AutoSeq1.sub_list_list
  have same : ¬ (xs.size != ys.size) = true := by simp [z1, z2]
  wp_walk using wpAny_loadPart' hl1, wpAny_loadPart' hb1
  exact ⟨plainId_quiet plain_eq_loop _, codeAny_builtin entry_eq_loop (by rw [Around.under_plainId plain_eq_loop _] <;> exact rest)⟩
theorem rcN {l b : Addr} {N : Nat} {Q : Value → Shared → Prop} {s : Shared} (hu : A.units < cLine) (I : Nat → Shared → Prop) (hl : ListI prog w A E l b N I)
    (fin : ∀ s, I N s → Q (.bool false) s) (h : I 0 s) : wpAny (model prog w) A (richCompare .NotEq (.ref l) (.ref b)) Q E s := by
  obtain ⟨xs, ys, n, n2, hl1, hb1, _, _, _⟩ := hl _ _ h
  refine wpAny_richCompare_same_room (op := .NotEq) ⟨_, hl1, rfl⟩ ⟨_, hb1, rfl⟩ F.slot_list_ne (call_here F.slot_list_ne ⟨_, hl1, rfl⟩ F.entry_list_ne (F.args_list_ne_2 _ _) ?_) hu
  exact listN (R := wants (fun v s' => v ≠ .notImplemented ∧ Q v s') E) l b N I hl (fun s' q => ⟨(fun x => nomatch x), fin s' q⟩) h
end
open L2
/-- x != y of two lists, item by item equal -/
def rNeG (D : Eqv) : R2 := fun x y H Q => DList D x y H ∧ ∀ H', Ext H H' → Q (.bl false) H'
theorem op_neG {X : Cx} {n : Nat} {D : Eqv} (hD : Mon D) (h : EqG X n D) (hr : Room (n + 1) X.A) : OpR X (compareOp .NotEq) (rNeG D) := by
  intro pins s σ H x y v u Q I rx ry hq
  obtain ⟨⟨a, b, xs, ys, rfl, rfl, ha, hb, p⟩, q⟩ := hq
  cases rx
  cases ry
  have sb : Sub X (n + 1) X.A := ⟨hr, rfl⟩
  show wpAny (model X.prog X.w) X.A (richCompare .NotEq (.ref a) (.ref b)) (EP X pins σ Q) X.xe s
  refine rcN (N := xs.length) hr.units0 (fun _ s' => LoopI X pins σ H s') (fun i s' z => ?_) (fun s' ⟨H', I', e⟩ => ⟨.bl false, H', I', rfl, q H' e⟩) ⟨H, I, Ext.rfl'⟩
  obtain ⟨H1, I1, e1⟩ := id z
  obtain ⟨zz, its, k, r, e⟩ := I1.hok a _ (e1 _ _ ha)
  obtain ⟨zz2, its2, k2, r2, e2⟩ := I1.hok b _ (e1 _ _ hb)
  refine ⟨its.toArray, its2.toArray, k, k2, e, e2, by rw [List.size_toArray, ← r.length], by rw [List.size_toArray, ← r2.length, ← p.1], fun h1 h2 => ?_⟩
  exact turnG hD h sb p r r2 i h1 h2 s' z
/-- the same thing -/
def DSame : Eqv := fun x y _ => x = y ∧ ∃ a, x = .ref a
theorem mon_same : Mon DSame := fun _ _ _ _ _ d => d
theorem eqG_same {X : Cx} {n : Nat} : EqG X n DSame := by
  intro A pins s σ H x y u v sb I rx ry d
  obtain ⟨rfl, a, rfl⟩ := d
  cases rx
  cases ry
  exact SeqAt.EqAt.same (A := A) (s := s) (.ref a) X.prog X.w X.xe _ ⟨rfl, H, I, Ext.rfl'⟩
end OwnNe
end

-- OwnNe2
section
set_option Elab.async false
set_option linter.all false
set_option maxRecDepth 100000
namespace OwnNe
open PySem L2
def rNeEmp : R2 := fun x y H Q => ∃ l b xs, x = .ref l ∧ y = .ref b ∧ H l = some (.lst xs) ∧ H b = some (.lst []) ∧ Q (.bl (!xs.isEmpty)) H
/-- a list != [] -/
theorem op_neEmp {X : Cx} (hu : X.A.units < cLine) : OpR X (compareOp .NotEq) rNeEmp := by
  intro pins s σ H x y v u Q I rx ry h
  obtain ⟨l, b, xs, rfl, rfl, hl, hb, q⟩ := h
  cases rx
  cases ry
  obtain ⟨_, its, n, r, _, e⟩ := I.lstM hl
  obtain ⟨_, its2, n2, r2, _, e2⟩ := I.lstM hb
  cases r2
  have L1 : s.heap.IsList l its.toArray := ⟨_, e, rfl, n, rfl⟩
  have L2' : s.heap.IsList b ([] : List Value).toArray := ⟨_, e2, rfl, n2, rfl⟩
  show wpAny (model X.prog X.w) X.A (richCompare .NotEq (.ref l) (.ref b)) (EP X pins σ Q) X.xe s
  cases r with
  | nil => exact PySem.SeqAt.RcNeAt.lists (e := fun _ => true) L1 L2' rfl hu (fun j h1 _ => absurd h1 (by simp)) X.prog X.w X.xe _ ⟨.bl false, H, I, rfl, q⟩
  | cons a r => exact PySem.SeqAt.RcNeAt.lists_lengths L1 L2' (by simp) hu X.prog X.w X.xe _ ⟨.bl true, H, I, rfl, q⟩
end OwnNe
end

-- OwnNe3
section
set_option Elab.async false
set_option linter.all false
set_option maxRecDepth 100000
/-! Either of two rules; != by an own == alone; == of two lists, told as a truth. -/
namespace OwnNe
open PySem PySem.SeqAt GQ L2 OwnOps
open AutoSeq1 (wpAny_loadPart')
open MeetsSeq MeetsSeq2 MeetsSeq3 SeqRoads2
theorem op_or {X : Cx} {f : Value → Value → Sem Value} {r1 r2 : R2} (h1 : OpR X f r1) (h2 : OpR X f r2) : OpR X f (fun x y H Q => r1 x y H Q ∨ r2 x y H Q) := by
  intro pins s σ H x y v u Q I rx ry h
  rcases h with h | h
  · exact h1 pins s σ H x y v u Q I rx ry h
  · exact h2 pins s σ H x y v u Q I rx ry h
section
variable {prog : Program} {w : World} {A : Around} {E : Value → Shared → Prop} {s : Shared} {K : PySem.W.Frag} {x C L f : Addr} {h₀ : Heap} {m : Str → Option Value} {ox : Obj} {od : Option Obj} {b tb : Value}
theorem entry_ne {Q : Fin → Shared → Prop} (hu : A.units < cLine) (X : K.In s.heap) (I : PySem.W.InstAt s.heap x ox C od) (he : PySem.W.findIn K (.ref C) "__eq__" = some (some (.ref f))) (hf : PySem.W.isFn K (.ref f) = true)
    (h : wpAny (model prog w) A (call (.ref f) [.ref x, b]) (fun v s' => ∃ r, v = .bool r ∧ Q (.done (.ret (.bool (!r)))) s') E s) :
    wpAny (model prog w) A (Builtin.«object.__ne__» ⟨[.ref x, b], []⟩) Q E s := by
  unfold Builtin.«object.__ne__»
  repeat (first
    | with_reducible refine wpAny_cRoomFor hu ?_
    | (refine wpAny_bind (m := callSpecialIfBound? (.ref x) (Str.ofString "__eq__") [b])
        (PySem.W.ifBound_K X I he hf (wpAny_mono h (fun r s' hr => by
          obtain ⟨b, rfl, hq⟩ := hr
          repeat (first | exact hq | exact wpAny_pure hq | exact wpAny_truthy_bool hq | (refine wpAny_bind (m := truthy (.bool _)) (wpAny_truthy_bool ?_)) | wp_step)) fun _ _ e => e)))
    | wp_step)
theorem ifBound_ne {M : Model} {args : List Value} {Q : Option Value → Shared → Prop} (X : K.In s.heap) (I : PySem.W.InstAt s.heap x ox C od) (hs : PySem.W.findIn K (.ref C) "__ne__" = some (some (.builtin "object.__ne__")))
    (h : wpAny M A (call (.builtin "object.__ne__") (.ref x :: args)) (fun v => Q (some v)) E s) : wpAny M A (callSpecialIfBound? (.ref x) "__ne__" args) Q E s := by
  simp only [callSpecialIfBound?, bindSpecialIfBound?]
  refine wpAny_holding (wpAny_bind (wpAny_bind (wpAny_bind (I.type.here ((PySem.W.looks_findIn X hs).here ?_)))))
  refine wpAny_bind (wpAny_askSetting (wpAny_ite ?_))
  have fin : wpAny M A (call (.builtin "object.__ne__") ([.ref x] ++ args) >>= fun v => pure (some v)) Q E s := wpAny_bind (wpAny_mono h (fun v s' h' => wpAny_pure h') fun _ _ h' => h')
  split
  · exact wpAny_bind (wpAny_of_eq (F.cmp_object.ne.bind _) (wpAny_pure (by exact fin)))
  · exact wpAny_tryCatch (wpAny_bind (wpAny_of_eq (F.cmp_object.ne.bind _) (wpAny_pure (by exact fin))))
/-- x != b by x's own ==: the class has no != of its own -/
theorem rc_neK {Q : Value → Shared → Prop} (hu : A.units + 1 < cLine) (X : K.In s.heap) (I : PySem.W.InstAt s.heap x ox C od) (hb : PySem.W.Looks (model prog w) s.heap (typeOf b) tb) (hn : PySem.W.notFirst K C tb = true)
    (hm : PySem.W.mroIn K C (.type "object") = some true) (hs : PySem.W.findIn K (.ref C) "__ne__" = some (some (.builtin "object.__ne__"))) (he : PySem.W.findIn K (.ref C) "__eq__" = some (some (.ref f))) (hf : PySem.W.isFn K (.ref f) = true)
    (h : wpAny (model prog w) A.in1 (call (.ref f) [.ref x, b]) (fun v s' => ∃ r, v = .bool r ∧ Q (.bool (!r)) s') E s) : wpAny (model prog w) A (richCompare .NotEq (.ref x) b) Q E s := by
  have one : wpAny (model prog w) A (tryCompare (.ref x) (cmpInfo .NotEq).2.1 b) (fun r s' => ∃ v, r = some v ∧ Q v s') E s := by
    show wpAny (model prog w) A (tryCompare (.ref x) "__ne__" b) _ E s
    unfold tryCompare
    refine wpAny_bind (ifBound_ne X I hs (wpAny_call (codeAny_call_builtin F.cmp_object.ne.plain F.cmpEntry_ne
      (PySem.W.check_slot F.cmpKind_ne F.cmpSplit_ne (I.type.andThen (PySem.W.looks_mroIn X hm)) (F.cmpArgs_ne _ _) (entry_ne (A := A.in1) hu X I he hf (wpAny_mono h (fun v s' hv => ?_) fun _ _ e => e))))))
    obtain ⟨r, rfl, q⟩ := hv
    first
      | exact ⟨r, rfl, wpAny_pure ⟨_, rfl, q⟩⟩
      | exact ⟨r, rfl, wpAny_pure (wpAny_pure ⟨_, rfl, q⟩)⟩
      | exact ⟨r, rfl, ⟨_, rfl, q⟩⟩
  unfold richCompare
  simp only [oneThing_ref]
  refine wpAny_holding (wpAny_bind (wpAny_cRoomFor (by omega) ?_))
  refine wpAny_bind (I.type.here (wpAny_bind (hb.here ?_)))
  split
  · rename_i q
    have e : PySem.W.subIn K tb (.ref C) = some false := by
      rcases Bool.or_eq_true_iff.mp hn with e | e
      · rw [beq_iff_eq.mp e] at q; simp at q
      · exact beq_iff_eq.mp e
    refine wpAny_bind ((PySem.W.looks_subIn X e).here ?_)
    simp only [Bool.false_eq_true, if_false]
    refine wpAny_bind (wpAny_mono one (fun r s' z => ?_) fun _ _ e => e)
    obtain ⟨v, rfl, hq⟩ := z
    exact wpAny_pure hq
  · refine wpAny_bind (wpAny_pure ?_)
    simp only [Bool.false_eq_true, if_false]
    refine wpAny_bind (wpAny_mono one (fun r s' z => ?_) fun _ _ e => e)
    obtain ⟨v, rfl, hq⟩ := z
    exact wpAny_pure hq
end
/-- x != y by x's own == -/
def rNeOwn (C : Addr) (R : V → Hp → Prop) (sp : Sp) (E : XK) : R2 := fun x y H Q => ∃ a dx fs, x = .ref a ∧ H a = some (.ins C dx fs) ∧ R y H ∧ sp [x, y] H (fun v H' => ∃ r, v = .bl r ∧ Q (.bl (!r)) H') E
theorem op_neOwn {X : Cx} {CX : CXT} {C g : Addr} {k : Nat} {fd : FuncData} {ps : List Str} {sp : Sp} {E : XK} (hm : PySem.W.mroIn X.K C (.type "object") = some true) (hn : PySem.W.findIn X.K (.ref C) "__ne__" = some (some (.builtin "object.__ne__")))
    (hs : PySem.W.findIn X.K (.ref C) "__eq__" = some (some (.ref g))) (hf : PySem.W.isFn X.K (.ref g) = true)
    (F : FnOk X.prog X.w X.K X.mg X.base CX k g fd ps sp) (hr : Room (k + 1) X.A) (hb : Binds X.K fd ps []) (hx : Passes CX X E)
    {R : V → Hp → Prop} (hR : ∀ {y : V} {H : Hp} {u : Value} {pins : List (Addr × Obj)} {σ : L2.St} {s : Shared}, L2.Inv X pins σ H s → R y H → RelV y u → ∃ tb, PySem.W.Looks (model X.prog X.w) s.heap (typeOf u) tb ∧ PySem.W.notFirst X.K C tb = true) :
    OpR X (compareOp .NotEq) (rNeOwn C R sp E) := by
  intro pins s σ H x y v u Q I rx ry h
  obtain ⟨a, dx, fs, rfl, ha, hy, q⟩ := h
  cases (show v = Value.ref a from rx)
  obtain ⟨od, J⟩ := inst_at I ha
  obtain ⟨tb, ht, hn2⟩ := hR I hy ry
  show wpAny (model X.prog X.w) X.A (richCompare .NotEq (.ref a) u) (EP X pins σ Q) X.xe s
  refine rc_neK (show X.A.units + 1 < cLine from hr.in1.units0) I.kIn J ht hn2 hm hn hs hf ?_
  refine wpAny_mono (run_any (us := [.ref a, u]) (vs := [.ref a, y]) F hr.in1 I.env0.in1 hb hx I (.cons rfl (.cons ry .nil)) q) (fun w s' z => ?_) fun _ _ e => e
  obtain ⟨z', H', I', rz, r, rfl, qz⟩ := id z
  cases (show w = Value.bool r from rz)
  exact ⟨r, rfl, .bl (!r), H', I', rfl, qz⟩
section
variable {prog : Program} {w : World} {A : Around} {R : Result → Shared → Prop} {E : Value → Shared → Prop}
/-- at each turn the two lists are read anew: N items each, the i-th two equal as r i says -/
def ListB (prog : Program) (w : World) (A : Around) (E : Value → Shared → Prop) (l b : Addr) (N : Nat) (r : Nat → Bool) (I : Nat → Shared → Prop) : Prop :=
  ∀ i s, I i s → ∃ (xs ys : Array Value) (n n2 : Nat), s.heap.get? l = some { cls := .type "list", data := .seq xs n } ∧ s.heap.get? b = some { cls := .type "list", data := .seq ys n2 } ∧ xs.size = N ∧ ys.size = N ∧
    ∀ (h1 : i < xs.size) (h2 : i < ys.size), wpAny (model prog w) A.in1 (eqBool xs[i] ys[i]) (fun q s' => q = r i ∧ I (i + 1) s') E s
theorem loopB (l b : Addr) (N : Nat) (r : Nat → Bool) (I : Nat → Shared → Prop) (hl : ListB prog w A (fun e s' => R (.error e) s') l b N r I)
    (fin : (∀ j, j < N → r j = true) → ∀ s, I N s → R (.ok (.ret (.bool true))) s) (bad : ∀ j, j < N → r j = false → ∀ s, I (j + 1) s → R (.ok (.ret (.bool false))) s) :
    ∀ (k i : Nat), N - i = k → i ≤ N → (∀ j, j < i → r j = true) → ∀ s, I i s → wpAny (model prog w) A.in1 (Builtin.«list.__eq__.loop» ⟨[.ref l, .ref b, rawInt i, rawInt 2], []⟩) (FinOf prog w A R) (fun e s' => R (.error e) s') s
  | 0, i, hk, hi, all, s, h => by
    obtain ⟨xs, ys, n, n2, hl1, hb1, z1, z2, _⟩ := hl _ _ h
    have last : i = N := by omega
    have done : R (.ok (.ret (.bool true))) s := fin (fun j hj => all j (by omega)) s (last ▸ h)
    obtain ⟨hp, g, d, tk, os⟩ := s
    wp_walk using wpAny_loadPart' hl1, wpAny_loadPart' hb1
    have no1 : xs[((i : Nat) : Int).toNat]? = none := by simp; omega
    have no2 : ys[((i : Nat) : Int).toNat]? = none := by simp; omega
    rw [no1, no2]
    wp_walk using wpAny_loadPart' hl1, wpAny_loadPart' hb1
    show R (.ok (.ret (.bool (xs.size == ys.size)))) _
    rw [z1, z2]
    simpa using done
  | k + 1, i, hk, hi, all, s, h => by
    obtain ⟨xs, ys, n, n2, hl1, hb1, z1, z2, one⟩ := hl _ _ h
    have lt1 : i < xs.size := by omega
    have lt2 : i < ys.size := by omega
    have here := one lt1 lt2
    obtain ⟨hp, g, d, tk, os⟩ := s
    wp_walk using wpAny_loadPart' hl1, wpAny_loadPart' hb1
    have is1 : xs[((i : Nat) : Int).toNat]? = some xs[i] := by simp [lt1]
    have is2 : ys[((i : Nat) : Int).toNat]? = some ys[i] := by simp [lt2]
    have up : ((i : Int) + 1) = ((i + 1 : Nat) : Int) := by omega
    rw [is1, is2]
    refine wpAny_bind (wpAny_mono here (fun q s2 hq => ?_) fun _ _ x => x)
    obtain ⟨hr, hq⟩ := hq
    subst hr
    cases hb : r i with
    | true =>
      have rest := loopB l b N r I hl fin bad k (i + 1) (by omega) (by omega) (fun j hj => if e : j = i then by rw [e]; exact hb else all j (by omega)) s2 hq
      obtain ⟨hp2, g2, d2, tk2, os2⟩ := s2
      wp_walk
      rw [up]
      exact ⟨plainId_quiet plain_eq_loop _, codeAny_builtin entry_eq_loop (by rw [Around.under_plainId plain_eq_loop _] <;> exact rest)⟩
    | false =>
      have done := bad i (by omega) hb s2 hq
      obtain ⟨xs2, ys2, m, m2, hl2, hb2, z3, z4, _⟩ := hl _ _ hq
      have is3 : xs2[((i : Nat) : Int).toNat]? = some (xs2[i]'(by omega)) := by
        have : i < xs2.size := by omega
        simp [this]
      have is4 : ys2[((i : Nat) : Int).toNat]? = some (ys2[i]'(by omega)) := by
        have : i < ys2.size := by omega
        simp [this]
      obtain ⟨hp2, g2, d2, tk2, os2⟩ := s2
      wp_walk using wpAny_loadPart' hl2, wpAny_loadPart' hb2
      rw [is3, is4]
      wp_walk
      exact done
theorem listB (l b : Addr) (N : Nat) (r : Nat → Bool) (I : Nat → Shared → Prop) (hl : ListB prog w A (fun e s' => R (.error e) s') l b N r I)
    (fin : (∀ j, j < N → r j = true) → ∀ s, I N s → R (.ok (.ret (.bool true))) s) (bad : ∀ j, j < N → r j = false → ∀ s, I (j + 1) s → R (.ok (.ret (.bool false))) s) {s : Shared} (h : I 0 s) :
    wpAny (model prog w) A.in1 (Builtin.«list.__eq__» ⟨[.ref l, .ref b], []⟩) (FinOf prog w A R) (fun e s' => R (.error e) s') s := by
  obtain ⟨xs, ys, n, n2, hl1, hb1, z1, z2, _⟩ := hl _ _ h
  have rest := loopB (A := A) (R := R) l b N r I hl fin bad _ 0 rfl (Nat.zero_le _) (fun j hj => absurd hj (by omega)) s h
  obtain ⟨hp, g, d, tk, os⟩ := s
  have sub := AutoSeq1.sub_list_list
  have same : ¬ (xs.size != ys.size) = true := by simp [z1, z2]
  wp_walk using wpAny_loadPart' hl1, wpAny_loadPart' hb1
  exact ⟨plainId_quiet plain_eq_loop _, codeAny_builtin entry_eq_loop (by rw [Around.under_plainId plain_eq_loop _] <;> exact rest)⟩
theorem rcB {l b : Addr} {N : Nat} {Q : Value → Shared → Prop} {s : Shared} (hu : A.units < cLine) (r : Nat → Bool) (I : Nat → Shared → Prop) (hl : ListB prog w A E l b N r I)
    (fin : (∀ j, j < N → r j = true) → ∀ s, I N s → Q (.bool true) s) (bad : ∀ j, j < N → r j = false → ∀ s, I (j + 1) s → Q (.bool false) s) (h : I 0 s) : wpAny (model prog w) A (richCompare .Eq (.ref l) (.ref b)) Q E s := by
  obtain ⟨xs, ys, n, n2, hl1, hb1, _, _, _⟩ := hl _ _ h
  refine wpAny_richCompare_same_room (op := .Eq) ⟨_, hl1, rfl⟩ ⟨_, hb1, rfl⟩ F.slot_list_eq (call_here F.slot_list_eq ⟨_, hl1, rfl⟩ F.entry_list_eq (F.args_list_eq_2 _ _) ?_) hu
  exact listB (R := wants (fun v s' => v ≠ .notImplemented ∧ Q v s') E) l b N r I hl (fun a s' q => ⟨(fun x => nomatch x), fin a s' q⟩) (fun j a b s' q => ⟨(fun x => nomatch x), bad j a b s' q⟩) h
end
/-- == gives what D says, and only makes objects -/
def EqB (X : Cx) (n : Nat) (D : V → V → Hp → Bool → Prop) : Prop :=
  ∀ (A : Around) (pins : List (Addr × Obj)) (s : Shared) (σ : L2.St) (H : Hp) (x y : V) (u v : Value) (b : Bool), Sub X n A → Inv X pins σ H s → RelV x u → RelV y v → D x y H b →
    wpAny (model X.prog X.w) A (eqBool u v) (fun r s' => r = b ∧ ∃ H', Inv X pins σ H' s' ∧ Ext H H') X.xe s
theorem EqB.eqG {X : Cx} {n : Nat} {D : V → V → Hp → Bool → Prop} (h : EqB X n D) : EqG X n (fun x y H => D x y H true) := fun A pins s σ H x y u v sb I rx ry d => h A pins s σ H x y u v true sb I rx ry d
/-- x == y of two lists of the same length -/
def rEqB (D : V → V → Hp → Bool → Prop) : R2 := fun x y H Q => ∃ a b xs ys, x = .ref a ∧ y = .ref b ∧ H a = some (.lst xs) ∧ H b = some (.lst ys) ∧ xs.length = ys.length ∧ ∃ r : Nat → Bool,
  (∀ (i : Nat) x y, xs[i]? = some x → ys[i]? = some y → D x y H (r i)) ∧ ∀ H' c, Ext H H' → (c = true ↔ ∀ j, j < xs.length → r j = true) → Q (.bl c) H'
theorem op_eqB {X : Cx} {n : Nat} {D : V → V → Hp → Bool → Prop} (hD : ∀ x y H H' b, Ext H H' → D x y H b → D x y H' b) (h : EqB X n D) (hr : Room (n + 1) X.A) : OpR X (compareOp .Eq) (rEqB D) := by
  intro pins s σ H x y v u Q I rx ry hq
  obtain ⟨a, b, xs, ys, rfl, rfl, ha, hb, len, r, p, q⟩ := hq
  cases rx
  cases ry
  have sb : Sub X (n + 1) X.A := ⟨hr, rfl⟩
  show wpAny (model X.prog X.w) X.A (richCompare .Eq (.ref a) (.ref b)) (EP X pins σ Q) X.xe s
  refine rcB (N := xs.length) hr.units0 r (fun _ s' => LoopI X pins σ H s') (fun i s' z => ?_) (fun al s' ⟨H', I', e⟩ => ⟨.bl true, H', I', rfl, q H' true e ⟨fun _ => al, fun _ => rfl⟩⟩)
    (fun j hj rj s' ⟨H', I', e⟩ => ⟨.bl false, H', I', rfl, q H' false e ⟨fun z => (nomatch z), fun al => by rw [al j hj] at rj; cases rj⟩⟩) ⟨H, I, Ext.rfl'⟩
  obtain ⟨H1, I1, e1⟩ := id z
  obtain ⟨zz, its, k, rr, e⟩ := I1.hok a _ (e1 _ _ ha)
  obtain ⟨zz2, its2, k2, rr2, e2⟩ := I1.hok b _ (e1 _ _ hb)
  refine ⟨its.toArray, its2.toArray, k, k2, e, e2, by rw [List.size_toArray, ← rr.length], by rw [List.size_toArray, ← rr2.length, ← len], fun h1 h2 => ?_⟩
  have g1 : its[i]? = some its.toArray[i] := by
    have h1' : i < its.length := by simpa using h1
    rw [List.getElem?_eq_getElem h1'] <;> simp
  have g2 : its2[i]? = some its2.toArray[i] := by
    have h2' : i < its2.length := by simpa using h2
    rw [List.getElem?_eq_getElem h2'] <;> simp
  have k1 : i < xs.length := by rw [rr.length]; simpa using h1
  have k3 : i < ys.length := by rw [rr2.length]; simpa using h2
  obtain ⟨u, hu, ru⟩ := rr.get (List.getElem?_eq_getElem k1)
  obtain ⟨v, hv, rv⟩ := rr2.get (List.getElem?_eq_getElem k3)
  rw [g1] at hu
  rw [g2] at hv
  rw [Option.some.inj hu, Option.some.inj hv]
  refine wpAny_mono (h X.A.in1 pins s' σ H1 _ _ u v _ sb.in1 I1 ru rv (hD _ _ _ _ _ e1 (p i _ _ (List.getElem?_eq_getElem k1) (List.getElem?_eq_getElem k3)))) (fun r' s2 q' => ?_) fun _ _ x => x
  obtain ⟨hr', H2, I2, e2'⟩ := q'
  exact ⟨hr', H2, I2, e1.trans e2'⟩
end OwnNe
end

-- ErrVal
section
set_option Elab.async false
set_option linter.all false
set_option maxRecDepth 100000
set_option maxHeartbeats 2000000
/-! An own error with the field `given`, held as a value. -/
namespace L2
open PySem PySem.Spec PyProof.Rows
/-- an error of the class cls at e, its dict at d -/
def ExG (cls : Value) (e d : Addr) : HO := .ext fun h => ∃ (oe : Obj) (vs : Array Value), h.get? e = some oe ∧ Zc cls (some d) oe ∧ oe.data = .fields vs ∧ vs[1]? = some .none
section
variable {X : Cx} {C fI : Addr} {cn qn : Str} {B newId initId : String} {bt : List Value}
/-- Err(x), as a value -/
theorem pe_mkGiv {a : Expr} {ta : TA} {p pos : Pos} {k : Nat} (Z : PySem.Giv.BaseOk B newId initId bt) (T : PySem.Giv.ErrTxt X.K X.mg cn qn newId bt C fI) (hr : Room k X.A) (ha : PA X [a] ta) (hg : Gl X cn) (hdb : (cn == ("__debug__" : Str)) = false := by decide)
    (he : starEach (a :: []) X.env = (false, eval a X.env) :: starEach [] X.env := by rfl) (hpl : (backTo pos (starEach [] X.env)).any (·.1) = false := by rfl) :
    PE X (.Call (.Name cn p) [a] [] pos) (fun σ H Q => ta σ H fun vs H1 => ∃ v, vs = [v] ∧ ∀ e d, H1 e = none → H1 d = none → d ≠ e → Q (.ref e) (upd (upd H1 d (.xd [(("given" : Str), v)])) e (ExG (.ref C) e d))) := by
  refine ⟨fun pins s σ H Q I h => ?_⟩
  refine wpAny_Call_Name_kw (ld_glob I hg T.gC ?_ hdb)
  refine PySem.W.callWith_K (h₀ := X.base) I.ok.mod.kin T.kC (thn (ha.run pos pins s σ H _ I h) fun us s1 hh => ?_) he hpl
  obtain ⟨vs, H1, I1, r1, v, ev, q1⟩ := hh
  subst ev
  refine ⟨I1.kIn, ?_⟩
  cases r1 with
  | cons rv rn =>
    rename_i v' us'
    cases rn
    show wpAny _ _ (call (.ref C) [v']) _ _ _
    have hlim := I1.nolimit
    obtain ⟨hp, g, dr, tk, os⟩ := s1
    refine wpAny_call (PySem.Giv.giv_made Z T I1.kIn hlim (by have := hr.dp; omega) fun h' tk' e d M => ?_)
    show EP X pins σ Q (.ref e) ⟨h', g, dr, tk', os⟩
    obtain ⟨oe, fv, hoe, hc, hd, hdat, h1⟩ := M.obj
    have hns := M.ns
    obtain ⟨G', g1, g2⟩ := restrict h' fun b => decide (b ≠ e)
    have gk : ∀ b, b ≠ e → G'.get? b = h'.get? b := fun b hb => g1 b (decide_eq_true hb)
    have ge : G'.get? e = none := g2 e (by simp)
    have old : ∀ b o, hp.get? b = some o → G'.get? b = some o := fun b o q => (gk b (Nat.ne_of_lt (Nat.lt_of_lt_of_le (Heap.lt_size q) M.new))).trans (M.keep b o q)
    have ob : ObjOk X.prog X.w (upd H1 d (.xd [(("given" : Str), v)])) G' d (.xd [(("given" : Str), v)]) :=
      ⟨_, hns.at (fun o q => (gk d M.dne).trans q), fun f => relO_giv rv f⟩
    have J : L2.Inv X pins σ (upd H1 d (.xd [(("given" : Str), v)])) ⟨G', g, dr, tk', os⟩ := I1.laid (t' := tk') old M.dbig ob
    have en : (upd H1 d (.xd [(("given" : Str), v)])) e = none := by
      rw [upd_ne (Ne.symm M.dne)]
      exact I1.hok.fresh M.new
    have J2 : L2.Inv X pins σ (upd (upd H1 d (.xd [(("given" : Str), v)])) e (ExG (.ref C) e d)) ⟨h', g, dr, tk', os⟩ := J.laidN (t' := tk') (fun b o q => by
      by_cases hb : b = e
      · rw [hb, ge] at q; cases q
      · exact (gk b hb).symm.trans q) ge en ⟨⟨oe, fv, hoe, ⟨hc, hd⟩, hdat, h1⟩, ⟨oe, hoe⟩, fun _ _ ⟨o, u, q, r⟩ k => ⟨o, u, k o q, r⟩⟩
    exact ⟨.ref e, _, J2, rfl, q1 e d (I1.hok.fresh M.new) (I1.hok.fresh M.dbig) M.dne⟩
/-- err.given, err an error held as a value -/
theorem pe_givVal {e : Expr} {te : TE} {pos : Pos} (T : PySem.Giv.ErrTxt X.K X.mg cn qn newId bt C fI) (he : PE X e te) (hb : attributeBase e "given" X.env (eval e X.env) = eval e X.env := by rfl) :
    PE X (.Attribute e "given" pos) (fun σ H Q => te σ H fun x H1 => ∃ a d v, x = .ref a ∧ H1 a = some (ExG (.ref C) a d) ∧ H1 d = some (.xd [(("given" : Str), v)]) ∧ Q v H1) := by
  refine ⟨fun pins s σ H Q I h => ?_⟩
  refine attr_of hb (thn (he.run pins s σ H _ I h) fun u s1 hh => ?_)
  obtain ⟨x, H1, I1, rx, a, d, v, ex, ea, ed, q⟩ := hh
  subst ex
  obtain rfl : u = Value.ref a := rx
  obtain ⟨⟨oe, vs, ha, hz, hd, h1⟩, _, _⟩ := (show ObjOk X.prog X.w H1 s1.heap a (ExG (.ref C) a d) from I1.hok a _ ea)
  have hx : ObjOk X.prog X.w H1 s1.heap d (.xd [(("given" : Str), v)]) := I1.hok d _ ed
  obtain ⟨mA, hns, hr⟩ := hx
  obtain ⟨od, ho, hl⟩ := lookIn_ns hns
  have l : List.lookup ("given" : Str) [(("given" : Str), v)] = some v := by simp [List.lookup]
  obtain ⟨u, hu, ru⟩ := RelO.some_of (v := v) (o := mA "given") (by rw [← l]; exact hr "given")
  have J : PySem.W.InstAt s1.heap a oe C (some od) := ⟨ha, hz.1, by unfold PySem.W.notCls; rw [hd] <;> rfl, by rw [hz.2]; exact ho⟩
  exact HandSPX.exc_get I1.kIn J T.ga T.gg T.exC (PySem.W.findObj_own T.hdC T.noN rfl (by rw [hl, hu])) (handed_of ru) ⟨v, H1, I1.tok _, ru, q⟩
end
end L2
end

-- ErrVal2
section
set_option Elab.async false
set_option linter.all false
set_option maxRecDepth 100000
/-! isinstance of an error held as a value. -/
namespace L2
open PySem PySem.Spec PyProof.Rows
/-- what is known of the error class at C for isinstance -/
structure KitG (K : PySem.W.Frag) (C : Addr) : Prop where
  ic : PySem.W.isClsIn K C = true
  ga : PySem.W.findIn K (.ref C) "__getattribute__" = some (some (.builtin "BaseException.__getattribute__"))
  gg : ∃ gt, PySem.W.findIn K (.ref C) "__getattr__" = some gt
  ex : PySem.W.subIn K (.ref C) (.type "BaseException") = some true
  ha : PySem.W.findIn K (.ref C) "__class__" = some (some (.builtin "object.__class__"))
  hn : PySem.W.specialIn K (.builtin "object.__class__") "__get__" = some (some (.builtin "getset_descriptor.__get__"))
  htk : PySem.W.takesIn K (.builtin "object.__class__") = some true
  hm : PySem.W.mroIn K C (.type "object") = some true
def rIsiG (K : PySem.W.Frag) : List V → Hp → VK → Prop := fun xs H Q => ∃ (a d C : Addr) (fs : List (Str × V)) (c : V) (u : Value) (b : Bool), xs = [.ref a, c] ∧ H a = some (ExG (.ref C) a d) ∧ H d = some (.xd fs) ∧ KitG K C ∧ ClsV c u ∧ PySem.W.kitOne K (.ref C) u = some b ∧ Q (.bl b) H
theorem call_isiG {X : Cx} : CallR X (.builtin "isinstance") (rIsiG X.K) := by
  intro pins s σ H xs us Q I r h
  obtain ⟨a, d, C, fs, c, u, b, rfl, ea, ed, G, k, e, q⟩ := h
  obtain ⟨u1, u2, rfl, r1, r2⟩ := vals2 r
  cases (show u1 = Value.ref a from r1)
  have e2 := k.eq r2
  subst e2
  obtain ⟨⟨oe, vs, ha, hz, hd, h1⟩, _, _⟩ := (show ObjOk X.prog X.w H s.heap a (ExG (.ref C) a d) from I.hok a _ ea)
  have hx : ObjOk X.prog X.w H s.heap d (.xd fs) := I.hok d _ ed
  obtain ⟨mA, hns, hr⟩ := hx
  obtain ⟨od, ho, hl⟩ := lookIn_ns hns
  have J : PySem.W.InstAt s.heap a oe C (some od) := ⟨ha, hz.1, by unfold PySem.W.notCls; rw [hd] <;> rfl, by rw [hz.2]; exact ho⟩
  obtain ⟨gt, hgt⟩ := G.gg
  exact PySem.W.kia_one (PySem.W.kitx_exc (ox := oe) (od := some od) G.ic G.ga hgt G.ex G.ha G.hn G.htk G.hm) I.kIn J e (fun z => nomatch z) fun tk => ⟨.bl b, H, I.tok tk, rfl, q⟩
end L2
end

-- OwnTry
section
set_option Elab.async false
set_option linter.all false
set_option maxRecDepth 100000
/-! Calls whose exception is wished for at just these slots; isinstance of a held error with a dict. -/
namespace OwnTry
open PySem L2
/-- W at the slots σ -/
def EA (W : WX) (σ : L2.St) : XK := fun cls d H' => W cls d σ H'
section
variable {X : Cx} {k : Nat} {f C : Addr} {fd : FuncData} {ps : List Str} {sp : Sp} {dvs : List V} {ds : List Value} {W : WX} {x m : Str} {p pos apos : Pos} {e o : Expr} {es : List Expr} {ta : TE} {t : TA}
theorem out_at {pins : List (Addr × Obj)} {σ : L2.St} {H : Hp} {s : Shared} (tk : Takes X W) (I : L2.Inv X pins σ H s) {u : Value} {s' : Shared} (c : L2.CX X.prog X.w X.stack H s (EA W σ) u s') : X.xe u s' :=
  tk _ _ (XE.of_call I (fun _ _ _ z => z) c)
/-- a def called, W wished for if it raises -/
theorem run_at {A : Around} {pins : List (Addr × Obj)} {σ : L2.St} {H : Hp} {s : Shared} {Q : VK} {us : List Value} {vs : List V} (F : FnOk X.prog X.w X.K X.mg X.base (L2.CX X.prog X.w) k f fd ps sp) (room : Room k A)
    (e0 : Env0 X.prog X.w X.K X.mg X.base A X.stack s H) (bi : L2.Binds X.K fd ps ds) (dv : Vals dvs ds) (tk : Takes X W)
    (I : L2.Inv X pins σ H s) (rel : Vals vs us) (h : sp (vs ++ dvs) H Q (EA W σ)) : wpAny (model X.prog X.w) A (call (.ref f) us) (EP X pins σ Q) X.xe s := by
  have both := rel.append dv
  have size : (us ++ ds).length = ps.length := both.length.symm.trans (F.len _ _ _ _ h)
  have body := F.run A X.stack s H ⟨us, []⟩ (us ++ ds) (vs ++ dvs) Q (EA W σ) room e0 (bi s us I.kIn size) both h
  refine wpAny_call (codeAny_mono body fun res s' got => ?_)
  match res, got with
  | .error u, got => exact out_at tk I got
  | .ok (.ret u), got => exact I.after got
  | .ok .next, got => exact got.elim
  | .ok .brk, got => exact got.elim
  | .ok .cont, got => exact got.elim
/-- o.m(e, ..) in a try -/
def tMethA (C : Addr) (m : Str) (sp : Sp) (dvs : List V) (W : WX) (ta : TE) (t : TA) : TE := fun σ H Q => ta σ H fun x H1 => ∃ a dx fs, x = .ref a ∧ H1 a = some (.ins C dx fs) ∧ fs.lookup m = none ∧ t σ H1 fun vs H2 => sp (.ref a :: (vs ++ dvs)) H2 Q (EA W σ)
theorem pe_methA {pl : Sem Bool} (he : PE X o ta) (c : Cls X.K C) (hm : Meth X.K C m f) (F : FnOk X.prog X.w X.K X.mg X.base (L2.CX X.prog X.w) k f fd ps sp) (room : Room k X.A) (bi : L2.Binds X.K fd ps ds) (dv : Vals dvs ds) (tk : Takes X W) (ha : PA X (e :: es) t)
    (hst : starEach (e :: es) X.env = (false, eval e X.env) :: starEach es X.env := by rfl) (hpl : (backTo pos (starEach es X.env)).any (·.1) = false := by rfl)
    (ht : eval (.Call (.Attribute o m apos) (e :: es) [] pos) X.env = (do
      let ov ← eval o X.env
      standAt apos.atName
      let (f, first) ← holding [ov] (getMethod ov m pl)
      callWith pos f first (backTo pos (starEach (e :: es) X.env)) (backToKw pos (keywordEach [] X.env))) := by rfl) :
    PE X (.Call (.Attribute o m apos) (e :: es) [] pos) (tMethA C m sp dvs W ta t) := by
  refine ⟨fun pins s σ H Q I h => ?_⟩
  refine PySem.W.methodCall_KW (pl := pl) (thn (he.run pins s σ H _ I h) fun u s1 hh => ?_) ht
  obtain ⟨x, H1, I1, rx, a, dx, fs, ex, ea, l, q⟩ := hh
  subst ex
  obtain rfl : u = Value.ref a := rx
  refine getmeth_ok I1 ea c hm l ?_
  refine PySem.W.callWith_K (first := [.ref a]) (h₀ := X.base) I.ok.mod.kin hm.kp (thn (ha.run pos pins s1 σ H1 _ I1 q) fun us s2 h2 => ?_) hst hpl
  obtain ⟨vs, H2, I2, r, q2⟩ := h2
  exact ⟨I2.kIn, run_at (us := .ref a :: us) (vs := .ref a :: vs) F room I2.env0 bi dv tk I2 (.cons rfl r) q2⟩
end
/-- isinstance(e, c), e the error with a dict that the suite holds -/
def rIsiH (K : PySem.W.Frag) (a : Addr) (cls : Value) (d : Option Addr) : List V → Hp → VK → Prop := fun xs H Q => ∃ (C dd : Addr) (fs : List (Str × V)) (c : V) (u : Value) (b : Bool),
  xs = [.ref a, c] ∧ cls = .ref C ∧ d = some dd ∧ H dd = some (.xd fs) ∧ KitG K C ∧ ClsV c u ∧ PySem.W.kitOne K (.ref C) u = some b ∧ Q (.bl b) H
theorem call_isiH {X : Cx} {a : Addr} {oe : Obj} {cls : Value} {d : Option Addr} {pn : List (Addr × Obj)} (hz : Zc cls d oe) (hf : ∃ vs, oe.data = .fields vs) : CallR (X.suite a ((a, oe) :: pn)) (.builtin "isinstance") (rIsiH X.K a cls d) := by
  intro pins s σ H xs us Q I r h
  obtain ⟨C, dd, fs, c, u, b, rfl, rfl, rfl, ed, G, k, e, q⟩ := h
  obtain ⟨u1, u2, rfl, r1, r2⟩ := vals2 r
  cases (show u1 = Value.ref a from r1)
  have e2 := k.eq r2
  subst e2
  obtain ⟨ha, _⟩ := I.pin (a, oe) (List.mem_append_left _ List.mem_cons_self)
  obtain ⟨vs, hd⟩ := hf
  have hx : ObjOk X.prog X.w H s.heap dd (.xd fs) := I.hok dd _ ed
  obtain ⟨mA, hns, hr⟩ := hx
  obtain ⟨od, ho, hl⟩ := lookIn_ns hns
  have J : PySem.W.InstAt s.heap a oe C (some od) := ⟨ha, hz.1, by unfold PySem.W.notCls; rw [hd] <;> rfl, by rw [hz.2]; exact ho⟩
  obtain ⟨gt, hgt⟩ := G.gg
  exact PySem.W.kia_one (PySem.W.kitx_exc (ox := oe) (od := some od) G.ic G.ga hgt G.ex G.ha G.hn G.htk G.hm) I.kIn J e (fun z => nomatch z) fun tk => ⟨.bl b, H, I.tok tk, rfl, q⟩
end OwnTry
end

-- Gen1
section
set_option Elab.async false
set_option linter.all false
set_option maxRecDepth 100000
/-! what every law's text wants again. -/
namespace G1
open PySem L2 OwnOps
theorem if_pos' {c : Bool} {A B : Prop} (hc : c = true) (h : A) : if c = true then A else B := by
  rw [if_pos hc]
  exact h
theorem if_neg' {c : Bool} {A B : Prop} (hc : c = false) (h : B) : if c = true then A else B := by
  rw [hc, if_neg Bool.false_ne_true]
  exact h
theorem same_upd {H : Hp} {p : Addr} {o : HO} (h : H p = none) : Same H (upd H p o) := fun b u e => by
  rw [upd_ne (ne_of_none e h)]
  exact e
theorem same_put {H G : Hp} {D : Addr} {o : HO} (s : Same H G) (h : H D = none) : Same H (upd G D o) := fun b u e => by
  rw [upd_ne (ne_of_none e h)]
  exact s b u e
/-- a new instance in making -/
theorem same_new {H : Hp} {x dx C : Addr} (hx : H x = none) (hd : H dx = none) : Same H (upd (upd H dx (.own x)) x (.ins C dx [])) := fun b u e => by
  rw [upd_ne (ne_of_none e hx), upd_ne (ne_of_none e hd)]
  exact e
/-- all stands but at l -/
def SameX (l : Addr) (H H' : Hp) : Prop := ∀ b u, b ≠ l → H b = some u → H' b = some u
theorem SameX.refl (l : Addr) (H : Hp) : SameX l H H := fun _ _ _ e => e
theorem SameX.trans {l : Addr} {H H1 H2 : Hp} (a : SameX l H H1) (b : SameX l H1 H2) : SameX l H H2 := fun c o n h => b c o n (a c o n h)
theorem SameX.of {l : Addr} {H H' : Hp} (a : Same H H') : SameX l H H' := fun c o _ h => a c o h
theorem SameX.upd {l : Addr} {H : Hp} {o : HO} : SameX l H (upd H l o) := fun c u n h => by
  rw [upd_ne n]
  exact h
theorem SameX.put {l a : Addr} {H H1 : Hp} {o : HO} (s : SameX l H H1) (h : H1 a = none) : SameX l H (L2.upd H1 a o) := fun c u n e => by
  rw [upd_ne (ne_of_none (s c u n e) h)]
  exact s c u n e
theorem same_made {H H' : Hp} {C x dx : Addr} (hx : H x = none) (hd : H dx = none) (sx : SameX x (upd (upd H dx (.own x)) x (.ins C dx [])) H') : Same H H' := fun b u e =>
  sx b u (ne_of_none e hx) (same_new hx hd b u e)
/-- a def of the module, called by its name -/
structure Glb (P : Program) (w : World) (K : PySem.W.Frag) (mg : Str → Option Value) (base : Heap) (x : Str) (k : Nat) (ps : List Str) (sp : Sp) : Prop where
  ex : ∃ (f : Addr) (fd : FuncData), mg x = some (.ref f) ∧ PySem.W.keepIn K (.ref f) = true ∧ FnOk P w K mg base (L2.CX P w) k f fd ps sp ∧ L2.Binds K fd ps []
/-- a method of the class, by its name -/
structure Dun (P : Program) (w : World) (K : PySem.W.Frag) (mg : Str → Option Value) (base : Heap) (C : Addr) (nm : Str) (k : Nat) (ps : List Str) (sp : Sp) : Prop where
  ex : ∃ (f : Addr) (fd : FuncData), PySem.W.findIn K (.ref C) nm = some (some (.ref f)) ∧ PySem.W.isFn K (.ref f) = true ∧ PySem.W.keepIn K (.ref f) = true ∧ FnOk P w K mg base (L2.CX P w) k f fd ps sp ∧ L2.Binds K fd ps []
section
variable {prog : Program} {w : World} {A : Around} {E : Value → Shared → Prop} {s : Shared}
theorem eqBool_rc {l : Addr} {v : Value} {Q : Bool → Shared → Prop} (ne : (Value.ref l == v) = false)
    (h : wpAny (model prog w) A (richCompare .Eq (.ref l) v) (fun x s' => ∃ r, x = .bool r ∧ Q r s') E s) : wpAny (model prog w) A (eqBool (.ref l) v) Q E s := by
  unfold eqBool
  refine wpAny_holding (wpAny_ite_split (fun z => absurd z (by rw [ne]; decide)) fun _ => wpAny_bind (wpAny_mono h ?_ fun _ _ x => x))
  rintro x s' ⟨r, rfl, q⟩
  exact wpAny_truthy_bool q
end
abbrev Fs := List (Str × V)
theorem putF_ne {n m : Str} {x y : V} {r : Fs} (h : ¬ m = n) : putF n y ((m, x) :: r) = (m, x) :: putF n y r := by
  show (if m = n then _ else _) = _
  rw [if_neg h] <;> rfl
theorem putF_eq {n : Str} {x y : V} {r : Fs} : putF n y ((n, x) :: r) = (n, y) :: r := by
  show (if n = n then _ else _) = _
  rw [if_pos rfl] <;> rfl
theorem lk_cons {n m : Str} {v : V} {l : List (Str × V)} (h : ¬ m = n) : ((m, v) :: l).lookup n = l.lookup n := by
  rw [List.lookup_cons, beq_false_of_ne (fun e => h e.symm)] <;> rfl
theorem lk_here {n : Str} {v : V} {l : List (Str × V)} : ((n, v) :: l).lookup n = some v := by
  rw [List.lookup_cons, beq_self_eq_true] <;> rfl
/-- all so far were true -/
def AllI (H : Hp) (D : Addr) (j : Nat) : Hp → Prop := fun G => Same H G ∧ G D = some (.lst ((List.replicate j true).map V.bl))
theorem all0 {H : Hp} {D : Addr} (h : H D = none) : AllI H D 0 (upd H D (.lst [])) := ⟨same_upd h, upd_same⟩
theorem AllI.step {H G G' : Hp} {D : Addr} {j : Nat} (i : AllI H D j G) (h : H D = none) (s : Same G G') : G' D = some (.lst ((List.replicate j true).map V.bl)) ∧ AllI H D (j + 1) (upd G' D (.lst ((List.replicate j true).map V.bl ++ [.bl true]))) := by
  refine ⟨s _ _ i.2, same_put (i.1.trans s) h, ?_⟩
  rw [upd_same, List.replicate_succ', List.map_append]
  rfl
theorem rep_len {j : Nat} (h : j < sizeLine) : ((List.replicate j true).map V.bl).length < sizeLine := by
  rw [List.length_map, List.length_replicate]
  exact h
theorem rep_all (j : Nat) : (List.replicate j true).all id = true := by
  rw [List.all_eq_true]
  intro x h
  rw [(List.mem_replicate.mp h).2]
  rfl
theorem map_at {xs : List Str} {j : Nat} {x : V} (h : (xs.map V.str)[j]? = some x) : ∃ t, xs[j]? = some t ∧ x = .str t := by
  rw [List.getElem?_map] at h
  cases e : xs[j]? with
  | none => rw [e] at h; cases h
  | some t =>
    rw [e] at h
    cases h
    exact ⟨t, rfl, rfl⟩
theorem yes_go {σ : L2.St} {H : Hp} {Q : Bool → Hp → Prop} (h : Q true H) : tYes σ H Q := h
end G1
end

-- EqDict
section
set_option Elab.async false
set_option linter.all false
set_option maxRecDepth 100000
/-! == of two dicts with flat values, whatever comes of it; of lists of such dicts. -/
namespace EqDict
open PySem L2 PySem.W OwnNe
abbrev Ent := List (Key × V)
/-- the same entries -/
def at1 (ls : Ent) (p : Key × V) : Bool := match valV ls p.1 with
  | none => false
  | some y => eqV p.2 y
def dEq (ks ls : Ent) : Bool := (ks.length == ls.length) && ks.all (at1 ls)
def Flt (ks : Ent) : Prop := ∀ p ∈ ks, flatV p.2 = true
theorem valV_mem {ls : Ent} {k : Key} {y : V} (h : valV ls k = some y) : ∃ p ∈ ls, p.2 = y := by
  unfold valV at h
  cases e : ls.find? (fun p => p.1 = k) with
  | none => rw [e] at h; cases h
  | some p =>
    rw [e] at h
    cases h
    exact ⟨p, List.mem_of_find?_eq_some e, rfl⟩
theorem hits {A : Around} {s : Shared} {ls : Ent} {vb : List (Key × Value)} (rb : KV ls vb) (fl : Flt ls) : ∀ {ks : Ent} {va : List (Key × Value)}, KV ks va → Flt ks →
    KeqHits A s vb va (ks.all (at1 ls))
  | _, _, .nil, _ => .nil
  | (k, x) :: ks, (k', u) :: va, .cons r t, f => by
    obtain ⟨r1, r2⟩ := r
    cases (show k = k' from r1)
    have rest := hits (A := A) (s := s) rb fl t fun p h => f p (List.mem_cons_of_mem _ h)
    rw [List.all_cons]
    unfold at1
    dsimp only
    have ro : RelO (valV ls k) (valueAt vb k) := rb.val k
    cases e : valV ls k with
    | none =>
      rw [e] at ro
      exact .miss (RelO.none_of ro)
    | some y =>
      rw [e] at ro
      obtain ⟨v, hv, rv⟩ := ro.some_of
      obtain ⟨p, hp, rfl⟩ := valV_mem e
      exact .hit hv (eqAt_V r2 rv (f _ List.mem_cons_self) (fl p hp)) rest
section
variable {X : Cx}
def rEqD (neg : Bool) : R2 := fun x y H Q => ∃ a b ks ls, x = .ref a ∧ y = .ref b ∧ Rd H a (.dK ks) ∧ Rd H b (.dK ls) ∧ Flt ks ∧ Flt ls ∧ Q (.bl (if neg then !dEq ks ls else dEq ks ls)) H
theorem op_eqDT (hu : X.A.units < cLine) : OpR X (compareOp .Eq) (rEqD false) := by
  intro pins s σ H x y v u Q I rx ry h
  obtain ⟨a, b, ks, ls, rfl, rfl, ea, eb, f1, f2, q⟩ := h
  cases rx
  cases ry
  obtain ⟨_, ya, va, ra, da⟩ := dk_rd I.hok ea
  obtain ⟨_, yb, vb, rb, db⟩ := dk_rd I.hok eb
  refine keq_eq (knd := mixKind X.prog X.w) ya yb da db hu (fun _ => hits rb f2 ra f1) ⟨.bl (dEq ks ls), H, I, ?_, q⟩
  unfold dEq
  rw [show ks.length = va.length from Paired.length ra, show ls.length = vb.length from Paired.length rb]
  rfl
theorem op_neDT (hu : X.A.units < cLine) : OpR X (compareOp .NotEq) (rEqD true) := by
  intro pins s σ H x y v u Q I rx ry h
  obtain ⟨a, b, ks, ls, rfl, rfl, ea, eb, f1, f2, q⟩ := h
  cases rx
  cases ry
  obtain ⟨_, ya, va, ra, da⟩ := dk_rd I.hok ea
  obtain ⟨_, yb, vb, rb, db⟩ := dk_rd I.hok eb
  refine keq_ne (knd := mixKind X.prog X.w) ya yb da db hu (fun _ => hits rb f2 ra f1) ⟨.bl (!dEq ks ls), H, I, ?_, q⟩
  unfold dEq
  rw [show ks.length = va.length from Paired.length ra, show ls.length = vb.length from Paired.length rb]
  rfl
/-- two dicts, apart -/
def DD : V → V → Hp → Bool → Prop := fun x y H r => ∃ a b ks ls, x = .ref a ∧ y = .ref b ∧ a ≠ b ∧ H a = some (.dK ks) ∧ H b = some (.dK ls) ∧ Flt ks ∧ Flt ls ∧ r = dEq ks ls
theorem mon_DD : ∀ x y H H' b, Ext H H' → DD x y H b → DD x y H' b := fun _ _ _ _ _ e ⟨a, b, ks, ls, h1, h2, n, h3, h4, r⟩ => ⟨a, b, ks, ls, h1, h2, n, e _ _ h3, e _ _ h4, r⟩
theorem eqB_DD : EqB X 1 DD := by
  intro A pins s σ H x y u v r sb I rx ry d
  obtain ⟨a, b, ks, ls, rfl, rfl, ne, ea, eb, f1, f2, rfl⟩ := d
  cases rx
  cases ry
  refine G1.eqBool_rc (beq_eq_false_iff_ne.mpr fun z => ne (Value.ref.inj z)) ?_
  obtain ⟨_, ya, va, ra, da⟩ := dk_rd I.hok (.inl ea)
  obtain ⟨_, yb, vb, rb, db⟩ := dk_rd I.hok (.inl eb)
  refine keq_eq (knd := mixKind X.prog X.w) ya yb da db sb.room.units0 (fun _ => hits rb f2 ra f1) ⟨_, rfl, ?_, H, I, Ext.rfl'⟩
  unfold dEq
  rw [show ks.length = va.length from Paired.length ra, show ls.length = vb.length from Paired.length rb]
end
end EqDict
end

-- SetStr
section
set_option Elab.async false
set_option linter.all false
set_option maxRecDepth 100000
/-! len(set(xs)), xs any texts (up to 4000). -/
namespace SetStr
open PySem PySem.Spec PyProof.Rows
/-- how many unlike ones stand among the first i -/
def cnt (xs : List Str) : Nat → Nat
  | 0 => 0
  | i + 1 => if xs.getD i Str.empty ∈ xs.take i then cnt xs i else cnt xs i + 1
theorem cnt_succ (xs : List Str) (i : Nat) : cnt xs (i + 1) = if xs.getD i Str.empty ∈ xs.take i then cnt xs i else cnt xs i + 1 := rfl
theorem cnt_le (xs : List Str) : ∀ i, cnt xs i ≤ i
  | 0 => Nat.le_refl _
  | i + 1 => by
    rw [cnt_succ]
    have := cnt_le xs i
    split <;> omega
theorem cnt_nodup {xs : List Str} (h : xs.Nodup) : ∀ i, i ≤ xs.length → cnt xs i = i
  | 0, _ => rfl
  | i + 1, hi => by
    rw [cnt_succ]
    have hl : i < xs.length := hi
    have e : xs.getD i Str.empty = xs[i] := by rw [List.getD_eq_getElem?_getD, List.getElem?_eq_getElem hl] <;> rfl
    rw [if_neg, cnt_nodup h i (by omega)]
    rw [e]
    intro z
    obtain ⟨j, hj, ej⟩ := List.getElem_of_mem z
    have hj' : j < i := by rw [List.length_take] at hj; omega
    rw [List.getElem_take] at ej
    have := (List.getElem_inj h).mp ej
    omega
theorem cnt_bad {xs : List Str} {i j : Nat} (hij : i < j) (hj : j < xs.length) (e : xs.getD i Str.empty = xs.getD j Str.empty) : ∀ k, j < k → cnt xs k < k
  | 0, h => by omega
  | k + 1, h => by
    rw [cnt_succ]
    by_cases hk : k = j
    · subst hk
      have m : xs.getD k Str.empty ∈ xs.take k := by
        rw [← e]
        have hi : i < xs.length := by omega
        have e2 : xs.getD i Str.empty = xs[i] := by rw [List.getD_eq_getElem?_getD, List.getElem?_eq_getElem hi] <;> rfl
        rw [e2, List.mem_take_iff_getElem]
        exact ⟨i, by omega, rfl⟩
      rw [if_pos m]
      have := cnt_le xs k
      omega
    · have := cnt_bad hij hj e k (by omega)
      split <;> omega
abbrev mem (xs : List Str) (i : Nat) : Str → Bool := fun k => decide (k ∈ xs.take i)
theorem mem_succ {xs : List Str} {i : Nat} (h : i < xs.length) (k : Str) : mem xs (i + 1) k = (mem xs i k || decide (k = xs.getD i Str.empty)) := by
  have e : xs.getD i Str.empty = xs[i] := by rw [List.getD_eq_getElem?_getD, List.getElem?_eq_getElem h] <;> rfl
  rw [e, ← Bool.decide_or]
  exact decide_eq_decide.mpr (by rw [List.take_succ_eq_append_getElem h, List.mem_append, List.mem_singleton])
section
variable {prog : Program} {w : World} {A : Around} {R : Result → Shared → Prop} {it : Addr} {fp wr : List Addr} {G : Array GenState → Array GenState → Prop} {n : Nat} {T : Nat → Value → Prop} {Z : Nat → Shared → Prop}
theorem fill (W : WalksS prog w A.in1 it fp wr G n T Z) (a : Addr) (out : a ∉ fp) (xs : List Str) (len : xs.length = n) (few : n ≤ 4000) (txt : ∀ i v, T i v → ∃ t, v = .str (xs.getD i Str.empty) t) :
    ∀ (k i : Nat) (s : Shared), n - i = k → i ≤ n → Z i s → s.heap.SetOf (strKind prog w) a (mem xs i) (cnt xs i) →
      (∀ s', Moved (a :: wr) G s s' → s'.heap.SetOf (strKind prog w) a (mem xs n) (cnt xs n) → R (.ok (.ret .none)) s') → codeAny (model prog w) A (.builtin "set.update.loop" ⟨[.ref a, .ref it], []⟩) R s := by
  have out' : a ∉ wr := fun h => out (W.sub _ h)
  intro k
  induction k with
  | zero =>
    intro i s hk hi hst hS fin
    cases (show n = i by omega)
    refine codeAny_builtin F.entry_set_update_loop (by
      rw [Around.under_plainId F.plain_set_update_loop _]
      refine wpAny_bind (m := pyNext (.ref it)) (W.done s _ _ hst fun s' hm => ?_)
      refine wpAny_pure (fin s' (hm.mono fun b h => List.mem_cons_of_mem _ h) ?_)
      obtain ⟨o, es, ep, t, ho, rest⟩ := hS
      exact ⟨o, es, ep, t, hm.heap a _ out' ho, rest⟩)
  | succ k ih =>
    intro i s hk hi hst hS fin
    have lt : i < n := by omega
    refine codeAny_builtin F.entry_set_update_loop (by
      rw [Around.under_plainId F.plain_set_update_loop _]
      refine wpAny_bind (m := pyNext (.ref it)) (W.item i s _ _ lt hst fun v s1 hv st1 hm => ?_)
      obtain ⟨t, rfl⟩ := txt i v hv
      have S1 : s1.heap.SetOf (strKind prog w) a (mem xs i) (cnt xs i) := let ⟨o, es, ep, tb, ho, rest⟩ := hS; ⟨o, es, ep, tb, hm.heap a _ out' ho, rest⟩
      refine wpAny_bind (m := holding [Value.str (xs.getD i Str.empty) t] (setAdd a (.str (xs.getD i Str.empty) t))) (wpAny_holding ?_)
      unfold setAdd
      refine wpAny_holding (wpAny_bind ((strKind prog w).pyHash (k := xs.getD i Str.empty) (strKind_is _ _ _ _) ?_))
      have room : cnt xs i + 1 < scanBound := by
        have := cnt_le xs i
        unfold scanBound
        omega
      refine wpAny_setAddHashed_of (knd := strKind prog w) (s := { s1 with toks := s1.toks + 1 }) (strKind_is _ _ _ _) rfl S1 room fun h' sb S2 => ?_
      have S3 : h'.SetOf (strKind prog w) a (mem xs (i + 1)) (cnt xs (i + 1)) := SetOf_congr S2 (fun k' => (mem_succ (by omega) k').symm) (by
        rw [cnt_succ]
        by_cases hm : xs.getD i Str.empty ∈ xs.take i
        · rw [if_pos hm, if_pos (decide_eq_true hm)]
        · rw [if_neg hm, if_neg (fun z => hm (of_decide_eq_true z))])
      refine wpAny_pure ⟨plainId_quiet F.plain_set_update_loop _, ih (i + 1) _ (by omega) lt (W.frame _ s1 _ _ st1 (Nat.le_succ _) fun b hb o e => (sb.2 b fun h : b = a => out (h ▸ hb)).trans e) S3 fun s2 m2 S4 => fin s2 ?_ S4⟩
      exact Moved.trans W.gtrans ((hm.mono fun b h => List.mem_cons_of_mem _ h).then_heap (Nat.le_succ _) fun b o hb e => (sb.2 b fun h : b = a => hb (h ▸ List.mem_cons_self)).trans e) m2)
end
section
variable {prog : Program} {w : World} {A : Around} {E : Value → Shared → Prop} {s : Shared}
/-- a set that holds nothing yet -/
abbrev bare (led : Bool) : Obj := { cls := .type "set", dict := none, data := .set #[] 0 (.fresh 0 0 led) }
abbrev made (s : Shared) (led : Bool) : Shared := { s with heap := s.heap.push (bare led) }
/-- what stands behind set(xs) -/
def Filled (prog : Program) (w : World) (s : Shared) (xs : List Str) (h : Heap) : Prop :=
  h.SetOf (strKind prog w) s.heap.objs.size (mem xs xs.length) (cnt xs xs.length) ∧ ∀ b o, b < s.heap.objs.size → s.heap.get? b = some o → h.get? b = some o
theorem init_set {l : Addr} {items : Array Value} {xs : List Str} {led : Bool} (calm : A.handled = none) (hl : s.heap.IsList l items) (ht : StrsAre items.toList xs) (few : xs.length ≤ 4000)
    {Q : PySem.Fin → Shared → Prop} (fin : ∀ h' tk, Filled prog w s xs h' → Q (.done (.ret .none)) { s with heap := h', toks := tk }) :
    wpAny (model prog w) A (Builtin.«set.__init__» ⟨[Value.ref s.heap.objs.size, Value.ref l], []⟩) Q E (made s led) := by
  have new : (made s led).heap.get? s.heap.objs.size = some (bare led) := Heap.get?_push_size _ rfl
  obtain ⟨o, ho, hc, nl, hd⟩ := hl
  obtain ⟨oc, od, oe, os⟩ := o
  cases hc
  cases hd
  have hl : s.heap.IsList l items := ⟨_, ho, rfl, nl, rfl⟩
  have ho1 : (made s led).heap.get? l = some { cls := .type "list", dict := od, data := .seq items nl, slots := os } := Heap.get?_push_of_some _ ho
  have hl1 : (made s led).heap.IsList l items := ⟨_, ho1, rfl, nl, rfl⟩
  have f1 := F.sub_list_set
  have f2 := F.sub_list_frozenset
  have f3 : (Value.type "list" == Value.type "dict") = false := by decide
  have lt : l < s.heap.objs.size := Heap.lt_size ho
  have sz : (made s led).heap.objs.size = s.heap.objs.size + 1 := Heap.size_push _ _
  have tx : xs.length = items.size := by rw [← StrsAre.len_eq ht, Array.length_toList]
  unfold Builtin.«set.__init__» noKeywords Builtin.Frozenset.updateFrom
  unfold made at *
  generalize hPI : pyIter = PI
  wp_walk
  subst hPI
  refine wpAny_pyIter_list hl1 (wpAny_bind (wpAny_runValue ?_))
  have apart : l ≠ (s.heap.push (bare led)).objs.size := by rw [sz]; exact Nat.ne_of_lt (Nat.lt_succ_of_lt lt)
  have out : s.heap.objs.size ∉ [(s.heap.push (bare led)).objs.size, l] := by
    rw [sz]
    simp only [List.mem_cons, List.not_mem_nil, or_false, not_or]
    exact ⟨Nat.ne_of_lt (Nat.lt_succ_self _), Nat.ne_of_gt lt⟩
  have at0 : ((s.heap.push (bare led)).push { cls := .type "list_iterator", data := .fields #[.ref l, .int 0 0] }).get? s.heap.objs.size = some (bare led) := Heap.get?_push_of_some _ new
  refine fill ((Walks.list (by simp [calm]) _ l apart items).toS) s.heap.objs.size out xs tx (by omega) (fun i v hv => SS.strs_at ht i v (by rw [Array.getElem?_toList]; exact hv)) (items.size - 0) 0 _ (by omega) (Nat.zero_le _) ⟨⟨_, Heap.get?_push_size _ rfl, rfl, rfl⟩, (hl1.push _)⟩
    (SetOf_congr ((setObjOf_fresh (knd := strKind prog w) led).setOf at0 (by unfold scanBound; omega)) (fun _ => rfl) rfl) fun s2 mv S2 => ?_
  obtain ⟨h2, g2, d2, tk, os2⟩ := s2
  cases (show g2 = s.gens from mv.gens)
  cases (show d2 = s.drawn from mv.drawn)
  cases (show os2 = s.os from mv.os)
  refine wpAny_pure (wpAny_pure (fin h2 tk ⟨by rw [tx]; exact S2, fun b o hb e => mv.heap b o ?_ (Heap.get?_push_of_some _ (Heap.get?_push_of_some _ e))⟩))
  simp only [List.mem_cons, List.not_mem_nil, or_false, not_or]
  exact ⟨Nat.ne_of_lt hb, by rw [sz]; exact Nat.ne_of_lt (Nat.lt_succ_of_lt hb)⟩
set_option maxHeartbeats 1600000 in
theorem call_set {l : Addr} {items : Array Value} {xs : List Str} {Q : Value → Shared → Prop} (calm : A.handled = none) (hl : s.heap.IsList l items) (ht : StrsAre items.toList xs) (few : xs.length ≤ 4000)
    (fin : ∀ (h' : Heap) (tk : Nat), Filled prog w s xs h' → Q (.ref s.heap.objs.size) { s with heap := h', toks := tk }) : wpAny (model prog w) A (call (.type "set") [.ref l]) Q E s := by
  obtain ⟨c, tl, hmro⟩ := F.called_set.mro
  have k1 := F.called_set.made
  have k2 := F.called_set.sub
  have k3 := F.called_set.notType
  have k4 := F.called_set.canCreate
  have k5 := F.typeCall_set_1 (.ref l)
  refine wpAny_call (codeAny_of_tree (wpAny_pure (M := model prog w) ⟨Code.quiet_builtin _ (by decide +kernel), codeAny_builtin F.entry_type_call ?_⟩))
  rw [Around.under_plain (weight_type_call_type "set" [.ref l] []) rfl]
  repeat (any_goals (first | assumption | wp_step))
  refine codeAny_mono (code_set_new_1 (.ref l) (E := E) (Q₁ := fun x s1 => ∃ led : Bool, x = .ref s.heap.objs.size ∧ s1 = made s led) fun led => ⟨led, rfl, rfl⟩) fun r s1 hr => ?_
  rcases r with e | (_ | _ | _ | x)
  · exact hr
  · exact hr.elim
  · exact hr.elim
  · exact hr.elim
  obtain ⟨led, rfl, rfl⟩ := hr
  have ty : Shared.TypeIs (made s led) (.ref s.heap.objs.size) "set" := ⟨_, Heap.get?_push_size _ rfl, rfl⟩
  have b1 := F.called_set.init.lookup
  have b2 := F.called_set.init.bind (.ref s.heap.objs.size)
  repeat (any_goals (first | assumption | wp_step))
  refine codeAny_call_builtin F.called_set.init.plain F.entry_set_init (check_set_init_1 ty (init_set (by simp [calm]) hl ht few fun h' tk fl => ?_))
  refine wpAny_pure ?_
  repeat (any_goals (first | assumption | wp_step))
  exact fin _ _ fl
end
section
variable {X : L2.Cx}
open L2
theorem strsAre : ∀ {xs : List Str} {us : List Value}, Vals (xs.map V.str) us → StrsAre us xs
  | [], _, r => by cases r; exact .nil
  | x :: xs, _, r => by
    cases r with
    | cons a b =>
      obtain ⟨t, rfl⟩ := a
      exact .cons x t (strsAre b)
/-- len(set(xs)), xs a list of texts -/
def tLenS (K : PySem.W.Frag) (ta : TE) : TE := fun σ H Q => ta σ H fun x H1 => ∃ (l : Addr) (xs : List Str), x = .ref l ∧ SqL K H1 l (xs.map V.str) ∧ xs.length ≤ 4000 ∧ Q (.int (cnt xs xs.length : Nat)) H1
theorem pe_lenS {a : Expr} {ta : TE} {p p2 q pos : Pos} (hg : Gl X "len") (hm : X.mg "len" = none) (hg2 : Gl X "set") (hm2 : X.mg "set" = none) (ha : PE X a ta) (calm : X.calm = true := by rfl)
    (one : starEach [a] X.env = (false, eval a X.env) :: starEach [] X.env := by rfl) : PE X (.Call (.Name "len" p) [.Call (.Name "set" p2) [a] [] q] [] pos) (tLenS X.K ta) := by
  refine ⟨fun pins s σ H Q I h => Call_ (ld_blt I hg hm boot_len (callWith_builtin1 (args_cons (Call_ (ld_blt I hg2 hm2 boot_set ?_)) rfl) rfl rfl))⟩
  refine callWith_type1 (args_cons (thn (ha.run pins s σ H _ I h) fun v s1 ⟨x, H1, I1, r1, l, xs, e, hq, few, fin⟩ => args_nil ?_) one) one rfl
  subst e
  cases r1
  obtain ⟨its, r, pl, hz⟩ := I1.list hq
  refine call_set (I1.ok.hd calm) pl.isList (by simpa using strsAre r) few fun h' tk fl => args_nil ?_
  obtain ⟨⟨o, es, ep, t, ho, hex, hd, _, _, _, hf, hn⟩, hk⟩ := fl
  have small : cnt xs xs.length ≤ 4000 := Nat.le_trans (cnt_le xs _) few
  have I2 : L2.Inv X pins σ H1 { s1 with heap := h', toks := tk } := I1.kept fun b o e => hk b o (Heap.lt_size e) e
  exact call_len_set ho hex hd hf (by rw [hn]; omega) ⟨.int (cnt xs xs.length : Nat), H1, I2.tok _, ⟨_, by rw [hn]⟩, fin⟩
end
end SetStr
end

-- SetStrT
section
set_option Elab.async false
set_option linter.all false
set_option maxRecDepth 100000
/-! len(set(xs)), xs a tuple of texts, or a list of them. -/
namespace SetStr
open PySem PySem.Spec PyProof.Rows
section
variable {prog : Program} {w : World} {A : Around} {E : Value → Shared → Prop} {s : Shared}
theorem init_setT {l : Addr} {items : Array Value} {xs : List Str} {led : Bool} (calm : A.handled = none) (hl : s.heap.IsTuple l items) (ht : StrsAre items.toList xs) (few : xs.length ≤ 4000)
    {Q : PySem.Fin → Shared → Prop} (fin : ∀ h' tk, Filled prog w s xs h' → Q (.done (.ret .none)) { s with heap := h', toks := tk }) :
    wpAny (model prog w) A (Builtin.«set.__init__» ⟨[Value.ref s.heap.objs.size, Value.ref l], []⟩) Q E (made s led) := by
  have new : (made s led).heap.get? s.heap.objs.size = some (bare led) := Heap.get?_push_size _ rfl
  obtain ⟨o, ho, hc, nl, hd⟩ := hl
  obtain ⟨oc, od, oe, os⟩ := o
  cases hc
  cases hd
  have hl : s.heap.IsTuple l items := ⟨_, ho, rfl, nl, rfl⟩
  have ho1 : (made s led).heap.get? l = some { cls := .type "tuple", dict := od, data := .seq items nl, slots := os } := Heap.get?_push_of_some _ ho
  have hl1 : (made s led).heap.IsTuple l items := ⟨_, ho1, rfl, nl, rfl⟩
  have f1 := F.sub_tuple_set
  have f2 := F.sub_tuple_frozenset
  have f3 : (Value.type "list" == Value.type "dict") = false := by decide
  have lt : l < s.heap.objs.size := Heap.lt_size ho
  have sz : (made s led).heap.objs.size = s.heap.objs.size + 1 := Heap.size_push _ _
  have tx : xs.length = items.size := by rw [← StrsAre.len_eq ht, Array.length_toList]
  unfold Builtin.«set.__init__» noKeywords Builtin.Frozenset.updateFrom
  unfold made at *
  generalize hPI : pyIter = PI
  wp_walk
  subst hPI
  refine wpAny_pyIter_tuple hl1 (wpAny_bind (wpAny_runValue ?_))
  have apart : l ≠ (s.heap.push (bare led)).objs.size := by rw [sz]; exact Nat.ne_of_lt (Nat.lt_succ_of_lt lt)
  have out : s.heap.objs.size ∉ [(s.heap.push (bare led)).objs.size, l] := by
    rw [sz]
    simp only [List.mem_cons, List.not_mem_nil, or_false, not_or]
    exact ⟨Nat.ne_of_lt (Nat.lt_succ_self _), Nat.ne_of_gt lt⟩
  have at0 : ((s.heap.push (bare led)).push { cls := .type "tuple_iterator", data := .fields #[.ref l, .int 0 0] }).get? s.heap.objs.size = some (bare led) := Heap.get?_push_of_some _ new
  refine fill ((Walks.tuple (by simp [calm]) _ l apart items).toS) s.heap.objs.size out xs tx (by omega) (fun i v hv => SS.strs_at ht i v (by rw [Array.getElem?_toList]; exact hv)) (items.size - 0) 0 _ (by omega) (Nat.zero_le _) ⟨⟨_, Heap.get?_push_size _ rfl, rfl, rfl⟩, (hl1.push _)⟩
    (SetOf_congr ((setObjOf_fresh (knd := strKind prog w) led).setOf at0 (by unfold scanBound; omega)) (fun _ => rfl) rfl) fun s2 mv S2 => ?_
  obtain ⟨h2, g2, d2, tk, os2⟩ := s2
  cases (show g2 = s.gens from mv.gens)
  cases (show d2 = s.drawn from mv.drawn)
  cases (show os2 = s.os from mv.os)
  refine wpAny_pure (wpAny_pure (fin h2 tk ⟨by rw [tx]; exact S2, fun b o hb e => mv.heap b o ?_ (Heap.get?_push_of_some _ (Heap.get?_push_of_some _ e))⟩))
  simp only [List.mem_cons, List.not_mem_nil, or_false, not_or]
  exact ⟨Nat.ne_of_lt hb, by rw [sz]; exact Nat.ne_of_lt (Nat.lt_succ_of_lt hb)⟩
set_option maxHeartbeats 1600000 in
theorem call_setT {l : Addr} {items : Array Value} {xs : List Str} {Q : Value → Shared → Prop} (calm : A.handled = none) (hl : s.heap.IsTuple l items) (ht : StrsAre items.toList xs) (few : xs.length ≤ 4000)
    (fin : ∀ (h' : Heap) (tk : Nat), Filled prog w s xs h' → Q (.ref s.heap.objs.size) { s with heap := h', toks := tk }) : wpAny (model prog w) A (call (.type "set") [.ref l]) Q E s := by
  obtain ⟨c, tl, hmro⟩ := F.called_set.mro
  have k1 := F.called_set.made
  have k2 := F.called_set.sub
  have k3 := F.called_set.notType
  have k4 := F.called_set.canCreate
  have k5 := F.typeCall_set_1 (.ref l)
  refine wpAny_call (codeAny_of_tree (wpAny_pure (M := model prog w) ⟨Code.quiet_builtin _ (by decide +kernel), codeAny_builtin F.entry_type_call ?_⟩))
  rw [Around.under_plain (weight_type_call_type "set" [.ref l] []) rfl]
  repeat (any_goals (first | assumption | wp_step))
  refine codeAny_mono (code_set_new_1 (.ref l) (E := E) (Q₁ := fun x s1 => ∃ led : Bool, x = .ref s.heap.objs.size ∧ s1 = made s led) fun led => ⟨led, rfl, rfl⟩) fun r s1 hr => ?_
  rcases r with e | (_ | _ | _ | x)
  · exact hr
  · exact hr.elim
  · exact hr.elim
  · exact hr.elim
  obtain ⟨led, rfl, rfl⟩ := hr
  have ty : Shared.TypeIs (made s led) (.ref s.heap.objs.size) "set" := ⟨_, Heap.get?_push_size _ rfl, rfl⟩
  have b1 := F.called_set.init.lookup
  have b2 := F.called_set.init.bind (.ref s.heap.objs.size)
  repeat (any_goals (first | assumption | wp_step))
  refine codeAny_call_builtin F.called_set.init.plain F.entry_set_init (check_set_init_1 ty (init_setT (by simp [calm]) hl ht few fun h' tk fl => ?_))
  refine wpAny_pure ?_
  repeat (any_goals (first | assumption | wp_step))
  exact fin _ _ fl
end
section
variable {X : L2.Cx}
open L2
/-- len(set(xs)), xs a list or a tuple of texts -/
def tLenT (K : PySem.W.Frag) (ta : TE) : TE := fun σ H Q => ta σ H fun x H1 => ∃ (l : Addr) (xs : List Str), x = .ref l ∧ (SqL K H1 l (xs.map V.str) ∨ SqT K H1 l (xs.map V.str)) ∧ xs.length ≤ 4000 ∧ Q (.int (cnt xs xs.length : Nat)) H1
theorem pe_lenT {a : Expr} {ta : TE} {p p2 q pos : Pos} (hg : Gl X "len") (hm : X.mg "len" = none) (hg2 : Gl X "set") (hm2 : X.mg "set" = none) (ha : PE X a ta) (calm : X.calm = true := by rfl)
    (one : starEach [a] X.env = (false, eval a X.env) :: starEach [] X.env := by rfl) : PE X (.Call (.Name "len" p) [.Call (.Name "set" p2) [a] [] q] [] pos) (tLenT X.K ta) := by
  refine ⟨fun pins s σ H Q I h => Call_ (ld_blt I hg hm boot_len (callWith_builtin1 (args_cons (Call_ (ld_blt I hg2 hm2 boot_set ?_)) rfl) rfl rfl))⟩
  refine callWith_type1 (args_cons (thn (ha.run pins s σ H _ I h) fun v s1 ⟨x, H1, I1, r1, l, xs, e, hq, few, fin⟩ => args_nil ?_) one) one rfl
  subst e
  cases r1
  rcases hq with hq | hq
  · obtain ⟨its, r, pl, hz⟩ := I1.list hq
    refine call_set (I1.ok.hd calm) pl.isList (by simpa using strsAre r) few fun h' tk fl => args_nil ?_
    obtain ⟨⟨o, es, ep, t, ho, hex, hd, _, _, _, hf, hn⟩, hk⟩ := fl
    have small : cnt xs xs.length ≤ 4000 := Nat.le_trans (cnt_le xs _) few
    have I2 : L2.Inv X pins σ H1 { s1 with heap := h', toks := tk } := I1.kept fun b o e => hk b o (Heap.lt_size e) e
    exact call_len_set ho hex hd hf (by rw [hn]; omega) ⟨.int (cnt xs xs.length : Nat), H1, I2.tok _, ⟨_, by rw [hn]⟩, fin⟩
  · obtain ⟨its, r, pl, hz⟩ := I1.tuple hq
    refine call_setT (I1.ok.hd calm) pl (by simpa using strsAre r) few fun h' tk fl => args_nil ?_
    obtain ⟨⟨o, es, ep, t, ho, hex, hd, _, _, _, hf, hn⟩, hk⟩ := fl
    have small : cnt xs xs.length ≤ 4000 := Nat.le_trans (cnt_le xs _) few
    have I2 : L2.Inv X pins σ H1 { s1 with heap := h', toks := tk } := I1.kept fun b o e => hk b o (Heap.lt_size e) e
    exact call_len_set ho hex hd hf (by rw [hn]; omega) ⟨.int (cnt xs xs.length : Nat), H1, I2.tok _, ⟨_, by rw [hn]⟩, fin⟩
end
end SetStr
end

-- SupX
section
set_option Elab.async false
set_option linter.all false
set_option maxRecDepth 100000
set_option maxHeartbeats 2000000
/-! a def that says super().m(..) first: its own cells, `__class__` captured. -/
namespace SupX
open PySem PySem.Spec PyProof.Rows L2 StX
/-! ### the frame: own cells behind a captured one -/
theorem cellsFrom_app : ∀ (names : List (Str × NameKind)) (n : Nat) (acc cl : List (Str × Addr)), cellsFrom n names (acc ++ cl) = cellsFrom n names acc ++ cl
  | [], _, _, _ => rfl
  | (x, k) :: r, n, acc, cl => by
    unfold cellsFrom
    split
    · exact cellsFrom_app r (n + 1) ((x, n) :: acc) cl
    · exact cellsFrom_app r n acc cl
theorem cellsFrom_cl (names : List (Str × NameKind)) (n : Nat) (cl : List (Str × Addr)) : cellsFrom n names cl = cellsFrom n names [] ++ cl := cellsFrom_app names n [] cl
theorem lookup_app {α : Type} {x : Str} {c : α} : ∀ {l r : List (Str × α)}, l.lookup x = some c → (l ++ r).lookup x = some c
  | (k, v) :: l, r, h => by
    rw [List.cons_append]
    rw [List.lookup_cons] at h ⊢
    cases hb : x == k with
    | true => rw [hb] at h; exact h
    | false => rw [hb] at h; exact lookup_app h
theorem lookup_app_none {α : Type} {x : Str} : ∀ {l r : List (Str × α)}, l.lookup x = none → (l ++ r).lookup x = r.lookup x
  | [], r, _ => rfl
  | (k, v) :: l, r, h => by
    rw [List.cons_append]
    rw [List.lookup_cons] at h ⊢
    cases hb : x == k with
    | true => rw [hb] at h; cases h
    | false => rw [hb] at h; exact lookup_app_none h
section
variable {M : Model} {A : Around} {E : Value → Shared → Prop} {s₀ s : Shared} {m cm : Str → Option Value} {env : Env} {cs : List (Str × Addr)}
theorem stL {n : Str} {v : Value} {Q : Unit → Shared → Prop} (x : InCallC s₀ env.locals m cs cm s) (hk : env.scope.kind = .function) (hl : env.kindOf n = some .local)
    (h : ∀ s', InCallC s₀ env.locals (fun y => if y = n then some v else m y) cs cm s' → Q () s') : wpAny M A (storeName env n v) Q E s := by
  refine wpAny_storeName_local hl x.toInCall.ns (fun h' hn' hs' => h _ ⟨⟨?_, hn', fun b o e => ?_, x.toInCall.fresh⟩, fun k c hc => ?_, x.apart, x.above⟩) (by rw [hk]; rfl)
  · obtain ⟨h₁, tk, rfl⟩ := x.toInCall.same
    exact ⟨h', _, rfl⟩
  · exact hs'.extBut b o (Nat.ne_of_lt (Nat.lt_of_lt_of_le (Heap.lt_size e) x.toInCall.fresh)) (x.toInCall.keep b o e)
  · exact (x.cell k c hc).sameBut hs' (Nat.ne_of_gt (x.above k c (mem_of_lookup hc)))
theorem stC {n : Str} {c : Addr} {v : Value} {Q : Unit → Shared → Prop} (x : InCallC s₀ env.locals m cs cm s) (hk : env.scope.kind = .function) (hl : env.kindOf n = some .cell)
    (hc : cs.lookup n = some c) (hce : env.cells.lookup n = some c)
    (h : ∀ s', InCallC s₀ env.locals m cs (fun y => if y = n then some v else cm y) s' → Q () s') : wpAny M A (storeName env n v) Q E s := by
  have hLc := x.above n c (mem_of_lookup hc)
  refine wpAny_storeName_cell hk hl hce (x.cell n c hc) fun h' hc' hs' => h _ ⟨⟨?_, x.toInCall.ns.sameBut hs' (Nat.ne_of_lt hLc), fun b o e => ?_, x.toInCall.fresh⟩, fun k c' hk' => ?_, x.apart, x.above⟩
  · obtain ⟨h₁, tk, rfl⟩ := x.toInCall.same
    exact ⟨h', _, rfl⟩
  · exact hs'.extBut b o (Nat.ne_of_lt (Nat.lt_trans (Nat.lt_of_lt_of_le (Heap.lt_size e) x.toInCall.fresh) hLc)) (x.toInCall.keep b o e)
  · by_cases hkn : k = n
    · subst hkn
      rw [hc] at hk'; cases hk'
      simpa using hc'
    · rw [if_neg hkn]
      exact (x.cell k c' hk').sameBut hs' fun e => hkn (name_of_addr x.apart (mem_of_lookup hk') (e ▸ mem_of_lookup hc))
theorem bindParamsS (f : Str × Value → PUnit → Sem (ForInStep PUnit)) (hf : ∀ n v u, f (n, v) u = (do storeName env n v; pure (.yield ⟨⟩))) (hk : env.scope.kind = .function) (hcs : ∀ n c, cs.lookup n = some c → env.cells.lookup n = some c) :
    ∀ (binds : List (Str × Value)) (m cm : Str → Option Value) (s : Shared) (Q : PUnit → Shared → Prop), InCallC s₀ env.locals m cs cm s →
      (∀ x ∈ binds, env.kindOf x.1 = some .local ∨ (env.kindOf x.1 = some .cell ∧ (cs.lookup x.1).isSome = true)) →
      (∀ s', InCallC s₀ env.locals (bindL env.kindOf binds m) cs (bindC env.kindOf binds cm) s' → Q ⟨⟩ s') → wpAny M A (forIn binds ⟨⟩ f) Q E s
  | [], m, cm, s, Q, x, _, h => by rw [List.forIn_nil]; exact wpAny_pure (h s x)
  | (n, v) :: r, m, cm, s, Q, x, hkind, h => by
    rw [List.forIn_cons, hf]
    have hr : ∀ y ∈ r, env.kindOf y.1 = some .local ∨ (env.kindOf y.1 = some .cell ∧ (cs.lookup y.1).isSome = true) := fun y hy => hkind y (List.mem_cons_of_mem _ hy)
    rcases hkind (n, v) List.mem_cons_self with hl | ⟨hl, hc⟩
    · refine wpAny_bind (wpAny_bind (stL x hk hl fun s' x' => wpAny_pure (bindParamsS f hf hk hcs r _ _ s' Q x' hr fun s'' x'' => h s'' ?_)))
      unfold bindL bindC; rw [if_pos hl, if_pos hl]; exact x''
    · obtain ⟨c, hc⟩ := Option.isSome_iff_exists.mp hc
      have hnl : ¬ env.kindOf n = some .local := by rw [hl]; decide
      refine wpAny_bind (wpAny_bind (stC x hk hl hc (hcs n c hc) fun s' x' => wpAny_pure (bindParamsS f hf hk hcs r _ _ s' Q x' hr fun s'' x'' => h s'' ?_)))
      unfold bindL bindC; rw [if_neg hnl, if_neg hnl]; exact x''
end
section
variable {M : Model} {A : Around} {E : Value → Shared → Prop} {s : Shared}
theorem newEnvS {scope : Scope} {globals : Addr} {cl : List (Str × Addr)} {binds : List (Str × Value)} {qual : Str} {func : Option Addr} {code : Value} {builtins : Addr} {Q : Env → Shared → Prop}
    (hk : scope.kind = .function)
    (hkind : ∀ x ∈ binds, scope.names.lookup x.1 = some .local ∨ (scope.names.lookup x.1 = some .cell ∧ ((cellsFrom (s.heap.objs.size + 1) scope.names []).lookup x.1).isSome = true))
    (hQ : ∀ env, env = newEnv scope s.heap.objs.size globals (cellsFrom (s.heap.objs.size + 1) scope.names [] ++ cl) qual func code none builtins →
      ∀ s', InCallC s env.locals (bindL env.kindOf binds fun _ => none) (cellsFrom (s.heap.objs.size + 1) scope.names []) (bindC env.kindOf binds fun _ => none) s' → Q env s') :
    wpAny M A (newFunctionEnv scope globals cl binds qual func code none builtins) Q E s := by
  simp only [newFunctionEnv, Option.isSome_none, Bool.false_eq_true, if_false]
  refine wpAny_bind (wpAny_alloc ?_)
  refine wpAny_bind (wpAny_layCells _ (fun name kind cells => by cases hkc : kind == NameKind.cell <;> simp [hkc]) _ _ _ _ ?_)
  have ok := cellsFrom_ok scope.names (s.heap.push { cls := .type "frame", data := .dict #[] }) (s.heap.objs.size + 1) [] ⟨fun _ _ hm => (nomatch hm), List.Pairwise.nil⟩ (by rw [Heap.size_push]; exact Nat.le_refl _)
  rw [Heap.size_push] at ok
  rw [show ({ s with heap := s.heap.push { cls := .type "frame", data := .dict #[] } } : Shared).heap.objs.size = s.heap.objs.size + 1 from Heap.size_push ..]
  rw [cellsFrom_cl]
  refine wpAny_bind (bindParamsS (s₀ := s) (env := newEnv scope s.heap.objs.size globals (cellsFrom (s.heap.objs.size + 1) scope.names [] ++ cl) qual func code none builtins) (cs := cellsFrom (s.heap.objs.size + 1) scope.names [])
    _ (fun _ _ _ => rfl) hk (fun n c h => lookup_app h) binds (fun _ => none) (fun _ => none) _ _
    ⟨⟨⟨_, _, rfl⟩, (Heap.Ns.new s.heap (.type "frame")).keeps (pushCells_keeps _ _), fun b o e => pushCells_keeps _ _ b o (Heap.get?_push_of_some _ e), Nat.le_refl _⟩,
      fun n c hc => (ok.empty n c (mem_of_lookup hc)).1, ok.apart, fun n c hm => (ok.empty n c hm).2⟩
    hkind fun s' x => wpAny_pure (hQ _ rfl s' x))
end
/-! ### the context of such a def's body -/
abbrev kC : Str := "__class__"
structure SScope (N P : List Str) (sc : Scope) : Prop where
  kind : sc.kind = .function
  co : sc.isCoroutine = false
  gen : sc.isGenerator = false
  nd : N.Nodup
  pre : N.take P.length = P
  par : ∀ x ∈ P, sc.names.lookup x = some .local ∨ sc.names.lookup x = some .cell
  free : ∀ y ∈ sc.names, y.2 = .free → y.1 = kC
  once : ∀ y ∈ sc.names, y.1 = kC → y.2 = .free
  has : sc.names.lookup kC = some .free
  sup : sc.names.lookup ("super" : Str) = some .globalImplicit
abbrev envS (qual : Str) (scope : Scope) (L f cda cc : Addr) : Env := PySem.W.envX qual scope L f (.ref cda) (cellsFrom (L + 1) scope.names [] ++ [(kC, cc)])
def cxS (CX : CXT) (P : Program) (w : World) (K : PySem.W.Frag) (mg : Str → Option Value) (base : Heap) (N : List Str) (qual : Str) (scope : Scope) (f cda cc : Addr) (A : Around) (outer : List Env) (s : Shared) (H : Hp) (E : XK) : Cx where
  prog := P
  w := w
  K := K
  mg := mg
  base := base
  A := A.deeper (envS qual scope s.heap.objs.size f cda cc)
  N := N
  s_0 := s
  H_0 := H
  env := envS qual scope s.heap.objs.size f cda cc
  outer := outer
  stack := envS qual scope s.heap.objs.size f cda cc :: outer
  ex := []
  calm := true
  fn := fun x => x != kC
  pn := []
  xe := fun e s' => wpAny (model P w) (A.deeper (envS qual scope s.heap.objs.size f cda cc)) (leaving (envS qual scope s.heap.objs.size f cda cc) e) (fun _ s'' => CX outer H s E e s'') (fun e' s'' => CX outer H s E e' s'') s'
theorem cell_mem : ∀ {names : List (Str × NameKind)} {n : Nat} {acc : List (Str × Addr)} {y : Str} {c : Addr}, (y, c) ∈ cellsFrom n names acc → (y, c) ∈ acc ∨ (y, NameKind.cell) ∈ names
  | [], _, _, _, _, h => .inl h
  | (x, k) :: r, n, acc, y, c, h => by
    unfold cellsFrom at h
    split at h
    · rename_i hk
      rcases cell_mem h with q | q
      · rcases List.mem_cons.mp q with q | q
        · cases q
          refine .inr ?_
          rw [show k = .cell from by cases k <;> first | rfl | cases hk]
          exact List.mem_cons_self
        · exact .inl q
      · exact .inr (List.mem_cons_of_mem _ q)
    · rcases cell_mem h with q | q
      · exact .inl q
      · exact .inr (List.mem_cons_of_mem _ q)
section
variable {CX : CXT} {P : Program} {w : World} {K : PySem.W.Frag} {mg : Str → Option Value} {base : Heap} {N ps : List Str} {qual : Str} {scope : Scope} {f cda cc D : Addr} {A : Around} {outer : List Env} {s s1 : Shared} {H : Hp} {E : XK} {us : List Value} {vs : List V} {cl : Value} {cld : Option Addr} {csl : Array (Option Value)}
theorem inv_startS (S : SScope N ps scope) (hcc : K.lookup cc = some ⟨cl, cld, .cell (some (.ref D)), csl⟩) (hd : A.handled = none) (e0 : Env0 P w K mg base A outer s H) (hl : vs.length = ps.length) (r : Vals vs us)
    (x : InCallC s s.heap.objs.size (bindL (envS qual scope s.heap.objs.size f cda cc).kindOf (ps.zip us) fun _ => none) (cellsFrom (s.heap.objs.size + 1) scope.names []) (bindC (envS qual scope s.heap.objs.size f cda cc).kindOf (ps.zip us) fun _ => none) s1) :
    Inv (cxS CX P w K mg base N qual scope f cda cc A outer s H E) [] (L2.start N vs) H s1 := by
  have hpl : ps.length ≤ N.length := by have := congrArg List.length S.pre; rw [List.length_take] at this; omega
  obtain ⟨h1, tk, rfl, hk⟩ := x.done
  have noA : ∀ b : Addr, b ∉ (cxS CX P w K mg base N qual scope f cda cc A outer s H E).ex := fun b z => absurd (show b ∈ ([] : List Addr) from z) (by simp)
  have hcs : ∃ o, base.get? cc = some o ∧ o.data = .cell (some (.ref D)) := ⟨_, e0.mod.kin _ _ hcc, rfl⟩
  obtain ⟨occ, hb1, hb2⟩ := hcs
  have ncl : (cellsFrom (s.heap.objs.size + 1) scope.names []).lookup kC = none := by
    cases q : (cellsFrom (s.heap.objs.size + 1) scope.names []).lookup kC with
    | none => rfl
    | some c =>
      rcases cell_mem (PySem.mem_of_lookup q) with z | z
      · cases z
      · cases S.once _ z rfl
  -- a cell: an own one, or the captured
  have two : ∀ y c, (cellsFrom (s.heap.objs.size + 1) scope.names [] ++ [(kC, cc)]).lookup y = some c → (cellsFrom (s.heap.objs.size + 1) scope.names []).lookup y = some c ∨ (y = kC ∧ c = cc) := fun y c h => by
    cases q : (cellsFrom (s.heap.objs.size + 1) scope.names []).lookup y with
    | some c' =>
      rw [lookup_app q] at h
      cases h
      exact .inl rfl
    | none =>
      rw [lookup_app_none q] at h
      refine .inr ?_
      rw [List.lookup_cons] at h
      cases hb : (y == kC) with
      | true => rw [hb] at h; cases h; exact ⟨beq_iff_eq.mp hb, rfl⟩
      | false => rw [hb] at h; cases h
  have lowc : cc < s.heap.objs.size := Heap.lt_size (e0.bs _ _ hb1).1
  refine ⟨⟨e0.mod, S.kind, rfl, rfl, Nat.le_refl _, fun y z c h1 h2 => ?_, fun y hy => ?_, fun y c q h => ?_, fun _ => hd, Around.frames_deeper e0.frames, .inr ⟨rfl, rfl⟩, fun b z => absurd z (noA b), e0.bs, e0.bsz, fun b _ _ => noA b, fun b z => absurd z (noA b), e0.funs, e0.frf⟩,
    rfl, e0.bare, Un.kept hk, ⟨_, x.toInCall.ns, fun i y v h1 h2 h3 => ?_⟩, fun y c h => ?_, e0.hok.fresh (Nat.le_refl _), fun y c h => ?_, fun p hp => absurd (show p ∈ ([] : List (Addr × Obj)) from hp) (by simp), e0.hok.kept hk, ?_⟩
  · rcases two _ _ h1 with q1 | ⟨q1, q2⟩ <;> rcases two _ _ h2 with r1 | ⟨r1, r2⟩
    · exact name_of_addr x.apart (PySem.mem_of_lookup q1) (PySem.mem_of_lookup r1)
    · subst r2
      have z := x.above _ _ (PySem.mem_of_lookup q1)
      exact absurd (Nat.lt_trans lowc z) (Nat.lt_irrefl _)
    · subst q2
      have z := x.above _ _ (PySem.mem_of_lookup r1)
      exact absurd (Nat.lt_trans lowc z) (Nat.lt_irrefl _)
    · rw [q1, r1]
  · have hy : scope.names.lookup y = some .cell ∨ scope.names.lookup y = some .free := hy
    rcases hy with hy | hy
    · obtain ⟨c, e⟩ := cell_has (n := s.heap.objs.size + 1) hy
      exact ⟨c, lookup_app e⟩
    · have e := S.free _ (PySem.mem_of_lookup hy) rfl
      dsimp only at e
      subst e
      exact ⟨cc, by show (cellsFrom (s.heap.objs.size + 1) scope.names [] ++ [(kC, cc)]).lookup kC = _; rw [lookup_app_none ncl]; simp [List.lookup]⟩
  · rcases two _ _ h with q1 | ⟨q1, q2⟩
    · exact Nat.le_of_lt (x.above y c (PySem.mem_of_lookup q1))
    · subst q1
      have q : (kC != kC) = true := q
      simp at q
  · have hi : i < vs.length := by
      unfold L2.start at h2
      by_cases hi : i < vs.length
      · exact hi
      · rw [List.getElem?_append_right (by simpa using hi)] at h2
        rw [List.getElem?_replicate] at h2
        split at h2 <;> cases h2
    have ha : vs[i]? = some v := by
      unfold L2.start at h2
      rw [List.getElem?_append_left (by simpa using hi), List.getElem?_map] at h2
      cases e : vs[i]? with
      | none => rw [e] at h2; cases h2
      | some a => rw [e] at h2; cases h2; rfl
    obtain ⟨u, hu, rv⟩ := r.get ha
    have hp : ps[i]? = some y := by
      rw [← S.pre, List.getElem?_take_of_lt (by omega)]; exact h1
    have ndP : ps.Nodup := by rw [← S.pre]; exact S.nd.sublist (List.take_sublist _ _)
    refine ⟨u, rv, ?_⟩
    rcases S.par y (List.mem_of_getElem? hp) with k | k
    · exact .inl ⟨k, bindL_get ndP hp hu k⟩
    · obtain ⟨c, e⟩ := cell_has (n := s.heap.objs.size + 1) k
      refine .inr ⟨.inl k, c, lookup_app e, ?_⟩
      have q := x.cell y c e
      rw [bindC_get ndP hp hu (by show scope.names.lookup y ≠ _; rw [k]; decide)] at q
      exact q
  · rcases two _ _ h with q1 | ⟨q1, q2⟩
    · exact ⟨_, x.cell y c q1⟩
    · subst q2
      exact ⟨_, occ, hk _ _ (e0.bs _ _ hb1).1, hb2⟩
  · rcases two _ _ h with q1 | ⟨q1, q2⟩
    · exact e0.hok.fresh (Nat.le_of_lt (x.above y c (PySem.mem_of_lookup q1)))
    · subst q2
      exact (e0.bs _ _ hb1).2
  · unfold L2.start
    show _ = N.length
    rw [List.length_append, List.length_map, List.length_replicate]
    omega
end
/-! ### a block where the code that runs is known -/
def PSsA (X : Cx) (code : Code) (body : List Stmt) (t : TS) : Prop := ∀ (pins : List (Addr × Obj)) (s : Shared) (σ : L2.St) (H : Hp) (D : Ends), Inv X pins σ H s → t D σ H → PySem.wpAt (model X.prog X.w) X.A code (execs body X.env) (SP X pins D) X.xe s
theorem PSsA.of {X : Cx} {code : Code} {body : List Stmt} {t : TS} (h : PSs X body t) : PSsA X code body t := fun pins s σ H D I q => wpAt_of_wpAny (h.run pins s σ H D I q)
section
variable {CX : CXT} {P : Program} {w : World} {K : PySem.W.Frag} {mg : Str → Option Value} {base : Heap} {k : Nat} {f cda cc D : Addr} {name qual : Str} {params : Arguments} {body : List Stmt} {scope : Scope} {dV kV doc pm ct oc : Value} {an od : Option Addr} {cl : Value} {cld : Option Addr} {csl : Array (Option Value)}
  {osl : Array (Option Value)} {N ps : List Str} {sp : Sp}
theorem run_bndS {A : Around} {outer : List Env} {s : Shared} {H : Hp} {args : Args} {Q : VK} {E : XK} {G : List V → Hp → Prop} (lk : K.lookup f = some ⟨oc, od, .func (PySem.W.ksFn name qual params body scope dV kV doc pm an (.ref cda) ct cc), osl⟩) (hcd : PySem.W.codeIn K (.ref cda) qual = true)
    (S : SScope N ps scope) (hcc : K.lookup cc = some ⟨cl, cld, .cell (some (.ref D)), csl⟩) (hr : Room (k + 1) A) (e0 : Env0 P w K mg base A outer s H) (hb : Bnd CX P w K mg base (PySem.W.ksFn name qual params body scope dV kV doc pm an (.ref cda) ct cc) args ps A outer s H E G)
    (hbody : ∀ (s2 : Shared) (H2 : Hp) (vs : List V), G vs H2 → Room k (A.deeper (envS qual scope s2.heap.objs.size f cda cc)) →
      ∃ t, PSsA (cxS CX P w K mg base N qual scope f cda cc A outer s2 H2 E) (.func body (envS qual scope s2.heap.objs.size f cda cc)) body t ∧ t { nx := fun _ H' => Q .non H', rt := Q } (L2.start N vs) H2) : codeAny (model P w) A (.call (.ref f) args) (CR CX outer P w H s Q E) s := by
  have KX : K.In s.heap := e0.mod.kin.keeps fun b o e => (e0.bs b o e).1
  refine codeAny_call_function hr.depth (KX _ _ lk) rfl S.co S.gen rfl (PySem.W.codeRec_of KX hcd) ?_
  refine hb _ _ _ fun s2 H2 vs us e2 un ho hx r hl g => ?_
  have lim : s2.heap.NoLimit := e0.mod.nolimit.keeps fun b o e => (e2.bs b o e).1
  have hkind : ∀ y ∈ ps.zip us, scope.names.lookup y.1 = some .local ∨ (scope.names.lookup y.1 = some .cell ∧ ((cellsFrom (s2.heap.objs.size + 1) scope.names []).lookup y.1).isSome = true) := fun y hy => by
    rcases S.par y.1 (List.of_mem_zip hy).1 with q | q
    · exact .inl q
    · exact .inr ⟨q, PySem.W.cellsFrom_some _ _ _ (.inl q)⟩
  refine newEnvS (s := s2) S.kind hkind fun env he s1 x => ?_
  subst he
  refine ⟨lim.keeps x.toInCall.keep, ks_codeAny_funcAt ?_⟩
  obtain ⟨t, ht, hq⟩ := hbody s2 H2 vs g (hr.deeper _)
  have I : Inv (cxS CX P w K mg base N qual scope f cda cc A outer s2 H2 E) [] (L2.start N vs) H2 s1 := inv_startS S hcc hr.hd e2 hl r x
  refine ks_wpAt_mono (ht [] s1 _ _ _ I hq) (fun fl s' hs => ?_) fun e s' hs => ?_
  · have fin : ∀ {σ' : L2.St} {H' : Hp} {v' : V} {u' : Value}, Inv (cxS CX P w K mg base N qual scope f cda cc A outer s2 H2 E) [] σ' H' s' → RelV v' u' → Q v' H' → CE outer P w H s Q u' s' :=
      fun {σ' H' v' u'} J rv' q => ⟨v', H', J.os.trans ho, J.bare, un.trans J.base, J.hok, rv', q⟩
    cases fl with
    | ret u' =>
      obtain ⟨v', σ', H', J, rv', q⟩ := hs
      exact fin J rv' q
    | next =>
      obtain ⟨σ', H', J, q⟩ := hs
      exact fin (v' := V.non) (u' := Value.none) J rfl q
    | brk =>
      obtain ⟨_, _, _, q⟩ := hs
      exact False.elim q
    | cont =>
      obtain ⟨_, _, _, q⟩ := hs
      exact False.elim q
  · exact wpAny_mono hs (fun _ s'' z => hx e s'' z) fun e' s'' z => hx e' s'' z
end
end SupX
end

-- SupX2
section
set_option Elab.async false
set_option linter.all false
set_option maxRecDepth 100000
set_option maxHeartbeats 2000000
namespace SupX
open PySem PySem.Spec PyProof.Rows L2 StX
/-- what super() finds ahead: of an instance of C, behind the class D, m is the def at g -/
structure SupAt (K : PySem.W.Frag) (C D : Addr) (m : Str) (g : Addr) : Prop where
  cls : (PySem.W.clsIn K C).isSome = true
  sub : PySem.W.mroIn K C (.ref D) = some true
  at_ : PySem.W.ks_superIn K C D m = some (some (.ref g))
instance {K : PySem.W.Frag} {C D : Addr} {m : Str} {g : Addr} : Decidable (SupAt K C D m g) := decidable_of_iff ((PySem.W.clsIn K C).isSome = true ∧ PySem.W.mroIn K C (.ref D) = some true ∧ PySem.W.ks_superIn K C D m = some (some (.ref g)))
  ⟨fun ⟨a, b, c⟩ => ⟨a, b, c⟩, fun ⟨a, b, c⟩ => ⟨a, b, c⟩⟩
/-- what the def itself is: its first parameter, its code's file, the cell of its class -/
structure SupDef (K : PySem.W.Frag) (P : Program) (f cda cc D g : Addr) (p1 : Str) : Prop where
  fn : ∃ oc od fd osl ar, K.lookup f = some ⟨oc, od, .func fd, osl⟩ ∧ (fd.params.posonlyargs ++ fd.params.args).head? = some ar ∧ ar.arg = p1
  code : ∃ cl od vs sl file tf, K.lookup cda = some ⟨cl, od, .fields vs, sl⟩ ∧ vs[2]? = some (.str file tf) ∧ ((P.main.file : Str) == file) = true
  cell : ∃ cl cld csl, K.lookup cc = some ⟨cl, cld, .cell (some (.ref D)), csl⟩
  cls : (PySem.W.clsIn K D).isSome = true
  sup : PySem.W.nsIn K mainGlobals "super" = some none
  any : PySem.W.nsIn K cStatics "thirdparty.any" = some none
  tg : PySem.W.typeIn K (.ref g) = some (.type "function")
  fg : PySem.W.fnIn K g = true
  top : (P.main.scope.names.lookup ("super" : Str)).isSome = false
def tSup (SO : Addr → Prop) (sp : Sp) (E : XK) (t : TA) (rest : TS) : TS := fun D σ H => ∃ x C dx fs, σ[0]? = some (some (V.ref x)) ∧ H x = some (.ins C dx fs) ∧ SO C ∧ t σ H fun vs H1 => sp (.ref x :: vs) H1 (fun _ H2 => rest D σ H2) E
/-- what stands in a call's argument list, whatever it is -/
def ArgsOk (X : Cx) (es : List Expr) : Prop := ∀ (pos : Pos) (u : Addr) (self : Value) (g : Addr) (Q : Value → Shared → Prop) (E : Value → Shared → Prop) (s : Shared), PySem.W.fnIn X.K g = true →
  wpAny (model X.prog X.w) X.A (spliced (backTo pos (starEach es X.env))) (fun vs s₁ => PySem.W.MethP X.K u g self s₁.heap ∧ wpAny (model X.prog X.w) X.A (call (.ref u) vs) Q E s₁) E s →
  wpAny (model X.prog X.w) X.A (callWith pos (.ref u) [] (backTo pos (starEach es X.env)) []) Q E s
theorem argsPlain {X : Cx} {e : Expr} {es : List Expr} (he : starEach (e :: es) X.env = (false, eval e X.env) :: starEach es X.env) (hp : ∀ pos, (backTo pos (starEach es X.env)).any (·.1) = false) : ArgsOk X (e :: es) := fun pos u self g Q E s hf h => by
  rw [he] at h ⊢
  exact PySem.W.callWith_of (P := PySem.W.MethP X.K u g self) (by show ((false || (backTo pos (starEach es X.env)).any (·.1)) || false) = false; rw [hp pos]; rfl) (PySem.W.keeps_M hf) (PySem.Calls.evalArgs_plain h)
theorem argsStar {X : Cx} {e : Expr} {es : List Expr} (he : starEach (e :: es) X.env = (false, eval e X.env) :: starEach es X.env) (hp : ∀ pos, (backTo pos (starEach es X.env)).any (·.1) = true) : ArgsOk X (e :: es) := fun pos u self g Q E s hf h => by
  rw [he] at h ⊢
  exact PySem.W.ks_call (P := PySem.W.MethP X.K u g self) (by show (false || (backTo pos (starEach es X.env)).any (·.1)) = true; rw [hp pos]; rfl) (PySem.W.keeps_M hf) (PySem.Calls.evalArgs_plain h)
section
variable {X : Cx} {CX : CXT} {k j : Nat} {f cda cc D g : Addr} {qual m p1 : Str} {scope : Scope} {L : Addr} {sp : Sp} {E : XK} {t : TA} {rest : TS} {code : List Stmt} {es : List Expr} {ss : List Stmt} {N ps : List Str}
theorem psA_sup {q0 q1 q2 q3 q4 : Pos} {pl : Sem Bool} (he : X.env = envS qual scope L f cda cc) (S : SScope N ps scope) (hN : X.N[0]? = some p1) (hl : scope.names.lookup p1 = some .local) (SD : SupDef X.K X.prog f cda cc D g p1) (hm : (m == ("__class__" : Str)) = false) (F : FnR X.prog X.w X.K X.mg X.base CX k g sp) (hr : Room k X.A) (hx : Passes CX X E)
    (ha : PA X es t) (hA : ArgsOk X es) (hrest : PSs X ss rest)
    (hev : eval (.Call (.Attribute (.Call (.Name "super" q0) [] [] q1) m q2) es [] q3) X.env = (do
      let ov ← attributeBase (.Call (.Name "super" q0) [] [] q1) m X.env (eval (.Call (.Name "super" q0) [] [] q1) X.env)
      standAt q2.atName
      let (f, first) ← holding [ov] (getMethod ov m pl)
      callWith q3 f first (backTo q3 (starEach es X.env)) [])) :
    PSsA X (.func code X.env) (.Expr (.Call (.Attribute (.Call (.Name "super" q0) [] [] q1) m q2) es [] q3) q4 :: ss) (tSup (fun C => SupAt X.K C D m g) sp E t rest) := by
  intro pins s σ H De I q
  obtain ⟨x, C, dx, fs, hσ, hx0, so, q⟩ := q
  obtain ⟨_, _, fd, _, ar, lkf, har, ear⟩ := SD.fn
  obtain ⟨_, _, vsC, _, file, tf, lkc, hvs, hfile⟩ := SD.code
  obtain ⟨_, _, _, lkcc⟩ := SD.cell
  obtain ⟨cdD, hD⟩ := Option.isSome_iff_exists.mp SD.cls
  obtain ⟨cdC, hC⟩ := Option.isSome_iff_exists.mp so.cls
  obtain ⟨od, J⟩ := OwnOps.inst_at I hx0
  have XK := I.kIn
  have hsc : X.env.scope = scope := by rw [he]
  obtain ⟨oD, hD1, hD2⟩ : ∃ oD, s.heap.get? D = some oD ∧ oD.data = .cls cdD := by
    unfold PySem.W.clsIn at hD
    split at hD
    · rename_i c d cd' sl ho
      cases hD
      exact ⟨_, XK _ _ ho, rfl⟩
    · cases hD
  have hkS : X.env.kindOf "super" = some .globalImplicit := by
    rw [he]; exact S.sup
  have hkC : X.env.kindOf kC = some .free := by
    rw [he]; exact S.has
  have hce : X.env.cells.lookup kC = some cc := by
    rw [he]
    show (cellsFrom (L + 1) scope.names [] ++ [(kC, cc)]).lookup kC = _
    have ncl : (cellsFrom (L + 1) scope.names []).lookup kC = none := by
      cases q : (cellsFrom (L + 1) scope.names []).lookup kC with
      | none => rfl
      | some c =>
        rcases cell_mem (PySem.mem_of_lookup q) with z | z
        · cases z
        · cases S.once _ z rfl
    rw [lookup_app_none ncl]
    simp [List.lookup]
  have hloc : ∃ mL, s.heap.Ns X.env.locals mL ∧ mL p1 = some (.ref x) := by
    obtain ⟨mL, h1, h2⟩ := I.loc
    obtain ⟨u, ru, lk⟩ := h2 0 p1 (.ref x) hN hσ (.inl (by rw [hsc]; exact hl))
    cases (show u = Value.ref x from ru)
    rcases lk with ⟨_, z⟩ | ⟨z, _⟩
    · exact ⟨mL, h1, z⟩
    · exfalso
      have e : X.env.kindOf p1 = some .local := by rw [he]; exact hl
      rw [e] at z
      rcases z with z | z <;> cases z
  obtain ⟨mL, hns, hself⟩ := hloc
  have hkind := I.ok.kind
  have hgl : s.heap.Ns X.env.globals X.mg := by
    rw [I.ok.glob]
    exact I.mod.glob.keeps I.bk
  obtain ⟨mb, hmb, hbb⟩ := I.mod.blt
  have hbl : s.heap.Ns X.env.builtins mb := by
    rw [I.ok.blt]
    exact hmb.keeps I.bk
  have hmgS : X.mg "super" = none := PySem.W.mg_none_of I.mod.kin I.mod.glob SD.sup
  refine PySem.ks_wpAt_execs_cons (PySem.ks_wpAt_Expr_any (PySem.ks_wpAt_MethodCall (pl := pl) ?_ hev) I.quiet)
  refine PySem.ks_wpAt_super_base (f := f) (cc := cda) (ar := ar) (fd := fd) (vs := vsC) (file := file) (tf := tf) hkS hkC hm (by rw [he]) (XK _ _ lkf) rfl har (by rw [he]) (XK _ _ lkc) rfl hvs hfile SD.top ?_
  refine PySem.W.ks_loadName_global hkind hkS (PySem.Calls.loadGlobal_builtin hgl hmgS hbl ((hbb _ (by decide +kernel)).trans (show bootBuiltins "super" = some (.type "super") by first | rfl | kernel_rfl)) ⟨rfl, ?_⟩)
  refine wpAny_loadName_free hkind hkC hce ⟨_, XK _ _ lkcc, rfl⟩ ?_
  rw [ear]
  refine wpAny_loadName_local hkind (by rw [he]; exact hl) hns hself ?_
  refine PySem.ks_wpAny_isType_cls hD1 hD2 ⟨rfl, ?_⟩
  refine PySem.ks_wpAny_call_super hD1 hD2 J.at_ J.cls (fun c e => ?_) (PySem.W.looks_mroIn XK so.sub) (fun h' e kp => ?_)
  · have := J.no
    unfold PySem.W.notCls at this
    rw [e] at this
    exact Bool.noConfusion this
  · obtain ⟨hh, g0, d0, t0, os0⟩ := s
    dsimp only at e kp
    have Xh : X.K.In h' := fun b o q => kp b o (XK b o q)
    have htg : ∃ og, h'.get? g = some og ∧ og.cls = .type "function" := by
      have z : (X.K.lookup g).map (·.cls) = some (.type "function") := SD.tg
      cases q : X.K.lookup g with
      | none => rw [q] at z; cases z
      | some og => rw [q] at z; exact ⟨og, Xh _ _ q, Option.some.inj z⟩
    obtain ⟨og, hog, cog⟩ := htg
    have hal : PySem.W.alongIn X.K m ((cdC.mro.dropWhile (· != .ref D)).drop 1) = some (some (.ref g)) := by
      have z := so.at_
      unfold PySem.W.ks_superIn at z
      rw [hC] at z
      exact z
    refine PySem.ks_wpAny_getMethod_super (D := D) (x := x) (C := C) (f := g) (of := og) (K := X.K) (l₀ := cdC.mro) (l := (cdC.mro.dropWhile (· != .ref D)).drop 1) e (PySem.W.looks_opaque Xh SD.any) ?_ rfl Xh hal hog cog (PySem.W.ks_ne XK J hC) hm ?_
    · exact fun A Q E s k q => wpAny_bind ((PySem.W.looks_clsIn Xh hC) A _ E s k (wpAny_pure q))
    · have kp2 : ∀ b u, hh.get? b = some u → (h'.push { cls := .type "method", data := .fields #[.ref g, .ref x] }).get? b = some u := fun b u q => Heap.get?_push_of_some _ (kp b u q)
      have I2 : Inv X pins σ H ⟨h'.push { cls := .type "method", data := .fields #[.ref g, .ref x] }, g0, d0, t0 + 1, os0⟩ := Inv.kept (s := ⟨hh, g0, d0, t0, os0⟩) I kp2
      have I1 : Inv X pins σ H ⟨h', g0, d0, t0 + 1, os0⟩ := Inv.kept (s := ⟨hh, g0, d0, t0, os0⟩) I kp
      have fr : H h'.objs.size = none := I1.fresh
      have nl : h'.objs.size ≠ X.env.locals := Nat.ne_of_gt I1.lt
      have nf : h'.objs.size ∉ X.fs := I1.nofs (Nat.le_refl _)
      have I3 : Inv X ((h'.objs.size, PySem.W.methodObj (.ref g) (.ref x)) :: pins) σ H ⟨h'.push { cls := .type "method", data := .fields #[.ref g, .ref x] }, g0, d0, t0 + 1, os0⟩ := I2.pins_of fun p hp => by
        rcases List.mem_cons.mp hp with rfl | hp
        · exact ⟨Heap.get?_push_at rfl rfl, fr, nl, nf, fun v z => by cases z⟩
        · exact I2.pin p (List.mem_append_right _ hp)
      refine hA q3 h'.objs.size (.ref x) g _ _ _ SD.fg (thn (ha.run q3 _ _ σ H _ I3 q) fun us s2 got => ?_)
      obtain ⟨vs, H1, I4, r, hq⟩ := got
      have hb := (I4.pin _ (List.mem_append_right _ List.mem_cons_self)).1
      refine ⟨⟨hb, I4.kIn⟩, wpAny_call (PySem.ks_codeAny_call_bound hb (codeAny_mono (F X.A X.stack s2 H1 (.ref x :: us) (.ref x :: vs) _ E hr I4.env0 (.cons rfl r) hq) fun r s' h => ?_))⟩
      cases r with
      | error e => exact hx _ σ H1 s2 e s' I4 h
      | ok fl =>
        cases fl with
        | ret u =>
          obtain ⟨v, H2, I5, _, h5⟩ := I4.after h
          have I6 : Inv X pins σ H2 s' := I5.pins_of fun p hp => I5.pin p (List.mem_append_right _ (List.mem_cons_of_mem _ hp))
          exact wpAt_of_wpAny (hrest.run pins s' σ H2 De I6 h5)
        | next => exact False.elim h
        | brk => exact False.elim h
        | cont => exact False.elim h
end
end SupX
end

-- V4a
section
set_option Elab.async false
set_option linter.all false
set_option maxRecDepth 100000
namespace V4
open PySem L2 OwnOps OwnNe G1 StX
/-! ### the text by places -/
def top (i : Nat) : Stmt := PySem.Challenge.pw_wishedwires_k74_block_kinds.main.body.getD i (.Pass ⟨0, 0, 0, 0⟩)
abbrev sWord : Stmt := top 6
abbrev sDiff : Stmt := top 8
abbrev sVR (j : Nat) : Stmt := inClass (top 99927) j
abbrev sKi (j : Nat) : Stmt := inClass (top 31) j
abbrev sPin (j : Nat) : Stmt := inClass (top 32) j
abbrev sPath (j : Nat) : Stmt := inClass (top 33) j
abbrev sJoi (j : Nat) : Stmt := inClass (top 99936) j
abbrev sAsR : Stmt := top 99938
abbrev sGrp : Stmt := top 34
abbrev sMat : Stmt := top 35
abbrev sOrd : Stmt := top 36
abbrev sPL : Stmt := top 37
abbrev sWrd : Stmt := top 38
/-- the built-in names that are asked -/
structure Bi (mg : Str → Option Value) : Prop where
  isi : mg "isinstance" = none
  int : mg "int" = none
  str : mg "str" = none
  len : mg "len" = none
  all : mg "all" = none
  set : mg "set" = none
  tuple : mg "tuple" = none
  list : mg "list" = none
  dict : mg "dict" = none
  min : mg "min" = none
  max : mg "max" = none
  range : mg "range" = none
  enum : mg "enumerate" = none
  zip : mg "zip" = none
  sorted : mg "sorted" = none
  sup : mg "super" = none
/-- numbers that the module names -/
structure Nums (mg : Str → Option Value) : Prop where
  signs : ∃ t, mg "WORD_SIGNS" = some (.int 12 t)
  pins : ∃ t, mg "MOST_PINS" = some (.int 6 t)
  ctrl : ∃ t, mg "MOST_CONTROLS" = some (.int 3 t)
/-- the values that are met as names, pins, groups, rules -/
inductive Av (H : Hp) : V → Prop
  | str (x : Str) : Av H (.str x)
  | non : Av H .non
  | int (i : Int) : Av H (.int i)
  | bl (b : Bool) : Av H (.bl b)
  | lst {a : Addr} {xs : List V} (e : H a = some (.lst xs)) : Av H (.ref a)
  | tup {a : Addr} {xs : List V} (e : H a = some (.tup xs)) : Av H (.ref a)
theorem Av.same {H H' : Hp} {v : V} (h : Av H v) (s : Same H H') : Av H' v := by
  cases h with
  | str x => exact .str x
  | non => exact .non
  | int i => exact .int i
  | bl b => exact .bl b
  | lst e => exact .lst (s _ _ e)
  | tup e => exact .tup (s _ _ e)
def wd (x : Str) : Bool := decide (1 ≤ x.length) && decide (x.length ≤ 12) && Txt.isascii x && Txt.isalnum x && Txt.isalpha ⟨#[x.cps.getD 0 0]⟩ && decide (V.str x = V.str (Txt.lower x))
def wdV : V → Bool
  | .str x => wd x
  | _ => false
/-- not too long -/
def Shr : V → Prop
  | .str x => x.length ≤ 1000
  | _ => True
theorem at_hd {α : Type} {xs : List α} {c : α} (h : xs[0]? = some c) : atI xs 0 = some c := by
  cases xs with
  | nil => cases h
  | cons a r =>
    cases h
    unfold atI ixN
    rw [if_pos (by decide), if_pos (by rw [List.length_cons]; omega)]
    rfl
section
variable {P : Program} {w : World} {K : PySem.W.Frag} {mg : Str → Option Value} {base : Heap}
def spWord : Sp := fun vs H Q _ => ∃ v, vs = [v] ∧ Av H v ∧ Shr v ∧ Q (.bl (wdV v)) H
theorem ok_word {f : Addr} {fd : FuncData} (F : Fun K "is_word" "is_word" sWord f fd) (T : Bi mg) (N : Nums mg) : FnOk P w K mg base (L2.CX P w) 1 f fd ["value"] spWord := by
  obtain ⟨t12, n12⟩ := N.signs
  have sc : FnScope ["value"] ["value"] (defScope sWord) := ⟨rfl, rfl, rfl, by decide +kernel, rfl, by decide +kernel, by decide +kernel⟩
  refine F.okX sc (fun vs H Q E h => ?_) (fun cdv A outer s H vs Q E hr h => ?_)
  · obtain ⟨x, rfl, _⟩ := h
    rfl
  · obtain ⟨v, rfl, av, few, fin⟩ := h
    refine ⟨_, pss_cons (ps_if (PW.pt (pw_or (pt_not (pt_val (pe_callB call_isi (by rfl) T.isi (by decide +kernel) (pa_cons (pv 0) (pa_cons (pe_bltn (v := .ty "str") (by rfl) T.str (by decide +kernel) rfl) pa_nil)))))
        (pw_or1 (pt_not (pt_chain op_le op_le pe_int (pe_callB call_len (by rfl) T.len PySem.boot_len (pa_cons (pv 0) pa_nil)) (pe_glob (v := .int 12) (by rfl) n12 ⟨_, rfl⟩)))))) (pss_one (ps_ret pe_bl)) pss_nil)
      (pss_one (ps_ret (pe_and (pe_m0 PySem.F.slot_str_isascii PySem.F.type_str_isascii mt_isascii (pv 0)) (pe_and (pe_m0 PySem.F.slot_str_isalnum PySem.F.type_str_isalnum mt_isalnum (pv 0)) (pe_and (pe_m0 PySem.F.slot_str_isalpha PySem.F.type_str_isalpha mt_isalpha (pe_ix ix_str (pv 0) pe_int (fun _ _ => rfl)))
        (pe_one (pe_cmpR op_eq (pv 0) (pe_lower (pv 0)) (nomark _)))))))), ?_⟩
    cases av with
    | non => exact ⟨_, rfl, _, _, _, _, _, rfl, .ty _, .base .non, kit_ty (r := false) (by decide +kernel), _, rfl, if_pos' rfl fin⟩
    | int i => exact ⟨_, rfl, _, _, _, _, _, rfl, .ty _, .base (.int i), kit_ty (r := false) (by decide +kernel), _, rfl, if_pos' rfl fin⟩
    | bl b => exact ⟨_, rfl, _, _, _, _, _, rfl, .ty _, .base (.bl b), kit_ty (r := false) (by decide +kernel), _, rfl, if_pos' rfl fin⟩
    | lst e => exact ⟨_, rfl, _, _, _, _, _, rfl, .ty _, .base (.lst e), kit_ty (r := false) (by decide +kernel), _, rfl, if_pos' rfl fin⟩
    | tup e => exact ⟨_, rfl, _, _, _, _, _, rfl, .ty _, .base (.tup e), kit_ty (r := false) (by decide +kernel), _, rfl, if_pos' rfl fin⟩
    | str x =>
    have few : x.length ≤ 1000 := few
    have fin : Q (.bl (wd x)) H := fin
    refine ⟨_, rfl, _, _, _, _, _, rfl, .ty _, .base (.str _), kit_ty (r := true) (by decide +kernel), _, rfl, if_neg' rfl ?_⟩
    refine ⟨_, rfl, _, _, rfl, ⟨Nat.le_trans few (by decide), rfl⟩, _, _, rfl, rfl, _, rfl, ?_⟩
    by_cases a1 : (1 : Int) ≤ (x.length : Int)
    · refine if_pos' (decide_eq_true a1) ⟨_, _, rfl, rfl, _, rfl, ?_⟩
      by_cases a2 : (x.length : Int) ≤ 12
      · refine if_neg' (by rw [decide_eq_true a2]; rfl) ?_
        have e1 : decide (1 ≤ x.length) = true := decide_eq_true (by omega)
        have e2 : decide (x.length ≤ 12) = true := decide_eq_true (by omega)
        unfold wd at fin
        rw [e1, e2, Bool.true_and, Bool.true_and] at fin
        refine ⟨_, rfl, ⟨_, rfl⟩, _, rfl, rfl, True.intro, _, rfl, ?_⟩
        cases b1 : Txt.isascii x with
        | false => rw [b1] at fin; exact if_neg' rfl fin
        | true =>
        refine if_pos' rfl ⟨_, rfl, ⟨_, rfl⟩, _, rfl, rfl, True.intro, _, rfl, ?_⟩
        rw [b1, Bool.true_and] at fin
        cases b2 : Txt.isalnum x with
        | false => rw [b2] at fin; exact if_neg' rfl fin
        | true =>
        rw [b2, Bool.true_and] at fin
        have pos : 0 < x.cps.size := by
          have : x.length = x.cps.size := rfl
          omega
        have hx : x.cps.toList[0]? = some (x.cps.getD 0 0) := by
          rw [Array.getElem?_toList, Array.getD_eq_getD_getElem?, Array.getElem?_eq_getElem pos]
          rfl
        refine if_pos' rfl ⟨_, rfl, _, _, x.cps.getD 0 0, rfl, rfl, Nat.le_trans few (by decide), at_hd hx, ⟨_, rfl⟩, _, rfl, rfl, True.intro, _, rfl, ?_⟩
        cases b3 : Txt.isalpha ⟨#[x.cps.getD 0 0]⟩ with
        | false => rw [b3] at fin; exact if_neg' rfl fin
        | true =>
        rw [b3, Bool.true_and] at fin
        exact if_pos' rfl ⟨_, rfl, _, rfl, ⟨_, rfl⟩, _, rfl, rfl, Nat.le_trans few (by decide), rfl, fin⟩
      · refine if_pos' (by rw [decide_eq_false a2]; rfl) ?_
        have e2 : decide (x.length ≤ 12) = false := decide_eq_false (by omega)
        unfold wd at fin
        rw [e2, Bool.and_false] at fin
        exact fin
    · refine if_neg' (decide_eq_false a1) ⟨_, rfl, if_pos' rfl ?_⟩
      have e1 : decide (1 ≤ x.length) = false := decide_eq_false (by omega)
      unfold wd at fin
      rw [e1] at fin
      exact fin
end
end V4
end

-- FnGd
section
set_option Elab.async false
set_option linter.all false
set_option maxRecDepth 100000
/-! what a def promises where no repr is under way (the law itself, and what it calls): so that a repr of lists and tuples may be asked. -/
namespace FnGd
open PySem L2 OwnOps PyProof.Rows
structure FnG (P : Program) (w : World) (K : PySem.W.Frag) (mg : Str → Option Value) (base : Heap) (CX : CXT) (k : Nat) (f : Addr) (fd : FuncData) (ps : List Str) (sp : Sp) : Prop where
  len : ∀ vs H Q E, sp vs H Q E → vs.length = ps.length
  run : ∀ (A : Around) (outer : List Env) (s : Shared) (H : Hp) (args : Args) (us : List Value) (vs : List V) (Q : VK) (E : XK), Room k A → A.guards = some [] → Env0 P w K mg base A outer s H → BindsTo s fd args (ps.zip us) → Vals vs us → sp vs H Q E →
    codeAny (model P w) A (.call (.ref f) args) (CR CX outer P w H s Q E) s
section
variable {P : Program} {w : World} {K : PySem.W.Frag} {mg : Str → Option Value} {base : Heap} {CX : CXT}
theorem okG {x qual : Str} {st : Stmt} {f : Addr} {fd : FuncData} {N ps : List Str} {k : Nat} {sp : Sp} (F : Fun K x qual st f fd) (S : FnScope N ps (defScope st)) (len : ∀ vs H Q E, sp vs H Q E → vs.length = ps.length)
    (hbody : ∀ (cdv : Value) (A : Around) (outer : List Env) (s : Shared) (H : Hp) (vs : List V) (Q : VK) (E : XK), Room k (A.deeper (envOfC qual (defScope st) s.heap.objs.size f cdv)) → A.guards = some [] → sp vs H Q E →
      ∃ t, PSs (cxOf CX P w K mg base N qual (defScope st) f cdv A outer s H E) (defBody st) t ∧ t { nx := fun _ H' => Q .non H', rt := Q } (start N vs) H) : FnG P w K mg base CX (k + 1) f fd ps sp := by
  obtain ⟨oc, od, kV, doc, pm, an, cdv, ct, osl, rfl, lk, hcd⟩ := F.ex
  refine ⟨len, fun A outer s H args us vs Q E room gd e0 bi rel told => ?_⟩
  have inn : K.In s.heap := e0.mod.kin.keeps fun b o e => (e0.bs b o e).1
  have free : s.heap.NoLimit := e0.mod.nolimit.keeps fun b o e => (e0.bs b o e).1
  refine codeAny_call_function room.depth (inn _ _ lk) rfl S.co S.gen rfl (PySem.W.codeRec_of inn hcd) (bi _ _ _ _ (wpAny_newFunctionEnv_cells S.kind (fun y hy => ?_) fun env he s1 x => ?_))
  · rcases S.par y.1 (List.of_mem_zip hy).1 with q | q
    · exact .inl q
    · exact .inr ⟨q, PySem.W.cellsFrom_some _ _ _ (.inl q)⟩
  subst he
  obtain ⟨t, ht, goal⟩ := hbody cdv A outer s H vs Q E (room.deeper _) gd told
  have I := inv_start (CX := CX) (E := E) (A := A) S room.hd e0 (len _ _ _ _ told) rel x
  refine ⟨free.keeps x.toInCall.keep, codeAny_func (wpAny_mono (ht.run [] s1 (start N vs) H _ I goal) (fun fl s' got => ?_) fun e s' got => got)⟩
  match fl, got with
  | .ret u, ⟨v, σ', H', J, rv, q⟩ => exact ⟨v, H', J.os, J.bare, J.base, J.hok, rv, q⟩
  | .next, ⟨σ', H', J, q⟩ => exact ⟨V.non, H', J.os, J.bare, J.base, J.hok, rfl, q⟩
  | .brk, ⟨_, _, _, q⟩ => exact q.elim
  | .cont, ⟨_, _, _, q⟩ => exact q.elim
theorem FnG.of {f : Addr} {fd : FuncData} {ps : List Str} {k : Nat} {sp : Sp} (F : FnOk P w K mg base CX k f fd ps sp) : FnG P w K mg base CX k f fd ps sp := ⟨F.len, fun A outer s H args us vs Q E r _ => F.run A outer s H args us vs Q E r⟩
end
theorem law_callG {P : Program} {w : World} {K : PySem.W.Frag} {mg mb : Str → Option Value} {CX : CXT} {k : Nat} {fa a : Addr} {fd : FuncData} {x : Str} {sp : Sp} {s₁ : Shared} {vs : List Value} {ns : List Int} (KX : K.In s₁.heap) (hns : s₁.heap.Ns mainGlobals mg) (hb : s₁.heap.Ns builtinsNs mb) (hbb : ∀ x : Str, x ≠ Str.ofString "__name__" → mb x = bootBuiltins x)
    (hlim : s₁.heap.NoLimit) (hg : s₁.gens = #[]) (ha : s₁.heap.get? a = some { cls := .type "list", data := .seq vs.toArray }) (hi : IntsAre vs ns) (hl : ns.length ≤ sizeLine) (hr : Room k callerA) (F : ∀ base : Heap, K.In base → base.Ns mainGlobals mg → FnG P w K mg base CX k fa fd [x] sp)
    (hbind : ∀ (s : Shared) (u : Value), BindsTo s fd { pos := [u] } [(x, u)]) (hsp : ∀ H : Hp, Only H → SqL K H a (ns.map V.int) → sp [.ref a] H (fun v _ => v = .bl true) fun _ _ _ => False) (hCX : ∀ (H : Hp) (e : Value) (s' : Shared), CX [] H s₁ (fun _ _ _ => False) e s' → False) :
    codeAny (model P w) callerA (.call (.ref fa) { pos := [.ref a] }) (fun r s' => r = .ok (.ret (.bool true)) ∧ OldK s₁.heap s'.heap ∧ s'.os = s₁.os ∧ AllBare s'.gens) s₁ := by
  have rv := vals_ints hi
  have lenV := hi.length
  have core : ∀ H : Hp, Only H → SqL K H a (ns.map V.int) → HOk P w H s₁.heap → (∀ b, H b ≠ none → b = a) → (H a ≠ none → K.lookup a = none) →
      codeAny (model P w) callerA (.call (.ref fa) { pos := [.ref a] }) (fun r s' => r = .ok (.ret (.bool true)) ∧ OldK s₁.heap s'.heap ∧ s'.os = s₁.os ∧ AllBare s'.gens) s₁ := by
    intro H hO hS hok hA hK
    have out : ∀ b, b ≠ a → H b = none := fun b n => by
      cases q : H b with
      | none => rfl
      | some u => exact absurd (hA b (by rw [q]; exact Option.some_ne_none _)) n
    have noA : ∀ {b o es ep}, s₁.heap.get? b = some o → o.data = .dict es ep → H b = none := fun {b o es ep} e d => out b fun z => by
      subst z
      rw [ha] at e
      cases e
      cases d
    have nsK : ∀ {b m}, s₁.heap.Ns b m → (hidT s₁.heap H).Ns b m := fun ⟨o, es, ep, e, d, r⟩ => ⟨o, es, ep, hidT_get e (noA e d), d, r⟩
    have hKb : K.In (hidT s₁.heap H) := fun b o e => by
      refine hidT_get (KX b o e) ?_
      by_cases z : b = a
      · subst z
        cases q : H b with
        | none => rfl
        | some u =>
          have := hK (by rw [q]; exact Option.some_ne_none _)
          rw [e] at this
          cases this
      · exact out b z
    have hM : L2.Mod K mg (hidT s₁.heap H) := ⟨hKb, nsK hns, ⟨mb, nsK hb, hbb⟩, let ⟨mc, h1, h2⟩ := hlim; ⟨mc, nsK h1, h2⟩⟩
    have e0 : Env0 P w K mg (hidT s₁.heap H) callerA [] s₁ H := ⟨rfl, hM, fun b o e => of_hidT e, Nat.le_of_eq (hidT_size _ _), trivial, fun b hb => (nomatch hb), hok, AllBare.of_eq hg⟩
    refine codeAny_mono ((F (hidT s₁.heap H) hKb (nsK hns)).run callerA [] s₁ H { pos := [.ref a] } [.ref a] [.ref a] (fun v _ => v = .bl true) (fun _ _ _ => False) hr rfl e0 (hbind s₁ _) (.cons rfl .nil) (hsp H hO hS)) fun r s' h => ?_
    match r, h with
    | .error e, h => exact (hCX H e s' h).elim
    | .ok .next, h => exact h.elim
    | .ok .brk, h => exact h.elim
    | .ok .cont, h => exact h.elim
    | .ok (.ret u), ⟨v, H', os, bare, un, hok', r', q⟩ =>
      subst q
      rw [show u = .bool true from r']
      refine ⟨rfl, OldK.of_keep fun b o e => ?_, os, bare⟩
      rcases hO b with z | ⟨ob, xs, z⟩
      · exact un.keep b o e z (fun z => nomatch z) (fun z => nomatch z)
      · have h1 := (hok b _ z).1
        have h2 := (hok' b _ (un.frzs b ob _ z)).1
        rw [e] at h1
        cases h1
        exact h2
  cases hk : K.lookup a with
  | none =>
    refine core (fun b => if b = a then some (.frz { cls := .type "list", data := .seq vs.toArray } (.lst (ns.map V.int))) else none) (fun b => ?_) (.inl (.inr ⟨_, if_pos rfl⟩)) (fun b u z => ?_) (fun b z => ?_) fun _ => hk
    · by_cases h : b = a
      · exact .inr ⟨_, _, if_pos h⟩
      · exact .inl (if_neg h)
    · by_cases h : b = a
      · have z' := (if_pos h).symm.trans z
        cases z'
        subst h
        exact ⟨ha, by rw [List.length_map]; exact hl, vs, 0, rv, ha⟩
      · have z' := (if_neg h).symm.trans z
        cases z'
    · by_cases h : b = a
      · exact h
      · exact absurd (if_neg h) z
  | some o =>
    have e := KX a o hk
    rw [ha] at e
    cases e
    exact core (fun _ => none) (fun _ => .inl rfl) (.inr ⟨_, vs.toArray, 0, hk, rfl, rfl, rfl, by rw [List.size_toArray, lenV]; exact hl, rv⟩) (fun b u z => nomatch z) (fun b z => absurd rfl z) fun z => absurd rfl z
theorem walk_ofG {l : PySem.W.OpenLaw} {n k : Nat} {q : Program} {loose : List Str} {XP : (Str → Option Value) → Heap → Prop} {YP : World → Heap → Prop} {d : DefRec} {K : Params → PySem.W.Frag} {CX : World → CXT} {sp : World → Sp} {x : Str} (hn : l.most = some n) (hn2 : n ≤ sizeLine) (hdf : d.params.defaults = []) (hr : Room k callerA)
    (hY : ∀ (w : World) (h : Heap), YP w h → (K w.params).In h)
    (F : ∀ (w : World) (mg : Str → Option Value) (fa : Addr) (h : Heap), (K w.params).In h → h.Ns mainGlobals mg → mg d.name = some (.ref fa) → ∃ fd, (∀ (s : Shared) (u : Value), BindsTo s fd { pos := [u] } [(x, u)]) ∧ ∀ base : Heap, (K w.params).In base → base.Ns mainGlobals mg → FnG l.prog w (K w.params) mg base (CX w) k fa fd [x] (sp w))
    (hsp : ∀ (w : World) (H : Hp) (a : Addr) (ns : List Int), ns.length ≤ n → Only H → SqL (K w.params) H a (ns.map V.int) → sp w [.ref a] H (fun v _ => v = .bl true) fun _ _ _ => False)
    (hCX : ∀ (w : World) (H : Hp) (s : Shared) (e : Value) (s' : Shared), CX w [] H s (fun _ _ _ => False) e s' → False) :
    PySem.W.WalkO q loose XP YP l.row.toRowW d [] (fun f vs => PySem.call f vs) :=
  Att.attach_call hn hdf fun w s₀ s₁ mg mb fa o pm cd doc a vs ns G Y ho hd hcd hmg hobj hints hlen hg => by
    have KX := hY w s₁.heap Y
    obtain ⟨fd, hb, hF⟩ := F w mg fa s₁.heap KX G.T.g hmg
    exact law_callG KX G.T.g G.T.b G.T.builtins G.T.nolimit hg hobj hints (Nat.le_trans hlen hn2) hr hF hb (fun H hO hS => hsp w H a ns hlen hO hS) fun H e s' => hCX w H s₁ e s'
end FnGd
end

-- HeadB
section
set_option Elab.async false
set_option linter.all false
set_option maxRecDepth 100000
set_option maxHeartbeats 2000000
/-! a law's end over a head that is one kernel run: the facts are one Bool over the written part, its addresses are told by names; nothing of the heap is written out. -/
namespace HdB
open PySem PySem.Spec PyProof.Rows L2 He
abbrev AlB : Type := Bool × AlD
def obsB (ck : List (PySem.W.Frag → Bool)) (fn : List DefD) (K : PySem.W.Frag) : AlB := (ck.all fun f => f K, obsD [] fn K)
def valB (fn : List DefD) : AlB := (true, valD fn)
abbrev SaysB (ck : List (PySem.W.Frag → Bool)) (fn : List DefD) (K : PySem.W.Frag) : Prop := obsB ck fn K = valB fn
def hookB (as : List Addr) (ck : List (PySem.W.Frag → Bool)) (fn : List DefD) : PySem.W.Hook where
  α := AlB
  obs := fun s => obsB ck fn (frG s.heap.get? as)
  val := fun _ => valB fn
  says := fun _ h => ∃ K : PySem.W.Frag, K.In h ∧ SaysB ck fn K
  of := fun _ _ e => ⟨_, frG_in, e⟩
  keeps := fun _ _ _ ⟨K, hK, c⟩ k => ⟨K, PySem.W.Frag.In.keeps hK k, c⟩
def obB (as : List Addr) (ck : List (PySem.W.Frag → Bool)) (fn : List DefD) (s : PySem.W.SharedT) : AlB := obsB ck fn (frG (HandSHeadRun.getT s) as)
theorem obB_eq (as : List Addr) (ck : List (PySem.W.Frag → Bool)) (fn : List DefD) (s : PySem.W.SharedT) : obB as ck fn s = (hookB as ck fn).obs s.abs := by
  have e : HandSHeadRun.getT s = s.abs.heap.get? := funext (HandSHeadRun.getT_eq s)
  unfold obB
  rw [e]
  rfl
section
variable {ck : List (PySem.W.Frag → Bool)} {fn : List DefD} {K : PySem.W.Frag}
theorem SaysB.fact (c : SaysB ck fn K) (i : Nat) {f : PySem.W.Frag → Bool} (h : ck[i]? = some f := by rfl) : f K = true := by
  have c1 : (ck.all fun f => f K) = true := congrArg (fun z : AlB => z.1) c
  exact List.all_eq_true.mp c1 f (List.mem_of_getElem? h)
theorem SaysB.isP (c : SaysB ck fn K) (i : Nat) {p : PySem.W.Frag → Prop} [∀ K, Decidable (p K)] (h : ck[i]? = some (fun K => decide (p K)) := by rfl) : p K := of_decide_eq_true (c.fact i h)
theorem SaysB.def_ (c : SaysB ck fn K) (i : Nat) {d : DefD} (h : fn[i]? = some d := by rfl) : ∃ fd, FunD K d.name d.qual d.params d.body d.scope (d.dvs K) (d.kws K) (fAd K d.at_) fd := by
  have c2 : SaysD [] fn K := congrArg (fun z : AlB => z.2) c
  exact c2.def_ i h
end
/-- a def without defaults -/
theorem funOf {K : PySem.W.Frag} {x q : Str} {st : Stmt} {f : Addr} (h : ∃ fd, FunD K x q (defArgs st) (defBody st) (defScope st) [] [] f fd) : ∃ fd, Fun K x q st f fd := by
  obtain ⟨fd, ⟨⟨oc, od, dV, kV, doc, pm, an, cdv, ct, osl, e, l, c, dd, kk⟩, kp⟩⟩ := h
  rcases dd with ⟨_, q⟩ | ⟨n, _⟩
  · subst q
    exact ⟨fd, ⟨⟨oc, od, kV, doc, pm, an, cdv, ct, osl, e, l, c⟩, kp⟩⟩
  · exact (n rfl).elim
/-- an own error class, seen by a Bool -/
def clsX (K : PySem.W.Frag) (C : Addr) (bt : List Value) (newId : String) : Bool := match K.lookup C with
  | some ⟨.type "type", _, .cls cd, sl⟩ => (match cd.mro, sl.toList with
    | .ref C' :: bm, [_, _, _, _, some (.builtin n), _] => C' == C && (n == newId && (!cd.hasDel && (cd.hasDict && PySem.Giv.tailIs bt bm)))
    | _, _ => false)
  | _ => false
theorem clsX_ok {K : PySem.W.Frag} {C : Addr} {bt : List Value} {newId : String} (q : clsX K C bt newId = true) :
    ∃ nm qn N bs bm sn sub ab col dd k0 k1 k2 k3 k5, K.lookup C = some (PySem.excClassObj nm qn C N bs bm true sn sub ab col dd k0 k1 k2 k3 k5 newId) ∧ PySem.Giv.tailIs bt bm = true := by
  unfold clsX at q
  split at q
  · rename_i dd cd sl ho
    split at q
    · rename_i C' bm k0 k1 k2 k3 n k5 hm hs
      obtain ⟨a1, q⟩ := ba q
      obtain ⟨a2, q⟩ := ba q
      obtain ⟨a3, q⟩ := ba q
      obtain ⟨a4, a5⟩ := ba q
      have b1 := beq_iff_eq.mp a1
      have b2 := beq_iff_eq.mp a2
      have b3 : cd.hasDel = false := by
        cases z : cd.hasDel with
        | false => rfl
        | true => rw [z] at a3; cases a3
      clear a1 a2 a3
      obtain ⟨nm, bs, mro, ns, qn, hd, sn, sub, ab, col, del⟩ := cd
      dsimp only at hm b3 a4
      subst hm b3 a4 b1 b2
      have hsl : sl = #[k0, k1, k2, k3, some (.builtin n), k5] := by
        obtain ⟨l⟩ := sl
        simp only at hs
        rw [hs]
      subst hsl
      exact ⟨nm, qn, ns, bs, bm, sn, sub, ab, col, dd, k0, k1, k2, k3, k5, ho, a5⟩
    · cases q
  · cases q
instance {K : PySem.W.Frag} {C : Addr} : Decidable (Cls K C) := decidable_of_iff (PySem.W.plainGet K C Str.empty = true ∧ PySem.W.hasDictIn K C = true ∧ PySem.W.plainOver K C = true ∧ PySem.W.findIn K (.ref C) "__setattr__" = some (some (.builtin "object.__setattr__")))
  ⟨fun ⟨a, b, c, d⟩ => ⟨a, b, c, d⟩, fun ⟨a, b, c, d⟩ => ⟨a, b, c, d⟩⟩
instance {K : PySem.W.Frag} {C : Addr} {f : Str} : Decidable (NoAttr K C f) := inferInstanceAs (Decidable (PySem.W.findIn K (.ref C) f = some none))
/-- an own error class that keeps its argument in the field given: all that is asked of it, by one Bool -/
def kwN (K : PySem.W.Frag) (f : Addr) : Bool := match K.lookup f with
  | some ⟨_, _, .func fd, _⟩ => (match fd.kwdefaults with
    | .none => true
    | _ => false)
  | _ => false
structure ErrB (K : PySem.W.Frag) (E f : Addr) (cn : Str) (bt : List Value) (newId : String) : Prop where
  here : PySem.W.nsIn K mainGlobals cn = some (some (.ref E))
  xL : clsX K E bt newId = true
  sa : PySem.W.findIn K (.ref E) "__setattr__" = some (some (.builtin "object.__setattr__"))
  ga : PySem.W.findIn K (.ref E) "__getattribute__" = some (some (.builtin "BaseException.__getattribute__"))
  gg : PySem.W.findIn K (.ref E) "__getattr__" = some none
  no : PySem.W.findIn K (.ref E) "given" = some none
  iC : PySem.W.findIn K (.ref E) "__init__" = some (some (.ref f))
  tC : PySem.W.typeIn K (.ref f) = some (.type "function")
  kC : PySem.W.keepIn K (.ref E) = true
  ex : PySem.W.subIn K (.ref E) (.type "BaseException") = some true
  ty : PySem.W.typeIn K (.ref E) = some (.type "type")
  hd : PySem.W.hasDictIn K E = true
  te : PySem.W.exmOne K (.ref E) (.ref E) = some true
  kn : kwN K f = true
instance {K : PySem.W.Frag} {E f : Addr} {cn : Str} {bt : List Value} {newId : String} : Decidable (ErrB K E f cn bt newId) := decidable_of_iff ((PySem.W.nsIn K mainGlobals cn = some (some (.ref E))) ∧ (clsX K E bt newId = true) ∧ (PySem.W.findIn K (.ref E) "__setattr__" = some (some (.builtin "object.__setattr__"))) ∧ (PySem.W.findIn K (.ref E) "__getattribute__" = some (some (.builtin "BaseException.__getattribute__"))) ∧ (PySem.W.findIn K (.ref E) "__getattr__" = some none) ∧ (PySem.W.findIn K (.ref E) "given" = some none) ∧ (PySem.W.findIn K (.ref E) "__init__" = some (some (.ref f))) ∧ (PySem.W.typeIn K (.ref f) = some (.type "function")) ∧ (PySem.W.keepIn K (.ref E) = true) ∧ (PySem.W.subIn K (.ref E) (.type "BaseException") = some true) ∧ (PySem.W.typeIn K (.ref E) = some (.type "type")) ∧ (PySem.W.hasDictIn K E = true) ∧ (PySem.W.exmOne K (.ref E) (.ref E) = some true) ∧ (kwN K f = true))
  ⟨fun ⟨here_, xL_, sa_, ga_, gg_, no_, iC_, tC_, kC_, ex_, ty_, hd_, te_, kn_⟩ => ⟨here_, xL_, sa_, ga_, gg_, no_, iC_, tC_, kC_, ex_, ty_, hd_, te_, kn_⟩, fun ⟨here_, xL_, sa_, ga_, gg_, no_, iC_, tC_, kC_, ex_, ty_, hd_, te_, kn_⟩ => ⟨here_, xL_, sa_, ga_, gg_, no_, iC_, tC_, kC_, ex_, ty_, hd_, te_, kn_⟩⟩
theorem ErrB.txt {K : PySem.W.Frag} {E f : Addr} {cn qn : Str} {bt : List Value} {newId : String} {p1 p2 q1 q2 q3 q4 : Pos} (b : ErrB K E f cn bt newId)
    (F : ∃ fd, FunD K "__init__" qn (PySem.Giv.gA p1 p2) (PySem.Giv.gB q1 q2 q3 q4) PySem.Giv.gS [] [] f fd) (mg : Str → Option Value) (hg : mg cn = some (.ref E)) : PySem.Giv.ErrTxt K mg cn qn newId bt E f := by
  obtain ⟨fd, ⟨⟨oc, od, dV, kV, doc, pm, an, cdv, ct, osl, e, l, c, dd, kk⟩, kp⟩⟩ := F
  subst e
  have k := b.kn
  unfold kwN at k
  rw [l] at k
  have hk : kV = .none := by
    cases kV with
    | none => rfl
    | _ => cases k
  have hd : dV = .none := by
    rcases dd with ⟨_, q⟩ | ⟨n, _⟩
    · exact q
    · exact (n rfl).elim
  subst hk hd
  exact { gC := hg, cls := clsX_ok b.xL, sa := b.sa, ga := b.ga, gg := b.gg, noN := b.no, iC := b.iC, tC := b.tC, kC := b.kC, exC := b.ex, tyC := b.ty, hdC := b.hd, te := b.te, fn := ⟨oc, od, doc, pm, an, cdv, ct, osl, p1, p2, q1, q2, q3, q4, l, c⟩ }
/-- where a class stands, where a method of it does -/
abbrev gaX (K : PySem.W.Frag) (x : Str) : Addr := He.ga K x
abbrev maX (K : PySem.W.Frag) (x m : Str) : Addr := He.ma K (He.ga K x) m
abbrev gD (x : Str) (st : Stmt) : DefD := ⟨(x, none), x, x, defArgs st, defBody st, defScope st, [], []⟩
abbrev mD (c x q : Str) (st : Stmt) : DefD := ⟨(c, some x), x, q, defArgs st, defBody st, defScope st, [], []⟩
/-- the law's end: K and what is known of it come out of the Hook -/
theorem walk_ofB {l : PySem.W.OpenLaw} {n k : Nat} {q : Program} {loose : List Str} {XP : (Str → Option Value) → Heap → Prop} {YP : World → Heap → Prop} {d : DefRec} {CX : World → CXT} {x : Str} (hn : l.most = some n) (hn2 : n ≤ sizeLine) (hdf : d.params.defaults = []) (hr : Room k callerA)
    (F : ∀ (w : World) (mg : Str → Option Value) (fa : Addr) (h : Heap), YP w h → h.Ns mainGlobals mg → mg d.name = some (.ref fa) → ∃ (K : PySem.W.Frag) (fd : FuncData) (sp : Sp), K.In h ∧ (∀ (s : Shared) (u : Value), BindsTo s fd { pos := [u] } [(x, u)]) ∧
      (∀ (H : Hp) (a : Addr) (ns : List Int), ns.length ≤ n → Only H → SqL K H a (ns.map V.int) → sp [.ref a] H (fun v _ => v = .bl true) fun _ _ _ => False) ∧
      ∀ base : Heap, K.In base → base.Ns mainGlobals mg → FnGd.FnG l.prog w K mg base (CX w) k fa fd [x] sp)
    (hCX : ∀ (w : World) (H : Hp) (s : Shared) (e : Value) (s' : Shared), CX w [] H s (fun _ _ _ => False) e s' → False) :
    PySem.W.WalkO q loose XP YP l.row.toRowW d [] (fun f vs => PySem.call f vs) :=
  Att.attach_call hn hdf fun w s₀ s₁ mg mb fa o pm cd doc a vs ns G Y ho hd hcd hmg hobj hints hlen hg => by
    obtain ⟨K, fd, sp, KX, hb, hsp, hF⟩ := F w mg fa s₁.heap Y G.T.g hmg
    exact FnGd.law_callG KX G.T.g G.T.b G.T.builtins G.T.nolimit hg hobj hints (Nat.le_trans hlen hn2) hr hF hb (fun H hO hS => hsp H a ns hlen hO hS) fun H e s' => hCX w H s₁ e s'
end HdB
end

-- HeadS
section
set_option Elab.async false
set_option linter.all false
set_option maxRecDepth 100000
set_option maxHeartbeats 2000000
/-! HeadB, and defs that say super() (their cell of the class, their code's file, keyword-only defaults). -/
namespace HdS
open PySem PySem.Spec PyProof.Rows L2 He HdB
abbrev FnSW : Type := Option (Str × Str × Arguments × FuncBody × Scope × Addr × List Str × Addr)
/-- such a def: where it stands, its names, what it is made of, its keyword-only defaults (true: None, false: some object), its class, its file -/
structure DefS where
  at_ : Str × Option Str
  name : Str
  qual : Str
  params : Arguments
  body : List Stmt
  scope : Scope
  kwd : List (Str × Bool)
  cls : Str
  file : Str
def fnS (K : PySem.W.Frag) (p : Str × Option Str) : FnSW := match K.lookup (fAd K p) with
  | some ⟨_, _, .func fd, _⟩ => some (fd.name, fd.qualname, fd.params, fd.body, fd.scope, fd.globals, fd.closure.map (·.1), fd.builtins)
  | _ => none
def DefS.val (d : DefS) : FnSW := some (d.name, d.qual, d.params, .stmts d.body, d.scope, mainGlobals, ["__class__"], builtinsNs)
/-- where a keyword-only default lies -/
def kwAd (K : PySem.W.Frag) (f : Addr) (k : Str) : Addr := match K.lookup f with
  | some ⟨_, _, .func fd, _⟩ => (match fd.kwdefaults with
    | .ref D => (match PySem.W.nsIn K D k with
      | some (some (.ref a)) => a
      | _ => 0)
    | _ => 0)
  | _ => 0
def DefS.kws (K : PySem.W.Frag) (d : DefS) : List (Str × V) := d.kwd.map fun q => (q.1, if q.2 then V.non else V.ref (kwAd K (fAd K d.at_) q.1))
def isNo : Value → Bool
  | .none => true
  | _ => false
def fileB (K : PySem.W.Frag) (file : Str) : Value → Bool
  | .ref c => (match K.lookup c with
    | some ⟨_, _, .fields vs, _⟩ => (match (vs[2]? : Option Value) with
      | some (.str z _) => decide (z = file)
      | _ => false)
    | _ => false)
  | _ => false
def cellB (K : PySem.W.Frag) (C : Addr) : List (Str × Addr) → Bool
  | [(_, cc)] => (match K.lookup cc with
    | some ⟨_, _, .cell (some (.ref D)), _⟩ => decide (D = C)
    | _ => false)
  | _ => false
def DefS.ok (K : PySem.W.Frag) (d : DefS) : Bool := match K.lookup (fAd K d.at_) with
  | some ⟨_, _, .func fd, _⟩ => PySem.W.codeIn K fd.code d.qual && (isNo fd.defaults && (kwdB K fd.kwdefaults (d.kws K) && (fileB K d.file fd.code && cellB K (ga K d.cls) fd.closure)))
  | _ => false
/-- a plain def that stands at an address told by the written part (a property's getter) -/
structure DefP where
  at_ : PySem.W.Frag → Addr
  name : Str
  qual : Str
  params : Arguments
  body : List Stmt
  scope : Scope
def fnP (K : PySem.W.Frag) (a : Addr) : FnW := match K.lookup a with
  | some ⟨_, _, .func fd, _⟩ => some (fd.name, fd.qualname, fd.params, fd.body, fd.scope, fd.globals, fd.closure, fd.builtins)
  | _ => none
def DefP.val (d : DefP) : FnW := some (d.name, d.qual, d.params, .stmts d.body, d.scope, mainGlobals, [], builtinsNs)
def DefP.ok (K : PySem.W.Frag) (d : DefP) : Bool := PySem.W.keepIn K (.ref (d.at_ K)) && (match K.lookup (d.at_ K) with
  | some ⟨_, _, .func fd, _⟩ => PySem.W.codeIn K fd.code d.qual && (isNo fd.defaults && isNo fd.kwdefaults)
  | _ => false)
abbrev AlS : Type := AlB × (Bool × List FnSW) × (Bool × List FnW)
def obsS (ck : List (PySem.W.Frag → Bool)) (fn : List DefD) (sn : List DefS) (pn : List DefP) (K : PySem.W.Frag) : AlS := (obsB ck fn K, (sn.all fun d => d.ok K, sn.map fun d => fnS K d.at_), (pn.all fun d => d.ok K, pn.map fun d => fnP K (d.at_ K)))
def valS (fn : List DefD) (sn : List DefS) (pn : List DefP) : AlS := (valB fn, (true, sn.map DefS.val), (true, pn.map DefP.val))
abbrev SaysS (ck : List (PySem.W.Frag → Bool)) (fn : List DefD) (sn : List DefS) (pn : List DefP) (K : PySem.W.Frag) : Prop := obsS ck fn sn pn K = valS fn sn pn
def hookS (as : List Addr) (ck : List (PySem.W.Frag → Bool)) (fn : List DefD) (sn : List DefS) (pn : List DefP) : PySem.W.Hook where
  α := AlS
  obs := fun s => obsS ck fn sn pn (frG s.heap.get? as)
  val := fun _ => valS fn sn pn
  says := fun _ h => ∃ K : PySem.W.Frag, K.In h ∧ SaysS ck fn sn pn K
  of := fun _ _ e => ⟨_, frG_in, e⟩
  keeps := fun _ _ _ ⟨K, hK, c⟩ k => ⟨K, PySem.W.Frag.In.keeps hK k, c⟩
def obS (as : List Addr) (ck : List (PySem.W.Frag → Bool)) (fn : List DefD) (sn : List DefS) (pn : List DefP) (s : PySem.W.SharedT) : AlS := obsS ck fn sn pn (frG (HandSHeadRun.getT s) as)
theorem obS_eq (as : List Addr) (ck : List (PySem.W.Frag → Bool)) (fn : List DefD) (sn : List DefS) (pn : List DefP) (s : PySem.W.SharedT) : obS as ck fn sn pn s = (hookS as ck fn sn pn).obs s.abs := by
  have e : HandSHeadRun.getT s = s.abs.heap.get? := funext (HandSHeadRun.getT_eq s)
  unfold obS
  rw [e]
  rfl
section
variable {ck : List (PySem.W.Frag → Bool)} {fn : List DefD} {sn : List DefS} {pn : List DefP} {K : PySem.W.Frag}
theorem SaysS.b (c : SaysS ck fn sn pn K) : SaysB ck fn K := congrArg (fun z : AlS => z.1) c
theorem SaysS.sdef (c : SaysS ck fn sn pn K) (i : Nat) {d : DefS} (h : sn[i]? = some d := by rfl) :
    ∃ (oc : Value) (od : Option Addr) (kV doc pm : Value) (an : Option Addr) (cda : Addr) (ct : Value) (cc : Addr) (osl : Array (Option Value)),
      K.lookup (fAd K d.at_) = some ⟨oc, od, .func (PySem.W.ksFn d.name d.qual d.params d.body d.scope .none kV doc pm an (.ref cda) ct cc), osl⟩ ∧ PySem.W.codeIn K (.ref cda) d.qual = true ∧ KwdV K kV (d.kws K) ∧
      (∃ cl od vs sl file tf, K.lookup cda = some ⟨cl, od, .fields vs, sl⟩ ∧ vs[2]? = some (.str file tf) ∧ file = d.file) ∧ ∃ cl cld csl, K.lookup cc = some ⟨cl, cld, .cell (some (.ref (ga K d.cls))), csl⟩ := by
  have c1 : (sn.all fun d => d.ok K) = true := congrArg (fun z : AlS => z.2.1.1) c
  have e : sn.map (fun d => fnS K d.at_) = sn.map DefS.val := congrArg (fun z : AlS => z.2.1.2) c
  have ok := List.all_eq_true.mp c1 d (List.mem_of_getElem? h)
  have e2 : (sn.map fun d => fnS K d.at_)[i]? = (sn.map DefS.val)[i]? := by rw [e]
  rw [List.getElem?_map, List.getElem?_map, h] at e2
  have e3 : fnS K d.at_ = d.val := Option.some.inj e2
  unfold fnS at e3
  unfold DefS.ok at ok
  cases q : K.lookup (fAd K d.at_) with
  | none =>
    rw [q] at ok
    cases ok
  | some o =>
    obtain ⟨oc, od, dt, osl⟩ := o
    rw [q] at ok e3
    cases dt with
    | func fd =>
      obtain ⟨n1, n2, n3, n4, n5, n6, n7, n8, n9, n10, n11, n12, n13, n14, n15⟩ := fd
      have e4 : (some (n1, n2, n3, n4, n5, n6, (n7.map fun q => q.1 : List Str), n15) : FnSW) = some (d.name, d.qual, d.params, FuncBody.stmts d.body, d.scope, mainGlobals, (["__class__"] : List Str), builtinsNs) := e3
      simp only [Option.some.injEq, Prod.mk.injEq] at e4
      obtain ⟨h1, h2, h3, h4, h5, h6, h7, h8⟩ := e4
      subst h1 h2 h3 h4 h5 h6 h8
      have c3 : (PySem.W.codeIn K n13 d.qual && (isNo n8 && (kwdB K n9 (d.kws K) && (fileB K d.file n13 && cellB K (ga K d.cls) n7)))) = true := ok
      obtain ⟨k1, k2⟩ := ba c3
      obtain ⟨k3, k4⟩ := ba k2
      obtain ⟨k5, k6⟩ := ba k4
      obtain ⟨k7, k8⟩ := ba k6
      have z8 : n8 = .none := by
        cases n8 with
        | none => rfl
        | _ => cases k3
      subst z8
      obtain ⟨cc, rfl⟩ : ∃ cc, n7 = [(("__class__" : Str), cc)] := by
        match n7, h7 with
        | [(x, cc)], h7 =>
          have : x = "__class__" := by
            have := List.cons.inj h7
            exact this.1
          exact ⟨cc, by rw [this]⟩
      unfold fileB at k7
      unfold cellB at k8
      cases n13 with
      | ref cda =>
        refine ⟨oc, od, n9, n10, n11, n12, cda, n14, cc, osl, rfl, k1, kwdB_ok k5, ?_, ?_⟩
        · dsimp only at k7
          cases ql : K.lookup cda with
          | none => rw [ql] at k7; cases k7
          | some o2 =>
            obtain ⟨cl, od2, dt2, sl⟩ := o2
            rw [ql] at k7
            cases dt2 with
            | fields vs =>
              dsimp only at k7
              cases qv : vs[2]? with
              | none => rw [qv] at k7; cases k7
              | some v =>
                rw [qv] at k7
                cases v with
                | str z t => exact ⟨_, _, vs, _, z, t, rfl, qv, of_decide_eq_true k7⟩
                | _ => cases k7
            | _ => cases k7
        · dsimp only at k8
          cases ql : K.lookup cc with
          | none => rw [ql] at k8; cases k8
          | some o2 =>
            obtain ⟨cl, od2, dt2, sl⟩ := o2
            rw [ql] at k8
            cases dt2 with
            | cell cv =>
              cases cv with
              | none => cases k8
              | some v =>
                cases v with
                | ref D =>
                  have e5 : D = ga K d.cls := of_decide_eq_true k8
                  subst e5
                  exact ⟨_, _, _, rfl⟩
                | _ => cases k8
            | _ => cases k8
      | _ => cases k7
    | _ => cases ok
theorem SaysS.pdef (c : SaysS ck fn sn pn K) (i : Nat) {d : DefP} (h : pn[i]? = some d := by rfl) : ∃ fd, FunD K d.name d.qual d.params d.body d.scope [] [] (d.at_ K) fd := by
  have c1 : (pn.all fun d => d.ok K) = true := congrArg (fun z : AlS => z.2.2.1) c
  have e : pn.map (fun d => fnP K (d.at_ K)) = pn.map DefP.val := congrArg (fun z : AlS => z.2.2.2) c
  have ok := List.all_eq_true.mp c1 d (List.mem_of_getElem? h)
  have e2 : (pn.map fun d => fnP K (d.at_ K))[i]? = (pn.map DefP.val)[i]? := by rw [e]
  rw [List.getElem?_map, List.getElem?_map, h] at e2
  have e3 : fnP K (d.at_ K) = d.val := Option.some.inj e2
  unfold fnP at e3
  unfold DefP.ok at ok
  obtain ⟨kp, ok⟩ := ba ok
  cases q : K.lookup (d.at_ K) with
  | none =>
    rw [q] at ok
    cases ok
  | some o =>
    obtain ⟨oc, od, dt, osl⟩ := o
    rw [q] at ok e3
    cases dt with
    | func fd =>
      obtain ⟨n1, n2, n3, n4, n5, n6, n7, n8, n9, n10, n11, n12, n13, n14, n15⟩ := fd
      have e4 : (some (n1, n2, n3, n4, n5, n6, n7, n15) : FnW) = some (d.name, d.qual, d.params, FuncBody.stmts d.body, d.scope, mainGlobals, [], builtinsNs) := e3
      simp only [Option.some.injEq, Prod.mk.injEq] at e4
      obtain ⟨h1, h2, h3, h4, h5, h6, h7, h8⟩ := e4
      subst h1 h2 h3 h4 h5 h6 h7 h8
      have c3 : (PySem.W.codeIn K n13 d.qual && (isNo n8 && isNo n9)) = true := ok
      obtain ⟨k1, k2⟩ := ba c3
      obtain ⟨k3, k4⟩ := ba k2
      have z8 : n8 = .none := by
        cases n8 with
        | none => rfl
        | _ => cases k3
      have z9 : n9 = .none := by
        cases n9 with
        | none => rfl
        | _ => cases k4
      subst z8 z9
      exact ⟨_, ⟨oc, od, .none, .none, n10, n11, n12, n13, n14, osl, rfl, q, k1, .inl ⟨rfl, rfl⟩, .inl rfl⟩, kp⟩
    | _ => cases ok
end
end HdS
end

-- HeadI
section
set_option Elab.async false
set_option linter.all false
set_option maxRecDepth 100000
/-! the head of a program that opens with imports: its opening run in the kernel too, then the top (HandS.Head0 to Head2 serve a program without imports). -/
noncomputable section
namespace HdI
open PySem PySem.W PySem.Calls PyProof.Rows HandSHeadRun
/-- the opening, to its end -/
def impF (st : SharedT → Thread → Option (SharedT × Thread)) : Nat → SharedT → Thread → Option SharedT
  | 0, _, _ => none
  | m + 1, s, t => match t.atExitBegin with
    | some [] => some s
    | some (_ :: _) => none
    | none => match st s t with
      | some (s', t') => frS s' fun s' => impF st m s' t'
      | none => none
theorem impF_ok {tb : String → Option Builtin} {p : Program} {w : World} : ∀ {m : Nat} {s s' : SharedT} {t : Thread}, impF (stepT (denote tb) p w) m s t = some s' → importEnds tb p w m s.abs t = some s'.abs
  | 0, _, _, _, h => by cases h
  | m + 1, s, s', t, h => by
    unfold impF at h
    unfold importEnds
    cases ht : t.atExitBegin with
    | some l =>
      rw [ht] at h
      cases l with
      | nil => cases h; rfl
      | cons a r => cases h
    | none =>
      rw [ht] at h
      cases hs : stepT (denote tb) p w s t with
      | none => rw [hs] at h; cases h
      | some r =>
        obtain ⟨s2, t2⟩ := r
        rw [hs] at h
        have h3 : (frS s2 fun s' => impF (stepT (denote tb) p w) m s' t2) = some s' := h
        rw [frS_eq] at h3
        have q := impF_ok h3
        show (match step (denote tb) p w s.abs t with
          | .go s' t' => importEnds tb p w m s' t'
          | .halt _ _ => none) = some s'.abs
        rw [stepT_spec hs]
        exact q
def s0T (p : Program) : SharedT := ⟨.nil, 0, (start p).1.heap.life, #[], (start p).1.drawn, (start p).1.toks, (start p).1.os⟩
theorem s0T_abs (p : Program) : (s0T p).abs = (start p).1 := rfl
/-- a shared state as a tree -/
def asT {α : Type} (s : Shared) (k : SharedT → Option α) : Option α := match putAll s.heap.objs.toList .nil 0 with
  | some (t, n) => frNat n fun n => k ⟨t, n, s.heap.life, s.gens, s.drawn, s.toks, s.os⟩
  | none => none
theorem asT_ok {α : Type} {s : Shared} {k : SharedT → Option α} {x : α} (h : asT s k = some x) : ∃ z : SharedT, z.abs = s ∧ k z = some x := by
  unfold asT at h
  cases e : putAll s.heap.objs.toList .nil 0 with
  | none => rw [e] at h; cases h
  | some r =>
    obtain ⟨t, n⟩ := r
    rw [e] at h
    have h1 : (frNat n fun n => k ⟨t, n, s.heap.life, s.gens, s.drawn, s.toks, s.os⟩) = some x := h
    rw [frNat_eq] at h1
    refine ⟨_, ?_, h1⟩
    show (⟨absHeap t n s.heap.life, s.gens, s.drawn, s.toks, s.os⟩ : Shared) = s
    rw [putAll_heap e]
/-- the opening's steps, the fence, the top's steps, the looks -/
def endI {α : Type} (st st' : SharedT → Thread → Option (SharedT × Thread)) (M1 M : Nat) (p : Program) (look : Shared → SharedT → α) : Option α :=
  match impF st' M1 (s0T (opening p)) (start (opening p)).2 with
  | some s => match fenceModules? p s.abs with
    | some s2 => asT s2 fun z => match s2.heap.isNs mainGlobals && s2.gens.size == 0 with
      | true => (goF st z.n (s2.heap.nsMap mainGlobals "__annotations__") M z (topStub p)).map (look s2)
      | false => none
    | none => none
  | none => none
theorem endI_ok {α : Type} {M1 M : Nat} {p : Program} {w : World} {look : Shared → SharedT → α} {x : α} (h : endI (stepT (denote treeTable) p w) (stepT (denote treeTable) (opening p) w) M1 M p look = some x) :
    ∃ s2 s3, fencedOpening treeTable p w M1 = some s2 ∧ (s2.heap.isNs mainGlobals && s2.gens.size == 0) = true ∧ topRun treeTable p w s2.heap.objs.size (s2.heap.nsMap mainGlobals "__annotations__") M s2 (topStub p) = some s3.abs ∧ look s2 s3 = x := by
  unfold endI at h
  cases e : impF (stepT (denote treeTable) (opening p) w) M1 (s0T (opening p)) (start (opening p)).2 with
  | none => rw [e] at h; cases h
  | some s =>
    rw [e] at h
    have q := impF_ok e
    rw [s0T_abs] at q
    have h1 : (match fenceModules? p s.abs with
      | some s2 => asT s2 fun z => match s2.heap.isNs mainGlobals && s2.gens.size == 0 with
        | true => (goF (stepT (denote treeTable) p w) z.n (s2.heap.nsMap mainGlobals "__annotations__") M z (topStub p)).map (look s2)
        | false => none
      | none => none) = some x := h
    cases e2 : fenceModules? p s.abs with
    | none => rw [e2] at h1; cases h1
    | some s2 =>
      rw [e2] at h1
      obtain ⟨z, hz, h2⟩ := asT_ok h1
      cases e3 : (s2.heap.isNs mainGlobals && s2.gens.size == 0) with
      | false =>
        rw [e3] at h2
        cases h2
      | true =>
        rw [e3] at h2
        obtain ⟨s3, h3, h4⟩ := Option.map_eq_some_iff.mp h2
        refine ⟨s2, s3, ?_, e3, ?_, h4⟩
        · unfold fencedOpening
          rw [q]
          exact e2
        · have r := goF_ok h3
          have en : s2.heap.objs.size = z.n := by
            rw [← hz]
            exact absHeap_size _ _ _
          rw [hz] at r
          rw [en]
          exact r
def looksI (p : Program) (s2 : Shared) (s : Shared) : Bool := staticsOk (importedModules p.main.body) s2.heap s.heap && namesBound p s.heap && gensDone s && laidKept s2.heap s.heap
theorem left_two {p q : Program} {loose : List Str} {Xt : Shared → Bool} {α : Type} {Yf : Shared → α} {Ya : World → α} {N M1 M : Nat} (le1 : Nat.ble M1 N = true) (le : Nat.ble M N = true)
    (run : ∀ w : World, endI (stepT (denote treeTable) p w) (stepT (denote treeTable) (opening p) w) M1 M p (fun s2 s => (looksI p s2 s.abs, openSeen q loose (importedModules p.main.body) Xt true s.abs, Yf s.abs)) = some (true, openGood q loose, Ya w)) :
    LeftO p q loose Xt Yf Ya N true := fun w => by
  obtain ⟨s2, s3, h1, h2, h3, h4⟩ := endI_ok (run w)
  obtain ⟨l1, l2, l3⟩ : _ ∧ _ ∧ _ := by simpa only [Prod.mk.injEq] using h4
  have r := topRun_mono (N - M) _ _ _ _ h3
  rw [show M + (N - M) = N by have := Nat.le_of_ble_eq_true le; omega] at r
  have l1' : (staticsOk (importedModules p.main.body) s2.heap s3.abs.heap && namesBound p s3.abs.heap && gensDone s3.abs && laidKept s2.heap s3.abs.heap) = true := l1
  have t : topFrom treeTable p w N s2 = some s3.abs := by
    unfold topFrom
    rw [h2]
    show (topRun treeTable p w s2.heap.objs.size (s2.heap.nsMap mainGlobals "__annotations__") N s2 (topStub p)).bind _ = _
    rw [r]
    show (match staticsOk (importedModules p.main.body) s2.heap s3.abs.heap && namesBound p s3.abs.heap && gensDone s3.abs && laidKept s2.heap s3.abs.heap with | true => some s3.abs | false => none) = _
    rw [l1']
  have f : fencedOpening treeTable p w N = some s2 := by
    unfold fencedOpening at h1 ⊢
    obtain ⟨a, b, c⟩ := Option.bind_eq_some_iff.mp h1
    have m := importEnds_mono (N - M1) _ _ _ _ b
    rw [show M1 + (N - M1) = N by have := Nat.le_of_ble_eq_true le1; omega] at m
    rw [m]
    exact c
  unfold openEnds
  rw [f]
  show (topFrom treeTable p w N _).map _ = _
  rw [t]
  exact congrArg some (Prod.ext l2 l3)
/-- the run's equation at a world, by the library's twins -/
def RunI (r : OpenRow) (q : Program) (H : Hook) (ob : SharedT → H.α) (M1 M : Nat) (loose : List PySem.Str) (w : World) : Prop :=
  endI (stepQ (denQ tabQ) r.prog w) (stepQ (denQ tabQ) (opening r.prog) w) M1 M r.prog (fun s2 s => (looksI r.prog s2 s.abs, seenQ q loose (importedModules r.prog.main.body) (fun s => xlAt q [] s && recOk r.toRowW.records s) s.abs, ob s)) = some (true, openGood q loose, H.val w)
theorem head_imp {r : OpenRow} {q : Program} {H : Hook} {ob : SharedT → H.α} {M1 M : Nat} {loose : List PySem.Str} {d : DefRec} {kwd : List (PySem.Str × PySem.Expr)} (ho : ∀ s : SharedT, ob s = H.obs s.abs)
    (run : ∀ w, RunI r q H ob M1 M loose w)
    (hdef : defOf q r.name = some (d, kwd)) (hp : r.prog.theDef r.name = some (d.params, d.body, d.scope)) (hk : kwWritten? d.params.kwonlyargs d.params.kw_defaults = some kwd)
    (hwr : (!r.writes || r.records.isEmpty) = true) (k1 : r.wellSaid = true) (ok : (chainsOk q && opensWell r.prog && (frees r.toRowW && r.within.isEmpty)) = true) (hb : r.prog.bare) (hw : r.toRowW.promised)
    (call : WalkO q loose (XL q []) H.says r.toRowW d kwd fun f vs => PySem.call f vs) : r.Holds := by
  have left : LeftO r.prog q loose (fun s => xlAt q [] s && recOk r.toRowW.records s) H.obs H.val (M + M1) true :=
    left_two (M1 := M1) (M := M) (Nat.ble_eq_true_of_le (by omega)) (Nat.ble_eq_true_of_le (by omega)) fun w => by
      have z := run w
      have eo : ob = fun s => H.obs s.abs := funext ho
      unfold RunI at z
      rw [eo] at z
      rw [stepQ_eq, denQ_eq, tabQ_eq]
      simp only [seenQ_eq]
      exact z
  exact holds_open (r := r) (q := q) (loose := loose) (XP := XL q []) (YP := H.says) (d := d) (kwd := kwd) left H.of H.keeps (fun s z => xl_of s (Bool.and_eq_true_iff.mp z).1) XL.keeps hdef hp hk (fun s z => recFacts_of (Bool.and_eq_true_iff.mp z).2) hwr k1 ok hb hw call
end HdI
end

-- HeadI2
section
set_option Elab.async false
set_option linter.all false
set_option maxRecDepth 100000
/-! the run's equation out of several kernel runs, each with a part of what is looked at (a kernel run's memory is bounded: 12 GB). -/
noncomputable section
namespace HdI
open PySem PySem.W PySem.Calls PyProof.Rows HandSHeadRun
theorem asT_map {α β : Type} {s : Shared} {k : SharedT → Option α} {g : α → β} : (asT s fun z => (k z).map g) = (asT s k).map g := by
  unfold asT
  cases putAll s.heap.objs.toList .nil 0 with
  | none => rfl
  | some r =>
    obtain ⟨t, n⟩ := r
    show (frNat n fun n => _) = Option.map g (frNat n fun n => _)
    rw [frNat_eq, frNat_eq]
theorem endI_map {α β : Type} {st st' : SharedT → Thread → Option (SharedT × Thread)} {M1 M : Nat} {p : Program} {look : Shared → SharedT → α} {g : α → β} :
    endI st st' M1 M p (fun s2 s => g (look s2 s)) = (endI st st' M1 M p look).map g := by
  unfold endI
  cases impF st' M1 (s0T (opening p)) (PySem.start (opening p)).2 with
  | none => rfl
  | some s =>
    dsimp only
    cases fenceModules? p s.abs with
    | none => rfl
    | some s2 =>
      dsimp only
      rw [← asT_map]
      congr 1
      funext z
      cases (s2.heap.isNs mainGlobals && s2.gens.size == 0) with
      | false => rfl
      | true =>
        dsimp only
        rw [Option.map_map]
        rfl
theorem endI_two {α β : Type} {st st' : SharedT → Thread → Option (SharedT × Thread)} {M1 M : Nat} {p : Program} {a : Shared → SharedT → α} {b : Shared → SharedT → β} {x : α} {y : β} (h1 : endI st st' M1 M p a = some x) (h2 : endI st st' M1 M p b = some y) :
    endI st st' M1 M p (fun s2 s => (a s2 s, b s2 s)) = some (x, y) := by
  have e1 := endI_map (st := st) (st' := st') (M1 := M1) (M := M) (p := p) (look := fun s2 s => (s2, s)) (g := fun q => a q.1 q.2)
  have e2 := endI_map (st := st) (st' := st') (M1 := M1) (M := M) (p := p) (look := fun s2 s => (s2, s)) (g := fun q => b q.1 q.2)
  have e3 := endI_map (st := st) (st' := st') (M1 := M1) (M := M) (p := p) (look := fun s2 s => (s2, s)) (g := fun q => (a q.1 q.2, b q.1 q.2))
  rw [e3]
  have h1 := e1.symm.trans h1
  have h2 := e2.symm.trans h2
  cases e : endI st st' M1 M p fun s2 s => (s2, s) with
  | none => rw [e] at h1; cases h1
  | some q =>
    rw [e] at h1 h2
    have h1 : a q.1 q.2 = x := Option.some.inj h1
    have h2 : b q.1 q.2 = y := Option.some.inj h2
    show some (a q.1 q.2, b q.1 q.2) = _
    rw [h1, h2]
def RunA (r : OpenRow) (M1 M : Nat) (w : World) : Prop :=
  endI (stepQ (denQ tabQ) r.prog w) (stepQ (denQ tabQ) (opening r.prog) w) M1 M r.prog (fun s2 s => looksI r.prog s2 s.abs) = some true
def RunB (r : OpenRow) (q : Program) (M1 M : Nat) (loose : List PySem.Str) (w : World) : Prop :=
  endI (stepQ (denQ tabQ) r.prog w) (stepQ (denQ tabQ) (opening r.prog) w) M1 M r.prog (fun s2 s => seenQ q loose (importedModules r.prog.main.body) (fun s => xlAt q [] s && recOk r.toRowW.records s) s.abs) = some (openGood q loose)
def RunC {α : Type} (r : OpenRow) (ob : SharedT → α) (v : α) (M1 M : Nat) (w : World) : Prop :=
  endI (stepQ (denQ tabQ) r.prog w) (stepQ (denQ tabQ) (opening r.prog) w) M1 M r.prog (fun s2 s => ob s) = some v
theorem run_abc {r : OpenRow} {q : Program} {H : Hook} {ob : SharedT → H.α} {M1 M : Nat} {loose : List PySem.Str} {w : World} (a : RunA r M1 M w) (b : RunB r q M1 M loose w) (c : RunC r ob (H.val w) M1 M w) : RunI r q H ob M1 M loose w :=
  endI_two a (endI_two b c)
end HdI
end

-- HeadS2
section
set_option Elab.async false
set_option linter.all false
set_option maxRecDepth 100000
/-! what HeadS looks at, out of three kernel runs -/
namespace HdS
open PySem PySem.W PySem.Calls PyProof.Rows HandSHeadRun He HdB HdI
theorem run_c {r : OpenRow} {as : List Addr} {ck : List (PySem.W.Frag → Bool)} {fn1 fn2 : List DefD} {sn : List DefS} {pn : List DefP} {M1 M : Nat} {w : World}
    (h1 : RunC r (fun s => ck.all fun f => f (frG (getT s) as)) true M1 M w) (h2 : RunC r (fun s => obsD [] fn1 (frG (getT s) as)) (valD fn1) M1 M w) (h3 : RunC r (fun s => obS as [] fn2 sn pn s) (valS fn2 sn pn) M1 M w) :
    RunC r (fun s => obS as ck (fn1 ++ fn2) sn pn s) (valS (fn1 ++ fn2) sn pn) M1 M w := by
  unfold RunC at h1 h2 h3 ⊢
  have h := endI_two h1 (endI_two h2 h3)
  have e := endI_map (st := stepQ (denQ tabQ) r.prog w) (st' := stepQ (denQ tabQ) (opening r.prog) w) (M1 := M1) (M := M) (p := r.prog) (look := fun (s2 : Shared) (s : SharedT) => ((ck.all fun f => f (frG (getT s) as)), (obsD [] fn1 (frG (getT s) as), obS as [] fn2 sn pn s)))
    (g := fun q : Bool × (AlD × AlS) => (((q.1 && q.2.2.1.1, (q.2.1.1 && q.2.2.1.2.1, q.2.1.2 ++ q.2.2.1.2.2)), q.2.2.2) : AlS))
  rw [h] at e
  have f : (fun (s2 : Shared) (s : SharedT) => obS as ck (fn1 ++ fn2) sn pn s) = fun (s2 : Shared) (s : SharedT) => ((((ck.all fun f => f (frG (getT s) as)) && (obS as [] fn2 sn pn s).1.1, ((obsD [] fn1 (frG (getT s) as)).1 && (obS as [] fn2 sn pn s).1.2.1, (obsD [] fn1 (frG (getT s) as)).2 ++ (obS as [] fn2 sn pn s).1.2.2)), (obS as [] fn2 sn pn s).2) : AlS) := by
    funext s2 s
    unfold obS obsS obsB obsD
    simp only [List.all_nil, Bool.true_and, List.all_append, List.map_append, Bool.and_true]
  rw [f]
  refine e.trans ?_
  unfold valS valB valD
  simp only [Option.map_some, Bool.and_self, List.map_append]
end HdS
end

-- V98
section
set_option Elab.async false
set_option linter.all false
set_option maxRecDepth 100000
set_option maxHeartbeats 0
namespace V4
open PySem PySem.Spec PyProof.Rows L2 He HdB HdS OwnOps SupX StX
/-- the getter of a property -/
def pgX (K : PySem.W.Frag) (c x : Str) : Addr := match PySem.W.recIn K (maX K c x) "property" with
  | some (.ref g :: _) => g
  | _ => 0
def recB (K : PySem.W.Frag) (c x : Str) : Bool := match PySem.W.recIn K (maX K c x) "property" with
  | some (.ref _ :: _) => true
  | _ => false
theorem recB_ok {K : PySem.W.Frag} {c x : Str} (h : recB K c x = true) : ∃ rest, PySem.W.recIn K (maX K c x) "property" = some (.ref (pgX K c x) :: rest) := by
  unfold recB at h
  unfold pgX
  cases q : PySem.W.recIn K (maX K c x) "property" with
  | none => rw [q] at h; cases h
  | some l =>
    rw [q] at h
    cases l with
    | nil => cases h
    | cons v r => cases v with
      | ref g => exact ⟨r, rfl⟩
      | _ => cases h
/-- a class's constant, a whole number -/
def intAt (K : PySem.W.Frag) (C : Addr) (x : Str) (n : Int) : Bool := match PySem.W.findCls K (.ref C) (.type "type") x with
  | some (.val (.int i _)) => decide (i = n)
  | _ => false
theorem intAt_ok {K : PySem.W.Frag} {C : Addr} {x : Str} {n : Int} (h : intAt K C x n = true) : ∃ t, PySem.W.findCls K (.ref C) (.type "type") x = some (.val (.int n t)) := by
  unfold intAt at h
  split at h
  · rename_i i t e
    rw [e, of_decide_eq_true h]
    exact ⟨t, rfl⟩
  · cases h
/-- a class of kinds, all that is asked of it -/
structure KB (K : PySem.W.Frag) (C DK tp gE CP f gK DX : Addr) : Prop where
  pg : PySem.W.plainGet K C Str.empty = true
  hd : PySem.W.hasDictIn K C = true
  po : PySem.W.plainOver K C = true
  sa : PySem.W.findIn K (.ref C) "__setattr__" = some (some (.builtin "object.__setattr__"))
  n1 : PySem.W.findIn K (.ref C) "name" = some none
  n2 : PySem.W.findIn K (.ref C) "pins" = some none
  n3 : PySem.W.findIn K (.ref C) "controls" = some none
  n4 : PySem.W.findIn K (.ref C) "is_path" = some none
  n5 : PySem.W.findIn K (.ref C) "orders" = some none
  n6 : PySem.W.findIn K (.ref C) "_line" = some none
  n7 : PySem.W.findIn K (.ref C) "_groups" = some none
  n8 : PySem.W.findIn K (.ref C) "_rules" = some none
  tx : PySem.W.findIn K (.ref C) "text" = some (some (.ref tp))
  ha : PySem.W.findIn K (.ref C) "__class__" = some (some (.builtin "object.__class__"))
  hm : PySem.W.mroIn K C (.type "object") = some true
  kK : PySem.W.kitOne K (.ref C) (.ref DK) = some true
  eq : PySem.W.findIn K (.ref C) "__eq__" = some (some (.ref gE))
  ne : PySem.W.findIn K (.ref C) "__ne__" = some (some (.builtin "object.__ne__"))
  nf : PySem.W.notFirst K C (.ref C) = true
  mks : PySem.W.makesIn K C = true
  kp : PySem.W.keepIn K (.ref C) = true
  ini : PySem.W.findIn K (.ref C) "__init__" = some (some (.ref f))
  fi : PySem.W.isFn K (.ref f) = true
  so : SupAt K C DX "__init__" gK
/-- what isinstance asks of an error -/
structure KG (K : PySem.W.Frag) (C : Addr) : Prop where
  ic : PySem.W.isClsIn K C = true
  ga : PySem.W.findIn K (.ref C) "__getattribute__" = some (some (.builtin "BaseException.__getattribute__"))
  gg : PySem.W.findIn K (.ref C) "__getattr__" = some none
  ex : PySem.W.subIn K (.ref C) (.type "BaseException") = some true
  ha : PySem.W.findIn K (.ref C) "__class__" = some (some (.builtin "object.__class__"))
  hm : PySem.W.mroIn K C (.type "object") = some true
instance {K : PySem.W.Frag} {C DK tp gE CP f gK DX : Addr} : Decidable (KB K C DK tp gE CP f gK DX) := decidable_of_iff ((PySem.W.plainGet K C Str.empty = true) ∧ (PySem.W.hasDictIn K C = true) ∧ (PySem.W.plainOver K C = true) ∧ (PySem.W.findIn K (.ref C) "__setattr__" = some (some (.builtin "object.__setattr__"))) ∧ (PySem.W.findIn K (.ref C) "name" = some none) ∧ (PySem.W.findIn K (.ref C) "pins" = some none) ∧ (PySem.W.findIn K (.ref C) "controls" = some none) ∧ (PySem.W.findIn K (.ref C) "is_path" = some none) ∧ (PySem.W.findIn K (.ref C) "orders" = some none) ∧ (PySem.W.findIn K (.ref C) "_line" = some none) ∧ (PySem.W.findIn K (.ref C) "_groups" = some none) ∧ (PySem.W.findIn K (.ref C) "_rules" = some none) ∧ (PySem.W.findIn K (.ref C) "text" = some (some (.ref tp))) ∧ (PySem.W.findIn K (.ref C) "__class__" = some (some (.builtin "object.__class__"))) ∧ (PySem.W.mroIn K C (.type "object") = some true) ∧ (PySem.W.kitOne K (.ref C) (.ref DK) = some true) ∧ (PySem.W.findIn K (.ref C) "__eq__" = some (some (.ref gE))) ∧ (PySem.W.findIn K (.ref C) "__ne__" = some (some (.builtin "object.__ne__"))) ∧ (PySem.W.notFirst K C (.ref C) = true) ∧ (PySem.W.makesIn K C = true) ∧ (PySem.W.keepIn K (.ref C) = true) ∧ (PySem.W.findIn K (.ref C) "__init__" = some (some (.ref f))) ∧ (PySem.W.isFn K (.ref f) = true) ∧ (SupAt K C DX "__init__" gK))
  ⟨fun ⟨pg_, hd_, po_, sa_, n1_, n2_, n3_, n4_, n5_, n6_, n7_, n8_, tx_, ha_, hm_, kK_, eq_, ne_, nf_, mks_, kp_, ini_, fi_, so_⟩ => ⟨pg_, hd_, po_, sa_, n1_, n2_, n3_, n4_, n5_, n6_, n7_, n8_, tx_, ha_, hm_, kK_, eq_, ne_, nf_, mks_, kp_, ini_, fi_, so_⟩, fun ⟨pg_, hd_, po_, sa_, n1_, n2_, n3_, n4_, n5_, n6_, n7_, n8_, tx_, ha_, hm_, kK_, eq_, ne_, nf_, mks_, kp_, ini_, fi_, so_⟩ => ⟨pg_, hd_, po_, sa_, n1_, n2_, n3_, n4_, n5_, n6_, n7_, n8_, tx_, ha_, hm_, kK_, eq_, ne_, nf_, mks_, kp_, ini_, fi_, so_⟩⟩
instance {K : PySem.W.Frag} {C : Addr} : Decidable (KG K C) := decidable_of_iff ((PySem.W.isClsIn K C = true) ∧ (PySem.W.findIn K (.ref C) "__getattribute__" = some (some (.builtin "BaseException.__getattribute__"))) ∧ (PySem.W.findIn K (.ref C) "__getattr__" = some none) ∧ (PySem.W.subIn K (.ref C) (.type "BaseException") = some true) ∧ (PySem.W.findIn K (.ref C) "__class__" = some (some (.builtin "object.__class__"))) ∧ (PySem.W.mroIn K C (.type "object") = some true))
  ⟨fun ⟨ic_, ga_, gg_, ex_, ha_, hm_⟩ => ⟨ic_, ga_, gg_, ex_, ha_, hm_⟩, fun ⟨ic_, ga_, gg_, ex_, ha_, hm_⟩ => ⟨ic_, ga_, gg_, ex_, ha_, hm_⟩⟩
abbrev Fc0 (K : PySem.W.Frag) : Prop := KB K (gaX K "BlockKind") (gaX K "Kind") (maX K "BlockKind" "text") (maX K "Kind" "__eq__") (gaX K "BlockKind") (maX K "BlockKind" "__init__") (maX K "Kind" "__init__") (gaX K "BlockKind")
abbrev Fc1 (K : PySem.W.Frag) : Prop := KB K (gaX K "PinKind") (gaX K "Kind") (maX K "Kind" "text") (maX K "Kind" "__eq__") (gaX K "PinKind") (maX K "PinKind" "__init__") (maX K "Kind" "__init__") (gaX K "PinKind")
abbrev Fc2 (K : PySem.W.Frag) : Prop := PySem.W.nsIn K mainGlobals "BlockKind" = some (some (.ref (gaX K "BlockKind")))
abbrev Fc3 (K : PySem.W.Frag) : Prop := PySem.W.nsIn K mainGlobals "PinKind" = some (some (.ref (gaX K "PinKind")))
abbrev Fc4 (K : PySem.W.Frag) : Prop := PySem.W.nsIn K mainGlobals "Kind" = some (some (.ref (gaX K "Kind")))
abbrev Fc5 (K : PySem.W.Frag) : Prop := PySem.W.nsIn K mainGlobals "WireError" = some (some (.ref (gaX K "WireError")))
abbrev Fc6 (K : PySem.W.Frag) : Prop := PySem.W.nsIn K mainGlobals "Book" = some (some (.ref (gaX K "Book")))
abbrev Fc7 (K : PySem.W.Frag) : Prop := PySem.W.specialIn K (.ref (maX K "Kind" "text")) "__get__" = some (some (.builtin "property.__get__")) ∧ PySem.W.takesIn K (.ref (maX K "Kind" "text")) = some true
abbrev Fc8 (K : PySem.W.Frag) : Prop := PySem.W.specialIn K (.ref (maX K "BlockKind" "text")) "__get__" = some (some (.builtin "property.__get__")) ∧ PySem.W.takesIn K (.ref (maX K "BlockKind" "text")) = some true
abbrev Fc9 (K : PySem.W.Frag) : Prop := recB K "Kind" "text" = true
abbrev Fc10 (K : PySem.W.Frag) : Prop := recB K "BlockKind" "text" = true
abbrev Fc11 (K : PySem.W.Frag) : Prop := PySem.W.specialIn K (.builtin "object.__class__") "__get__" = some (some (.builtin "getset_descriptor.__get__"))
abbrev Fc12 (K : PySem.W.Frag) : Prop := PySem.W.takesIn K (.builtin "object.__class__") = some true
abbrev Fc13 (K : PySem.W.Frag) : Prop := ∀ T ∈ (["str", "NoneType"] : List String), PySem.W.kitOne K (.type T) (.ref (gaX K "Kind")) = some false
abbrev Fc14 (K : PySem.W.Frag) : Prop := PySem.W.isFn K (.ref (maX K "Kind" "__eq__")) = true
abbrev Fc15 (K : PySem.W.Frag) : Prop := PySem.W.notFirst K (gaX K "BlockKind") (.ref (gaX K "PinKind")) = true
abbrev Fc16 (K : PySem.W.Frag) : Prop := PySem.W.notFirst K (gaX K "BlockKind") (.type "str") = true
abbrev Fc17 (K : PySem.W.Frag) : Prop := PySem.W.findIn K (.ref (gaX K "BlockKind")) "exchanges" = some (some (.ref (maX K "BlockKind" "exchanges"))) ∧ PySem.W.isFn K (.ref (maX K "BlockKind" "exchanges")) = true ∧ PySem.W.keepIn K (.ref (maX K "BlockKind" "exchanges")) = true
abbrev Fc18 (K : PySem.W.Frag) : Prop := PySem.W.typeIn K (.ref (maX K "Kind" "__init__")) = some (.type "function") ∧ PySem.W.fnIn K (maX K "Kind" "__init__") = true
abbrev Fc19 (K : PySem.W.Frag) : Prop := PySem.W.nsIn K mainGlobals "super" = some none
abbrev Fc20 (K : PySem.W.Frag) : Prop := PySem.W.nsIn K cStatics "thirdparty.any" = some none
abbrev Fc21 (K : PySem.W.Frag) : Prop := (PySem.W.clsIn K (gaX K "PinKind")).isSome = true
abbrev Fc22 (K : PySem.W.Frag) : Prop := (PySem.W.clsIn K (gaX K "BlockKind")).isSome = true
abbrev Fc23 (K : PySem.W.Frag) : Prop := (Fa.int "WORD_SIGNS" 12).ok K = true
abbrev Fc24 (K : PySem.W.Frag) : Prop := (Fa.int "MOST_PINS" 6).ok K = true
abbrev Fc25 (K : PySem.W.Frag) : Prop := (Fa.int "MOST_CONTROLS" 3).ok K = true
abbrev Fc26 (K : PySem.W.Frag) : Prop := (match K.lookup (kwAd K (maX K "PinKind" "__init__") "swaps") with | some ⟨.type "tuple", _, .seq its _, _⟩ => its.size == 0 | _ => false) = true
abbrev Fc27 (K : PySem.W.Frag) : Prop := PySem.W.readsIn K (gaX K "Book") (.type "type") = true ∧ PySem.W.specialIn K (.ref (gaX K "Book")) "__getattribute__" = some (some (.builtin "type.__getattribute__"))
abbrev Fc28 (K : PySem.W.Frag) : Prop := intAt K (gaX K "Book") "PORTS" 5 = true
abbrev Fc29 (K : PySem.W.Frag) : Prop := PySem.W.kitOne K (.ref (gaX K "InvalidName")) (.ref (gaX K "WireError")) = some true
abbrev Fc30 (K : PySem.W.Frag) : Prop := PySem.W.kitOne K (.ref (gaX K "InvalidKind")) (.ref (gaX K "WireError")) = some true
abbrev Fc31 (K : PySem.W.Frag) : Prop := PySem.W.exmOne K (.ref (gaX K "InvalidKind")) (.ref (gaX K "InvalidName")) = some false
abbrev Fc32 (K : PySem.W.Frag) : Prop := KG K (gaX K "InvalidName")
abbrev Fc33 (K : PySem.W.Frag) : Prop := KG K (gaX K "InvalidKind")
abbrev Fc34 (K : PySem.W.Frag) : Prop := ErrB K (gaX K "InvalidKind") (maX K "InvalidKind" "__init__") "InvalidKind" [.type "ValueError", .type "Exception", .type "BaseException", .type "object"] "ValueError.__new__"
abbrev Fc35 (K : PySem.W.Frag) : Prop := ErrB K (gaX K "InvalidName") (maX K "InvalidName" "__init__") "InvalidName" [.type "ValueError", .type "Exception", .type "BaseException", .type "object"] "ValueError.__new__"
abbrev Fc36 (K : PySem.W.Frag) : Prop := PySem.W.nsIn K mainGlobals "is_word" = some (some (.ref (gaX K "is_word")))
abbrev Fc37 (K : PySem.W.Frag) : Prop := PySem.W.nsIn K mainGlobals "are_different_words" = some (some (.ref (gaX K "are_different_words")))
abbrev Fc38 (K : PySem.W.Frag) : Prop := PySem.W.nsIn K mainGlobals "_are_groups" = some (some (.ref (gaX K "_are_groups")))
abbrev Fc39 (K : PySem.W.Frag) : Prop := PySem.W.nsIn K mainGlobals "_mates" = some (some (.ref (gaX K "_mates")))
abbrev Fc40 (K : PySem.W.Frag) : Prop := PySem.W.nsIn K mainGlobals "_orders" = some (some (.ref (gaX K "_orders")))
abbrev Fc41 (K : PySem.W.Frag) : Prop := PySem.W.nsIn K mainGlobals "_worded" = some (some (.ref (gaX K "_worded")))
abbrev Fc42 (K : PySem.W.Frag) : Prop := PySem.W.nsIn K mainGlobals "_law_pool" = some (some (.ref (gaX K "_law_pool")))
abbrev Fc43 (K : PySem.W.Frag) : Prop := PySem.W.nsIn K mainGlobals "_law_next" = some (some (.ref (gaX K "_law_next")))
abbrev Fc44 (K : PySem.W.Frag) : Prop := PySem.W.nsIn K mainGlobals "_law_text" = some (some (.ref (gaX K "_law_text")))
abbrev Fc45 (K : PySem.W.Frag) : Prop := PySem.W.nsIn K mainGlobals "_law_is_word" = some (some (.ref (gaX K "_law_is_word")))
abbrev Fc46 (K : PySem.W.Frag) : Prop := PySem.W.nsIn K mainGlobals "_law_made" = some (some (.ref (gaX K "_law_made")))
abbrev Fc47 (K : PySem.W.Frag) : Prop := PySem.W.nsIn K mainGlobals "_law_told" = some (some (.ref (gaX K "_law_told")))
abbrev Fc48 (K : PySem.W.Frag) : Prop := PySem.W.nsIn K mainGlobals "_law_is_kind" = some (some (.ref (gaX K "_law_is_kind")))
abbrev Fc49 (K : PySem.W.Frag) : Prop := PySem.W.nsIn K mainGlobals "law" = some (some (.ref (gaX K "law")))
abbrev Fc50 (K : PySem.W.Frag) : Prop := PySem.W.nsIn K mainGlobals "isinstance" = some none
abbrev Fc51 (K : PySem.W.Frag) : Prop := PySem.W.nsIn K mainGlobals "int" = some none
abbrev Fc52 (K : PySem.W.Frag) : Prop := PySem.W.nsIn K mainGlobals "str" = some none
abbrev Fc53 (K : PySem.W.Frag) : Prop := PySem.W.nsIn K mainGlobals "len" = some none
abbrev Fc54 (K : PySem.W.Frag) : Prop := PySem.W.nsIn K mainGlobals "all" = some none
abbrev Fc55 (K : PySem.W.Frag) : Prop := PySem.W.nsIn K mainGlobals "set" = some none
abbrev Fc56 (K : PySem.W.Frag) : Prop := PySem.W.nsIn K mainGlobals "tuple" = some none
abbrev Fc57 (K : PySem.W.Frag) : Prop := PySem.W.nsIn K mainGlobals "list" = some none
abbrev Fc58 (K : PySem.W.Frag) : Prop := PySem.W.nsIn K mainGlobals "dict" = some none
abbrev Fc59 (K : PySem.W.Frag) : Prop := PySem.W.nsIn K mainGlobals "min" = some none
abbrev Fc60 (K : PySem.W.Frag) : Prop := PySem.W.nsIn K mainGlobals "max" = some none
abbrev Fc61 (K : PySem.W.Frag) : Prop := PySem.W.nsIn K mainGlobals "range" = some none
abbrev Fc62 (K : PySem.W.Frag) : Prop := PySem.W.nsIn K mainGlobals "enumerate" = some none
abbrev Fc63 (K : PySem.W.Frag) : Prop := PySem.W.nsIn K mainGlobals "zip" = some none
abbrev Fc64 (K : PySem.W.Frag) : Prop := PySem.W.nsIn K mainGlobals "sorted" = some none
abbrev Fc65 (K : PySem.W.Frag) : Prop := PySem.W.nsIn K mainGlobals "super" = some none
abbrev Fc66 (K : PySem.W.Frag) : Prop := PySem.W.nsIn K mainGlobals "repr" = some none
def ck : List (PySem.W.Frag → Bool) := [fun K => decide (Fc0 K), fun K => decide (Fc1 K), fun K => decide (Fc2 K), fun K => decide (Fc3 K), fun K => decide (Fc4 K), fun K => decide (Fc5 K), fun K => decide (Fc6 K), fun K => decide (Fc7 K), fun K => decide (Fc8 K), fun K => decide (Fc9 K), fun K => decide (Fc10 K), fun K => decide (Fc11 K), fun K => decide (Fc12 K), fun K => decide (Fc13 K), fun K => decide (Fc14 K), fun K => decide (Fc15 K), fun K => decide (Fc16 K), fun K => decide (Fc17 K), fun K => decide (Fc18 K), fun K => decide (Fc19 K), fun K => decide (Fc20 K), fun K => decide (Fc21 K), fun K => decide (Fc22 K), fun K => decide (Fc23 K), fun K => decide (Fc24 K), fun K => decide (Fc25 K), fun K => decide (Fc26 K), fun K => decide (Fc27 K), fun K => decide (Fc28 K), fun K => decide (Fc29 K), fun K => decide (Fc30 K), fun K => decide (Fc31 K), fun K => decide (Fc32 K), fun K => decide (Fc33 K), fun K => decide (Fc34 K), fun K => decide (Fc35 K), fun K => decide (Fc36 K), fun K => decide (Fc37 K), fun K => decide (Fc38 K), fun K => decide (Fc39 K), fun K => decide (Fc40 K), fun K => decide (Fc41 K), fun K => decide (Fc42 K), fun K => decide (Fc43 K), fun K => decide (Fc44 K), fun K => decide (Fc45 K), fun K => decide (Fc46 K), fun K => decide (Fc47 K), fun K => decide (Fc48 K), fun K => decide (Fc49 K), fun K => decide (Fc50 K), fun K => decide (Fc51 K), fun K => decide (Fc52 K), fun K => decide (Fc53 K), fun K => decide (Fc54 K), fun K => decide (Fc55 K), fun K => decide (Fc56 K), fun K => decide (Fc57 K), fun K => decide (Fc58 K), fun K => decide (Fc59 K), fun K => decide (Fc60 K), fun K => decide (Fc61 K), fun K => decide (Fc62 K), fun K => decide (Fc63 K), fun K => decide (Fc64 K), fun K => decide (Fc65 K), fun K => decide (Fc66 K)]
def fn1 : List He.DefD := [gD "is_word" (top 6),
  gD "are_different_words" (top 8),
  gD "_are_groups" (top 34),
  gD "_mates" (top 35),
  gD "_orders" (top 36),
  gD "_worded" (top 38),
  gD "_law_pool" (top 72),
  gD "_law_next" (top 73),
  gD "_law_text" (top 74),
  gD "_law_is_word" (top 75),
  gD "_law_made" (top 76)]
def fn2 : List He.DefD := [gD "_law_told" (top 77),
  gD "_law_is_kind" (top 78),
  gD "law" (top 79),
  mD "Kind" "__init__" "Kind.__init__" (inClass (top 31) 1),
  mD "Kind" "__eq__" "Kind.__eq__" (inClass (top 31) 5),
  mD "BlockKind" "exchanges" "BlockKind.exchanges" (inClass (top 58) 2),
  mD "InvalidKind" "__init__" "InvalidKind.__init__" (inClass (top 15) 0),
  mD "InvalidName" "__init__" "InvalidName.__init__" (inClass (top 16) 0)]
def fn : List He.DefD := fn1 ++ fn2
def PFILE : Str := (PySem.Challenge.rw_wishedwires_k74_block_kinds).prog.main.file
def sn : List DefS := [⟨("PinKind", some "__init__"), "__init__", "PinKind.__init__", defArgs (inClass (top 32) 0), defBody (inClass (top 32) 0), defScope (inClass (top 32) 0), [("swaps", false)], "PinKind", PFILE⟩,
  ⟨("BlockKind", some "__init__"), "__init__", "BlockKind.__init__", defArgs (inClass (top 58) 0), defBody (inClass (top 58) 0), defScope (inClass (top 58) 0), [], "BlockKind", PFILE⟩]
def pn : List DefP := [⟨fun K => pgX K "Kind" "text", "text", "Kind.text", defArgs (inClass (top 31) 4), defBody (inClass (top 31) 4), defScope (inClass (top 31) 4)⟩,
  ⟨fun K => pgX K "BlockKind" "text", "text", "BlockKind.text", defArgs (inClass (top 58) 1), defBody (inClass (top 58) 1), defScope (inClass (top 58) 1)⟩]
abbrev RW0 : PySem.W.OpenRow := PySem.W.OpenLaw.row PySem.Challenge.rw_wishedwires_k74_block_kinds
def names : List PySem.Str := (["gcd", "_wall", "WORD_SIGNS", "NAME_WORDS", "is_whole", "is_word", "is_name", "are_different_words", "are_names", "is_net_map", "WireError", "InvalidBlock", "InvalidCircuit", "InvalidKind", "InvalidName", "InvalidNumber", "InvalidPins", "NotPositive", "LimitExceeded", "NameInUse", "UnknownName", "NoDivision", "Ratio", "value_of", "_as_ratio", "MOST_PINS", "MOST_CONTROLS", "Kind", "PinKind", "PathKind"] : List PySem.Str) ++ (["_are_groups", "_mates", "_orders", "_path_line", "_worded", "Part", "_fitting", "Circuit", "_checked_ports", "_copied_parts", "_copy_of", "copy_of_circuits", "_check_kinds", "_parts_by_names", "_nets_of", "_joints", "_check_names_apart", "_joined_ports", "_moved_parts", "_check_part_names", "_circuit_of", "BlockKind", "Block", "Book", "copy_of_blocks", "_with_block", "_fits", "_is_instance", "_begins_with_one", "_kinds_fit"] : List PySem.Str) ++ (["_all_used", "_by_depth", "_merged", "_law_pool", "_law_next", "_law_text", "_law_is_word", "_law_made", "_law_told", "_law_is_kind"] : List PySem.Str)
def as : List Addr := 3 :: 2 :: List.range' 11 1589
abbrev hk : PySem.W.Hook := hookS as ck fn sn pn
def ob (s : PySem.W.SharedT) : AlS := obS as ck fn sn pn s
theorem ob_eq (s : PySem.W.SharedT) : ob s = hk.obs s.abs := obS_eq as ck fn sn pn s
theorem runA (w : World) : HdI.RunA RW0 3000 20000 w := by
  unfold HdI.RunA; kernel_rfl
theorem runB (w : World) : HdI.RunB RW0 (PySem.W.view RW0.prog [79]) 3000 20000 names w := by
  unfold HdI.RunB; kernel_rfl
theorem runC1 (w : World) : HdI.RunC RW0 (fun s => ck.all fun f => f (He.frG (HandSHeadRun.getT s) as)) true 3000 20000 w := by
  unfold HdI.RunC; kernel_rfl
theorem runC2 (w : World) : HdI.RunC RW0 (fun s => He.obsD [] fn1 (He.frG (HandSHeadRun.getT s) as)) (He.valD fn1) 3000 20000 w := by
  unfold HdI.RunC; kernel_rfl
theorem runC3 (w : World) : HdI.RunC RW0 (fun s => obS as [] fn2 sn pn s) (valS fn2 sn pn) 3000 20000 w := by
  unfold HdI.RunC; kernel_rfl
theorem runC (w : World) : HdI.RunC RW0 ob (hk.val w) 3000 20000 w := HdS.run_c (runC1 w) (runC2 w) (runC3 w)
theorem run (w : World) : HdI.RunI RW0 (PySem.W.view RW0.prog [79]) hk ob 3000 20000 names w := HdI.run_abc (runA w) (runB w) (runC w)
end V4
end

-- WalkIt
section
set_option Elab.async false
set_option linter.all false
set_option maxRecDepth 100000
namespace G1
open PySem L2 OwnOps
theorem pg_two {X : Cx} {i j : Nat} {x y : Str} {p1 p2 pos : Pos} {kk : Nat} (hc : X.calm = true) (hN : X.N.Nodup) (hi : X.N[i]? = some x) (hx : Loc X.env.scope x) (hj : X.N[j]? = some y) (hy : Loc X.env.scope y)
    (hf : X.fn x = true ∨ X.env.scope.names.lookup x = some .local := by first | exact .inl rfl | exact .inr rfl) (hg : X.fn y = true ∨ X.env.scope.names.lookup y = some .local := by first | exact .inl rfl | exact .inr rfl) :
    PG X (.Tuple [.Name x p1, .Name y p2] kk pos) (gTup X.K 2 (gCons (gName i) (gCons (gName j) gNil))) := pg_tup hc (pgs_cons (pg_name (i := i) hN hi hx hf) (pgs_cons (pg_name (i := j) hN hj hy hg) pgs_nil))
/-- a walk, whatever its turn is -/
theorem walk_it {J : It} {n : Nat} {G : Hp → Prop} {Y : Nat → Hp → V → Hp → Prop} (w : Walk J n G Y) {turn : V → Hp → (Hp → Prop) → Prop} {Fin : Hp → Prop} {H0 : Hp} (Pv : Nat → Hp → Prop) (h0 : Pv 0 H0) (hG : ∀ i H, i ≤ n → Pv i H → G H)
    (hs : ∀ i x H H', i < n → Pv i H → Y i H x H' → turn x H' (Pv (i + 1))) (hd : ∀ H, Pv n H → Fin H) :
    ∃ W : Nat → Nat → Hp → Prop, (∃ m, W 0 m H0) ∧ ∀ i m H, W i m H → (J.stop i H ∧ Fin H) ∨ (J.go i H ∧ ∃ Nx : Hp → Prop, (∀ H', Nx H' → ∃ m', m' < m ∧ W (i + 1) m' H') ∧ ∀ x H', J.yld i H x H' → turn x H' Nx) := by
  refine ⟨fun i m H => m + i = n ∧ Pv i H, ⟨n, rfl, h0⟩, fun i m H ⟨e, p⟩ => ?_⟩
  have q := hG i H (by omega) p
  by_cases lt : i < n
  · exact .inr ⟨w.goes i H lt q, Pv (i + 1), fun H' p' => ⟨m - 1, by omega, by omega, p'⟩, fun x H' y => hs i x H H' lt p (w.yields i H x H' lt q y)⟩
  · cases (show i = n by omega)
    exact .inl ⟨w.stops H q, hd H p⟩
theorem same_unlock {H G : Hp} {d : Addr} {u : HO} {od : Obj} (hd : H d = some u) (s : Same (upd H d (.frz od u)) G) : G d = some (.frz od u) ∧ Same H (upd G d u) := by
  refine ⟨s _ _ upd_same, fun b o e => ?_⟩
  by_cases h : b = d
  · subst h
    rw [hd] at e
    cases e
    exact upd_same
  · rw [upd_ne h]
    exact s b o (by rw [upd_ne h]; exact e)
theorem rd_lock {H : Hp} {d a : Addr} {u v : HO} {od : Obj} (hd : H d = some u) (m : Mut (some u)) (r : Rd H a v) : Rd (upd H d (.frz od u)) a v := by
  by_cases h : a = d
  · subst h
    rcases r with r | ⟨o, r⟩
    · rw [hd] at r
      cases r
      exact .inr ⟨od, upd_same⟩
    · rw [hd] at r
      cases r
      exact m.elim
  · rcases r with r | ⟨o, r⟩
    · exact .inl (by rw [upd_ne h]; exact r)
    · exact .inr ⟨o, by rw [upd_ne h]; exact r⟩
theorem SameX.none {p x : Addr} {H G : Hp} {u : HO} (s : SameX p H G) (hp : G p = some u) (h : G x = none) : H x = none := by
  cases e : H x with
  | none => rfl
  | some o =>
    by_cases n : x = p
    · subst n
      rw [hp] at h
      cases h
    · rw [s x o n e] at h
      cases h
theorem Same.none {x : Addr} {H G : Hp} (s : Same H G) (h : G x = none) : H x = none := by
  cases e : H x with
  | none => rfl
  | some o =>
    rw [s x o e] at h
    cases h
end G1
end

-- V4b
section
set_option Elab.async false
set_option linter.all false
set_option maxRecDepth 100000
namespace V4
open PySem L2 OwnOps OwnNe G1 StX
def difV (xs : List V) : Bool := xs.all wdV && decide xs.Nodup
/-- a list or a tuple, as it stands -/
def LT (K : PySem.W.Frag) (H : Hp) (a : Addr) (xs : List V) : Prop := SqL K H a xs ∨ SqT K H a xs
theorem texts_of : ∀ {xs : List V}, xs.all wdV = true → ∃ zs : List Str, xs = zs.map V.str
  | [], _ => ⟨[], rfl⟩
  | x :: xs, h => by
    rw [List.all_cons, Bool.and_eq_true] at h
    obtain ⟨zs, e⟩ := texts_of h.2
    cases x with
    | str z => exact ⟨z :: zs, by rw [e]; rfl⟩
    | _ => exact absurd h.1 (by simp [wdV])
theorem nodup_str {zs : List Str} : (zs.map V.str).Nodup ↔ zs.Nodup := by
  constructor
  · intro h
    exact List.Pairwise.of_map V.str (fun a b ne e => ne (by rw [e])) h
  · intro h
    exact List.Pairwise.map V.str (fun a b ne e => ne (V.str.inj e)) h
theorem cnt_is (zs : List Str) : decide ((SetStr.cnt zs zs.length : Int) = zs.length) = decide zs.Nodup := by
  by_cases h : zs.Nodup
  · rw [SetStr.cnt_nodup h _ (Nat.le_refl _), decide_eq_true h, decide_eq_true rfl]
  · rw [decide_eq_false h]
    have : ∃ i j, i < j ∧ j < zs.length ∧ zs.getD i Str.empty = zs.getD j Str.empty := by
      apply Classical.byContradiction
      intro q
      apply h
      rw [List.nodup_iff_pairwise_ne, List.pairwise_iff_getElem]
      intro i j hi hj hij e
      refine q ⟨i, j, hij, hj, ?_⟩
      rw [List.getD_eq_getElem?_getD, List.getD_eq_getElem?_getD, List.getElem?_eq_getElem hi, List.getElem?_eq_getElem hj, e]
    obtain ⟨i, j, hij, hj, e⟩ := this
    have := SetStr.cnt_bad hij hj e zs.length hj
    exact decide_eq_false (by omega)
theorem take_succ_at {α : Type} {xs : List α} {i : Nat} {x : α} (h : xs[i]? = some x) : xs.take (i + 1) = xs.take i ++ [x] := by
  rw [List.take_add_one, h]
  rfl
theorem Same.tupS {K : PySem.W.Frag} {H H' : Hp} {a : Addr} {xs : List V} (e : Same H H') (h : SqT K H a xs) : SqT K H' a xs := by
  rcases h with h | h
  · rcases h with h | ⟨o, h⟩
    · exact .inl (.inl (e _ _ h))
    · exact .inl (.inr ⟨o, e _ _ h⟩)
  · exact .inr h
section
variable {P : Program} {w : World} {K : PySem.W.Frag} {mg : Str → Option Value} {base : Heap}
def spDiff (K : PySem.W.Frag) : Sp := fun vs H Q _ => ∃ a xs, vs = [.ref a] ∧ LT K H a xs ∧ xs.length ≤ 100 ∧ (∀ x ∈ xs, Av H x ∧ Shr x) ∧ ∀ H', Same H H' → Q (.bl (difV xs)) H'
theorem ok_diff {f : Addr} {fd : FuncData} (F : Fun K "are_different_words" "are_different_words" sDiff f fd) (T : Bi mg) (GW : Glb P w K mg base "is_word" 1 ["value"] spWord) : FnOk P w K mg base (L2.CX P w) 2 f fd ["values"] (spDiff K) := by
  obtain ⟨_, _, mW, kW, GW, bW⟩ := GW.ex
  have sc : FnScope ["values", "value"] ["values"] (defScope sDiff) := ⟨rfl, rfl, rfl, by decide +kernel, rfl, by decide +kernel, by decide +kernel⟩
  have hN := sc.nd
  refine F.okX sc (fun vs H Q E h => ?_) (fun cdv A outer s H vs Q E hr h => ?_)
  · obtain ⟨a, xs, rfl, _⟩ := h
    rfl
  · obtain ⟨a, xs, rfl, hS, few, av, fin⟩ := h
    rcases hS with hS | hS
    · refine ⟨_, pss_one (ps_ret (pe_and (pe_callB (cr_all rfl) (by rfl) T.all (by decide +kernel) (pa_cons (pe_lc (own := [("value", 1)]) (g := gName 1) (tt := tYes) (te := tCall spWord [] E0 (tCons (tVar 1) tNil)) rfl hN (pi_list (pv 0)) (blkOk_by (N := ["values", "value"]) (sc := defScope sDiff) (by decide +kernel)) (fun _ _ _ _ _ => pg_name (i := 1) hN rfl (Or.inl rfl)) (fun _ _ _ _ _ => pts_nil)
          (fun _ _ _ _ _ => pe_call GW (hr.mono (by decide)) (by rfl) mW kW bW .nil passL (pa_cons (pv 1) pa_nil))) pa_nil))
        (pe_one (pe_cmpR op_eq (SetStr.pe_lenT (by rfl) T.len (by rfl) T.set (pv 0)) (pe_callB call_len_seq (by rfl) T.len PySem.boot_len (pa_cons (pv 0) pa_nil)) (nomark _))))), ?_⟩
      refine ⟨_, rfl, a, rfl, ⟨xs, hS⟩, fun D hD => lc_it (walk_list (xs := xs) (a := a) (K := K)) (fun i G => Same H G ∧ ∃ at_, G D = some (.lst at_) ∧ at_ = (xs.take i).map fun v => V.bl (wdV v)) ⟨same_upd hD, [], upd_same, rfl⟩ (fun i G hi g => g.1.seq hS) (fun i x G G' hi g y => ?_) (fun G g => ?_)⟩
      · obtain ⟨rfl, hx⟩ := y
        obtain ⟨sm, at_, hD2, rfl⟩ := g
        refine ⟨rfl, _, rfl, ?_⟩
        obtain ⟨ax, sx⟩ := av x (List.mem_of_getElem? hx)
        exact ⟨x, rfl, ax.same sm, sx, _, hD2, by rw [List.length_map, List.length_take]; exact small1000 (by omega), same_put sm hD, _, upd_same, by rw [take_succ_at hx, List.map_append]; rfl⟩
      · obtain ⟨sm, at_, hD2, rfl⟩ := g
        rw [List.take_length] at hD2
        have e0 : xs.map (fun v => V.bl (wdV v)) = (xs.map wdV).map V.bl := by rw [List.map_map]; rfl
        rw [e0] at hD2
        have ea : ((xs.map wdV).all id) = xs.all wdV := by rw [List.all_map]; rfl
        refine ⟨D, xs.map wdV, rfl, SqL.of hD2, _, rfl, ?_⟩
        cases b : xs.all wdV with
        | false =>
          refine if_neg' (by rw [ea, b]) ?_
          have z := fin G sm
          unfold difV at z
          rw [b] at z
          exact z
        | true =>
          refine if_pos' (by rw [ea, b]) ?_
          obtain ⟨zs, rfl⟩ := texts_of b
          refine ⟨_, rfl, a, zs, rfl, .inl (sm.seq hS), by rw [List.length_map] at few; omega, _, rfl, a, _, rfl, .inl (sm.seq hS), rfl, ?_⟩
          have z := fin G sm
          unfold difV at z
          rw [b, Bool.true_and] at z
          have e2 : decide (V.int (SetStr.cnt zs zs.length : Int) = V.int ((zs.map V.str).length : Int)) = decide (zs.map V.str).Nodup := by
            rw [List.length_map, decide_eq_decide.mpr nodup_str, ← cnt_is]
            exact decide_eq_decide.mpr ⟨fun q => V.int.inj q, fun q => by rw [q]⟩
          show Q (.bl _) G
          rw [e2]
          exact z
    · refine ⟨_, pss_one (ps_ret (pe_and (pe_callB (cr_all rfl) (by rfl) T.all (by decide +kernel) (pa_cons (pe_lc (own := [("value", 1)]) (g := gName 1) (tt := tYes) (te := tCall spWord [] E0 (tCons (tVar 1) tNil)) rfl hN (pi_tup (pv 0)) (blkOk_by (N := ["values", "value"]) (sc := defScope sDiff) (by decide +kernel)) (fun _ _ _ _ _ => pg_name (i := 1) hN rfl (Or.inl rfl)) (fun _ _ _ _ _ => pts_nil)
          (fun _ _ _ _ _ => pe_call GW (hr.mono (by decide)) (by rfl) mW kW bW .nil passL (pa_cons (pv 1) pa_nil))) pa_nil))
        (pe_one (pe_cmpR op_eq (SetStr.pe_lenT (by rfl) T.len (by rfl) T.set (pv 0)) (pe_callB call_len_seq (by rfl) T.len PySem.boot_len (pa_cons (pv 0) pa_nil)) (nomark _))))), ?_⟩
      refine ⟨_, rfl, a, rfl, ⟨xs, hS⟩, fun D hD => lc_it (walk_tup (xs := xs) (a := a) (K := K)) (fun i G => Same H G ∧ ∃ at_, G D = some (.lst at_) ∧ at_ = (xs.take i).map fun v => V.bl (wdV v)) ⟨same_upd hD, [], upd_same, rfl⟩ (fun i G hi g => V4.Same.tupS g.1 hS) (fun i x G G' hi g y => ?_) (fun G g => ?_)⟩
      · obtain ⟨rfl, hx⟩ := y
        obtain ⟨sm, at_, hD2, rfl⟩ := g
        refine ⟨rfl, _, rfl, ?_⟩
        obtain ⟨ax, sx⟩ := av x (List.mem_of_getElem? hx)
        exact ⟨x, rfl, ax.same sm, sx, _, hD2, by rw [List.length_map, List.length_take]; exact small1000 (by omega), same_put sm hD, _, upd_same, by rw [take_succ_at hx, List.map_append]; rfl⟩
      · obtain ⟨sm, at_, hD2, rfl⟩ := g
        rw [List.take_length] at hD2
        have e0 : xs.map (fun v => V.bl (wdV v)) = (xs.map wdV).map V.bl := by rw [List.map_map]; rfl
        rw [e0] at hD2
        have ea : ((xs.map wdV).all id) = xs.all wdV := by rw [List.all_map]; rfl
        refine ⟨D, xs.map wdV, rfl, SqL.of hD2, _, rfl, ?_⟩
        cases b : xs.all wdV with
        | false =>
          refine if_neg' (by rw [ea, b]) ?_
          have z := fin G sm
          unfold difV at z
          rw [b] at z
          exact z
        | true =>
          refine if_pos' (by rw [ea, b]) ?_
          obtain ⟨zs, rfl⟩ := texts_of b
          refine ⟨_, rfl, a, zs, rfl, .inr (V4.Same.tupS sm hS), by rw [List.length_map] at few; omega, _, rfl, a, _, rfl, .inr (V4.Same.tupS sm hS), rfl, ?_⟩
          have z := fin G sm
          unfold difV at z
          rw [b, Bool.true_and] at z
          have e2 : decide (V.int (SetStr.cnt zs zs.length : Int) = V.int ((zs.map V.str).length : Int)) = decide (zs.map V.str).Nodup := by
            rw [List.length_map, decide_eq_decide.mpr nodup_str, ← cnt_is]
            exact decide_eq_decide.mpr ⟨fun q => V.int.inj q, fun q => by rw [q]⟩
          show Q (.bl _) G
          rw [e2]
          exact z
end
end V4
end

-- V4c
section
set_option Elab.async false
set_option linter.all false
set_option maxRecDepth 100000
namespace V4
open PySem L2 OwnOps OwnNe G1 StX
abbrev veT : List Value := [.type "ValueError", .type "Exception", .type "BaseException", .type "object"]
abbrev xd (v : V) : HO := .xd [(("given" : Str), v)]
/-- a class of kinds: its instances are plain, nothing of it is named as a field -/
structure KCls (K : PySem.W.Frag) (C : Addr) : Prop where
  cl : Cls K C
  n1 : NoAttr K C "name"
  n2 : NoAttr K C "pins"
  n3 : NoAttr K C "controls"
  n4 : NoAttr K C "is_path"
  n5 : NoAttr K C "orders"
  n6 : NoAttr K C "_line"
  n7 : NoAttr K C "_groups"
  n8 : NoAttr K C "_rules"
/-- the fields of a kind -/
def kf (nm pins ctl isp ords line : V) : List (Str × V) := [("name", nm), ("pins", pins), ("controls", ctl), ("is_path", isp), ("orders", ords), ("_line", line)]
theorem kf_put0 (nm pins ctl isp ords line : V) : putF "_line" line (putF "orders" ords (putF "is_path" isp (putF "controls" ctl (putF "pins" pins (putF "name" nm []))))) = kf nm pins ctl isp ords line := by kernel_rfl
section
variable (nm pins ctl isp ords line v : V)
theorem kf_pins (r : List (Str × V)) : putF "pins" v (kf nm pins ctl isp ords line ++ r) = kf nm v ctl isp ords line ++ r := by kernel_rfl
theorem kf_ctl (r : List (Str × V)) : putF "controls" v (kf nm pins ctl isp ords line ++ r) = kf nm pins v isp ords line ++ r := by kernel_rfl
theorem kf_isp (r : List (Str × V)) : putF "is_path" v (kf nm pins ctl isp ords line ++ r) = kf nm pins ctl v ords line ++ r := by kernel_rfl
theorem kf_ords (r : List (Str × V)) : putF "orders" v (kf nm pins ctl isp ords line ++ r) = kf nm pins ctl isp v line ++ r := by kernel_rfl
theorem kf_line (r : List (Str × V)) : putF "_line" v (kf nm pins ctl isp ords line ++ r) = kf nm pins ctl isp ords v ++ r := by kernel_rfl
theorem kp_pins : putF "pins" v (kf nm pins ctl isp ords line) = kf nm v ctl isp ords line := by kernel_rfl
theorem kp_ctl : putF "controls" v (kf nm pins ctl isp ords line) = kf nm pins v isp ords line := by kernel_rfl
theorem kp_isp : putF "is_path" v (kf nm pins ctl isp ords line) = kf nm pins ctl v ords line := by kernel_rfl
theorem kp_ords : putF "orders" v (kf nm pins ctl isp ords line) = kf nm pins ctl isp v line := by kernel_rfl
theorem kp_line : putF "_line" v (kf nm pins ctl isp ords line) = kf nm pins ctl isp ords v := by kernel_rfl
theorem kp_name' : (kf nm pins ctl isp ords line).lookup ("name" : Str) = some nm := by kernel_rfl
theorem kp_pins' : (kf nm pins ctl isp ords line).lookup ("pins" : Str) = some pins := by kernel_rfl
theorem kp_ctl' : (kf nm pins ctl isp ords line).lookup ("controls" : Str) = some ctl := by kernel_rfl
theorem kf_len : (kf nm pins ctl isp ords line).length = 6 := rfl
theorem kf_few : (kf nm pins ctl isp ords line).length < 1000 := by show 6 < 1000; decide
theorem kf_grp : putF "_groups" v (kf nm pins ctl isp ords line) = kf nm pins ctl isp ords line ++ [(("_groups" : Str), v)] := by kernel_rfl
theorem kf_rul : putF "_rules" v (kf nm pins ctl isp ords line) = kf nm pins ctl isp ords line ++ [(("_rules" : Str), v)] := by kernel_rfl
theorem kf_name' (r : List (Str × V)) : (kf nm pins ctl isp ords line ++ r).lookup ("name" : Str) = some nm := by kernel_rfl
theorem kf_pins' (r : List (Str × V)) : (kf nm pins ctl isp ords line ++ r).lookup ("pins" : Str) = some pins := by kernel_rfl
theorem kf_ctl' (r : List (Str × V)) : (kf nm pins ctl isp ords line ++ r).lookup ("controls" : Str) = some ctl := by kernel_rfl
theorem kf_isp' (r : List (Str × V)) : (kf nm pins ctl isp ords line ++ r).lookup ("is_path" : Str) = some isp := by kernel_rfl
theorem kf_ords' (r : List (Str × V)) : (kf nm pins ctl isp ords line ++ r).lookup ("orders" : Str) = some ords := by kernel_rfl
theorem kf_line' (r : List (Str × V)) : (kf nm pins ctl isp ords line ++ r).lookup ("_line" : Str) = some line := by kernel_rfl
theorem kf_rul' : (kf nm pins ctl isp ords line ++ [(("_rules" : Str), v)]).lookup ("_rules" : Str) = some v := by kernel_rfl
theorem kf_dir : (kf nm pins ctl isp ords line).lookup ("DIRECTED" : Str) = none := by kernel_rfl
theorem kf_dirR : (kf nm pins ctl isp ords line ++ [(("_rules" : Str), v)]).lookup ("DIRECTED" : Str) = none := by kernel_rfl
theorem kf_dirG : (kf nm pins ctl isp ords line ++ [(("_groups" : Str), v)]).lookup ("DIRECTED" : Str) = none := by kernel_rfl
end
/-- an instance in making: all else stands, its fields are fs -/
structure Mkg (p C dx : Addr) (H G : Hp) (fs : List (Str × V)) : Prop where
  sm : SameX p H G
  at_ : G p = some (.ins C dx fs)
theorem Mkg.new {p C dx t : Addr} {H G : Hp} {fs : List (Str × V)} {o : HO} (m : Mkg p C dx H G fs) (n : G t = none) : Mkg p C dx H (upd G t o) fs :=
  ⟨fun b u nb e => by rw [upd_ne (ne_of_none (m.sm b u nb e) n)]; exact m.sm b u nb e, by rw [upd_ne (ne_of_none m.at_ n)]; exact m.at_⟩
theorem Mkg.put {p C dx : Addr} {H G : Hp} {fs fs' : List (Str × V)} (m : Mkg p C dx H G fs) : Mkg p C dx H (upd G p (.ins C dx fs')) fs' :=
  ⟨fun b u nb e => by rw [upd_ne nb]; exact m.sm b u nb e, upd_same⟩
theorem Mkg.same {p C dx : Addr} {H G G' : Hp} {fs : List (Str × V)} (m : Mkg p C dx H G fs) (s : Same G G') : Mkg p C dx H G' fs := ⟨fun b u nb e => s _ _ (m.sm b u nb e), s _ _ m.at_⟩
theorem Mkg.start {p C dx : Addr} {H : Hp} {fs : List (Str × V)} (h : H p = some (.ins C dx fs)) : Mkg p C dx H H fs := ⟨SameX.refl _ _, h⟩
theorem pl {k : Str} {v : V} {n : Nat} : ∀ {l : List (Str × V)}, l.length ≤ n → (putF k v l).length ≤ n + 1
  | [], h => by show 1 ≤ n + 1; omega
  | (x, u) :: r, h => by
    unfold putF
    split
    · simp only [List.length_cons] at h ⊢; omega
    · have := pl (k := k) (v := v) (n := n - 1) (l := r) (by simp only [List.length_cons] at h; omega)
      simp only [List.length_cons] at h ⊢; omega
theorem p0 : ([] : List (Str × V)).length ≤ 0 := Nat.le_refl _
theorem plt {l : List (Str × V)} {n : Nat} (h : l.length ≤ n) (hn : n < 1000 := by decide) : l.length < 1000 := Nat.lt_of_le_of_lt h hn
theorem put_ne {G : Hp} {p t C dx : Addr} {o : HO} {fs : List (Str × V)} (h : G t = some o) (hp : G p = some (.ins C dx fs)) (no : ∀ C dx fs, o ≠ .ins C dx fs) {u : HO} : upd G p u t = some o := by
  rw [upd_ne (fun z => by rw [z, hp] at h; exact no _ _ _ (Option.some.inj h).symm)]
  exact h
theorem app_len (a b : Str) : (a ++ b).length = a.length + b.length := Str.length_append a b
theorem len0 : Str.empty.length = 0 := by decide +kernel
def kindT (x : Str) : Str := (Str.empty ++ "kind ") ++ x
section
variable {P : Program} {w : World} {K : PySem.W.Frag} {mg : Str → Option Value} {base : Heap} {CN fCN : Addr}
def spKI (K : PySem.W.Frag) (CN : Addr) : Sp := fun vs H Q E => ∃ (p dx C : Addr) (v : V), vs = [.ref p, v] ∧ H p = some (.ins C dx []) ∧ KCls K C ∧ Av H v ∧ Shr v ∧
  ((wdV v = false ∧ ∀ d H', SameX p H H' → H' d = some (xd v) → E (.ref CN) (some d) H') ∨
   (∃ x, v = .str x ∧ wd x = true ∧ ∀ H' a1 c a3, SameX p H H' → H' p = some (.ins C dx (kf (.str x) (.ref a1) (.ref c) (.bl false) (.ref a3) (.str (kindT x)))) → H' c = some (.tup []) → Q .non H'))
theorem upd_put {H : Hp} {p C dx : Addr} {a b : List (Str × V)} : upd (upd H p (.ins C dx a)) p (.ins C dx b) = upd H p (.ins C dx b) := by
  funext x
  unfold upd
  split <;> rfl
theorem ok_ki {f : Addr} {fd : FuncData} (F : Fun K "__init__" "Kind.__init__" (sKi 1) f fd) (eN : PySem.Giv.ErrTxt K mg "InvalidName" "InvalidName.__init__" "ValueError.__new__" veT CN fCN) (GW : Glb P w K mg base "is_word" 1 ["value"] spWord) :
    FnOk P w K mg base (L2.CX P w) 3 f fd ["self", "name"] (spKI K CN) := by
  obtain ⟨_, _, mW, kW, GW, bW⟩ := GW.ex
  have sc : FnScope ["self", "name"] ["self", "name"] (defScope (sKi 1)) := ⟨rfl, rfl, rfl, by decide +kernel, rfl, by decide +kernel, by decide +kernel⟩
  have hN := sc.nd
  refine F.okX sc (fun vs H Q E h => ?_) (fun cdv A outer s H vs Q E hr h => ?_)
  · obtain ⟨p, dx, C, v, rfl, _⟩ := h
    rfl
  · obtain ⟨p, dx, C, v, rfl, hp, kc, av, sh, k⟩ := h
    refine ⟨_, pss_cons (ps_if (pt_not (pt_val (pe_call GW (hr.mono (by decide)) (by rfl) mW kW bW .nil passL (pa_cons (pv 1) pa_nil)))) (pss_one (ps_raiseGiv rfl PySem.Giv.ok_VE eN hr (takes_of rfl rfl rfl rfl) (pa_cons (pv 1) pa_nil) (by rfl))) pss_nil)
      (pss_cons (ps_fld (pv 0) (pv 1) rfl)
      (pss_cons (ps_fld (pv 0) (pe_tup pa_nil) rfl)
      (pss_cons (ps_fld (pv 0) (pe_tup pa_nil) rfl)
      (pss_cons (ps_fld (pv 0) pe_bl rfl)
      (pss_cons (ps_fld (pv 0) (pe_tup (pa_cons (pe_tup pa_nil) pa_nil)) rfl)
      (pss_one (ps_fld (pv 0) (pe_joined (.cons pe_str (.cons (pe_fmt (pv 1)) .nil))) rfl))))))), ?_⟩
    refine ⟨_, rfl, v, rfl, av, sh, _, rfl, ?_⟩
    rcases k with ⟨b, k⟩ | ⟨x, rfl, b, k⟩
    · refine if_pos' (by rw [b]; rfl) ⟨_, rfl, _, rfl, fun d hd => ?_⟩
      exact k d _ (fun b u nb e => by rw [upd_ne (ne_of_none e hd)]; exact e) upd_same
    · refine if_neg' (by rw [show wdV (.str x) = wd x from rfl, b]; rfl) ?_
      have xs : x.length ≤ 12 := by
        unfold wd at b
        simp only [Bool.and_eq_true, decide_eq_true_eq] at b
        exact b.1.1.1.1.2
      have few : ∀ fs : List (Str × V), fs.length ≤ 8 → fs.length < 1000 := fun fs h => by omega
      refine ⟨_, rfl, _, rfl, p, C, dx, _, rfl, hp, kc.cl, kc.n1, (by show 0 < 1000; decide), ?_⟩
      have m0 := (Mkg.start hp).put (fs' := putF "name" (.str x) [])
      generalize upd H p (.ins C dx (putF "name" (.str x) [])) = G0 at m0 ⊢
      refine ⟨(by show 0 ≤ sizeLine; exact Nat.zero_le _), fun t1 h1 => ⟨_, rfl, p, C, dx, _, rfl, (m0.new h1).at_, kc.cl, kc.n2, plt (pl p0), ?_⟩⟩
      have m1 := (m0.new h1 (o := .tup [])).put (fs' := putF "pins" (.ref t1) (putF "name" (.str x) []))
      generalize upd (upd G0 t1 (.tup [])) p (.ins C dx (putF "pins" (.ref t1) (putF "name" (.str x) []))) = G1 at m1 ⊢
      refine ⟨(by show 0 ≤ sizeLine; exact Nat.zero_le _), fun t2 h2 => ⟨_, rfl, p, C, dx, _, rfl, (m1.new h2).at_, kc.cl, kc.n3, plt (pl (pl p0)), ?_⟩⟩
      have q2 : (upd G1 t2 (.tup [])) t2 = some (.tup []) := upd_same
      have m2 := m1.new h2 (o := .tup [])
      generalize upd G1 t2 (.tup []) = G2 at m2 q2 ⊢
      have q3 := put_ne q2 m2.at_ (by intro _ _ _ z; cases z) (u := .ins C dx (putF "controls" (.ref t2) (putF "pins" (.ref t1) (putF "name" (.str x) []))))
      have m3 := m2.put (fs' := putF "controls" (.ref t2) (putF "pins" (.ref t1) (putF "name" (.str x) [])))
      generalize upd G2 p (.ins C dx (putF "controls" (.ref t2) (putF "pins" (.ref t1) (putF "name" (.str x) [])))) = G3 at m3 q3 ⊢
      refine ⟨_, rfl, p, C, dx, _, rfl, m3.at_, kc.cl, kc.n4, plt (pl (pl (pl p0))), ?_⟩
      have q4 := put_ne q3 m3.at_ (by intro _ _ _ z; cases z) (u := .ins C dx (putF "is_path" (.bl false) (putF "controls" (.ref t2) (putF "pins" (.ref t1) (putF "name" (.str x) [])))))
      have m4 := m3.put (fs' := putF "is_path" (.bl false) (putF "controls" (.ref t2) (putF "pins" (.ref t1) (putF "name" (.str x) []))))
      generalize upd G3 p (.ins C dx (putF "is_path" (.bl false) (putF "controls" (.ref t2) (putF "pins" (.ref t1) (putF "name" (.str x) []))))) = G4 at m4 q4 ⊢
      refine ⟨(by show 0 ≤ sizeLine; exact Nat.zero_le _), fun t3 h3 => ⟨(by show 1 ≤ sizeLine; decide), fun t4 h4 => ⟨_, rfl, p, C, dx, _, rfl, ((m4.new h3).new h4).at_, kc.cl, kc.n5, plt (pl (pl (pl (pl p0)))), ?_⟩⟩⟩
      have q5 : (upd (upd G4 t3 (.tup [])) t4 (.tup [.ref t3])) t2 = some (.tup []) := same_upd h4 _ _ (same_upd h3 _ _ q4)
      have m5 := (m4.new h3 (o := .tup [])).new h4 (o := .tup [.ref t3])
      generalize upd (upd G4 t3 (.tup [])) t4 (.tup [.ref t3]) = G5 at m5 q5 ⊢
      have q6 := put_ne q5 m5.at_ (by intro _ _ _ z; cases z) (u := .ins C dx (putF "orders" (.ref t4) (putF "is_path" (.bl false) (putF "controls" (.ref t2) (putF "pins" (.ref t1) (putF "name" (.str x) []))))))
      have m6 := m5.put (fs' := putF "orders" (.ref t4) (putF "is_path" (.bl false) (putF "controls" (.ref t2) (putF "pins" (.ref t1) (putF "name" (.str x) [])))))
      generalize upd G5 p (.ins C dx (putF "orders" (.ref t4) (putF "is_path" (.bl false) (putF "controls" (.ref t2) (putF "pins" (.ref t1) (putF "name" (.str x) [])))))) = G6 at m6 q6 ⊢
      have line : 1000 ≤ sizeLine := by decide
      refine ⟨("kind " : Str), rfl, ?_, _, rfl, .inl ⟨x, rfl, by omega, x, rfl, ?_, _, rfl, p, C, dx, _, rfl, m6.at_, kc.cl, kc.n6, plt (pl (pl (pl (pl (pl p0))))), ?_⟩⟩
      · rw [app_len, len0]
        exact Nat.le_trans (by decide +kernel : 0 + (Str.ofString "kind ").length ≤ 1000) line
      · rw [app_len, app_len, len0, show (Str.ofString "kind ").length = 5 by decide +kernel]
        omega
      · have e := kf_put0 (.str x) (.ref t1) (.ref t2) (.bl false) (.ref t4) (.str (kindT x))
        have m7 := m6.put (fs' := kf (.str x) (.ref t1) (.ref t2) (.bl false) (.ref t4) (.str (kindT x)))
        have q7 := put_ne q6 m6.at_ (by intro _ _ _ z; cases z) (u := .ins C dx (kf (.str x) (.ref t1) (.ref t2) (.bl false) (.ref t4) (.str (kindT x))))
        rw [← e] at m7 q7
        have z := k _ t1 t2 t4 m7.sm (by rw [← e]; exact m7.at_) q7
        exact z
end
end V4
end

-- TupIn
section
set_option Elab.async false
set_option linter.all false
set_option maxRecDepth 100000
/-! x not in (a, b, ..), where no item is equal to x and the asking may make objects. -/
namespace OwnNe
open PySem PySem.SeqAt GQ L2 OwnOps
open AutoSeq1 (wpAny_loadPart')
open MeetsSeq MeetsSeq2 MeetsSeq3 SeqRoads2
section
variable {prog : Program} {w : World} {A : Around} {E : Value → Shared → Prop}
/-- no item is equal to x; J: what stands before the i-th is asked -/
theorem tup_containsJ (l : Addr) (items : Array Value) (n : Nat) (dd : Option Addr) (sl : Array (Option Value)) (x : Value) (J : Nat → Shared → Prop) (R : Result → Shared → Prop)
    (step : ∀ (i : Nat) (y : Value) (s : Shared), items.toList[i]? = some y → J i s → wpAny (model prog w) A.in1 (eqBool y x) (fun q s' => q = false ∧ J (i + 1) s') (fun e s' => R (.error e) s') s)
    (many : ∀ i, items.size ≤ i → ∀ s, J i s → J items.size s) (fin : ∀ s, J items.size s → R (.ok (.ret (.bool false))) s) {s : Shared} (hl : s.heap.get? l = some { cls := .type "tuple", dict := dd, data := .seq items n, slots := sl }) (h : J 0 s) :
    wpAny (model prog w) A.in1 (Builtin.«tuple.__contains__» ⟨[.ref l, x], []⟩) (FinOf prog w A R) (fun e s' => R (.error e) s') s := by
  refine wpAny_mono (Q := fun fin s' => ∃ v, fin = .done (.ret v) ∧ R (.ok (.ret v)) s') ?_ (fun fin s' h' => by obtain ⟨v, rfl, hv⟩ := h'; exact hv) fun _ _ x => x
  obtain ⟨hp, g, d, tk, os⟩ := s
  wp_walk using wpAny_loadPart' hl, wpAny_forIn_array _ (fun rest (b : Option Fin × Unit) s' => b.1 = none ∧ ∃ i : Nat, rest = items.toList.drop i ∧ J i s') _
  case turn =>
    rintro y rest b s' ⟨hb, i, hr, hJ⟩
    have hi : items.toList[i]? = some y := by
      rw [← List.head?_drop, ← hr]
      rfl
    refine wpAny_bind (wpAny_mono (step i y s' hi hJ) (fun q s2 hq => ?_) fun _ _ x => x)
    obtain ⟨rfl, hq⟩ := hq
    wp_walk
    refine ⟨rfl, i + 1, ?_, hq⟩
    have := congrArg List.tail hr
    rw [List.tail_drop] at this
    exact this
  case fin =>
    rintro ⟨b1, b2⟩ s' ⟨hb, i, hr, hJ⟩
    simp only at hb
    subst hb
    have hl' : items.size ≤ i := by
      have := congrArg List.length hr
      rw [List.length_drop] at this
      simp at this
      omega
    obtain ⟨hp, g, d, tk, os⟩ := s'
    wp_walk
    exact ⟨_, rfl, fin _ (many i hl' _ hJ)⟩
  case h =>
    exact ⟨rfl, 0, rfl, h⟩
theorem str_cmp_eq {z : Str} {t : Tok} {y : Addr} {oy : Obj} {s : Shared} {Q : Value → Shared → Prop} (hy : s.heap.get? y = some oy) (hp : oy.data = .plain) (h : Q .notImplemented s) :
    wpAny (model prog w) A (call (.builtin "str.__eq__") [.str z t, .ref y]) Q E s := by
  refine GQ.call_here F.slot_str_eq (typeIs_str s z t) F.entry_str_eq (F.args_str_eq_2 _ _) ?_
  obtain ⟨c, dd, dt, sl⟩ := oy
  cases hp
  obtain ⟨hh, gg, d, tt, os⟩ := s
  wp_walk using wpAny_loadPart' hy
  exact h
theorem str_refl {K : PySem.W.Frag} {y C g : Addr} {oy : Obj} {od : Option Obj} {z : Str} {t : Tok} {s : Shared} {Q : Value → Shared → Prop} (hu : A.units < cLine) (Y : K.In s.heap) (I : PySem.W.InstAt s.heap y oy C od) (hp : oy.data = .plain)
    (hsub : PySem.W.subIn K (.ref C) (.type "str") = some false) (hr : PySem.W.findIn K (.ref C) "__eq__" = some (some (.ref g))) (hg : PySem.W.isFn K (.ref g) = true)
    (h : wpAny (model prog w) A (call (.ref g) [.ref y, .str z t]) (PySem.W.CmpBack Q) E s) : wpAny (model prog w) A (richCompare .Eq (.str z t) (.ref y)) Q E s := by
  have one : wpAny (model prog w) A (tryCompare (.ref y) (cmpInfo .Eq).2.2 (.str z t)) (fun r s' => ∃ v, r = some v ∧ Q v s') E s := by
    unfold tryCompare
    refine wpAny_bind (PySem.W.ifBound_K Y I hr hg (wpAny_mono h (fun v s' hv => ?_) fun _ _ e => e))
    cases v <;> first | exact hv.elim | exact wpAny_pure ⟨_, rfl, hv⟩
  have h1 : oneThing? .Eq (.str z t) (.ref y) = none := rfl
  have hne : (Value.type "str" != Value.ref C) = true := rfl
  unfold richCompare
  simp only [h1]
  refine wpAny_holding (wpAny_bind (wpAny_cRoomFor hu ?_))
  refine wpAny_bind ((PySem.W.Looks.of_pure rfl : PySem.W.Looks (model prog w) s.heap (typeOf (.str z t)) (.type "str")).here (wpAny_bind (I.type.here ?_)))
  rw [hne]
  simp only [if_true]
  refine wpAny_bind ((PySem.W.looks_subIn Y hsub).here ?_)
  simp only [Bool.false_eq_true, if_false]
  refine wpAny_bind (wpAny_tryCompare_declines (typeIs_str _ _ _) F.slot_str_eq (str_cmp_eq I.at_ hp ⟨rfl, ?_⟩))
  simp only [Bool.not_false, if_true]
  refine wpAny_bind (wpAny_mono one (fun r s' z => ?_) fun _ _ e => e)
  obtain ⟨v, rfl, hq⟩ := z
  exact wpAny_pure hq
theorem eqBool_rs {z : Str} {tk : Tok} {l : Addr} {s : Shared} {Q : Bool → Shared → Prop}
    (h : wpAny (model prog w) A (richCompare .Eq (.str z tk) (.ref l)) (fun x s' => ∃ r, x = .bool r ∧ Q r s') E s) : wpAny (model prog w) A (eqBool (.str z tk) (.ref l)) Q E s := by
  unfold eqBool
  refine wpAny_holding (wpAny_ite_split (fun z => by cases (beq_iff_eq.mp z)) fun _ => wpAny_bind (wpAny_mono h ?_ fun _ _ x => x))
  rintro x s' ⟨r, rfl, q⟩
  exact wpAny_truthy_bool q
end
/-- x not in a tuple, none of whose items is equal to x -/
def rNotInB (D : V → V → Hp → Bool → Prop) : R2 := fun x y H Q => ∃ p xs, y = .ref p ∧ H p = some (.tup xs) ∧ (∀ z ∈ xs, D z x H false) ∧ ∀ H', Ext H H' → Q (.bl true) H'
theorem op_notInB {X : Cx} {n : Nat} {D : V → V → Hp → Bool → Prop} (hD : ∀ x y H H' b, Ext H H' → D x y H b → D x y H' b) (h : EqB X n D) (hr : Room (n + 1) X.A) : OpR X (compareOp .NotIn) (rNotInB D) := by
  intro pins s σ H x y v u Q I rx ry hq
  obtain ⟨p, xs, rfl, hp, hd, q⟩ := hq
  cases ry
  have sb : Sub X (n + 1) X.A := ⟨hr, rfl⟩
  obtain ⟨hz, its, rr, ho⟩ := (show ObjOk X.prog X.w H s.heap p (.tup xs) from I.hok p _ hp)
  obtain ⟨⟨cls, dd, data, sl⟩, ho, hc, k, hdat⟩ := ho
  simp only at hc hdat
  subst hc hdat
  show wpAny _ X.A (do return .bool (!(← contains (.ref p) v))) (EP X pins σ Q) X.xe s
  refine wpAny_bind (wpAny_contains_slot ⟨_, ho, rfl⟩ F.slot_tuple_contains (wpAny_mono (Q := fun c s' => c = .bool false ∧ LoopI X pins σ H s') (GQ.call_here F.slot_tuple_contains ⟨_, ho, rfl⟩ F.entry_tuple_contains (F.args_tuple_contains_2 _ _) ?_) (fun c s' hc => ?_) fun _ _ e => e))
  · refine tup_containsJ (R := wants (fun c s' => c = .bool false ∧ LoopI X pins σ H s') X.xe) p its.toArray k dd sl v (fun _ s' => LoopI X pins σ H s') (fun i u s' hi hJ => ?_) (fun _ _ s' j => j) (fun s' j => ⟨rfl, j⟩) ho ⟨H, I, Ext.rfl'⟩
    obtain ⟨H1, I1, e1⟩ := hJ
    have hi : its[i]? = some u := by simpa using hi
    obtain ⟨y, hy, ru⟩ : ∃ y, xs[i]? = some y ∧ RelV y u := by
      have lt : i < xs.length := by rw [rr.length]; exact (List.getElem?_eq_some_iff.mp hi).1
      obtain ⟨u', hu', ru⟩ := rr.get (List.getElem?_eq_getElem lt)
      rw [hi] at hu'
      cases hu'
      exact ⟨_, List.getElem?_eq_getElem lt, ru⟩
    refine wpAny_mono (h X.A.in1 pins s' σ H1 _ _ u v _ sb.in1 I1 ru rx (hD _ _ _ _ _ e1 (hd y (List.mem_of_getElem? hy)))) (fun r' s2 q' => ?_) fun _ _ x => x
    obtain ⟨hr', H2, I2, e2'⟩ := q'
    exact ⟨hr', H2, I2, e1.trans e2'⟩
  · obtain ⟨rfl, H', I', e⟩ := hc
    exact wpAny_truthy_bool (wpAny_pure ⟨.bl true, H', I', rfl, q H' e⟩)
end OwnNe
end

-- V4e
section
set_option Elab.async false
set_option linter.all false
set_option maxRecDepth 100000
set_option exponentiation.threshold 10000
namespace V4
open PySem L2 OwnOps OwnNe G1 StX
def worded (ws : List Str) (tail : Str) : Str := Txt.join " " (if tail.length = 0 then ws else ws ++ [(":" : Str), tail])
def size (ws : List Str) : Nat := (ws.map (·.length)).sum
section
variable {P : Program} {w : World} {K : PySem.W.Frag} {mg : Str → Option Value} {base : Heap}
def spWrd (K : PySem.W.Frag) : Sp := fun vs H Q _ => ∃ a ws tail, vs = [.ref a, .str tail] ∧ SqL K H a (ws.map V.str) ∧ ws.length ≤ 1000 ∧ size ws ≤ 100000 ∧ tail.length ≤ 100000 ∧ ∀ H', Same H H' → Q (.str (worded ws tail)) H'
theorem ok_wrd {f : Addr} {fd : FuncData} (F : Fun K "_worded" "_worded" sWrd f fd) : FnOk P w K mg base (L2.CX P w) 1 f fd ["words", "tail"] (spWrd K) := by
  have sc : FnScope ["words", "tail"] ["words", "tail"] (defScope sWrd) := ⟨rfl, rfl, rfl, by decide +kernel, rfl, by decide +kernel, by decide +kernel⟩
  refine F.okX sc (fun vs H Q E h => ?_) (fun cdv A outer s H vs Q E hr h => ?_)
  · obtain ⟨a, ws, tail, rfl, _⟩ := h
    rfl
  · obtain ⟨a, ws, tail, rfl, hS, n1, n2, n3, fin⟩ := h
    refine ⟨_, pss_one (ps_ret (pe_join pe_str (pe_ifExp (pt_truth (pv 1) (fun _ => rfl)) (pe_lst (pa_star (pv 0) (pa_cons pe_str (pa_cons (pv 1) pa_nil)))) (pv 0)))), ?_⟩
    have one : (Str.ofString " ").length = 1 := by decide +kernel
    have line : sizeLine = 16777216 := by decide
    refine ⟨⟨_, rfl⟩, _, rfl, _, ⟨by omega, rfl⟩, ?_⟩
    by_cases h0 : tail.length = 0
    · refine if_neg' (by rw [h0]; rfl) ⟨_, rfl, " ", a, ws, rfl, rfl, .inl hS, ?_, ?_⟩
      · unfold size at n2
        rw [one]
        omega
      · have z := fin H (Same.refl H)
        unfold worded at z
        rw [if_pos h0] at z
        exact z
    · refine if_pos' (by simp [h0]) ⟨_, rfl, a, _, rfl, .inr hS, _, rfl, ?_, fun p hp => ?_⟩
      · simp only [List.length_append, List.length_map, List.length_cons, List.length_nil]; omega
      · have e : ws.map V.str ++ [V.str ":", V.str tail] = (ws ++ [(":" : Str), tail]).map V.str := by rw [List.map_append]; rfl
        refine ⟨" ", p, ws ++ [(":" : Str), tail], rfl, rfl, .inl (SqL.of ?_), ?_, ?_⟩
        · rw [← e]
          exact upd_same
        · unfold size at n2
          rw [one, List.map_append, List.sum_append, List.length_append]
          simp only [List.map_cons, List.map_nil, List.sum_cons, List.sum_nil, List.length_cons, List.length_nil]
          rw [show (Str.ofString ":").length = 1 by decide +kernel]
          omega
        · have z := fin _ (same_upd hp (o := .lst (ws.map V.str ++ [V.str ":", V.str tail])))
          unfold worded at z
          rw [if_neg h0] at z
          exact z
end
end V4
end

-- SupX3
section
set_option Elab.async false
set_option linter.all false
set_option maxRecDepth 100000
set_option maxHeartbeats 2000000
/-! defs def f(self, name, *v, k = d): what they promise for positional arguments and keywords; making instances by them. -/
namespace SupX
open PySem PySem.Spec PyProof.Rows L2 StX
abbrev SpA := List V → List (Str × V) → Hp → VK → XK → Prop
/-- a def's promise, called with positional arguments and keywords -/
def FnA (P : Program) (w : World) (K : PySem.W.Frag) (mg : Str → Option Value) (base : Heap) (CX : CXT) (k : Nat) (f : Addr) (sp : SpA) : Prop :=
  ∀ (A : Around) (outer : List Env) (s : Shared) (H : Hp) (us : List Value) (vs : List V) (ks : List Str) (ws : List Value) (zs : List V) (Q : VK) (E : XK), Room k A → Env0 P w K mg base A outer s H → Vals vs us → Vals zs ws → zs.length = ks.length → sp vs (ks.zip zs) H Q E →
    codeAny (model P w) A (.call (.ref f) ⟨us, ks.zip ws⟩) (CR CX outer P w H s Q E) s
section
variable {P : Program} {w : World} {K : PySem.W.Frag} {mg : Str → Option Value} {base : Heap} {CX : CXT} {j k : Nat} {f : Addr} {sp sp' : SpA}
theorem FnA.mono (F : FnA P w K mg base CX j f sp) (h : j ≤ k) : FnA P w K mg base CX k f sp := fun A outer s H us vs ks ws zs Q E hr => F A outer s H us vs ks ws zs Q E (hr.mono h)
theorem FnA.imp (F : FnA P w K mg base CX k f sp) (h : ∀ vs kv H Q E, sp' vs kv H Q E → sp vs kv H Q E) : FnA P w K mg base CX k f sp' := fun A outer s H us vs ks ws zs Q E hr e0 r rz l hs => F A outer s H us vs ks ws zs Q E hr e0 r rz l (h _ _ _ _ _ hs)
theorem FnA.pos (F : FnA P w K mg base CX k f sp) : FnR P w K mg base CX k f (fun vs H Q E => sp vs [] H Q E) := fun A outer s H us vs Q E hr e0 r hs => F A outer s H us vs [] [] [] Q E hr e0 r .nil rfl hs
end
/-- how the arguments come in: the written ones, the keyword-only ones by gV, what is left over -/
def BindA (K : PySem.W.Frag) (fd : FuncData) (p1 p2 : Str) (kn : List Str) (pv : Str) (okK : List (Str × V) → Prop) (gV : List (Str × V) → List V) : Prop :=
  ∀ (ks : List Str) (ws : List Value) (zs : List V), Vals zs ws → zs.length = ks.length → okK (ks.zip zs) → ∃ cs : List Value, Vals (gV (ks.zip zs)) cs ∧ (gV (ks.zip zs)).length = kn.length ∧
    ∀ (M : Model) (A : Around) (s : Shared) (a b : Value) (rest : List Value) (Q : List (Str × Value) → Shared → Prop) (E : Value → Shared → Prop), K.In s.heap →
      wpAny M A (newTuple rest >>= fun t => pure ((p1 :: p2 :: kn ++ [pv]).zip (a :: b :: cs ++ [t]))) Q E s → wpAny M A (bindArgs fd ⟨a :: b :: rest, ks.zip ws⟩) Q E s
section
variable {CX : CXT} {P : Program} {w : World} {K : PySem.W.Frag} {mg : Str → Option Value} {base : Heap} {k : Nat} {f cda cc D : Addr} {name qual : Str} {params : Arguments} {body : List Stmt} {scope : Scope} {dV kV doc pm ct oc : Value} {an od : Option Addr} {cl : Value} {cld : Option Addr} {csl : Array (Option Value)}
  {osl : Array (Option Value)} {N kn : List Str} {p1 p2 pv : Str} {sp : Sp} {okK : List (Str × V) → Prop} {gV : List (Str × V) → List V}
theorem fnA_S (lk : K.lookup f = some ⟨oc, od, .func (PySem.W.ksFn name qual params body scope dV kV doc pm an (.ref cda) ct cc), osl⟩) (hcd : PySem.W.codeIn K (.ref cda) qual = true) (S : SScope N (p1 :: p2 :: kn ++ [pv]) scope) (hcc : K.lookup cc = some ⟨cl, cld, .cell (some (.ref D)), csl⟩) (hCX : CXUp CX)
    (hb : BindA K (PySem.W.ksFn name qual params body scope dV kV doc pm an (.ref cda) ct cc) p1 p2 kn pv okK gV)
    (hbody : ∀ (A : Around) (outer : List Env) (s : Shared) (H : Hp) (vs : List V) (Q : VK) (E : XK), Room k (A.deeper (envS qual scope s.heap.objs.size f cda cc)) → sp vs H Q E →
      ∃ t, PSsA (cxS CX P w K mg base N qual scope f cda cc A outer s H E) (.func body (envS qual scope s.heap.objs.size f cda cc)) body t ∧ t { nx := fun _ H' => Q .non H', rt := Q } (L2.start N vs) H) :
    FnA P w K mg base CX (k + 1) f (fun vs kv H Q E => ∃ a b rest, vs = a :: b :: rest ∧ okK kv ∧ rest.length ≤ sizeLine ∧ ∀ p, H p = Option.none → sp (a :: b :: gV kv ++ [V.ref p]) (upd H p (.tup rest)) Q E) := by
  intro A outer s H us vs ks ws zs Q E hr e0 r rz lz hsp
  obtain ⟨a, b, rest, ev, ok, hz, hq⟩ := hsp
  subst ev
  cases r with
  | cons ra r =>
  cases r with
  | @cons _ ub _ u2 rb r2 =>
  rename_i ua
  obtain ⟨cs, rc, lc, hbind⟩ := hb ks ws zs rz lz ok
  have KX : K.In s.heap := e0.mod.kin.keeps fun b o e => (e0.bs b o e).1
  have hn : H s.heap.objs.size = Option.none := e0.hok.fresh (Nat.le_refl _)
  have hl2 : u2.length ≤ sizeLine := by rw [← r2.length]; exact hz
  refine run_bndS lk hcd S hcc hr e0 (G := fun xs H2 => ∃ p, H p = Option.none ∧ xs = a :: b :: gV (ks.zip zs) ++ [V.ref p] ∧ H2 = upd H p (.tup rest)) (fun A' Ex Q' h => ?_) fun s2 H2 xs ⟨p, hp, ex, eH⟩ hr' => ?_
  · refine hbind _ _ _ _ _ _ _ _ KX ?_
    refine wpAny_bind (wpAny_newTuple (wpAny_pure ?_) hl2)
    have new : ObjOk P w (upd H s.heap.objs.size (.tup rest)) (s.heap.push ({ cls := .type "tuple", data := .seq u2.toArray } : Obj)) s.heap.objs.size (.tup rest) := ⟨hz, u2, r2, ⟨_, Heap.get?_push_size _ rfl, rfl, _, rfl⟩⟩
    have un := un_laid (fs := frs outer) (s := s) (o := ({ cls := .type "tuple", data := .seq u2.toArray } : Obj)) (u := .tup rest) hn
    exact h _ _ (a :: b :: gV (ks.zip zs) ++ [V.ref s.heap.objs.size]) (ua :: ub :: cs ++ [Value.ref s.heap.objs.size]) (env0_laid e0 new) un rfl (fun e s' => hCX outer s H _ _ E e s' un (fun b o q => Heap.get?_push_of_some _ q) rfl) (.cons ra (.cons rb (rc.append (.cons rfl .nil))))
      (by simp only [List.length_append, List.length_cons, List.length_nil, lc]) ⟨_, hn, rfl, rfl⟩
  · subst ex eH
    exact hbody A outer s2 _ _ Q E hr' (hq p hp)
end
/-! ### making by such an __init__ -/
def tMakeA (C : Addr) (ks : List Str) (sp : SpA) (E : XK) (t tk : TA) : TE := fun σ H Q => t σ H fun vs H1 => tk σ H1 fun zs H2 => zs.length = ks.length ∧ ∀ x dx, H2 x = none → H2 dx = none → dx ≠ x →
  sp (.ref x :: vs) (ks.zip zs) (upd (upd H2 dx (.own x)) x (.ins C dx [])) (fun v H3 => v = .non ∧ Q (.ref x) H3) E
section
variable {X : Cx} {CX : CXT} {k : Nat} {f C : Addr} {ks : List Str} {sp : SpA} {E : XK} {x : Str} {p pos : Pos} {e : Expr} {es : List Expr} {kws : List Keyword} {t tk : TA}
theorem run_makeA {pins : List (Addr × Obj)} {σ : L2.St} {H : Hp} {s : Shared} {Q : VK} {us ws : List Value} {vs zs : List V} (M : Mk X.K C f) (F : FnA X.prog X.w X.K X.mg X.base CX k f sp) (hr : Room (k + 1) X.A) (hx : Passes CX X E)
    (I : Inv X pins σ H s) (r : Vals vs us) (rz : Vals zs ws) (l2 : zs.length = ks.length)
    (h : ∀ x dx, H x = none → H dx = none → dx ≠ x → sp (.ref x :: vs) (ks.zip zs) (upd (upd H dx (.own x)) x (.ins C dx [])) (fun v H2 => v = .non ∧ Q (.ref x) H2) E) :
    wpAny (model X.prog X.w) X.A (call (.ref C) us (ks.zip ws)) (EP X pins σ Q) X.xe s := by
  have hq := h (s.heap.objs.size + 1) s.heap.objs.size (I.hok.fresh (Nat.le_succ _)) (I.hok.fresh (Nat.le_refl _)) (Nat.ne_of_lt (Nat.lt_succ_self _))
  have I2 := Inv.made (C := C) I
  refine wpAny_call (make_map (f := f) I.kIn M.makes M.init (beq_iff_eq.mp M.fn) (codeAny_mono (F _ X.stack _ _ (Value.ref (s.heap.objs.size + 1) :: us) (V.ref (s.heap.objs.size + 1) :: vs) ks ws zs _ E (hr.make C us (ks.zip ws)) (I2.env0.make C us (ks.zip ws)) (.cons rfl r) rz l2 hq) fun r s' hq' => ?_))
  cases r with
  | error e => exact hx pins σ _ _ e s' I2 hq'
  | ok fl =>
    cases fl with
    | ret u =>
      obtain ⟨v, H', I3, rv, ev, q3⟩ := I2.after hq'
      subst ev
      exact ⟨rv, ⟨V.ref (s.heap.objs.size + 1), H', I3, rfl, q3⟩⟩
    | next => exact False.elim hq'
    | brk => exact False.elim hq'
    | cont => exact False.elim hq'
/-- C(e, ..) -/
theorem pe_makeA0 (M : Mk X.K C f) (F : FnA X.prog X.w X.K X.mg X.base CX k f sp) (hr : Room (k + 1) X.A) (hg : Gl X x) (hm : X.mg x = some (.ref C)) (hx : Passes CX X E) (ha : PA X (e :: es) t)
    (hdb : (x == ("__debug__" : Str)) = false := by decide) (he : starEach (e :: es) X.env = (false, eval e X.env) :: starEach es X.env := by rfl) (hpl : (backTo pos (starEach es X.env)).any (·.1) = false := by rfl) :
    PE X (.Call (.Name x p) (e :: es) [] pos) (tMakeA C [] sp E t tNil) := by
  refine ⟨fun pins s σ H Q I h => ?_⟩
  refine wpAny_Call_Name_kw (ld_glob I hg hm ?_ hdb)
  refine PySem.W.callWith_K (h₀ := X.base) I.ok.mod.kin M.kp (thn (ha.run pos pins s σ H _ I h) fun us s1 ⟨vs, H1, I1, r, q⟩ => ⟨I1.kIn, ?_⟩) he hpl
  exact run_makeA (ks := []) (ws := []) M F hr hx I1 r .nil q.1 q.2
/-- C(e, .., k = v, ..) -/
theorem pe_makeA (M : Mk X.K C f) (F : FnA X.prog X.w X.K X.mg X.base CX k f sp) (hr : Room (k + 1) X.A) (hg : Gl X x) (hm : X.mg x = some (.ref C)) (hx : Passes CX X E) (ha : PA X (e :: es) t) (hkw : PK X kws tk)
    (hall : (backToKw pos (keywordEach kws X.env)).all (·.1.isSome) = true := by rfl) (hks : (backToKw pos (keywordEach kws X.env)).filterMap (·.1) = ks := by rfl) (hdb : (x == ("__debug__" : Str)) = false := by decide)
    (he : starEach (e :: es) X.env = (false, eval e X.env) :: starEach es X.env := by rfl) (hpl : ((backTo pos (starEach (e :: es) X.env)).any (·.1) || (backToKw pos (keywordEach kws X.env)).any (·.1.isNone)) = false := by rfl) :
    PE X (.Call (.Name x p) (e :: es) kws pos) (tMakeA C ks sp E t tk) := by
  refine ⟨fun pins s σ H Q I h => ?_⟩
  refine wpAny_Call_Name_kw (ld_glob I hg hm ?_ hdb)
  refine PySem.W.callWith_KW (h₀ := X.base) I.ok.mod.kin M.kp hall (thn (ha.run pos pins s σ H _ I h) fun us s1 ⟨vs, H1, I1, r, q⟩ => ?_) hpl he
  refine thn (hkw.run pos pins s1 σ H1 _ I1 q) fun ws s2 ⟨zs, H2, I2, rz, l2, q2⟩ => ⟨I2.kIn, ?_⟩
  rw [hks]
  exact run_makeA M F hr hx I2 r rz l2 q2
end
end SupX
end

-- SupX4
section
set_option Elab.async false
set_option linter.all false
set_option maxRecDepth 100000
set_option maxHeartbeats 2000000
/-! super().m(e, *y) ahead in a def. -/
namespace SupX
open PySem PySem.Spec PyProof.Rows L2 StX
section
open PySem.W
variable {prog : Program} {w : World} {M : Model} {A : Around} {E : Value → Shared → Prop} {h : Heap} {g : Array GenState} {d : Drawn} {t : Nat} {os : OsState}
theorem getAttr_super {so D x C f : Addr} {of : Obj} {l₀ l : List Value} {K : Frag} {name : Str} {Q : Value → Shared → Prop}
    (hso : h.get? so = some { cls := .type "super", dict := none, data := .fields #[.ref D, .ref x, .ref C], slots := #[] }) (hno : Looks (model prog w) h (opaqueClassAbove (.ref C)) none)
    (hC : Looks (model prog w) h (mroOf (.ref C)) l₀) (hl : (l₀.dropWhile (· != .ref D)).drop 1 = l) (X : K.In h)
    (hf : alongIn K name l = some (some (.ref f))) (hfo : h.get? f = some of) (hfc : of.cls = .type "function") (hxC : x ≠ C) (hn : (name == ("__class__" : Str)) = false)
    (hq : Q (.ref h.objs.size) ⟨h.push { cls := .type "method", data := .fields #[.ref f, .ref x] }, g, d, t + 1, os⟩) :
    wpAny (model prog w) A (getAttr (.ref so) name true) Q E ⟨h, g, d, t, os⟩ := by
  have hlk := F.ks_slot_super_ga.lookup
  have hcan := F.ks_canon_super_ga
  have hT : ∀ t', (⟨h, g, d, t', os⟩ : Shared).TypeIs (.ref so) "super" := fun _ => ⟨_, hso, rfl⟩
  unfold getAttr getAttrBy
  refine wpAny_bind (wpAny_mkText (wpAny_holding (wpAny_bind (wpAny_typeOf (hT _) (wpAny_bind (wpAny_of_eq hlk ?_))))))
  show wpAny _ _ (getAttrByItsOwn (.ref so) (.str name t) (.type "super") (.builtin "super.__getattribute__") true _) _ _ _
  unfold getAttrByItsOwn hookBefore callGetattribute boundAndCalled
  refine wpAny_bind (wpAny_of_eq (show (if onTheHeap (.type "super") then typeLookup (.type "super") "__getattr__" else pure none) = pure none from rfl) ?_)
  refine wpAny_bind (wpAny_attempt (wpAny_holding ?_))
  show wpAny _ _ (bindSpecial (.builtin "super.__getattribute__") (.ref so) >>= _) _ _ _
  refine wpAny_bind (wpAny_of_eq (F.ks_slot_super_ga.bind _) ?_)
  refine wpAny_mono (Q := fun v s' => v = .ref h.objs.size ∧ s' = ⟨h.push { cls := .type "method", data := .fields #[.ref f, .ref x] }, g, d, t + 1, os⟩) (E := fun _ _ => False)
    (wpAny_call_entry F.ks_slot_super_ga (hT _) F.ks_entry_super_ga (ks_wpAny_super_ga hso hno hC hl X hf hfo hfc hxC hn ⟨_, rfl, rfl, rfl⟩) (F.ks_gaArgs_super _ _)) (fun v s' hv => ?_) fun _ _ z => z.elim
  obtain ⟨rfl, rfl⟩ := hv
  exact wpAny_pure hq
end
theorem wpAt_MethS {M : Model} {A : Around} {c : Code} {E : Value → Shared → Prop} {s : Shared} {env : Env} {o e1 e2 : Expr} {m : Str} {p apos pos : Pos} {Q : Value → Shared → Prop}
    (hst : starEach [e1, .Starred e2 p] env = [(false, eval e1 env), (true, eval e2 env)])
    (h : PySem.wpAt M A c (attributeBase o m env (eval o env)) (fun ov s₁ => wpAny M A (getAttr ov m true) (fun f s₂ => wpAny M A (callWith pos f [] (backTo pos [(false, eval e1 env), (true, eval e2 env)]) []) Q E s₂) E s₁) E s) :
    PySem.wpAt M A c (eval (.Call (.Attribute o m apos) [e1, .Starred e2 p] [] pos) env) Q E s := by
  have hke : backToKw pos (keywordEach [] env) = [] := rfl
  have hform : methodCallForm ([e1, Expr.Starred e2 p].length + ([] : List Keyword).length) (backTo pos [(false, eval e1 env), (true, eval e2 env)]) [] = false := rfl
  have hpos : methodCallPos false o env apos pos = pure pos := rfl
  have hcal : ∀ ov, calleeOf false o env ov m = (getAttr ov m true >>= fun v => pure (v, [])) := fun _ => rfl
  rw [arm_eval_Call, hst, hke]
  refine PySem.wpAt_bind (PySem.ks_wpAt_mono h (fun ov s₁ h₁ => PySem.wpAt_of_wpAny ?_) fun _ _ x => x)
  refine wpAny_bind (wpAny_standAt ?_)
  unfold methodCall
  rw [hform, hpos, hcal]
  refine wpAny_bind (wpAny_holding (wpAny_bind (wpAny_mono h₁ (fun f s₂ h₂ => wpAny_pure ?_) fun _ _ x => x)))
  exact wpAny_bind (wpAny_pure h₂)
section
variable {X : Cx} {CX : CXT} {k j : Nat} {f cda cc D g : Addr} {qual m p1 : Str} {scope : Scope} {L : Addr} {sp : Sp} {E : XK} {t : TA} {rest : TS} {code : List Stmt} {es : List Expr} {ss : List Stmt} {N ps : List Str}
theorem psA_supS {q0 q1 q2 q3 q4 sp_ : Pos} {e1 e2 : Expr} (he : X.env = envS qual scope L f cda cc) (S : SScope N ps scope) (hN : X.N[0]? = some p1) (hl : scope.names.lookup p1 = some .local) (SD : SupDef X.K X.prog f cda cc D g p1) (hm : (m == ("__class__" : Str)) = false) (F : FnR X.prog X.w X.K X.mg X.base CX k g sp) (hr : Room k X.A) (hx : Passes CX X E)
    (ha : PA X [e1, .Starred e2 sp_] t) (hA : ArgsOk X [e1, .Starred e2 sp_]) (hrest : PSs X ss rest) (hst : starEach [e1, .Starred e2 sp_] X.env = [(false, eval e1 X.env), (true, eval e2 X.env)] := by rfl) :
    PSsA X (.func code X.env) (.Expr (.Call (.Attribute (.Call (.Name "super" q0) [] [] q1) m q2) [e1, .Starred e2 sp_] [] q3) q4 :: ss) (tSup (fun C => SupAt X.K C D m g) sp E t rest) := by
  intro pins s σ H De I q
  obtain ⟨x, C, dx, fs, hσ, hx0, so, q⟩ := q
  obtain ⟨_, _, fd, _, ar, lkf, har, ear⟩ := SD.fn
  obtain ⟨_, _, vsC, _, file, tf, lkc, hvs, hfile⟩ := SD.code
  obtain ⟨_, _, _, lkcc⟩ := SD.cell
  obtain ⟨cdD, hD⟩ := Option.isSome_iff_exists.mp SD.cls
  obtain ⟨cdC, hC⟩ := Option.isSome_iff_exists.mp so.cls
  obtain ⟨od, J⟩ := OwnOps.inst_at I hx0
  have XK := I.kIn
  have hsc : X.env.scope = scope := by rw [he]
  obtain ⟨oD, hD1, hD2⟩ : ∃ oD, s.heap.get? D = some oD ∧ oD.data = .cls cdD := by
    unfold PySem.W.clsIn at hD
    split at hD
    · rename_i c d cd' sl ho
      cases hD
      exact ⟨_, XK _ _ ho, rfl⟩
    · cases hD
  have hkS : X.env.kindOf "super" = some .globalImplicit := by
    rw [he]; exact S.sup
  have hkC : X.env.kindOf kC = some .free := by
    rw [he]; exact S.has
  have hce : X.env.cells.lookup kC = some cc := by
    rw [he]
    show (cellsFrom (L + 1) scope.names [] ++ [(kC, cc)]).lookup kC = _
    have ncl : (cellsFrom (L + 1) scope.names []).lookup kC = none := by
      cases q : (cellsFrom (L + 1) scope.names []).lookup kC with
      | none => rfl
      | some c =>
        rcases cell_mem (PySem.mem_of_lookup q) with z | z
        · cases z
        · cases S.once _ z rfl
    rw [lookup_app_none ncl]
    simp [List.lookup]
  have hloc : ∃ mL, s.heap.Ns X.env.locals mL ∧ mL p1 = some (.ref x) := by
    obtain ⟨mL, h1, h2⟩ := I.loc
    obtain ⟨u, ru, lk⟩ := h2 0 p1 (.ref x) hN hσ (.inl (by rw [hsc]; exact hl))
    cases (show u = Value.ref x from ru)
    rcases lk with ⟨_, z⟩ | ⟨z, _⟩
    · exact ⟨mL, h1, z⟩
    · exfalso
      have e : X.env.kindOf p1 = some .local := by rw [he]; exact hl
      rw [e] at z
      rcases z with z | z <;> cases z
  obtain ⟨mL, hns, hself⟩ := hloc
  have hkind := I.ok.kind
  have hgl : s.heap.Ns X.env.globals X.mg := by
    rw [I.ok.glob]
    exact I.mod.glob.keeps I.bk
  obtain ⟨mb, hmb, hbb⟩ := I.mod.blt
  have hbl : s.heap.Ns X.env.builtins mb := by
    rw [I.ok.blt]
    exact hmb.keeps I.bk
  have hmgS : X.mg "super" = none := PySem.W.mg_none_of I.mod.kin I.mod.glob SD.sup
  refine PySem.ks_wpAt_execs_cons (PySem.ks_wpAt_Expr_any (wpAt_MethS hst ?_) I.quiet)
  refine PySem.ks_wpAt_super_base (f := f) (cc := cda) (ar := ar) (fd := fd) (vs := vsC) (file := file) (tf := tf) hkS hkC hm (by rw [he]) (XK _ _ lkf) rfl har (by rw [he]) (XK _ _ lkc) rfl hvs hfile SD.top ?_
  refine PySem.W.ks_loadName_global hkind hkS (PySem.Calls.loadGlobal_builtin hgl hmgS hbl ((hbb _ (by decide +kernel)).trans (show bootBuiltins "super" = some (.type "super") by first | rfl | kernel_rfl)) ⟨rfl, ?_⟩)
  refine wpAny_loadName_free hkind hkC hce ⟨_, XK _ _ lkcc, rfl⟩ ?_
  rw [ear]
  refine wpAny_loadName_local hkind (by rw [he]; exact hl) hns hself ?_
  refine PySem.ks_wpAny_isType_cls hD1 hD2 ⟨rfl, ?_⟩
  refine PySem.ks_wpAny_call_super hD1 hD2 J.at_ J.cls (fun c e => ?_) (PySem.W.looks_mroIn XK so.sub) (fun h' e kp => ?_)
  · have := J.no
    unfold PySem.W.notCls at this
    rw [e] at this
    exact Bool.noConfusion this
  · obtain ⟨hh, g0, d0, t0, os0⟩ := s
    dsimp only at e kp
    have Xh : X.K.In h' := fun b o q => kp b o (XK b o q)
    have htg : ∃ og, h'.get? g = some og ∧ og.cls = .type "function" := by
      have z : (X.K.lookup g).map (·.cls) = some (.type "function") := SD.tg
      cases q : X.K.lookup g with
      | none => rw [q] at z; cases z
      | some og => rw [q] at z; exact ⟨og, Xh _ _ q, Option.some.inj z⟩
    obtain ⟨og, hog, cog⟩ := htg
    have hal : PySem.W.alongIn X.K m ((cdC.mro.dropWhile (· != .ref D)).drop 1) = some (some (.ref g)) := by
      have z := so.at_
      unfold PySem.W.ks_superIn at z
      rw [hC] at z
      exact z
    refine getAttr_super (D := D) (x := x) (C := C) (f := g) (of := og) (K := X.K) (l₀ := cdC.mro) (l := (cdC.mro.dropWhile (· != .ref D)).drop 1) e (PySem.W.looks_opaque Xh SD.any) ?_ rfl Xh hal hog cog (PySem.W.ks_ne XK J hC) hm ?_
    · exact fun A Q E s k q => wpAny_bind ((PySem.W.looks_clsIn Xh hC) A _ E s k (wpAny_pure q))
    · have kp2 : ∀ b u, hh.get? b = some u → (h'.push { cls := .type "method", data := .fields #[.ref g, .ref x] }).get? b = some u := fun b u q => Heap.get?_push_of_some _ (kp b u q)
      have I2 : Inv X pins σ H ⟨h'.push { cls := .type "method", data := .fields #[.ref g, .ref x] }, g0, d0, t0 + 1, os0⟩ := Inv.kept (s := ⟨hh, g0, d0, t0, os0⟩) I kp2
      have I1 : Inv X pins σ H ⟨h', g0, d0, t0 + 1, os0⟩ := Inv.kept (s := ⟨hh, g0, d0, t0, os0⟩) I kp
      have fr : H h'.objs.size = none := I1.fresh
      have nl : h'.objs.size ≠ X.env.locals := Nat.ne_of_gt I1.lt
      have nf : h'.objs.size ∉ X.fs := I1.nofs (Nat.le_refl _)
      have I3 : Inv X ((h'.objs.size, PySem.W.methodObj (.ref g) (.ref x)) :: pins) σ H ⟨h'.push { cls := .type "method", data := .fields #[.ref g, .ref x] }, g0, d0, t0 + 1, os0⟩ := I2.pins_of fun p hp => by
        rcases List.mem_cons.mp hp with rfl | hp
        · exact ⟨Heap.get?_push_at rfl rfl, fr, nl, nf, fun v z => by cases z⟩
        · exact I2.pin p (List.mem_append_right _ hp)
      rw [← hst]
      refine hA q3 h'.objs.size (.ref x) g _ _ _ SD.fg (thn (ha.run q3 _ _ σ H _ I3 q) fun us s2 got => ?_)
      obtain ⟨vs, H1, I4, r, hq⟩ := got
      have hb := (I4.pin _ (List.mem_append_right _ List.mem_cons_self)).1
      refine ⟨⟨hb, I4.kIn⟩, wpAny_call (PySem.ks_codeAny_call_bound hb (codeAny_mono (F X.A X.stack s2 H1 (.ref x :: us) (.ref x :: vs) _ E hr I4.env0 (.cons rfl r) hq) fun r s' h => ?_))⟩
      cases r with
      | error e => exact hx _ σ H1 s2 e s' I4 h
      | ok fl =>
        cases fl with
        | ret u =>
          obtain ⟨v, H2, I5, _, h5⟩ := I4.after h
          have I6 : Inv X pins σ H2 s' := I5.pins_of fun p hp => I5.pin p (List.mem_append_right _ (List.mem_cons_of_mem _ hp))
          exact wpAt_of_wpAny (hrest.run pins s' σ H2 De I6 h5)
        | next => exact False.elim h
        | brk => exact False.elim h
        | cont => exact False.elim h
end
end SupX
end

-- V4g
section
set_option Elab.async false
set_option linter.all false
set_option maxRecDepth 100000
set_option exponentiation.threshold 10000
namespace V4
open PySem L2 OwnOps OwnNe G1 StX SupX
/-- of the error of kinds alone -/
structure RTxt (K : PySem.W.Frag) (mg : Str → Option Value) (D CK fCK : Addr) : Prop where
  eK : PySem.Giv.ErrTxt K mg "InvalidKind" "InvalidKind.__init__" "ValueError.__new__" veT CK fCK
/-- a def of a class that says super() -/
structure SDef (K : PySem.W.Frag) (P : Program) (qual : Str) (st : Stmt) (kw : List (Str × V)) (f D : Addr) : Prop where
  ex : ∃ (oc : Value) (od : Option Addr) (kV doc pm : Value) (an : Option Addr) (cda : Addr) (ct : Value) (cc : Addr) (osl : Array (Option Value)),
    K.lookup f = some ⟨oc, od, .func (PySem.W.ksFn "__init__" qual (defArgs st) (defBody st) (defScope st) .none kV doc pm an (.ref cda) ct cc), osl⟩ ∧ PySem.W.codeIn K (.ref cda) qual = true ∧ KwdV K kV kw ∧
      (∃ cl od vs sl file tf, K.lookup cda = some ⟨cl, od, .fields vs, sl⟩ ∧ vs[2]? = some (.str file tf) ∧ ((P.main.file : Str) == file) = true) ∧ ∃ cl cld csl, K.lookup cc = some ⟨cl, cld, .cell (some (.ref D)), csl⟩
  cls : (PySem.W.clsIn K D).isSome = true
structure SupG (K : PySem.W.Frag) (P : Program) : Prop where
  sup : PySem.W.nsIn K mainGlobals "super" = some none
  any : PySem.W.nsIn K cStatics "thirdparty.any" = some none
  top : (P.main.scope.names.lookup ("super" : Str)).isSome = false
/-- a tuple of tuples of ints -/
def TT (H : Hp) (a : Addr) (os : List (List Int)) : Prop := ∃ as : List Addr, H a = some (.tup (as.map V.ref)) ∧ as.length = os.length ∧ ∀ (i : Nat) (q : Addr), as[i]? = some q → ∃ o : List Int, os[i]? = some o ∧ H q = some (.tup (o.map V.int))
theorem TT.same {H H' : Hp} {a : Addr} {os : List (List Int)} (h : TT H a os) (s : Same H H') : TT H' a os := by
  obtain ⟨as, h1, h2, h3⟩ := h
  exact ⟨as, s _ _ h1, h2, fun i q hq => let ⟨o, a, b⟩ := h3 i q hq; ⟨o, a, s _ _ b⟩⟩
theorem TT.sameX {p : Addr} {H H' : Hp} {a : Addr} {os : List (List Int)} {o : HO} (h : TT H a os) (s : SameX p H H') (hp : H p = some o) (no : ∀ xs, o ≠ .tup xs) : TT H' a os := by
  obtain ⟨as, h1, h2, h3⟩ := h
  have ne : ∀ {q : Addr} {xs}, H q = some (.tup xs) → q ≠ p := fun {q xs} h z => by rw [z, hp] at h; exact no _ (Option.some.inj h)
  exact ⟨as, s _ _ (ne h1) h1, h2, fun i q hq => let ⟨o, a, b⟩ := h3 i q hq; ⟨o, a, s _ _ (ne b) b⟩⟩
def upto (n : Nat) : List Int := (List.range n).map Int.ofNat
theorem rg_upto (n : Nat) : rgV 0 (n : Int) = (upto n).map V.int := by
  unfold rgV upto
  rw [List.map_map, show ((n : Int) - 0).toNat = n by omega]
  refine List.map_congr_left fun i _ => ?_
  show V.int (0 + (i : Int)) = V.int (Int.ofNat i)
  rw [Int.zero_add]
  rfl
theorem upto_len (n : Nat) : (upto n).length = n := by
  unfold upto
  rw [List.length_map, List.length_range]
theorem sum_le {ys : List Str} {n : Nat} : (∀ y ∈ ys, y.length ≤ n) → (ys.map (·.length)).sum ≤ n * ys.length := by
  induction ys with
  | nil => intro _; exact Nat.zero_le _
  | cons y r ih =>
    intro h
    rw [List.map_cons, List.sum_cons, List.length_cons, Nat.mul_add, Nat.mul_one]
    have h1 := h y List.mem_cons_self
    have h2 := ih fun z hz => h z (List.mem_cons_of_mem _ hz)
    omega
theorem join_le {a : Str} (ys : List Str) : (Txt.join a ys).length ≤ (ys.map (·.length)).sum + ys.length * a.length := by
  have h := StrLaws.join_length_le a ys
  unfold Txt.join
  rw [StrLaws.glued_eq_join]
  exact h
abbrev NPL : List Str := ["kind", "rules", "words", "ruled", "way", "word"]
theorem Av.sameX {p C dx : Addr} {fs : List (Str × V)} {H H' : Hp} {v : V} (h : Av H v) (hp : H p = some (.ins C dx fs)) (s : SameX p H H') : Av H' v := by
  cases h with
  | str => exact .str _
  | non => exact .non
  | int => exact .int _
  | bl => exact .bl _
  | lst e => exact .lst (s _ _ (fun z => by rw [z, hp] at e; cases e) e)
  | tup e => exact .tup (s _ _ (fun z => by rw [z, hp] at e; cases e) e)
end V4
end

-- V4i
section
set_option Elab.async false
set_option linter.all false
set_option maxRecDepth 100000
set_option exponentiation.threshold 10000
namespace V4
open PySem L2 OwnOps OwnNe G1 StX SupX
/-- what is met as a group -/
inductive Gr (H : Hp) : V → Option (List Str) → Prop
  | tup {a : Addr} {zs : List Str} (e : H a = some (.tup (zs.map V.str))) : Gr H (.ref a) (some zs)
  | lst {a : Addr} {xs : List V} (e : H a = some (.lst xs)) : Gr H (.ref a) none
  | str (x : Str) : Gr H (.str x) none
theorem Gr.same {H H' : Hp} {v : V} {o : Option (List Str)} (g : Gr H v o) (s : Same H H') : Gr H' v o := by
  cases g with
  | tup e => exact .tup (s _ _ e)
  | lst e => exact .lst (s _ _ e)
  | str x => exact .str x
def gOk : Option (List Str) → Bool
  | some zs => decide (2 ≤ zs.length)
  | none => false
theorem tyx_tup {K : PySem.W.Frag} {H : Hp} {a : Addr} {xs : List V} (h : SqT K H a xs) : TyX K H (.ref a) (.type "tuple") := by
  rcases h with (h | ⟨o, h⟩) | ⟨o, its, n, h1, h2, _⟩
  · exact .base (.tup h)
  · exact .fTuple h
  · exact .kTuple h1 h2
/-- the groups, as they are met -/
structure Grs (K : PySem.W.Frag) (H : Hp) (a : Addr) (gs : List V) (os : List (Option (List Str))) : Prop where
  at_ : SqT K H a gs
  len : gs.length = os.length
  it : ∀ (i : Nat) v, gs[i]? = some v → ∃ o, os[i]? = some o ∧ Gr H v o
theorem Grs.same {K : PySem.W.Frag} {H H' : Hp} {a : Addr} {gs : List V} {os : List (Option (List Str))} (g : Grs K H a gs os) (s : Same H H') : Grs K H' a gs os := ⟨Same.tupS s g.at_, g.len, fun i v h => let ⟨o, h1, h2⟩ := g.it i v h; ⟨o, h1, h2.same s⟩⟩
def texts (os : List (Option (List Str))) : List Str := os.flatMap fun o => o.getD []
def grpB (os : List (Option (List Str))) (pins : List Str) : Bool := os.all gOk && (difV ((texts os).map V.str) && (texts os).all fun z => pins.contains z)
abbrev rLenQ (K : PySem.W.Frag) : List V → Hp → VK → Prop := fun xs H Q => ∃ p ys, xs = [.ref p] ∧ (SqL K H p ys ∨ SqT K H p ys) ∧ Q (.int ys.length) H
theorem eqV_str (a b : Str) : eqV (.str a) (.str b) = decide (a = b) := by
  show (a == b) = decide (a = b)
  by_cases h : a = b
  · rw [h, decide_eq_true rfl]; exact beq_self_eq_true _
  · rw [decide_eq_false h]; exact beq_eq_false_iff_ne.mpr h
theorem inV_str (x : Str) (xs : List Str) : inV (.str x) (xs.map V.str) = xs.contains x := by
  unfold inV
  rw [List.any_map]
  induction xs with
  | nil => rfl
  | cons y r ih =>
    rw [List.any_cons, List.contains_cons, ih]
    congr 1
    show eqV (.str y) (.str x) = _
    rw [eqV_str]
    by_cases h : y = x
    · rw [h, decide_eq_true rfl]; exact (beq_self_eq_true _).symm
    · rw [decide_eq_false h]; exact (beq_eq_false_iff_ne.mpr (Ne.symm h)).symm
theorem flat_strs (xs : List Str) : (xs.map V.str).all flatV = true := by
  rw [List.all_map]
  exact List.all_eq_true.mpr fun _ _ => rfl
theorem texts_succ {os : List (Option (List Str))} {i : Nat} {o : Option (List Str)} (h : os[i]? = some o) : texts (os.take (i + 1)) = texts (os.take i) ++ o.getD [] := by
  unfold texts
  rw [take_succ_at h, List.flatMap_append]
  simp
theorem texts_le {os : List (Option (List Str))} (i : Nat) : (texts (os.take i)).length ≤ (texts os).length := by
  unfold texts
  have e : os = os.take i ++ os.drop i := (List.take_append_drop i os).symm
  have : (os.flatMap fun o => o.getD []).length = ((os.take i).flatMap fun o => o.getD []).length + ((os.drop i).flatMap fun o => o.getD []).length := by
    rw [← List.length_append, ← List.flatMap_append, ← e]
  omega
abbrev NGr : List Str := ["swaps", "pins", "grouped", "group", "pin"]
section
variable {P : Program} {w : World} {K : PySem.W.Frag} {mg : Str → Option Value} {base : Heap}
def spGrp (K : PySem.W.Frag) : Sp := fun vs H Q _ => ∃ v pa pins, vs = [v, .ref pa] ∧ SqT K H pa (pins.map V.str) ∧ ((Av H v ∧ (∀ a xs, v = .ref a → H a ≠ some (.tup xs)) ∧ Q (.bl false) H) ∨
  ∃ a gs os, v = .ref a ∧ Grs K H a gs os ∧ gs.length ≤ 10 ∧ (texts os).length ≤ 40 ∧ (∀ z ∈ texts os, z.length ≤ 1000) ∧ ∀ H', Same H H' → Q (.bl (grpB os pins)) H')
theorem ok_grp {f : Addr} {fd : FuncData} (F : Fun K "_are_groups" "_are_groups" sGrp f fd) (T : Bi mg) (GD : Glb P w K mg base "are_different_words" 2 ["values"] (spDiff K)) : FnOk P w K mg base (L2.CX P w) 3 f fd ["swaps", "pins"] (spGrp K) := by
  obtain ⟨_, _, mD, kD, GD, bD⟩ := GD.ex
  have sc : FnScope NGr ["swaps", "pins"] (defScope sGrp) := ⟨rfl, rfl, rfl, by decide +kernel, rfl, by decide +kernel, by decide +kernel⟩
  have hN := sc.nd
  refine F.okX sc (fun vs H Q E h => ?_) (fun cdv A outer s H vs Q E hr h => ?_)
  · obtain ⟨v, pa, pins, rfl, _⟩ := h
    rfl
  · obtain ⟨v, pa, pins, rfl, hpa, k⟩ := h
    refine ⟨_, pss_cons (ps_if (pt_not (pt_val (pe_callB call_isi (by rfl) T.isi (by decide +kernel) (pa_cons (pv 0) (pa_cons (pe_bltn (v := .ty "tuple") (by rfl) T.tuple (by decide +kernel) rfl) pa_nil))))) (pss_one (ps_ret pe_bl)) pss_nil)
      (pss_cons (ps_if (pt_not (pt_val (pe_callB (cr_all rfl) (by rfl) T.all (by decide +kernel) (pa_cons (pe_lc (own := [("group", 3)]) (g := gName 3) (tt := tYes) (te := tAndV (tCB (rIsi K) (tCons (tVar 3) (tCons (tC (.ty "tuple")) tNil))) (tOp (rI0 fun i j => .bl (decide (j ≤ i))) (tCB (rLenQ K) (tCons (tVar 3) tNil)) (tC (.int 2)))) rfl hN (pi_tup (pv 0))
          (blkOk_by (N := NGr) (sc := defScope sGrp) (by decide +kernel)) (fun _ _ _ _ _ => pg_name (i := 3) hN rfl (Or.inl rfl)) (fun _ _ _ _ _ => pts_nil)
          (fun _ _ _ _ _ => pe_and (pe_callB (id := "isinstance") (show CallR _ (.builtin "isinstance") (rIsi K) from call_isi) (by rfl) T.isi (by decide +kernel) (pa_cons (pv 3) (pa_cons (pe_bltn (v := .ty "tuple") (by rfl) T.tuple (by decide +kernel) rfl) pa_nil))) (pe_one (pe_cmpR op_ge (pe_callB call_len_seq (by rfl) T.len PySem.boot_len (pa_cons (pv 3) pa_nil)) pe_int (nomark _))))) pa_nil)))) (pss_one (ps_ret pe_bl)) pss_nil)
      (pss_cons (ps_setLc2 (i := 2) (own := [("group", 3), ("pin", 4)]) (vs1 := [4]) (g := gName 3) (g1 := gName 4) (tt := tYes) (tt1 := tYes) (wi1 := iTup K (tVar 3)) (te := tVar 4) rfl hN rfl rfl (sw_true rfl rfl rfl (by decide +kernel)) (pi_tup (pv 0))
          (blkOk_by (N := NGr) (sc := defScope sGrp) (by decide +kernel)) (by decide) (fun _ _ _ _ _ => pg_name (i := 3) hN rfl (Or.inl rfl)) (fun _ _ _ _ _ => pts_nil) (fun _ _ _ _ _ => pi_tup (pv 3)) (fun _ _ _ _ _ => pg_name (i := 4) hN rfl (Or.inl rfl)) (fun _ _ _ _ _ => pts_nil) (fun _ _ _ _ _ => pv 4))
      (pss_one (ps_ret (pe_and (pe_call GD hr (by rfl) mD kD bD .nil passL (pa_cons (pv 2) pa_nil)) (pe_one (pe_callB (cr_all rfl) (by rfl) T.all (by decide +kernel) (pa_cons
          (pe_lc (own := [("pin", 4)]) (g := gName 4) (tt := tYes) (te := tOp (rIn K false) (tVar 4) (tVar 1)) rfl hN (pi_list (pv 2)) (blkOk_by (N := NGr) (sc := defScope sGrp) (by decide +kernel)) (fun _ _ _ _ _ => pg_name (i := 4) hN rfl (Or.inl rfl)) (fun _ _ _ _ _ => pts_nil)
            (fun _ _ _ _ _ => pe_cmpR op_in_seq (pv 4) (pv 1) (by rfl))) pa_nil)))))))), ?_⟩
    have line : 1000 ≤ sizeLine := by decide
    rcases k with ⟨av, nt, k⟩ | ⟨a, gs, os, rfl, gr, n10, n40, sh, k⟩
    · cases av with
      | non => exact ⟨_, rfl, _, _, _, _, _, rfl, .ty _, .base .non, kit_ty (r := false) (by decide +kernel), _, rfl, if_pos' rfl k⟩
      | str x => exact ⟨_, rfl, _, _, _, _, _, rfl, .ty _, .base (.str _), kit_ty (r := false) (by decide +kernel), _, rfl, if_pos' rfl k⟩
      | int i => exact ⟨_, rfl, _, _, _, _, _, rfl, .ty _, .base (.int i), kit_ty (r := false) (by decide +kernel), _, rfl, if_pos' rfl k⟩
      | bl b => exact ⟨_, rfl, _, _, _, _, _, rfl, .ty _, .base (.bl b), kit_ty (r := false) (by decide +kernel), _, rfl, if_pos' rfl k⟩
      | lst e => exact ⟨_, rfl, _, _, _, _, _, rfl, .ty _, .base (.lst e), kit_ty (r := false) (by decide +kernel), _, rfl, if_pos' rfl k⟩
      | tup e => exact absurd e (nt _ _ rfl)
    refine ⟨_, rfl, _, _, _, _, _, rfl, .ty _, tyx_tup gr.at_, kit_ty (r := true) (by decide +kernel), _, rfl, if_neg' rfl ?_⟩
    refine ⟨_, rfl, a, rfl, ⟨_, gr.at_⟩, fun D nD => ?_⟩
    refine walk_it (walk_tup (K := K) (a := a) (xs := gs)) (fun i G => Same H G ∧ G D = some (.lst (((os.take i).map gOk).map V.bl))) ⟨same_upd nD, upd_same⟩ (fun i G _ ⟨sm, _⟩ => Same.tupS sm gr.at_) (fun i v G G' hi ⟨sm, hD⟩ ⟨e, hx⟩ => ?_) (fun G ⟨sm, hD⟩ => ?_)
    · subst e
      obtain ⟨o, ho, g⟩ := gr.it i v hx
      have g := g.same sm
      have room : (((os.take i).map gOk).map V.bl).length < sizeLine := by
        rw [List.length_map, List.length_map, List.length_take]
        have := gr.len
        omega
      have nxt : ∀ b, b = gOk o → (upd G' D (.lst (((os.take i).map gOk).map V.bl ++ [V.bl b]))) D = some (.lst (((os.take (i + 1)).map gOk).map V.bl)) := fun b e => by
        rw [upd_same, take_succ_at ho, List.map_append, List.map_append, e]
        rfl
      cases g with
      | @tup q zs h1 =>
        exact ⟨rfl, yes_go (iteT ⟨_, rfl, _, _, _, _, _, rfl, .ty _, .base (.tup h1), kit_ty (r := true) (by decide +kernel), _, rfl, if_pos' rfl ⟨_, rfl, _, _, rfl, .inr (SqT.of h1), _, _, rfl, rfl, _, hD, room, same_put sm nD, nxt _ (by
          show decide ((2 : Int) ≤ ((List.map V.str zs).length : Nat)) = decide _
          rw [List.length_map, decide_eq_decide]
          omega)⟩⟩)⟩
      | str x => exact ⟨rfl, yes_go (iteT ⟨_, rfl, _, _, _, _, _, rfl, .ty _, .base (.str _), kit_ty (r := false) (by decide +kernel), _, rfl, if_neg' rfl ⟨_, hD, room, same_put sm nD, nxt _ rfl⟩⟩)⟩
      | lst h1 => exact ⟨rfl, yes_go (iteT ⟨_, rfl, _, _, _, _, _, rfl, .ty _, .base (.lst h1), kit_ty (r := false) (by decide +kernel), _, rfl, if_neg' rfl ⟨_, hD, room, same_put sm nD, nxt _ rfl⟩⟩)⟩
    rw [show os.take gs.length = os by rw [gr.len]; exact List.take_length] at hD
    refine ⟨D, _, rfl, SqL.of hD, _, rfl, ?_⟩
    rw [List.all_map, show (os.all (id ∘ gOk)) = os.all gOk from rfl]
    cases ha : os.all gOk with
    | false =>
      refine if_pos' rfl ?_
      have z := k G sm
      unfold grpB at z
      rw [ha] at z
      exact z
    | true =>
    refine if_neg' rfl ?_
    have gr1 := gr.same sm
    refine ⟨_, rfl, a, rfl, ⟨_, gr1.at_⟩, fun D2 nD2 => ?_⟩
    refine walk_it (walk_tup (K := K) (a := a) (xs := gs)) (fun i G2 => Same G G2 ∧ G2 D2 = some (.lst ((texts (os.take i)).map V.str))) ⟨same_upd nD2, upd_same⟩ (fun i G2 _ ⟨sm2, _⟩ => Same.tupS sm2 gr1.at_) (fun i v G2 G3 hi ⟨sm2, hD2⟩ ⟨e, hx⟩ => ?_) (fun G2 ⟨sm2, hD2⟩ => ?_)
    · subst e
      obtain ⟨o, ho, g⟩ := gr1.it i v hx
      have g := g.same sm2
      have ok : gOk o = true := List.all_eq_true.mp ha o (List.mem_of_getElem? ho)
      cases g with
      | str x => cases ok
      | lst h => cases ok
      | @tup q zs h1 =>
      have le1 := texts_le (os := os) (i + 1)
      rw [texts_succ ho, List.length_append] at le1
      refine ⟨rfl, yes_go (iteT ⟨_, rfl, q, rfl, ⟨_, SqT.of h1⟩, ?_⟩)⟩
      refine walk_it (walk_tup (K := K) (a := q) (xs := zs.map V.str)) (fun j G4 => Same G G4 ∧ G4 q = some (.tup (zs.map V.str)) ∧ G4 D2 = some (.lst ((texts (os.take i) ++ zs.take j).map V.str))) ⟨sm2, h1, by rw [List.take_zero, List.append_nil]; exact hD2⟩ (fun j G4 _ h => SqT.of h.2.1) (fun j y G4 G5 hj ⟨sm4, e4, hD4⟩ ⟨e, hy⟩ => ?_) (fun G4 ⟨sm4, e4, hD4⟩ => ?_)
      · subst e
        rw [List.getElem?_map] at hy
        obtain ⟨z, hz, rfl⟩ := Option.map_eq_some_iff.mp hy
        have ne : q ≠ D2 := fun w => by rw [w, hD4] at e4; cases e4
        refine ⟨rfl, yes_go (iteT ⟨_, rfl, _, hD4, ?_, same_put sm4 nD2, by rw [upd_ne ne]; exact e4, ?_⟩)⟩
        · rw [List.length_map, List.length_append, List.length_take]
          have : min j zs.length ≤ zs.length := Nat.min_le_right _ _
          have e : (Option.getD (some zs) ([] : List Str)).length = zs.length := rfl
          omega
        · rw [upd_same, take_succ_at hz, ← List.append_assoc]
          simp only [List.map_append]
          rfl
      · refine ⟨sm4, ?_⟩
        rw [List.length_map, List.take_length] at hD4
        rw [texts_succ ho]
        exact hD4
    rw [show os.take gs.length = os by rw [gr.len]; exact List.take_length] at hD2
    have sm02 := sm.trans sm2
    refine ⟨_, rfl, D2, _, rfl, .inl (SqL.of hD2), by rw [List.length_map]; omega, fun y hy => ?_, fun G3 s3 => ?_⟩
    · obtain ⟨z, hz, rfl⟩ := List.mem_map.mp hy
      exact ⟨.str z, sh z hz⟩
    cases hd : difV ((texts os).map V.str) with
    | false =>
      refine ⟨_, rfl, if_neg' rfl ?_⟩
      have z := k G3 (sm02.trans s3)
      unfold grpB at z
      rw [ha, hd] at z
      exact z
    | true =>
    have hD3 := s3 _ _ hD2
    have hpa3 := Same.tupS s3 (Same.tupS sm02 hpa)
    refine ⟨_, rfl, if_pos' rfl ⟨_, rfl, D2, rfl, ⟨_, SqL.of hD3⟩, fun D4 nD4 => ?_⟩⟩
    refine walk_it (walk_list (K := K) (a := D2) (xs := (texts os).map V.str)) (fun i G4 => Same G3 G4 ∧ G4 D4 = some (.lst ((((texts os).take i).map fun z => pins.contains z).map V.bl))) ⟨same_upd nD4, upd_same⟩ (fun i G4 _ ⟨sm4, _⟩ => SqL.of (sm4 _ _ hD3)) (fun i v G4 G5 hi ⟨sm4, hD4⟩ ⟨e, hx⟩ => ?_) (fun G4 ⟨sm4, hD4⟩ => ?_)
    · subst e
      rw [List.getElem?_map] at hx
      obtain ⟨z, hz, rfl⟩ := Option.map_eq_some_iff.mp hx
      refine ⟨rfl, yes_go (iteT ⟨_, rfl, _, rfl, pa, _, rfl, .inr (Same.tupS sm4 hpa3), rfl, flat_strs _, _, hD4, ?_, same_put sm4 nD4, ?_⟩)⟩
      · rw [List.length_map, List.length_map, List.length_take]
        omega
      · rw [upd_same, take_succ_at hz, inV_str]
        simp only [List.map_append]
        rfl
    · rw [List.length_map, List.take_length] at hD4
      refine ⟨D4, _, rfl, SqL.of hD4, ?_⟩
      have z := k G4 (sm02.trans (s3.trans sm4))
      unfold grpB at z
      rw [ha, hd] at z
      rw [List.all_map]
      exact z
end
end V4
end

-- EnumT
section
set_option Elab.async false
set_option maxRecDepth 100000
/-! enumerate over a tuple, for the hand layer -/
namespace EnumT
open PySem PySem.Spec PyProof.Rows L2
open Sem (wp)

set_option maxHeartbeats 1000000 in
theorem enumNew {v : Value} {ob : Obj} {Hs : Heap → Prop} (B : Begins v ob Hs) :
    Meets (Builtin.«enumerate.__new__» ⟨[.type "enumerate", v], []⟩) (fun _ R s => Hs s.heap ∧
      R (.ok (.ret (.ref (s.heap.push ob).objs.size))) { s with heap := (s.heap.push ob).push { cls := .type "enumerate", data := .fields #[.none, .bool false, .ref s.heap.objs.size, rawInt 0, .none, .none] } }) := by
  refine .of_wp fun P w A R s hR => ?_
  obtain ⟨hp, gl, dd, tk, os⟩ := s
  obtain ⟨hs, hr⟩ := hR
  have sub := sub_enumerate
  have fwd : ∀ {A' : Around} {E : Value → Shared → Prop} {Q : Value → Shared → Prop}, Q (.ref hp.objs.size) ⟨hp.push ob, gl, dd, tk, os⟩ → wpAny (model P w) A' (pyIter v) Q E ⟨hp, gl, dd, tk, os⟩ :=
    fun q => B.iter P w _ _ ⟨hp, gl, dd, tk, os⟩ _ hs q
  wp_walk using fwd
  refine wpAny_stack_any fun st => wpAny_pure ?_
  split
  · rename_i c _ _ _ _ _
    rcases hb : (c == Value.type "enumerate") with _ | _
    all_goals
      wp_walk using fwd
      exact ⟨_, rfl, hr⟩
  · wp_walk using fwd
    exact ⟨_, rfl, hr⟩

theorem enumOver {P : Program} {w : World} {A : Around} {E : Value → Shared → Prop} {s : Shared} {v : Value} {ob : Obj} {Hs : Heap → Prop} {Q : Value → Shared → Prop} (B : Begins v ob Hs) (hs : Hs s.heap)
    (k : ∀ h', IsEnum h' (s.heap.objs.size + 1) s.heap.objs.size 0 .none → h'.get? s.heap.objs.size = some ob →
      (∀ b o, s.heap.get? b = some o → h'.get? b = some o) → Q (.ref (s.heap.objs.size + 1)) { s with heap := h' }) :
    wpAny (model P w) A (call (.type "enumerate") [v]) Q E s := by
  refine callType_new F.called_enumerate (by decide) (F.typeCall_enumerate_1 _) (F.newCall_enumerate_1 _) (fun obj => F.args_object_init_2 obj _) F.entry_enumerate_new
    (enumNew B) ⟨hs, ?_⟩
  have z : (s.heap.push ob).objs.size = s.heap.objs.size + 1 := Heap.size_push ..
  have he := Heap.get?_push_size (s.heap.push ob) (o := { cls := .type "enumerate", data := .fields #[.none, .bool false, .ref s.heap.objs.size, rawInt 0, .none, .none] }) rfl
  show _ ∧ _
  rw [z] at he ⊢
  exact ⟨⟨_, he, rfl⟩, k _ he (Heap.get?_push_of_some _ (Heap.get?_push_size _ B.free)) fun b o x => Heap.get?_push_of_some _ (Heap.get?_push_of_some _ x)⟩

/-- the tuple at a, each item in a new pair -/
def ItE (K : PySem.W.Frag) (a : Addr) : It :=
  ⟨fun i H => ∃ (xs : List V) (x : V), SqT K H a xs ∧ xs[i]? = some x,
   fun i H v H' => ∃ T x, v = .ref T ∧ H T = none ∧ H' = upd H T (.tup [.int (i : Nat), x]) ∧ ∀ xs, SqT K H a xs → xs[i]? = some x,
   fun i H => ∃ xs : List V, SqT K H a xs ∧ xs.length ≤ i⟩

theorem turnE {P : Program} {w : World} {K : PySem.W.Frag} {elts : List Expr} {kk : Nat} {tpos : Pos} (a e it : Addr) :
    Turn P w K (.Tuple elts kk tpos) (ItE K a) [e, it] e (fun i h => (∃ old, IsEnum h e it ((i : Nat) : Int) old) ∧ h.IsTupleIter it a i ∧ e ≠ it) where
  mem := List.mem_cons_self ..
  obj := by
    rintro i h ⟨⟨old, he⟩, ⟨o, ho, hc, hd⟩, _⟩ b hb
    rcases List.mem_cons.mp hb with rfl | hb
    · exact ⟨_, he, fun v q => nomatch q⟩
    · obtain rfl := List.mem_singleton.mp hb
      exact ⟨o, ho, fun v q => by rw [hd] at q; cases q⟩
  keep := by
    rintro i h h' ⟨⟨old, he⟩, hi, ne⟩ k
    exact ⟨⟨old, k e (by simp) _ he⟩, hi.at fun o q => k it (by simp) o q, ne⟩
  item := by
    intro X hP hw hK hc i pins s σ H E I hf st hg
    subst hP hw hK
    obtain ⟨⟨old, he⟩, hit, hne⟩ := st
    obtain ⟨xs, x, hq, hx⟩ := hg
    obtain ⟨its, rv, p, hz⟩ := I.tuple hq
    obtain ⟨u, hu, ru⟩ := rv.get hx
    have ai : a ≠ it := by
      obtain ⟨o, ho, hc, _⟩ := p
      obtain ⟨o', ho', hc', _⟩ := hit
      intro z
      subst z
      rw [ho] at ho'
      cases ho'
      rw [hc] at hc'
      exact absurd hc' (by decide)
    have ae : e ≠ a := by
      obtain ⟨o, ho, hc, _⟩ := p
      intro z
      subst z
      have e' := he.symm.trans ho
      cases e'
      exact absurd (show Value.type "enumerate" = Value.type "tuple" from hc) (by decide)
    have hel : e < s.heap.objs.size := Heap.lt_size he
    have hil : it < s.heap.objs.size := by obtain ⟨_, q, _⟩ := hit; exact Heap.lt_size q
    have lt : i < its.toArray.size := by
      have := List.getElem?_eq_some_iff.mp hu
      simpa using this.1
    refine wpAny_pyNext_enum_itemC (Draws.tuple (A := X.A.in1) (I.ok.hd hc) it a ai its.toArray) he ⟨hit, p⟩ lt hne (by simp [hne, ae]) fun y h' tk hy ho st' hT hsz hk => ?_
    obtain rfl : y = u := by
      have hy' : its[i]? = some y := by simpa using hy
      exact Option.some.inj (hy'.symm.trans hu)
    refine ⟨_, rfl, wpAny_letOwnedTupleGo_enum (s := { s with heap := h', toks := tk + 1 }) ho fun h'' he' sb => ?_⟩
    have hT2 : h''.get? s.heap.objs.size = some { cls := .type "tuple", data := .seq #[.int i tk, y] } := (sb.2 _ (Nat.ne_of_gt hel)).trans hT
    have new : ObjOk X.prog X.w (upd H s.heap.objs.size (.tup [.int (i : Nat), x])) h'' s.heap.objs.size (.tup [.int (i : Nat), x]) :=
      ⟨by show 2 ≤ sizeLine; decide, [.int i tk, y], .cons ⟨_, rfl⟩ (.cons ru .nil), ⟨_, hT2, rfl, _, rfl⟩⟩
    have I1 : Inv X pins σ (upd H s.heap.objs.size (.tup [.int (i : Nat), x])) { s with heap := h'', toks := tk + 1 } :=
      I.turnedNew (ch := [e, it]) (fun b ob hb q => (sb.2 b (fun z => hb (by simp [z]))).trans (hk b ob (fun z => hb (by simp [z])) (fun z => hb (by simp [z])) q)) hf (Nat.le_refl _) new
    refine ⟨.ref s.heap.objs.size, _, I1, rfl, ⟨_, x, rfl, I.hok.fresh (Nat.le_refl _), rfl, fun ys hy => by rw [I.tuple_inj hy hq]; exact hx⟩, ⟨⟨y, ?_⟩, st'.1.at fun o q => (sb.2 it (Ne.symm hne)).trans q, hne⟩, fun b hb => ?_⟩
    · rw [Int.natCast_succ]; exact he'
    · have lt2 : b < s.heap.objs.size := by
        rcases List.mem_cons.mp hb with rfl | h2
        · exact hel
        · exact (List.mem_singleton.mp h2) ▸ hil
      rw [upd_ne (Nat.ne_of_lt lt2)]
      exact (hf b hb).1
  done := by
    intro X hP hw hK hc i pins s σ H E I hf st hg
    subst hP hw hK
    obtain ⟨⟨old, he⟩, hit, hne⟩ := st
    obtain ⟨xs, hq, hx⟩ := hg
    obtain ⟨its, rv, p, hz⟩ := I.tuple hq
    obtain ⟨f0, f1, f2, f3, f4, f5⟩ := hf it (by simp)
    have hl := rv.length
    have D : Draws X.prog X.w X.A.in1 it [it, a] i (fun _ _ => True) (fun j h => j = i ∧ h.IsTupleIter it a i ∧ h.IsTuple a its.toArray) :=
      { live := fun j h q => let ⟨o, ho, _⟩ := q.2.1; ⟨o, ho⟩
        frame := fun j h h' q k => ⟨q.1, q.2.1.at fun o e => k it (by simp) o e, q.2.2.at fun o e => k a (by simp) o e⟩
        item := fun j s Q E lt q => absurd q.1 (Nat.ne_of_lt lt)
        done := fun s Q E q h => wpAny_nextOf_tuple_end (I.ok.hd hc) q.2.1 q.2.2 (by simp; omega) h }
    exact wpAny_pyNext_enum_endD D he ⟨rfl, hit, p⟩ fun h' eb => ⟨rfl, I.turned (t' := s.toks) (fun b o hb q => eb b o hb q) f0 f1 f3 f4 f5⟩
  self := fun A i s Q E st h => let ⟨⟨_, he⟩, _⟩ := st; wpAny_pyIter_enum he h

def iEnumT (K : PySem.W.Frag) (ta : TA) : TI := fun σ H R => ta σ H fun vs H1 => ∃ a xs, vs = [.ref a] ∧ SqT K H1 a xs ∧ R (ItE K a) H1

theorem pi_enumT {X : Cx} {e : Expr} {ta : TA} {p pos tpos : Pos} {elts : List Expr} {kk : Nat} (hg : Gl X "enumerate") (hm : X.mg "enumerate" = none) (ha : PA X [e] ta) (hs : starEach [e] X.env = [(false, eval e X.env)] := by rfl) :
    PI X (.Tuple elts kk tpos) (.Call (.Name "enumerate" p) [e] [] pos) (iEnumT X.K ta) := by
  constructor
  intro pins s σ H R I h
  refine Call_ (ld_blt I hg hm boot_enumerate (PyProof.Rows.callWith_type1 (thn (ha.run pos pins s σ H _ I h) fun us s1 ⟨vs, H1, I1, r1, a, xs, ex, hq, q⟩ => ?_) hs rfl))
  subst ex
  rcases r1 with _ | ⟨r, rr⟩
  cases rr
  cases r
  obtain ⟨its, rv, p', hz⟩ := I1.tuple hq
  refine enumOver (begins_tuple a its.toArray) p' fun h' he hit hk => wpAny_pyIter_enum he ?_
  have I2 : Inv X pins σ H1 { s1 with heap := h' } := I1.kept (t' := s1.toks) hk
  refine ⟨s1.heap.objs.size + 1, [s1.heap.objs.size + 1, s1.heap.objs.size], _, _, H1, rfl, I2, turnE a _ s1.heap.objs.size, ⟨⟨.none, he⟩, ⟨_, hit, rfl, rfl⟩, Nat.succ_ne_self _⟩, fun b hb => ?_, q⟩
  have le : s1.heap.objs.size ≤ b := by
    rcases List.mem_cons.mp hb with rfl | hb
    · exact Nat.le_succ _
    · exact Nat.le_of_eq (List.mem_singleton.mp hb).symm
  exact I1.fpOk le (I1.hok.fresh le)
end EnumT
end

-- V4j
section
set_option Elab.async false
set_option linter.all false
set_option maxRecDepth 100000
set_option exponentiation.threshold 10000
namespace V4
open PySem L2 OwnOps OwnNe G1 StX SupX EnumT
/-- lists of texts, in a list -/
structure LLt (H : Hp) (a : Addr) (gss : List (List Str)) (qs : List Addr) : Prop where
  at_ : H a = some (.lst (qs.map V.ref))
  len : qs.length = gss.length
  it : ∀ (i : Nat) (q : Addr), qs[i]? = some q → ∃ g, gss[i]? = some g ∧ H q = some (.lst (g.map V.str))
theorem LLt.same {H H' : Hp} {a : Addr} {gss : List (List Str)} {qs : List Addr} (g : LLt H a gss qs) (s : Same H H') : LLt H' a gss qs := ⟨s _ _ g.at_, g.len, fun i v h => let ⟨o, h1, h2⟩ := g.it i v h; ⟨o, h1, s _ _ h2⟩⟩
def gmates (pin : Str) (gss : List (List Str)) : List Str := gss.flatMap fun g => if g.contains pin then g else []
def mOk (pin : Str) (ms pins : List Str) (i : Nat) : Bool := decide (pins.getD i Str.empty = pin) || ms.contains (pins.getD i Str.empty)
def mTo (pin : Str) (ms pins : List Str) (n : Nat) : List Nat := (List.range n).filter fun i => mOk pin ms pins i
def matesT (pin : Str) (pins : List Str) (gss : List (List Str)) : List Nat := mTo pin (gmates pin gss) pins pins.length
def nV (n : Nat) : V := .int (n : Int)
theorem gmates_succ {pin : Str} {gss : List (List Str)} {i : Nat} {g : List Str} (h : gss[i]? = some g) : gmates pin (gss.take (i + 1)) = gmates pin (gss.take i) ++ (if g.contains pin then g else []) := by
  unfold gmates
  rw [take_succ_at h, List.flatMap_append]
  simp
theorem gmates_le {pin : Str} {gss : List (List Str)} (i : Nat) : (gmates pin (gss.take i)).length ≤ (gmates pin gss).length := by
  have e : gss = gss.take i ++ gss.drop i := (List.take_append_drop i gss).symm
  have : (gmates pin gss).length = (gmates pin (gss.take i)).length + (gmates pin (gss.drop i)).length := by
    unfold gmates
    rw [← List.length_append, ← List.flatMap_append, ← e]
  omega
theorem gmates_flat {pin : Str} (gss : List (List Str)) : (gmates pin gss).length ≤ gss.flatten.length := by
  unfold gmates
  induction gss with
  | nil => exact Nat.le_refl _
  | cons g r ih =>
    rw [List.flatMap_cons, List.flatten_cons, List.length_append, List.length_append]
    split
    · omega
    · simp only [List.length_nil]
      omega
theorem mTo_succ {pin : Str} {ms pins : List Str} (n : Nat) : mTo pin ms pins (n + 1) = mTo pin ms pins n ++ (if mOk pin ms pins n = true then [n] else []) := by
  unfold mTo
  rw [List.range_succ, List.filter_append]
  congr 1
  by_cases h : mOk pin ms pins n = true
  · rw [if_pos h, List.filter_cons_of_pos h]
    rfl
  · rw [if_neg h, List.filter_cons_of_neg h]
    rfl
theorem mTo_len {pin : Str} {ms pins : List Str} (n : Nat) : (mTo pin ms pins n).length ≤ n := by
  unfold mTo
  have := List.length_filter_le (fun i => mOk pin ms pins i) (List.range n)
  rw [List.length_range] at this
  exact this
theorem getD_at {pins : List Str} {i : Nat} {x : Str} (h : pins[i]? = some x) : pins.getD i Str.empty = x := by
  rw [List.getD_eq_getElem?_getD, h]
  rfl
theorem walk_enumT {K : PySem.W.Frag} {a : Addr} {xs : List V} : Walk (ItE K a) xs.length (fun H => SqT K H a xs) (YPair (fun i => some (.int (i : Nat))) (fun i => xs[i]?)) := by
  refine ⟨fun i _ hi q => ⟨xs, xs[i], q, by simp [hi]⟩, fun _ q => ⟨xs, q, Nat.le_refl _⟩, fun i H v H' _ q y => ?_⟩
  obtain ⟨T, x, h1, h2, h3, h4⟩ := y
  exact ⟨T, .int (i : Nat), x, h1, h2, h3, rfl, h4 xs q⟩
theorem in_b (x : Str) (xs : List Str) : (if false = true then !inV (.str x) (xs.map V.str) else inV (.str x) (xs.map V.str)) = xs.contains x := (if_neg Bool.false_ne_true).trans (inV_str x xs)
abbrev NMt : List Str := ["pin", "pins", "groups", "mates", "group", "mate", "index", "other"]
section
variable {P : Program} {w : World} {K : PySem.W.Frag} {mg : Str → Option Value} {base : Heap}
def spMat (K : PySem.W.Frag) : Sp := fun vs H Q _ => ∃ pin pa pins ga gss qs, vs = [.str pin, .ref pa, .ref ga] ∧ SqT K H pa (pins.map V.str) ∧ LLt H ga gss qs ∧ pins.length ≤ 100 ∧ gss.length ≤ 100 ∧ gss.flatten.length ≤ 100 ∧
  ∀ r H', Same H H' → H' r = some (.lst ((matesT pin pins gss).map nV)) → Q (.ref r) H'
theorem ok_mat {f : Addr} {fd : FuncData} (F : Fun K "_mates" "_mates" sMat f fd) (T : Bi mg) : FnOk P w K mg base (L2.CX P w) 3 f fd ["pin", "pins", "groups"] (spMat K) := by
  have sc : FnScope NMt ["pin", "pins", "groups"] (defScope sMat) := ⟨rfl, rfl, rfl, by decide +kernel, rfl, by decide +kernel, by decide +kernel⟩
  have hN := sc.nd
  refine F.okX sc (fun vs H Q E h => ?_) (fun cdv A outer s H vs Q E hr h => ?_)
  · obtain ⟨pin, pa, pins, ga, gss, qs, rfl, _⟩ := h
    rfl
  · obtain ⟨pin, pa, pins, ga, gss, qs, rfl, hpa, hg, n1, n2, n3, k⟩ := h
    refine ⟨_, pss_cons (ps_set (i := 3) hN rfl (Or.inr rfl) (pe_lc2 (own := [("group", 4), ("mate", 5)]) (vs1 := [5]) (g := gName 4) (g1 := gName 5) (tt := tTest (tOp (rIn K false) (tVar 0) (tVar 4))) (tt1 := tYes) (wi1 := iList K (tVar 4)) (te := tVar 5) rfl hN (pi_list (pv 2))
          (blkOk_by (N := NMt) (sc := defScope sMat) (by decide +kernel)) (by decide) (fun _ _ _ _ _ => pg_name (i := 4) hN rfl (Or.inl rfl)) (fun _ _ _ _ _ => pts_one (pt_cmpR op_in_seq (pv 0) (pv 4) (by rfl))) (fun _ _ _ _ _ => pi_list (pv 4)) (fun _ _ _ _ _ => pg_name (i := 5) hN rfl (Or.inl rfl)) (fun _ _ _ _ _ => pts_nil) (fun _ _ _ _ _ => pv 5)))
      (pss_one (ps_ret (pe_lc (own := [("index", 6), ("other", 7)]) (g := gTup K 2 (gCons (gName 6) (gCons (gName 7) gNil))) (tt := tOr (tTest (tOp rEq (tVar 7) (tVar 0))) (tTest (tOp (rIn K false) (tVar 7) (tVar 3)))) (te := tVar 6) rfl hN (pi_enumT (by rfl) T.enum (pa_cons (pv 1) pa_nil))
          (blkOk_by (N := NMt) (sc := defScope sMat) (by decide +kernel)) (fun _ _ _ _ _ => pg_two (i := 6) (j := 7) rfl hN rfl (Or.inl rfl) rfl (Or.inl rfl)) (fun _ _ _ _ _ => pts_one (PW.pt (pw_or (pt_cmpR op_eq (pv 7) (pv 0) (nomark _)) (pw_or1 (pt_cmpR op_in_seq (pv 7) (pv 3) (by rfl)))))) (fun _ _ _ _ _ => pv 6)))), ?_⟩
    have line : 1000 ≤ sizeLine := by decide
    have few := gmates_flat (pin := pin) gss
    refine ⟨_, rfl, ga, rfl, ⟨_, SqL.of hg.at_⟩, fun D nD => ?_⟩
    refine walk_it (walk_list (K := K) (a := ga) (xs := qs.map V.ref)) (fun i G => Same H G ∧ G D = some (.lst ((gmates pin (gss.take i)).map V.str))) ⟨same_upd nD, upd_same⟩ (fun i G _ ⟨sm, _⟩ => SqL.of (sm _ _ hg.at_)) (fun i v G G' hi ⟨sm, hD⟩ ⟨e, hx⟩ => ?_) (fun G ⟨sm, hD⟩ => ?_)
    · subst e
      rw [List.getElem?_map] at hx
      obtain ⟨q, hq, rfl⟩ := Option.map_eq_some_iff.mp hx
      obtain ⟨g, hgi, hq0⟩ := hg.it i q hq
      have hgq := sm _ _ hq0
      have ne : q ≠ D := fun w => by rw [w, nD] at hq0; cases hq0
      have le1 := gmates_le (pin := pin) (gss := gss) (i + 1)
      have sc1 := gmates_succ (pin := pin) hgi
      rw [sc1, List.length_append] at le1
      refine ⟨rfl, _, rfl, _, rfl, q, _, rfl, .inl (SqL.of hgq), rfl, flat_strs _, _, rfl, ?_⟩
      cases hc : g.contains pin with
      | false =>
        rw [hc] at sc1
        refine if_neg' ((in_b pin g).trans hc) ⟨sm, ?_⟩
        rw [sc1]
        simpa using hD
      | true =>
        rw [hc] at sc1 le1
        refine if_pos' ((in_b pin g).trans hc) ⟨_, rfl, q, rfl, ⟨_, SqL.of hgq⟩, ?_⟩
        refine walk_it (walk_list (K := K) (a := q) (xs := g.map V.str)) (fun j G4 => Same H G4 ∧ G4 q = some (.lst (g.map V.str)) ∧ G4 D = some (.lst ((gmates pin (gss.take i) ++ g.take j).map V.str))) ⟨sm, hgq, by rw [List.take_zero, List.append_nil]; exact hD⟩ (fun j G4 _ h => SqL.of h.2.1) (fun j y G4 G5 hj ⟨sm4, e4, hD4⟩ ⟨e, hy⟩ => ?_) (fun G4 ⟨sm4, e4, hD4⟩ => ?_)
        · subst e
          rw [List.getElem?_map] at hy
          obtain ⟨z, hz, rfl⟩ := Option.map_eq_some_iff.mp hy
          refine ⟨rfl, yes_go (iteT ⟨_, rfl, _, hD4, ?_, same_put sm4 nD, by rw [upd_ne ne]; exact e4, ?_⟩)⟩
          · rw [List.length_map, List.length_append, List.length_take]
            have : min j g.length ≤ g.length := Nat.min_le_right _ _
            have e : (if true = true then g else ([] : List Str)).length = g.length := rfl
            omega
          · rw [upd_same, take_succ_at hz, ← List.append_assoc]
            simp only [List.map_append]
            rfl
        · refine ⟨sm4, ?_⟩
          rw [List.length_map, List.take_length] at hD4
          rw [sc1]
          exact hD4
    rw [show gss.take (qs.map V.ref).length = gss by rw [List.length_map, hg.len]; exact List.take_length] at hD
    have hpaG := Same.tupS sm hpa
    refine ⟨_, rfl, pa, _, rfl, hpaG, fun D2 nD2 => ?_⟩
    have nDD : D ≠ D2 := fun w => by rw [← w, hD] at nD2; cases nD2
    refine walk_it (walk_enumT (K := K) (a := pa) (xs := pins.map V.str)) (fun i G2 => Same G G2 ∧ G2 D2 = some (.lst ((mTo pin (gmates pin gss) pins i).map nV))) ⟨same_upd nD2, upd_same⟩ (fun i G2 _ ⟨sm2, _⟩ => Same.tupS sm2 hpaG) (fun i v G2 G3 hi ⟨sm2, hD2⟩ ⟨T0, u, v', ex, nT, eG, hu, hv⟩ => ?_) (fun G2 ⟨sm2, hD2⟩ => ?_)
    · subst ex eG
      cases hu
      have hv : (pins.map V.str)[i]? = some v' := hv
      rw [List.getElem?_map] at hv
      obtain ⟨z, hz, rfl⟩ := Option.map_eq_some_iff.mp hv
      rw [List.length_map] at hi
      have sT := same_upd (o := .tup [V.int (i : Nat), V.str z]) nT
      have hD2' := sT _ _ hD2
      have hm3 := sT _ _ (sm2 _ _ hD)
      have len := mTo_len (pin := pin) (ms := gmates pin gss) (pins := pins) i
      have sc2 := mTo_succ (pin := pin) (ms := gmates pin gss) (pins := pins) i
      have room : ((mTo pin (gmates pin gss) pins i).map nV).length < sizeLine := by
        rw [List.length_map]
        omega
      have yes : mOk pin (gmates pin gss) pins i = true → (upd (upd G2 T0 (.tup [V.int (i : Nat), V.str z])) D2 (.lst ((mTo pin (gmates pin gss) pins i).map nV ++ [V.int (i : Nat)]))) D2 = some (.lst ((mTo pin (gmates pin gss) pins (i + 1)).map nV)) := fun h => by
        rw [upd_same, sc2, if_pos h, List.map_append]
        rfl
      have eok : mOk pin (gmates pin gss) pins i = (decide (z = pin) || (gmates pin gss).contains z) := by
        unfold mOk
        rw [getD_at hz]
      refine ⟨T0, _, rfl, SqT.of upd_same, rfl, _, _, rfl, _, _, rfl, rfl, rfl, _, rfl, _, rfl, rfl, _, rfl, ?_⟩
      have e1 : decide (V.str z = V.str pin) = decide (z = pin) := by rw [decide_eq_decide]; exact ⟨fun h => V.str.inj h, fun h => by rw [h]⟩
      rw [e1]
      cases h1 : decide (z = pin) with
      | true => exact iteT (iteT ⟨_, rfl, _, hD2', room, same_put (sm2.trans sT) nD2, yes (by rw [eok, h1]; rfl)⟩)
      | false =>
        refine if_neg' rfl ⟨_, rfl, _, rfl, D, _, rfl, .inl (SqL.of hm3), rfl, flat_strs _, _, rfl, ?_⟩
        rw [in_b]
        cases h2 : (gmates pin gss).contains z with
        | true => exact iteT ⟨_, rfl, _, hD2', room, same_put (sm2.trans sT) nD2, yes (by rw [eok, h1, h2]; rfl)⟩
        | false =>
          refine if_neg' rfl ⟨sm2.trans sT, ?_⟩
          rw [hD2', sc2, eok, h1, h2]
          simp
    · rw [List.length_map] at hD2
      exact k D2 G2 (sm.trans sm2) hD2
end
end V4
end

-- V4k
section
set_option Elab.async false
set_option linter.all false
set_option maxRecDepth 100000
set_option exponentiation.threshold 10000
namespace V4
open PySem L2 OwnOps OwnNe G1 StX SupX EnumT
/-- tuples of ints, in a list -/
structure LTs (H : Hp) (a : Addr) (os : List (List Int)) (as : List Addr) : Prop where
  at_ : H a = some (.lst (as.map V.ref))
  len : as.length = os.length
  it : ∀ (i : Nat) (q : Addr), as[i]? = some q → ∃ o, os[i]? = some o ∧ H q = some (.tup (o.map V.int))
theorem LTs.same {H H' : Hp} {a : Addr} {os : List (List Int)} {as : List Addr} (g : LTs H a os as) (s : Same H H') : LTs H' a os as := ⟨s _ _ g.at_, g.len, fun i v h => let ⟨o, h1, h2⟩ := g.it i v h; ⟨o, h1, s _ _ h2⟩⟩
theorem LTs.push {G : Hp} {D T : Addr} {os : List (List Int)} {as : List Addr} (h : LTs G D os as) (nT : G T = none) (o : List Int) :
    LTs (upd (upd G T (.tup (o.map V.int))) D (.lst (as.map V.ref ++ [V.ref T]))) D (os ++ [o]) (as ++ [T]) where
  at_ := by rw [upd_same, List.map_append]; rfl
  len := by rw [List.length_append, List.length_append, h.len]; rfl
  it := fun i q hq => by
    have nTD : T ≠ D := fun z => by rw [z, h.at_] at nT; cases nT
    by_cases lt : i < as.length
    · rw [List.getElem?_append_left lt] at hq
      obtain ⟨o', h1, h2⟩ := h.it i q hq
      have nqD : q ≠ D := fun z => by rw [z, h.at_] at h2; cases h2
      refine ⟨o', by rw [List.getElem?_append_left (h.len ▸ lt)]; exact h1, ?_⟩
      rw [upd_ne nqD]
      exact same_upd nT _ _ h2
    · have lt2 := (List.getElem?_eq_some_iff.mp hq).1
      rw [List.length_append, List.length_singleton] at lt2
      have e : i = as.length := by omega
      subst e
      rw [List.getElem?_append_right (Nat.le_refl _), Nat.sub_self] at hq
      cases hq
      refine ⟨o, by rw [h.len, List.getElem?_append_right (Nat.le_refl _), Nat.sub_self]; rfl, ?_⟩
      rw [upd_ne nTD, upd_same]
/-- ints, in lists, in a list -/
structure LIs (H : Hp) (a : Addr) (css : List (List Int)) (qs : List Addr) : Prop where
  at_ : H a = some (.lst (qs.map V.ref))
  len : qs.length = css.length
  it : ∀ (i : Nat) (q : Addr), qs[i]? = some q → ∃ c, css[i]? = some c ∧ H q = some (.lst (c.map V.int))
theorem LIs.same {H H' : Hp} {a : Addr} {os : List (List Int)} {as : List Addr} (g : LIs H a os as) (s : Same H H') : LIs H' a os as := ⟨s _ _ g.at_, g.len, fun i v h => let ⟨o, h1, h2⟩ := g.it i v h; ⟨o, h1, s _ _ h2⟩⟩
def extO (o c : List Int) : List (List Int) := (c.filter fun i => !o.contains i).map fun i => o ++ [i]
def stepO (os : List (List Int)) (c : List Int) : List (List Int) := os.flatMap fun o => extO o c
def ordersT (css : List (List Int)) : List (List Int) := css.foldl stepO [[]]
theorem extO_len (o c : List Int) : (extO o c).length ≤ c.length := by
  unfold extO
  rw [List.length_map]
  exact List.length_filter_le _ _
theorem extO_succ {o c : List Int} {j : Nat} {z : Int} (h : c[j]? = some z) : extO o (c.take (j + 1)) = extO o (c.take j) ++ (if o.contains z then [] else [o ++ [z]]) := by
  unfold extO
  rw [take_succ_at h, List.filter_append, List.map_append]
  congr 1
  cases hc : o.contains z with
  | true => rw [List.filter_cons_of_neg (by rw [hc]; decide)]; rfl
  | false => rw [List.filter_cons_of_pos (by rw [hc]; rfl)]; rfl
theorem stepO_succ {os : List (List Int)} {c o : List Int} {i : Nat} (h : os[i]? = some o) : stepO (os.take (i + 1)) c = stepO (os.take i) c ++ extO o c := by
  unfold stepO
  rw [take_succ_at h, List.flatMap_append]
  simp
theorem stepO_len {c : List Int} (hc : c.length ≤ 6) : ∀ os : List (List Int), (stepO os c).length ≤ 6 * os.length
  | [] => Nat.le_refl _
  | o :: os => by
    have h1 := stepO_len hc os
    have h2 := extO_len o c
    unfold stepO at h1 ⊢
    rw [List.flatMap_cons, List.length_append, List.length_cons]
    omega
theorem orders_len {css : List (List Int)} (hc : ∀ c ∈ css, c.length ≤ 6) : ∀ k, (ordersT (css.take k)).length ≤ 6 ^ k
  | 0 => Nat.le_refl _
  | k + 1 => by
    have ih := orders_len hc k
    by_cases lt : k < css.length
    · have e : css[k]? = some css[k] := List.getElem?_eq_getElem lt
      unfold ordersT at ih ⊢
      rw [take_succ_at e, List.foldl_append]
      have := stepO_len (hc _ (List.getElem_mem lt)) ((css.take k).foldl stepO [[]])
      rw [Nat.pow_succ]
      show (stepO _ _).length ≤ _
      omega
    · rw [List.take_of_length_le (by omega)]
      rw [List.take_of_length_le (by omega)] at ih
      rw [Nat.pow_succ]
      omega
theorem orders_succ {css : List (List Int)} {k : Nat} {c : List Int} (h : css[k]? = some c) : ordersT (css.take (k + 1)) = stepO (ordersT (css.take k)) c := by
  unfold ordersT
  rw [take_succ_at h, List.foldl_append]
  rfl
theorem orders_each {css : List (List Int)} : ∀ k, ∀ o ∈ ordersT (css.take k), o.length ≤ k
  | 0, o, h => by
    rw [show ordersT (css.take 0) = [[]] from rfl, List.mem_singleton] at h
    rw [h]
    exact Nat.le_refl _
  | k + 1, o, h => by
    by_cases lt : k < css.length
    · have e : css[k]? = some css[k] := List.getElem?_eq_getElem lt
      rw [orders_succ e] at h
      obtain ⟨o1, h1, h2⟩ := List.mem_flatMap.mp h
      obtain ⟨z, _, rfl⟩ := List.mem_map.mp h2
      have := orders_each k o1 h1
      rw [List.length_append]
      show _ + 1 ≤ _
      omega
    · rw [List.take_of_length_le (by omega)] at h
      have := orders_each (css := css) k o (by rw [List.take_of_length_le (by omega)]; exact h)
      omega
theorem eqV_int (a b : Int) : eqV (.int a) (.int b) = decide (a = b) := by
  show (a == b) = decide (a = b)
  by_cases h : a = b
  · rw [h, decide_eq_true rfl]; exact beq_self_eq_true _
  · rw [decide_eq_false h]; exact beq_eq_false_iff_ne.mpr h
theorem inV_int (x : Int) (xs : List Int) : inV (.int x) (xs.map V.int) = xs.contains x := by
  unfold inV
  rw [List.any_map]
  induction xs with
  | nil => rfl
  | cons y r ih =>
    rw [List.any_cons, List.contains_cons, ih]
    congr 1
    show eqV (.int y) (.int x) = _
    rw [eqV_int]
    by_cases h : y = x
    · rw [h, decide_eq_true rfl]; exact (beq_self_eq_true _).symm
    · rw [decide_eq_false h]; exact (beq_eq_false_iff_ne.mpr (Ne.symm h)).symm
theorem notin_b (x : Int) (xs : List Int) : (if true = true then !inV (.int x) (xs.map V.int) else inV (.int x) (xs.map V.int)) = !xs.contains x := (if_pos rfl).trans (congrArg _ (inV_int x xs))
theorem flat_ints (xs : List Int) : (xs.map V.int).all flatV = true := by
  rw [List.all_map]
  exact List.all_eq_true.mpr fun _ _ => rfl
theorem passOwn {X : Cx} {K : Value → Shared → Prop} {E₁ : Value → Shared → Prop} (hx : X.xe = fun e s' => wpAny (model X.prog X.w) X.A (leaving X.env e) (fun _ s'' => K e s'') E₁ s' := by rfl) : PassesOwn (model X.prog X.w) X.A X.env X.xe := passes_of hx
abbrev NOr : List Str := ["choices", "orders", "indices", "order", "index"]
section
variable {P : Program} {w : World} {K : PySem.W.Frag} {mg : Str → Option Value} {base : Heap}
def spOrd : Sp := fun vs H Q _ => ∃ ca css qs, vs = [.ref ca] ∧ LIs H ca css qs ∧ css.length ≤ 6 ∧ (∀ c ∈ css, c.length ≤ 6) ∧ ∀ r H', Same H H' → TT H' r (ordersT css) → Q (.ref r) H'
theorem ok_ord {f : Addr} {fd : FuncData} (F : Fun K "_orders" "_orders" sOrd f fd) (T : Bi mg) : FnOk P w K mg base (L2.CX P w) 3 f fd ["choices"] spOrd := by
  have sc : FnScope NOr ["choices"] (defScope sOrd) := ⟨rfl, rfl, rfl, by decide +kernel, rfl, by decide +kernel, by decide +kernel⟩
  have hN := sc.nd
  refine F.okX sc (fun vs H Q E h => ?_) (fun cdv A outer s H vs Q E hr h => ?_)
  · obtain ⟨ca, css, qs, rfl, _⟩ := h
    rfl
  · obtain ⟨ca, css, qs, rfl, hc, n1, n2, k⟩ := h
    refine ⟨_, pss_cons (ps_set (i := 1) hN rfl (Or.inl rfl) (pe_lst (pa_cons (pe_tup pa_nil) pa_nil)))
      (pss_cons (ps_for passOwn rfl (pi_list (pv 0)) (pg_name (i := 2) hN rfl (Or.inr rfl)) (pss_one (ps_setLc2 (i := 1) (own := [("order", 3), ("index", 4)]) (vs1 := [4]) (g := gName 3) (g1 := gName 4) (tt := tYes) (tt1 := tTest (tOp (rIn K true) (tVar 4) (tVar 3))) (wi1 := iList K (tVar 2)) (te := tTup (tStar K (tVar 3) (tCons (tVar 4) tNil))) rfl hN rfl rfl (sw_true rfl rfl rfl (by decide +kernel)) (pi_list (pv 1))
          (blkOk_by (N := NOr) (sc := defScope sOrd) (by decide +kernel)) (by decide) (fun _ _ _ _ _ => pg_name (i := 3) hN rfl (Or.inl rfl)) (fun _ _ _ _ _ => pts_nil) (fun _ _ _ _ _ => pi_list (pv 2)) (fun _ _ _ _ _ => pg_name (i := 4) hN rfl (Or.inl rfl)) (fun _ _ _ _ _ => pts_one (pt_cmpR op_notIn_seq (pv 4) (pv 3) (by rfl))) (fun _ _ _ _ _ => pe_tup (pa_star (pv 3) (pa_cons (pv 4) pa_nil))))))
      (pss_one (ps_ret (pe_tupleOf (by rfl) T.tuple (pv 1))))), ?_⟩
    have line : 300000 ≤ sizeLine := by decide
    refine ⟨by show 0 ≤ sizeLine; omega, fun t0 nt0 => ⟨by show 1 ≤ sizeLine; omega, fun D0 nD0 => ?_⟩⟩
    have s0 : Same H (upd (upd H t0 (.tup [])) D0 (.lst [V.ref t0])) := (same_upd nt0).trans (same_upd nD0)
    have l0 : LTs (upd (upd H t0 (.tup [])) D0 (.lst [V.ref t0])) D0 (ordersT (css.take 0)) [t0] := by
      refine ⟨upd_same, rfl, fun i q hq => ?_⟩
      match i, hq with
      | 0, hq => cases hq; exact ⟨[], rfl, same_upd nD0 _ _ upd_same⟩
    refine ⟨_, rfl, ca, rfl, ⟨_, SqL.of (s0 _ _ hc.at_)⟩, for_it (walk_list (K := K) (a := ca) (xs := qs.map V.ref)) (fun i σ G => (∃ D as v2, σ = [some (.ref ca), some (.ref D), v2, none, none] ∧ LTs G D (ordersT (css.take i)) as) ∧ Same H G)
      ⟨⟨D0, [t0], none, rfl, l0⟩, s0⟩ (fun i σ G _ ⟨_, sm⟩ => SqL.of (sm _ _ hc.at_)) (fun i v σ G G' hi ⟨⟨D, as, v2, e, lt⟩, sm⟩ ⟨eG, hx⟩ => ?_) (fun σ G ⟨⟨D, as, v2, e, lt⟩, sm⟩ => ?_)⟩
    · subst e eG
      rw [List.getElem?_map] at hx
      obtain ⟨q, hq, rfl⟩ := Option.map_eq_some_iff.mp hx
      obtain ⟨c, hci, hq0⟩ := hc.it i q hq
      have hqG := sm _ _ hq0
      have c6 := n2 c (List.mem_of_getElem? hci)
      have o6 := orders_len n2 i
      rw [orders_succ hci]
      have oL : ∀ o ∈ ordersT (css.take i), o.length ≤ i := fun o h => orders_each i o h
      generalize ordersT (css.take i) = os at lt o6 oL
      have p6 : 6 ^ i ≤ 46656 := by
        have : i < 6 := by rw [List.length_map, hc.len] at hi; omega
        exact Nat.le_trans (Nat.pow_le_pow_right (by decide) (show i ≤ 6 by omega)) (by decide)
      have few : os.length ≤ 46656 := Nat.le_trans o6 p6
      refine ⟨_, rfl, D, rfl, ⟨_, SqL.of lt.at_⟩, fun L nL => ?_⟩
      refine walk_it (walk_list (K := K) (a := D) (xs := as.map V.ref)) (fun j G1 => Same G' G1 ∧ ∃ bs, LTs G1 L (stepO (os.take j) c) bs) ⟨same_upd nL, [], upd_same, rfl, fun i q h => by cases h⟩ (fun j G1 _ ⟨s1, _⟩ => SqL.of (s1 _ _ lt.at_)) (fun j v G1 G2 hj ⟨s1, bs, hb⟩ ⟨eG, hy⟩ => ?_) (fun G1 ⟨s1, bs, hb⟩ => ?_)
      · subst eG
        rw [List.getElem?_map] at hy
        obtain ⟨p, hp, rfl⟩ := Option.map_eq_some_iff.mp hy
        obtain ⟨o, hoj, hpo⟩ := lt.it j p hp
        have hj' : j < os.length := by rw [List.length_map, lt.len] at hj; exact hj
        have bl := stepO_len c6 (os.take j)
        rw [List.length_take] at bl
        rw [stepO_succ hoj]
        generalize stepO (os.take j) c = pre at hb bl
        refine ⟨rfl, yes_go (iteT ⟨_, rfl, q, rfl, ⟨_, SqL.of (s1 _ _ hqG)⟩, ?_⟩)⟩
        refine walk_it (walk_list (K := K) (a := q) (xs := c.map V.int)) (fun m G3 => Same G' G3 ∧ ∃ bs, LTs G3 L (pre ++ extO o (c.take m)) bs) ⟨s1, bs, by rw [List.take_zero, show extO o [] = [] from rfl, List.append_nil]; exact hb⟩ (fun m G3 _ h => SqL.of (h.1 _ _ hqG)) (fun m y G3 G4 hm ⟨s3, bs, hb⟩ ⟨eG, hz⟩ => ?_) (fun G3 ⟨s3, bs, hb⟩ => ?_)
        · subst eG
          rw [List.getElem?_map] at hz
          obtain ⟨z, hzc, rfl⟩ := Option.map_eq_some_iff.mp hz
          have hpo3 := s3 _ _ hpo
          have el := extO_len o (c.take m)
          rw [List.length_take] at el
          refine ⟨rfl, _, rfl, _, rfl, p, _, rfl, .inr (SqT.of hpo3), rfl, flat_ints _, _, rfl, ?_⟩
          rw [notin_b, extO_succ hzc]
          cases hz2 : o.contains z with
          | true => exact iteF ⟨s3, bs, by simpa using hb⟩
          | false =>
            refine iteT ⟨_, rfl, p, _, rfl, .inl (SqT.of hpo3), _, rfl, ?_, fun T nT => ⟨_, same_upd nT _ _ hb.at_, ?_, ?_, ?_⟩⟩
            · rw [List.length_append, List.length_map]
              have := oL o (List.mem_of_getElem? hoj)
              have e : ([V.int z] : List V).length = 1 := rfl
              rw [List.length_map, hc.len] at hi
              show _ + _ ≤ _
              omega
            · rw [List.length_map, hb.len, List.length_append]
              omega
            · exact same_put (s3.trans (same_upd nT)) nL
            · refine ⟨bs ++ [T], ?_⟩
              have := hb.push nT (o ++ [z])
              rw [List.map_append] at this
              rw [← List.append_assoc]
              exact this
        · refine ⟨s3, bs, ?_⟩
          rw [List.length_map, List.take_length] at hb
          exact hb
      · rw [List.length_map, lt.len, List.take_length] at hb
        exact ⟨⟨L, bs, _, rfl, hb⟩, sm.trans s1⟩
    · subst e
      rw [show css.take (qs.map V.ref).length = css by rw [List.length_map, hc.len]; exact List.take_length] at lt
      refine ⟨_, rfl, .inl ⟨D, _, rfl, SqL.of lt.at_, fun r nr => k r _ (sm.trans (same_upd nr)) ⟨as, upd_same, lt.len, fun i q hq => ?_⟩⟩⟩
      obtain ⟨o, h1, h2⟩ := lt.it i q hq
      exact ⟨o, h1, same_upd nr _ _ h2⟩
end
end V4
end

-- SupXF
section
set_option Elab.async false
set_option linter.all false
set_option maxRecDepth 100000
set_option maxHeartbeats 2000000
/-! defs def f(self, name, *v, k = d) whose star tuple is asked for its methods: it stands exactly (frz), so that it is known to have no dict. -/
namespace SupX
open PySem PySem.Spec PyProof.Rows L2 StX
section
variable {CX : CXT} {P : Program} {w : World} {K : PySem.W.Frag} {mg : Str → Option Value} {base : Heap} {k : Nat} {f cda cc D : Addr} {name qual : Str} {params : Arguments} {body : List Stmt} {scope : Scope} {dV kV doc pm ct oc : Value} {an od : Option Addr} {cl : Value} {cld : Option Addr} {csl : Array (Option Value)}
  {osl : Array (Option Value)} {N kn : List Str} {p1 p2 pv : Str} {sp : Sp} {okK : List (Str × V) → Prop} {gV : List (Str × V) → List V}
theorem fnA_F (lk : K.lookup f = some ⟨oc, od, .func (PySem.W.ksFn name qual params body scope dV kV doc pm an (.ref cda) ct cc), osl⟩) (hcd : PySem.W.codeIn K (.ref cda) qual = true) (S : SScope N (p1 :: p2 :: kn ++ [pv]) scope) (hcc : K.lookup cc = some ⟨cl, cld, .cell (some (.ref D)), csl⟩) (hCX : CXUp CX)
    (hb : BindA K (PySem.W.ksFn name qual params body scope dV kV doc pm an (.ref cda) ct cc) p1 p2 kn pv okK gV)
    (hbody : ∀ (A : Around) (outer : List Env) (s : Shared) (H : Hp) (vs : List V) (Q : VK) (E : XK), Room k (A.deeper (envS qual scope s.heap.objs.size f cda cc)) → sp vs H Q E →
      ∃ t, PSsA (cxS CX P w K mg base N qual scope f cda cc A outer s H E) (.func body (envS qual scope s.heap.objs.size f cda cc)) body t ∧ t { nx := fun _ H' => Q .non H', rt := Q } (L2.start N vs) H) :
    FnA P w K mg base CX (k + 1) f (fun vs kv H Q E => ∃ a b rest, vs = a :: b :: rest ∧ okK kv ∧ rest.length ≤ sizeLine ∧ ∀ p o, H p = Option.none → o.dict = Option.none → o.cls = .type "tuple" → sp (a :: b :: gV kv ++ [V.ref p]) (upd H p (.frz o (.tup rest))) Q E) := by
  intro A outer s H us vs ks ws zs Q E hr e0 r rz lz hsp
  obtain ⟨a, b, rest, ev, ok, hz, hq⟩ := hsp
  subst ev
  cases r with
  | cons ra r =>
  cases r with
  | @cons _ ub _ u2 rb r2 =>
  rename_i ua
  obtain ⟨cs, rc, lc, hbind⟩ := hb ks ws zs rz lz ok
  have KX : K.In s.heap := e0.mod.kin.keeps fun b o e => (e0.bs b o e).1
  have hn : H s.heap.objs.size = Option.none := e0.hok.fresh (Nat.le_refl _)
  have hl2 : u2.length ≤ sizeLine := by rw [← r2.length]; exact hz
  refine run_bndS lk hcd S hcc hr e0 (G := fun xs H2 => ∃ p o, H p = Option.none ∧ o.dict = Option.none ∧ o.cls = .type "tuple" ∧ xs = a :: b :: gV (ks.zip zs) ++ [V.ref p] ∧ H2 = upd H p (.frz o (.tup rest))) (fun A' Ex Q' h => ?_) fun s2 H2 xs ⟨p, o, hp, od, oc', ex, eH⟩ hr' => ?_
  · refine hbind _ _ _ _ _ _ _ _ KX ?_
    refine wpAny_bind (wpAny_newTuple (wpAny_pure ?_) hl2)
    have new : ObjOk P w (upd H s.heap.objs.size (.frz ({ cls := .type "tuple", data := .seq u2.toArray } : Obj) (.tup rest))) (s.heap.push ({ cls := .type "tuple", data := .seq u2.toArray } : Obj)) s.heap.objs.size (.frz ({ cls := .type "tuple", data := .seq u2.toArray } : Obj) (.tup rest)) := ⟨Heap.get?_push_size _ rfl, hz, u2, r2, ⟨_, Heap.get?_push_size _ rfl, rfl, _, rfl⟩⟩
    have un := un_laid (fs := frs outer) (s := s) (o := ({ cls := .type "tuple", data := .seq u2.toArray } : Obj)) (u := .frz ({ cls := .type "tuple", data := .seq u2.toArray } : Obj) (.tup rest)) hn
    exact h _ _ (a :: b :: gV (ks.zip zs) ++ [V.ref s.heap.objs.size]) (ua :: ub :: cs ++ [Value.ref s.heap.objs.size]) (env0_laid e0 new) un rfl (fun e s' => hCX outer s H _ _ E e s' un (fun b o q => Heap.get?_push_of_some _ q) rfl) (.cons ra (.cons rb (rc.append (.cons rfl .nil))))
      (by simp only [List.length_append, List.length_cons, List.length_nil, lc]) ⟨_, _, hn, rfl, rfl, rfl, rfl⟩
  · subst ex eH
    exact hbody A outer s2 _ _ Q E hr' (hq p o hp od oc')
end
/-- o.m(..), o a tuple that stands exactly -/
def tBMF (r : V → List V → Hp → VK → Prop) (to : TE) (t : TA) : TE := fun σ H Q => to σ H fun x H1 => (∃ p o u, x = .ref p ∧ H1 p = some (.frz o u) ∧ o.cls = .type "tuple" ∧ o.dict = Option.none) ∧ t σ H1 fun xs H2 => r x xs H2 Q
section
variable {X : Cx} {o e : Expr} {es : List Expr} {to : TE} {t : TA} {name : Str} {apos cpos : Pos} {id : String} {r : V → List V → Hp → VK → Prop}
theorem pe_bmF (pa : PlainAttrs "tuple") (slot : Slot "tuple" name id) (hty : typeOf (.builtin id) = pure (.type "method_descriptor")) (hm : MtR X id r) (ho : PE X o to) (ha : PA X (e :: es) t)
    (hbase : attributeBase o name X.env (eval o X.env) = eval o X.env := by rfl)
    (hfew : ((backTo cpos (starEach (e :: es) X.env)).all (fun x => !x.1) && (backToKw cpos (keywordEach [] X.env)).all (fun x => x.1.isSome)
      && decide ((e :: es).length + ([] : List Keyword).length + (if ([] : List Keyword).isEmpty then 0 else 1) < 30)) = true := by rfl)
    (hline : (apos.endLine == cpos.line) = true := by rfl) (hs : starEach (e :: es) X.env = (false, eval e X.env) :: starEach es X.env := by rfl) (hplain : (backTo cpos (starEach es X.env)).any (·.1) = false := by rfl) :
    PE X (.Call (.Attribute o name apos) (e :: es) [] cpos) (tBMF r to t) := by
  constructor
  intro pins s σ H Q I h
  refine wpAny_Call_method_late hbase hfew hline rfl (thn (ho.run pins s σ H _ I h) fun v s1 ⟨x, H1, I1, r1, ⟨p, ob, u, ex, hp, hc, hd⟩, q1⟩ => ?_)
  subst ex
  cases r1
  have here := (I1.hok p _ hp).1
  refine ⟨"tuple", id, pa, slot, hty, ⟨ob, here, hc⟩, fun a ea => ?_, ?_⟩
  · cases ea
    exact ⟨ob, here, hd⟩
  have args := ha.run cpos pins s1 σ H1 _ I1 q1
  rw [hs] at args ⊢
  refine Calls.callWith_builtin (by show (false || (backTo cpos (starEach es X.env)).any (·.1)) = false; rw [hplain] <;> rfl) (Calls.evalArgs_plain ?_)
  exact thn args fun us s2 ⟨xs, H2, I2, r2, q2⟩ => hm pins s2 σ H2 (.ref p) xs _ us Q I2 rfl r2 q2
end
end SupX
end

-- V4l
section
set_option Elab.async false
set_option linter.all false
set_option maxRecDepth 100000
set_option exponentiation.threshold 10000
namespace V4
open PySem L2 OwnOps OwnNe G1 StX SupX EnumT
abbrev rTIdx (K : PySem.W.Frag) : V → List V → Hp → VK → Prop := fun x xs H Q => ∃ p, ∃ ys : List Str, ∃ z j, x = .ref p ∧ xs = [.str z] ∧ SqT K H p (ys.map V.str) ∧ ys[j]? = some z ∧ (∀ m, m < j → ys[m]? ≠ some z) ∧ Q (.int (j : Nat)) H
abbrev rJn (K : PySem.W.Frag) : V → List V → Hp → VK → Prop := fun x xs H Q => ∃ a p, ∃ ys : List Str, x = .str a ∧ xs = [.ref p] ∧ (SqL K H p (ys.map V.str) ∨ SqT K H p (ys.map V.str)) ∧ (ys.map (·.length)).sum + ys.length * a.length ≤ 16777216 ∧ Q (.str (Txt.join a ys)) H
abbrev teA (K : PySem.W.Frag) : TE := tLc (iTup K (tVar 3)) (gName 6) (tTest (tOp (rIn K false) (tVar 6) (tVar 7))) (tVar 6) [6]
abbrev teB0 (K : PySem.W.Frag) : TE := tBMF (rTIdx K) (tVar 3) (tCons (tVar 6) tNil)
abbrev teB (K : PySem.W.Frag) : TE := tLc (iList K (tVar 7)) (gName 6) tYes (teB0 K) [6]
abbrev teC (K : PySem.W.Frag) : TE := tCall (spMat K) [] E0 (tCons (tVar 6) (tCons (tVar 3) (tCons (tVar 4) tNil)))
abbrev teE (K : PySem.W.Frag) : TE := tM1 (rJn K) (tC (.str " ")) (tVar 7)
abbrev ttD (K : PySem.W.Frag) : L2.TT := tTest (tOp rEq (tOp (rIxL K) (tVar 7) (tC (.int 0))) (tVar 6))
/-- the groups in the order of the pins -/
def inPins (pins zs : List Str) : List Str := pins.filter fun z => zs.contains z
def gsOf (pins : List Str) (os : List (Option (List Str))) : List (List Str) := os.map fun o => inPins pins (o.getD [])
def ordG (pins : List Str) (gss : List (List Str)) : List (List Str) := pins.flatMap fun pin => gss.filter fun g => decide (g.head? = some pin)
theorem gsOf_succ {pins : List Str} {os : List (Option (List Str))} {i : Nat} {o : Option (List Str)} (h : os[i]? = some o) : gsOf pins (os.take (i + 1)) = gsOf pins (os.take i) ++ [inPins pins (o.getD [])] := by
  unfold gsOf
  rw [take_succ_at h, List.map_append]
  rfl
theorem inPins_succ {pins zs : List Str} {j : Nat} {z : Str} (h : pins[j]? = some z) : inPins (pins.take (j + 1)) zs = inPins (pins.take j) zs ++ (if zs.contains z then [z] else []) := by
  unfold inPins
  rw [take_succ_at h, List.filter_append]
  congr 1
  cases hc : zs.contains z with
  | true => rw [List.filter_cons_of_pos hc]; rfl
  | false => rw [List.filter_cons_of_neg (by rw [hc]; decide)]; rfl
theorem inPins_len (pins zs : List Str) : (inPins pins zs).length ≤ pins.length := List.length_filter_le _ _
theorem LLt.push {G : Hp} {D q : Addr} {gss : List (List Str)} {qs : List Addr} {g : List Str} (h : LLt G D gss qs) (e : G q = some (.lst (g.map V.str))) (ne : q ≠ D) : LLt (upd G D (.lst (qs.map V.ref ++ [V.ref q]))) D (gss ++ [g]) (qs ++ [q]) where
  at_ := by rw [upd_same, List.map_append]; rfl
  len := by rw [List.length_append, List.length_append, h.len]; rfl
  it := fun i a ha => by
    by_cases lt : i < qs.length
    · rw [List.getElem?_append_left lt] at ha
      obtain ⟨g', h1, h2⟩ := h.it i a ha
      have nD : a ≠ D := fun z => by
        rw [z, h.at_] at h2
        cases qs with
        | nil => cases ha
        | cons b bs =>
          have h2 : (HO.lst (List.map V.ref (b :: bs))) = HO.lst (List.map V.str g') := Option.some.inj h2
          cases g' with
          | nil => cases h2
          | cons c cs => cases h2
      exact ⟨g', by rw [List.getElem?_append_left (h.len ▸ lt)]; exact h1, by rw [upd_ne nD]; exact h2⟩
    · have lt2 := (List.getElem?_eq_some_iff.mp ha).1
      rw [List.length_append, List.length_singleton] at lt2
      have e1 : i = qs.length := by omega
      subst e1
      rw [List.getElem?_append_right (Nat.le_refl _), Nat.sub_self] at ha
      cases ha
      exact ⟨g, by rw [h.len, List.getElem?_append_right (Nat.le_refl _), Nat.sub_self]; rfl, by rw [upd_ne ne]; exact e⟩
theorem LIs.push {G : Hp} {D q : Addr} {gss : List (List Int)} {qs : List Addr} {g : List Int} (h : LIs G D gss qs) (e : G q = some (.lst (g.map V.int))) (ne : q ≠ D) : LIs (upd G D (.lst (qs.map V.ref ++ [V.ref q]))) D (gss ++ [g]) (qs ++ [q]) where
  at_ := by rw [upd_same, List.map_append]; rfl
  len := by rw [List.length_append, List.length_append, h.len]; rfl
  it := fun i a ha => by
    by_cases lt : i < qs.length
    · rw [List.getElem?_append_left lt] at ha
      obtain ⟨g', h1, h2⟩ := h.it i a ha
      have nD : a ≠ D := fun z => by
        rw [z, h.at_] at h2
        cases qs with
        | nil => cases ha
        | cons b bs =>
          have h2 : (HO.lst (List.map V.ref (b :: bs))) = HO.lst (List.map V.int g') := Option.some.inj h2
          cases g' with
          | nil => cases h2
          | cons c cs => cases h2
      exact ⟨g', by rw [List.getElem?_append_left (h.len ▸ lt)]; exact h1, by rw [upd_ne nD]; exact h2⟩
    · have lt2 := (List.getElem?_eq_some_iff.mp ha).1
      rw [List.length_append, List.length_singleton] at lt2
      have e1 : i = qs.length := by omega
      subst e1
      rw [List.getElem?_append_right (Nat.le_refl _), Nat.sub_self] at ha
      cases ha
      exact ⟨g, by rw [h.len, List.getElem?_append_right (Nat.le_refl _), Nat.sub_self]; rfl, by rw [upd_ne ne]; exact e⟩
theorem first_at {z : Str} : ∀ {ys : List Str}, z ∈ ys → ∃ j : Nat, ys[j]? = some z ∧ ∀ m : Nat, m < j → ys[m]? ≠ some z
  | y :: ys, h => by
    by_cases e : y = z
    · exact ⟨0, by rw [e]; rfl, fun m h => by omega⟩
    · obtain ⟨j, h1, h2⟩ := first_at (ys := ys) ((List.mem_cons.mp h).resolve_left (fun z => e z.symm))
      refine ⟨j + 1, h1, fun m hm => ?_⟩
      cases m with
      | zero => exact fun w => e (Option.some.inj w)
      | succ m => exact h2 m (by omega)
section
variable {K : PySem.W.Frag} {G : Hp} {Q : VK} {sa pa gb ob : Addr} {y0 y1 y2 y3 y4 y5 y6 y7 : Option V} {pins : List Str}
theorem lcA {gs : List V} {os : List (Option (List Str))} (gr : Grs K G sa gs os) (ok : os.all gOk = true) (hpa : SqT K G pa (pins.map V.str)) (n6 : pins.length ≤ 6) (n10 : gs.length ≤ 10)
    (fin : ∀ D qs G', Same G G' → LLt G' D (gsOf pins os) qs → Q (.ref D) G') : tLc (iTup K (tVar 2)) (gName 7) tYes (teA K) [7] [y0, y1, some (.ref sa), some (.ref pa), y4, y5, y6, y7] G Q := by
  have line : 1000 ≤ sizeLine := by decide
  refine ⟨_, rfl, sa, rfl, ⟨_, gr.at_⟩, fun D nD => ?_⟩
  refine walk_it (walk_tup (K := K) (a := sa) (xs := gs)) (fun i G1 => Same G G1 ∧ ∃ qs, LLt G1 D (gsOf pins (os.take i)) qs) ⟨same_upd nD, [], upd_same, rfl, fun i q h => by cases h⟩ (fun i G1 _ ⟨sm, _⟩ => Same.tupS sm gr.at_) (fun i v G1 G2 hi ⟨sm, qs, lt⟩ ⟨e, hx⟩ => ?_) (fun G1 ⟨sm, qs, lt⟩ => ?_)
  · subst e
    obtain ⟨o, ho, g⟩ := gr.it i v hx
    have g := g.same sm
    have okO : gOk o = true := List.all_eq_true.mp ok o (List.mem_of_getElem? ho)
    cases g with
    | str x => cases okO
    | lst h => cases okO
    | @tup q zs h1 =>
    have hpa1 := Same.tupS sm hpa
    refine ⟨rfl, yes_go (iteT ⟨_, rfl, pa, rfl, ⟨_, hpa1⟩, fun D2 nD2 => ?_⟩)⟩
    have n2 : D2 ≠ D := fun z => by rw [z, lt.at_] at nD2; cases nD2
    refine walk_it (walk_tup (K := K) (a := pa) (xs := pins.map V.str)) (fun j G3 => Same G2 G3 ∧ G3 D2 = some (.lst ((inPins (pins.take j) zs).map V.str))) ⟨same_upd nD2, upd_same⟩ (fun j G3 _ ⟨s3, _⟩ => Same.tupS s3 hpa1) (fun j y G3 G4 hj ⟨s3, hD2⟩ ⟨e, hy⟩ => ?_) (fun G3 ⟨s3, hD2⟩ => ?_)
    · subst e
      rw [List.getElem?_map] at hy
      obtain ⟨z, hz, rfl⟩ := Option.map_eq_some_iff.mp hy
      refine ⟨rfl, _, rfl, _, rfl, q, _, rfl, .inr (SqT.of (s3 _ _ h1)), rfl, flat_strs _, _, rfl, ?_⟩
      rw [in_b, inPins_succ hz]
      cases hc : zs.contains z with
      | false => exact iteF ⟨s3, by simpa using hD2⟩
      | true =>
        refine iteT ⟨_, rfl, _, hD2, ?_, same_put s3 nD2, by rw [upd_same, List.map_append]; rfl⟩
        have := inPins_len (pins.take j) zs
        rw [List.length_take] at this
        rw [List.length_map]
        omega
    · rw [List.length_map, List.take_length] at hD2
      have lt3 := lt.same s3
      refine ⟨_, lt3.at_, ?_, same_put (sm.trans s3) nD, qs ++ [D2], ?_⟩
      · rw [List.length_map, lt.len]
        unfold gsOf
        rw [List.length_map, List.length_take]
        have := gr.len
        omega
      · rw [gsOf_succ ho]
        exact lt3.push hD2 n2
  · rw [show os.take gs.length = os by rw [gr.len]; exact List.take_length] at lt
    exact fin D qs G1 sm lt
theorem lcB {gss : List (List Str)} {qs : List Addr} {o : Obj} (L : LLt G gb gss qs) (hf : G pa = some (.frz o (.tup (pins.map V.str)))) (od : o.dict = none) (oc : o.cls = .type "tuple") (sub : ∀ g ∈ gss, ∀ z ∈ g, z ∈ pins) (n6 : ∀ g ∈ gss, g.length ≤ 6) (n10 : gss.length ≤ 10)
    (fin : ∀ D xs G', Same G G' → G' D = some (.lst xs) → Q (.ref D) G') : tLc (iList K (tVar 4)) (gName 7) tYes (teB K) [7] [y0, y1, y2, some (.ref pa), some (.ref gb), y5, y6, y7] G Q := by
  have line : 1000 ≤ sizeLine := by decide
  refine ⟨_, rfl, gb, rfl, ⟨_, SqL.of L.at_⟩, fun D nD => ?_⟩
  refine walk_it (walk_list (K := K) (a := gb) (xs := qs.map V.ref)) (fun i G1 => Same G G1 ∧ ∃ xs, G1 D = some (.lst xs) ∧ xs.length = i) ⟨same_upd nD, [], upd_same, rfl⟩ (fun i G1 _ ⟨sm, _⟩ => SqL.of (sm _ _ L.at_)) (fun i v G1 G2 hi ⟨sm, xs, hD, lx⟩ ⟨e, hx⟩ => ?_) (fun G1 ⟨sm, xs, hD, _⟩ => fin D xs G1 sm hD)
  subst e
  rw [List.getElem?_map] at hx
  obtain ⟨q, hq, rfl⟩ := Option.map_eq_some_iff.mp hx
  obtain ⟨g, hg, hq0⟩ := L.it i q hq
  have hq1 := sm _ _ hq0
  have mem := List.mem_of_getElem? hg
  have gl := n6 g mem
  refine ⟨rfl, yes_go (iteT ⟨_, rfl, q, rfl, ⟨_, SqL.of hq1⟩, fun D2 nD2 => ?_⟩)⟩
  refine walk_it (walk_list (K := K) (a := q) (xs := g.map V.str)) (fun j G3 => Same G2 G3 ∧ ∃ ys, G3 D2 = some (.lst ys) ∧ ys.length = j) ⟨same_upd nD2, [], upd_same, rfl⟩ (fun j G3 _ ⟨s3, _⟩ => SqL.of (s3 _ _ hq1)) (fun j y G3 G4 hj ⟨s3, ys, hD2, ly⟩ ⟨e, hy⟩ => ?_) (fun G3 ⟨s3, ys, hD2, ly⟩ => ?_)
  · subst e
    rw [List.getElem?_map] at hy
    obtain ⟨z, hz, rfl⟩ := Option.map_eq_some_iff.mp hy
    obtain ⟨m, hm, hmin⟩ := first_at (sub g mem z (List.mem_of_getElem? hz))
    have hf3 := s3 _ _ (sm _ _ hf)
    rw [List.length_map] at hj
    refine ⟨rfl, yes_go (iteT ⟨_, rfl, ⟨pa, o, _, rfl, hf3, oc, od⟩, _, rfl, pa, pins, z, m, rfl, rfl, .inl (.inr ⟨o, hf3⟩), hm, hmin, ys, hD2, by omega, same_put s3 nD2, _, upd_same, ?_⟩)⟩
    rw [List.length_append, ly]
    rfl
  · have hD3 := s3 _ _ hD
    refine ⟨xs, hD3, ?_, same_put (sm.trans s3) nD, _, upd_same, ?_⟩
    · rw [List.length_map, L.len] at hi
      omega
    · rw [List.length_append, lx]
      rfl
theorem lcC {gss : List (List Str)} {qs : List Addr} (L : LLt G gb gss qs) (hpa : SqT K G pa (pins.map V.str)) (n6 : pins.length ≤ 6) (n10 : gss.length ≤ 10) (nf : gss.flatten.length ≤ 100)
    (fin : ∀ D rs G', Same G G' → LIs G' D (pins.map fun z => (matesT z pins gss).map Int.ofNat) rs → Q (.ref D) G') : tLc (iTup K (tVar 3)) (gName 6) tYes (teC K) [6] [y0, y1, y2, some (.ref pa), some (.ref gb), y5, y6, y7] G Q := by
  have line : 1000 ≤ sizeLine := by decide
  refine ⟨_, rfl, pa, rfl, ⟨_, hpa⟩, fun D nD => ?_⟩
  refine walk_it (walk_tup (K := K) (a := pa) (xs := pins.map V.str)) (fun i G1 => Same G G1 ∧ ∃ rs, LIs G1 D ((pins.take i).map fun z => (matesT z pins gss).map Int.ofNat) rs) ⟨same_upd nD, [], upd_same, rfl, fun i q h => by cases h⟩ (fun i G1 _ ⟨sm, _⟩ => Same.tupS sm hpa) (fun i v G1 G2 hi ⟨sm, rs, lt⟩ ⟨e, hx⟩ => ?_) (fun G1 ⟨sm, rs, lt⟩ => ?_)
  · subst e
    rw [List.getElem?_map] at hx
    obtain ⟨z, hz, rfl⟩ := Option.map_eq_some_iff.mp hx
    rw [List.length_map] at hi
    refine ⟨rfl, yes_go (iteT ⟨_, rfl, _, rfl, _, rfl, z, pa, pins, gb, gss, qs, rfl, Same.tupS sm hpa, L.same sm, by omega, by omega, nf, fun r G3 s3 hr => ?_⟩)⟩
    have lt3 := lt.same s3
    have hr : G3 r = some (.lst (((matesT z pins gss).map Int.ofNat).map V.int)) := by
      rw [hr, List.map_map]
      rfl
    have some_ : i ∈ matesT z pins gss := by
      unfold matesT mTo
      rw [List.mem_filter, List.mem_range]
      refine ⟨hi, ?_⟩
      unfold mOk
      rw [getD_at hz, decide_eq_true rfl]
      rfl
    have ne : r ≠ D := fun w => by
      rw [w, lt3.at_] at hr
      cases hm : matesT z pins gss with
      | nil => rw [hm] at some_; cases some_
      | cons a b =>
        rw [hm] at hr
        cases rs with
        | nil => cases hr
        | cons c d => cases hr
    refine ⟨_, lt3.at_, ?_, same_put (sm.trans s3) nD, rs ++ [r], ?_⟩
    · rw [List.length_map, lt.len, List.length_map, List.length_take]
      omega
    · rw [take_succ_at hz, List.map_append]
      exact lt3.push hr ne
  · rw [List.length_map, List.take_length] at lt
    exact fin D rs G1 sm lt
theorem lcD {gss : List (List Str)} {qs : List Addr} (L : LLt G gb gss qs) (hpa : SqT K G pa (pins.map V.str)) (n6 : pins.length ≤ 6) (n10 : gss.length ≤ 10) (ne : ∀ g ∈ gss, g ≠ [])
    (fin : ∀ D rs G', Same G G' → LLt G' D (ordG pins gss) rs → Q (.ref D) G') : tLc2 (iTup K (tVar 3)) (gName 6) tYes (iList K (tVar 4)) (gName 7) (ttD K) (tVar 7) [6, 7] [7] [y0, y1, y2, some (.ref pa), some (.ref gb), y5, y6, y7] G Q := by
  have line : 1000 ≤ sizeLine := by decide
  have ordL : ∀ i, (ordG (pins.take i) gss).length ≤ i * 10 := fun i => by
    unfold ordG
    induction i with
    | zero => exact Nat.le_refl _
    | succ i ih =>
      by_cases lt : i < pins.length
      · rw [take_succ_at (List.getElem?_eq_getElem lt), List.flatMap_append, List.length_append]
        have := List.length_filter_le (fun g : List Str => decide (g.head? = some pins[i])) gss
        simp only [List.flatMap_cons, List.flatMap_nil, List.append_nil]
        omega
      · rw [List.take_of_length_le (by omega)]
        rw [List.take_of_length_le (by omega)] at ih
        omega
  refine ⟨_, rfl, pa, rfl, ⟨_, hpa⟩, fun D nD => ?_⟩
  refine walk_it (walk_tup (K := K) (a := pa) (xs := pins.map V.str)) (fun i G1 => Same G G1 ∧ ∃ rs, LLt G1 D (ordG (pins.take i) gss) rs) ⟨same_upd nD, [], upd_same, rfl, fun i q h => by cases h⟩ (fun i G1 _ ⟨sm, _⟩ => Same.tupS sm hpa) (fun i v G1 G2 hi ⟨sm, rs, lt⟩ ⟨e, hx⟩ => ?_) (fun G1 ⟨sm, rs, lt⟩ => ?_)
  · subst e
    rw [List.getElem?_map] at hx
    obtain ⟨pin, hp, rfl⟩ := Option.map_eq_some_iff.mp hx
    have Lg := (L.same sm).at_
    have oL := ordL i
    rw [List.length_map] at hi
    have os : ordG (pins.take (i + 1)) gss = ordG (pins.take i) gss ++ gss.filter fun g => decide (g.head? = some pin) := by
      unfold ordG
      rw [take_succ_at hp, List.flatMap_append]
      simp
    rw [os]
    generalize ordG (pins.take i) gss = pre at lt oL
    refine ⟨rfl, yes_go (iteT ⟨_, rfl, gb, rfl, ⟨_, SqL.of Lg⟩, ?_⟩)⟩
    refine walk_it (walk_list (K := K) (a := gb) (xs := qs.map V.ref)) (fun j G3 => Same G G3 ∧ ∃ rs, LLt G3 D (pre ++ (gss.take j).filter fun g => decide (g.head? = some pin)) rs) ⟨sm, rs, by rw [List.take_zero, List.filter_nil, List.append_nil]; exact lt⟩ (fun j G3 _ h => SqL.of (h.1 _ _ L.at_)) (fun j y G3 G4 hj ⟨s3, rs, l3⟩ ⟨e, hy⟩ => ?_) (fun G3 ⟨s3, rs, l3⟩ => ?_)
    · subst e
      rw [List.getElem?_map] at hy
      obtain ⟨q, hq, rfl⟩ := Option.map_eq_some_iff.mp hy
      obtain ⟨g, hg, hq0⟩ := L.it j q hq
      have nqD : q ≠ D := fun w => by rw [w, nD] at hq0; cases hq0
      have hq3 := s3 _ _ hq0
      rw [List.length_map, L.len] at hj
      cases g with
      | nil => exact absurd rfl (ne [] (List.mem_of_getElem? hg))
      | cons z zs =>
      refine ⟨rfl, _, rfl, q, _, 0, .str z, rfl, rfl, SqL.of hq3, at_hd rfl, _, rfl, rfl, _, rfl, ?_⟩
      have e1 : decide (V.str z = V.str pin) = decide ((z :: zs).head? = some pin) := by
        rw [decide_eq_decide]
        exact ⟨fun h => by rw [V.str.inj h]; rfl, fun h => by rw [Option.some.inj h]⟩
      rw [e1, take_succ_at hg, List.filter_append, ← List.append_assoc]
      have fl := List.length_filter_le (fun g : List Str => decide (g.head? = some pin)) (gss.take j)
      rw [List.length_take] at fl
      cases hc : decide ((z :: zs).head? = some pin) with
      | false =>
        refine iteF ⟨s3, rs, ?_⟩
        rw [List.filter_cons_of_neg (by rw [hc]; decide), List.filter_nil, List.append_nil]
        exact l3
      | true =>
        refine iteT ⟨_, rfl, _, l3.at_, ?_, same_put s3 nD, rs ++ [q], ?_⟩
        · rw [List.length_map, l3.len, List.length_append]
          omega
        · rw [show List.filter (fun g => decide (g.head? = some pin)) [z :: zs] = [z :: zs] from List.filter_cons_of_pos (p := fun g : List Str => decide (g.head? = some pin)) hc]
          exact l3.push hq3 nqD
    · rw [List.length_map, L.len, List.take_length] at l3
      exact ⟨s3, rs, l3⟩
  · rw [List.length_map, List.take_length] at lt
    exact fin D rs G1 sm lt
theorem lcE {ogs : List (List Str)} {rs : List Addr} (L : LLt G ob ogs rs) (n : ogs.length ≤ 100) (gl : ∀ g ∈ ogs, g.length ≤ 6 ∧ ∀ z ∈ g, z.length ≤ 12)
    (fin : ∀ D G', Same G G' → G' D = some (.lst ((ogs.map (Txt.join " ")).map V.str)) → Q (.ref D) G') : tLc (iList K (tVar 5)) (gName 7) tYes (teE K) [7] [y0, y1, y2, y3, y4, some (.ref ob), y6, y7] G Q := by
  have line : 1000 ≤ sizeLine := by decide
  have one : (Str.ofString " ").length = 1 := by decide +kernel
  refine ⟨_, rfl, ob, rfl, ⟨_, SqL.of L.at_⟩, fun D nD => ?_⟩
  refine walk_it (walk_list (K := K) (a := ob) (xs := rs.map V.ref)) (fun i G1 => Same G G1 ∧ G1 D = some (.lst (((ogs.take i).map (Txt.join " ")).map V.str))) ⟨same_upd nD, upd_same⟩ (fun i G1 _ ⟨sm, _⟩ => SqL.of (sm _ _ L.at_)) (fun i v G1 G2 hi ⟨sm, hD⟩ ⟨e, hx⟩ => ?_) (fun G1 ⟨sm, hD⟩ => ?_)
  · subst e
    rw [List.getElem?_map] at hx
    obtain ⟨q, hq, rfl⟩ := Option.map_eq_some_iff.mp hx
    obtain ⟨g, hg, hq0⟩ := L.it i q hq
    obtain ⟨g6, g12⟩ := gl g (List.mem_of_getElem? hg)
    have su : (g.map (·.length)).sum ≤ 12 * g.length := sum_le fun z hz => g12 z hz
    refine ⟨rfl, yes_go (iteT ⟨⟨_, rfl⟩, _, rfl, " ", q, g, rfl, rfl, .inl (SqL.of (sm _ _ hq0)), by rw [one]; omega, _, hD, ?_, same_put sm nD, ?_⟩)⟩
    · rw [List.length_map, List.length_map, List.length_take]
      omega
    · rw [upd_same, take_succ_at hg, List.map_append, List.map_append]
      rfl
  · rw [List.length_map, L.len, List.take_length] at hD
    exact fin D G1 sm hD
end
end V4
end

-- V4m
section
set_option Elab.async false
set_option linter.all false
set_option maxRecDepth 100000
set_option exponentiation.threshold 10000
namespace V4
open PySem L2 OwnOps OwnNe G1 StX SupX EnumT
abbrev NPn : List Str := ["self", "name", "swaps", "pins", "groups", "ordered", "pin", "group"]
abbrev scA : Scope := { kind := .function, names := [(".0", .local), ("group", .cell), ("pins", .cell)], isGenerator := false, isCoroutine := false, more := [] }
abbrev scB : Scope := { kind := .function, names := [(".0", .local), ("group", .local), ("pins", .cell)], isGenerator := false, isCoroutine := false, more := [] }
abbrev scA0 : Scope := { kind := .function, names := [(".0", .local), ("group", .cell), ("pins", .free)], isGenerator := false, isCoroutine := false, more := [] }
abbrev scB0 : Scope := { kind := .function, names := [(".0", .local), ("group", .local), ("pins", .free)], isGenerator := false, isCoroutine := false, more := [] }
def gssT (pins : List Str) (os : List (Option (List Str))) : List (List Str) := gsOf pins os
def pinO (pins : List Str) (gss : List (List Str)) : List (List Int) := ordersT (pins.map fun z => (matesT z pins gss).map Int.ofNat)
def pinT (x : Str) (pins : List Str) (gss : List (List Str)) : Str := worded (("pins" : Str) :: x :: pins) (Txt.join " , " ((ordG pins gss).map (Txt.join " ")))
/-- a pin kind's instance, behind its __init__ -/
structure PinI (K : PySem.W.Frag) (H : Hp) (p C dx : Addr) (x : Str) (pins : List Str) (gss : List (List Str)) : Prop where
  ex : ∃ pa ca oa ga, H p = some (.ins C dx (kf (.str x) (.ref pa) (.ref ca) (.bl false) (.ref oa) (.str (pinT x pins gss)) ++ [(("_groups" : Str), .ref ga)])) ∧ SqT K H pa (pins.map V.str) ∧ H ca = some (.tup []) ∧ TT H oa (pinO pins gss)
theorem Gr.sameX {p C dx : Addr} {fs : List (Str × V)} {H H' : Hp} {v : V} {o : Option (List Str)} (g : Gr H v o) (hp : H p = some (.ins C dx fs)) (s : SameX p H H') : Gr H' v o := by
  cases g with
  | tup e => exact .tup (s _ _ (fun z => by rw [z, hp] at e; cases e) e)
  | lst e => exact .lst (s _ _ (fun z => by rw [z, hp] at e; cases e) e)
  | str x => exact .str x
theorem sqtX {K : PySem.W.Frag} {p C dx a : Addr} {fs : List (Str × V)} {xs : List V} {H H' : Hp} (hp : H p = some (.ins C dx fs)) (s : SameX p H H') (h : SqT K H a xs) : SqT K H' a xs := by
  have ne : ∀ o, H a = some o → (∀ C dx fs, o ≠ .ins C dx fs) → H' a = some o := fun o e n => s _ _ (fun z => by rw [z, hp] at e; exact n _ _ _ (Option.some.inj e).symm) e
  rcases h with (h | ⟨o, h⟩) | h
  · exact .inl (.inl (ne _ h fun _ _ _ z => by cases z))
  · exact .inl (.inr ⟨o, ne _ h fun _ _ _ z => by cases z⟩)
  · exact .inr h
theorem Grs.sameX {K : PySem.W.Frag} {p C dx : Addr} {fs : List (Str × V)} {H H' : Hp} {a : Addr} {gs : List V} {os : List (Option (List Str))} (g : Grs K H a gs os) (hp : H p = some (.ins C dx fs)) (s : SameX p H H') : Grs K H' a gs os :=
  ⟨sqtX hp s g.at_, g.len, fun i v h => let ⟨o, h1, h2⟩ := g.it i v h; ⟨o, h1, h2.sameX hp s⟩⟩
theorem ordG_len (pins : List Str) (gss : List (List Str)) : (ordG pins gss).length ≤ pins.length * gss.length := by
  unfold ordG
  induction pins with
  | nil => simp
  | cons z r ih =>
    have := List.length_filter_le (fun g : List Str => decide (g.head? = some z)) gss
    rw [List.flatMap_cons, List.length_append, List.length_cons, Nat.succ_mul]
    omega
theorem ordG_mem {pins : List Str} {gss : List (List Str)} {g : List Str} (h : g ∈ ordG pins gss) : g ∈ gss := by
  obtain ⟨z, _, h2⟩ := List.mem_flatMap.mp h
  exact (List.mem_filter.mp h2).1
theorem flat_len {gss : List (List Str)} {n : Nat} (h : ∀ g ∈ gss, g.length ≤ n) : gss.flatten.length ≤ n * gss.length := by
  induction gss with
  | nil => simp
  | cons g r ih =>
    have h1 := h g List.mem_cons_self
    have h2 := ih fun z hz => h z (List.mem_cons_of_mem _ hz)
    rw [List.flatten_cons, List.length_append, List.length_cons, Nat.mul_succ]
    omega
theorem grp_ne {os : List (Option (List Str))} {pins : List Str} (h : grpB os pins = true) : ∀ g ∈ gsOf pins os, g ≠ [] := by
  intro g hg
  obtain ⟨o, ho, rfl⟩ := List.mem_map.mp hg
  unfold grpB at h
  rw [Bool.and_eq_true, Bool.and_eq_true] at h
  have h1 := List.all_eq_true.mp h.1 o ho
  cases o with
  | none => cases h1
  | some zs =>
    have h2 : 2 ≤ zs.length := of_decide_eq_true h1
    cases zs with
    | nil => exact absurd h2 (by decide)
    | cons z r =>
      have hz : z ∈ texts os := List.mem_flatMap.mpr ⟨some (z :: r), ho, List.mem_cons_self⟩
      have h3 := List.all_eq_true.mp h.2.2 z hz
      have hp : z ∈ pins := List.contains_iff_mem.mp h3
      intro e
      have : z ∈ inPins pins (z :: r) := List.mem_filter.mpr ⟨hp, List.contains_iff_mem.mpr List.mem_cons_self⟩
      rw [show inPins pins ((some (z :: r)).getD []) = inPins pins (z :: r) from rfl] at e
      rw [e] at this
      cases this
theorem gs_sub {os : List (Option (List Str))} {pins : List Str} : ∀ g ∈ gsOf pins os, ∀ z ∈ g, z ∈ pins := by
  intro g hg z hz
  obtain ⟨o, _, rfl⟩ := List.mem_map.mp hg
  exact (List.mem_filter.mp hz).1
theorem gs_len {os : List (Option (List Str))} {pins : List Str} : ∀ g ∈ gsOf pins os, g.length ≤ pins.length := by
  intro g hg
  obtain ⟨o, _, rfl⟩ := List.mem_map.mp hg
  exact inPins_len _ _
section
variable {P : Program} {w : World} {K : PySem.W.Frag} {mg : Str → Option Value} {base : Heap} {D CK fCK CN DI gK : Addr}
def spPinB (K : PySem.W.Frag) (CN CK DI gK : Addr) : Sp := fun vs H Q E => ∃ (p dx C pa : Addr) (v sv : V) (rest : List V) (o : Obj), vs = [.ref p, v, sv, .ref pa] ∧ H p = some (.ins C dx []) ∧ H pa = some (.frz o (.tup rest)) ∧ o.dict = none ∧ o.cls = .type "tuple" ∧ KCls K C ∧ SupAt K C DI "__init__" gK ∧
  Av H v ∧ Shr v ∧ 1 ≤ rest.length ∧ rest.length ≤ 6 ∧ (∀ y ∈ rest, Av H y ∧ Shr y) ∧
  ((wdV v = false ∧ ∀ e H', SameX p H H' → H' e = some (xd v) → E (.ref CN) (some e) H') ∨
   (wdV v = true ∧ difV rest = false ∧ ∀ e H', SameX p H H' → H' e = some (xd (.ref pa)) → E (.ref CK) (some e) H') ∨
   (∃ x pins, v = .str x ∧ rest = pins.map V.str ∧ wd x = true ∧ difV rest = true ∧ (∀ z ∈ pins, z.length ≤ 12) ∧
     ((Av H sv ∧ (∀ a xs, sv = .ref a → H a ≠ some (.tup xs)) ∧ ∀ e H', SameX p H H' → H' e = some (xd sv) → E (.ref CK) (some e) H') ∨
      ∃ a gs os, sv = .ref a ∧ Grs K H a gs os ∧ gs.length ≤ 10 ∧ (texts os).length ≤ 40 ∧ (∀ z ∈ texts os, z.length ≤ 1000) ∧
        ((grpB os pins = false ∧ ∀ e H', SameX p H H' → H' e = some (xd sv) → E (.ref CK) (some e) H') ∨
         (grpB os pins = true ∧ ∀ H', SameX p H H' → PinI K H' p C dx x pins (gsOf pins os) → Q .non H')))))
def okP (kv : List (Str × V)) : Prop := kv = [] ∨ ∃ v, kv = [(("swaps" : Str), v)]
def gP (sd : Addr) (kv : List (Str × V)) : List V := [(kv.lookup ("swaps" : Str)).getD (.ref sd)]
theorem bind_pin {kV doc pm ct : Value} {an : Option Addr} {cda cc sd : Addr} (kd : KwdV K kV [("swaps", .ref sd)]) : BindA K (PySem.W.ksFn "__init__" "PinKind.__init__" (defArgs (sPin 0)) (defBody (sPin 0)) (defScope (sPin 0)) .none kV doc pm an (.ref cda) ct cc) "self" "name" ["swaps"] "pins" okP (gP sd) := by
  intro ks ws zs rz lz ok
  rcases ok with e | ⟨v, e⟩
  · have e1 : zs = [] := by
      cases zs with
      | nil => rfl
      | cons z zs => cases ks with
        | nil => cases lz
        | cons k ks => cases e
    subst e1
    have e2 : ks = [] := List.length_eq_zero_iff.mp lz.symm
    subst e2
    cases rz
    rcases kd with z | ⟨Dk, rfl, hq⟩
    · cases z
    obtain ⟨u, hu, ru⟩ := hq _ (List.mem_singleton_self _)
    refine ⟨[u], .cons ru .nil, rfl, fun M A st a b rest Q E KI h => ?_⟩
    cases rest with
    | nil =>
      have ch : ∃ (β γ : Type) (k1 : Option Value → Sem β) (k2 : β → Sem γ) (k3 : γ → Sem (List (Str × Value))) (c : β), bindArgs (PySem.W.ksFn "__init__" "PinKind.__init__" (defArgs (sPin 0)) (defBody (sPin 0)) (defScope (sPin 0)) .none (.ref Dk) doc pm an (.ref cda) ct cc) ⟨a :: b :: [], []⟩ = ((nsGet Dk ("swaps" : Str) >>= k1) >>= k2) >>= k3 ∧ k1 (some u) = pure c ∧ (k2 c >>= k3) = (newTuple ([]) >>= fun t => pure ((["self", "name", "swaps", "pins"] : List Str).zip (a :: b :: [u] ++ [t]))) := ⟨_, _, _, _, _, _, rfl, rfl, rfl⟩
      obtain ⟨β, γ, k1, k2, k3, c, e1, e2, e3⟩ := ch
      show wpAny M A (bindArgs _ ⟨a :: b :: [], []⟩) Q E st
      rw [e1, bind_assoc]
      refine wpAny_bind (((PySem.W.looks_nsIn (K := K) KI hu).andThen (PySem.W.Looks.of_pure e2)) A _ _ st (fun _ _ e => e) ?_)
      rw [e3]
      exact h
    | cons r rs =>
      have ch : ∃ (β γ : Type) (k1 : Option Value → Sem β) (k2 : β → Sem γ) (k3 : γ → Sem (List (Str × Value))) (c : β), bindArgs (PySem.W.ksFn "__init__" "PinKind.__init__" (defArgs (sPin 0)) (defBody (sPin 0)) (defScope (sPin 0)) .none (.ref Dk) doc pm an (.ref cda) ct cc) ⟨a :: b :: r :: rs, []⟩ = ((nsGet Dk ("swaps" : Str) >>= k1) >>= k2) >>= k3 ∧ k1 (some u) = pure c ∧ (k2 c >>= k3) = (newTuple (r :: rs) >>= fun t => pure ((["self", "name", "swaps", "pins"] : List Str).zip (a :: b :: [u] ++ [t]))) := ⟨_, _, _, _, _, _, rfl, rfl, rfl⟩
      obtain ⟨β, γ, k1, k2, k3, c, e1, e2, e3⟩ := ch
      show wpAny M A (bindArgs _ ⟨a :: b :: r :: rs, []⟩) Q E st
      rw [e1, bind_assoc]
      refine wpAny_bind (((PySem.W.looks_nsIn (K := K) KI hu).andThen (PySem.W.Looks.of_pure e2)) A _ _ st (fun _ _ e => e) ?_)
      rw [e3]
      exact h
  · have two : ∃ k1 z1, ks = [k1] ∧ zs = [z1] := by
      have l := congrArg List.length e
      rw [List.length_zip, lz, Nat.min_self] at l
      match ks, zs, lz, l with
      | [k1], [z1], _, _ => exact ⟨_, _, rfl, rfl⟩
    obtain ⟨k1, z1, rfl, rfl⟩ := two
    cases rz with
    | @cons _ w1 _ ws r1 rz =>
    cases rz
    cases e
    exact ⟨[w1], .cons r1 .nil, rfl, fun M A st a b rest Q E KI h => by
      cases rest with
      | nil => exact h
      | cons r rs => exact h⟩
theorem ok_pin {f sd : Addr} (F : SDef K P "PinKind.__init__" (sPin 0) [("swaps", .ref sd)] f DI) (G : SupG K P) (T : Bi mg) (N : Nums mg) (U : RTxt K mg D CK fCK) (GK : FnR P w K mg base (L2.CX P w) 3 gK (spKI K CN)) (tg : PySem.W.typeIn K (.ref gK) = some (.type "function")) (fg : PySem.W.fnIn K gK = true)
    (GD : Glb P w K mg base "are_different_words" 2 ["values"] (spDiff K)) (GG : Glb P w K mg base "_are_groups" 3 ["swaps", "pins"] (spGrp K)) (GM : Glb P w K mg base "_mates" 3 ["pin", "pins", "groups"] (spMat K)) (GO : Glb P w K mg base "_orders" 3 ["choices"] spOrd) (GW : Glb P w K mg base "_worded" 1 ["words", "tail"] (spWrd K)) :
    FnA P w K mg base (L2.CX P w) 6 f (fun vs kv H Q E => ∃ a b rest, vs = a :: b :: rest ∧ okP kv ∧ rest.length ≤ sizeLine ∧ ∀ p o, H p = none → o.dict = none → o.cls = .type "tuple" → spPinB K CN CK DI gK (a :: b :: gP sd kv ++ [V.ref p]) (upd H p (.frz o (.tup rest))) Q E) := by
  obtain ⟨_, _, mD, kD, GD, bD⟩ := GD.ex
  obtain ⟨_, _, mG, kG, GG, bG⟩ := GG.ex
  obtain ⟨_, _, mM, kM, GM, bM⟩ := GM.ex
  obtain ⟨_, _, mO, kO, GO, bO⟩ := GO.ex
  obtain ⟨_, _, mW, kW, GW, bW⟩ := GW.ex
  obtain ⟨t6, n6⟩ := N.pins
  obtain ⟨oc, od, kV, doc, pm, an, cda, ct, cc, osl, lk, hcd, kd, hcode, cl, cld, csl, hcc⟩ := F.ex
  have sc : SScope NPn ["self", "name", "swaps", "pins"] (defScope (sPin 0)) := ⟨rfl, rfl, rfl, by decide +kernel, rfl, by decide +kernel, by decide +kernel, by decide +kernel, by decide +kernel, by decide +kernel⟩
  have hN := sc.nd
  have SD : SupDef K P f cda cc DI gK "self" := ⟨⟨_, _, _, _, _, lk, rfl, rfl⟩, hcode, ⟨cl, cld, csl, hcc⟩, F.cls, G.sup, G.any, tg, fg, G.top⟩
  refine fnA_F (CX := L2.CX P w) (k := 5) (N := NPn) (kn := ["swaps"]) lk hcd sc hcc cxUp (bind_pin kd) (fun A outer s H vs Q E hr h => ?_)
  have pE : Passes (L2.CX P w) (cxS (L2.CX P w) P w K mg base NPn "PinKind.__init__" (defScope (sPin 0)) f cda cc A outer s H E) E := passes_call (takes_of rfl rfl rfl rfl) (fun _ _ _ _ h => h)
  refine ⟨_, psA_sup (qual := "PinKind.__init__") (E := E) (sp := spKI K CN) rfl sc rfl (by decide +kernel) SD (by decide) GK (hr.mono (by decide)) pE (pa_cons (pv 1) pa_nil) (argsPlain rfl (fun _ => rfl))
    (pss_cons (ps_if (PW.pt (pw_or (pt_not (pt_chain op_le op_le pe_int (pe_callB call_len_seq (by rfl) T.len PySem.boot_len (pa_cons (pv 3) pa_nil)) (pe_glob (v := .int 6) (by rfl) n6 ⟨_, rfl⟩)))
        (pw_or1 (pt_not (pt_val (pe_call GD (hr.mono (by decide)) (by rfl) mD kD bD .nil passL (pa_cons (pv 3) pa_nil)))))))
      (pss_one (ps_raiseGiv rfl PySem.Giv.ok_VE U.eK hr (takes_of rfl rfl rfl rfl) (pa_cons (pv 3) pa_nil) (by rfl))) pss_nil)
    (pss_cons (ps_if (pt_not (pt_val (pe_call GG (hr.mono (by decide)) (by rfl) mG kG bG .nil passL (pa_cons (pv 2) (pa_cons (pv 3) pa_nil)))))
      (pss_one (ps_raiseGiv rfl PySem.Giv.ok_VE U.eK hr (takes_of rfl rfl rfl rfl) (pa_cons (pv 2) pa_nil) (by rfl))) pss_nil)
    (pss_cons (ps_fld (pv 0) (pv 3) rfl)
    (pss_cons (ps_set (i := 4) hN rfl (Or.inr rfl) (pe_lc (scope := scA0) (own := [("group", 7)]) (g := gName 7) (tt := tYes) (te := teA K) rfl hN (pi_tup (pv 2)) (blkOk_by (N := NPn) (sc := defScope (sPin 0)) (by decide +kernel)) (fun _ _ _ _ _ => pg_name (i := 7) hN rfl (Or.inr rfl)) (fun _ _ _ _ _ => pts_nil)
        (fun _ _ _ _ _ => pe_lc (own := [("pin", 6)]) (g := gName 6) rfl hN (pi_tup (pv 3)) (blkOk_by (N := NPn) (sc := scA) (by decide +kernel)) (fun _ _ _ _ _ => pg_name (i := 6) hN rfl (Or.inl rfl)) (fun _ _ _ _ _ => pts_one (pt_cmpR op_in_seq (pv 6) (pv 7) (by rfl))) (fun _ _ _ _ _ => pv 6))))
    (pss_cons (ps_fld (pv 0) (pe_lc (scope := scB0) (own := [("group", 7)]) (g := gName 7) (tt := tYes) (te := teB K) rfl hN (pi_list (pv 4)) (blkOk_by (N := NPn) (sc := defScope (sPin 0)) (by decide +kernel)) (fun _ _ _ _ _ => pg_name (i := 7) hN rfl (Or.inl rfl)) (fun _ _ _ _ _ => pts_nil)
        (fun _ _ _ _ _ => pe_lc (wi := iList K (tVar 7)) (own := [("pin", 6)]) (g := gName 6) (tt := tYes) (te := teB0 K) rfl hN (pi_list (pv 7)) (blkOk_by (N := NPn) (sc := scB) (by decide +kernel)) (fun _ _ _ _ _ => pg_name (i := 6) hN rfl (Or.inl rfl)) (fun _ _ _ _ _ => pts_nil)
          (fun _ _ _ _ _ => pe_bmF PySem.F.plainAttrs_tuple PySem.F.slot_tuple_index PySem.F.type_tuple_index mt_tup_index (pv 3) (pa_cons (pv 6) pa_nil)))) rfl)
    (pss_cons (ps_fld (pv 0) (pe_call GO (hr.mono (by decide)) (by rfl) mO kO bO .nil passL (pa_cons (pe_lc (own := [("pin", 6)]) (g := gName 6) (tt := tYes) (te := teC K) rfl hN (pi_tup (pv 3)) (blkOk_by (N := NPn) (sc := defScope (sPin 0)) (by decide +kernel)) (fun _ _ _ _ _ => pg_name (i := 6) hN rfl (Or.inl rfl)) (fun _ _ _ _ _ => pts_nil)
        (fun _ _ _ _ _ => pe_call GM (hr.mono (by decide)) (by rfl) mM kM bM .nil passL (pa_cons (pv 6) (pa_cons (pv 3) (pa_cons (pv 4) pa_nil))))) pa_nil)) rfl)
    (pss_cons (ps_setLc2 (i := 5) (own := [("pin", 6), ("group", 7)]) (vs1 := [7]) (g := gName 6) (g1 := gName 7) (tt := tYes) (tt1 := ttD K) (wi1 := iList K (tVar 4)) (te := tVar 7) rfl hN rfl rfl (sw_true rfl rfl rfl (by decide +kernel)) (pi_tup (pv 3))
          (blkOk_by (N := NPn) (sc := defScope (sPin 0)) (by decide +kernel)) (by decide) (fun _ _ _ _ _ => pg_name (i := 6) hN rfl (Or.inl rfl)) (fun _ _ _ _ _ => pts_nil) (fun _ _ _ _ _ => pi_list (pv 4)) (fun _ _ _ _ _ => pg_name (i := 7) hN rfl (Or.inl rfl)) (fun _ _ _ _ _ => pts_one (pt_cmpR op_eq (pe_ix (show IxR _ (rIxL K) from ix_list) (pv 7) pe_int (fun _ _ => rfl)) (pv 6) (nomark _))) (fun _ _ _ _ _ => pv 7))
    (pss_one (ps_fld (pv 0) (pe_call GW (hr.mono (by decide)) (by rfl) mW kW bW .nil passL (pa_cons (pe_lst (pa_cons pe_str (pa_cons (pv 1) (pa_star (pv 3) pa_nil)))) (pa_cons (pe_join pe_str (pe_lc (own := [("group", 7)]) (g := gName 7) (tt := tYes) (te := teE K) rfl hN (pi_list (pv 5)) (blkOk_by (N := NPn) (sc := defScope (sPin 0)) (by decide +kernel)) (fun _ _ _ _ _ => pg_name (i := 7) hN rfl (Or.inl rfl)) (fun _ _ _ _ _ => pts_nil)
        (fun _ _ _ _ _ => pe_join pe_str (pv 7)))) pa_nil))) rfl))))))))) (by rfl), ?_⟩
  obtain ⟨p, dx, C, pa, v, sv, rest, o, rfl, hp, hpa, od', oc', kc, so, av, sh, l1, l6, its, k⟩ := h
  refine ⟨p, C, dx, [], rfl, hp, so, _, rfl, ?_⟩
  have npa : pa ≠ p := fun z => by rw [z, hp] at hpa; cases hpa
  by_cases hv : wdV v = true
  case neg =>
    rcases k with ⟨b, k⟩ | ⟨b, _⟩ | ⟨x, pins, e1, e2, b, _⟩
    · exact ⟨p, dx, C, v, rfl, hp, kc, av, sh, .inl ⟨b, fun e H' sm he => k e H' sm he⟩⟩
    · exact absurd b hv
    · rw [e1] at hv; exact absurd b hv
  obtain ⟨x, rfl, wx⟩ : ∃ x, v = .str x ∧ wd x = true := by
    cases v with
    | str x => exact ⟨x, rfl, hv⟩
    | _ => exact absurd hv (by simp [wdV])
  refine ⟨p, dx, C, .str x, rfl, hp, kc, av, sh, .inr ⟨x, rfl, wx, fun H1 a1 c0 a3 sm hp1 hc0 => ?_⟩⟩
  have hpa1 := sm _ _ npa hpa
  have line : 1000 ≤ sizeLine := by decide
  have sqF : ∀ {G : Hp}, G pa = some (.frz o (.tup rest)) → SqT K G pa rest := fun h => .inl (.inr ⟨o, h⟩)
  have its1 : ∀ G, Same H1 G → ∀ y ∈ rest, Av G y ∧ Shr y := fun G s y hy => by
    obtain ⟨h1, h2⟩ := its y hy
    exact ⟨(h1.sameX hp sm).same s, h2⟩
  refine ⟨_, rfl, pa, _, rfl, .inr (sqF hpa1), _, _, rfl, rfl, _, rfl, ?_⟩
  refine if_pos' (decide_eq_true (by omega)) ⟨_, _, rfl, rfl, _, rfl, ?_⟩
  refine if_neg' (by rw [decide_eq_true (show ((rest.length : Nat) : Int) ≤ 6 by omega)]; rfl) ?_
  refine ⟨_, rfl, pa, _, rfl, .inr (sqF hpa1), by omega, its1 H1 (Same.refl _), fun G2 s2 => ⟨_, rfl, ?_⟩⟩
  have sm2 : SameX p H G2 := fun b u n q => s2 _ _ (sm b u n q)
  have hpa2 := s2 _ _ hpa1
  cases hd : difV rest with
  | false =>
    refine if_pos' rfl ⟨_, rfl, _, rfl, fun e ne => ?_⟩
    rcases k with ⟨b', _⟩ | ⟨_, _, k⟩ | ⟨_, _, _, _, _, b', _⟩
    · rw [hv] at b'; cases b'
    · exact k e _ (fun b u n q => same_upd ne _ _ (sm2 b u n q)) upd_same
    · rw [hd] at b'; cases b'
  | true =>
  refine if_neg' rfl ?_
  rcases k with ⟨b', _⟩ | ⟨_, b', _⟩ | ⟨x', pins, e1, er, _, _, c12, k⟩
  · rw [hv] at b'; cases b'
  · rw [hd] at b'; cases b'
  cases e1
  subst er
  rw [List.length_map] at l1 l6
  -- the groups
  rcases k with ⟨av2, nt, ke⟩ | ⟨ga, gs, os, rfl, gr, n10, n40, sh2, k⟩
  · refine ⟨_, rfl, _, rfl, sv, pa, pins, rfl, sqF hpa2, .inl ⟨(av2.sameX hp sm).same s2, fun a xs e h => ?_, _, rfl, if_pos' rfl ⟨_, rfl, _, rfl, fun e ne => ke e _ (fun b u n q => same_upd ne _ _ (sm2 b u n q)) upd_same⟩⟩⟩
    subst e
    cases av2 with
    | lst e =>
      have := sm2 _ _ (fun z => by rw [z, hp] at e; cases e) e
      rw [h] at this
      cases this
    | tup e => exact nt _ _ rfl e
  refine ⟨_, rfl, _, rfl, _, pa, pins, rfl, sqF hpa2, .inr ⟨ga, gs, os, rfl, gr.sameX hp sm2, n10, n40, sh2, fun G3 s3 => ⟨_, rfl, ?_⟩⟩⟩
  have sm3 : SameX p H G3 := fun b u n q => s3 _ _ (sm2 b u n q)
  rcases k with ⟨hb, ke⟩ | ⟨hb, kk⟩
  · rw [hb]
    exact if_pos' rfl ⟨_, rfl, _, rfl, fun e ne => ke e _ (fun b u n q => same_upd ne _ _ (sm3 b u n q)) upd_same⟩
  rw [hb]
  refine if_neg' rfl ?_
  have gOks : os.all gOk = true := by
    unfold grpB at hb
    rw [Bool.and_eq_true] at hb
    exact hb.1
  have gne := grp_ne hb
  have gsub := @gs_sub os pins
  have glen := @gs_len os pins
  have gcnt : (gsOf pins os).length ≤ 10 := by
    have e : (gsOf pins os).length = os.length := List.length_map ..
    have := gr.len
    omega
  have gflat : (gsOf pins os).flatten.length ≤ 100 := by
    have := flat_len (gss := gsOf pins os) (n := 6) fun g hg => Nat.le_trans (glen g hg) l6
    omega
  -- pins
  have m3 : Mkg p C dx H1 G3 (kf (.str x) (.ref a1) (.ref c0) (.bl false) (.ref a3) (.str (kindT x))) := (Mkg.start hp1).same (s2.trans s3)
  refine ⟨_, rfl, _, rfl, p, C, dx, _, rfl, m3.at_, kc.cl, kc.n2, kf_few .., ?_⟩
  rw [kp_pins]
  have m4 := m3.put (fs' := kf (.str x) (.ref pa) (.ref c0) (.bl false) (.ref a3) (.str (kindT x)))
  generalize upd G3 p (.ins C dx (kf (.str x) (.ref pa) (.ref c0) (.bl false) (.ref a3) (.str (kindT x)))) = G4 at m4 ⊢
  have nc0 : c0 ≠ p := fun z => by rw [z, hp1] at hc0; cases hc0
  have smH : ∀ {G : Hp} {fs : List (Str × V)}, Mkg p C dx H1 G fs → SameX p H G := fun m b u n q => m.sm b u n (sm b u n q)
  -- groups
  dsimp only [tSeq, tAsg]
  refine lcA (gr.sameX hp (smH m4)) gOks (sqF (m4.sm _ _ npa hpa1)) l6 n10 fun D qs G5 s5 L5 => ?_
  have m5 := m4.same s5
  have glen6 : ∀ g ∈ gsOf pins os, g.length ≤ 6 := fun g hg => Nat.le_trans (glen g hg) l6
  dsimp only [gName, tSeq, sFld, tAsg]
  refine lcB L5 (m5.sm _ _ npa hpa1) od' oc' gsub glen6 gcnt fun B xs G6 s6 hB => ?_
  have m6 := m5.same s6
  have L6 := L5.same s6
  refine ⟨_, rfl, p, C, dx, _, rfl, m6.at_, kc.cl, kc.n7, kf_few .., ?_⟩
  rw [kf_grp]
  have m7 := m6.put (fs' := kf (.str x) (.ref pa) (.ref c0) (.bl false) (.ref a3) (.str (kindT x)) ++ [(("_groups" : Str), V.ref B)])
  have Lput : ∀ {G : Hp} {fs : List (Str × V)} {u : HO}, Mkg p C dx H1 G fs → LLt G D (gsOf pins os) qs → LLt (upd G p u) D (gsOf pins os) qs := fun {G fs u} m L =>
    ⟨put_ne L.at_ m.at_ (by intro _ _ _ z; cases z), L.len, fun i q hq => let ⟨g, h1, h2⟩ := L.it i q hq; ⟨g, h1, put_ne h2 m.at_ (by intro _ _ _ z; cases z)⟩⟩
  have L7 := Lput (u := .ins C dx (kf (.str x) (.ref pa) (.ref c0) (.bl false) (.ref a3) (.str (kindT x)) ++ [(("_groups" : Str), V.ref B)])) m6 L6
  generalize upd G6 p (.ins C dx (kf (.str x) (.ref pa) (.ref c0) (.bl false) (.ref a3) (.str (kindT x)) ++ [(("_groups" : Str), V.ref B)])) = G7 at m7 L7 ⊢
  -- orders
  dsimp only [tSeq, sFld, tCall, tCons, tNil]
  refine lcC L7 (sqF (m7.sm _ _ npa hpa1)) l6 gcnt gflat fun Cc rs G8 s8 L8 => ?_
  refine ⟨Cc, _, rs, rfl, L8, by rw [List.length_map]; exact l6, fun c hc => ?_, fun r G9 s9 tt => ?_⟩
  · obtain ⟨z, _, rfl⟩ := List.mem_map.mp hc
    rw [List.length_map]
    exact Nat.le_trans (mTo_len _) l6
  have m9 := m7.same (s8.trans s9)
  refine ⟨_, rfl, p, C, dx, _, rfl, m9.at_, kc.cl, kc.n5, by show 7 < 1000; decide, ?_⟩
  rw [kf_ords]
  have m10 := m9.put (fs' := kf (.str x) (.ref pa) (.ref c0) (.bl false) (.ref r) (.str (kindT x)) ++ [(("_groups" : Str), V.ref B)])
  have L10 := Lput (u := .ins C dx (kf (.str x) (.ref pa) (.ref c0) (.bl false) (.ref r) (.str (kindT x)) ++ [(("_groups" : Str), V.ref B)])) m9 (L7.same (s8.trans s9))
  have tt10 : TT (upd G9 p (.ins C dx (kf (.str x) (.ref pa) (.ref c0) (.bl false) (.ref r) (.str (kindT x)) ++ [(("_groups" : Str), V.ref B)]))) r (pinO pins (gsOf pins os)) := tt.sameX (p := p) (fun b o nb e => by rw [upd_ne nb]; exact e) m9.at_ (by intro xs z; cases z)
  generalize upd G9 p (.ins C dx (kf (.str x) (.ref pa) (.ref c0) (.bl false) (.ref r) (.str (kindT x)) ++ [(("_groups" : Str), V.ref B)])) = G10 at m10 L10 tt10 ⊢
  -- ordered
  refine lcD L10 (sqF (m10.sm _ _ npa hpa1)) l6 gcnt gne fun Dd ds G11 s11 L11 => ?_
  have m11 := m10.same s11
  have hpa11 := sqF (m11.sm _ _ npa hpa1)
  have tt11 := tt10.same s11
  -- the line
  have x12 : x.length ≤ 12 := by
    unfold wd at wx
    simp only [Bool.and_eq_true, decide_eq_true_eq] at wx
    exact wx.1.1.1.1.2
  have ol : (ordG pins (gsOf pins os)).length ≤ 60 := by
    have h1 := ordG_len pins (gsOf pins os)
    have h2 : pins.length * (gsOf pins os).length ≤ 6 * 10 := Nat.mul_le_mul l6 gcnt
    omega
  refine ⟨_, rfl, _, rfl, pa, _, rfl, .inl hpa11, ?_, fun l nl => ?_⟩
  · simp only [List.length_cons, List.length_append, List.length_nil, List.length_map]
    omega
  have sl := same_upd (o := .lst (V.str "pins" :: V.str x :: (pins.map V.str ++ []))) nl
  refine ⟨⟨_, rfl⟩, ?_⟩
  refine lcE (L11.same sl) (by omega) (fun g hg => ⟨glen6 g (ordG_mem hg), fun z hz => c12 z (gsub g (ordG_mem hg) z hz)⟩) fun De G12 s12 hDe => ?_
  have spc : (Str.ofString " ").length = 1 := by decide +kernel
  have com : (Str.ofString " , ").length = 3 := by decide +kernel
  have each : ∀ y ∈ (ordG pins (gsOf pins os)).map (Txt.join " "), y.length ≤ 78 := fun y hy => by
    obtain ⟨g, hg, rfl⟩ := List.mem_map.mp hy
    have h1 := join_le (a := " ") g
    have h2 := sum_le (ys := g) (n := 12) fun z hz => c12 z (gsub g (ordG_mem hg) z hz)
    have h3 := glen6 g (ordG_mem hg)
    rw [spc] at h1
    omega
  have tot := sum_le each
  rw [List.length_map] at tot
  have tail_le := join_le (a := " , ") ((ordG pins (gsOf pins os)).map (Txt.join " "))
  rw [com, List.length_map] at tail_le
  refine ⟨" , ", De, _, rfl, rfl, .inl (SqL.of hDe), by rw [com, List.length_map]; omega, ?_⟩
  have m12 := m11.same ((same_upd (o := .lst (V.str "pins" :: V.str x :: (pins.map V.str ++ []))) nl).trans s12)
  have ws : G12 l = some (.lst ((("pins" : Str) :: x :: pins).map V.str)) := by
    rw [s12 _ _ upd_same, List.append_nil]
    rfl
  refine ⟨l, ("pins" : Str) :: x :: pins, _, rfl, SqL.of ws, by simp only [List.length_cons]; omega, ?_, by omega, fun G13 s13 => ?_⟩
  · have h1 := sum_le (ys := pins) (n := 12) c12
    unfold size
    rw [List.map_cons, List.map_cons, List.sum_cons, List.sum_cons, show (Str.ofString "pins").length = 4 by decide +kernel]
    omega
  have m13 := m12.same s13
  refine ⟨_, rfl, p, C, dx, _, rfl, m13.at_, kc.cl, kc.n6, by show 7 < 1000; decide, ?_⟩
  rw [kf_line]
  have m14 := m13.put (fs' := kf (.str x) (.ref pa) (.ref c0) (.bl false) (.ref r) (.str (pinT x pins (gsOf pins os))) ++ [(("_groups" : Str), V.ref B)])
  refine kk _ (smH m14) ⟨pa, c0, r, B, m14.at_, sqF (m14.sm _ _ npa hpa1), m14.sm _ _ nc0 hc0, ?_⟩
  exact (tt11.same (((same_upd (o := .lst (V.str "pins" :: V.str x :: (pins.map V.str ++ []))) nl).trans s12).trans s13)).sameX (p := p) (fun b o nb e => by rw [upd_ne nb]; exact e) m13.at_ (by intro xs z; cases z)
end
end V4
end

-- V5n
section
set_option Elab.async false
set_option linter.all false
set_option maxRecDepth 100000
set_option exponentiation.threshold 10000
namespace V4
open PySem L2 OwnOps OwnNe G1 StX SupX
abbrev sPool : Stmt := top 72
abbrev sNext : Stmt := top 73
def CDivG (_ j : Int) : Prop := j ≠ 0 ∧ j.natAbs.log2 < 9000
theorem op_fdivG {X : Cx} : OpR X (binaryOp .FloorDiv) (rI CDivG fun i j => .int (i.fdiv j)) := opI fun i j _ _ _ _ _ hc q =>
  PyProof.Rows.floordiv_int hc.1 q (.inl (PyProof.noPylong_of_log2 hc.2))
theorem wide_divG {i j : Int} {n : Nat} (h : j ≠ 0) (hb : j.natAbs < 2 ^ n) (h0 : 0 < n) (h9 : n ≤ 9000) : CDivG i j := ⟨h, Nat.lt_of_lt_of_le (PySem.Flt.log2_lt_of h0 hb) h9⟩
structure Nms (mg : Str → Option Value) : Prop where
  len : mg "len" = none
  int : mg "int" = none
  str : mg "str" = none
  range : mg "range" = none
  list : mg "list" = none
  tuple : mg "tuple" = none
  repr : mg "repr" = none
theorem mod_nn {x : Int} {u : Int} (h : 0 < u) : 0 ≤ x % u ∧ x % u < u := ⟨Int.emod_nonneg _ (Int.ne_of_gt h), Int.emod_lt_of_pos _ h⟩
theorem dp_ints {K : PySem.W.Frag} {H : Hp} : ∀ ns : List Int, DpAll K H (ns.map V.int) (ns.map PyData.int)
  | [] => .nil
  | n :: r => .cons (.int n) (dp_ints r)
theorem sm9 {u : Int} (h : u.natAbs < 2 ^ 128) : u.natAbs < 2 ^ 9000 := Nat.lt_of_lt_of_le h (Nat.pow_le_pow_right (by decide) (by decide))
theorem atI_mod {ns : List Int} {k : Int} (h : ns ≠ []) : ∃ z, atI (ns.map V.int) (k % (ns.length : Int)) = some (.int z) := by
  have hl : 0 < ns.length := List.length_pos_iff.mpr h
  have h1 : 0 ≤ k % (ns.length : Int) := Int.emod_nonneg _ (by omega)
  have h2 : k % (ns.length : Int) < ns.length := Int.emod_lt_of_pos _ (by omega)
  obtain ⟨j, hj⟩ : ∃ j : Nat, k % (ns.length : Int) = j := ⟨_, (Int.toNat_of_nonneg h1).symm⟩
  have h3 : j < ns.length := by omega
  refine ⟨ns[j], at_of hj ?_⟩
  rw [List.getElem?_map, List.getElem?_eq_getElem h3]
  rfl
theorem cut_ints (ns : List Int) (lo hi : Option Int) : ∃ ms : List Int, cutV (ns.map V.int) lo hi = ms.map V.int := by
  refine ⟨(ns.drop (HT.sIx (ns.map V.int).length 0 lo)).take (HT.sIx (ns.map V.int).length (ns.map V.int).length hi - HT.sIx (ns.map V.int).length 0 lo), ?_⟩
  unfold cutV
  rw [List.map_take, List.map_drop]
theorem cut2 {α : Type} {goal : Prop} {F Y : α → Prop} (body : (∀ a, F a → Y a) → goal) (next : ∀ a, F a → Y a) : goal := body next
/-- the pool of the law's draws; m: how often at most it has been asked -/
def St (xa : Addr) (H : Hp) (l : Addr) (m : Nat) : Prop := ∃ (a b : Addr) (ns gs : List Int) (r n : Int), a ≠ l ∧ b ≠ l ∧ H a = some (.lst (ns.map V.int)) ∧ H b = some (.lst (gs.map V.int)) ∧ H l = some (.lst [.ref a, .ref b, .int r, .int n]) ∧ 0 ≤ n ∧ n ≤ m ∧ a ≠ xa ∧ b ≠ xa
theorem St.same {H H' : Hp} {l : Addr} {m : Nat} {xa : Addr} (h : St xa H l m) (s : Same H H') : St xa H' l m :=
  let ⟨a, b, ns, gs, r, n, al, bl, h1, h2, h3, n0, n1, ax, bx⟩ := h
  ⟨a, b, ns, gs, r, n, al, bl, s _ _ h1, s _ _ h2, s _ _ h3, n0, n1, ax, bx⟩
theorem St.more {H : Hp} {l : Addr} {m m' : Nat} {xa : Addr} (h : St xa H l m) (s : m ≤ m') : St xa H l m' :=
  let ⟨a, b, ns, gs, r, n, al, bl, h1, h2, h3, n0, n1, ax, bx⟩ := h
  ⟨a, b, ns, gs, r, n, al, bl, h1, h2, h3, n0, by omega, ax, bx⟩
theorem nn_x {H G : Hp} {l xa : Addr} (n : H xa ≠ none) (s : SameX l H G) (hl : G l ≠ none) : G xa ≠ none := by
  by_cases h : xa = l
  · rw [h]; exact hl
  · cases q : H xa with
    | none => exact absurd q n
    | some u => rw [s xa u h q]; exact Option.some_ne_none _
theorem St.l0 {H : Hp} {l xa : Addr} {m : Nat} (S : St xa H l m) : H l ≠ none := by
  obtain ⟨_, _, _, _, _, _, _, _, _, _, h3, _⟩ := S
  rw [h3]
  exact Option.some_ne_none _
theorem St.nn {H G : Hp} {l xa : Addr} {m : Nat} (S : St xa G l m) (n : H xa ≠ none) (s : SameX l H G) : G xa ≠ none := nn_x n s S.l0
/-- a fresh address isn't of the pool -/
theorem St.avoid {H : Hp} {l xa D : Addr} {m : Nat} (S : St xa H l m) (nD : H D = none) : St D H l m := by
  obtain ⟨a, b, ns, gs, r, n, al, bl, h1, h2, h3, n0, n1, ax, bx⟩ := S
  exact ⟨a, b, ns, gs, r, n, al, bl, h1, h2, h3, n0, n1, ne_of_none h1 nD, ne_of_none h2 nD⟩
/-- a change at the address that is avoided -/
theorem St.at {H : Hp} {l D : Addr} {m : Nat} {o : HO} (S : St D H l m) (dl : D ≠ l) : St D (upd H D o) l m := by
  obtain ⟨a, b, ns, gs, r, n, al, bl, h1, h2, h3, n0, n1, ax, bx⟩ := S
  exact ⟨a, b, ns, gs, r, n, al, bl, by rw [upd_ne ax]; exact h1, by rw [upd_ne bx]; exact h2, by rw [upd_ne dl.symm]; exact h3, n0, n1, ax, bx⟩
section
variable {P : Program} {w : World} {K : PySem.W.Frag} {mg : Str → Option Value} {base : Heap}
def spNext : Sp := fun vs H Q _ => ∃ (l xa : Addr) (u : Int) (m : Nat), vs = [.ref l, .int u] ∧ 0 < u ∧ u.natAbs < 2 ^ 9000 ∧ St xa H l m ∧ H xa ≠ none ∧ m < 2 ^ 50 ∧ ∀ d H', 0 ≤ d → d < u → SameX l H H' → St xa H' l (m + 1) → Q (.int d) H'
theorem ok_next {f : Addr} {fd : FuncData} (F : Fun K "_law_next" "_law_next" sNext f fd) (T : Nms mg) :
    FnOk P w K mg base (L2.CX P w) 1 f fd ["_law_pool_here", "_law_size"] spNext := by
  have N := T
  have sc : FnScope ["_law_pool_here", "_law_size", "_law_told_here", "_law_cell", "_law_mixed"] ["_law_pool_here", "_law_size"] (defScope sNext) := ⟨rfl, rfl, rfl, by decide +kernel, rfl, by decide +kernel, by decide +kernel⟩
  refine F.okX sc (fun vs H Q E h => ?_) (fun cdv A outer s H vs Q E hr h => ?_)
  · obtain ⟨l, xa, u, m, rfl, _⟩ := h
    rfl
  · obtain ⟨l, xa, u, m, rfl, u0, u9, ⟨a, b, ns, gs, r, n, al, bl, ha, hb, hl, n0, n1, ax, bx⟩, nxa, mm, k⟩ := h
    refine ⟨_, (pss_cons (ps_asg (pe_op op_add (pe_ix ix_list (pv 0) pe_int (fun _ _ => rfl)) pe_int) (pg_sub (pv 0) pe_int set_list))
      (pss_cons (ps_if (PW.pt (pw_and (pt_cmpR op_eq (pe_ix ix_list (pv 0) pe_int (fun _ _ => rfl)) pe_int (nomark _)) (pw_and1 (pt_cmpR (op_neD hr.units) (pe_ix ix_list (pv 0) pe_int (fun _ _ => rfl)) (pe_lst pa_nil) (nomark _))))) (pss_cons (ps_asg (pe_ix ix_list (pe_ix ix_list (pv 0) pe_int (fun _ _ => rfl)) pe_int (fun _ _ => rfl)) (pg_sub (pv 0) pe_int set_list))
      (pss_one (ps_asg (pe_slice sl_list (pe_ix ix_list (pv 0) pe_int (fun _ _ => rfl)) (po_some pe_int) po_none) (pg_sub (pv 0) pe_int set_list)))) pss_nil)
      (pss_cons (ps_if (pt_cmpR op_gt (pe_ix ix_list (pv 0) pe_int (fun _ _ => rfl)) pe_int (nomark _)) (pss_cons (ps_set (i := 2) sc.nd rfl (Or.inl rfl) (pe_op op_mod (pe_callTy call_int1 (by rfl) T.int (by decide +kernel) (pa_cons (pe_ix ix_list (pv 0) pe_int (fun _ _ => rfl)) pa_nil)) (pv 1)))
      (pss_cons (ps_asg (pe_op op_fdivG (pe_callTy call_int1 (by rfl) T.int (by decide +kernel) (pa_cons (pe_ix ix_list (pv 0) pe_int (fun _ _ => rfl)) pa_nil)) (pv 1)) (pg_sub (pv 0) pe_int set_list))
      (pss_one (ps_ret (pv 2))))) pss_nil)
      (pss_cons (ps_if (pt_cmpR (op_eqD hr.units) (pe_ix ix_list (pv 0) pe_int (fun _ _ => rfl)) (pe_lst pa_nil) (nomark _)) (pss_one (ps_ret pe_int)) pss_nil)
      (pss_cons (ps_set (i := 3) sc.nd rfl (Or.inl rfl) (pe_callTy call_int1 (by rfl) T.int (by decide +kernel) (pa_cons (pe_ix ix_list (pe_ix ix_list (pv 0) pe_int (fun _ _ => rfl)) (pe_op op_mod (pe_callTy call_int1 (by rfl) T.int (by decide +kernel) (pa_cons (pe_ix ix_list (pv 0) pe_int (fun _ _ => rfl)) pa_nil)) (pe_callB call_len_seq (by rfl) N.len PySem.boot_len (pa_cons (pe_ix ix_list (pv 0) pe_int (fun _ _ => rfl)) pa_nil))) (fun _ _ => rfl)) pa_nil)))
      (pss_cons (ps_set (i := 4) sc.nd rfl (Or.inl rfl) (pe_op op_mod (pe_callTy call_int1 (by rfl) T.int (by decide +kernel) (pa_cons (pe_op op_add (pe_op op_pow (pe_op op_add (pe_op op_mod (pe_callTy call_int1 (by rfl) T.int (by decide +kernel) (pa_cons (pv 3) pa_nil)) pe_int) (pe_op op_mul pe_int (pe_callTy call_int1 (by rfl) T.int (by decide +kernel) (pa_cons (pe_ix ix_list (pv 0) pe_int (fun _ _ => rfl)) pa_nil)))) pe_int) pe_int) pa_nil)) pe_int))
      (pss_one (ps_ret (pe_op op_mod (pe_op op_mod (pe_callTy call_int1 (by rfl) T.int (by decide +kernel) (pa_cons (pe_op op_add (pe_op op_mul (pv 4) (pv 4)) (pe_callTy call_int1 (by rfl) T.int (by decide +kernel) (pa_cons (pe_ix ix_list (pv 0) pe_int (fun _ _ => rfl)) pa_nil))) pa_nil)) pe_int) (pv 1)))))))))), ?_⟩
    have wA : ∀ o : HO, (upd H l o) a = some (.lst (ns.map V.int)) := fun o => by rw [upd_ne al]; exact ha
    have wB : ∀ o : HO, (upd H l o) b = some (.lst (gs.map V.int)) := fun o => by rw [upd_ne bl]; exact hb
    have dv : ∀ x, CDivG x u := fun x => wide_divG (Int.ne_of_gt u0) u9 (by decide) (by decide)
    refine ⟨_, rfl, l, _, _, _, rfl, rfl, SqL.of hl, at_of (j := 3) rfl rfl, _, _, rfl, rfl, _, rfl, l, _, _, 3, rfl, rfl, hl, rfl, ?_⟩
    simp only [List.set_cons_succ, List.set_cons_zero]
    have h3 : (upd H l (.lst [.ref a, .ref b, .int r, .int (n + 1)])) l = some (.lst [.ref a, .ref b, .int r, .int (n + 1)]) := upd_same
    have ha1 := wA (.lst [.ref a, .ref b, .int r, .int (n + 1)])
    have hb1 := wB (.lst [.ref a, .ref b, .int r, .int (n + 1)])
    have x1 : SameX l H (upd H l (.lst [.ref a, .ref b, .int r, .int (n + 1)])) := SameX.upd
    generalize upd H l (.lst [.ref a, .ref b, .int r, .int (n + 1)]) = H1 at h3 ha1 hb1 x1 ⊢
    apply cut2 (α := Hp) (F := fun G => SameX l H G ∧ G a = some (.lst (ns.map V.int)) ∧ ∃ (b' : Addr) (gs' : List Int) (r' : Int), b' ≠ xa ∧ b' ≠ l ∧ G b' = some (.lst (gs'.map V.int)) ∧ G l = some (.lst [.ref a, .ref b', .int r', .int (n + 1)]))
    case body =>
      intro nxt
      refine ⟨_, rfl, l, _, _, _, rfl, rfl, SqL.of h3, at_of (j := 2) rfl rfl, rfl, _, rfl, ?_⟩
      refine ite2 (fun _ => ?_) (fun _ => ?_)
      · refine ⟨_, rfl, l, _, _, _, rfl, rfl, SqL.of h3, at_of (j := 1) rfl rfl, (by show 0 ≤ sizeLine; exact Nat.zero_le _), fun p0 np0 => ?_⟩
        have s0 : Same H1 (upd H1 p0 (.lst [])) := same_upd np0
        have e0 : (upd H1 p0 (.lst [])) p0 = some (.lst []) := upd_same
        have h3' := s0 _ _ h3
        have ha' := s0 _ _ ha1
        have hb' := s0 _ _ hb1
        have x2 := x1.trans (SameX.of s0)
        generalize upd H1 p0 (.lst []) = H2 at s0 e0 h3' ha' hb' x2 ⊢
        refine ⟨.list (gs.map PyData.int), .list [], .lst (SqL.of hb') (dp_ints gs), .lst (SqL.of e0) .nil, PySem.W.ke_shaped_ints gs, by decide +kernel, _, rfl, ?_⟩
        cases gs with
        | nil => exact if_neg' rfl (nxt H2 ⟨x2, ha', b, [], r, bx, bl, hb', h3'⟩)
        | cons z gs =>
          have ef : PyData.eqv (.list ((z :: gs).map PyData.int)) (.list []) = false := rfl
          rw [ef]
          refine if_pos' rfl ?_
          refine ⟨_, rfl, l, _, _, _, rfl, rfl, SqL.of h3', at_of (j := 1) rfl rfl, b, _, _, _, rfl, rfl, SqL.of hb', at_of (j := 0) rfl rfl, _, rfl, l, _, _, 2, rfl, rfl, h3', rfl, ?_⟩
          simp only [List.set_cons_succ, List.set_cons_zero]
          have h4 : (upd H2 l (.lst [.ref a, .ref b, .int z, .int (n + 1)])) l = some (.lst [.ref a, .ref b, .int z, .int (n + 1)]) := upd_same
          have ha4 : (upd H2 l (.lst [.ref a, .ref b, .int z, .int (n + 1)])) a = some (.lst (ns.map V.int)) := by rw [upd_ne al]; exact ha'
          have hb4 : (upd H2 l (.lst [.ref a, .ref b, .int z, .int (n + 1)])) b = some (.lst ((z :: gs).map V.int)) := by rw [upd_ne bl]; exact hb'
          have x4 : SameX l H (upd H2 l (.lst [.ref a, .ref b, .int z, .int (n + 1)])) := x2.trans SameX.upd
          generalize upd H2 l (.lst [.ref a, .ref b, .int z, .int (n + 1)]) = H4 at h4 ha4 hb4 x4
          refine ⟨_, rfl, l, _, _, _, rfl, rfl, SqL.of h4, at_of (j := 1) rfl rfl, _, rfl, b, _, rfl, SqL.of hb4, fun p np => ⟨_, rfl, l, _, _, 1, rfl, rfl, (same_upd np) _ _ h4, rfl, ?_⟩⟩
          simp only [List.set_cons_succ, List.set_cons_zero]
          obtain ⟨ms, em⟩ := cut_ints (z :: gs) (some 1) none
          rw [em]
          have s5 := same_upd (o := .lst (ms.map V.int)) np
          have pl : p ≠ l := fun z => by rw [z, h4] at np; cases np
          have px : p ≠ xa := fun z => nn_x nxa x4 (by rw [h4]; exact Option.some_ne_none _) (by rw [← z]; exact np)
          have h6 : (upd (upd H4 p (.lst (ms.map V.int))) l (.lst [.ref a, .ref p, .int z, .int (n + 1)])) l = some (.lst [.ref a, .ref p, .int z, .int (n + 1)]) := upd_same
          have ha6 : (upd (upd H4 p (.lst (ms.map V.int))) l (.lst [.ref a, .ref p, .int z, .int (n + 1)])) a = some (.lst (ns.map V.int)) := by rw [upd_ne al]; exact s5 _ _ ha4
          have hp6 : (upd (upd H4 p (.lst (ms.map V.int))) l (.lst [.ref a, .ref p, .int z, .int (n + 1)])) p = some (.lst (ms.map V.int)) := by rw [upd_ne pl]; exact upd_same
          have x6 : SameX l H (upd (upd H4 p (.lst (ms.map V.int))) l (.lst [.ref a, .ref p, .int z, .int (n + 1)])) := (x4.trans (SameX.of s5)).trans SameX.upd
          generalize upd (upd H4 p (.lst (ms.map V.int))) l (.lst [.ref a, .ref p, .int z, .int (n + 1)]) = H6 at h6 ha6 hp6 x6 ⊢
          exact nxt H6 ⟨x6, ha6, p, ms, z, px, pl, hp6, h6⟩
      · exact nxt H1 ⟨x1, ha1, b, gs, r, bx, bl, hb1, h3⟩
    rintro G ⟨xG, haG, b', gs', r', bx', bl', hbG, hlG⟩
    have mk : ∀ {G' : Hp} {r' : Int} {b' : Addr} {gs' : List Int}, b' ≠ xa → b' ≠ l → G' a = some (.lst (ns.map V.int)) → G' b' = some (.lst (gs'.map V.int)) → G' l = some (.lst [.ref a, .ref b', .int r', .int (n + 1)]) → St xa G' l (m + 1) := fun hx h0 h1 h2 h3 => ⟨a, _, ns, _, _, n + 1, al, h0, h1, h2, h3, by omega, by omega, ax, hx⟩
    refine ⟨_, rfl, l, _, _, _, rfl, rfl, SqL.of hlG, at_of (j := 2) rfl rfl, _, _, rfl, rfl, _, rfl, ?_⟩
    refine ite2 (fun _ => ?_) (fun _ => ?_)
    · refine ⟨_, rfl, l, _, _, _, rfl, rfl, SqL.of hlG, at_of (j := 2) rfl rfl, .inl ⟨_, rfl, _, rfl, _, _, rfl, rfl, u0, ?_⟩⟩
      refine ⟨_, rfl, l, _, _, _, rfl, rfl, SqL.of hlG, at_of (j := 2) rfl rfl, .inl ⟨_, rfl, _, rfl, _, _, rfl, rfl, dv _, _, rfl, l, _, _, 2, rfl, rfl, hlG, rfl, _, rfl, ?_⟩⟩
      exact k _ _ (mod_nn u0).1 (mod_nn u0).2 (xG.trans SameX.upd) (mk bx' bl' (by rw [upd_ne al]; exact haG) (by rw [upd_ne bl']; exact hbG) upd_same)
    refine ⟨_, rfl, l, _, _, _, rfl, rfl, SqL.of hlG, at_of (j := 0) rfl rfl, (by show 0 ≤ sizeLine; exact Nat.zero_le _), fun p0 np0 => ?_⟩
    have s0 : Same G (upd G p0 (.lst [])) := same_upd np0
    have e0 : (upd G p0 (.lst [])) p0 = some (.lst []) := upd_same
    have h3' := s0 _ _ hlG
    have ha' := s0 _ _ haG
    have hb' := s0 _ _ hbG
    have x2 := xG.trans (SameX.of s0)
    generalize upd G p0 (.lst []) = H2 at s0 e0 h3' ha' hb' x2 ⊢
    refine ⟨.list (ns.map PyData.int), .list [], .lst (SqL.of ha') (dp_ints ns), .lst (SqL.of e0) .nil, PySem.W.ke_shaped_ints ns, by decide +kernel, _, rfl, ?_⟩
    by_cases hn : ns = []
    · subst hn
      exact if_pos' rfl (k 0 H2 (Int.le_refl 0) u0 x2 (mk bx' bl' ha' hb' h3'))
    have ef : PyData.eqv (.list (ns.map PyData.int)) (.list []) = false := by
      cases ns with
      | nil => exact absurd rfl hn
      | cons _ _ => rfl
    rw [ef]
    obtain ⟨z, hz⟩ := atI_mod (k := n + 1) hn
    refine if_neg' rfl ?_
    refine ⟨_, rfl, l, _, _, _, rfl, rfl, SqL.of h3', at_of (j := 0) rfl rfl, _, rfl, l, _, _, _, rfl, rfl, SqL.of h3', at_of (j := 3) rfl rfl, .inl ⟨_, rfl, _, rfl, l, _, _, _, rfl, rfl, SqL.of h3', at_of (j := 0) rfl rfl, a, _, rfl, .inl (SqL.of ha'), _, _, rfl, rfl, (by rw [List.length_map]; exact Int.natCast_pos.mpr (List.length_pos_iff.mpr hn)), a, _, _, _, rfl, rfl, SqL.of ha', (by rw [List.length_map]; exact hz), .inl ⟨_, rfl, ?_⟩⟩⟩
    have md : ∀ x : Int, -(2 : Int) ^ 64 < x % 2147483629 ∧ x % 2147483629 < 2 ^ 64 := fun x => by
      have h1 := Int.emod_nonneg x (b := 2147483629) (by decide)
      have h2 := Int.emod_lt_of_pos x (b := 2147483629) (by decide)
      omega
    have pw : (z % 2147483647 + 31 * (n + 1)).natAbs < 2 ^ 64 := by
      have h1 := Int.emod_nonneg z (b := 2147483647) (by decide)
      have h2 := Int.emod_lt_of_pos z (b := 2147483647) (by decide)
      omega
    refine ⟨_, rfl, .inl ⟨_, rfl, _, _, rfl, rfl, (by show (0 : Int) < 2147483647; decide), _, rfl, l, _, _, _, rfl, rfl, SqL.of h3', at_of (j := 3) rfl rfl, .inl ⟨_, rfl, _, _, rfl, rfl, .inl ⟨by decide, by decide⟩, _, _, rfl, rfl, _, _, rfl, rfl, ⟨by decide, by decide, pw⟩, _, _, rfl, rfl, .inl ⟨_, rfl, _, _, rfl, rfl, (by show (0 : Int) < 2147483629; decide), ?_⟩⟩⟩⟩
    refine ⟨_, rfl, _, rfl, _, _, rfl, rfl, .inl (md _), _, rfl, l, _, _, _, rfl, rfl, SqL.of h3', at_of (j := 3) rfl rfl, .inl ⟨_, rfl, _, _, rfl, rfl, .inl ⟨_, rfl, _, _, rfl, rfl, (by show (0 : Int) < 1000003; decide), _, rfl, _, _, rfl, rfl, u0, ?_⟩⟩⟩
    exact k _ _ (mod_nn u0).1 (mod_nn u0).2 x2 (mk bx' bl' ha' hb' h3')
end
end V4
end

-- V5o
section
set_option Elab.async false
set_option linter.all false
set_option maxRecDepth 100000
set_option exponentiation.threshold 10000
namespace V4
open PySem L2 OwnOps OwnNe G1 StX SupX
theorem map_int {ns : List Int} {j : Nat} {x : V} (h : (ns.map V.int)[j]? = some x) : ∃ z, ns[j]? = some z ∧ x = .int z := by
  rw [List.getElem?_map] at h
  cases e : ns[j]? with
  | none => rw [e] at h; cases h
  | some z => rw [e] at h; cases h; exact ⟨z, rfl, rfl⟩
section
variable {P : Program} {w : World} {K : PySem.W.Frag} {mg : Str → Option Value} {base : Heap}
def spPool (K : PySem.W.Frag) : Sp := fun vs H Q _ => ∃ (a : Addr) (ns : List Int), vs = [.ref a] ∧ SqL K H a (ns.map V.int) ∧ ns.length ≤ 63 ∧ ∀ l H', Same H H' → St l H' l 0 → H l = none → Q (.ref l) H'
theorem ok_pool {f : Addr} {fd : FuncData} (F : Fun K "_law_pool" "_law_pool" sPool f fd) (T : Nms mg) :
    FnOk P w K mg base (L2.CX P w) 1 f fd ["_law_script"] (spPool K) := by
  have sc : FnScope ["_law_script", "_law_cell", "_law_great", "_law_small"] ["_law_script"] (defScope sPool) := ⟨rfl, rfl, rfl, by decide +kernel, rfl, by decide +kernel, by decide +kernel⟩
  refine F.okX sc (fun vs H Q E h => ?_) (fun cdv A outer s H vs Q E hr h => ?_)
  · obtain ⟨a, ns, rfl, _⟩ := h
    rfl
  · obtain ⟨a, ns, rfl, hS, n63, k⟩ := h
    refine ⟨_, (pss_cons (ps_setLc (i := 2) (own := [("_law_cell", 1)]) (g := gName 1)   rfl sc.nd rfl rfl rfl (pi_list (pv 0)) (blkOk_by (N := ["_law_script", "_law_cell", "_law_great", "_law_small"]) (sc := defScope sPool) (by decide +kernel)) (fun _ _ _ _ _ => pg_name (i := 1) sc.nd rfl (Or.inl rfl)) (fun _ _ _ _ _ => pts_one (pt_cmpR op_ge (pv 1) (pe_op op_pow pe_int pe_int) (nomark _)))
          (fun _ _ _ _ _ => (pe_callTy call_int1 (by rfl) T.int (by decide +kernel) (pa_cons (pv 1) pa_nil))))
      (pss_cons (ps_setLc (i := 3) (own := [("_law_cell", 1)]) (g := gName 1)   rfl sc.nd rfl rfl rfl (pi_list (pv 0)) (blkOk_by (N := ["_law_script", "_law_cell", "_law_great", "_law_small"]) (sc := defScope sPool) (by decide +kernel)) (fun _ _ _ _ _ => pg_name (i := 1) sc.nd rfl (Or.inl rfl)) (fun _ _ _ _ _ => pts_one (pt_cmpR op_lt (pv 1) (pe_op op_pow pe_int pe_int) (nomark _)))
          (fun _ _ _ _ _ => (pe_callTy call_int1 (by rfl) T.int (by decide +kernel) (pa_cons (pv 1) pa_nil))))
      (pss_one (ps_ret (pe_lst (pa_cons (pv 3) (pa_cons (pv 2) (pa_cons pe_int (pa_cons pe_int pa_nil))))))))), ?_⟩
    refine ⟨_, rfl, a, rfl, ⟨_, hS⟩, fun D nD => ?_⟩
    refine lc_list (K := K) (a := a) (xs := ns.map V.int) (fun j G => Same H G ∧ j ≤ ns.length ∧ ∃ ms : List Int, ms.length ≤ j ∧ G D = some (.lst (ms.map V.int))) ⟨same_upd nD, Nat.zero_le _, [], Nat.le_refl _, upd_same⟩ (fun j G _ i => i.1.seq hS) (fun j x G hx ⟨sG, jn, ms, mj, hD⟩ => ⟨rfl, ?_⟩) (fun G ⟨sG, _, ms, _, hD⟩ => ?_)
    · obtain ⟨z, hz, rfl⟩ := map_int hx
      have lt : j < ns.length := (List.getElem?_eq_some_iff.mp hz).1
      refine ⟨_, rfl, _, _, rfl, rfl, ⟨by decide, by decide, by decide⟩, _, _, rfl, rfl, _, rfl, ?_⟩
      refine ite2 (fun _ => ?_) (fun _ => ⟨sG, lt, ms, by omega, hD⟩)
      refine ⟨_, rfl, .inl ⟨_, rfl, _, hD, by rw [List.length_map]; exact Nat.lt_of_le_of_lt (m := 63) (by omega) (by decide), same_put sG nD, lt, ms ++ [z], by rw [List.length_append]; show ms.length + 1 ≤ j + 1; omega, by rw [upd_same, List.map_append]; rfl⟩⟩
    refine ⟨_, rfl, a, rfl, ⟨_, sG.seq hS⟩, fun D2 nD2 => ?_⟩
    refine lc_list (K := K) (a := a) (xs := ns.map V.int) (fun j G' => Same G G' ∧ j ≤ ns.length ∧ ∃ ms : List Int, ms.length ≤ j ∧ G' D2 = some (.lst (ms.map V.int))) ⟨same_upd nD2, Nat.zero_le _, [], Nat.le_refl _, upd_same⟩ (fun j G' _ i => (sG.trans i.1).seq hS) (fun j x G' hx ⟨sG', jn, ms', mj, hD'⟩ => ⟨rfl, ?_⟩) (fun G' ⟨sG', _, ms', _, hD'⟩ => ?_)
    · obtain ⟨z, hz, rfl⟩ := map_int hx
      have lt : j < ns.length := (List.getElem?_eq_some_iff.mp hz).1
      refine ⟨_, rfl, _, _, rfl, rfl, ⟨by decide, by decide, by decide⟩, _, _, rfl, rfl, _, rfl, ?_⟩
      refine ite2 (fun _ => ?_) (fun _ => ⟨sG', lt, ms', by omega, hD'⟩)
      refine ⟨_, rfl, .inl ⟨_, rfl, _, hD', by rw [List.length_map]; exact Nat.lt_of_le_of_lt (m := 63) (by omega) (by decide), same_put sG' nD2, lt, ms' ++ [z], by rw [List.length_append]; show ms'.length + 1 ≤ j + 1; omega, by rw [upd_same, List.map_append]; rfl⟩⟩
    refine ⟨_, rfl, _, rfl, (by show 4 ≤ sizeLine; decide), fun l nl => ?_⟩
    have s3 := same_upd (o := .lst [.ref D2, .ref D, .int 0, .int 0]) nl
    have hDG := sG' _ _ hD
    refine k l _ (sG.trans (sG'.trans s3)) ⟨D2, D, ms', ms, 0, 0, ne_of_none hD' nl, ne_of_none hDG nl, s3 _ _ hD', s3 _ _ hDG, upd_same, Int.le_refl 0, Int.le_refl 0, ne_of_none hD' nl, ne_of_none hDG nl⟩ (sG.free (sG'.free nl))
end
end V4
end

-- CntV
section
set_option Elab.async false
set_option linter.all false
set_option maxRecDepth 100000
/-! list.count, flat items -/
namespace CntV
open PySem PySem.Spec PyProof.Rows L2
section
variable {X : Cx}
def rCntV (K : PySem.W.Frag) : V → List V → Hp → VK → Prop := fun x xs H Q => ∃ (a : Addr) (ys : List V) (y : V), x = V.ref a ∧ xs = [y] ∧ SqL K H a ys ∧ flatV y = true ∧ ys.all flatV = true ∧ Q (.int (ys.countP fun z => eqV z y : Nat)) H
theorem count_eq {y : V} : ∀ {ys : List V} {us : List Value}, Vals ys us → ys.all flatV = true → us.countP (eqU y) = ys.countP fun z => eqV z y
  | _, _, .nil, _ => rfl
  | z :: ys, u :: us, .cons r t, h => by
    rw [List.all_cons, Bool.and_eq_true] at h
    have ih := count_eq (y := y) t h.2
    rw [List.countP_cons, List.countP_cons, ih, eqU_of r h.1]
theorem mt_lcountV : MtR X "list.count" (rCntV X.K) := by
  intro pins s σ H x xs v us Q I rx rxs h
  obtain ⟨a, ys, y, rfl, rfl, hs, fy, fys, q⟩ := h
  cases rx
  cases rxs with
  | cons ry rt =>
    rename_i uy ut
    cases rt
    obtain ⟨its, rv, ⟨⟨cls, dd, data, sl⟩, n, ho, hc, hdn, hd⟩, hlen⟩ := I.list hs
    simp only at hc hd
    subst hc hd
    refine call_meets PySem.F.slot_list_count ⟨_, ho, rfl⟩ PySem.F.entry_list_count (PySem.F.args_list_count_2 _ _)
      (SeqAt.list_countAt a its.toArray n dd sl uy (eqU y)) ⟨ho, fun u' hu' => mem_eqAt ry fy rv fys u' (by simpa using hu'), ?_⟩
    have ec : its.toArray.toList.countP (eqU y) = ys.countP fun z => eqV z y := count_eq rv fys
    refine ⟨.int (ys.countP fun z => eqV z y : Nat), H, I.tok _, ⟨s.toks, ?_⟩, q⟩
    show Value.int ((its.toArray.toList.countP (eqU y) : Nat) : Int) s.toks = Value.int ((ys.countP (fun z => eqV z y) : Nat) : Int) s.toks
    rw [ec]
end
end CntV
end

-- V6w
section
set_option Elab.async false
set_option linter.all false
set_option maxRecDepth 100000
set_option exponentiation.threshold 10000
namespace V4
open PySem L2 OwnOps OwnNe G1 StX SupX
/-! the law's words -/
def low : List Nat := (Str.ofString "abcdefghijklmnopqrstuvwxyz").cps.toList
def lown : List Nat := (Str.ofString "abcdefghijklmnopqrstuvwxyz0123456789").cps.toList
theorem low_ok : low.length = 26 ∧ lown.length = 36 ∧ (∀ c ∈ low, c ∈ lown ∧ Unicode.isAlpha c = true) ∧ ∀ c ∈ lown, c < 128 ∧ Unicode.isAlnum c = true ∧ Unicode.lowerOf c = [c] ∧ (c == 0x3A3) = false ∧ c ≠ 32 := by decide +kernel
theorem lower_id {x : Str} (h : ∀ c ∈ x.cps.toList, c ∈ lown) : Txt.lower x = x := by
  have e : (x.cps.mapIdx fun i c => (Unicode.lowerAt x.cps i).toArray) = x.cps.map fun c => #[c] := by
    apply Array.ext
    · simp
    · intro i h1 h2
      have hi : i < x.cps.size := by simpa using h1
      rw [Array.getElem_mapIdx, Array.getElem_map]
      have hc : x.cps[i] ∈ lown := h _ (by simp)
      obtain ⟨_, _, h3, h4, _⟩ := low_ok.2.2.2 _ hc
      unfold Unicode.lowerAt
      rw [Array.getElem?_eq_getElem hi]
      simp only [h4, Bool.false_and, Bool.false_eq_true, if_false, h3]
  have p : placed x (fun i _ => Unicode.lowerAt x.cps i) = x.cps := by
    unfold placed
    rw [e]
    apply Array.ext'
    rw [Array.toList_flatten, Array.toList_map]
    generalize x.cps.toList = l
    induction l with
    | nil => rfl
    | cons a l ih =>
      simp only [List.map_cons, List.flatten_cons]
      first
        | (rw [List.map_map] at ih ⊢; simpa using ih)
        | simpa using ih
  unfold Txt.lower
  rw [p]
/-- a word by its letters -/
structure Wrd (x : Str) : Prop where
  n1 : 1 ≤ x.length
  all : ∀ c ∈ x.cps.toList, c ∈ lown
  hd : x.cps.getD 0 0 ∈ low
theorem Wrd.wd {x : Str} (h : Wrd x) (n : x.length ≤ 12) : wd x = true := by
  unfold V4.wd
  have a1 : Txt.isascii x = true := by
    unfold Txt.isascii
    rw [Array.all_eq_true_iff_forall_mem]
    intro c hc
    exact decide_eq_true (low_ok.2.2.2 c (h.all c (by simpa using hc))).1
  have a2 : Txt.isalnum x = true := by
    unfold Txt.isalnum
    rw [Bool.and_eq_true]
    refine ⟨decide_eq_true h.n1, ?_⟩
    rw [Array.all_eq_true_iff_forall_mem]
    intro c hc
    exact (low_ok.2.2.2 c (h.all c (by simpa using hc))).2.1
  have a3 : Txt.isalpha ⟨#[x.cps.getD 0 0]⟩ = true := by
    have := (low_ok.2.2.1 _ h.hd).2
    unfold Txt.isalpha
    simp only [Str.length, List.size_toArray, List.length_cons, List.length_nil, Array.all_eq_true_iff_forall_mem]
    rw [Bool.and_eq_true]
    exact ⟨rfl, by simpa using this⟩
  rw [a1, a2, a3, lower_id h.all, decide_eq_true h.n1, decide_eq_true n, decide_eq_true rfl]
  rfl
theorem wrd_one {c : Nat} (h : c ∈ low) : Wrd ⟨#[c]⟩ := ⟨Nat.le_refl _, fun d hd => by
  have : d = c := by simpa using hd
  rw [this]
  exact (low_ok.2.2.1 c h).1, h⟩
theorem Wrd.add {x : Str} (h : Wrd x) {c : Nat} (hc : c ∈ lown) : Wrd (x ++ ⟨#[c]⟩) := by
  have e : (x ++ (⟨#[c]⟩ : Str)).cps = x.cps ++ #[c] := rfl
  have n1 : 0 < x.cps.size := h.n1
  refine ⟨?_, fun d hd => ?_, ?_⟩
  · rw [Str.length_append]
    exact Nat.le_trans h.n1 (Nat.le_add_right _ _)
  · rw [e] at hd
    rcases (show d ∈ x.cps.toList ∨ d = c by simpa using hd) with z | z
    · exact h.all d z
    · rw [z]; exact hc
  · rw [e, Array.getD_eq_getD_getElem?, Array.getElem?_append_left n1, ← Array.getD_eq_getD_getElem?]
    exact h.hd
def odds : List V := [.str "", .str "Ab", .str "1a", .str "abcdefghijklm", .str "a/b", .non, .str "a b"]
theorem odds_ok : odds.length = 7 ∧ odds.all flatV = true ∧ (∀ v ∈ odds, wdV v = false ∧ ∀ x, v = .str x → x.length ≤ 13 ∧ PyData.strOk x = true) := by
  refine ⟨rfl, by decide +kernel, fun v hv => ?_⟩
  simp only [odds, List.mem_cons, List.not_mem_nil, or_false] at hv
  rcases hv with rfl | rfl | rfl | rfl | rfl | rfl | rfl
  case inr.inr.inr.inr.inr.inl => exact ⟨rfl, fun x h => by cases h⟩
  all_goals exact ⟨by decide +kernel, fun x h => by cases h; decide +kernel⟩
/-- a name or port that the law draws -/
inductive Tx : V → Prop
  | good (x : Str) (w : Wrd x) (n : x.length ≤ 12) : Tx (.str x)
  | odd (v : V) (h : v ∈ odds) : Tx v
theorem in_odds {v : V} (h : Tx v) : (!inV v odds) = wdV v := by
  cases h with
  | good x w n =>
    have hw := w.wd n
    have e : inV (.str x) odds = false := by
      cases q : inV (.str x) odds with
      | false => rfl
      | true =>
        exfalso
        have : ∀ z ∈ odds, eqV z (.str x) = false := fun z hz => by
          cases b : eqV z (.str x) with
          | false => rfl
          | true =>
            exfalso
            have hz2 := (odds_ok.2.2 z hz).1
            cases z with
            | str y =>
              have : y = x := by simpa [eqV] using b
              rw [this] at hz2
              rw [show wdV (.str x) = V4.wd x from rfl, hw] at hz2
              cases hz2
            | _ => simp [eqV] at b
        unfold inV at q
        obtain ⟨z, hz, b⟩ := List.any_eq_true.mp q
        have := this z hz
        first
          | (rw [this] at b; cases b)
          | (simp [this] at b)
    rw [e, show wdV (.str x) = V4.wd x from rfl, hw]
    rfl
  | odd v h =>
    rw [(odds_ok.2.2 v h).1]
    have e : inV v odds = true := by
      simp only [odds, List.mem_cons, List.not_mem_nil, or_false] at h
      rcases h with rfl | rfl | rfl | rfl | rfl | rfl | rfl <;> decide +kernel
    rw [e]
    rfl
theorem Tx.av {v : V} {H : Hp} (h : Tx v) : Av H v ∧ Shr v := by
  cases h with
  | good x w n => exact ⟨.str x, Nat.le_trans n (by decide)⟩
  | odd v h =>
    have k := (odds_ok.2.2 v h).2
    simp only [odds, List.mem_cons, List.not_mem_nil, or_false] at h
    rcases h with rfl | rfl | rfl | rfl | rfl | rfl | rfl
    case inr.inr.inr.inr.inr.inl => exact ⟨.non, trivial⟩
    all_goals exact ⟨.str _, Nat.le_trans (k _ rfl).1 (by decide)⟩
theorem Tx.flat {v : V} (h : Tx v) : flatV v = true := by
  cases h with
  | good x w n => rfl
  | odd v h => exact List.all_eq_true.mp odds_ok.2.1 v h
end V4
end

-- V6a
section
set_option Elab.async false
set_option linter.all false
set_option maxRecDepth 100000
set_option exponentiation.threshold 10000
namespace V4
open PySem L2 OwnOps OwnNe G1 StX SupX
/-! _law_text, _law_is_word -/
abbrev sTxt : Stmt := top 74
abbrev sIsW : Stmt := top 75
theorem at_ofN {α : Type} {xs : List α} {j : Nat} {v : α} (h : xs[j]? = some v) : atI xs (j : Int) = some v := by
  have lt := (List.getElem?_eq_some_iff.mp h).1
  unfold atI ixN
  rw [if_pos (by omega), if_pos (by omega)]
  simpa using h
section
variable {P : Program} {w : World} {K : PySem.W.Frag} {mg : Str → Option Value} {base : Heap}
def spTxt : Sp := fun vs H Q _ => ∃ (l xa : Addr) (m : Nat), vs = [.ref l] ∧ St xa H l m ∧ H xa ≠ none ∧ m < 2 ^ 40 ∧ ∀ v H', Tx v → SameX l H H' → St xa H' l (m + 20) → Q v H'
set_option maxHeartbeats 2000000 in
theorem ok_txt {f : Addr} {fd : FuncData} (F : Fun K "_law_text" "_law_text" sTxt f fd) (T : Bi mg) (GN : Glb P w K mg base "_law_next" 1 ["_law_pool_here", "_law_size"] spNext) :
    FnOk P w K mg base (L2.CX P w) 2 f fd ["_law_pool_here"] spTxt := by
  obtain ⟨_, _, mN, kN, GN, bN⟩ := GN.ex
  have sc : FnScope ["_law_pool_here", "_law_word", "_law_k", "_law_odd"] ["_law_pool_here"] (defScope sTxt) := ⟨rfl, rfl, rfl, by decide +kernel, rfl, by decide +kernel, by decide +kernel⟩
  have hN := sc.nd
  refine F.okX sc (fun vs H Q E h => ?_) (fun cdv A outer s H vs Q E hr h => ?_)
  · obtain ⟨l, xa, m, rfl, _⟩ := h
    rfl
  · obtain ⟨l, xa, m, rfl, hS, nxa, mm, k⟩ := h
    refine ⟨_, pss_cons (ps_set (i := 1) hN rfl (Or.inl rfl) (pe_ix (show IxR _ rIxS from ix_str) pe_str (pe_call (E := E0) GN (hr.mono (by decide)) (by rfl) mN kN bN .nil passL (pa_cons (pv 0) (pa_cons pe_int pa_nil))) (fun _ _ => rfl)))
      (pss_cons (ps_for passOwn rfl (pi_range1 rfl T.range (pa_cons (pe_call (E := E0) GN (hr.mono (by decide)) (by rfl) mN kN bN .nil passL (pa_cons (pv 0) (pa_cons pe_int pa_nil))) pa_nil)) (pg_name (i := 2) hN rfl (Or.inl rfl))
        (pss_one (ps_set (i := 1) hN rfl (Or.inl rfl) (pe_op op_add_str (pv 1) (pe_ix (show IxR _ rIxS from ix_str) pe_str (pe_call (E := E0) GN (hr.mono (by decide)) (by rfl) mN kN bN .nil passL (pa_cons (pv 0) (pa_cons pe_int pa_nil))) (fun _ _ => rfl))))))
      (pss_cons (ps_set (i := 3) hN rfl (Or.inl rfl) (pe_lst (pa_cons pe_str (pa_cons pe_str (pa_cons pe_str (pa_cons pe_str (pa_cons pe_str (pa_cons pe_non (pa_cons pe_str pa_nil)))))))))
      (pss_one (ps_ret (pe_ifExp (pt_cmpR op_eq (pe_call (E := E0) GN (hr.mono (by decide)) (by rfl) mN kN bN .nil passL (pa_cons (pv 0) (pa_cons pe_int pa_nil))) pe_int (nomark _))
        (pe_ix (show IxR _ (rIxL K) from ix_list) (pv 3) (pe_call (E := E0) GN (hr.mono (by decide)) (by rfl) mN kN bN .nil passL (pa_cons (pv 0) (pa_cons pe_int pa_nil))) (fun _ _ => rfl)) (pv 1)))))), ?_⟩
    have line : 1000 ≤ sizeLine := by decide
    have l26 : (Str.ofString "abcdefghijklmnopqrstuvwxyz").length ≤ sizeLine := Nat.le_trans (by decide +kernel : (Str.ofString "abcdefghijklmnopqrstuvwxyz").length ≤ 1000) line
    have l36 : (Str.ofString "abcdefghijklmnopqrstuvwxyz0123456789").length ≤ sizeLine := Nat.le_trans (by decide +kernel : (Str.ofString "abcdefghijklmnopqrstuvwxyz0123456789").length ≤ 1000) line
    refine ⟨_, rfl, l, xa, 26, m, rfl, by decide, by decide, hS, nxa, by omega, fun d H1 d0 d1 s1 S1 => ?_⟩
    obtain ⟨j, rfl⟩ := Int.eq_ofNat_of_zero_le d0
    have lt : j < low.length := by rw [low_ok.1]; omega
    refine ⟨_, _, low[j], rfl, rfl, l26, at_ofN (xs := low) (j := j) (List.getElem?_eq_getElem lt), ?_⟩
    have w0 : Wrd ⟨#[low[j]]⟩ := wrd_one (List.getElem_mem lt)
    have c0 : (⟨#[low[j]]⟩ : Str).length = 1 := rfl
    have nx1 := S1.nn nxa s1
    refine ⟨_, rfl, l, xa, 12, m + 1, rfl, by decide, by decide, S1, nx1, by omega, fun d2 H2 e0 e1 s2 S2 => ?_⟩
    refine ⟨_, rfl, by omega, by omega, ?_⟩
    generalize (⟨#[low[j]]⟩ : Str) = x0 at w0 c0 ⊢
    refine for_range (fun i σ G => (∃ v2 x, σ = [some (.ref l), some (.str x), v2, none] ∧ Wrd x ∧ x.length = 1 + i) ∧ SameX l H G ∧ St xa G l (m + 2 + i)) ⟨⟨_, x0, rfl, w0, c0⟩, s1.trans s2, S2⟩ (fun i σ G hi ⟨⟨v2, x, e, wx, lx⟩, sG, SG⟩ => ?_) (fun σ G ⟨⟨v2, x, e, wx, lx⟩, sG, SG⟩ => ?_)
    · subst e
      have nG := SG.nn nxa sG
      have i12 : i < 11 := by omega
      refine ⟨_, rfl, _, rfl, l, xa, 36, m + 2 + i, rfl, by decide, by decide, SG, nG, by omega, fun d3 H3 f0 f1 s3 S3 => ?_⟩
      obtain ⟨q, rfl⟩ := Int.eq_ofNat_of_zero_le f0
      have lq : q < lown.length := by rw [low_ok.2.1]; omega
      refine ⟨_, _, lown[q], rfl, rfl, l36, at_ofN (xs := lown) (j := q) (List.getElem?_eq_getElem lq), _, _, rfl, rfl, ?_, ?_⟩
      · show x.length + 1 ≤ sizeLine
        omega
      · exact ⟨⟨_, _, rfl, wx.add (List.getElem_mem lq), by rw [Str.length_append, lx]; show 1 + i + 1 = 1 + (i + 1); omega⟩, sG.trans s3, S3⟩
    · subst e
      have nG := SG.nn nxa sG
      have lx12 : x.length ≤ 12 := by omega
      refine ⟨(by show 7 ≤ sizeLine; omega), fun p np => ?_⟩
      have u := same_upd (o := .lst odds) np
      have hp : (upd G p (.lst odds)) p = some (.lst odds) := upd_same
      have sU := sG.trans (SameX.of u)
      have SU := SG.same u
      have nU := SU.nn nxa sU
      refine ⟨_, rfl, l, xa, 4, m + 2 + d2.toNat, rfl, by decide, by decide, SU, nU, by omega, fun d4 H4 g0 g1 s4 S4 => ⟨rfl, ?_⟩⟩
      have hl4 : p ≠ l := fun z => by
        have := SG.l0
        rw [← z] at this
        exact this np
      have hp4 := s4 _ _ hl4 hp
      have n4 := S4.nn nxa (sU.trans s4)
      refine ⟨_, rfl, ?_⟩
      by_cases q1 : d4 = 1
      · refine if_pos' (decide_eq_true (by rw [q1])) ⟨_, rfl, _, rfl, l, xa, 7, m + 2 + d2.toNat + 1, rfl, by decide, by decide, S4, n4, by omega, fun d5 H5 h0 h1 s5 S5 => ?_⟩
        obtain ⟨q, rfl⟩ := Int.eq_ofNat_of_zero_le h0
        have lq : q < odds.length := by rw [odds_ok.1]; omega
        exact ⟨p, odds, _, odds[q], rfl, rfl, SqL.of (s5 _ _ hl4 hp4), at_of (j := q) rfl (List.getElem?_eq_getElem lq), k _ _ (.odd _ (List.getElem_mem lq)) (sU.trans (s4.trans s5)) (S5.more (by omega))⟩
      · exact if_neg' (decide_eq_false fun z => q1 (V.int.inj z)) ⟨_, rfl, k _ _ (.good x wx lx12) (sU.trans s4) (S4.more (by omega))⟩
def spIsW : Sp := fun vs H Q _ => ∃ v, vs = [v] ∧ Tx v ∧ ∀ H', Same H H' → Q (.bl (wdV v)) H'
theorem ok_isw {f : Addr} {fd : FuncData} (F : Fun K "_law_is_word" "_law_is_word" sIsW f fd) : FnOk P w K mg base (L2.CX P w) 1 f fd ["_law_name"] spIsW := by
  have sc : FnScope ["_law_name"] ["_law_name"] (defScope sIsW) := ⟨rfl, rfl, rfl, by decide +kernel, rfl, by decide +kernel, by decide +kernel⟩
  refine F.okX sc (fun vs H Q E h => ?_) (fun cdv A outer s H vs Q E hr h => ?_)
  · obtain ⟨v, rfl, _⟩ := h
    rfl
  · obtain ⟨v, rfl, tx, k⟩ := h
    refine ⟨_, pss_one (ps_ret (pe_cmpR (op := .NotIn) op_notIn_seq (pv 0) (pe_lst (pa_cons pe_str (pa_cons pe_str (pa_cons pe_str (pa_cons pe_str (pa_cons pe_str (pa_cons pe_non (pa_cons pe_str pa_nil)))))))) (by rfl))), ?_⟩
    refine ⟨_, rfl, (by show 7 ≤ sizeLine; decide), fun p np => ⟨p, odds, rfl, .inl (SqL.of upd_same), tx.flat, odds_ok.2.1, ?_⟩⟩
    have := k _ (same_upd (o := .lst odds) np)
    rw [← in_odds tx] at this
    exact this
end
end V4
end

-- V6k
section
set_option Elab.async false
set_option linter.all false
set_option maxRecDepth 100000
set_option exponentiation.threshold 10000
namespace V4
open PySem L2 OwnOps OwnNe G1 StX SupX
/-! BlockKind.__init__ -/
abbrev sBK (j : Nat) : Stmt := inClass (top 58) j
def blkB (rest : List V) : Bool := (decide (1 ≤ rest.length) && decide (rest.length ≤ 5)) && difV rest
def blkT (x : Str) (ps : List Str) : Str := Txt.join " " ("block" :: x :: ps)
/-- a block's kind, behind its __init__ -/
structure BlkI (H : Hp) (p C dx : Addr) (x : Str) (ps : List Str) : Prop where
  ex : ∃ pa ca oa o1, H p = some (.ins C dx (kf (.str x) (.ref pa) (.ref ca) (.bl false) (.ref oa) (.str (blkT x ps)))) ∧ H pa = some (.tup (ps.map V.str)) ∧ H ca = some (.tup []) ∧ H oa = some (.tup [.ref o1]) ∧ H o1 = some (.tup ((upto ps.length).map V.int))
theorem BlkI.same {H H' : Hp} {p C dx : Addr} {x : Str} {ps : List Str} (h : BlkI H p C dx x ps) (s : Same H H') : BlkI H' p C dx x ps :=
  let ⟨pa, ca, oa, o1, h1, h2, h3, h4, h5⟩ := h.ex
  ⟨pa, ca, oa, o1, s _ _ h1, s _ _ h2, s _ _ h3, s _ _ h4, s _ _ h5⟩
section
variable {P : Program} {w : World} {K : PySem.W.Frag} {mg : Str → Option Value} {base : Heap} {D CK fCK CN DB CB : Addr}
def spBlkB (K : PySem.W.Frag) (CN CK DB gK : Addr) : Sp := fun vs H Q E => ∃ (p dx C ca : Addr) (v : V) (rest : List V), vs = [.ref p, v, .ref ca] ∧ H p = some (.ins C dx []) ∧ H ca = some (.tup rest) ∧ KCls K C ∧ SupAt K C DB "__init__" gK ∧
  Av H v ∧ Shr v ∧ rest.length ≤ 6 ∧ (∀ y ∈ rest, Av H y ∧ Shr y) ∧
  ((wdV v = false ∧ ∀ e H', SameX p H H' → H' e = some (xd v) → E (.ref CN) (some e) H') ∨
   (wdV v = true ∧ blkB rest = false ∧ ∀ e H', SameX p H H' → H' e = some (xd (.ref ca)) → E (.ref CK) (some e) H') ∨
   (∃ x ps, v = .str x ∧ rest = ps.map V.str ∧ wd x = true ∧ blkB rest = true ∧ (∀ y ∈ ps, y.length ≤ 12) ∧ ∀ H', SameX p H H' → BlkI H' p C dx x ps → Q .non H'))
theorem bind_blk {kV doc pm ct : Value} {an : Option Addr} {cda cc : Addr} : BindA K (PySem.W.ksFn "__init__" "BlockKind.__init__" (defArgs (sBK 0)) (defBody (sBK 0)) (defScope (sBK 0)) .none kV doc pm an (.ref cda) ct cc) "self" "name" [] "ports" (fun kv => kv = []) (fun _ => []) := by
  intro ks ws zs rz lz ok
  have e : zs = [] := by
    cases zs with
    | nil => rfl
    | cons z zs => cases ks with
      | nil => cases lz
      | cons k ks => cases ok
  subst e
  cases rz
  refine ⟨[], .nil, rfl, fun M A s a b rest Q E KI h => ?_⟩
  rw [show ks.zip ([] : List Value) = [] from by cases ks <;> rfl]
  cases rest with
  | nil => exact h
  | cons r rs => exact h
def saBlk (K : PySem.W.Frag) (CN CK DB gK : Addr) : List V → List (Str × V) → Hp → VK → XK → Prop := fun vs kv H Q E => ∃ a b rest, vs = a :: b :: rest ∧ kv = [] ∧ rest.length ≤ sizeLine ∧ ∀ p, H p = none → spBlkB K CN CK DB gK (a :: b :: [] ++ [V.ref p]) (upd H p (.tup rest)) Q E
abbrev NBK : List Str := ["self", "name", "ports"]
set_option maxHeartbeats 2000000 in
theorem ok_blk {f : Addr} (F : SDef K P "BlockKind.__init__" (sBK 0) [] f DB) (G : SupG K P) (T : Bi mg) {g : Addr} (GK : FnR P w K mg base (L2.CX P w) 3 g (spKI K CN)) (tg : PySem.W.typeIn K (.ref g) = some (.type "function")) (fg : PySem.W.fnIn K g = true)
    (eK : PySem.Giv.ErrTxt K mg "InvalidKind" "InvalidKind.__init__" "ValueError.__new__" veT CK fCK) (mB : mg "Book" = some (.ref CB)) {mc : Value} {u5 : Value} (cr : ClX.CRead K CB mc) (cv : ClX.CVal K CB mc "PORTS" (.int 5) u5)
    (GD : Glb P w K mg base "are_different_words" 2 ["values"] (spDiff K)) :
    FnA P w K mg base (L2.CX P w) 5 f (saBlk K CN CK DB g) := by
  obtain ⟨_, _, mD, kD, GD, bD⟩ := GD.ex
  obtain ⟨oc, od, kV, doc, pm, an, cda, ct, cc, osl, lk, hcd, _, hcode, cl, cld, csl, hcc⟩ := F.ex
  have sc : SScope NBK ["self", "name", "ports"] (defScope (sBK 0)) := ⟨rfl, rfl, rfl, by decide +kernel, rfl, by decide +kernel, by decide +kernel, by decide +kernel, by decide +kernel, by decide +kernel⟩
  have hN := sc.nd
  have SD : SupDef K P f cda cc DB g "self" := ⟨⟨_, _, _, _, _, lk, rfl, rfl⟩, hcode, ⟨cl, cld, csl, hcc⟩, F.cls, G.sup, G.any, tg, fg, G.top⟩
  refine fnA_S (CX := L2.CX P w) (k := 4) (N := NBK) (kn := []) lk hcd sc hcc cxUp bind_blk (fun A outer s H vs Q E hr h => ?_)
  obtain ⟨p, dx, C, ca, v, rest, rfl, hp, hca, kc, so, av, sh, n6, its, k⟩ := h
  refine ⟨_, psA_sup (qual := "BlockKind.__init__") (E := E) (sp := spKI K CN) rfl sc rfl (by decide +kernel) SD (by decide) GK (hr.mono (by decide)) (passes_call (takes_of rfl rfl rfl rfl) (fun _ _ _ _ h => h)) (pa_cons (pv 1) pa_nil) (argsPlain rfl (fun _ => rfl))
    (pss_cons (ps_if (PW.pt (pw_or (pt_not (pt_chain op_le op_le pe_int (pe_callB call_len_seq (by rfl) T.len PySem.boot_len (pa_cons (pv 2) pa_nil)) (ClX.pe_cval (pe_glob (v := .ref CB) (by rfl) mB rfl))))
        (pw_or1 (pt_not (pt_val (pe_call GD (hr.mono (by decide)) (by rfl) mD kD bD .nil passL (pa_cons (pv 2) pa_nil)))))))
      (pss_one (ps_raiseGiv rfl PySem.Giv.ok_VE eK hr (takes_of rfl rfl rfl rfl) (pa_cons (pv 2) pa_nil) (by rfl))) pss_nil)
    (pss_cons (ps_fld (pv 0) (pv 2) rfl)
    (pss_cons (ps_fld (pv 0) (pe_tup (pa_cons (pe_tupRg rfl (by rfl) T.tuple (prg_1 (by rfl) T.range (pe_callB call_len_seq (by rfl) T.len PySem.boot_len (pa_cons (pv 2) pa_nil)))) pa_nil)) rfl)
    (pss_one (ps_fld (pv 0) (pe_join pe_str (pe_lst (pa_cons pe_str (pa_cons (pv 1) (pa_star (pv 2) pa_nil))))) rfl))))) (by rfl), ?_⟩
  refine ⟨p, C, dx, [], rfl, hp, so, _, rfl, ?_⟩
  have nca : ca ≠ p := fun z => by rw [z, hp] at hca; cases hca
  -- the name is none
  by_cases hv : wdV v = true
  case neg =>
    rcases k with ⟨b, k⟩ | ⟨b, _⟩ | ⟨x, cs, e1, e2, b, _⟩
    · exact ⟨p, dx, C, v, rfl, hp, kc, av, sh, .inl ⟨b, fun e H' sm he => k e H' sm he⟩⟩
    · exact absurd b hv
    · rw [e1] at hv; exact absurd b hv
  obtain ⟨x, rfl, wx⟩ : ∃ x, v = .str x ∧ wd x = true := by
    cases v with
    | str x => exact ⟨x, rfl, hv⟩
    | _ => exact absurd hv (by simp [wdV])
  refine ⟨p, dx, C, .str x, rfl, hp, kc, av, sh, .inr ⟨x, rfl, wx, fun H1 a1 c0 a3 sm hp1 hc0 => ?_⟩⟩
  have hca1 : H1 ca = some (.tup rest) := sm _ _ nca hca
  have line : 1000 ≤ sizeLine := by decide
  have m1 : Mkg p C dx H H1 (kf (.str x) (.ref a1) (.ref c0) (.bl false) (.ref a3) (.str (kindT x))) := ⟨sm, hp1⟩
  have its1 : ∀ G, Same H1 G → ∀ y ∈ rest, Av G y ∧ Shr y := fun G s y hy => by
      obtain ⟨h1, h2⟩ := its y hy
      refine ⟨Av.same ?_ s, h2⟩
      cases h1 with
      | str => exact .str _
      | non => exact .non
      | int => exact .int _
      | bl => exact .bl _
      | lst e => exact .lst (sm _ _ (fun z => by rw [z, hp] at e; cases e) e)
      | tup e => exact .tup (sm _ _ (fun z => by rw [z, hp] at e; cases e) e)
  have bad : ∀ G, Same H1 G → blkB rest = false → ∀ e H', Same G H' → H' e = some (xd (.ref ca)) → E (.ref CK) (some e) H' := fun G s b e H' s' he => by
    rcases k with ⟨b', _⟩ | ⟨_, _, k⟩ | ⟨_, _, _, _, _, b', _⟩
    · rw [hv] at b'; cases b'
    · exact k e H' (fun c u n q => s' _ _ (s _ _ (sm c u n q))) he
    · rw [b] at b'; cases b'
  refine ⟨_, rfl, ca, _, rfl, .inr (SqT.of hca1), _, _, rfl, rfl, _, rfl, ?_⟩
  have nb : ¬ (1 ≤ rest.length ∧ rest.length ≤ 5) → blkB rest = false := fun z => by
    unfold blkB
    rw [← Bool.decide_and, decide_eq_false z]
    rfl
  by_cases a1 : (1 : Int) ≤ (rest.length : Int)
  case neg => exact if_neg' (decide_eq_false a1) ⟨_, rfl, if_pos' rfl (if_pos' rfl ⟨_, rfl, _, rfl, fun e ne => bad H1 (Same.refl _) (nb fun z => a1 (by omega)) e _ (same_upd ne) upd_same⟩)⟩
  refine if_pos' (decide_eq_true a1) ⟨CB, mc, .int 5, u5, rfl, cr, cv, _, _, rfl, rfl, _, rfl, ?_⟩
  by_cases a2 : (rest.length : Int) ≤ 5
  case neg => exact if_pos' (by rw [decide_eq_false a2]; rfl) (if_pos' rfl ⟨_, rfl, _, rfl, fun e ne => bad H1 (Same.refl _) (nb fun z => a2 (by omega)) e _ (same_upd ne) upd_same⟩)
  refine if_neg' (by rw [decide_eq_true a2]; rfl) ⟨_, rfl, ca, rest, rfl, .inr (SqT.of hca1), by omega, its1 H1 (Same.refl _), fun G2 s3 => ⟨_, rfl, ?_⟩⟩
  have s3 : Same H1 G2 := s3
  cases hd : difV rest with
  | false =>
    exact if_pos' rfl ⟨_, rfl, _, rfl, fun e ne => bad G2 s3 (by unfold blkB; rw [hd, Bool.and_false]) e _ (same_upd ne) upd_same⟩
  | true =>
  refine if_neg' rfl ?_
  have good : blkB rest = true := by
    unfold blkB
    rw [hd, decide_eq_true (show 1 ≤ rest.length by omega), decide_eq_true (show rest.length ≤ 5 by omega)]
    rfl
  obtain ⟨x', ps, e1, er, _, _, c12, kk⟩ : ∃ x' ps, V.str x = .str x' ∧ rest = ps.map V.str ∧ wd x' = true ∧ blkB rest = true ∧ (∀ y ∈ ps, y.length ≤ 12) ∧ ∀ H', SameX p H H' → BlkI H' p C dx x' ps → Q .non H' := by
    rcases k with ⟨b', _⟩ | ⟨_, b', _⟩ | k
    · rw [hv] at b'; cases b'
    · rw [good] at b'; cases b'
    · exact k
  cases e1
  clear k
  subst er
  have m2 := m1.same s3
  have hca2 := s3 _ _ hca1
  have hc2 := s3 _ _ hc0
  clear its1 bad
  have put_keep : ∀ {G : Hp} {t : Addr} {o : HO} {fs : List (Str × V)} (u : HO), Mkg p C dx H G fs → G t = some o → (∀ C dx fs, o ≠ .ins C dx fs) → upd G p u t = some o := fun u m h no => put_ne h m.at_ no
  have pl5 : ps.length ≤ 5 := by rw [List.length_map] at a2; omega
  -- pins
  refine ⟨_, rfl, _, rfl, p, C, dx, _, rfl, m2.at_, kc.cl, kc.n2, kf_few .., ?_⟩
  rw [kp_pins]
  have hca3 := put_keep (.ins C dx (kf (.str x) (.ref ca) (.ref c0) (.bl false) (.ref a3) (.str (kindT x)))) m2 hca2 (by intro _ _ _ z; cases z)
  have hc3 := put_keep (.ins C dx (kf (.str x) (.ref ca) (.ref c0) (.bl false) (.ref a3) (.str (kindT x)))) m2 hc2 (by intro _ _ _ z; cases z)
  have m3 := m2.put (fs' := kf (.str x) (.ref ca) (.ref c0) (.bl false) (.ref a3) (.str (kindT x)))
  generalize upd G2 p (.ins C dx (kf (.str x) (.ref ca) (.ref c0) (.bl false) (.ref a3) (.str (kindT x)))) = G3 at m3 hca3 hc3 ⊢
  -- orders
  refine ⟨_, rfl, ca, _, rfl, .inr (SqT.of hca3), ?_⟩
  have ln : ((ps.map V.str).length : Int) = ((ps.length : Nat) : Int) := by rw [List.length_map]
  refine ⟨_, rfl, RgOk.of_le (Int.le_refl _) (by rw [ln]; omega) (by decide) (by rw [ln]; omega), fun al nal => ?_⟩
  rw [ln, rg_upto]
  have m6 := m3.new nal (o := .tup ((upto ps.length).map V.int))
  have s6 := same_upd nal (o := .tup ((upto ps.length).map V.int))
  have hca6 := s6 _ _ hca3
  have hc6 := s6 _ _ hc3
  have hal6 : (upd G3 al (.tup ((upto ps.length).map V.int))) al = some (.tup ((upto ps.length).map V.int)) := upd_same
  generalize upd G3 al (.tup ((upto ps.length).map V.int)) = G6 at m6 hca6 hc6 hal6 ⊢
  refine ⟨(by show 1 ≤ sizeLine; omega), fun oa noa => ?_⟩
  have m7 := m6.new noa (o := .tup [.ref al])
  have s7 := same_upd noa (o := .tup [.ref al])
  have hca7 := s7 _ _ hca6
  have hc7 := s7 _ _ hc6
  have hal7 := s7 _ _ hal6
  have hoa7 : (upd G6 oa (.tup [.ref al])) oa = some (.tup [.ref al]) := upd_same
  generalize upd G6 oa (.tup [.ref al]) = G7 at m7 hca7 hc7 hal7 hoa7 ⊢
  refine ⟨_, rfl, p, C, dx, _, rfl, m7.at_, kc.cl, kc.n5, kf_few .., ?_⟩
  rw [kp_ords]
  have no : ∀ {xs : List V} (C dx : Addr) (fs : List (Str × V)), HO.tup xs ≠ .ins C dx fs := by intro _ _ _ _ z; cases z
  have hca8 := put_keep (.ins C dx (kf (.str x) (.ref ca) (.ref c0) (.bl false) (.ref oa) (.str (kindT x)))) m7 hca7 no
  have hc8 := put_keep (.ins C dx (kf (.str x) (.ref ca) (.ref c0) (.bl false) (.ref oa) (.str (kindT x)))) m7 hc7 no
  have hal8 := put_keep (.ins C dx (kf (.str x) (.ref ca) (.ref c0) (.bl false) (.ref oa) (.str (kindT x)))) m7 hal7 no
  have hoa8 := put_keep (.ins C dx (kf (.str x) (.ref ca) (.ref c0) (.bl false) (.ref oa) (.str (kindT x)))) m7 hoa7 no
  have m8 := m7.put (fs' := kf (.str x) (.ref ca) (.ref c0) (.bl false) (.ref oa) (.str (kindT x)))
  generalize upd G7 p (.ins C dx (kf (.str x) (.ref ca) (.ref c0) (.bl false) (.ref oa) (.str (kindT x)))) = G8 at m8 hca8 hc8 hal8 hoa8 ⊢
  -- the line
  have x12 : x.length ≤ 12 := by
    unfold wd at wx
    simp only [Bool.and_eq_true, decide_eq_true_eq] at wx
    exact wx.1.1.1.1.2
  have one : (Str.ofString " ").length = 1 := by decide +kernel
  have five : (Str.ofString "block").length = 5 := by decide +kernel
  have sz := sum_le c12
  refine ⟨⟨_, rfl⟩, _, rfl, _, rfl, ca, _, rfl, .inl (SqT.of hca8), ?_, fun L nL => ?_⟩
  · simp only [List.length_cons, List.length_append, List.length_nil, List.length_map]
    omega
  rw [List.append_nil]
  have m9 := m8.new nL (o := .lst (V.str "block" :: V.str x :: ps.map V.str))
  have s9 := same_upd nL (o := .lst (V.str "block" :: V.str x :: ps.map V.str))
  have hL : (upd G8 L (.lst (V.str "block" :: V.str x :: ps.map V.str))) L = some (.lst ((("block" : Str) :: x :: ps).map V.str)) := upd_same
  refine ⟨" ", L, ("block" : Str) :: x :: ps, rfl, rfl, .inl (SqL.of hL), ?_, ?_⟩
  · rw [one, List.map_cons, List.map_cons, List.sum_cons, List.sum_cons, List.length_cons, List.length_cons, five]
    show 5 + (x.length + (ps.map (·.length)).sum) + (ps.length + 1 + 1) * 1 ≤ 16777216
    omega
  refine ⟨_, rfl, p, C, dx, _, rfl, m9.at_, kc.cl, kc.n6, kf_few .., ?_⟩
  rw [kp_line]
  have put9 : ∀ {t : Addr} {xs : List V}, G8 t = some (.tup xs) → upd (upd G8 L (.lst (V.str "block" :: V.str x :: ps.map V.str))) p (.ins C dx (kf (.str x) (.ref ca) (.ref c0) (.bl false) (.ref oa) (.str (blkT x ps)))) t = some (.tup xs) := fun h => put_keep _ m9 (s9 _ _ h) no
  exact kk _ (m9.put (fs' := kf (.str x) (.ref ca) (.ref c0) (.bl false) (.ref oa) (.str (blkT x ps)))).sm ⟨ca, c0, oa, al, upd_same, put9 hca8, put9 hc8, put9 hoa8, put9 hal8⟩
end
end V4
end

-- GenFor
section
set_option Elab.async false
set_option linter.all false
set_option maxRecDepth 100000
set_option maxHeartbeats 1000000
/-! for within a generator's body, at the level of segments. -/
namespace GenFor
open PySem PySem.Spec PyProof.Rows L2 GenW
section
variable {P : Program} {w : World} {A : Around} {R : GenEnd} {Y : Protocol} {n : Nat} {s₀ : Shared} {c : Code} {fs : List Frame} {s : Shared} {env : Env}
  {K : Flow → Sem PySem.Fin} {J : Value → Sem PySem.Fin} {gd : Bool → Bool} {lv : List Value → List Value} {target iter : Expr} {body : List Stmt} {pos : Pos}
/-- the frame that waits for the loop -/
abbrev forFrame (env : Env) (K : Flow → Sem PySem.Fin) (J : Value → Sem PySem.Fin) (gd : Bool → Bool) (lv : List Value → List Value) (c : Code) (p : Pos) : Frame :=
  .ret (fun r => ((match r with | .ok f => (.pure f : Sem Flow) | .error e => .raise e).onRaise (cameBack env)).wrap K J gd lv) none (gd false) (lv []) c p []
theorem seg_For (hs : ∀ x, foldedSetIterable iter env x = pure x)
    (h : wpAny (model P w) (A.over c fs) (eval iter env) (fun v s1 => wpAny (model P w) (A.over c fs) (pyIter v) (fun it s2 => ∀ p, Seg (model P w) A R Y n s₀ (.forLoop target it body [] env) ((model P w).den (.forLoop target it body [] env)) (forFrame env K J gd lv c p :: fs) s2)
      (fun x s' => Seg (model P w) A R Y n s₀ c (J x) fs s') s1) (fun x s' => Seg (model P w) A R Y n s₀ c (J x) fs s') s) :
    Seg (model P w) A R Y n s₀ c ((exec (.For target iter body [] pos) env).wrap K J gd lv) fs s := by
  show Seg _ A R Y n s₀ c (.at pos fun _ => ((eval iter env >>= fun v => foldedSetIterable iter env v >>= fun x => standAt iter.pos >>= fun _ => holding [x] (pyIter x) >>= fun it => runOwn (.forLoop target it body [] env) env)).wrap K J gd lv) fs s
  refine seg_at (seg_bind_wrap (wpAny_mono h (fun v s1 h1 => ?_) fun _ _ e => e))
  rw [hs]
  refine seg_bind_wrap (wpAny_pure ?_)
  refine seg_bind_wrap (wpAny_standAt ?_)
  refine seg_bind_wrap (wpAny_holding (wpAny_mono h1 (fun it s2 h2 => ?_) fun _ _ e => e))
  exact seg_call h2
/-- an exception in a loop's turn -/
abbrev XTurn (P : Program) (w : World) (A : Around) (R : GenEnd) (Y : Protocol) (n : Nat) (s₀ : Shared) (c : Code) (fs : List Frame) (env : Env) (x : Value) (s' : Shared) : Prop :=
  Seg (model P w) A R Y n s₀ c ((do noteFrame x env; theTreesLotGoes x : Sem Unit).wrap (fun _ => .raise x) .raise id id) fs s'
theorem seg_forLoop {it : Value} (h : wpAny (model P w) (A.over (.forLoop target it body [] env) fs) (pyNext it) (fun r s1 => match r with
      | none => Seg (model P w) A R Y n s₀ (.forLoop target it body [] env) (.pure (.again (.block [] env))) fs s1
      | some v => wpAny (model P w) (A.over (.forLoop target it body [] env) fs) (letOwnedTupleGo target it v) (fun _ s2 => wpAny (model P w) (A.over (.forLoop target it body [] env) fs) (assign target env v) (fun _ s3 =>
          Seg (model P w) A R Y n s₀ (.forLoop target it body [] env) ((execs body env).wrap (fun f => match f with
            | .next | .cont => .pure (.again (.forLoop target it body [] env))
            | .brk => .pure (.done .next)
            | .ret v => .pure (.done (.ret v))) (fun e => (do noteFrame e env; theTreesLotGoes e : Sem Unit).wrap (fun _ => .raise e) .raise id id) id id) fs s3)
          (XTurn P w A R Y n s₀ (.forLoop target it body [] env) fs env) s2) (XTurn P w A R Y n s₀ (.forLoop target it body [] env) fs env) s1)
      (XTurn P w A R Y n s₀ (.forLoop target it body [] env) fs env) s) :
    Seg (model P w) A R Y n s₀ (.forLoop target it body [] env) ((model P w).den (.forLoop target it body [] env)) fs s := by
  show Seg _ A R Y n s₀ _ ((forTurn target it body [] env).onRaise (fun x => do noteFrame x env; theTreesLotGoes x)) fs s
  unfold forTurn
  rw [Sem.onRaise_eq_wrap]
  have xx : ∀ x s', XTurn P w A R Y n s₀ (.forLoop target it body [] env) fs env x s' → Seg (model P w) A R Y n s₀ (.forLoop target it body [] env) ((do noteFrame x env; theTreesLotGoes x : Sem Unit).bind fun _ => .raise x) fs s' := fun x s' hx => by
    rw [Sem.bind_eq_wrap]
    exact hx
  refine seg_bind_wrap (wpAny_standAt ?_)
  refine seg_bind_wrap (wpAny_onRaise (wpAny_mono h (fun r s1 h1 => ?_) fun x s' hx => wpAny_standAt (xx x s' hx)))
  cases r with
  | none => exact h1
  | some v =>
    refine seg_bind_wrap (wpAny_mono h1 (fun _ s2 h2 => ?_) fun x s' hx => xx x s' hx)
    refine seg_bind_wrap (wpAny_mono h2 (fun _ s3 h3 => ?_) fun x s' hx => xx x s' hx)
    rw [Sem.bind_eq_wrap', Sem.wrap_wrap]
    rw [Sem.wrap_congr (execs body env) _ _ (K' := fun f => match f with
            | .next | .cont => .pure (.again (.forLoop target it body [] env))
            | .brk => .pure (.done .next)
            | .ret v => .pure (.done (.ret v))) (H' := (fun e => (do noteFrame e env; theTreesLotGoes e : Sem Unit).wrap (fun _ => .raise e) .raise id id))
        (fun f => by cases f <;> rfl)
        (fun e => by first | exact Sem.bind_eq_wrap _ _ | (show (do noteFrame e env; theTreesLotGoes e : Sem Unit).bind (fun _ => .raise e) = _; rw [Sem.bind_eq_wrap]))]
    exact h3
end
end GenFor
end

-- GenFor2
section
set_option Elab.async false
set_option linter.all false
set_option maxRecDepth 100000
set_option maxHeartbeats 1000000
/-! a generator def whose body goes over a tuple and hands each item out: its run beside a consumer that turns two objects. -/
namespace GenFor
open PySem PySem.Spec PyProof.Rows L2 GenW
/-- while the generator sleeps its consumer turns the objects at C and D; all else is kept -/
structure Woke (C D : Addr) (s s' : Shared) : Prop where
  os : s'.os = s.os
  bare : AllBare s'.gens
  keep : ∀ b o, b ≠ C → b ≠ D → s.heap.get? b = some o → s'.heap.get? b = some o
  c : ∃ o, s'.heap.get? C = some o ∧ ∀ v, o.data ≠ .cell v
  d : ∃ o, s'.heap.get? D = some o ∧ ∀ v, o.data ≠ .cell v
/-- running: the consumer's two objects stand as they stood when it was woken -/
def Two (X : Cx) (C D : Addr) (σ : L2.St) (H : Hp) (s₀ s : Shared) : Prop := ∃ oC oD, s₀.heap.get? C = some oC ∧ s₀.heap.get? D = some oD ∧ Inv X [(C, oC), (D, oD)] σ H s
structure Far (X : Cx) (C D : Addr) : Prop where
  c : Apart X C
  d : Apart X D
  pn : ∀ p ∈ X.pn, p.1 ≠ C ∧ p.1 ≠ D
theorem Two.at {X : Cx} {C D : Addr} {σ : L2.St} {H : Hp} {s₀ s : Shared} (h : Two X C D σ H s₀ s) : s.heap.get? C = s₀.heap.get? C ∧ s.heap.get? D = s₀.heap.get? D ∧ H C = none ∧ H D = none := by
  obtain ⟨oC, oD, e1, e2, I⟩ := h
  have h1 := I.pin (C, oC) (List.mem_append_right _ List.mem_cons_self)
  have h2 := I.pin (D, oD) (List.mem_append_right _ (List.mem_cons_of_mem _ List.mem_cons_self))
  exact ⟨h1.1.trans e1.symm, h2.1.trans e2.symm, h1.2.1, h2.2.1⟩
/-- woken again -/
theorem Two.woken {X : Cx} {C D : Addr} {σ : L2.St} {H : Hp} {s₀ s s' : Shared} (F : Far X C D) (h : Two X C D σ H s₀ s) (z : Woke C D s s') : Two X C D σ H s' s' := by
  obtain ⟨oC, oD, _, _, I⟩ := h
  obtain ⟨_, c1, c2, c3, _⟩ := I.pin (C, oC) (List.mem_append_right _ List.mem_cons_self)
  obtain ⟨_, d1, d2, d3, _⟩ := I.pin (D, oD) (List.mem_append_right _ (List.mem_cons_of_mem _ List.mem_cons_self))
  have I0 : Inv X [] σ H s := I.pins_of fun p hp => by cases hp
  obtain ⟨z1, z2, z3, ⟨oC', eC, nC⟩, ⟨oD', eD, nD⟩⟩ := z
  have nt : ∀ b u, H b = some u → b ≠ C ∧ b ≠ D := fun b u q => ⟨fun hb => (by rw [hb, c1] at q; cases q), fun hb => (by rw [hb, d1] at q; cases q)⟩
  have nc : ∀ b, b ∉ [C, D] → b ≠ C ∧ b ≠ D := fun b hb => ⟨fun e => hb (e ▸ List.mem_cons_self), fun e => hb (e ▸ List.mem_cons_of_mem _ List.mem_cons_self)⟩
  have keep : ∀ b ob, b ∉ [C, D] → s.heap.get? b = some ob → s'.heap.get? b = some ob := fun b ob hb q => z3 b ob (nc b hb).1 (nc b hb).2 q
  obtain ⟨hh, g, d, t, o⟩ := s'
  have ho : o = s.os := z1
  subst ho
  have J : Inv X [] σ H { s with heap := hh, gens := g, drawn := d, toks := t } := by
    refine I0.step (g' := g) (t' := t) (d' := d) (ch := [C, D]) (fun b hb => ?_)
      (fun b ob _ _ hc q _ => keep b ob hc q) (fun b ob _ _ hc q _ => ⟨ob.slots, keep b ob hc q⟩) (fun _ _ _ _ n => n) (fun b ob hc q => ⟨ob, keep b ob hc q⟩)
      (fun _ _ q => q) (fun _ _ _ q => q) (fun b ps q => ⟨#[], by rw [q]; simp⟩) (fun m hm => ?_) (fun b u q => ?_) z2
    · rcases List.mem_cons.mp hb with e | hb
      · rw [e]
        exact ⟨.inr F.c.1, F.c.2.1, F.c.2.2, fun p hp => by rw [List.append_nil] at hp; exact (F.pn p hp).1⟩
      · rw [List.mem_singleton.mp hb]
        exact ⟨.inr F.d.1, F.d.2.1, F.d.2.2, fun p hp => by rw [List.append_nil] at hp; exact (F.pn p hp).2⟩
    · obtain ⟨ob, es, ep, ho, r⟩ := hm
      exact ⟨ob, es, ep, z3 _ ob (Ne.symm c2) (Ne.symm d2) ho, r⟩
    · refine (I0.hok b u q).stay (fun c v hc y => ?_) (fun _ y => y) fun _ _ y => y
      rcases hc with y' | y'
      · rw [y'] at y ⊢; exact z3 b v (nt b u q).1 (nt b u q).2 y
      · exact z3 c v (nt c _ y').1 (nt c _ y').2 y
  refine ⟨oC', oD', eC, eD, J.pins_of fun p hp => ?_⟩
  rcases List.mem_cons.mp hp with hp | hp
  · rw [hp]
    exact ⟨eC, c1, c2, c3, nC⟩
  · rw [List.mem_singleton.mp hp]
    exact ⟨eD, d1, d2, d3, nD⟩
/-- an item is handed out -/
def Y2 (sB : Shared) (C D a : Addr) (g : Nat) (xs : List V) : Protocol := fun m s₀ v s1 kap =>
  ∃ (i : Nat) (x : V), i + m + 1 = xs.length ∧ xs[i]? = some x ∧ RelV x v ∧ s1.os = sB.os ∧ AllBare s1.gens ∧ s1.heap.NoLimit ∧ s1.heap.IsGen a g ∧ s1.heap.get? C = s₀.heap.get? C ∧ s1.heap.get? D = s₀.heap.get? D ∧ ∀ s', Woke C D s1 s' → kap (.send .none) s'
/-- all is handed out -/
def F2 (P : Program) (w : World) (outer : List Env) (H : Hp) (sB : Shared) (C D : Addr) : Nat → Shared → Shared → Prop := fun n s₀ s1 =>
  n = 0 ∧ s1.os = sB.os ∧ AllBare s1.gens ∧ Un (frs outer) [] H H sB.heap s1.heap ∧ HOk P w H s1.heap ∧ s1.heap.get? C = s₀.heap.get? C ∧ s1.heap.get? D = s₀.heap.get? D ∧ H C = none ∧ H D = none
def R2e (P : Program) (w : World) (outer : List Env) (H : Hp) (sB : Shared) (C D : Addr) : GenEnd := fun n s₀ r s1 =>
  ((r = .ok (.ret .none) ∨ r = .ok .next) ∧ F2 P w outer H sB C D n s₀ s1) ∨ ∃ e, r = .error e ∧ False
theorem fp_swap {X : Cx} {C D b : Addr} {o1 o2 o3 o4 : Obj} {H : Hp} (h : FpOk X [(C, o1), (D, o2)] H b) : FpOk X [(C, o3), (D, o4)] H b := by
  obtain ⟨a1, a2, a3, a4, a5, a6⟩ := h
  refine ⟨a1, a2, a3, a4, a5, fun p hp => ?_⟩
  rcases List.mem_append.mp hp with hp | hp
  · exact a6 p (List.mem_append_left _ hp)
  rcases List.mem_cons.mp hp with hp | hp
  · rw [hp]; exact a6 (C, o1) (List.mem_append_right _ List.mem_cons_self)
  · rw [List.mem_singleton.mp hp]; exact a6 (D, o2) (List.mem_append_right _ (List.mem_cons_of_mem _ List.mem_cons_self))
theorem fp_ne {X : Cx} {C D b : Addr} {o1 o2 : Obj} {H : Hp} (h : FpOk X [(C, o1), (D, o2)] H b) : b ≠ C ∧ b ≠ D := by
  obtain ⟨_, _, _, _, _, a6⟩ := h
  exact ⟨fun z => a6 (C, o1) (List.mem_append_right _ List.mem_cons_self) z.symm, fun z => a6 (D, o2) (List.mem_append_right _ (List.mem_cons_of_mem _ List.mem_cons_self)) z.symm⟩
section
variable {X : Cx} {A : Around} {R : GenEnd} {C D a oa it : Addr} {g j : Nat} {xs : List V} {sB : Shared} {fs : List Frame} {tgt e : Expr} {yp ep : Pos} {fp : List Addr} {tn : Nat → Heap → Prop} {H : Hp}
theorem seg_loop (hc : X.calm = true) (hxe : ∀ x s', X.xe x s' → False) (F : Far X C D) (hg : PG X tgt (gName j)) (he : PE X e (tVar j)) (T : Turn X.prog X.w X.K tgt (Itt X.K oa) fp it tn) (hq : SqT X.K H oa xs)
    (hgen : ∀ (pins : List (Addr × Obj)) (σ : L2.St) (s : Shared), Inv X pins σ H s → s.heap.IsGen a g) (hos : ∀ (pins : List (Addr × Obj)) (σ : L2.St) (s : Shared), Inv X pins σ H s → s.os = sB.os) (hjl : ∀ (σ : L2.St) (v : V), j < σ.length → (σ.set j (some v))[j]? = some (some v))
    (hov : A.over (.forLoop tgt (.ref it) [.Expr (.Yield (some e) yp) ep] [] X.env) fs = X.A) (hsp : splitAtGen fs = none) (hgu : fs.any Frame.guarded = false) (hco : X.env.scope.isCoroutine = false) (hin : interactive X.env = false)
    (hend : ∀ (σ : L2.St) (s₀ s1 : Shared), Two X C D σ H s₀ s1 → Seg (model X.prog X.w) A R (Y2 sB C D a g xs) 0 s₀ (.block [] X.env) (leafOf (.ok .next)) fs s1) :
    ∀ (r i : Nat) (σ : L2.St) (s₀ s : Shared), i + r = xs.length → j < σ.length → (∀ b ∈ fp, ∀ o1 o2, FpOk X [(C, o1), (D, o2)] H b) → Two X C D σ H s₀ s → tn i s.heap →
      Seg (model X.prog X.w) A R (Y2 sB C D a g xs) r s₀ (.forLoop tgt (.ref it) [.Expr (.Yield (some e) yp) ep] [] X.env) ((model X.prog X.w).den (.forLoop tgt (.ref it) [.Expr (.Yield (some e) yp) ep] [] X.env)) fs s := by
  intro r
  induction r with
  | zero =>
    intro i σ s₀ s hi hj hf hT ht
    refine seg_forLoop ?_
    rw [hov]
    obtain ⟨oC, oD, e1, e2, I⟩ := hT
    refine wpAny_mono (T.done X rfl rfl rfl hc i [(C, oC), (D, oD)] s σ H (fun _ _ => False) I (fun b hb => hf b hb _ _) ht ⟨xs, hq, by omega⟩) (fun r s1 ⟨er, I1⟩ => ?_) fun _ _ h => h.elim
    subst er
    refine seg_again rfl ?_
    exact hend σ s₀ s1 ⟨oC, oD, e1, e2, I1⟩
  | succ r ih =>
    intro i σ s₀ s hi hj hf hT ht
    refine seg_forLoop ?_
    rw [hov]
    obtain ⟨oC, oD, e1, e2, I⟩ := hT
    have lt : i < xs.length := by omega
    refine wpAny_mono (T.item X rfl rfl rfl hc i [(C, oC), (D, oD)] s σ H (fun _ _ => False) I (fun b hb => hf b hb _ _) ht ⟨xs, _, hq, List.getElem?_eq_getElem lt⟩) (fun r1 s1 ⟨u, er, h1⟩ => ?_) fun _ _ h => h.elim
    subst er
    refine wpAny_mono h1 (fun _ s2 h2 => ?_) fun _ _ h => h.elim
    obtain ⟨x, H', I2, ru, ⟨eH, hx⟩, ht2, _⟩ := h2
    subst eH
    have hxi := hx xs hq
    have I2' := I2.pinned (fun b hb => hf b hb oC oD) (T.obj _ _ ht2)
    refine wpAny_mono (hg.run _ s2 σ H' x u (fun σ' H2 => σ' = σ.set j (some x) ∧ H2 = H') I2' ru ⟨rfl, rfl⟩) (fun _ s3 h3 => ?_) fun x s' h => (hxe x s' h).elim
    obtain ⟨σ3, H3, I3, eσ, eH3⟩ := h3
    subst eσ eH3
    refine seg_execs_cons ?_
    refine seg_Expr_Yield hsp rfl hgu ?_ hco hin
    rw [hov]
    refine wpAny_mono (he.run _ s3 _ H3 (fun y H4 => y = x ∧ H4 = H3) I3 ⟨x, hjl σ x hj, rfl, rfl⟩) (fun v s4 h4 => ?_) fun x s' h => (hxe x s' h).elim
    obtain ⟨y, H4, I4, rv, ey, eH4⟩ := h4
    subst ey eH4
    intro kap hk
    have I5 := I4.unpinned
    have pC := I5.pin (C, oC) (List.mem_append_right _ List.mem_cons_self)
    have pD := I5.pin (D, oD) (List.mem_append_right _ (List.mem_cons_of_mem _ List.mem_cons_self))
    refine ⟨i, y, by omega, hxi, rv, hos _ _ _ I5, I5.bare, I5.nolimit, hgen _ _ _ I5, pC.1.trans e1.symm, pD.1.trans e2.symm, fun s' z => hk .none s' ?_⟩
    refine seg_execs_nil ?_
    refine seg_again rfl ?_
    refine ih (i + 1) _ s' s' (by omega) (by rw [List.length_set]; exact hj) hf ((show Two X C D _ H4 s₀ s4 from ⟨oC, oD, e1, e2, I5⟩).woken F z) ?_
    refine T.keep _ _ _ ht2 fun b hb o e => ?_
    obtain ⟨n1, n2⟩ := fp_ne (hf b hb oC oD)
    exact z.keep b o n1 n2 (I4.pin (b, o) (List.mem_append_right _ (List.mem_append_right _ (mem_pinsAt hb e)))).1
end
end GenFor
end

-- GenFor3
section
set_option Elab.async false
set_option linter.all false
set_option maxRecDepth 100000
set_option maxHeartbeats 1000000
/-! what a call of such a generator def gives. -/
namespace GenFor
open PySem PySem.Spec PyProof.Rows L2 GenW
/-- a generator that has not begun, and will hand out xs -/
def GMade2 (P : Program) (w : World) (k : Nat) (outer : List Env) (H : Hp) (s : Shared) (xs : List V) (u : Value) (s' : Shared) : Prop :=
  ∃ (a : Addr) (g : Nat) (c : Code), u = .ref a ∧ s.heap.objs.size ≤ a ∧ a < s'.heap.objs.size ∧ s'.heap.IsGen a g ∧ s'.gens[g]? = some (.fresh c) ∧ s'.os = s.os ∧ AllBare s'.gens ∧ s'.heap.NoLimit ∧ (∀ b o, s.heap.get? b = some o → s'.heap.get? b = some o) ∧
    ∀ (A : Around) (C D : Addr) (s2 : Shared), Room k A → A.frames = some outer → s'.heap.objs.size ≤ C → s'.heap.objs.size ≤ D → (∀ b o, s'.heap.get? b = some o → s2.heap.get? b = some o) → (∃ o, s2.heap.get? C = some o ∧ ∀ v, o.data ≠ .cell v) → (∃ o, s2.heap.get? D = some o ∧ ∀ v, o.data ≠ .cell v) →
      s2.os = s.os → AllBare s2.gens → Seg (model P w) A (R2e P w outer H s C D) (Y2 s C D a g xs) xs.length s2 c ((model P w).den c) [] s2
/-- a generator def that goes over a tuple -/
def GFn2 (P : Program) (w : World) (K : PySem.W.Frag) (mg : Str → Option Value) (base : Heap) (k : Nat) (f : Addr) (fd : FuncData) (ps : List Str) (sp : List V → Hp → List V → Prop) : Prop :=
  ∀ (A : Around) (outer : List Env) (s : Shared) (H : Hp) (args : Args) (us : List Value) (vs xs : List V), Room k A → Env0 P w K mg base A outer s H → BindsTo s fd args (ps.zip us) → Vals vs us → sp vs H xs →
    codeAny (model P w) A (.call (.ref f) args) (fun r s' => match r with | .ok (.ret u) => GMade2 P w k outer H s xs u s' | _ => False) s
abbrev gX (P : Program) (w : World) (K : PySem.W.Frag) (mg : Str → Option Value) (base : Heap) (N : List Str) (qual : Str) (scope : Scope) (f : Addr) (cdv : Value) (A : Around) (outer : List Env) (s : Shared) (H : Hp) (pn : List (Addr × Obj)) : Cx := (gcxOf P w K mg base N qual scope f cdv A outer s H (fun _ _ _ => False) pn).nox
theorem gen2_of {P : Program} {w : World} {K : PySem.W.Frag} {mg : Str → Option Value} {base : Heap} {k : Nat} {f : Addr} {name qual : Str} {params : Arguments} {scope : Scope} {dV kV doc pm cdv ct oc : Value} {an od : Option Addr}
    {osl : Array (Option Value)} {N ps : List Str} {sp : List V → Hp → List V → Prop} {tgt iter e : Expr} {yp ep fp : Pos} {j : Nat}
    (lk : K.lookup f = some ⟨oc, od, .func (PySem.W.fnOf name qual params [.For tgt iter [.Expr (.Yield (some e) yp) ep] [] fp] scope dV kV doc pm an cdv ct), osl⟩) (hcd : PySem.W.codeIn K cdv qual = true) (S : GScope N ps scope)
    (len : ∀ vs H xs, sp vs H xs → vs.length = ps.length) (hjN : j < N.length) (hs : ∀ (env : Env) (x : Value), foldedSetIterable iter env x = pure x) (hin : ∀ (L f' : Addr), interactive (envOfC qual scope L f' cdv) = false)
    (hbody : ∀ (A : Around) (outer : List Env) (s : Shared) (H : Hp) (vs xs : List V) (pn : List (Addr × Obj)), Room k (A.deeper (envOfC qual scope s.heap.objs.size f cdv)) → sp vs H xs →
      ∃ wi oa, PI (gX P w K mg base N qual scope f cdv A outer s H pn) tgt iter wi ∧ PG (gX P w K mg base N qual scope f cdv A outer s H pn) tgt (gName j) ∧ PE (gX P w K mg base N qual scope f cdv A outer s H pn) e (tVar j) ∧
        wi (start N vs) H (fun J H' => J = Itt K oa ∧ H' = H) ∧ SqT K H oa xs) :
    GFn2 P w K mg base (k + 1) f (PySem.W.fnOf name qual params [.For tgt iter [.Expr (.Yield (some e) yp) ep] [] fp] scope dV kV doc pm an cdv ct) ps sp := by
  intro A outer s H args us vs xs hr e0 hb r hsp
  have hl := len _ _ _ hsp
  have KX : K.In s.heap := e0.mod.kin.keeps fun b o e => (e0.bs b o e).1
  have lim : s.heap.NoLimit := e0.mod.nolimit.keeps fun b o e => (e0.bs b o e).1
  refine codeAny_call_generator hr.depth (KX _ _ lk) rfl S.co S.gen rfl (PySem.W.codeRec_of KX hcd) (hb _ _ _ _ ?_)
  refine wpAny_newFunctionEnv_cells S.kind (fun y hy => ?_) fun env he s1 x => ?_
  · rcases S.par y.1 (List.of_mem_zip hy).1 with q | q
    · exact .inl q
    · exact .inr ⟨q, PySem.W.cellsFrom_some _ _ _ (.inl q)⟩
  subst he
  refine ⟨lim.keeps x.toInCall.keep, ?_⟩
  have lim1 : s1.heap.NoLimit := lim.keeps x.toInCall.keep
  obtain ⟨h1, tk, es1, hk1⟩ := x.done
  have os1 : s1.os = s.os := by rw [es1]
  have gen1 : s1.gens = s.gens := by rw [es1]
  have lt1 : s.heap.objs.size < s1.heap.objs.size := x.toInCall.ns.lt
  have kp1 : ∀ b o, s.heap.get? b = some o → s1.heap.get? b = some o := x.toInCall.keep
  have main : ∀ (go : Obj) (nm qn : Value) (tk2 : Nat), go.cls = .type "generator" → go.data = .fields #[.int s1.gens.size 0, nm, qn] → go.slots = #[] → (∀ h : Heap, (h.push go).get? h.objs.size = some go) →
      GMade2 P w (k + 1) outer H s xs (.ref s1.heap.objs.size) { s1 with gens := s1.gens.push (.fresh (.func [.For tgt iter [.Expr (.Yield (some e) yp) ep] [] fp] (envOfC qual scope s.heap.objs.size f cdv))), toks := tk2, heap := s1.heap.push go } := by
    intro go nm qn tk2 hgc hgd0 hgs hgp
    have hgen : ∀ h : Heap, h.get? s1.heap.objs.size = some go → h.IsGen s1.heap.objs.size s1.gens.size := fun h e => ⟨go, nm, qn, e, hgc, hgd0, hgs⟩
    have hpushed : (s1.heap.push go).get? s1.heap.objs.size = some go := hgp _
    refine ⟨s1.heap.objs.size, s1.gens.size, _, rfl, Nat.le_of_lt lt1, ?_, hgen _ hpushed, Array.getElem?_push_size .., os1, AllBare.push (by rw [gen1]; exact e0.bare) rfl, lim1.keeps fun b o e => Heap.get?_push_of_some _ e, fun b o e => Heap.get?_push_of_some _ (kp1 b o e), ?_⟩
    · show _ < (s1.heap.push _).objs.size
      rw [Heap.size_push]; exact Nat.lt_succ_self _
    intro Aw C D s2 hrw hfr hC hD hk2 hCo hDo hos hba
    have e0w : Env0 P w K mg base Aw outer s H := ⟨hfr, e0.mod, e0.bs, e0.bsz, e0.funs, e0.frf, e0.hok, e0.bare⟩
    obtain ⟨wi, oa, hi, hg, he, hw, hq⟩ := hbody Aw outer s H vs xs [(s1.heap.objs.size, go)] (hrw.deeper _) hsp
    have I1 : Inv (gcxOf P w K mg base N qual scope f cdv Aw outer s H (fun _ _ _ => False) []) [] (start N vs) H s1 := inv_startG S hrw.hd e0w hl r x
    have kp2 : ∀ b o, s1.heap.get? b = some o → s2.heap.get? b = some o := fun b o e => hk2 b o (Heap.get?_push_of_some _ e)
    have I2 : Inv (gcxOf P w K mg base N qual scope f cdv Aw outer s H (fun _ _ _ => False) []) [] (start N vs) H s2 :=
      I1.call' (ch := []) (hos.trans os1.symm) (Un.kept kp2) (I1.hok.kept kp2) hba fun b z => by simp at z
    have above : ∀ {b : Addr}, (s1.heap.push go).objs.size ≤ b → s1.heap.objs.size < b := fun h => by rw [Heap.size_push] at h; exact h
    have hC1 := above hC
    have hD1 := above hD
    obtain ⟨oC, eC, nC⟩ := hCo
    obtain ⟨oD, eD, nD⟩ := hDo
    have young : ∀ b, s1.heap.objs.size ≤ b → H b = none ∧ b ≠ s.heap.objs.size ∧ b ∉ frs outer ∧ s.heap.objs.size ≤ b ∧ ∀ y c, (cellsFrom (s.heap.objs.size + 1) scope.names []).lookup y = some c → c ≠ b := fun b hb => by
      refine ⟨I1.hok.fresh hb, Nat.ne_of_gt (Nat.lt_of_lt_of_le lt1 hb), I1.nofs hb, Nat.le_trans (Nat.le_of_lt lt1) hb, fun y c e z => ?_⟩
      obtain ⟨v, ob, ho, _⟩ := I1.cell y c e
      have := Heap.lt_size ho
      rw [z] at this
      exact absurd (Nat.lt_of_lt_of_le this hb) (Nat.lt_irrefl _)
    obtain ⟨a1, a2, a3, a4, a5⟩ := young _ (Nat.le_refl _)
    obtain ⟨c1, c2, c3, c4, c5⟩ := young C (Nat.le_of_lt hC1)
    obtain ⟨d1, d2, d3, d4, d5⟩ := young D (Nat.le_of_lt hD1)
    have hT : Two (gX P w K mg base N qual scope f cdv Aw outer s H [(s1.heap.objs.size, go)]) C D (start N vs) H s2 s2 := by
      refine ⟨oC, oD, eC, eD, (Inv.pinnedG I2 fun p hp => ?_).wish _⟩
      rcases List.mem_append.mp hp with z | z
      · rw [List.mem_singleton.mp z]
        exact ⟨hk2 _ go hpushed, a1, a2, a3, fun v q => by rw [hgd0] at q; cases q⟩
      rcases List.mem_cons.mp z with z | z
      · rw [z]; exact ⟨eC, c1, c2, c3, nC⟩
      · rw [List.mem_singleton.mp z]; exact ⟨eD, d1, d2, d3, nD⟩
    have far : Far (gX P w K mg base N qual scope f cdv Aw outer s H [(s1.heap.objs.size, go)]) C D :=
      ⟨⟨c4, c2, c5⟩, ⟨d4, d2, d5⟩, fun p hp => by
        rw [List.mem_singleton.mp hp]
        exact ⟨Nat.ne_of_lt hC1, Nat.ne_of_lt hD1⟩⟩
    obtain ⟨oC', oD', eC', eD', I3⟩ := id hT
    refine seg_func ?_
    refine seg_execs_cons ?_
    refine seg_For (hs _) ?_
    rw [over_func]
    refine wpAny_mono (hi.run [(C, oC'), (D, oD')] s2 _ H _ I3 hw) (fun v s3 h3 => ?_) fun _ _ h => h.elim
    refine wpAny_mono h3 (fun itv s4 h4 => ?_) fun _ _ h => h.elim
    obtain ⟨it, fpa, tn, J, H4, eit, I4, T, st4, f4, eJ, eH⟩ := h4
    subst eit eJ eH
    intro p
    refine seg_loop (X := gX P w K mg base N qual scope f cdv Aw outer s H4 [(s1.heap.objs.size, go)]) (oa := oa) (j := j) rfl (fun _ _ h => h) far hg he T hq (fun pins σ s5 I5 => hgen _ (I5.pin (s1.heap.objs.size, go) (List.mem_append_left _ (List.mem_singleton.mpr rfl))).1) (fun pins σ s5 I5 => I5.os)
      (fun σ v h => List.getElem?_set_self h) ((over_loop rfl rfl).trans over_func) rfl rfl S.co (hin _ _) (fun σ s₀ s5 h5 => ?_) xs.length 0 (start N vs) s2 s4 (Nat.zero_add _) (by have := I4.len; exact this ▸ hjN) (fun b hb o1 o2 => fp_swap (f4 b hb)) ⟨oC', oD', eC', eD', I4⟩ st4
    refine seg_leaf (.ok .next) ?_
    show Seg _ _ _ _ _ _ _ (leafOf (.ok (.ret .none))) _ _
    obtain ⟨q1, q2, q3, q4⟩ := h5.at
    obtain ⟨_, _, _, _, I5⟩ := h5
    exact seg_end (.ok (.ret .none)) (.inl ⟨.inl rfl, rfl, I5.os, I5.bare, I5.base, I5.hok, q1, q2, q3, q4⟩)
  exact main _ _ _ _ rfl rfl rfl fun h => Heap.get?_push_size _ rfl
end GenFor
end

-- GenFor4
section
set_option Elab.async false
set_option linter.all false
set_option maxRecDepth 100000
set_option maxHeartbeats 1000000
/-! the consumer: [x for x in g], g such a generator: the comprehension's loop. -/
namespace GenFor
open PySem PySem.Spec PyProof.Rows L2 GenW
section
variable {P : Program} {w : World} {A : Around} {outer : List Env} {H : Hp} {sB : Shared} {C D a : Addr} {g : Nat} {xs : List V} {x : Str} {q p pos : Pos} {scope : Scope} {iter : Expr} {ce : Env} {R : Result → Shared → Prop}
/-- between two turns: i items are in the list -/
def Turns (P : Program) (w : World) (A : Around) (outer : List Env) (H : Hp) (sB : Shared) (C D a : Addr) (g : Nat) (xs : List V) (n : Nat) (s : Shared) : Prop :=
  ∃ (i : Nat) (us : List Value) (m : Str → Option Value), i + n = xs.length ∧ s.heap.IsGen a g ∧ s.heap.NoLimit ∧ (∃ gs, s.gens[g]? = some gs ∧ gs.Goes (model P w) A.in1 (R2e P w outer H sB C D) (Y2 sB C D a g xs) n (.send .none) (s.setGen g .running)) ∧
    s.heap.PlainList D us.toArray ∧ Vals (xs.take i) us ∧ s.heap.Ns C m
theorem comp_gen (hh : A.handled = none) (hd : A.depth < recursionLimit) (hl : ce.locals = C) (hk : ce.scope.kind = .function) (hx : ce.kindOf x = some .local) (hp : (ce.scope.kind == .class || (ce.scope.kind == .module && ce.locals != ce.globals)) = false) (hdb : (x == ("__debug__" : Str)) = false)
    (nCD : C ≠ D) (nCa : C ≠ a) (nDa : D ≠ a) (nCs : C ≠ cStatics) (nDs : D ≠ cStatics) (hsz : xs.length ≤ sizeLine)
    (done : ∀ s' us m, s'.os = sB.os → AllBare s'.gens → Un (frs outer) [] H H sB.heap s'.heap → HOk P w H s'.heap → H C = none → H D = none → s'.heap.PlainList D us.toArray → Vals xs us → s'.heap.Ns C m → R (.ok .next) s')
    (n : Nat) {s : Shared} (h : Turns P w A outer H sB C D a g xs n s) :
    codeAny (model P w) A (.compLoop (.ListComp (.Name x q) [⟨.Name x p, iter, [], 0⟩] scope pos) 0 (.ref a) (.ref D) ce) R s := by
  refine compLoop_any (fun n s => Turns P w A outer H sB C D a g xs n s) ?_ n h
  rintro n s ⟨i, us, m, hi, hg, hlim, ⟨gs, hgs, hgo⟩, hD, rv, hns⟩
  have hgl : g < s.gens.size := (Array.getElem?_eq_some_iff.mp hgs).1
  refine wpAny_gsz (n := g + 1) hgl (next_genG hh hlim hd hg hgs (F := F2 P w outer H sB C D) (Er := fun _ _ => False) (Y := Y2 sB C D a g xs) hgo (fun v s₁ gs' hbare hv => ?_) (fun s₁ hF h' hkp => ?_) fun e s₁ he => he.elim)
  · intro hsz'
    obtain ⟨i', y, hi', hy, rvy, hos, hba, hlm, hge, hC, hDq, hk'⟩ := hv
    have eC : s₁.heap.get? C = s.heap.get? C := hC
    have eD : s₁.heap.get? D = s.heap.get? D := hDq
    have hsz1 : g < s₁.gens.size := by
      have q : (s₁.setGen g gs').gens.size = s₁.gens.size := setGen_size _ _ _
      have hsz'' : g + 1 ≤ (s₁.setGen g gs').gens.size := hsz'
      omega
    have hns1 : s₁.heap.Ns C m := hns.at' fun o e => eC.trans e
    have hD1 : s₁.heap.PlainList D us.toArray := by
      obtain ⟨k, e⟩ := hD
      exact ⟨k, eD.trans e⟩
    refine wpAny_of_eq (rfl : letOwnedTupleGo (.Name x p) (.ref a) v = pure ()) ?_
    refine wpAny_assign_Name (wpAny_storeName_local (m := m) hx (by rw [hl]; exact hns1) (fun h₂ hn₂ hs₂ => ?_) hp)
    refine wpAny_tests_nil ?_
    rw [if_pos rfl]
    refine wpAny_Name (wpAny_loadName_local (v := v) hk hx hn₂ (if_pos rfl) ?_) hdb
    have nDl : D ≠ ce.locals := by rw [hl]; exact Ne.symm nCD
    have hD2 : h₂.PlainList D us.toArray := by
      obtain ⟨k, e⟩ := hD1
      exact ⟨k, hs₂.extBut D _ nDl e⟩
    have ul : us.length ≤ i := by rw [← rv.length, List.length_take]; exact Nat.min_le_left _ _
    refine wpAny_list_append_plain (hsz := by rw [List.size_toArray]; omega) hD2 fun h₅ hl₅ hs₅ => ?_
    have keep : ∀ b o, b ≠ C → b ≠ D → s₁.heap.get? b = some o → h₅.get? b = some o := fun b o n1 n2 e => hs₅.extBut b o n2 (hs₂.extBut b o (by rw [hl]; exact n1) e)
    have hns5 : h₅.Ns C (fun x_1 => if x_1 = x then some v else m x_1) := by
      rw [hl] at hn₂
      exact hn₂.at' fun o e => hs₅.extBut C o nCD e
    have wk : ∀ (t : Nat), Woke C D s₁ ({ s₁.setGen g gs' with heap := h₅, toks := t }.setGen g .running) := fun t => by
      refine ⟨rfl, allBare_setGen (allBare_setGen hba hbare) rfl, keep, ?_, ?_⟩
      · obtain ⟨ob, es, ep, ho, hd, _⟩ := hns5
        exact ⟨ob, ho, fun v e => by rw [hd] at e; cases e⟩
      · obtain ⟨k, e⟩ := hl₅
        exact ⟨_, e, fun v z => by cases z⟩
    cases n with
    | zero => exact (hk' _ (wk 0)).elim
    | succ n =>
      have e : i' = i := by omega
      subst e
      refine ⟨n, Nat.lt_succ_self _, i' + 1, us ++ [v], _, by omega, (let ⟨o, nm, qn, ho, r⟩ := hge; ⟨o, nm, qn, keep a o (Ne.symm nCa) (Ne.symm nDa) ho, r⟩), ?_, ⟨gs', setGen_at hsz1, hk' _ (wk _)⟩, ?_, ?_, hns5⟩
      · obtain ⟨mc, hnc, hnn⟩ := hlm
        exact ⟨mc, hnc.at' fun o e => keep _ o (Ne.symm nCs) (Ne.symm nDs) e, hnn⟩
      · have e : us.toArray.push v = (us ++ [v]).toArray := by simp
        rw [← e]
        exact hl₅
      · rw [List.take_add_one, hy]
        exact rv.append (.cons rvy .nil)
  · intro _
    obtain ⟨n0, os1, ba1, un, hok, hC, hDq, nC, nD⟩ := hF
    subst n0
    have e : xs.take i = xs := List.take_of_length_le (by omega)
    rw [e] at rv
    refine done _ us m os1 (allBare_setGen ba1 rfl) (un.trans (Un.kept hkp)) (hok.kept hkp) nC nD ?_ rv ?_
    · obtain ⟨k, e⟩ := hD
      exact ⟨k, hkp _ _ (hDq.trans e)⟩
    · exact hns.at' fun o e => hkp _ _ (hC.trans e)
end
end GenFor
end

-- GenFor5
section
set_option Elab.async false
set_option linter.all false
set_option maxRecDepth 100000
set_option maxHeartbeats 1000000
/-! [x for x in o.m()], m such a generator. -/
namespace GenFor
open PySem PySem.Spec PyProof.Rows L2 GenW
/-- an expression whose value is such a generator that has not begun: what it will hand out -/
structure PGen2 (X : Cx) (k : Nat) (e : Expr) (tg : TGen) : Prop where
  run : ∀ (pins : List (Addr × Obj)) (s : Shared) (σ : L2.St) (H : Hp) (cont : List V → Hp → Prop), Inv X pins σ H s → tg σ H cont → wpAny (model X.prog X.w) X.A (eval e X.env)
    (fun u s' => ∃ H1 sc xs, Inv X pins σ H1 sc ∧ GMade2 X.prog X.w k X.stack H1 sc xs u s' ∧ cont xs H1) X.xe s
def tMethG2 (S : Addr → Prop) (m : Str) (sp : List V → Hp → List V → Prop) (ta : TE) : TGen := fun σ H cont => ta σ H fun x H1 => ∃ a C dx fs xs, x = .ref a ∧ H1 a = some (.ins C dx fs) ∧ S C ∧ fs.lookup m = none ∧ sp [x] H1 xs ∧ cont xs H1
section
variable {X : Cx} {k : Nat} {f : Addr} {fd : FuncData} {ps : List Str} {sp : List V → Hp → List V → Prop} {o : Expr} {m : Str} {apos pos pos' : Pos} {ta : TE} {S : Addr → Prop}
/-- o.m(), of whatever class of ours -/
theorem pgen2_meth0 {pl : Sem Bool} (he : PE X o ta) (c : ∀ C, S C → Cls X.K C ∧ Meth X.K C m f) (F : GFn2 X.prog X.w X.K X.mg X.base k f fd ps sp) (len : ∀ vs H xs, sp vs H xs → vs.length = ps.length) (hr : Room k X.A) (hb : Binds X.K fd ps [])
    (ht : eval (.Call (.Attribute o m apos) [] [] pos') X.env = (do
      let ov ← eval o X.env
      standAt apos.atName
      let (f, first) ← holding [ov] (getMethod ov m pl)
      callWith pos' f first (backTo pos' (starEach [] X.env)) (backToKw pos' (keywordEach [] X.env))) := by rfl) :
    PGen2 X k (.Call (.Attribute o m apos) [] [] pos') (tMethG2 S m sp ta) := by
  constructor
  intro pins s σ H cont I h
  refine PySem.W.methodCall_KW (pl := pl) (thn (he.run pins s σ H _ I h) fun u s1 ⟨x, H1, I1, rx, a, C, dx, fs, xs, ex, ea, hS, l, hsp, hq⟩ => ?_) ht
  subst ex
  obtain rfl : u = Value.ref a := rx
  have hm := (c C hS).2
  refine getmeth_ok I1 ea (c C hS).1 hm l ?_
  refine PySem.W.callWith_K0 (first := [.ref a]) I1.kIn hm.kp ?_
  have hl2 : ([Value.ref a] ++ []).length = ps.length := len _ _ _ hsp
  refine wpAny_call (codeAny_mono (F X.A X.stack s1 H1 ⟨[.ref a], []⟩ ([Value.ref a] ++ []) [V.ref a] xs hr I1.env0 (hb s1 [Value.ref a] I1.kIn hl2) (show Vals [V.ref a] ([Value.ref a] ++ []) from .cons rfl .nil) hsp) fun r s' q => ?_)
  cases r with
  | error e => exact False.elim q
  | ok fl =>
    cases fl with
    | ret u => exact ⟨H1, s1, xs, I1, q, hq⟩
    | next => exact False.elim q
    | brk => exact False.elim q
    | cont => exact False.elim q
def tLcG (tg : TGen) : TE := fun σ H Q => tg σ H fun xs H1 => xs.length ≤ sizeLine ∧ ∀ p, H1 p = none → Q (.ref p) (upd H1 p (.lst xs))
theorem pe_lcG {iter : Expr} {tg : TGen} {x : Str} {q p : Pos} {scope : Scope} {own : List (Str × Nat)} (h : PGen2 X k iter tg) (hc : X.calm = true) (hr : Room (k + 1) X.A) (ok : BlkOk X.N X.env.scope scope own)
    (hx : ∀ (cl : List (Str × Addr)) (C : Addr), (compEnvC scope cl C X.env).kindOf x = some .local) (hdb : (x == ("__debug__" : Str)) = false := by decide) (hs : ∀ x, foldedSetIterable iter X.env x = pure x := by intro _; rfl) :
    PE X (.ListComp (.Name x q) [⟨.Name x p, iter, [], 0⟩] scope pos) (tLcG tg) := by
  constructor
  intro pins s σ H Q I hq
  rw [eval_ListComp]
  have hfree : ∀ y ∈ scope.names, y.2 = .free → ∃ c, X.env.cells.lookup y.1 = some c := fun y hy e => by
    rcases ok.free y hy e with k | k
    · exact I.ok.has _ (.inl k)
    · exact I.ok.has _ (.inr k)
  refine wpAny_comprehension_free (use := none) rfl hs (closure_ok hfree) ok.kind (fun y hy e => by rw [ok.uniq y hy, e])
    (thn (h.run pins s σ H _ I hq) fun u s1 ⟨H1, sc, xs, I1, G, hsz, hQ⟩ => ?_)
  obtain ⟨a, g, c, rfl, ha1, ha2, hgen, hfresh, os, ba, lim, kp, seg⟩ := G
  refine wpAny_pyIter_gen hgen ?_
  refine wpAny_newObj_type (newEnv_comp ?_) (by show 0 ≤ sizeLine; decide)
  generalize hD : s1.heap.objs.size = D
  generalize hs3 : ({ s1 with heap := s1.heap.push { cls := .type "list", data := .seq ([] : List Value).toArray } } : Shared) = s3
  show codeAny _ _ (.compStart (.ListComp (.Name x q) [⟨.Name x p, iter, [], 0⟩] scope pos) 0 (.ref a) (.ref D) (compEnvC scope (cellsFrom (s3.heap.objs.size + 1) scope.names (cloFrom X.env.cells scope.names [])) s3.heap.objs.size X.env)) (compPost (model X.prog X.w) X.A X.xe none (EP X pins σ Q) (.ref D) s3.heap.objs.size) { s3 with heap := pushCells (s3.heap.push { cls := .type "dict", data := .dict #[] }) scope.names }
  have hxe := hx (cellsFrom (s3.heap.objs.size + 1) scope.names (cloFrom X.env.cells scope.names [])) s3.heap.objs.size
  have kce : (compEnvC scope (cellsFrom (s3.heap.objs.size + 1) scope.names (cloFrom X.env.cells scope.names [])) s3.heap.objs.size X.env).scope.kind = .function := ok.kind
  generalize hce : compEnvC scope (cellsFrom (s3.heap.objs.size + 1) scope.names (cloFrom X.env.cells scope.names [])) s3.heap.objs.size X.env = ce at hxe kce ⊢
  have cL : ce.locals = s3.heap.objs.size := by subst hce; rfl
  have h3 : s3.heap = s1.heap.push { cls := .type "list", data := .seq ([] : List Value).toArray } := by rw [← hs3]
  have g3 : s3.gens = s1.gens := by rw [← hs3]
  have o3 : s3.os = s1.os := by rw [← hs3]
  have szC : s3.heap.objs.size = D + 1 := by rw [h3, Heap.size_push, hD]
  generalize hC : s3.heap.objs.size = C at cL szC ⊢
  have k3 : ∀ b o, s1.heap.get? b = some o → s3.heap.get? b = some o := fun b o e => by rw [h3]; exact Heap.get?_push_of_some _ e
  have k4 : ∀ b o, s3.heap.get? b = some o → (pushCells (s3.heap.push { cls := .type "dict", data := .dict #[] }) scope.names).get? b = some o := fun b o e => pushCells_keeps _ _ _ _ (Heap.get?_push_of_some _ e)
  have eC : (pushCells (s3.heap.push { cls := .type "dict", data := .dict #[] }) scope.names).get? C = some { cls := .type "dict", data := .dict #[] } := by
    rw [← hC]
    exact pushCells_keeps _ _ _ _ (Heap.get?_push_size _ rfl)
  have eD3 : s3.heap.get? D = some { cls := .type "list", data := .seq ([] : List Value).toArray } := by
    rw [h3, ← hD]
    exact Heap.get?_push_size _ rfl
  have eD := k4 _ _ eD3
  have kp4 : ∀ b o, s1.heap.get? b = some o → (pushCells (s3.heap.push { cls := .type "dict", data := .dict #[] }) scope.names).get? b = some o := fun b o e => k4 b o (k3 b o e)
  have aD : a < D := by rw [← hD]; exact ha2
  have stat : cStatics < D := by
    obtain ⟨mc, hns, _⟩ := id lim
    rw [← hD]
    exact hns.lt
  have scD : sc.heap.objs.size ≤ D := by rw [← hD]; exact Nat.le_trans ha1 (Nat.le_of_lt ha2)
  have DC : D < C := by rw [szC]; exact Nat.lt_succ_self _
  have aC : a < C := Nat.lt_trans aD DC
  have tC : cStatics < C := Nat.lt_trans stat DC
  generalize hs4 : ({ s3 with heap := pushCells (s3.heap.push { cls := .type "dict", data := .dict #[] }) scope.names } : Shared) = s4
  have h4 : s4.heap = pushCells (s3.heap.push { cls := .type "dict", data := .dict #[] }) scope.names := by rw [← hs4]
  have g4 : s4.gens = s1.gens := by rw [← hs4]; exact g3
  have o4 : s4.os = sc.os := by rw [← hs4]; exact o3.trans os
  rw [← h4] at eC eD kp4
  have ns4 : s4.heap.Ns C (fun _ => none) := ⟨_, _, _, eC, rfl, (fun e he => by simp at he), fun _ => rfl⟩
  have start : Turns X.prog X.w X.A X.stack H1 sc C D a g xs xs.length s4 := by
    refine ⟨0, [], _, Nat.zero_add _, hgen.keeps kp4, lim.keeps kp4, ⟨.fresh c, by rw [g4]; exact hfresh, rfl, ?_⟩, ⟨_, eD⟩, .nil, ns4⟩
    refine seg X.A.in1 C D (s4.setGen g .running) hr.in1 I1.ok.frames (by rw [hD, szC]; exact Nat.le_succ _) (Nat.le_of_eq hD) (fun b o e => kp4 b o e) ⟨_, eC, fun v z => by cases z⟩ ⟨_, eD, fun v z => by cases z⟩ o4 (allBare_setGen (by rw [g4]; exact ba) rfl)
  have loop : codeAny (model X.prog X.w) X.A (.compLoop (.ListComp (.Name x q) [⟨.Name x p, iter, [], 0⟩] scope pos) 0 (.ref a) (.ref D) ce) (compPost (model X.prog X.w) X.A X.xe none (EP X pins σ Q) (.ref D) C) s4 := by
    refine comp_gen (I1.ok.hd hc) hr.depth cL kce hxe (by rw [kce]; rfl) hdb (Nat.ne_of_gt DC) (Nat.ne_of_gt aC) (Nat.ne_of_gt aD) (Nat.ne_of_gt tC) (Nat.ne_of_gt stat) hsz (fun s' us m os' ba' un hok nC nD hl rv hns => ?_) xs.length start
    obtain ⟨kk, hl⟩ := hl
    have rv' : Vals xs us.toArray.toList := rv
    have I5 : Inv X pins σ (upd H1 D (.lst xs)) s' := I1.drained (ex := []) scD hsz hl rv' .nil os' ba' un hok nD
    have fC : FpOk X pins (upd H1 D (.lst xs)) C := I1.fpOk (Nat.le_trans scD (Nat.le_of_lt DC)) (by rw [upd_ne (Nat.ne_of_gt DC)]; exact nC)
    obtain ⟨f0, f1, f2, f3, f4, f5⟩ := fC
    exact ⟨m, hns, fun h'' sb => ⟨.ref D, _, I5.turned (t' := s'.toks) (fun b o hb e => (sb.2 b hb).trans e) f0 f1 f3 f4 f5, rfl, hQ D nD⟩⟩
  exact codeAny_compStart_list loop (wpAny_pyIter_gen (hgen.keeps kp4) loop)
end
end GenFor
end

-- V6m
section
set_option Elab.async false
set_option linter.all false
set_option maxRecDepth 100000
set_option exponentiation.threshold 10000
namespace SupX
open PySem PySem.Spec PyProof.Rows L2
/-- e.f, a property of whatever class of ours -/
def tPropC (S : Addr → Prop) (sp : Sp) (E : XK) (ta : TE) : TE := fun σ H Q => ta σ H fun x H1 => ∃ a C dx fs, x = .ref a ∧ H1 a = some (.ins C dx fs) ∧ S C ∧ sp [.ref a] H1 Q E
section
variable {X : Cx} {CX : CXT} {k : Nat} {p g : Addr} {f : Str} {fd : FuncData} {ps : List Str} {sp : Sp} {E : XK} {e : Expr} {pos : Pos} {ta : TE} {S : Addr → Prop}
theorem pe_propC (he : PE X e ta) (c : ∀ C, S C → Cls X.K C ∧ PropOf X.K C f p g) (F : FnOk X.prog X.w X.K X.mg X.base CX k g fd ps sp) (hr : Room (k + 1) X.A) (hb : L2.Binds X.K fd ps []) (hx : Passes CX X.nox E)
    (hab : attributeBase e f X.env (eval e X.env) = eval e X.env) : PE X (.Attribute e f pos) (tPropC S sp E ta) := by
  constructor
  intro pins s σ H Q I h
  refine attr_of hab (thn (he.run pins s σ H _ I h) fun u s1 ⟨x, H1, I1, rx, a, C, dx, fs, ex, ea, hS, q⟩ => ?_)
  subst ex
  cases rx
  exact getprop_ok I1 ea (c C hS).1 (c C hS).2 F hr hb .nil hx q
end
end SupX
namespace V4
open PySem L2 OwnOps OwnNe G1 StX SupX GenFor
/-! exchanges, text, == of kinds of blocks -/
def tEither (ta tb : TE) : TE := fun σ H Q => ta σ H Q ∨ tb σ H Q
theorem pe_either {X : Cx} {e : Expr} {ta tb : TE} (h1 : PE X e ta) (h2 : PE X e tb) : PE X e (tEither ta tb) := ⟨fun pins s σ H Q I h => h.elim (h1.run pins s σ H Q I) (h2.run pins s σ H Q I)⟩
/-- a class of kinds, by what is asked of its instances -/
structure KndC (K : PySem.W.Frag) (DK tp tg C : Addr) : Prop where
  kc : KCls K C
  tx : PropOf K C "text" tp tg
  ha : PySem.W.findIn K (.ref C) "__class__" = some (some (.builtin "object.__class__"))
  hm : PySem.W.mroIn K C (.type "object") = some true
  kK : PySem.W.kitOne K (.ref C) (.ref DK) = some true
structure KndT (K : PySem.W.Frag) (mg : Str → Option Value) (DK : Addr) : Prop where
  gK : mg "Kind" = some (.ref DK)
  hn : PySem.W.specialIn K (.builtin "object.__class__") "__get__" = some (some (.builtin "getset_descriptor.__get__"))
  htk : PySem.W.takesIn K (.builtin "object.__class__") = some true
  ksK : PySem.W.kitOne K (.type "str") (.ref DK) = some false
  knK : PySem.W.kitOne K (.type "NoneType") (.ref DK) = some false
/-- an instance of that class, by its line -/
def LnI (H : Hp) (C p : Addr) (l : Str) : Prop := ∃ dx fs, H p = some (.ins C dx fs) ∧ fs.lookup ("_line" : Str) = some (.str l)
theorem LnI.same {H H' : Hp} {C p : Addr} {l : Str} (h : LnI H C p l) (s : Same H H') : LnI H' C p l := let ⟨dx, fs, a, b⟩ := h; ⟨dx, fs, s _ _ a, b⟩
section
variable {P : Program} {w : World} {K : PySem.W.Frag} {mg : Str → Option Value} {base : Heap} {DK tp tg BK tb gb PK : Addr}
def spExch (K : PySem.W.Frag) : List V → Hp → List V → Prop := fun vs H xs => ∃ p C dx fs oa, vs = [.ref p] ∧ H p = some (.ins C dx fs) ∧ KCls K C ∧ fs.lookup ("orders" : Str) = some (.ref oa) ∧ SqT K H oa xs
theorem ok_exch {f : Addr} {fd : FuncData} (F : Fun K "exchanges" "BlockKind.exchanges" (sBK 2) f fd) : GFn2 P w K mg base 1 f fd ["self"] (spExch K) := by
  obtain ⟨oc, od, kV, doc, pm, an, cdv, ct, osl, rfl, lk, hcd⟩ := F.ex
  have S : GScope ["self", "order"] ["self"] (defScope (sBK 2)) := ⟨rfl, rfl, rfl, by decide +kernel, rfl, by decide +kernel, by decide +kernel⟩
  refine gen2_of (k := 0) (N := ["self", "order"]) (j := 1) lk hcd S (fun vs H xs h => ?_) (by decide) (fun _ _ => rfl) (fun _ _ => rfl) (fun A outer s H vs xs pn hr h => ?_)
  · obtain ⟨p, C, dx, fs, oa, rfl, _⟩ := h
    rfl
  · obtain ⟨p, C, dx, fs, oa, rfl, hp, kc, lk', hq⟩ := h
    refine ⟨_, oa, pi_tup (pe_fld (pv 0) rfl), pg_name (i := 1) S.nd rfl (Or.inl rfl), pv 1, ?_, hq⟩
    exact ⟨_, rfl, p, C, dx, fs, _, rfl, hp, kc.cl, kc.n5, lk', oa, rfl, ⟨_, hq⟩, rfl, rfl⟩
def spText (K : PySem.W.Frag) (C : Addr) : Sp := fun vs H Q _ => ∃ p l, vs = [.ref p] ∧ LnI H C p l ∧ Q (.str l) H
theorem ok_text {f C : Addr} {fd : FuncData} (F : Fun K "text" "Kind.text" (sKi 4) f fd) (kc : KCls K C) : FnOk P w K mg base (L2.CX P w) 1 f fd ["self"] (spText K C) := by
  have sc : FnScope ["self"] ["self"] (defScope (sKi 4)) := ⟨rfl, rfl, rfl, by decide +kernel, rfl, by decide +kernel, by decide +kernel⟩
  refine F.okX sc (fun vs H Q E h => ?_) (fun cdv A outer s H vs Q E hr h => ?_)
  · obtain ⟨p, l, rfl, _⟩ := h
    rfl
  · obtain ⟨p, l, rfl, ⟨dx, fs, hp, lk⟩, k⟩ := h
    exact ⟨_, pss_one (ps_ret (pe_fld (pv 0) rfl)), _, rfl, p, C, dx, fs, _, rfl, hp, kc.cl, kc.n6, lk, k⟩
theorem ok_btext {f C : Addr} {fd : FuncData} (F : Fun K "text" "BlockKind.text" (sBK 1) f fd) (kc : KCls K C) : FnOk P w K mg base (L2.CX P w) 1 f fd ["self"] (spText K C) := by
  have sc : FnScope ["self"] ["self"] (defScope (sBK 1)) := ⟨rfl, rfl, rfl, by decide +kernel, rfl, by decide +kernel, by decide +kernel⟩
  refine F.okX sc (fun vs H Q E h => ?_) (fun cdv A outer s H vs Q E hr h => ?_)
  · obtain ⟨p, l, rfl, _⟩ := h
    rfl
  · obtain ⟨p, l, rfl, ⟨dx, fs, hp, lk⟩, k⟩ := h
    exact ⟨_, pss_one (ps_ret (pe_fld (pv 0) rfl)), _, rfl, p, C, dx, fs, _, rfl, hp, kc.cl, kc.n6, lk, k⟩
/-- == of a kind of blocks and something else -/
def spKEq (BK PK : Addr) : Sp := fun vs H Q _ => ∃ p l v, vs = [.ref p, v] ∧ LnI H BK p l ∧ ((∃ q l', v = .ref q ∧ (LnI H BK q l' ∨ LnI H PK q l') ∧ Q (.bl (decide (l = l'))) H) ∨ ((v = .non ∨ ∃ z, v = .str z) ∧ Q (.bl false) H))
theorem ok_keq {f : Addr} {fd gbd gpd : FuncData} (F : Fun K "__eq__" "Kind.__eq__" (sKi 5) f fd) (T : Bi mg) (U : KndT K mg DK) (cB : KndC K DK tb gb BK) (cP : KndC K DK tp tg PK)
    (GB : FnOk P w K mg base (L2.CX P w) 1 gb gbd ["self"] (spText K BK)) (bB : L2.Binds K gbd ["self"] []) (GP : FnOk P w K mg base (L2.CX P w) 1 tg gpd ["self"] (spText K PK)) (bP : L2.Binds K gpd ["self"] []) :
    FnOk P w K mg base (L2.CX P w) 3 f fd ["self", "other"] (spKEq BK PK) := by
  have sc : FnScope ["self", "other"] ["self", "other"] (defScope (sKi 5)) := ⟨rfl, rfl, rfl, by decide +kernel, rfl, by decide +kernel, by decide +kernel⟩
  refine F.okX sc (fun vs H Q E h => ?_) (fun cdv A outer s H vs Q E hr h => ?_)
  · obtain ⟨p, l, v, rfl, _⟩ := h
    rfl
  · obtain ⟨p, l, v, rfl, kp, k⟩ := h
    have c1 : ∀ C, C = BK → Cls K C ∧ PropOf K C "text" tb gb := fun C h => by subst h; exact ⟨cB.kc.cl, cB.tx⟩
    have c2 : ∀ C, C = PK → Cls K C ∧ PropOf K C "text" tp tg := fun C h => by subst h; exact ⟨cP.kc.cl, cP.tx⟩
    refine ⟨_, pss_one (ps_ret (pe_and (pe_callB call_isi (by rfl) T.isi (by decide +kernel) (pa_cons (pv 1) (pa_cons (pe_glob (v := .ref DK) (by rfl) U.gK rfl) pa_nil))) (pe_one (pe_cmpR op_eq (pe_propC (S := fun C => C = BK) (E := E0) (pv 0) c1 GB hr bB passL rfl)
      (pe_either (pe_propC (S := fun C => C = BK) (E := E0) (pv 1) c1 GB hr bB passL rfl) (pe_propC (S := fun C => C = PK) (E := E0) (pv 1) c2 GP hr bP passL rfl)) (nomark _))))), ?_⟩
    rcases k with ⟨q, l', rfl, kq, k⟩ | ⟨hv, k⟩
    · have e : decide (V.str l = V.str l') = decide (l = l') := by rw [decide_eq_decide]; exact ⟨fun h => V.str.inj h, fun h => by rw [h]⟩
      rw [← e] at k
      obtain ⟨dx, fs, hp, lk⟩ := id kp
      rcases kq with kq | kq
      · obtain ⟨dy, gs, hq, lk'⟩ := id kq
        exact ⟨_, rfl, _, _, _, _, _, rfl, .own DK, .base (.ins hq cB.kc.cl cB.ha U.hn U.htk cB.hm), cB.kK, _, rfl, iteT ⟨_, rfl, p, BK, dx, fs, rfl, hp, rfl, p, l, rfl, kp, .inl ⟨_, rfl, q, BK, dy, gs, rfl, hq, rfl, q, l', rfl, kq, rfl, k⟩⟩⟩
      · obtain ⟨dy, gs, hq, lk'⟩ := id kq
        exact ⟨_, rfl, _, _, _, _, _, rfl, .own DK, .base (.ins hq cP.kc.cl cP.ha U.hn U.htk cP.hm), cP.kK, _, rfl, iteT ⟨_, rfl, p, BK, dx, fs, rfl, hp, rfl, p, l, rfl, kp, .inr ⟨_, rfl, q, PK, dy, gs, rfl, hq, rfl, q, l', rfl, kq, rfl, k⟩⟩⟩
    · rcases hv with rfl | ⟨z, rfl⟩
      · exact ⟨_, rfl, _, _, _, _, _, rfl, .own DK, .base .non, U.knK, _, rfl, iteF k⟩
      · exact ⟨_, rfl, _, _, _, _, _, rfl, .own DK, .base (.str z), U.ksK, _, rfl, iteF k⟩
end
theorem BlkI.ln {H : Hp} {p C dx : Addr} {x : Str} {ps : List Str} (h : BlkI H p C dx x ps) : LnI H C p (blkT x ps) := by
  obtain ⟨pa, ca, oa, o1, h1, _⟩ := h.ex
  refine ⟨dx, _, h1, ?_⟩
  have := kf_line' (.str x) (.ref pa) (.ref ca) (.bl false) (.ref oa) (.str (blkT x ps)) []
  rw [List.append_nil] at this
  exact this
end V4
end

-- V6n
section
set_option Elab.async false
set_option linter.all false
set_option maxRecDepth 100000
set_option exponentiation.threshold 10000
namespace V4
open PySem L2 OwnOps OwnNe G1 StX SupX GenFor
def LyN (n : Nat) (d : PyData) : Prop := d.canLay0 = true ∧ d.depth ≤ n
def LyA (n : Nat) (ds : List PyData) : Prop := PyData.canLayAll0 ds = true ∧ PyData.depthAll ds ≤ n
theorem LyA.nil {n : Nat} : LyA n [] := ⟨by simp [PyData.canLayAll0], by simp [PyData.depthAll]⟩
theorem LyA.cons {n : Nat} {d : PyData} {ds : List PyData} (h : LyN n d) (t : LyA n ds) : LyA n (d :: ds) := by
  refine ⟨?_, ?_⟩
  · simp only [PyData.canLayAll0, h.1, t.1, Bool.and_self]
  · have h1 := h.2
    have h2 := t.2
    simp only [PyData.depthAll]
    omega
theorem LyN.lst {n : Nat} {ds : List PyData} (h : LyA n ds) : LyN (n + 1) (.list ds) := by
  refine ⟨by simp only [PyData.canLay0, h.1], ?_⟩
  have h1 := h.2
  simp only [PyData.depth]
  omega
theorem LyN.tup {n : Nat} {ds : List PyData} (h : LyA n ds) : LyN (n + 1) (.tuple ds) := by
  refine ⟨by simp only [PyData.canLay0, h.1], ?_⟩
  have h1 := h.2
  simp only [PyData.depth]
  omega
theorem LyN.mono {n m : Nat} {d : PyData} (h : LyN n d) (le : n ≤ m) : LyN m d := ⟨h.1, Nat.le_trans h.2 le⟩
theorem LyN.str {n : Nat} {x : Str} (h : PyData.strOk x = true) : LyN n (.str x) := ⟨by simp only [PyData.canLay0, h], by simp [PyData.depth]⟩
theorem LyN.shp {n : Nat} {d : PyData} (h : LyN n d) (le : n ≤ 64) : SeqAt.shaped d = true := by
  show (d.canLay0 && decide (d.depth ≤ 64)) = true
  rw [Bool.and_eq_true]
  exact ⟨h.1, decide_eq_true (Nat.le_trans h.2 le)⟩
theorem LyN.ne {n : Nat} {d : PyData} (h : LyN n d) : (!PyData.eqv d d) = false := by rw [SeqAt.eqv_refl d h.1]; rfl
theorem LyN.eq {n : Nat} {d : PyData} (h : LyN n d) : PyData.eqv d d = true := SeqAt.eqv_refl d h.1
theorem LyN.non {n : Nat} : LyN n .none := ⟨by simp [PyData.canLay0], by simp [PyData.depth]⟩
theorem LyN.int {n : Nat} {i : Int} : LyN n (.int i) := ⟨by simp [PyData.canLay0], by simp [PyData.depth]⟩
/-- a text or None, as data -/
def dv : V → PyData
  | .str x => .str x
  | _ => .none
def Fl (v : V) : Prop := v = .non ∨ ∃ x, v = .str x ∧ PyData.strOk x = true
theorem Tx.fl {v : V} (h : Tx v) : Fl v := by
  cases h with
  | good x w n =>
    refine .inr ⟨x, rfl, ?_⟩
    unfold PyData.strOk
    rw [Array.all_eq_true_iff_forall_mem]
    intro c hc
    have := (low_ok.2.2.2 c (w.all c (by simpa using hc))).1
    exact decide_eq_true (by omega)
  | odd v h =>
    have k := (odds_ok.2.2 v h).2
    simp only [odds, List.mem_cons, List.not_mem_nil, or_false] at h
    rcases h with rfl | rfl | rfl | rfl | rfl | rfl | rfl
    case inr.inr.inr.inr.inr.inl => exact .inl rfl
    all_goals exact .inr ⟨_, rfl, (k _ rfl).2⟩
theorem Fl.ly {v : V} (h : Fl v) : LyN 0 (dv v) := by
  rcases h with rfl | ⟨x, rfl, e⟩
  · exact .non
  · exact .str e
theorem Fl.dp {K : PySem.W.Frag} {H : Hp} {v : V} (h : Fl v) : Dp K H v (dv v) := by
  rcases h with rfl | ⟨x, rfl, e⟩
  · exact .non
  · exact .str x
theorem fls_ly : ∀ {xs : List V}, (∀ y ∈ xs, Fl y) → LyA 0 (xs.map dv)
  | [], _ => .nil
  | x :: xs, h => .cons (h x List.mem_cons_self).ly (fls_ly fun y hy => h y (List.mem_cons_of_mem _ hy))
theorem fls_dp {K : PySem.W.Frag} {H : Hp} : ∀ {xs : List V}, (∀ y ∈ xs, Fl y) → DpAll K H xs (xs.map dv)
  | [], _ => .nil
  | x :: xs, h => .cons (h x List.mem_cons_self).dp (fls_dp fun y hy => h y (List.mem_cons_of_mem _ hy))
theorem dv_eq {v u : V} (h : Fl v) (k : Fl u) : PyData.eqv (dv v) (dv u) = decide (v = u) := by
  rcases h with rfl | ⟨x, rfl, _⟩ <;> rcases k with rfl | ⟨y, rfl, _⟩
  · simp [dv, PyData.eqv]
  · simp [dv, PyData.eqv]
  · simp [dv, PyData.eqv]
  · show PyData.eqv (.str x) (.str y) = _
    simp only [PyData.eqv]
    rw [Bool.eq_iff_iff, beq_iff_eq, decide_eq_true_eq]
    exact ⟨fun h => by rw [h], fun h => V.str.inj h⟩
theorem fls_eq : ∀ {xs ys : List V}, (∀ y ∈ xs, Fl y) → (∀ y ∈ ys, Fl y) → PyData.eqvAll (xs.map dv) (ys.map dv) = decide (xs = ys)
  | [], [], _, _ => rfl
  | [], y :: ys, _, _ => rfl
  | x :: xs, [], _, _ => rfl
  | x :: xs, y :: ys, h, k => by
    rw [List.map_cons, List.map_cons, PyData.eqvAll, dv_eq (h x List.mem_cons_self) (k y List.mem_cons_self), fls_eq (fun z hz => h z (List.mem_cons_of_mem _ hz)) (fun z hz => k z (List.mem_cons_of_mem _ hz))]
    rw [Bool.eq_iff_iff, Bool.and_eq_true, decide_eq_true_eq, decide_eq_true_eq, decide_eq_true_eq, List.cons.injEq]
theorem made_same {H H' : Hp} {q dx C p : Addr} {o : HO} (hq : H q = none) (hd : H dx = none) (ne : dx ≠ q) (hp : (upd (upd H dx (.own q)) q (.ins C dx [])) p = none) (sx : SameX q (upd (upd (upd H dx (.own q)) q (.ins C dx [])) p o) H') : Same H H' := fun b u e => by
  refine sx b u (ne_of_none e hq) ?_
  have h1 : (upd (upd H dx (.own q)) q (.ins C dx [])) b = some u := by
    rw [upd_ne (ne_of_none e hq), upd_ne (ne_of_none e hd)]
    exact e
  rw [upd_ne (ne_of_none h1 hp)]
  exact h1
theorem made_at {H : Hp} {q dx C p : Addr} {o : HO} (hp : (upd (upd H dx (.own q)) q (.ins C dx [])) p = none) : (upd (upd (upd H dx (.own q)) q (.ins C dx [])) p o) q = some (.ins C dx []) := by
  have h1 : (upd (upd H dx (.own q)) q (.ins C dx [])) q = some (.ins C dx []) := upd_same
  rw [upd_ne (ne_of_none h1 hp)]
  exact h1
section
variable {K : PySem.W.Frag} {H : Hp} {Q : VK} {E : XK} {CN CK DB gK C : Addr}
theorem made_up {q dx p : Addr} {o : HO} (hq : H q = none) (hd : H dx = none) (hp : (upd (upd H dx (.own q)) q (.ins C dx [])) p = none) : Same H (upd (upd (upd H dx (.own q)) q (.ins C dx [])) p o) := fun b u e => by
  have h1 : (upd (upd H dx (.own q)) q (.ins C dx [])) b = some u := by
    rw [upd_ne (ne_of_none e hq), upd_ne (ne_of_none e hd)]
    exact e
  rw [upd_ne (ne_of_none h1 hp)]
  exact h1
/-- what comes of making a kind of blocks -/
def OutB (CN CK C : Addr) (H : Hp) (v : V) (rest : List V) (Q : VK) (E : XK) : Prop :=
  (wdV v = false ∧ ∀ e H', Same H H' → H' e = some (xd v) → E (.ref CN) (some e) H') ∨
  (wdV v = true ∧ blkB rest = false ∧ ∀ e ca H', Same H H' → H' ca = some (.tup rest) → H' e = some (xd (.ref ca)) → E (.ref CK) (some e) H') ∨
  ∃ x ps, v = .str x ∧ rest = ps.map V.str ∧ wd x = true ∧ blkB rest = true ∧ (∀ y ∈ ps, y.length ≤ 12) ∧ ∀ q dx H', Same H H' → H q = none → BlkI H' q C dx x ps → Q (.ref q) H'
theorem OutB.same {v : V} {rest : List V} {H1 : Hp} (h : OutB CN CK C H v rest Q E) (s : Same H H1) : OutB CN CK C H1 v rest Q E := by
  rcases h with ⟨a, k⟩ | ⟨a, b, k⟩ | ⟨x, ps, a, b, c, d, f, k⟩
  · exact .inl ⟨a, fun e H' s' => k e H' (s.trans s')⟩
  · exact .inr (.inl ⟨a, b, fun e ca H' s' => k e ca H' (s.trans s')⟩)
  · exact .inr (.inr ⟨x, ps, a, b, c, d, f, fun q dx H' s' n => k q dx H' (s.trans s') (Same.none s n)⟩)
theorem mk_blk {q dx : Addr} {v : V} {rest : List V} (hq : H q = none) (hd : H dx = none) (ne : dx ≠ q) (kc : KCls K C) (so : SupAt K C DB "__init__" gK) (av : Av H v ∧ Shr v) (its : ∀ y ∈ rest, Av H y ∧ Shr y) (n6 : rest.length ≤ 6) (k : OutB CN CK C H v rest Q E) :
    saBlk K CN CK DB gK (.ref q :: v :: rest) [] (upd (upd H dx (.own q)) q (.ins C dx [])) (fun y H2 => y = .non ∧ Q (.ref q) H2) E := by
  have line : 1000 ≤ sizeLine := by decide
  refine ⟨_, _, _, rfl, rfl, by omega, fun p hp => ?_⟩
  have up := made_up (C := C) (o := .tup rest) hq hd hp
  refine ⟨q, dx, C, p, v, rest, rfl, made_at hp, upd_same, kc, so, av.1.same up, av.2, n6, fun y hy => ⟨(its y hy).1.same up, (its y hy).2⟩, ?_⟩
  have npq : p ≠ q := fun z => by rw [z, upd_same] at hp; cases hp
  rcases k with ⟨a, k⟩ | ⟨a, b, k⟩ | ⟨x, ps, a, b, c, d, f, k⟩
  · exact .inl ⟨a, fun e H' sx he => k e H' (made_same hq hd ne hp sx) he⟩
  · exact .inr (.inl ⟨a, b, fun e H' sx he => k e p H' (made_same hq hd ne hp sx) (sx p _ npq upd_same) he⟩)
  · exact .inr (.inr ⟨x, ps, a, b, c, d, f, fun H' sx bi => ⟨rfl, k q dx H' (made_same hq hd ne hp sx) hq bi⟩⟩)
end
end V4
end

-- V6o
section
set_option Elab.async false
set_option linter.all false
set_option maxRecDepth 100000
set_option exponentiation.threshold 10000
namespace V4
open PySem L2 OwnOps OwnNe G1 StX SupX GenFor
/-! _law_made -/
abbrev sMade : Stmt := top 76
section
variable {P : Program} {w : World} {K : PySem.W.Frag} {mg : Str → Option Value} {base : Heap} {CN CK DB gK BK fB : Addr}
def spMade (K : PySem.W.Frag) (CN CK BK : Addr) : Sp := fun vs H Q E => ∃ a v rest, vs = [v, .ref a] ∧ SqL K H a rest ∧ rest.length ≤ 6 ∧ (Av H v ∧ Shr v) ∧ (∀ y ∈ rest, Av H y ∧ Shr y) ∧ (∀ y ∈ rest, Fl y) ∧ OutB CN CK BK H v rest Q E
set_option maxHeartbeats 2000000 in
theorem ok_made {f : Addr} {fd : FuncData} (F : Fun K "_law_made" "_law_made" sMade f fd) (T : Bi mg) (gB : mg "BlockKind" = some (.ref BK)) (MB : Mk K BK fB) (kc : KCls K BK) (so : SupAt K BK DB "__init__" gK) (FB : FnA P w K mg base (L2.CX P w) 5 fB (saBlk K CN CK DB gK)) :
    FnOk P w K mg base (L2.CX P w) 8 f fd ["_law_name", "_law_ports"] (spMade K CN CK BK) := by
  have sc : FnScope ["_law_name", "_law_ports"] ["_law_name", "_law_ports"] (defScope sMade) := ⟨rfl, rfl, rfl, by decide +kernel, rfl, by decide +kernel, by decide +kernel⟩
  refine F.okX sc (fun vs H Q E h => ?_) (fun cdv A outer s H vs Q E hr h => ?_)
  · obtain ⟨a, v, rest, rfl, _⟩ := h
    rfl
  · obtain ⟨a, v, rest, rfl, hS, n6, av, its, fl, k⟩ := h
    have pE : Passes (L2.CX P w) (cxOf (L2.CX P w) P w K mg base ["_law_name", "_law_ports"] "_law_made" (defScope sMade) f cdv A outer s H E) E := passes_call (takes_of rfl rfl rfl rfl) (fun _ _ _ _ h => h)
    refine ⟨_, pss_cons (ps_if (pt_cmpR (op_eqD hr.units) (pv 1) (pe_lst pa_nil) (nomark _)) (pss_one (ps_ret (SupX.pe_makeA0 (E := E) MB FB (hr.mono (by decide)) (by rfl) gB pE (pa_cons (pv 0) pa_nil)))) pss_nil)
      (pss_cons (ps_if (pt_cmpR op_eq (pe_callB call_len_seq (by rfl) T.len PySem.boot_len (pa_cons (pv 1) pa_nil)) pe_int (nomark _)) (pss_one (ps_ret (SupX.pe_makeA0 (E := E) MB FB (hr.mono (by decide)) (by rfl) gB pE (pa_cons (pv 0) (pa_cons (pe_ix ix_list (pv 1) pe_int (fun _ _ => rfl)) pa_nil))))) pss_nil)
      (pss_cons (ps_if (pt_cmpR op_eq (pe_callB call_len_seq (by rfl) T.len PySem.boot_len (pa_cons (pv 1) pa_nil)) pe_int (nomark _)) (pss_one (ps_ret (SupX.pe_makeA0 (E := E) MB FB (hr.mono (by decide)) (by rfl) gB pE (pa_cons (pv 0) (pa_cons (pe_ix ix_list (pv 1) pe_int (fun _ _ => rfl)) (pa_cons (pe_ix ix_list (pv 1) pe_int (fun _ _ => rfl)) pa_nil)))))) pss_nil)
      (pss_cons (ps_if (pt_cmpR op_eq (pe_callB call_len_seq (by rfl) T.len PySem.boot_len (pa_cons (pv 1) pa_nil)) pe_int (nomark _)) (pss_one (ps_ret (SupX.pe_makeA0 (E := E) MB FB (hr.mono (by decide)) (by rfl) gB pE (pa_cons (pv 0) (pa_cons (pe_ix ix_list (pv 1) pe_int (fun _ _ => rfl)) (pa_cons (pe_ix ix_list (pv 1) pe_int (fun _ _ => rfl)) (pa_cons (pe_ix ix_list (pv 1) pe_int (fun _ _ => rfl)) pa_nil))))))) pss_nil)
      (pss_cons (ps_if (pt_cmpR op_eq (pe_callB call_len_seq (by rfl) T.len PySem.boot_len (pa_cons (pv 1) pa_nil)) pe_int (nomark _)) (pss_one (ps_ret (SupX.pe_makeA0 (E := E) MB FB (hr.mono (by decide)) (by rfl) gB pE (pa_cons (pv 0) (pa_cons (pe_ix ix_list (pv 1) pe_int (fun _ _ => rfl)) (pa_cons (pe_ix ix_list (pv 1) pe_int (fun _ _ => rfl)) (pa_cons (pe_ix ix_list (pv 1) pe_int (fun _ _ => rfl)) (pa_cons (pe_ix ix_list (pv 1) pe_int (fun _ _ => rfl)) pa_nil)))))))) pss_nil)
      (pss_cons (ps_if (pt_cmpR op_eq (pe_callB call_len_seq (by rfl) T.len PySem.boot_len (pa_cons (pv 1) pa_nil)) pe_int (nomark _)) (pss_one (ps_ret (SupX.pe_makeA0 (E := E) MB FB (hr.mono (by decide)) (by rfl) gB pE (pa_cons (pv 0) (pa_cons (pe_ix ix_list (pv 1) pe_int (fun _ _ => rfl)) (pa_cons (pe_ix ix_list (pv 1) pe_int (fun _ _ => rfl)) (pa_cons (pe_ix ix_list (pv 1) pe_int (fun _ _ => rfl)) (pa_cons (pe_ix ix_list (pv 1) pe_int (fun _ _ => rfl)) (pa_cons (pe_ix ix_list (pv 1) pe_int (fun _ _ => rfl)) pa_nil))))))))) pss_nil)
      (pss_one (ps_ret (SupX.pe_makeA0 (E := E) MB FB (hr.mono (by decide)) (by rfl) gB pE (pa_cons (pv 0) (pa_cons (pe_ix ix_list (pv 1) pe_int (fun _ _ => rfl)) (pa_cons (pe_ix ix_list (pv 1) pe_int (fun _ _ => rfl)) (pa_cons (pe_ix ix_list (pv 1) pe_int (fun _ _ => rfl)) (pa_cons (pe_ix ix_list (pv 1) pe_int (fun _ _ => rfl)) (pa_cons (pe_ix ix_list (pv 1) pe_int (fun _ _ => rfl)) (pa_cons (pe_ix ix_list (pv 1) pe_int (fun _ _ => rfl)) pa_nil))))))))))))))), ?_⟩
    have wN : ∀ {i j : Int}, i ≠ j → decide (V.int i = V.int j) = false := fun h => decide_eq_false fun z => h (V.int.inj z)
    refine ⟨_, rfl, (by show 0 ≤ sizeLine; exact Nat.zero_le _), fun p0 np0 => ?_⟩
    have s0 : Same H (upd H p0 (.lst [])) := same_upd np0
    have e0 : (upd H p0 (.lst [])) p0 = some (.lst []) := upd_same
    have hS1 := s0.seq hS
    have av1 : Av (upd H p0 (.lst [])) v ∧ Shr v := ⟨av.1.same s0, av.2⟩
    have its1 : ∀ y ∈ rest, Av (upd H p0 (.lst [])) y ∧ Shr y := fun y hy => ⟨(its y hy).1.same s0, (its y hy).2⟩
    have k1 := k.same s0
    generalize upd H p0 (.lst []) = H1 at e0 hS1 av1 its1 k1 ⊢
    refine ⟨.list (rest.map dv), .list [], .lst hS1 (fls_dp fl), .lst (SqL.of e0) .nil, (LyN.lst (fls_ly fl)).shp (by decide), by decide +kernel, _, rfl, ?_⟩
    clear k its hS
    match rest, hS1, its1, n6, k1, fl with
    | [], hS1, its1, n6, k1, fl =>
      exact if_pos' rfl ⟨_, rfl, rfl, fun q dq hq hd ne => mk_blk hq hd ne kc so av1 its1 n6 k1⟩
    | [x0], hS1, its1, n6, k1, fl =>
      refine if_neg' rfl ?_
      exact ⟨_, rfl, a, _, rfl, .inl hS1, rfl, _, rfl, if_pos' (decide_eq_true rfl) ⟨_, rfl, _, rfl, a, _, 0, x0, rfl, rfl, hS1, at_of (j := 0) rfl rfl, rfl, fun q dq hq hd ne => mk_blk hq hd ne kc so av1 its1 n6 k1⟩⟩
    | [x0, x1], hS1, its1, n6, k1, fl =>
      refine if_neg' rfl ?_
      refine ⟨_, rfl, a, _, rfl, .inl hS1, rfl, _, rfl, if_neg' (wN (by show ((2 : Nat) : Int) ≠ 1; decide)) ?_⟩
      exact ⟨_, rfl, a, _, rfl, .inl hS1, rfl, _, rfl, if_pos' (decide_eq_true rfl) ⟨_, rfl, _, rfl, a, _, 0, x0, rfl, rfl, hS1, at_of (j := 0) rfl rfl, _, rfl, a, _, 1, x1, rfl, rfl, hS1, at_of (j := 1) rfl rfl, rfl, fun q dq hq hd ne => mk_blk hq hd ne kc so av1 its1 n6 k1⟩⟩
    | [x0, x1, x2], hS1, its1, n6, k1, fl =>
      refine if_neg' rfl ?_
      refine ⟨_, rfl, a, _, rfl, .inl hS1, rfl, _, rfl, if_neg' (wN (by show ((3 : Nat) : Int) ≠ 1; decide)) ?_⟩
      refine ⟨_, rfl, a, _, rfl, .inl hS1, rfl, _, rfl, if_neg' (wN (by show ((3 : Nat) : Int) ≠ 2; decide)) ?_⟩
      exact ⟨_, rfl, a, _, rfl, .inl hS1, rfl, _, rfl, if_pos' (decide_eq_true rfl) ⟨_, rfl, _, rfl, a, _, 0, x0, rfl, rfl, hS1, at_of (j := 0) rfl rfl, _, rfl, a, _, 1, x1, rfl, rfl, hS1, at_of (j := 1) rfl rfl, _, rfl, a, _, 2, x2, rfl, rfl, hS1, at_of (j := 2) rfl rfl, rfl, fun q dq hq hd ne => mk_blk hq hd ne kc so av1 its1 n6 k1⟩⟩
    | [x0, x1, x2, x3], hS1, its1, n6, k1, fl =>
      refine if_neg' rfl ?_
      refine ⟨_, rfl, a, _, rfl, .inl hS1, rfl, _, rfl, if_neg' (wN (by show ((4 : Nat) : Int) ≠ 1; decide)) ?_⟩
      refine ⟨_, rfl, a, _, rfl, .inl hS1, rfl, _, rfl, if_neg' (wN (by show ((4 : Nat) : Int) ≠ 2; decide)) ?_⟩
      refine ⟨_, rfl, a, _, rfl, .inl hS1, rfl, _, rfl, if_neg' (wN (by show ((4 : Nat) : Int) ≠ 3; decide)) ?_⟩
      exact ⟨_, rfl, a, _, rfl, .inl hS1, rfl, _, rfl, if_pos' (decide_eq_true rfl) ⟨_, rfl, _, rfl, a, _, 0, x0, rfl, rfl, hS1, at_of (j := 0) rfl rfl, _, rfl, a, _, 1, x1, rfl, rfl, hS1, at_of (j := 1) rfl rfl, _, rfl, a, _, 2, x2, rfl, rfl, hS1, at_of (j := 2) rfl rfl, _, rfl, a, _, 3, x3, rfl, rfl, hS1, at_of (j := 3) rfl rfl, rfl, fun q dq hq hd ne => mk_blk hq hd ne kc so av1 its1 n6 k1⟩⟩
    | [x0, x1, x2, x3, x4], hS1, its1, n6, k1, fl =>
      refine if_neg' rfl ?_
      refine ⟨_, rfl, a, _, rfl, .inl hS1, rfl, _, rfl, if_neg' (wN (by show ((5 : Nat) : Int) ≠ 1; decide)) ?_⟩
      refine ⟨_, rfl, a, _, rfl, .inl hS1, rfl, _, rfl, if_neg' (wN (by show ((5 : Nat) : Int) ≠ 2; decide)) ?_⟩
      refine ⟨_, rfl, a, _, rfl, .inl hS1, rfl, _, rfl, if_neg' (wN (by show ((5 : Nat) : Int) ≠ 3; decide)) ?_⟩
      refine ⟨_, rfl, a, _, rfl, .inl hS1, rfl, _, rfl, if_neg' (wN (by show ((5 : Nat) : Int) ≠ 4; decide)) ?_⟩
      exact ⟨_, rfl, a, _, rfl, .inl hS1, rfl, _, rfl, if_pos' (decide_eq_true rfl) ⟨_, rfl, _, rfl, a, _, 0, x0, rfl, rfl, hS1, at_of (j := 0) rfl rfl, _, rfl, a, _, 1, x1, rfl, rfl, hS1, at_of (j := 1) rfl rfl, _, rfl, a, _, 2, x2, rfl, rfl, hS1, at_of (j := 2) rfl rfl, _, rfl, a, _, 3, x3, rfl, rfl, hS1, at_of (j := 3) rfl rfl, _, rfl, a, _, 4, x4, rfl, rfl, hS1, at_of (j := 4) rfl rfl, rfl, fun q dq hq hd ne => mk_blk hq hd ne kc so av1 its1 n6 k1⟩⟩
    | [x0, x1, x2, x3, x4, x5], hS1, its1, n6, k1, fl =>
      refine if_neg' rfl ?_
      refine ⟨_, rfl, a, _, rfl, .inl hS1, rfl, _, rfl, if_neg' (wN (by show ((6 : Nat) : Int) ≠ 1; decide)) ?_⟩
      refine ⟨_, rfl, a, _, rfl, .inl hS1, rfl, _, rfl, if_neg' (wN (by show ((6 : Nat) : Int) ≠ 2; decide)) ?_⟩
      refine ⟨_, rfl, a, _, rfl, .inl hS1, rfl, _, rfl, if_neg' (wN (by show ((6 : Nat) : Int) ≠ 3; decide)) ?_⟩
      refine ⟨_, rfl, a, _, rfl, .inl hS1, rfl, _, rfl, if_neg' (wN (by show ((6 : Nat) : Int) ≠ 4; decide)) ?_⟩
      refine ⟨_, rfl, a, _, rfl, .inl hS1, rfl, _, rfl, if_neg' (wN (by show ((6 : Nat) : Int) ≠ 5; decide)) ?_⟩
      exact ⟨_, rfl, _, rfl, a, _, 0, x0, rfl, rfl, hS1, at_of (j := 0) rfl rfl, _, rfl, a, _, 1, x1, rfl, rfl, hS1, at_of (j := 1) rfl rfl, _, rfl, a, _, 2, x2, rfl, rfl, hS1, at_of (j := 2) rfl rfl, _, rfl, a, _, 3, x3, rfl, rfl, hS1, at_of (j := 3) rfl rfl, _, rfl, a, _, 4, x4, rfl, rfl, hS1, at_of (j := 4) rfl rfl, _, rfl, a, _, 5, x5, rfl, rfl, hS1, at_of (j := 5) rfl rfl, rfl, fun q dq hq hd ne => mk_blk hq hd ne kc so av1 its1 n6 k1⟩
    | _ :: _ :: _ :: _ :: _ :: _ :: _ :: r, _, _, n6, _, _ => exact absurd n6 (by simp only [List.length_cons]; omega)
end
end V4
end

-- V6p
section
set_option Elab.async false
set_option linter.all false
set_option maxRecDepth 100000
set_option exponentiation.threshold 10000
namespace V4
open PySem L2 OwnOps OwnNe G1 StX SupX GenFor TryAs OwnTry
/-! _law_told -/
abbrev sTold : Stmt := top 77
abbrev NTo : List Str := ["_law_name", "_law_ports", "_law_told_here", "e"]
theorem set4 {t : L2.St} (h : t.length = 4) (v : Option V) : (t.set 3 v)[3]? = some v := by
  rw [List.getElem?_set_self (by omega)]
theorem set42 {t : L2.St} (h : t.length = 4) {v u : Option V} {x : Option V} : (((t.set 3 v).set 2 u).set 3 x)[2]? = some u := by
  rw [List.getElem?_set_ne (by decide), List.getElem?_set_self (by rw [List.length_set]; omega)]
def EN (n : Nat) (W : WX) : XK := fun cls d H' => ∀ t : L2.St, t.length = n → W cls d t H'
theorem pass_n {X : Cx} {W : WX} {n : Nat} (hn : X.N.length = n) (tk : Takes X W) : Passes (L2.CX X.prog X.w) X (EN n W) := by
  subst hn
  exact pass_all tk
/-- the law's two errors are of its library -/
structure Wire (K : PySem.W.Frag) (mg : Str → Option Value) (CN CK WE : Addr) : Prop where
  gW : mg "WireError" = some (.ref WE)
  kitN : PySem.W.kitOne K (.ref CN) (.ref WE) = some true
  kgN : KitG K CN
  kitK : PySem.W.kitOne K (.ref CK) (.ref WE) = some true
  kgK : KitG K CK
  KN : PySem.W.exmOne K (.ref CK) (.ref CN) = some false
section
variable {P : Program} {w : World} {K : PySem.W.Frag} {mg : Str → Option Value} {base : Heap} {CN fCN CK fCK DB gK BK fB WE : Addr}
/-- what is told of making one -/
def OutT (H : Hp) (v : V) (rest : List V) (Q : VK) : Prop :=
  (wdV v = false ∧ ∀ r H', Same H H' → H' r = some (.tup [.str "name", v]) → Q (.ref r) H') ∨
  (wdV v = true ∧ blkB rest = false ∧ ∀ r ca H', Same H H' → H' ca = some (.tup rest) → H' r = some (.tup [.str "kind", .ref ca]) → Q (.ref r) H') ∨
  ∃ (x : Str) (ps : List Str), v = .str x ∧ rest = ps.map V.str ∧ wd x = true ∧ blkB rest = true ∧ (∀ y ∈ ps, y.length ≤ 12) ∧ ∀ r H', Same H H' → H' r = some (.tup [.str "", .non]) → Q (.ref r) H'
def spTold (K : PySem.W.Frag) : Sp := fun vs H Q E => ∃ a v rest, vs = [v, .ref a] ∧ SqL K H a rest ∧ rest.length ≤ 6 ∧ (Av H v ∧ Shr v) ∧ (∀ y ∈ rest, Av H y ∧ Shr y) ∧ (∀ y ∈ rest, Fl y) ∧ OutT H v rest Q
set_option maxHeartbeats 2000000 in
theorem ok_told {f : Addr} {fd : FuncData} (F : Fun K "_law_told" "_law_told" sTold f fd) (T : Bi mg) (eN : PySem.Giv.ErrTxt K mg "InvalidName" "InvalidName.__init__" "ValueError.__new__" veT CN fCN) (eK : PySem.Giv.ErrTxt K mg "InvalidKind" "InvalidKind.__init__" "ValueError.__new__" veT CK fCK) (Wi : Wire K mg CN CK WE)
    (GM : Glb P w K mg base "_law_made" 8 ["_law_name", "_law_ports"] (spMade K CN CK BK)) :
    FnOk P w K mg base (L2.CX P w) 9 f fd ["_law_name", "_law_ports"] (spTold K) := by
  obtain ⟨_, _, mM, kM, GM, bM⟩ := GM.ex
  have sc : FnScope NTo ["_law_name", "_law_ports"] (defScope sTold) := ⟨rfl, rfl, rfl, by decide +kernel, rfl, by decide +kernel, by decide +kernel⟩
  have hN := sc.nd
  refine F.okX sc (fun vs H Q E h => ?_) (fun cdv A outer s H vs Q E hr h => ?_)
  · obtain ⟨a, v, rest, rfl, _⟩ := h
    rfl
  · obtain ⟨a, v, rest, rfl, hS, n6, av, its, fl, k⟩ := h
    refine ⟨_, pss_cons (ps_set (i := 2) hN rfl (Or.inl rfl) (pe_tup (pa_cons pe_str (pa_cons pe_non pa_nil))))
      (pss_cons (ps_try_all rfl rfl sc.nd (takes_of rfl rfl rfl rfl) (fun W pn xe tk _ => (pss_one (ps_expr (pe_call (CX := L2.CX P w) (E := EN 4 W) GM (hr.mono (by decide)) (by rfl) mM kM bM .nil (pass_n rfl tk) (pa_cons (pv 0) (pa_cons (pv 1) pa_nil))))))
        (Clauses.cons (i := 3) rfl rfl ⟨rfl, by decide, .inl eN.gC⟩ (fun a oe cls d pn hz hf => pss_one (ps_set (i := 2) hN rfl (Or.inl rfl) (pe_tup (pa_cons (pe_ifExp (pt_val (pe_callB (call_isiH hz hf) (by rfl) T.isi (by decide +kernel) (pa_cons (pv 3) (pa_cons (pe_glob (v := .ref WE) (by rfl) Wi.gW rfl) pa_nil)))) pe_str pe_str) (pa_cons (pe_byGiv eN hz hf (pv 3)) pa_nil)))))
        (Clauses.cons (i := 3) rfl rfl ⟨rfl, by decide, .inl eK.gC⟩ (fun a oe cls d pn hz hf => pss_one (ps_set (i := 2) hN rfl (Or.inl rfl) (pe_tup (pa_cons (pe_ifExp (pt_val (pe_callB (call_isiH hz hf) (by rfl) T.isi (by decide +kernel) (pa_cons (pv 3) (pa_cons (pe_glob (v := .ref WE) (by rfl) Wi.gW rfl) pa_nil)))) pe_str pe_str) (pa_cons (pe_byGiv eK hz hf (pv 3)) pa_nil)))))
        Clauses.nil)))
      (pss_one (ps_ret (pv 2)))), ?_⟩
    have two : (2 : Nat) ≤ sizeLine := by decide
    refine ⟨two, fun t0 nt0 => ?_⟩
    have s0 := same_upd (o := .tup [.str "", .non]) nt0
    have e0 : (upd H t0 (.tup [.str "", .non])) t0 = some (.tup [.str "", .non]) := upd_same
    have hS1 := s0.seq hS
    generalize upd H t0 (.tup [.str "", .non]) = H1 at s0 e0 hS1 ⊢
    refine ⟨_, rfl, _, rfl, a, v, rest, rfl, hS1, n6, ⟨av.1.same s0, av.2⟩, fun y hy => ⟨(its y hy).1.same s0, (its y hy).2⟩, fl, ?_⟩
    rcases k with ⟨wv, k⟩ | ⟨wv, b, k⟩ | ⟨x, ps, ex, er, wx, b, c12, k⟩
    · refine .inl ⟨wv, fun e H' s1 he => fun t ht => ⟨true, eN.te, fun _ a ha => ?_, fun z => nomatch z⟩⟩
      have s2 : Same H1 H' := s1
      refine ⟨_, set4 ht _, CN, e, _, _, _, true, rfl, rfl, rfl, he, Wi.kgN, .own WE, Wi.kitN, _, rfl, if_pos' rfl ⟨_, set4 ht _, rfl, rfl, e, _, rfl, he, two, fun r nr => ?_⟩⟩
      exact ⟨_, set42 ht, k r _ (s0.trans (s2.trans (same_upd nr))) upd_same⟩
    · refine .inr (.inl ⟨wv, b, fun e ca H' s1 hca he => fun t ht => ⟨false, Wi.KN, (fun z => nomatch z), fun _ => ⟨true, eK.te, fun _ a ha => ?_, fun z => nomatch z⟩⟩⟩)
      have s2 : Same H1 H' := s1
      refine ⟨_, set4 ht _, CK, e, _, _, _, true, rfl, rfl, rfl, he, Wi.kgK, .own WE, Wi.kitK, _, rfl, if_pos' rfl ⟨_, set4 ht _, rfl, rfl, e, _, rfl, he, two, fun r nr => ?_⟩⟩
      exact ⟨_, set42 ht, k r ca _ (s0.trans (s2.trans (same_upd nr))) (same_upd nr _ _ hca) upd_same⟩
    · refine .inr (.inr ⟨x, ps, ex, er, wx, b, c12, fun q dx H' s1 hq bi => ?_⟩)
      exact ⟨_, rfl, k t0 H' (s0.trans s1) (s1 _ _ e0)⟩
end
end V4
end

-- V6r
section
set_option Elab.async false
set_option linter.all false
set_option maxRecDepth 100000
set_option exponentiation.threshold 10000
namespace V4
open PySem L2 OwnOps OwnNe G1 StX SupX
/-! lines of kinds of blocks -/
theorem txt_join (y : Str) (l : List Str) : Txt.join y l = Str.join y l := by
  unfold Txt.join
  exact StrLaws.glued_eq_join y l
theorem blkT_eq (x : Str) (ps : List Str) : blkT x ps = (("block" : Str) ++ (" " : Str)) ++ Str.join " " (x :: ps) := by
  unfold blkT
  rw [txt_join]
  rfl
theorem blk_line (x : Str) (ps : List Str) : (("block " : Str) ++ Txt.join " " (x :: ps)) = blkT x ps := by
  rw [blkT_eq, txt_join]
  have : ("block " : Str) = ("block" : Str) ++ (" " : Str) := by decide +kernel
  rw [this]
theorem cps_app (a b : Str) : (a ++ b).cps.toList = a.cps.toList ++ b.cps.toList := by
  show (a.cps ++ b.cps).toList = _
  rw [Array.toList_append]
theorem blk_other {x y p : Str} {r : List Str} (h : blkT x (p :: r) = blkT y (p :: r)) : x = y := by
  rw [blkT_eq, blkT_eq] at h
  have h := congrArg (fun s : Str => s.cps.toList) h
  simp only [Str.join, cps_app, List.append_assoc, List.append_cancel_left_eq] at h
  have h2 := List.append_cancel_right h
  have : x.cps = y.cps := Array.toList_inj.mp h2
  cases x; cases y
  exact congrArg Str.mk this
theorem blk_pin (x : Str) (ps : List Str) : blkT x ps ≠ pinT "hub" ["x"] (gsOf ["x"] []) := fun h => by
  have e : (pinT "hub" ["x"] (gsOf ["x"] [])).cps.toList.head? = some 112 := by decide +kernel
  rw [← h, blkT_eq, cps_app, cps_app] at e
  have b : ("block" : Str).cps.toList = 98 :: ("lock" : Str).cps.toList := by decide +kernel
  rw [b] at e
  cases e
theorem join_snoc (z : Str) : ∀ (l : List Str), l ≠ [] → (Str.join " " (l ++ [z])).length = (Str.join " " l).length + 1 + z.length
  | [], h => absurd rfl h
  | [a], _ => by
    show ((a ++ (" " : Str)) ++ z).length = a.length + 1 + z.length
    rw [Str.length_append, Str.length_append]
    rfl
  | a :: b :: r, _ => by
    have ih := join_snoc z (b :: r) (by simp)
    have e1 : Str.join " " (a :: b :: r ++ [z]) = (a ++ (" " : Str)) ++ Str.join " " (b :: r ++ [z]) := rfl
    have e2 : Str.join " " (a :: b :: r) = (a ++ (" " : Str)) ++ Str.join " " (b :: r) := rfl
    rw [e1, e2, Str.length_append, Str.length_append ((a ++ (" " : Str))), ih]
    omega
theorem blk_cut {x : Str} {ps : List Str} (h : ps ≠ []) : blkT x ps ≠ blkT x ps.dropLast := fun e => by
  have l : (blkT x ps).length = (blkT x ps.dropLast).length + 1 + (ps.getLast h).length := by
    have e3 : ("block" : Str) :: x :: ps = (("block" : Str) :: x :: ps.dropLast) ++ [ps.getLast h] := by
      show _ = ("block" : Str) :: x :: (ps.dropLast ++ [ps.getLast h])
      rw [List.dropLast_concat_getLast h]
    unfold blkT
    rw [txt_join, txt_join, e3, join_snoc _ _ (by simp)]
  rw [← e] at l
  omega
theorem cut_last (xs : List V) : cutV xs none (some (-1)) = xs.dropLast := by
  unfold cutV
  have e : HT.sIx xs.length xs.length (some (-1)) = xs.length - 1 := by
    unfold HT.sIx
    dsimp only
    rw [if_pos (by decide)]
    omega
  rw [e, HT.sIx_none, List.drop_zero, Nat.sub_zero, List.dropLast_eq_take]
theorem dif_init {ps : List Str} (h : difV (ps.map V.str) = true) : difV (ps.dropLast.map V.str) = true := by
  unfold difV at h ⊢
  rw [Bool.and_eq_true, List.all_eq_true, decide_eq_true_eq] at h ⊢
  have sub : (ps.dropLast.map V.str).Sublist (ps.map V.str) := List.Sublist.map _ (List.dropLast_sublist ps)
  exact ⟨fun x hx => h.1 x (sub.subset hx), List.Nodup.sublist sub h.2⟩
end V4
end

-- GenSet
section
set_option Elab.async false
set_option linter.all false
set_option maxRecDepth 100000
set_option maxHeartbeats 1000000
/-! name = [x for x in g], g such a generator. -/
namespace GenFor
open PySem PySem.Spec PyProof.Rows L2
section
variable {X : Cx} {k : Nat} {pos : Pos}
theorem lcG_core {pins : List (Addr × Obj)} {s : Shared} {σ : L2.St} {H : Hp} {Q : VK} {iter : Expr} {tg : TGen} {x : Str} {q p : Pos} {scope : Scope} {own : List (Str × Nat)} {pos' : Pos} {use : Option (Value → Sem Unit)} {Qf : Value → Shared → Prop} (I : L2.Inv X pins σ H s) (h : PGen2 X k iter tg) (hc : X.calm = true) (hr : Room (k + 1) X.A) (ok : BlkOk X.N X.env.scope scope own)
    (hx : ∀ (cl : List (Str × Addr)) (C : Addr), (compEnvC scope cl C X.env).kindOf x = some .local) (hdb : (x == ("__debug__" : Str)) = false) (hs : ∀ x, foldedSetIterable iter X.env x = pure x) (hq : tLcG tg σ H Q)
    (hRR : ∀ D C s' m H', L2.Inv X pins σ H' s' → Q (.ref D) H' → s'.heap.Ns C m → FpOk X pins H' C → compPost (model X.prog X.w) X.A X.xe use Qf (.ref D) C (.ok .next) s') :
    wpAny (model X.prog X.w) X.A (comprehension (.ListComp (.Name x q) [⟨.Name x p, iter, [], 0⟩] scope pos) scope X.env pos' (newList []) false (eval iter X.env) use) Qf X.xe s := by
  have hfree : ∀ y ∈ scope.names, y.2 = .free → ∃ c, X.env.cells.lookup y.1 = some c := fun y hy e => by
    rcases ok.free y hy e with k | k
    · exact I.ok.has _ (.inl k)
    · exact I.ok.has _ (.inr k)
  refine wpAny_comprehension_free (use := use) rfl hs (closure_ok hfree) ok.kind (fun y hy e => by rw [ok.uniq y hy, e])
    (thn (h.run pins s σ H _ I hq) fun u s1 ⟨H1, sc, xs, I1, G, hsz, hQ⟩ => ?_)
  obtain ⟨a, g, c, rfl, ha1, ha2, hgen, hfresh, os, ba, lim, kp, seg⟩ := G
  refine wpAny_pyIter_gen hgen ?_
  refine wpAny_newObj_type (newEnv_comp ?_) (by show 0 ≤ sizeLine; decide)
  generalize hD : s1.heap.objs.size = D
  generalize hs3 : ({ s1 with heap := s1.heap.push { cls := .type "list", data := .seq ([] : List Value).toArray } } : Shared) = s3
  show codeAny _ _ (.compStart (.ListComp (.Name x q) [⟨.Name x p, iter, [], 0⟩] scope pos) 0 (.ref a) (.ref D) (compEnvC scope (cellsFrom (s3.heap.objs.size + 1) scope.names (cloFrom X.env.cells scope.names [])) s3.heap.objs.size X.env)) (compPost (model X.prog X.w) X.A X.xe use Qf (.ref D) s3.heap.objs.size) { s3 with heap := pushCells (s3.heap.push { cls := .type "dict", data := .dict #[] }) scope.names }
  have hxe := hx (cellsFrom (s3.heap.objs.size + 1) scope.names (cloFrom X.env.cells scope.names [])) s3.heap.objs.size
  have kce : (compEnvC scope (cellsFrom (s3.heap.objs.size + 1) scope.names (cloFrom X.env.cells scope.names [])) s3.heap.objs.size X.env).scope.kind = .function := ok.kind
  generalize hce : compEnvC scope (cellsFrom (s3.heap.objs.size + 1) scope.names (cloFrom X.env.cells scope.names [])) s3.heap.objs.size X.env = ce at hxe kce ⊢
  have cL : ce.locals = s3.heap.objs.size := by subst hce; rfl
  have h3 : s3.heap = s1.heap.push { cls := .type "list", data := .seq ([] : List Value).toArray } := by rw [← hs3]
  have g3 : s3.gens = s1.gens := by rw [← hs3]
  have o3 : s3.os = s1.os := by rw [← hs3]
  have szC : s3.heap.objs.size = D + 1 := by rw [h3, Heap.size_push, hD]
  generalize hC : s3.heap.objs.size = C at cL szC ⊢
  have k3 : ∀ b o, s1.heap.get? b = some o → s3.heap.get? b = some o := fun b o e => by rw [h3]; exact Heap.get?_push_of_some _ e
  have k4 : ∀ b o, s3.heap.get? b = some o → (pushCells (s3.heap.push { cls := .type "dict", data := .dict #[] }) scope.names).get? b = some o := fun b o e => pushCells_keeps _ _ _ _ (Heap.get?_push_of_some _ e)
  have eC : (pushCells (s3.heap.push { cls := .type "dict", data := .dict #[] }) scope.names).get? C = some { cls := .type "dict", data := .dict #[] } := by
    rw [← hC]
    exact pushCells_keeps _ _ _ _ (Heap.get?_push_size _ rfl)
  have eD3 : s3.heap.get? D = some { cls := .type "list", data := .seq ([] : List Value).toArray } := by
    rw [h3, ← hD]
    exact Heap.get?_push_size _ rfl
  have eD := k4 _ _ eD3
  have kp4 : ∀ b o, s1.heap.get? b = some o → (pushCells (s3.heap.push { cls := .type "dict", data := .dict #[] }) scope.names).get? b = some o := fun b o e => k4 b o (k3 b o e)
  have aD : a < D := by rw [← hD]; exact ha2
  have stat : cStatics < D := by
    obtain ⟨mc, hns, _⟩ := id lim
    rw [← hD]
    exact hns.lt
  have scD : sc.heap.objs.size ≤ D := by rw [← hD]; exact Nat.le_trans ha1 (Nat.le_of_lt ha2)
  have DC : D < C := by rw [szC]; exact Nat.lt_succ_self _
  have aC : a < C := Nat.lt_trans aD DC
  have tC : cStatics < C := Nat.lt_trans stat DC
  generalize hs4 : ({ s3 with heap := pushCells (s3.heap.push { cls := .type "dict", data := .dict #[] }) scope.names } : Shared) = s4
  have h4 : s4.heap = pushCells (s3.heap.push { cls := .type "dict", data := .dict #[] }) scope.names := by rw [← hs4]
  have g4 : s4.gens = s1.gens := by rw [← hs4]; exact g3
  have o4 : s4.os = sc.os := by rw [← hs4]; exact o3.trans os
  rw [← h4] at eC eD kp4
  have ns4 : s4.heap.Ns C (fun _ => none) := ⟨_, _, _, eC, rfl, (fun e he => by simp at he), fun _ => rfl⟩
  have start : Turns X.prog X.w X.A X.stack H1 sc C D a g xs xs.length s4 := by
    refine ⟨0, [], _, Nat.zero_add _, hgen.keeps kp4, lim.keeps kp4, ⟨.fresh c, by rw [g4]; exact hfresh, rfl, ?_⟩, ⟨_, eD⟩, .nil, ns4⟩
    refine seg X.A.in1 C D (s4.setGen g .running) hr.in1 I1.ok.frames (by rw [hD, szC]; exact Nat.le_succ _) (Nat.le_of_eq hD) (fun b o e => kp4 b o e) ⟨_, eC, fun v z => by cases z⟩ ⟨_, eD, fun v z => by cases z⟩ o4 (allBare_setGen (by rw [g4]; exact ba) rfl)
  have loop : codeAny (model X.prog X.w) X.A (.compLoop (.ListComp (.Name x q) [⟨.Name x p, iter, [], 0⟩] scope pos) 0 (.ref a) (.ref D) ce) (compPost (model X.prog X.w) X.A X.xe use Qf (.ref D) C) s4 := by
    refine comp_gen (I1.ok.hd hc) hr.depth cL kce hxe (by rw [kce]; rfl) hdb (Nat.ne_of_gt DC) (Nat.ne_of_gt aC) (Nat.ne_of_gt aD) (Nat.ne_of_gt tC) (Nat.ne_of_gt stat) hsz (fun s' us m os' ba' un hok nC nD hl rv hns => ?_) xs.length start
    obtain ⟨kk, hl⟩ := hl
    have rv' : Vals xs us.toArray.toList := rv
    have I5 : Inv X pins σ (upd H1 D (.lst xs)) s' := I1.drained (ex := []) scD hsz hl rv' .nil os' ba' un hok nD
    have fC : FpOk X pins (upd H1 D (.lst xs)) C := I1.fpOk (Nat.le_trans scD (Nat.le_of_lt DC)) (by rw [upd_ne (Nat.ne_of_gt DC)]; exact nC)
    exact hRR D C s' m _ I5 (hQ D nD) hns fC
  exact codeAny_compStart_list loop (wpAny_pyIter_gen (hgen.keeps kp4) loop)
theorem ps_setLcG {i : Nat} {y : Str} {py : Pos} {iter : Expr} {tg : TGen} {x : Str} {q p : Pos} {scope : Scope} {own : List (Str × Nat)} {spos : Pos} (hN : X.N.Nodup) (hy : X.N[i]? = some y) (hyl : X.env.scope.names.lookup y = some .local)
    (hsw : swapsWith (.ListComp (.Name x q) [⟨.Name x p, iter, [], 0⟩] scope pos) (some (.Name y py)) spos.line X.env = pure true) (h : PGen2 X k iter tg) (hc : X.calm = true) (hr : Room (k + 1) X.A) (ok : BlkOk X.N X.env.scope scope own)
    (hx : ∀ (cl : List (Str × Addr)) (C : Addr), (compEnvC scope cl C X.env).kindOf x = some .local) (hdb : (x == ("__debug__" : Str)) = false := by decide) (hs : ∀ x, foldedSetIterable iter X.env x = pure x := by intro _; rfl) :
    PS X (.Assign [.Name y py] (.ListComp (.Name x q) [⟨.Name x p, iter, [], 0⟩] scope pos) spos) (tAsg (tLcG tg) (gName i)) := by
  refine ⟨fun pins s σ H D I hh => ?_⟩
  rw [exec_Assign_Name_used _ _ _ _ hsw]
  refine wpAny_bind (wpAny_standAt (wpAny_bind ?_))
  show wpAny _ X.A (do let _ ← comprehension (.ListComp (.Name x q) [⟨.Name x p, iter, [], 0⟩] scope pos) scope X.env (firstIterPos [⟨.Name x p, iter, [], 0⟩] pos) (newList []) false (eval iter X.env) (some (assign (.Name y py) X.env))) _ _ s
  have hh : tLcG tg σ H (fun x H1 => gName i x σ H1 D.nx) := hh
  refine wpAny_bind (thn (lcG_core (Qf := fun _ s' => SP X pins D .next s') I h hc hr ok hx hdb hs hh fun L C s' m H' I' q hn f => ?_) fun _ s' hq => wpAny_pure (wpAny_pure hq))
  show wpAny _ _ (assign (.Name y py) X.env (.ref L)) _ _ _
  refine wpAny_assign_Name (store_ok2 (v := V.ref L) I' hN hy (.inl hyl) rfl (fun s2 I2 ⟨a, sb, ha⟩ => ?_) (.inr hyl))
  obtain ⟨f0, f1, f2, f3, f4, f5⟩ := f
  have haC : C ≠ a := by
    rcases ha with z | z
    · rw [z]; exact f1
    · exact fun e => f4 y a z e.symm
  refine ⟨m, hn.sameBut sb haC, fun h3 sb3 => ?_⟩
  exact ⟨_, H', I2.turned (t' := s2.toks) (fun b o hb e => (sb3.2 b hb).trans e) f0 f1 f3 f4 f5, q⟩
end
end GenFor
end

-- V6q
section
set_option Elab.async false
set_option linter.all false
set_option maxRecDepth 100000
set_option exponentiation.threshold 10000
namespace V4
open PySem L2 OwnOps OwnNe G1 StX SupX GenFor
/-! _law_is_kind -/
abbrev sIsK : Stmt := top 78
abbrev NIK : List Str := ["_law_name", "_law_ports", "_law_kind", "_law_orders", "_law_order"]
abbrev saPin (K : PySem.W.Frag) (CN CK DI gK sd : Addr) : SpA := fun vs kv H Q E => ∃ a b rest, vs = a :: b :: rest ∧ okP kv ∧ rest.length ≤ sizeLine ∧ ∀ p o, H p = none → o.dict = none → o.cls = .type "tuple" → spPinB K CN CK DI gK (a :: b :: gP sd kv ++ [V.ref p]) (upd H p (.frz o (.tup rest))) Q E
theorem mk_pin0 {K : PySem.W.Frag} {H : Hp} {Q : VK} {E : XK} {CN CK gK C DI sd q dx : Addr} {x : Str} (hq : H q = none) (hd : H dx = none) (ne : dx ≠ q) {pins : List Str} (kc : KCls K C) (so : SupAt K C DI "__init__" gK) (wx : wd x = true) (n1 : 1 ≤ pins.length) (n6 : pins.length ≤ 6) (dif : difV (pins.map V.str) = true) (c12 : ∀ z ∈ pins, z.length ≤ 12)
    (hsd : ∀ H : Hp, SqT K H sd []) (ok : grpB [] pins = true) (k : ∀ H', Same H H' → PinI K H' q C dx x pins (gsOf pins []) → Q .non H') :
    saPin K CN CK DI gK sd (.ref q :: .str x :: pins.map V.str) [] (upd (upd H dx (.own q)) q (.ins C dx [])) Q E := by
  have line : 1000 ≤ sizeLine := by decide
  have x12 : x.length ≤ 12 := by
    unfold wd at wx
    simp only [Bool.and_eq_true, decide_eq_true_eq] at wx
    exact wx.1.1.1.1.2
  refine ⟨_, _, _, rfl, .inl rfl, by rw [List.length_map]; omega, fun p o hp od oc => ?_⟩
  have up := made_up (C := C) (o := .frz o (.tup (pins.map V.str))) hq hd hp
  refine ⟨q, dx, C, p, .str x, .ref sd, pins.map V.str, o, rfl, made_at hp, upd_same, od, oc, kc, so, .str x, by show x.length ≤ 1000; omega, by rw [List.length_map]; exact n1, by rw [List.length_map]; exact n6, fun y hy => ?_, .inr (.inr ⟨x, pins, rfl, rfl, wx, dif, c12, .inr ⟨sd, [], [], rfl, ⟨hsd _, rfl, fun i v h => by cases h⟩, by decide, by decide, fun z h => (by cases h), .inr ⟨ok, fun H' sx pi => k H' (made_same hq hd ne hp sx) pi⟩⟩⟩)⟩
  obtain ⟨z, hz, rfl⟩ := List.mem_map.mp hy
  exact ⟨.str _, Nat.le_trans (c12 z hz) (by decide)⟩
theorem PinI.ln {K : PySem.W.Frag} {H : Hp} {p C dx : Addr} {x : Str} {pins : List Str} {gss : List (List Str)} (h : PinI K H p C dx x pins gss) : LnI H C p (pinT x pins gss) := by
  obtain ⟨pa, ca, oa, ga, h1, _⟩ := h.ex
  exact ⟨dx, _, h1, kf_line' ..⟩
theorem blk_other2 {x y : Str} {ps : List Str} (n : 1 ≤ ps.length) (h : blkT x ps = blkT y ps) : x = y := by
  cases ps with
  | nil => exact absurd n (by decide)
  | cons p r => exact blk_other h
theorem if_and {b : Bool} {A B : Prop} (h : b = true → B → A) (k : B) : if b = true then A else B := by
  cases b with
  | false => rw [if_neg Bool.false_ne_true]; exact k
  | true => rw [if_pos rfl]; exact h rfl k
theorem un_if {A B : Prop} (h : if false = true then A else B) : B := by
  rw [if_neg Bool.false_ne_true] at h
  exact h
/-- what a kind of blocks is compared with -/
def RQK (BK PK : Addr) : V → Hp → Prop := fun y H => (RIns BK y H ∨ RIns PK y H) ∨ ∃ z, y = .str z
theorem looks_RQK {X : Cx} {BK PK : Addr} (hs : PySem.W.notFirst X.K BK (.ref BK) = true) (hp : PySem.W.notFirst X.K BK (.ref PK) = true) (ht : PySem.W.notFirst X.K BK (.type "str") = true) {y : V} {H : Hp} {u : Value} {pins : List (Addr × Obj)} {σ : L2.St} {s : Shared} (I : L2.Inv X pins σ H s) (h : RQK BK PK y H) (ry : RelV y u) :
    ∃ tb, PySem.W.Looks (model X.prog X.w) s.heap (typeOf u) tb ∧ PySem.W.notFirst X.K BK tb = true := by
  rcases h with (h | ⟨b, dy, fs, rfl, hb⟩) | ⟨z, rfl⟩
  · exact looks_ins hs I h ry
  · cases (show u = Value.ref b from ry)
    obtain ⟨od, J⟩ := inst_at I hb
    exact ⟨_, J.type, hp⟩
  · obtain ⟨t, rfl⟩ := (show ∃ t, u = Value.str z t from ry)
    exact ⟨_, PySem.W.Looks.of_pure rfl, ht⟩
/-- the methods of kinds of blocks -/
structure BMe (K : PySem.W.Frag) (BK PK ge gx : Addr) : Prop where
  e1 : PySem.W.findIn K (.ref BK) "__eq__" = some (some (.ref ge))
  e2 : PySem.W.isFn K (.ref ge) = true
  ne : PySem.W.findIn K (.ref BK) "__ne__" = some (some (.builtin "object.__ne__"))
  nf : PySem.W.notFirst K BK (.ref BK) = true
  np : PySem.W.notFirst K BK (.ref PK) = true
  ns : PySem.W.notFirst K BK (.type "str") = true
  mx : Meth K BK "exchanges" gx
section
variable {P : Program} {w : World} {K : PySem.W.Frag} {mg : Str → Option Value} {base : Heap} {CN CK DB DI gK BK fB WE DK tp tg tb gb PK ge gx fP sd : Addr}
def spIsK (K : PySem.W.Frag) : Sp := fun vs H Q _ => ∃ a x ps, vs = [.str x, .ref a] ∧ H a = some (.lst ((ps : List Str).map V.str)) ∧ wd x = true ∧ blkB (ps.map V.str) = true ∧ (∀ y ∈ ps, y.length ≤ 12 ∧ PyData.strOk y = true) ∧ PyData.strOk x = true ∧ ∀ H', Same H H' → Q (.bl true) H'
set_option maxHeartbeats 4000000 in
theorem ok_isk {f : Addr} {fd gbd ged gxd : FuncData} (F : Fun K "_law_is_kind" "_law_is_kind" sIsK f fd) (T : Bi mg) (U : KndT K mg DK) (cB : KndC K DK tb gb BK) (cP : KndC K DK tp tg PK) (B : BMe K BK PK ge gx)
    (GB : FnOk P w K mg base (L2.CX P w) 1 gb gbd ["self"] (spText K BK)) (bB : L2.Binds K gbd ["self"] []) (GE : FnOk P w K mg base (L2.CX P w) 3 ge ged ["self", "other"] (spKEq BK PK)) (bE : L2.Binds K ged ["self", "other"] []) (GX : GFn2 P w K mg base 1 gx gxd ["self"] (spExch K)) (bX : L2.Binds K gxd ["self"] [])
    (mPk : mg "PinKind" = some (.ref PK)) (MP : Mk K PK fP) (soP : SupAt K PK DI "__init__" gK) (hsd : ∀ H : Hp, SqT K H sd []) (FP : FnA P w K mg base (L2.CX P w) 6 fP (saPin K CN CK DI gK sd))
    (GM : Glb P w K mg base "_law_made" 8 ["_law_name", "_law_ports"] (spMade K CN CK BK)) :
    FnOk P w K mg base (L2.CX P w) 9 f fd ["_law_name", "_law_ports"] (spIsK K) := by
  obtain ⟨_, _, mM, kM, GM, bM⟩ := GM.ex
  have sc : FnScope NIK ["_law_name", "_law_ports"] (defScope sIsK) := ⟨rfl, rfl, rfl, by decide +kernel, rfl, by decide +kernel, by decide +kernel⟩
  have hN := sc.nd
  refine F.okX sc (fun vs H Q E h => ?_) (fun cdv A outer s H vs Q E hr h => ?_)
  · obtain ⟨a, x, ps, rfl, _⟩ := h
    rfl
  · obtain ⟨a, x, ps, rfl, hS, wx, bk, it, sx, fin⟩ := h
    have c1 : ∀ C, C = BK → Cls K C ∧ PropOf K C "text" tb gb := fun C h => by subst h; exact ⟨cB.kc.cl, cB.tx⟩
    refine ⟨_, pss_cons (ps_set (i := 2) hN rfl (Or.inl rfl) (pe_call (E := E0) GM (hr.mono (by decide)) (by rfl) mM kM bM .nil passL (pa_cons (pv 0) (pa_cons (pv 1) pa_nil))))
      (pss_cons (ps_setLcG (i := 3) (own := [("_law_order", 4)]) hN rfl rfl rfl (pgen2_meth0 (S := fun C => C = BK) (pv 2) (fun C h => by subst h; exact ⟨cB.kc.cl, B.mx⟩) GX (fun vs H xs h => by obtain ⟨p, C, dx, fs, oa, rfl, _⟩ := h; rfl) (hr.mono (by decide)) bX) rfl (hr.mono (by decide)) (blkOk_by (N := NIK) (sc := defScope sIsK) (by decide +kernel)) (fun _ _ => rfl))
      (pss_cons (ps_if (PW.pt (pw_or (pt_not (pt_val (pe_callB call_isi (by rfl) T.isi (by decide +kernel) (pa_cons (pv 2) (pa_cons (pe_glob (v := .ref DK) (by rfl) U.gK rfl) pa_nil)))))
          (pw_or (pt_val (pe_fld (pv 2) rfl)) (pw_or (pt_cmpR op_ne (pe_fld (pv 2) rfl) (pv 0) (nomark _)) (pw_or1 (pt_cmpR (op_neD hr.units) (pe_fld (pv 2) rfl) (pe_callTy call_tuple_of (by rfl) T.tuple (by decide +kernel) (pa_cons (pv 1) pa_nil)) (nomark _))))))) (pss_one (ps_ret pe_bl)) pss_nil)
      (pss_cons (ps_if (PW.pt (pw_or (pt_cmpR (op_neD hr.units) (pe_fld (pv 2) rfl) (pe_tup pa_nil) (nomark _))
          (pw_or (pt_cmpR (op_neD hr.units) (pv 3) (pe_lst (pa_cons (pe_tupRg rfl (by rfl) T.tuple (prg_1 (by rfl) T.range (pe_callB call_len_seq (by rfl) T.len PySem.boot_len (pa_cons (pv 1) pa_nil)))) pa_nil)) (nomark _))
          (pw_or1 (pt_cmpR (op_neD hr.units) (pe_fld (pv 2) rfl) (pe_callTy call_tuple_of (by rfl) T.tuple (by decide +kernel) (pa_cons (pv 3) pa_nil)) (nomark _)))))) (pss_one (ps_ret pe_bl)) pss_nil)
      (pss_cons (ps_if (PW.pt (pw_or (pt_cmpR op_ne (pe_propC (S := fun C => C = BK) (E := E0) (pv 2) c1 GB (hr.mono (by decide)) bB passL rfl) (pe_op op_add_str pe_str (pe_join pe_str (pe_op op_cat (pe_lst (pa_cons (pv 0) pa_nil)) (pv 1)))) (nomark _))
          (pw_or1 (pt_cmpR (op := .NotEq) (op_neOwn (C := BK) (E := E0) (R := RIns BK) cB.hm B.ne B.e1 B.e2 GE (hr.mono (by decide)) bE passL (looks_ins B.nf)) (pv 2) (pe_call (E := E0) GM (hr.mono (by decide)) (by rfl) mM kM bM .nil passL (pa_cons (pv 0) (pa_cons (pe_callTy call_list_of (by rfl) T.list (by decide +kernel) (pa_cons (pv 1) pa_nil)) pa_nil))) (nomark _))))) (pss_one (ps_ret pe_bl)) pss_nil)
      (pss_cons (ps_if (PW.pt (pw_or (PW.pt (pw_and (pt_cmpR (op := .Eq) (cmp_own (C := BK) (E := E0) (R := RQK BK PK) (fun _ _ => rfl) B.e1 B.e2 GE (hr.mono (by decide)) bE passL (looks_RQK B.nf B.np B.ns)) (pv 2) (pe_call (E := E0) GM (hr.mono (by decide)) (by rfl) mM kM bM .nil passL (pa_cons pe_str (pa_cons (pv 1) pa_nil))) (nomark _)) (pw_and1 (pt_cmpR op_ne (pv 0) pe_str (nomark _)))))
          (pw_or (pt_cmpR (op := .Eq) (cmp_own (C := BK) (E := E0) (R := RQK BK PK) (fun _ _ => rfl) B.e1 B.e2 GE (hr.mono (by decide)) bE passL (looks_RQK B.nf B.np B.ns)) (pv 2) (pv 0) (nomark _))
          (pw_or1 (pt_cmpR (op := .Eq) (cmp_own (C := BK) (E := E0) (R := RQK BK PK) (fun _ _ => rfl) B.e1 B.e2 GE (hr.mono (by decide)) bE passL (looks_RQK B.nf B.np B.ns)) (pv 2) (SupX.pe_makeA0 (E := E0) MP FP (hr.mono (by decide)) (by rfl) mPk passL (pa_cons pe_str (pa_cons pe_str pa_nil))) (nomark _)))))) (pss_one (ps_ret pe_bl)) pss_nil)
      (pss_one (ps_ret (pe_or (pe_cmpR op_eq (pe_callB call_len_seq (by rfl) T.len PySem.boot_len (pa_cons (pv 1) pa_nil)) pe_int (nomark _))
          (pe_one (pe_cmpR (op := .NotEq) (op_neOwn (C := BK) (E := E0) (R := RIns BK) cB.hm B.ne B.e1 B.e2 GE (hr.mono (by decide)) bE passL (looks_ins B.nf)) (pv 2) (pe_call (E := E0) GM (hr.mono (by decide)) (by rfl) mM kM bM .nil passL (pa_cons (pv 0) (pa_cons (pe_slice (show SlR _ (rSlL K) from sl_list) (pv 1) po_none (po_some (pe_un un_neg pe_int))) pa_nil))) (nomark _))))))))))), ?_⟩
    have line : 1000 ≤ sizeLine := by decide
    have c12 : ∀ y ∈ ps, y.length ≤ 12 := fun y hy => (it y hy).1
    have l5 : ps.length ≤ 5 ∧ 1 ≤ ps.length := by
      unfold blkB at bk
      rw [Bool.and_eq_true, Bool.and_eq_true, decide_eq_true_eq, decide_eq_true_eq, List.length_map] at bk
      exact ⟨bk.1.2, bk.1.1⟩
    have x12 : x.length ≤ 12 := by
      unfold wd at wx
      simp only [Bool.and_eq_true, decide_eq_true_eq] at wx
      exact wx.1.1.1.1.2
    have avs : ∀ {G : Hp} {rs : List Str}, (∀ y ∈ rs, y ∈ ps) → (∀ v ∈ rs.map V.str, Av G v ∧ Shr v) ∧ ∀ v ∈ rs.map V.str, Fl v := fun {G rs} sub => ⟨fun v hv => by
      obtain ⟨y, hy, rfl⟩ := List.mem_map.mp hv
      exact ⟨.str y, Nat.le_trans (c12 y (sub y hy)) (by decide)⟩, fun v hv => by
      obtain ⟨y, hy, rfl⟩ := List.mem_map.mp hv
      exact .inr ⟨y, rfl, (it y (sub y hy)).2⟩⟩
    have fl0 := (avs (G := H) (rs := ps) fun y hy => hy).2
    have made : ∀ {G : Hp} {b : Addr} {y : Str} {rs : List Str} {Q' : VK}, G b = some (.lst (rs.map V.str)) → wd y = true → y.length ≤ 1000 → (∀ z ∈ rs, z ∈ ps) → rs.length ≤ 6 → blkB (rs.map V.str) = true → (∀ q dx H', Same G H' → G q = none → BlkI H' q BK dx y rs → Q' (.ref q) H') → spMade K CN CK BK [.str y, .ref b] G Q' E0 :=
      fun {G b y rs Q'} hb wy y1 sub n6 ok k => ⟨b, .str y, _, rfl, SqL.of hb, by rw [List.length_map]; exact n6, ⟨.str y, y1⟩, (avs (G := G) sub).1, (avs (G := G) sub).2, .inr (.inr ⟨y, rs, rfl, rfl, wy, ok, fun z hz => c12 z (sub z hz), k⟩)⟩
    refine ⟨_, rfl, _, rfl, made hS wx (by omega) (fun y hy => hy) (by omega) bk fun q dx G1 s1 nq bi => ?_⟩
    have s1 : Same H G1 := s1
    -- the orders
    obtain ⟨pa, ca, oa, o1, h1, h2, h3, h4, h5⟩ := id bi.ex
    have fl4 : ∀ {m : Str} {v : V}, (kf (.str x) (.ref pa) (.ref ca) (.bl false) (.ref oa) (.str (blkT x ps))).lookup m = some v → (kf (.str x) (.ref pa) (.ref ca) (.bl false) (.ref oa) (.str (blkT x ps))).lookup m = some v := fun h => h
    refine ⟨_, rfl, q, BK, dx, _, _, rfl, h1, rfl, (by kernel_rfl), ⟨q, BK, dx, _, oa, rfl, h1, cB.kc, (by kernel_rfl), SqT.of h4⟩, (by show 1 ≤ sizeLine; omega), fun L nL => ?_⟩
    have u2 := same_upd (o := .lst [.ref o1]) nL
    have hL : (upd G1 L (.lst [.ref o1])) L = some (.lst [.ref o1]) := upd_same
    have bi2 := bi.same u2
    have h1 := u2 _ _ h1
    have h2 := u2 _ _ h2
    have h3 := u2 _ _ h3
    have h4 := u2 _ _ h4
    have h5 := u2 _ _ h5
    have s2 := s1.trans u2
    generalize upd G1 L (.lst [.ref o1]) = G2 at hL bi2 h1 h2 h3 h4 h5 s2 ⊢
    clear u2 nL bi s1
    have ly0 := fls_ly fl0
    have dpo : ∀ {G : Hp} {b : Addr}, G b = some (.tup ((upto ps.length).map V.int)) → Dp K G (.ref b) (.tuple ((upto ps.length).map PyData.int)) := fun {G b} h => .tup (SqT.of h) (dp_ints _)
    have lyo : LyN 1 (.tuple ((upto ps.length).map PyData.int)) := by
      refine .tup ?_
      generalize upto ps.length = l
      induction l with
      | nil => exact .nil
      | cons i l ih => exact .cons .int ih
    have lyo2 : LyN 2 (.list [.tuple ((upto ps.length).map PyData.int)]) := .lst (.cons lyo .nil)
    have lyo3 : LyN 2 (.tuple [.tuple ((upto ps.length).map PyData.int)]) := .tup (.cons lyo .nil)
    -- what it is
    refine ⟨_, rfl, _, _, _, _, _, rfl, .own DK, .base (.ins h1 cB.kc.cl cB.ha U.hn U.htk cB.hm), cB.kK, _, rfl, if_neg' rfl ?_⟩
    refine ⟨_, rfl, q, BK, dx, _, .bl false, rfl, h1, cB.kc.cl, cB.kc.n4, (by kernel_rfl), _, rfl, if_neg' rfl ?_⟩
    refine ⟨_, rfl, q, BK, dx, _, _, rfl, h1, cB.kc.cl, cB.kc.n1, kp_name' .., _, rfl, rfl, _, rfl, if_neg' (by simp) ?_⟩
    refine ⟨_, rfl, q, BK, dx, _, _, rfl, h1, cB.kc.cl, cB.kc.n2, kp_pins' .., _, rfl, a, _, rfl, .inl ⟨SqL.of (s2 _ _ hS), fun t nt => ?_⟩⟩
    have u3 := same_upd (o := .tup (ps.map V.str)) nt
    refine ⟨.tuple ((ps.map V.str).map dv), .tuple ((ps.map V.str).map dv), .tup (SqT.of (u3 _ _ h2)) (fls_dp fl0), .tup (SqT.of upd_same) (fls_dp fl0), (LyN.tup ly0).shp (by decide), (LyN.tup ly0).shp (by decide), _, rfl, if_neg' (LyN.tup ly0).ne ?_⟩
    have hL := u3 _ _ hL
    have bi2 := bi2.same u3
    have h1 := u3 _ _ h1
    have h3 := u3 _ _ h3
    have h4 := u3 _ _ h4
    have h5 := u3 _ _ h5
    have s3 := s2.trans u3
    generalize upd G2 t (.tup (ps.map V.str)) = G3 at hL bi2 h1 h3 h4 h5 s3 ⊢
    clear u3 nt s2 h2
    -- its controls, its orders
    refine ⟨_, rfl, q, BK, dx, _, _, rfl, h1, cB.kc.cl, cB.kc.n3, kp_ctl' .., (by show 0 ≤ sizeLine; omega), fun t nt => ?_⟩
    have u4 := same_upd (o := .tup []) nt
    refine ⟨.tuple [], .tuple [], .tup (SqT.of (u4 _ _ h3)) .nil, .tup (SqT.of upd_same) .nil, by decide +kernel, by decide +kernel, _, rfl, if_neg' (by decide +kernel) ?_⟩
    have hL := u4 _ _ hL
    have bi2 := bi2.same u4
    have h1 := u4 _ _ h1
    have h4 := u4 _ _ h4
    have h5 := u4 _ _ h5
    have s4 := s3.trans u4
    generalize upd G3 t (.tup []) = G4 at hL bi2 h1 h4 h5 s4 ⊢
    clear u4 nt s3 h3
    have ln : ((ps.map V.str).length : Int) = ((ps.length : Nat) : Int) := by rw [List.length_map]
    refine ⟨_, rfl, _, rfl, a, _, rfl, .inl (SqL.of (s4 _ _ hS)), ?_⟩
    refine ⟨_, rfl, RgOk.of_le (Int.le_refl _) (by rw [ln]; omega) (by decide) (by rw [ln]; omega), fun al nal => ?_⟩
    rw [ln, rg_upto]
    have u5 := same_upd (o := .tup ((upto ps.length).map V.int)) nal
    have e5 : (upd G4 al (.tup ((upto ps.length).map V.int))) al = some (.tup ((upto ps.length).map V.int)) := upd_same
    refine ⟨(by show 1 ≤ sizeLine; omega), fun t nt => ?_⟩
    have u6 := same_upd (o := .lst [.ref al]) nt
    have u56 := u5.trans u6
    refine ⟨.list [.tuple ((upto ps.length).map PyData.int)], .list [.tuple ((upto ps.length).map PyData.int)], .lst (SqL.of (u56 _ _ hL)) (.cons (dpo (u56 _ _ h5)) .nil), .lst (SqL.of upd_same) (.cons (dpo (u6 _ _ e5)) .nil), lyo2.shp (by decide), lyo2.shp (by decide), _, rfl, if_neg' lyo2.ne ?_⟩
    have hL := u56 _ _ hL
    have bi2 := bi2.same u56
    have h1 := u56 _ _ h1
    have h4 := u56 _ _ h4
    have h5 := u56 _ _ h5
    have s6 := s4.trans u56
    generalize upd (upd G4 al (.tup ((upto ps.length).map V.int))) t (.lst [.ref al]) = G6 at hL bi2 h1 h4 h5 s6 ⊢
    clear u5 u6 u56 e5 nal nt s4
    refine ⟨_, rfl, q, BK, dx, _, .ref oa, rfl, h1, cB.kc.cl, cB.kc.n5, (by kernel_rfl), _, rfl, L, _, rfl, .inl ⟨SqL.of hL, fun t nt => ?_⟩⟩
    have u7 := same_upd (o := .tup [.ref o1]) nt
    refine ⟨.tuple [.tuple ((upto ps.length).map PyData.int)], .tuple [.tuple ((upto ps.length).map PyData.int)], .tup (SqT.of (u7 _ _ h4)) (.cons (dpo (u7 _ _ h5)) .nil), .tup (SqT.of upd_same) (.cons (dpo (u7 _ _ h5)) .nil), lyo3.shp (by decide), lyo3.shp (by decide), _, rfl, if_neg' lyo3.ne ?_⟩
    have bi2 := bi2.same u7
    have h1 := u7 _ _ h1
    have s7 := s6.trans u7
    generalize upd G6 t (.tup [.ref o1]) = G7 at bi2 h1 s7 ⊢
    clear u7 nt s6 hL h4 h5
    have lnk := bi2.ln
    -- its text
    refine ⟨_, rfl, q, BK, dx, _, rfl, h1, rfl, q, _, rfl, lnk, ⟨_, rfl⟩, _, rfl, (by show 1 ≤ sizeLine; omega), fun t nt => ?_⟩
    have u8 := same_upd (o := .lst [.str x]) nt
    have e8 : (upd G7 t (.lst [.str x])) t = some (.lst [.str x]) := upd_same
    refine ⟨_, rfl, t, a, _, _, rfl, rfl, e8, u8 _ _ (s7 _ _ hS), (by rw [List.length_map]; show 1 + ps.length ≤ sizeLine; omega), fun t2 nt2 => ?_⟩
    have u9 := same_upd (o := .lst ([.str x] ++ ps.map V.str)) nt2
    have e9 : (upd (upd G7 t (.lst [.str x])) t2 (.lst ([.str x] ++ ps.map V.str))) t2 = some (.lst ((x :: ps).map V.str)) := upd_same
    have one : (Str.ofString " ").length = 1 := by decide +kernel
    have sz := sum_le c12
    refine ⟨" ", t2, x :: ps, rfl, rfl, .inl (SqL.of e9), ?_, _, _, rfl, rfl, ?_, ?_⟩
    · rw [one, List.map_cons, List.sum_cons, List.length_cons]
      omega
    · have jl := join_le (a := (" " : Str)) (x :: ps)
      rw [List.map_cons, List.sum_cons, List.length_cons, one] at jl
      have six : (Str.ofString "block ").length = 6 := by decide +kernel
      rw [six]
      show 6 + _ ≤ sizeLine
      have : sizeLine = 16777216 := rfl
      omega
    rw [show (Str.ofString "block " ++ Txt.join (Str.ofString " ") (x :: ps)) = blkT x ps from blk_line x ps]
    refine ⟨rfl, _, rfl, if_neg' (by simp) ?_⟩
    have u10 := u8.trans u9
    have lnk := lnk.same u10
    have h1 := u10 _ _ h1
    have s10 := s7.trans u10
    generalize upd (upd G7 t (.lst [.str x])) t2 (.lst ([.str x] ++ ps.map V.str)) = G10 at lnk h1 s10 ⊢
    clear u8 u9 u10 e8 e9 nt nt2 s7 bi2
    -- made anew
    refine ⟨_, rfl, _, rfl, _, rfl, a, _, rfl, .inl (SqL.of (s10 _ _ hS)), fun t nt => ?_⟩
    have u11 := same_upd (o := .lst (ps.map V.str)) nt
    have e11 : (upd G10 t (.lst (ps.map V.str))) t = some (.lst (ps.map V.str)) := upd_same
    have lnk := lnk.same u11
    have h1 := u11 _ _ h1
    have s11 := s10.trans u11
    generalize upd G10 t (.lst (ps.map V.str)) = G11 at e11 lnk h1 s11 ⊢
    refine made e11 wx (by omega) (fun y hy => hy) (by omega) bk fun q2 dx2 G12 s12 nq2 b2 => ?_
    have s12 : Same G11 G12 := s12
    have lnk := lnk.same s12
    have h1 := s12 _ _ h1
    have s13 := s11.trans s12
    obtain ⟨_, _, _, _, k1, _⟩ := id b2.ex
    refine ⟨q, dx, _, rfl, h1, ⟨q2, dx2, _, rfl, k1⟩, q, _, _, rfl, lnk, .inl ⟨q2, _, rfl, .inl b2.ln, _, rfl, _, rfl, if_neg' (by simp) ?_⟩⟩
    clear u11 e11 nt s12 s11 s10 b2 k1 nq2
    -- another name
    have oth : wd "other" = true := by decide +kernel
    refine ⟨_, rfl, _, rfl, made (s13 _ _ hS) oth (by decide +kernel) (fun y hy => hy) (by omega) bk fun q3 dx3 G14 s14 nq3 b3 => ?_⟩
    have s14 : Same G12 G14 := s14
    have lnk := lnk.same s14
    have h1 := s14 _ _ h1
    have s15 := s13.trans s14
    obtain ⟨_, _, _, _, k1, _⟩ := id b3.ex
    refine ⟨q, dx, _, rfl, h1, .inl (.inl ⟨q3, dx3, _, rfl, k1⟩), q, _, _, rfl, lnk, .inl ⟨q3, _, rfl, .inl b3.ln, _, rfl, ?_⟩⟩
    refine if_and (fun hb z => ⟨_, rfl, rfl, _, rfl, if_neg' (by rw [blk_other2 l5.2 (of_decide_eq_true hb)]; simp) (un_if z)⟩) (if_neg' rfl ?_)
    -- its name, a kind of pins
    refine ⟨_, rfl, _, rfl, q, dx, _, rfl, h1, .inr ⟨x, rfl⟩, q, _, _, rfl, lnk, .inr ⟨.inr ⟨x, rfl⟩, _, rfl, if_neg' rfl ?_⟩⟩
    have hub : wd "hub" = true := by decide +kernel
    refine ⟨_, rfl, rfl, fun q4 dq4 hq4 hd4 ne4 => mk_pin0 (x := "hub") (pins := ["x"]) hq4 hd4 ne4 cP.kc soP hub (by decide) (by decide) (by decide +kernel) (by decide +kernel) hsd (by decide +kernel) fun G15 s16' pi => ⟨rfl, ?_⟩⟩
    have s16' : Same G14 G15 := s16'
    have lnk := lnk.same s16'
    have h1 := s16' _ _ h1
    have s16 := s15.trans s16'
    have lp := pi.ln
    obtain ⟨d4, f4, k1, _⟩ := id lp
    refine ⟨q, dx, _, rfl, h1, .inl (.inr ⟨q4, d4, _, rfl, k1⟩), q, _, _, rfl, lnk, .inl ⟨q4, _, rfl, .inr lp, _, rfl, if_neg' (decide_eq_false (blk_pin x ps)) ?_⟩⟩
    -- one port fewer
    refine ⟨_, rfl, a, _, rfl, .inl (SqL.of (s16 _ _ hS)), rfl, _, rfl, ?_⟩
    by_cases one1 : ps.length = 1
    · exact if_pos' (decide_eq_true (by rw [List.length_map, one1]; rfl)) (fin _ s16)
    refine if_neg' (decide_eq_false fun z => one1 (by have := V.int.inj z; rw [List.length_map] at this; omega)) ?_
    have ec : cutV (ps.map V.str) none (some (-1)) = ps.dropLast.map V.str := by rw [cut_last, List.map_dropLast]
    refine ⟨_, rfl, _, rfl, _, rfl, _, rfl, _, rfl, a, _, rfl, SqL.of (s16 _ _ hS), fun t nt => ?_⟩
    have e17 : (upd G15 t (.lst (cutV (ps.map V.str) none (some (-1))))) t = some (.lst (ps.dropLast.map V.str)) := by rw [upd_same, ec]
    have u17 := same_upd (o := .lst (cutV (ps.map V.str) none (some (-1)))) nt
    have h1 := u17 _ _ h1
    have lnk := lnk.same u17
    have s17 := s16.trans u17
    have okc : blkB (ps.dropLast.map V.str) = true := by
      unfold blkB at bk ⊢
      rw [Bool.and_eq_true] at bk ⊢
      refine ⟨?_, dif_init bk.2⟩
      rw [Bool.and_eq_true, decide_eq_true_eq, decide_eq_true_eq, List.length_map, List.length_dropLast]
      omega
    refine made e17 wx (by omega) (fun y hy => (List.dropLast_sublist ps).subset hy) (by rw [List.length_dropLast]; omega) okc fun q5 dx5 G18 s18 nq5 b5 => ?_
    have s18 := (show Same _ G18 from s18)
    obtain ⟨_, _, _, _, k5, _⟩ := id b5.ex
    have nep : ps ≠ [] := fun z => by rw [z] at l5; exact absurd l5.2 (by decide)
    refine ⟨q, dx, _, rfl, s18 _ _ h1, ⟨q5, dx5, _, rfl, k5⟩, q, _, _, rfl, lnk.same s18, .inl ⟨q5, _, rfl, .inl b5.ln, _, rfl, ?_⟩⟩
    rw [decide_eq_false (blk_cut nep)]
    exact fin _ (s17.trans s18)
end
end V4
end

-- V6t
section
set_option Elab.async false
set_option linter.all false
set_option maxRecDepth 100000
set_option exponentiation.threshold 10000
namespace V4
open PySem L2 OwnOps OwnNe G1 StX SupX
/-! ports that are words, each there once -/
def gB (us : List V) (p : V) : Bool := wdV p && decide ((us.countP fun z => eqV z p) = 1)
theorem cnt_str (p : Str) : ∀ ps : List Str, ((ps.map V.str).countP fun z => eqV z (.str p)) = ps.count p
  | [] => rfl
  | q :: ps => by
    rw [List.map_cons, List.countP_cons, List.count_cons, cnt_str p ps]
    rfl
theorem nodup_count : ∀ {ps : List Str}, (∀ p ∈ ps, ps.count p = 1) → ps.Nodup
  | [], _ => .nil
  | q :: ps, h => by
    refine List.nodup_cons.mpr ⟨fun hq => ?_, nodup_count fun p hp => ?_⟩
    · have := h q List.mem_cons_self
      rw [List.count_cons, beq_self_eq_true, if_pos rfl] at this
      have := List.count_pos_iff.mpr hq
      omega
    · have h1 := h p (List.mem_cons_of_mem _ hp)
      rw [List.count_cons] at h1
      have := List.count_pos_iff.mpr hp
      omega
theorem count_nodup : ∀ {ps : List Str}, ps.Nodup → ∀ p ∈ ps, ps.count p = 1
  | [], _, p, h => by cases h
  | q :: ps, nd, p, h => by
    obtain ⟨n1, n2⟩ := List.nodup_cons.mp nd
    rw [List.count_cons]
    rcases List.mem_cons.mp h with rfl | h
    · rw [beq_self_eq_true, if_pos rfl, List.count_eq_zero.mpr n1]
    · rw [count_nodup n2 p h, if_neg]
      intro z
      rw [eq_of_beq z] at n1
      exact n1 h
theorem nd_str {ps : List Str} : (ps.map V.str).Nodup ↔ ps.Nodup := nodup_str
theorem gB_dif {us : List V} : us.filter (gB us) = us ↔ difV us = true := by
  rw [List.filter_eq_self]
  unfold difV
  rw [Bool.and_eq_true, List.all_eq_true, decide_eq_true_eq]
  constructor
  · intro h
    have w : ∀ x ∈ us, wdV x = true := fun x hx => by
      have := h x hx
      unfold gB at this
      rw [Bool.and_eq_true] at this
      exact this.1
    refine ⟨w, ?_⟩
    obtain ⟨ps, rfl⟩ := texts_of (List.all_eq_true.mpr w)
    refine nodup_str.mpr (nodup_count fun p hp => ?_)
    have := h (.str p) (List.mem_map.mpr ⟨p, hp, rfl⟩)
    unfold gB at this
    rw [Bool.and_eq_true, decide_eq_true_eq, cnt_str] at this
    exact this.2
  · intro ⟨w, nd⟩ x hx
    obtain ⟨ps, rfl⟩ := texts_of (List.all_eq_true.mpr w)
    obtain ⟨p, hp, rfl⟩ := List.mem_map.mp hx
    unfold gB
    rw [Bool.and_eq_true, decide_eq_true_eq, cnt_str]
    exact ⟨w _ hx, count_nodup (nodup_str.mp nd) p hp⟩
end V4
end

-- V6s
section
set_option Elab.async false
set_option linter.all false
set_option maxRecDepth 100000
set_option exponentiation.threshold 10000
namespace V4
open PySem L2 OwnOps OwnNe G1 StX SupX
/-! law -/
abbrev sLaw : Stmt := top 79
abbrev NLw : List Str := ["_law_script", "_law_pool_here", "_law_name", "_law_ports", "_law_good", "_law_k", "_law_port"]
theorem seq_if {tt : L2.TT} {ts tr : TS} {D : Ends} {σ : L2.St} {H : Hp} {C : L2.St → Hp → Prop} (next : ∀ σ' H', C σ' H' → tr D σ' H') (body : ∀ N : L2.St → Hp → Prop, (∀ σ' H', C σ' H' → N σ' H') → (tIfS tt ts tNext) { D with nx := N } σ H) : tSeq (tIfS tt ts tNext) tr D σ H := body (fun σ' H' => tr D σ' H') next
section
variable {P : Program} {w : World} {K : PySem.W.Frag} {mg : Str → Option Value} {base : Heap} {CN CK BK : Addr}
def spLaw (K : PySem.W.Frag) : Sp := fun vs H Q _ => ∃ (a : Addr) (ns : List Int), vs = [.ref a] ∧ SqL K H a (ns.map V.int) ∧ ns.length ≤ 63 ∧ ∀ H', Same H H' → Q (.bl true) H'
set_option maxHeartbeats 4000000 in
theorem ok_law {f : Addr} {fd : FuncData} (F : Fun K "law" "law" sLaw f fd) (T : Bi mg)
    (GPo : Glb P w K mg base "_law_pool" 1 ["_law_script"] (spPool K)) (GNx : Glb P w K mg base "_law_next" 1 ["_law_pool_here", "_law_size"] spNext) (GTx : Glb P w K mg base "_law_text" 2 ["_law_pool_here"] spTxt) (GIw : Glb P w K mg base "_law_is_word" 1 ["_law_name"] spIsW)
    (GTo : Glb P w K mg base "_law_told" 9 ["_law_name", "_law_ports"] (spTold K)) (GIk : Glb P w K mg base "_law_is_kind" 9 ["_law_name", "_law_ports"] (spIsK K)) :
    FnOk P w K mg base (L2.CX P w) 10 f fd ["_law_script"] (spLaw K) := by
  obtain ⟨_, _, mP, kP, GPo, bP⟩ := GPo.ex
  obtain ⟨_, _, mN, kN, GNx, bN⟩ := GNx.ex
  obtain ⟨_, _, mT, kT, GTx, bT⟩ := GTx.ex
  obtain ⟨_, _, mW, kW, GIw, bW⟩ := GIw.ex
  obtain ⟨_, _, mO, kO, GTo, bO⟩ := GTo.ex
  obtain ⟨_, _, mI, kI, GIk, bI⟩ := GIk.ex
  have sc : FnScope NLw ["_law_script"] (defScope sLaw) := ⟨rfl, rfl, rfl, by decide +kernel, rfl, by decide +kernel, by decide +kernel⟩
  have hN := sc.nd
  refine F.okX sc (fun vs H Q E h => ?_) (fun cdv A outer s H vs Q E hr h => ?_)
  · obtain ⟨a, ns, rfl, _⟩ := h
    rfl
  · obtain ⟨a, ns, rfl, hS, n63, fin⟩ := h
    refine ⟨_, pss_cons (ps_set (i := 1) hN rfl (Or.inr rfl) (pe_call (E := E0) GPo (hr.mono (by decide)) (by rfl) mP kP bP .nil passL (pa_cons (pv 0) pa_nil)))
      (pss_cons (ps_set (i := 2) hN rfl (Or.inl rfl) (pe_call (E := E0) GTx (hr.mono (by decide)) (by rfl) mT kT bT .nil passL (pa_cons (pv 1) pa_nil)))
      (pss_cons (ps_set (i := 3) hN rfl (Or.inr rfl) (pe_lc (own := [("_law_k", 5)]) (g := gName 5) (tt := tYes) (te := tCall spTxt [] E0 (tCons (tVar 1) tNil)) rfl hN (pi_range1 rfl T.range (pa_cons (pe_call (E := E0) GNx (hr.mono (by decide)) (by rfl) mN kN bN .nil passL (pa_cons (pv 1) (pa_cons pe_int pa_nil))) pa_nil))
          (blkOk_by (N := NLw) (sc := defScope sLaw) (by decide +kernel)) (fun _ _ _ _ _ => pg_name (i := 5) hN rfl (Or.inl rfl)) (fun _ _ _ _ _ => pts_nil) (fun _ _ _ _ _ => pe_call GTx (hr.mono (by decide)) (by rfl) mT kT bT .nil passL (pa_cons (pv 1) pa_nil))))
      (pss_cons (ps_if (PW.pt (pw_and (pt_cmpR op_eq (pe_call (E := E0) GNx (hr.mono (by decide)) (by rfl) mN kN bN .nil passL (pa_cons (pv 1) (pa_cons pe_int pa_nil))) pe_int (nomark _)) (pw_and1 (pt_cmpR (op_neD hr.units) (pv 3) (pe_lst pa_nil) (nomark _)))))
          (pss_cons (ps_expr (pe_bm PySem.F.plainAttrs_list PySem.F.slot_list_append PySem.F.type_list_append mt_append (pv 3) (pa_cons (pe_ix ix_list (pv 3) pe_int (fun _ _ => rfl)) pa_nil)))
          (pss_one (ps_set (i := 3) hN rfl (Or.inr rfl) (pe_slice (show SlR _ (rSlL K) from sl_list) (pv 3) po_none (po_some pe_int))))) pss_nil)
      (pss_cons (ps_setLc (i := 4) (own := [("_law_port", 6)]) (g := gName 6) (tt := tAnd (tB (tCall spIsW [] E0 (tCons (tVar 6) tNil))) (tTest (tOp rEq (tBM K "list" (CntV.rCntV K) (tVar 3) (tCons (tVar 6) tNil)) (tC (.int 1))))) (te := tVar 6) rfl hN rfl rfl rfl (pi_list (pv 3)) (blkOk_by (N := NLw) (sc := defScope sLaw) (by decide +kernel)) (fun _ _ _ _ _ => pg_name (i := 6) hN rfl (Or.inl rfl))
          (fun _ _ _ _ _ => pts_one (PW.pt (pw_and (pt_val (pe_call GIw (hr.mono (by decide)) (by rfl) mW kW bW .nil passL (pa_cons (pv 6) pa_nil))) (pw_and1 (pt_cmpR op_eq (pe_bm PySem.F.plainAttrs_list PySem.F.slot_list_count PySem.F.type_list_count (show MtR _ "list.count" (CntV.rCntV K) from CntV.mt_lcountV) (pv 3) (pa_cons (pv 6) pa_nil)) pe_int (nomark _)))))) (fun _ _ _ _ _ => pv 6))
      (pss_cons (ps_if (pt_not (pt_val (pe_call (E := E0) GIw (hr.mono (by decide)) (by rfl) mW kW bW .nil passL (pa_cons (pv 2) pa_nil)))) (pss_one (ps_ret (pe_cmpR (op_eqD hr.units) (pe_call (E := E0) GTo (hr.mono (by decide)) (by rfl) mO kO bO .nil passL (pa_cons (pv 2) (pa_cons (pv 3) pa_nil))) (pe_tup (pa_cons pe_str (pa_cons (pv 2) pa_nil))) (nomark _)))) pss_nil)
      (pss_cons (ps_if (PW.pt (pw_or (pt_cmpR (op_neD hr.units) (pv 4) (pv 3) (nomark _)) (pw_or1 (pt_not (pt_chain op_le op_le pe_int (pe_callB call_len_seq (by rfl) T.len PySem.boot_len (pa_cons (pv 3) pa_nil)) pe_int))))) (pss_one (ps_ret (pe_cmpR (op_eqD hr.units) (pe_call (E := E0) GTo (hr.mono (by decide)) (by rfl) mO kO bO .nil passL (pa_cons (pv 2) (pa_cons (pv 3) pa_nil))) (pe_tup (pa_cons pe_str (pa_cons (pe_callTy call_tuple_of (by rfl) T.tuple (by decide +kernel) (pa_cons (pv 3) pa_nil)) pa_nil))) (nomark _)))) pss_nil)
      (pss_one (ps_ret (pe_and (pe_cmpR (op_eqD hr.units) (pe_call (E := E0) GTo (hr.mono (by decide)) (by rfl) mO kO bO .nil passL (pa_cons (pv 2) (pa_cons (pv 3) pa_nil))) (pe_tup (pa_cons pe_str (pa_cons pe_non pa_nil))) (nomark _)) (pe_one (pe_call (E := E0) GIk (hr.mono (by decide)) (by rfl) mI kI bI .nil passL (pa_cons (pv 2) (pa_cons (pv 3) pa_nil))))))))))))), ?_⟩
    have line : 1000 ≤ sizeLine := by decide
    refine ⟨_, rfl, a, ns, rfl, hS, n63, fun l H1 s1 S1 nl => ?_⟩
    have s1 : Same H H1 := s1
    refine ⟨_, rfl, l, l, 0, rfl, S1, S1.l0, by decide, fun v H2 tv x2 S2 => ?_⟩
    refine ⟨_, rfl, l, l, 7, 0 + 20, rfl, by decide, by decide, S2, S2.l0, by decide, fun n H3 n0 n7 x3 S3 => ?_⟩
    obtain ⟨n, rfl⟩ := Int.eq_ofNat_of_zero_le n0
    have X3 : SameX l H H3 := (SameX.of s1).trans (x2.trans x3)
    clear x2 x3 S1 S2 s1
    refine ⟨n, rfl, by omega, by omega, fun D nD => ?_⟩
    have Dl : D ≠ l := fun z => S3.l0 (by rw [← z]; exact nD)
    have nH : H D = none := by
      cases e : H D with
      | none => rfl
      | some u => have := X3 D u Dl e; rw [nD] at this; cases this
    refine lc_range (lo := 0) (n := n) (fun j G => SameX l H G ∧ St D G l (21 + 20 * j) ∧ ∃ vs : List V, vs.length = j ∧ (∀ y ∈ vs, Tx y) ∧ G D = some (.lst vs)) ⟨X3.trans (SameX.of (same_upd nD)), (S3.avoid nD).at Dl, [], rfl, (fun y h => by cases h), upd_same⟩ (fun j G hj g => ?_) (fun G g => ?_)
    · obtain ⟨xG, SG, vs, lv, tvs, hD⟩ := g
      refine ⟨rfl, yes_go (iteT ⟨_, rfl, l, D, 21 + 20 * j, rfl, SG, (by rw [hD]; exact Option.some_ne_none _), by omega, fun u G2 tu xu Su => ?_⟩)⟩
      have xu : SameX l G G2 := xu
      have hD2 := xu D _ Dl hD
      refine ⟨vs, hD2, small1000 (by omega), fun b o nb e => ?_, Su.at Dl, vs ++ [u], by rw [List.length_append, lv]; rfl, fun y hy => ?_, upd_same⟩
      · rw [upd_ne (fun z => by rw [z, nH] at e; cases e)]
        exact (xG.trans xu) b o nb e
      · rcases List.mem_append.mp hy with h | h
        · exact tvs y h
        · rw [List.mem_singleton.mp h]; exact tu
    obtain ⟨xG, SG, vs, lv, tvs, hD⟩ := g
    have fls : ∀ {us : List V}, (∀ y ∈ us, Tx y) → ∀ y ∈ us, Fl y := fun h y hy => (h y hy).fl
    -- one port twice
    dsimp only [gName]
    refine seq_if (C := fun σ' Gx => SameX l H Gx ∧ ∃ (Dx : Addr) (us : List V), σ' = [some (.ref a), some (.ref l), some v, some (.ref Dx), none, none, none] ∧ us.length ≤ 6 ∧ (∀ y ∈ us, Tx y) ∧ Gx Dx = some (.lst us)) (fun σ' Gx hx => ?_) (fun N nxt => ?_)
    case refine_2 =>
      refine ⟨_, rfl, l, D, 5, 21 + 20 * n, rfl, by decide, by decide, SG, (by rw [hD]; exact Option.some_ne_none _), by omega, fun d G2 d0 d5 x5 S5 => ⟨rfl, ?_⟩⟩
      have x5 : SameX l G G2 := x5
      have hD2 := x5 D _ Dl hD
      have xG2 := xG.trans x5
      by_cases d1 : d = 1
      case neg => exact ⟨_, rfl, if_neg' (decide_eq_false fun z => d1 (V.int.inj z)) (if_neg' rfl (nxt _ G2 ⟨xG2, D, vs, rfl, by omega, tvs, hD2⟩))⟩
      refine ⟨_, rfl, if_pos' (decide_eq_true (by rw [d1])) ⟨_, rfl, (by show 0 ≤ sizeLine; omega), fun p0 np0 => ?_⟩⟩
      have u := same_upd (o := .lst []) np0
      have hD3 := u _ _ hD2
      have x3 := xG2.trans (SameX.of u)
      have e0 : (upd G2 p0 (.lst [])) p0 = some (.lst []) := upd_same
      generalize upd G2 p0 (.lst []) = G3 at u hD3 x3 e0 ⊢
      refine ⟨.list (vs.map dv), .list [], .lst (SqL.of hD3) (fls_dp (fls tvs)), .lst (SqL.of e0) .nil, (LyN.lst (fls_ly (fls tvs))).shp (by decide), by decide +kernel, _, rfl, ?_⟩
      cases vs with
      | nil => exact if_neg' rfl (nxt _ G3 ⟨x3, D, [], rfl, by decide, tvs, hD3⟩)
      | cons y r =>
        refine if_pos' rfl ⟨_, rfl, .inl ⟨rfl, _, SqL.of hD3⟩, _, rfl, D, _, _, y, rfl, rfl, SqL.of hD3, at_of (j := 0) rfl rfl, D, _, y, rfl, rfl, hD3, small1000 (by rw [lv]; omega), ?_⟩
        have hD4 : (upd G3 D (.lst ((y :: r) ++ [y]))) D = some (.lst ((y :: r) ++ [y])) := upd_same
        have x4 : SameX l H (upd G3 D (.lst ((y :: r) ++ [y]))) := fun b o nb e => by
          rw [upd_ne (fun z => by rw [z, nH] at e; cases e)]
          exact x3 b o nb e
        generalize upd G3 D (.lst ((y :: r) ++ [y])) = G4 at hD4 x4 ⊢
        have e6 : cutV ((y :: r) ++ [y]) none (some 6) = ((y :: r) ++ [y]).take 6 := by
          unfold cutV
          rw [HT.sIx_none, show (some (6 : Int)) = some ((6 : Nat) : Int) from rfl, HT.sIx_nat, List.drop_zero, Nat.sub_zero]
          by_cases c : 6 ≤ ((y :: r) ++ [y]).length
          · rw [Nat.min_eq_left c]
          · rw [Nat.min_eq_right (by omega), List.take_of_length_le (Nat.le_refl _), List.take_of_length_le (by omega)]
        refine ⟨_, rfl, _, rfl, D, _, rfl, SqL.of hD4, fun t nt => ?_⟩
        refine nxt _ _ ⟨x4.trans (SameX.of (same_upd nt)), t, ((y :: r) ++ [y]).take 6, rfl, by rw [List.length_take]; omega, fun z hz => ?_, by rw [upd_same, e6]⟩
        have hz := List.mem_of_mem_take hz
        rcases List.mem_append.mp hz with k | k
        · exact tvs z k
        · rw [List.mem_singleton.mp k]; exact tvs y List.mem_cons_self
    obtain ⟨xG2, D2, us, rfl, n6, tus, hD2⟩ := hx
    have sG : Same H Gx := fun b o e => xG2 b o (ne_of_none e nl) e
    have fus := fls tus
    have flat : us.all flatV = true := List.all_eq_true.mpr fun y hy => (tus y hy).flat
    clear hD tvs lv xG SG X3 S3 nD nH
    -- the good ports
    refine ⟨_, rfl, D2, rfl, ⟨_, SqL.of hD2⟩, fun DL nDL => ?_⟩
    refine lc_it (walk_list (xs := us) (a := D2) (K := K)) (fun i Gz => Same Gx Gz ∧ Gz DL = some (.lst ((us.take i).filter (gB us)))) ⟨same_upd nDL, upd_same⟩ (fun i Gz hi g => SqL.of (g.1 _ _ hD2)) (fun i x Gz G' hi g y => ?_) (fun Gz g => ?_)
    · obtain ⟨rfl, hx⟩ := y
      obtain ⟨sz, hDL⟩ := g
      have tx := tus x (List.mem_of_getElem? hx)
      have ts := take_succ_at hx
      refine ⟨rfl, _, rfl, x, rfl, tx, fun G2 s2 => ⟨_, rfl, ?_⟩⟩
      have s2 : Same G' G2 := s2
      have sz2 := sz.trans s2
      have hDL2 := s2 _ _ hDL
      have small : ((us.take i).filter (gB us)).length < sizeLine := small1000 (Nat.le_trans (List.length_filter_le _ _) (by rw [List.length_take]; omega))
      cases w1 : wdV x with
      | false =>
        have g0 : gB us x = false := by unfold gB; rw [w1]; rfl
        exact if_neg' rfl (if_neg' rfl ⟨sz2, by rw [ts, List.filter_append, List.filter_cons_of_neg (by rw [g0]; decide)]; simpa using hDL2⟩)
      | true =>
        refine if_pos' rfl ⟨_, rfl, .inl ⟨rfl, _, SqL.of (sz2 _ _ hD2)⟩, _, rfl, D2, us, x, rfl, rfl, SqL.of (sz2 _ _ hD2), tx.flat, flat, rfl, _, rfl, ?_⟩
        by_cases c1 : (us.countP fun z => eqV z x) = 1
        · have g1 : gB us x = true := by unfold gB; rw [w1, decide_eq_true c1]; rfl
          refine if_pos' (decide_eq_true (by rw [c1]; rfl)) ⟨_, rfl, _, hDL2, small, same_put sz2 nDL, ?_⟩
          rw [upd_same, ts, List.filter_append, List.filter_cons_of_pos g1]
          rfl
        · have g0 : gB us x = false := by unfold gB; rw [w1, decide_eq_false c1]; rfl
          exact if_neg' (decide_eq_false fun z => c1 (by have := V.int.inj z; omega)) ⟨sz2, by rw [ts, List.filter_append, List.filter_cons_of_neg (by rw [g0]; decide)]; simpa using hDL2⟩
    obtain ⟨sz, hDL⟩ := g
    rw [List.take_length] at hDL
    have sH := sG.trans sz
    have hD3 := sz _ _ hD2
    have its : ∀ {G : Hp}, ∀ y ∈ us, Av G y ∧ Shr y := fun {G} y hy => (tus y hy).av
    -- is the name a word
    refine ⟨_, rfl, v, rfl, tv, fun G2 s2 => ⟨_, rfl, ?_⟩⟩
    have s2 : Same Gz G2 := s2
    have sH2 := sH.trans s2
    have hD4 := s2 _ _ hD3
    have hDL4 := s2 _ _ hDL
    clear hD2 hD3 hDL sz s2 sH
    cases wv : wdV v with
    | false =>
      refine if_pos' rfl ⟨_, rfl, _, rfl, D2, v, us, rfl, SqL.of hD4, n6, tv.av, its, fus, .inl ⟨wv, fun r G3 s3 hr => ⟨_, rfl, (by show 2 ≤ sizeLine; omega), fun t nt => ?_⟩⟩⟩
      have ly : LyN 1 (.tuple [.str "name", dv v]) := .tup (.cons (.str (by decide +kernel)) (.cons tv.fl.ly .nil))
      refine ⟨.tuple [.str "name", dv v], .tuple [.str "name", dv v], .tup (SqT.of (same_upd nt _ _ hr)) (.cons (.str _) (.cons tv.fl.dp .nil)), .tup (SqT.of upd_same) (.cons (.str _) (.cons tv.fl.dp .nil)), ly.shp (by decide), ly.shp (by decide), ?_⟩
      rw [ly.eq]
      exact fin _ (sH2.trans ((show Same G2 G3 from s3).trans (same_upd nt)))
    | true =>
    refine if_neg' rfl ?_
    have lyu := fls_ly fus
    have lyk : LyN 2 (.tuple [.str "kind", .tuple (us.map dv)]) := .tup (.cons (.str (by decide +kernel)) (.cons (.tup (lyu)) .nil))
    have fgd : ∀ y ∈ us.filter (gB us), Fl y := fun y hy => fus y (List.mem_filter.mp hy).1
    refine ⟨_, rfl, _, rfl, .list ((us.filter (gB us)).map dv), .list (us.map dv), .lst (SqL.of hDL4) (fls_dp fgd), .lst (SqL.of hD4) (fls_dp fus), (LyN.lst (fls_ly fgd)).shp (by decide), (LyN.lst lyu).shp (by decide), _, rfl, ?_⟩
    rw [show PyData.eqv (.list ((us.filter (gB us)).map dv)) (.list (us.map dv)) = decide (us.filter (gB us) = us) from by rw [PyData.eqv, fls_eq fgd fus]]
    by_cases gd : us.filter (gB us) = us
    case neg =>
      have nb : blkB us = false := by
        unfold blkB
        cases q : difV us with
        | false => rw [Bool.and_false]
        | true => exact absurd (gB_dif.mpr q) gd
      refine if_pos' (by rw [decide_eq_false gd]; rfl) (if_pos' rfl ⟨_, rfl, _, rfl, D2, v, us, rfl, SqL.of hD4, n6, tv.av, its, fus, .inr (.inl ⟨wv, nb, fun r ca G3 s3 hca hr => ⟨_, rfl, D2, _, rfl, .inl ⟨SqL.of (s3 _ _ hD4), fun t1 nt1 => ⟨(by show 2 ≤ sizeLine; omega), fun t nt => ?_⟩⟩⟩⟩)⟩)
      have u1 := same_upd (o := .tup us) nt1
      refine ⟨.tuple [.str "kind", .tuple (us.map dv)], .tuple [.str "kind", .tuple (us.map dv)], .tup (SqT.of (same_upd nt _ _ (u1 _ _ hr))) (.cons (.str _) (.cons (.tup (SqT.of (same_upd nt _ _ (u1 _ _ hca))) (fls_dp fus)) .nil)), .tup (SqT.of upd_same) (.cons (.str _) (.cons (.tup (SqT.of (same_upd nt _ _ upd_same)) (fls_dp fus)) .nil)), lyk.shp (by decide), lyk.shp (by decide), ?_⟩
      rw [lyk.eq]
      exact fin _ (sH2.trans ((show Same G2 G3 from s3).trans (u1.trans (same_upd nt))))
    have dif := gB_dif.mp gd
    refine if_neg' (by rw [decide_eq_true gd]; rfl) ⟨_, rfl, D2, _, rfl, .inl (SqL.of hD4), _, _, rfl, rfl, _, rfl, ?_⟩
    have nb0 : ¬ (1 ≤ us.length ∧ us.length ≤ 5) → blkB us = false := fun z => by
      unfold blkB
      rw [← Bool.decide_and, decide_eq_false z]
      rfl
    by_cases a1 : (1 : Int) ≤ (us.length : Int)
    case neg =>
      have nb := nb0 fun z => a1 (by omega)
      refine if_neg' (decide_eq_false a1) ⟨_, rfl, if_pos' rfl ⟨_, rfl, _, rfl, D2, v, us, rfl, SqL.of hD4, n6, tv.av, its, fus, .inr (.inl ⟨wv, nb, fun r ca G3 s3 hca hr => ⟨_, rfl, D2, _, rfl, .inl ⟨SqL.of (s3 _ _ hD4), fun t1 nt1 => ⟨(by show 2 ≤ sizeLine; omega), fun t nt => ?_⟩⟩⟩⟩)⟩⟩
      have u1 := same_upd (o := .tup us) nt1
      refine ⟨.tuple [.str "kind", .tuple (us.map dv)], .tuple [.str "kind", .tuple (us.map dv)], .tup (SqT.of (same_upd nt _ _ (u1 _ _ hr))) (.cons (.str _) (.cons (.tup (SqT.of (same_upd nt _ _ (u1 _ _ hca))) (fls_dp fus)) .nil)), .tup (SqT.of upd_same) (.cons (.str _) (.cons (.tup (SqT.of (same_upd nt _ _ upd_same)) (fls_dp fus)) .nil)), lyk.shp (by decide), lyk.shp (by decide), ?_⟩
      rw [lyk.eq]
      exact fin _ (sH2.trans ((show Same G2 G3 from s3).trans (u1.trans (same_upd nt))))
    refine if_pos' (decide_eq_true a1) ⟨_, _, rfl, rfl, _, rfl, ?_⟩
    by_cases a2 : (us.length : Int) ≤ 5
    case neg =>
      have nb := nb0 fun z => a2 (by omega)
      refine if_pos' (by rw [decide_eq_false a2]; rfl) ⟨_, rfl, _, rfl, D2, v, us, rfl, SqL.of hD4, n6, tv.av, its, fus, .inr (.inl ⟨wv, nb, fun r ca G3 s3 hca hr => ⟨_, rfl, D2, _, rfl, .inl ⟨SqL.of (s3 _ _ hD4), fun t1 nt1 => ⟨(by show 2 ≤ sizeLine; omega), fun t nt => ?_⟩⟩⟩⟩)⟩
      have u1 := same_upd (o := .tup us) nt1
      refine ⟨.tuple [.str "kind", .tuple (us.map dv)], .tuple [.str "kind", .tuple (us.map dv)], .tup (SqT.of (same_upd nt _ _ (u1 _ _ hr))) (.cons (.str _) (.cons (.tup (SqT.of (same_upd nt _ _ (u1 _ _ hca))) (fls_dp fus)) .nil)), .tup (SqT.of upd_same) (.cons (.str _) (.cons (.tup (SqT.of (same_upd nt _ _ upd_same)) (fls_dp fus)) .nil)), lyk.shp (by decide), lyk.shp (by decide), ?_⟩
      rw [lyk.eq]
      exact fin _ (sH2.trans ((show Same G2 G3 from s3).trans (u1.trans (same_upd nt))))
    refine if_neg' (by rw [decide_eq_true a2]; rfl) ?_
    -- a kind of blocks
    have good : blkB us = true := by
      unfold blkB
      rw [dif, decide_eq_true (show 1 ≤ us.length by omega), decide_eq_true (show us.length ≤ 5 by omega)]
      rfl
    have wall : us.all wdV = true := by
      unfold difV at dif
      rw [Bool.and_eq_true] at dif
      exact dif.1
    obtain ⟨ps, rfl⟩ := texts_of wall
    have gw : ∀ {y : Str}, Tx (.str y) → wd y = true → y.length ≤ 12 ∧ PyData.strOk y = true := fun {y} h w => by
      refine ⟨?_, ?_⟩
      · unfold wd at w
        simp only [Bool.and_eq_true, decide_eq_true_eq] at w
        exact w.1.1.1.1.2
      · rcases h.fl with z | ⟨x, e, k⟩
        · cases z
        · cases e; exact k
    have it : ∀ y ∈ ps, y.length ≤ 12 ∧ PyData.strOk y = true := fun y hy => gw (tus (.str y) (List.mem_map.mpr ⟨y, hy, rfl⟩)) (List.all_eq_true.mp wall (.str y) (List.mem_map.mpr ⟨y, hy, rfl⟩))
    obtain ⟨x, rfl⟩ : ∃ x, v = .str x := by
      cases v with
      | str x => exact ⟨x, rfl⟩
      | _ => exact absurd wv (by simp [wdV])
    have wx : wd x = true := wv
    refine ⟨_, rfl, _, rfl, D2, .str x, _, rfl, SqL.of hD4, n6, tv.av, its, fus, .inr (.inr ⟨x, ps, rfl, rfl, wx, good, fun y hy => (it y hy).1, fun r G3 s3 hr => ⟨(by show 2 ≤ sizeLine; omega), fun t nt => ?_⟩⟩)⟩
    have s3 : Same G2 G3 := s3
    have ly : LyN 1 (.tuple [.str "", .none]) := .tup (.cons (.str (by decide +kernel)) (.cons .non .nil))
    refine ⟨.tuple [.str "", .none], .tuple [.str "", .none], .tup (SqT.of (same_upd nt _ _ hr)) (.cons (.str _) (.cons .non .nil)), .tup (SqT.of upd_same) (.cons (.str _) (.cons .non .nil)), ly.shp (by decide), ly.shp (by decide), _, rfl, if_pos' ly.eq ?_⟩
    have s4 := s3.trans (same_upd (o := .tup [.str "", .non]) nt)
    exact ⟨_, rfl, _, rfl, D2, x, ps, rfl, s4 _ _ hD4, wx, good, it, (gw tv wx).2, fun G5 s5 => fin _ (sH2.trans (s4.trans s5))⟩
end
end V4
end

-- V99
section
set_option Elab.async false
set_option linter.all false
set_option maxRecDepth 100000
set_option maxHeartbeats 0
namespace V4
open PySem PySem.Spec PyProof.Rows L2 He HdB HdS OwnOps SupX OwnNe G1 StX GenFor OwnTry
section
variable {P : Program} {w : World} {K : PySem.W.Frag} {mg : Str → Option Value} {base : Heap} {CX : CXT} {k : Nat} {f : Addr} {fd : FuncData} {ps : List Str} {sp : Sp}
theorem fnR_of (F : FnOk P w K mg base CX k f fd ps sp) (hb : L2.Binds K fd ps []) : FnR P w K mg base CX k f sp := fun A outer s H us vs Q E hr e0 r hs => by
  have KX : K.In s.heap := e0.mod.kin.keeps fun b o e => (e0.bs b o e).1
  have len : (us ++ []).length = ps.length := by
    rw [List.append_nil]
    exact r.length.symm.trans (F.len _ _ _ _ hs)
  have b := hb s us KX len
  rw [List.append_nil] at b
  exact F.run A outer s H ⟨us, []⟩ us vs Q E hr e0 b r hs
theorem KB.kc {C DK tp gE CP f gK DX : Addr} (b : KB K C DK tp gE CP f gK DX) : KCls K C := ⟨⟨b.pg, b.hd, b.po, b.sa⟩, b.n1, b.n2, b.n3, b.n4, b.n5, b.n6, b.n7, b.n8⟩
theorem KB.mk_ {C DK tp gE CP f gK DX : Addr} (b : KB K C DK tp gE CP f gK DX) : Mk K C f := ⟨b.mks, b.ini, b.fi, b.kp⟩
theorem glbD {x : Str} {st : Stmt} {h : Heap} (X : K.In h) (G : h.Ns mainGlobals mg) (e : PySem.W.nsIn K mainGlobals x = some (some (.ref f))) (F : ∃ fd, Fun K x x st f fd) (ok : ∀ fd, Fun K x x st f fd → FnOk P w K mg base (L2.CX P w) k f fd ps sp)
    (b : ∀ fd, Fun K x x st f fd → L2.Binds K fd ps []) : Glb P w K mg base x k ps sp :=
  let ⟨fd, F⟩ := F
  ⟨f, fd, PySem.W.mg_of X G e, F.kp, ok fd F, b fd F⟩
theorem empty_tup {a : Addr} (h : (match K.lookup a with | some ⟨.type "tuple", _, .seq its _, _⟩ => its.size == 0 | _ => false) = true) (H : Hp) : SqT K H a [] := by
  cases q : K.lookup a with
  | none => rw [q] at h; cases h
  | some ob =>
    obtain ⟨cl, dd, dt, sl⟩ := ob
    rw [q] at h
    split at h
    · rename_i its n sl2 e
      cases e
      have hz : its.size = 0 := beq_iff_eq.mp h
      have he : its = #[] := Array.eq_empty_of_size_eq_zero hz
      subst he
      exact .inr ⟨_, #[], _, q, rfl, rfl, Nat.zero_le _, .nil⟩
    · cases h
end
set_option maxHeartbeats 0 in
theorem ends {w : World} {K : PySem.W.Frag} {h : Heap} {mg : Str → Option Value} {fa : Addr} (X : K.In h) (G : h.Ns mainGlobals mg) (hfa : mg "law" = some (.ref fa)) (c : SaysS ck fn sn pn K) :
    ∃ fd : FuncData, (∀ (s : Shared) (v : Value), BindsTo s fd ⟨[v], []⟩ [("_law_script", v)]) ∧ ∀ base : Heap, K.In base → base.Ns mainGlobals mg → FnGd.FnG (PySem.Challenge.rw_wishedwires_k74_block_kinds).prog w K mg base (L2.CX (PySem.Challenge.rw_wishedwires_k74_block_kinds).prog w) 10 fa fd ["_law_script"] (spLaw K) := by
  have e := hfa.symm.trans (PySem.W.mg_of X G (c.b.isP 49 (p := Fc49)))
  cases e
  obtain ⟨fdL, FL⟩ : ∃ fd, Fun K "law" "law" sLaw (gaX K "law") fd := funOf (c.b.def_ 13)
  refine ⟨fdL, fun s v => ?_, fun base KX KG => ?_⟩
  · obtain ⟨oc, od, kV, doc, pm, an, cdv, ct, osl, rfl, _, _⟩ := FL.ex
    exact .of_eq rfl
  have T : Bi mg := { isi := PySem.W.mg_none_of KX KG (c.b.isP 50 (p := Fc50)), int := PySem.W.mg_none_of KX KG (c.b.isP 51 (p := Fc51)), str := PySem.W.mg_none_of KX KG (c.b.isP 52 (p := Fc52)), len := PySem.W.mg_none_of KX KG (c.b.isP 53 (p := Fc53)), all := PySem.W.mg_none_of KX KG (c.b.isP 54 (p := Fc54)), set := PySem.W.mg_none_of KX KG (c.b.isP 55 (p := Fc55)), tuple := PySem.W.mg_none_of KX KG (c.b.isP 56 (p := Fc56)), list := PySem.W.mg_none_of KX KG (c.b.isP 57 (p := Fc57)), dict := PySem.W.mg_none_of KX KG (c.b.isP 58 (p := Fc58)), min := PySem.W.mg_none_of KX KG (c.b.isP 59 (p := Fc59)), max := PySem.W.mg_none_of KX KG (c.b.isP 60 (p := Fc60)), range := PySem.W.mg_none_of KX KG (c.b.isP 61 (p := Fc61)), enum := PySem.W.mg_none_of KX KG (c.b.isP 62 (p := Fc62)), zip := PySem.W.mg_none_of KX KG (c.b.isP 63 (p := Fc63)), sorted := PySem.W.mg_none_of KX KG (c.b.isP 64 (p := Fc64)), sup := PySem.W.mg_none_of KX KG (c.b.isP 65 (p := Fc65)) }
  have T2 : Nms mg := { len := PySem.W.mg_none_of KX KG (c.b.isP 53 (p := Fc53)), int := PySem.W.mg_none_of KX KG (c.b.isP 51 (p := Fc51)), str := PySem.W.mg_none_of KX KG (c.b.isP 52 (p := Fc52)), range := PySem.W.mg_none_of KX KG (c.b.isP 61 (p := Fc61)), list := PySem.W.mg_none_of KX KG (c.b.isP 57 (p := Fc57)), tuple := PySem.W.mg_none_of KX KG (c.b.isP 56 (p := Fc56)), repr := PySem.W.mg_none_of KX KG (c.b.isP 66 (p := Fc66)) }
  have Nm : Nums mg := ⟨int_ok KX KG (c.b.isP 23 (p := Fc23)), int_ok KX KG (c.b.isP 24 (p := Fc24)), int_ok KX KG (c.b.isP 25 (p := Fc25))⟩
  have eK := ErrB.txt (c.b.isP 34 (p := Fc34)) (c.b.def_ 17) mg (PySem.W.mg_of KX KG (c.b.isP 34 (p := Fc34)).here)
  have eN := ErrB.txt (c.b.isP 35 (p := Fc35)) (c.b.def_ 18) mg (PySem.W.mg_of KX KG (c.b.isP 35 (p := Fc35)).here)
  have U : RTxt K mg 0 (gaX K "InvalidKind") _ := ⟨eK⟩
  have GW : Glb (PySem.Challenge.rw_wishedwires_k74_block_kinds).prog w K mg base "is_word" 1 ["value"] (spWord) := glbD (st := top 6) KX KG (c.b.isP 36 (p := Fc36)) (funOf (c.b.def_ 0)) (fun fd F => ok_word F T Nm) (fun fd F => F.binds (ps := ["value"]) fun _ _ _ _ _ _ us hl => match us, hl with | [_], _ => rfl)
  have GDi : Glb (PySem.Challenge.rw_wishedwires_k74_block_kinds).prog w K mg base "are_different_words" 2 ["values"] (spDiff K) := glbD (st := top 8) KX KG (c.b.isP 37 (p := Fc37)) (funOf (c.b.def_ 1)) (fun fd F => ok_diff F T GW) (fun fd F => F.binds (ps := ["values"]) fun _ _ _ _ _ _ us hl => match us, hl with | [_], _ => rfl)
  have GWr : Glb (PySem.Challenge.rw_wishedwires_k74_block_kinds).prog w K mg base "_worded" 1 ["words", "tail"] (spWrd K) := glbD (st := top 38) KX KG (c.b.isP 41 (p := Fc41)) (funOf (c.b.def_ 5)) (fun fd F => ok_wrd F) (fun fd F => F.binds (ps := ["words", "tail"]) fun _ _ _ _ _ _ us hl => match us, hl with | [_, _], _ => rfl)
  obtain ⟨fdK, FK⟩ : ∃ fd, Fun K "__init__" "Kind.__init__" (sKi 1) (maX K "Kind" "__init__") fd := funOf (c.b.def_ 14)
  have okK : FnOk (PySem.Challenge.rw_wishedwires_k74_block_kinds).prog w K mg base (L2.CX (PySem.Challenge.rw_wishedwires_k74_block_kinds).prog w) 3 (maX K "Kind" "__init__") fdK ["self", "name"] (spKI K (gaX K "InvalidName")) := ok_ki FK eN GW
  have GKR := fnR_of okK (FK.binds (ps := ["self", "name"]) fun _ _ _ _ _ _ us hl => match us, hl with | [_, _], _ => rfl)
  have GGr : Glb (PySem.Challenge.rw_wishedwires_k74_block_kinds).prog w K mg base "_are_groups" 3 ["swaps", "pins"] (spGrp K) := glbD (st := top 34) KX KG (c.b.isP 38 (p := Fc38)) (funOf (c.b.def_ 2)) (fun fd F => ok_grp F T GDi) (fun fd F => F.binds (ps := ["swaps", "pins"]) fun _ _ _ _ _ _ us hl => match us, hl with | [_, _], _ => rfl)
  have GMa : Glb (PySem.Challenge.rw_wishedwires_k74_block_kinds).prog w K mg base "_mates" 3 ["pin", "pins", "groups"] (spMat K) := glbD (st := top 35) KX KG (c.b.isP 39 (p := Fc39)) (funOf (c.b.def_ 3)) (fun fd F => ok_mat F T) (fun fd F => F.binds (ps := ["pin", "pins", "groups"]) fun _ _ _ _ _ _ us hl => match us, hl with | [_, _, _], _ => rfl)
  have GOr : Glb (PySem.Challenge.rw_wishedwires_k74_block_kinds).prog w K mg base "_orders" 3 ["choices"] (spOrd) := glbD (st := top 36) KX KG (c.b.isP 40 (p := Fc40)) (funOf (c.b.def_ 4)) (fun fd F => ok_ord F T) (fun fd F => F.binds (ps := ["choices"]) fun _ _ _ _ _ _ us hl => match us, hl with | [_], _ => rfl)
  have SG : SupG K (PySem.Challenge.rw_wishedwires_k74_block_kinds).prog := ⟨(c.b.isP 19 (p := Fc19)), (c.b.isP 20 (p := Fc20)), by kernel_rfl⟩
  have SDI : SDef K (PySem.Challenge.rw_wishedwires_k74_block_kinds).prog "PinKind.__init__" (sPin 0) [(("swaps" : Str), V.ref (kwAd K (maX K "PinKind" "__init__") "swaps"))] (maX K "PinKind" "__init__") (gaX K "PinKind") := by
    obtain ⟨oc, od, kV, doc, pm, an, cda, ct, cc, osl, l1, l2, l3, ⟨cl, od2, vs, sl, file, tf, e1, e2, e3⟩, l5⟩ := c.sdef 0
    exact ⟨⟨oc, od, kV, doc, pm, an, cda, ct, cc, osl, l1, l2, l3, ⟨cl, od2, vs, sl, file, tf, e1, e2, beq_iff_eq.mpr e3.symm⟩, l5⟩, (c.b.isP 21 (p := Fc21))⟩
  have SDB : SDef K (PySem.Challenge.rw_wishedwires_k74_block_kinds).prog "BlockKind.__init__" (sBK 0) [] (maX K "BlockKind" "__init__") (gaX K "BlockKind") := by
    obtain ⟨oc, od, kV, doc, pm, an, cda, ct, cc, osl, l1, l2, l3, ⟨cl, od2, vs, sl, file, tf, e1, e2, e3⟩, l5⟩ := c.sdef 1
    exact ⟨⟨oc, od, kV, doc, pm, an, cda, ct, cc, osl, l1, l2, l3, ⟨cl, od2, vs, sl, file, tf, e1, e2, beq_iff_eq.mpr e3.symm⟩, l5⟩, (c.b.isP 22 (p := Fc22))⟩
  obtain ⟨tK1, tK2⟩ := (c.b.isP 18 (p := Fc18))
  obtain ⟨br1, br2⟩ := (c.b.isP 27 (p := Fc27))
  obtain ⟨b5, hb5⟩ := intAt_ok (c.b.isP 28 (p := Fc28))
  have FIn : FnA (PySem.Challenge.rw_wishedwires_k74_block_kinds).prog w K mg base (L2.CX (PySem.Challenge.rw_wishedwires_k74_block_kinds).prog w) 6 (maX K "PinKind" "__init__") (saPin K (gaX K "InvalidName") (gaX K "InvalidKind") (gaX K "PinKind") (maX K "Kind" "__init__") (kwAd K (maX K "PinKind" "__init__") "swaps")) := ok_pin SDI SG T Nm U GKR tK1 tK2 GDi GGr GMa GOr GWr
  have FBl : FnA (PySem.Challenge.rw_wishedwires_k74_block_kinds).prog w K mg base (L2.CX (PySem.Challenge.rw_wishedwires_k74_block_kinds).prog w) 5 (maX K "BlockKind" "__init__") (saBlk K (gaX K "InvalidName") (gaX K "InvalidKind") (gaX K "BlockKind") (maX K "Kind" "__init__")) := ok_blk SDB SG T GKR tK1 tK2 eK (PySem.W.mg_of KX KG (c.b.isP 6 (p := Fc6))) ⟨br1, br2⟩ ⟨hb5, ⟨_, rfl⟩⟩ GDi
  have bB := (c.b.isP 0 (p := Fc0))
  have bP := (c.b.isP 1 (p := Fc1))
  obtain ⟨pk1, pk2⟩ := (c.b.isP 7 (p := Fc7))
  obtain ⟨pb1, pb2⟩ := (c.b.isP 8 (p := Fc8))
  obtain ⟨fdT, FT⟩ : ∃ fd, Fun K "text" "Kind.text" (sKi 4) (pgX K "Kind" "text") fd := funOf (c.pdef 0)
  have okT : FnOk (PySem.Challenge.rw_wishedwires_k74_block_kinds).prog w K mg base (L2.CX (PySem.Challenge.rw_wishedwires_k74_block_kinds).prog w) 1 (pgX K "Kind" "text") fdT ["self"] (spText K (gaX K "PinKind")) := ok_text FT bP.kc
  have bT := (FT.binds (ps := ["self"]) fun _ _ _ _ _ _ us hl => match us, hl with | [_], _ => rfl)
  obtain ⟨fdU, FU⟩ : ∃ fd, Fun K "text" "BlockKind.text" (sBK 1) (pgX K "BlockKind" "text") fd := funOf (c.pdef 1)
  have okU : FnOk (PySem.Challenge.rw_wishedwires_k74_block_kinds).prog w K mg base (L2.CX (PySem.Challenge.rw_wishedwires_k74_block_kinds).prog w) 1 (pgX K "BlockKind" "text") fdU ["self"] (spText K (gaX K "BlockKind")) := ok_btext FU bB.kc
  have bU := (FU.binds (ps := ["self"]) fun _ _ _ _ _ _ us hl => match us, hl with | [_], _ => rfl)
  have KT : KndT K mg (gaX K "Kind") := ⟨(PySem.W.mg_of KX KG (c.b.isP 4 (p := Fc4))), (c.b.isP 11 (p := Fc11)), (c.b.isP 12 (p := Fc12)), (c.b.isP 13 (p := Fc13)) "str" (by simp), (c.b.isP 13 (p := Fc13)) "NoneType" (by simp)⟩
  have cB : KndC K (gaX K "Kind") (maX K "BlockKind" "text") (pgX K "BlockKind" "text") (gaX K "BlockKind") := ⟨bB.kc, ⟨bB.tx, pb1, pb2, recB_ok (c.b.isP 10 (p := Fc10))⟩, bB.ha, bB.hm, bB.kK⟩
  have cP : KndC K (gaX K "Kind") (maX K "Kind" "text") (pgX K "Kind" "text") (gaX K "PinKind") := ⟨bP.kc, ⟨bP.tx, pk1, pk2, recB_ok (c.b.isP 9 (p := Fc9))⟩, bP.ha, bP.hm, bP.kK⟩
  obtain ⟨fdE, FE⟩ : ∃ fd, Fun K "__eq__" "Kind.__eq__" (sKi 5) (maX K "Kind" "__eq__") fd := funOf (c.b.def_ 15)
  have okE : FnOk (PySem.Challenge.rw_wishedwires_k74_block_kinds).prog w K mg base (L2.CX (PySem.Challenge.rw_wishedwires_k74_block_kinds).prog w) 3 (maX K "Kind" "__eq__") fdE ["self", "other"] (spKEq (gaX K "BlockKind") (gaX K "PinKind")) := ok_keq FE T KT cB cP okU bU okT bT
  have bE := (FE.binds (ps := ["self", "other"]) fun _ _ _ _ _ _ us hl => match us, hl with | [_, _], _ => rfl)
  obtain ⟨fdX, FX⟩ : ∃ fd, Fun K "exchanges" "BlockKind.exchanges" (sBK 2) (maX K "BlockKind" "exchanges") fd := funOf (c.b.def_ 16)
  have okX : GFn2 (PySem.Challenge.rw_wishedwires_k74_block_kinds).prog w K mg base 1 (maX K "BlockKind" "exchanges") fdX ["self"] (spExch K) := ok_exch FX
  have bX := (FX.binds (ps := ["self"]) fun _ _ _ _ _ _ us hl => match us, hl with | [_], _ => rfl)
  obtain ⟨x1, x2, x3⟩ := (c.b.isP 17 (p := Fc17))
  have BM : BMe K (gaX K "BlockKind") (gaX K "PinKind") (maX K "Kind" "__eq__") (maX K "BlockKind" "exchanges") := ⟨bB.eq, (c.b.isP 14 (p := Fc14)), bB.ne, bB.nf, (c.b.isP 15 (p := Fc15)), (c.b.isP 16 (p := Fc16)), ⟨x1, x2, x3⟩⟩
  have kg : ∀ {C : Addr}, V4.KG K C → KitG K C := fun b => ⟨b.ic, b.ga, ⟨_, b.gg⟩, b.ex, b.ha, (c.b.isP 11 (p := Fc11)), (c.b.isP 12 (p := Fc12)), b.hm⟩
  have Wi : Wire K mg (gaX K "InvalidName") (gaX K "InvalidKind") (gaX K "WireError") := ⟨(PySem.W.mg_of KX KG (c.b.isP 5 (p := Fc5))), (c.b.isP 29 (p := Fc29)), kg (c.b.isP 32 (p := Fc32)), (c.b.isP 30 (p := Fc30)), kg (c.b.isP 33 (p := Fc33)), (c.b.isP 31 (p := Fc31))⟩
  have GPo : Glb (PySem.Challenge.rw_wishedwires_k74_block_kinds).prog w K mg base "_law_pool" 1 ["_law_script"] (spPool K) := glbD (st := top 72) KX KG (c.b.isP 42 (p := Fc42)) (funOf (c.b.def_ 6)) (fun fd F => ok_pool F T2) (fun fd F => F.binds (ps := ["_law_script"]) fun _ _ _ _ _ _ us hl => match us, hl with | [_], _ => rfl)
  have GNx : Glb (PySem.Challenge.rw_wishedwires_k74_block_kinds).prog w K mg base "_law_next" 1 ["_law_pool_here", "_law_size"] (spNext) := glbD (st := top 73) KX KG (c.b.isP 43 (p := Fc43)) (funOf (c.b.def_ 7)) (fun fd F => ok_next F T2) (fun fd F => F.binds (ps := ["_law_pool_here", "_law_size"]) fun _ _ _ _ _ _ us hl => match us, hl with | [_, _], _ => rfl)
  have GTx : Glb (PySem.Challenge.rw_wishedwires_k74_block_kinds).prog w K mg base "_law_text" 2 ["_law_pool_here"] (spTxt) := glbD (st := top 74) KX KG (c.b.isP 44 (p := Fc44)) (funOf (c.b.def_ 8)) (fun fd F => ok_txt F T GNx) (fun fd F => F.binds (ps := ["_law_pool_here"]) fun _ _ _ _ _ _ us hl => match us, hl with | [_], _ => rfl)
  have GIw : Glb (PySem.Challenge.rw_wishedwires_k74_block_kinds).prog w K mg base "_law_is_word" 1 ["_law_name"] (spIsW) := glbD (st := top 75) KX KG (c.b.isP 45 (p := Fc45)) (funOf (c.b.def_ 9)) (fun fd F => ok_isw F) (fun fd F => F.binds (ps := ["_law_name"]) fun _ _ _ _ _ _ us hl => match us, hl with | [_], _ => rfl)
  have GMd : Glb (PySem.Challenge.rw_wishedwires_k74_block_kinds).prog w K mg base "_law_made" 8 ["_law_name", "_law_ports"] (spMade K (gaX K "InvalidName") (gaX K "InvalidKind") (gaX K "BlockKind")) := glbD (st := top 76) KX KG (c.b.isP 46 (p := Fc46)) (funOf (c.b.def_ 10)) (fun fd F => ok_made F T (PySem.W.mg_of KX KG (c.b.isP 2 (p := Fc2))) bB.mk_ bB.kc bB.so FBl) (fun fd F => F.binds (ps := ["_law_name", "_law_ports"]) fun _ _ _ _ _ _ us hl => match us, hl with | [_, _], _ => rfl)
  have GTo : Glb (PySem.Challenge.rw_wishedwires_k74_block_kinds).prog w K mg base "_law_told" 9 ["_law_name", "_law_ports"] (spTold K) := glbD (st := top 77) KX KG (c.b.isP 47 (p := Fc47)) (funOf (c.b.def_ 11)) (fun fd F => ok_told F T eN eK Wi GMd) (fun fd F => F.binds (ps := ["_law_name", "_law_ports"]) fun _ _ _ _ _ _ us hl => match us, hl with | [_, _], _ => rfl)
  have GIk : Glb (PySem.Challenge.rw_wishedwires_k74_block_kinds).prog w K mg base "_law_is_kind" 9 ["_law_name", "_law_ports"] (spIsK K) := glbD (st := top 78) KX KG (c.b.isP 48 (p := Fc48)) (funOf (c.b.def_ 12)) (fun fd F => ok_isk F T KT cB cP BM okU bU okE bE okX bX (PySem.W.mg_of KX KG (c.b.isP 3 (p := Fc3))) bP.mk_ bP.so (empty_tup (c.b.isP 26 (p := Fc26))) FIn GMd) (fun fd F => F.binds (ps := ["_law_name", "_law_ports"]) fun _ _ _ _ _ _ us hl => match us, hl with | [_, _], _ => rfl)
  exact FnGd.FnG.of (ok_law FL T GPo GNx GTx GIw GTo GIk)
end V4
end

-- V9end
section
set_option Elab.async false
set_option linter.all false
open PySem PySem.W PyProof.Rows
set_option maxRecDepth 100000 in
set_option maxHeartbeats 0 in
theorem PySem.Challenge.cw_wishedwires_k74_block_kinds_holds : PySem.Challenge.rw_wishedwires_k74_block_kinds.Holds := by
  w_on; o_law
  refine HdI.head_imp (r := PySem.W.OpenLaw.row PySem.Challenge.rw_wishedwires_k74_block_kinds) (q := PySem.W.view (PySem.W.OpenLaw.row PySem.Challenge.rw_wishedwires_k74_block_kinds).prog [79]) (H := V4.hk) (ob := V4.ob) (M1 := 3000) (M := 20000) (loose := V4.names) (d := HandSHeadRun.topDef (PySem.W.OpenLaw.row PySem.Challenge.rw_wishedwires_k74_block_kinds).prog 79) (kwd := []) V4.ob_eq
    V4.run (by kernel_rfl) (by kernel_rfl) (by kernel_rfl) (by rfl) (by first | assumption | decide +kernel) (by decide +kernel) ⟨rfl, rfl, rfl, rfl, rfl, by decide +kernel⟩ ?hw ?hc
  case hw => w_witness2
  case hc =>
    refine HdB.walk_ofB (n := 63) (k := 10) (x := "_law_script") (CX := fun w => L2.CX (PySem.Challenge.rw_wishedwires_k74_block_kinds).prog w) rfl (by decide) (by kernel_rfl) ⟨rfl, by decide, by decide⟩ ?F fun w H s e s' z => ?g
    case F =>
      intro w mg fa h Y G hmg
      obtain ⟨K, KX, c⟩ := Y
      have hfa : mg ("law" : PySem.Str) = some (.ref fa) := by
        have e : (HandSHeadRun.topDef (OpenLaw.row PySem.Challenge.rw_wishedwires_k74_block_kinds).prog 79).name = ("law" : PySem.Str) := by kernel_rfl
        rw [← e]
        exact hmg
      obtain ⟨fd, hb, hF⟩ := V4.ends (w := w) KX G hfa c
      exact ⟨K, fd, V4.spLaw K, KX, hb, fun H a ns hl _ hS => ⟨a, ns, rfl, hS, hl, fun _ _ => rfl⟩, hF⟩
    case g =>
      obtain ⟨_, _, _, _, _, _, _, _, _, _, _, _, z⟩ := z
      exact z
end
