import PyProof.Rows.All
import Wide.All
import OpenK.AllK
import Wide.FinOn
import HandS.ForExc
import KE.KOpsOwn
import KE.KCallOwn
import HandS.OwnEq
import KE.KExcInit
import HandS.ExcOwn
import HandS.TryMany
import PyProof.NeKinds
import HandS.ExcValue
import HandS.IsInst
import KE.KExcIs
import HandS.Comp
import HandS.DictComp
import HandS.ListItems
import HandS.Strs
import HandS.Zip
import PyProof.TupleIter
import PyProof.WalksMore
import KE.KSuper
import HandS.Star
import HandS.Nested
import HandS.ForMost
import HandS.Wide
import HandS.Defaults
import HandS.FStr
import HandS.Flow
import HandS.StrMore
import HandS.MapJoin
import HandS.Head0
import HandS.Head1
import HandS.Head2
import HandS.HeadHook1
import HandS.HeadHook2
import HandS.Words
import HandS.Gcd
import HandS.Walk
import HandS.Conv
import HandS.TupAny
import HandS.MethStar
import HandS.Iter
import KE.GoesEnum
import HandS.Property
import KE.KEqSeq
import HandS.GenList
import HandS.GenCall
import PyProof.PlainList
import KE.GoesZip
import KE.GoesMore
import KE.KTurns
import KE.KDictZip
import PySem.Challenge.RW_wishedwires_k05_parts_kept
-- OwnOps
section
set_option Elab.async false
set_option linter.all false
set_option maxRecDepth 100000
/-! Operators of own classes, as rules over values: by this text's own hand. -/
namespace OwnOps
open PySem L2

section
variable {X : Cx} {pins : List (Addr × Obj)} {σ : St} {H : Hp} {s : Shared} {a b C dx dy g : Addr} {fs fs' : List (Str × V)}

theorem inst_at (I : Inv X pins σ H s) (e : H a = some (.ins C dx fs)) : ∃ od, PySem.W.InstAt s.heap a (PySem.W.instObj C dx) C (some od) := by
  obtain ⟨mA, O, _⟩ := ins_get I.hok e
  obtain ⟨od, J, _⟩ := O.look
  exact ⟨od, J⟩

theorem back_of {Q : Value → Shared → Prop} {s' : Shared} {v : V} {u : Value} (r : RelV v u) (q : Q u s') : PySem.W.CmpBack Q u s' := by
  cases v with
  | non => cases (show u = Value.none from r); exact q
  | bl b => cases (show u = Value.bool b from r); exact q
  | int i => obtain ⟨t, rfl⟩ := (show ∃ t, u = Value.int i t from r); exact q
  | str y => obtain ⟨t, rfl⟩ := (show ∃ t, u = Value.str y t from r); exact q
  | byt y => obtain ⟨t, rfl⟩ := (show ∃ t, u = Value.bytes y t from r); exact q
  | flt y => obtain ⟨t, rfl⟩ := (show ∃ t, u = Value.float y t from r); exact q
  | ref c => cases (show u = Value.ref c from r); exact q
  | ty n => cases (show u = Value.type n from r); exact q

variable {CX : CXT} {k : Nat} {fd : FuncData} {ps : List Str} {sp : Sp} {E : XK} {A : Around}

/-- a def's call wherever the builtins around it stand -/
theorem run_any {Q : VK} {us : List Value} {vs : List V} (F : FnOk X.prog X.w X.K X.mg X.base CX k g fd ps sp) (hr : Room k A) (e0 : Env0 X.prog X.w X.K X.mg X.base A X.stack s H)
    (hb : Binds X.K fd ps []) (hx : Passes CX X E) (I : Inv X pins σ H s) (r : Vals vs us) (h : sp vs H Q E) :
    wpAny (model X.prog X.w) A (call (.ref g) us) (EP X pins σ Q) X.xe s := by
  have hl : (us ++ []).length = ps.length := by rw [List.append_nil, ← r.length]; exact F.len _ _ _ _ h
  have hb' := hb s us I.kIn hl
  rw [List.append_nil] at hb'
  refine wpAny_call (codeAny_mono (F.run A X.stack s H ⟨us, []⟩ us vs Q E hr e0 hb' r h) fun res s' hq => ?_)
  cases res with
  | error e => exact hx pins σ H s e s' I hq
  | ok fl =>
    cases fl with
    | ret u => exact I.after hq
    | next => exact False.elim hq
    | brk => exact False.elim hq
    | cont => exact False.elim hq
end

/-- what an own class says of a two-place operator: its def, of this class -/
structure Op2 (K : PySem.W.Frag) (C g : Addr) (nm : String) : Prop where
  at_ : PySem.W.findIn K (.ref C) (PySem.dunder nm) = some (some (.ref g))
  rf : ∃ rc, PySem.W.findIn K (.ref C) (PySem.dunderR nm) = some rc ∧ (rc = none ∨ ∃ q : Addr, rc = some (.ref q))
  fn : PySem.W.isFn K (.ref g) = true
  first : PySem.W.selfFirst K C = true
/-- what is known of a built-in type beside the class at C, for the operator -/
structure Ty2 (K : PySem.W.Frag) (C : Addr) (nm T : String) : Prop where
  lf : ∃ fo, PySem.W.findIn K (.type T) (PySem.dunder nm) = some fo
  rt : ∃ ro, PySem.W.findIn K (.type T) (PySem.dunderR nm) = some ro
  sub : PySem.W.subIn K (.type T) (.ref C) = some false

/-- the reading of x op y by x's own def -/
def rOwn2 (C : Addr) (R : V → Hp → Prop) (sp : Sp) (E : XK) : R2 := fun x y H Q => ∃ a dx fs, x = .ref a ∧ H a = some (.ins C dx fs) ∧ R y H ∧ sp [x, y] H Q E
def RIns (C : Addr) : V → Hp → Prop := fun y H => ∃ b dy fs, y = .ref b ∧ H b = some (.ins C dy fs)
def RInt : V → Hp → Prop := fun y _ => ∃ i, y = .int i

section
variable {X : Cx} {CX : CXT} {C g : Addr} {k : Nat} {fd : FuncData} {ps : List Str} {sp : Sp} {E : XK} {op : Operator} {T : String}

/-- x op y, both of the class at C -/
theorem op_ins (O : Op2 X.K C g op.info.2) (F : FnOk X.prog X.w X.K X.mg X.base CX k g fd ps sp) (hr : Room k X.A) (hb : Binds X.K fd ps []) (hx : Passes CX X E) :
    OpR X (binaryOp op) (rOwn2 C (RIns C) sp E) := by
  intro pins s σ H x y v u Q I rx ry h
  obtain ⟨a, dx, fs, rfl, ha, ⟨b, dy, fs', rfl, hb'⟩, q⟩ := h
  cases (show v = Value.ref a from rx)
  cases (show u = Value.ref b from ry)
  obtain ⟨od, J⟩ := inst_at I ha
  obtain ⟨od', J'⟩ := inst_at I hb'
  obtain ⟨m, hF⟩ := I.fr
  refine PySem.W.binop_K hF I.ok.mod.kin J J'.type O.first O.at_ O.fn ?_
  refine wpAny_mono (run_any (us := [.ref a, .ref b]) (vs := [.ref a, .ref b]) F hr I.env0 hb hx I (.cons rfl (.cons rfl .nil)) q) (fun w s' z => ?_) fun _ _ e => e
  obtain ⟨z', H', I', rz, qz⟩ := id z
  exact back_of rz z

/-- x op y, y of a built-in type that tells its type at once -/
theorem op_val (O : Op2 X.K C g op.info.2) (Y : Ty2 X.K C op.info.2 T) (F : FnOk X.prog X.w X.K X.mg X.base CX k g fd ps sp) (hr : Room k X.A) (hb : Binds X.K fd ps []) (hx : Passes CX X E)
    {R : V → Hp → Prop} (hR : ∀ {y : V} {H : Hp} {u : Value}, R y H → RelV y u → typeOf u = pure (.type T)) :
    OpR X (binaryOp op) (rOwn2 C R sp E) := by
  intro pins s σ H x y v u Q I rx ry h
  obtain ⟨a, dx, fs, rfl, ha, hy, q⟩ := h
  cases (show v = Value.ref a from rx)
  obtain ⟨od, J⟩ := inst_at I ha
  obtain ⟨m, hF⟩ := I.fr
  obtain ⟨fo, hfo⟩ := Y.lf
  obtain ⟨ro, hro⟩ := Y.rt
  obtain ⟨rc, hrc, hp⟩ := O.rf
  refine PySem.W.ksp_binT hF I.ok.mod.kin J (hR hy ry) O.first O.at_ O.fn hrc hp hfo hro Y.sub ?_
  refine wpAny_mono (run_any (us := [.ref a, u]) (vs := [.ref a, y]) F hr I.env0 hb hx I (.cons rfl (.cons ry .nil)) q) (fun w s' z => ?_) fun _ _ e => e
  obtain ⟨z', H', I', rz, qz⟩ := id z
  exact back_of rz z
end
end OwnOps
end

-- OwnOps2
section
set_option Elab.async false
set_option linter.all false
set_option maxRecDepth 100000
namespace OwnOps
open PySem L2

section
variable {prog : Program} {w : World} {A : Around} {E : Value → Shared → Prop} {s : Shared} {K : PySem.W.Frag} {y C f g : Addr} {oy : Obj} {od : Option Obj} {u : Value} {T : String}

/-- u op y by y's reflected def: u's own type has no slot for it, or declines -/
theorem refl_K {op : Operator} {left : Bool} {Q : Value → Shared → Prop} (Y : K.In s.heap) (I : PySem.W.InstAt s.heap y oy C od)
    (ht : PySem.W.Looks (model prog w) s.heap (typeOf u) (.type T)) (hc : PySem.W.selfFirst K C = true)
    (hs : PySem.W.findIn K (.ref C) (PySem.dunder op.info.2) = some (some (.ref f))) (hr : PySem.W.findIn K (.ref C) (PySem.dunderR op.info.2) = some (some (.ref g)))
    (hg : PySem.W.isFn K (.ref g) = true) (hl : PySem.W.Looks (model prog w) s.heap (fillsNumberSlot (.type T) op.info.2) left)
    (hsub : PySem.W.subIn K (.ref C) (.type T) = some false)
    (hd : left = true → ∀ {Q : Option Value → Shared → Prop}, Q none s → wpAny (model prog w) A (tryMethod u (PySem.dunder op.info.2) (.ref y)) Q E s)
    (h : wpAny (model prog w) A (call (.ref g) [.ref y, u]) (PySem.W.CmpBack Q) E s) : wpAny (model prog w) A (binaryOp op u (.ref y)) Q E s := by
  obtain ⟨cd, rest, hcd, hm⟩ := PySem.W.ksp_first hc
  rcases hi : op.info with ⟨sym, nm⟩
  rw [hi] at hs hr hl hd
  dsimp only at hs hr hl hd
  have one := PySem.W.ksp_try Y I hr hg h
  obtain ⟨hh, gg, d, tt, os⟩ := s
  have L1 : PySem.W.Looks (model prog w) hh (typeOf (.ref y)) (.ref C) := I.type
  have L3 : PySem.W.Looks (model prog w) hh (fillsNumberSlot (.ref C) nm) true := PySem.W.fills_K Y hcd hm hs
  have L5 : PySem.W.Looks (model prog w) hh (isSubtype (.ref C) (.type T)) false := PySem.W.looks_subIn Y hsub
  have L7 : PySem.W.Looks (model prog w) hh (numberSlotInPython (.type T) nm) false := PySem.W.Looks.of_pure rfl
  have hne : (Value.type T == Value.ref C) = false := Bool.eq_false_iff.mpr fun q => by cases beq_iff_eq.mp q
  simp only [binaryOp, hi]
  refine wpAny_holding (wpAny_bind ?_)
  unfold binaryOp1
  refine wpAny_bind (ht.at (wpAny_bind (L1.at (wpAny_bind (hl.at ?_)))))
  simp only [hne, Bool.false_eq_true, if_false]
  cases left with
  | false =>
    ksp_lk
    refine wpAny_mono one (fun r s' hr' => ?_) fun _ _ e => e
    obtain ⟨v, rfl, hq⟩ := hr'
    ksp_lk
    exact hq
  | true =>
    ksp_lk
    refine hd rfl ?_
    ksp_lk
    refine wpAny_mono one (fun r s' hr' => ?_) fun _ _ e => e
    obtain ⟨v, rfl, hq⟩ := hr'
    ksp_lk
    exact hq
end
end OwnOps
end

-- OwnOps3
section
set_option Elab.async false
set_option linter.all false
set_option maxRecDepth 100000
namespace OwnOps
open PySem L2

section
variable {prog : Program} {w : World} {A : Around} {E : Value → Shared → Prop} {s : Shared} {K : PySem.W.Frag} {y C f g : Addr} {oy : Obj} {od : Option Obj} {n : Int} {t : Tok}
open MeetsSeq MeetsSeq2 MeetsSeq3 SeqRoads2 AutoSeq1
theorem int_call_add {Q : Value → Shared → Prop} (hy : s.heap.get? y = some oy) (hp : oy.data = .plain) (h : Q .notImplemented s) :
    wpAny (model prog w) A (call (.builtin "int.__add__") [.int n t, .ref y]) Q E s := by
  refine GQ.call_here F.slot_int_add (typeIs_int s n t) F.entry_int_add (F.args_int_add_2 _ _) ?_
  obtain ⟨c, dd, dt, sl⟩ := oy
  cases hp
  obtain ⟨hh, gg, d, tt, os⟩ := s
  wp_walk using wpAny_loadPart' hy
  exact h
theorem int_call_sub {Q : Value → Shared → Prop} (hy : s.heap.get? y = some oy) (hp : oy.data = .plain) (h : Q .notImplemented s) :
    wpAny (model prog w) A (call (.builtin "int.__sub__") [.int n t, .ref y]) Q E s := by
  refine GQ.call_here F.slot_int_sub (typeIs_int s n t) F.entry_int_sub (F.args_int_sub_2 _ _) ?_
  obtain ⟨c, dd, dt, sl⟩ := oy
  cases hp
  obtain ⟨hh, gg, d, tt, os⟩ := s
  wp_walk using wpAny_loadPart' hy
  exact h
theorem int_call_mul {Q : Value → Shared → Prop} (hy : s.heap.get? y = some oy) (hp : oy.data = .plain) (h : Q .notImplemented s) :
    wpAny (model prog w) A (call (.builtin "int.__mul__") [.int n t, .ref y]) Q E s := by
  refine GQ.call_here F.slot_int_mul (typeIs_int s n t) F.entry_int_mul (F.args_int_mul_2 _ _) ?_
  obtain ⟨c, dd, dt, sl⟩ := oy
  cases hp
  obtain ⟨hh, gg, d, tt, os⟩ := s
  wp_walk using wpAny_loadPart' hy
  exact h
theorem bool_call_mul {k : Bool} {Q : Value → Shared → Prop} (hy : s.heap.get? y = some oy) (hp : oy.data = .plain) (h : Q .notImplemented s) :
    wpAny (model prog w) A (call (.builtin "int.__mul__") [.bool k, .ref y]) Q E s := by
  refine GQ.call_here F.slot_bool_mul (typeIs_bool s k) F.entry_int_mul (F.args_int_mul_2 _ _) ?_
  obtain ⟨c, dd, dt, sl⟩ := oy
  cases hp
  obtain ⟨hh, gg, d, tt, os⟩ := s
  wp_walk using wpAny_loadPart' hy
  exact h
/-- how an int meets an instance of no built-in kind -/
theorem int_cmp_eq {Q : Value → Shared → Prop} (hy : s.heap.get? y = some oy) (hp : oy.data = .plain) (h : Q .notImplemented s) :
    wpAny (model prog w) A (call (.builtin "int.__eq__") [.int n t, .ref y]) Q E s := by
  refine GQ.call_here F.slot_int_eq (typeIs_int s n t) F.entry_int_eq (F.args_int_eq_2 _ _) ?_
  obtain ⟨c, dd, dt, sl⟩ := oy
  cases hp
  obtain ⟨hh, gg, d, tt, os⟩ := s
  wp_walk using wpAny_loadPart' hy
  exact h
theorem int_cmp_ne {Q : Value → Shared → Prop} (hy : s.heap.get? y = some oy) (hp : oy.data = .plain) (h : Q .notImplemented s) :
    wpAny (model prog w) A (call (.builtin "int.__ne__") [.int n t, .ref y]) Q E s := by
  refine GQ.call_here F.slot_int_ne (typeIs_int s n t) F.entry_int_ne (F.args_int_ne_2 _ _) ?_
  obtain ⟨c, dd, dt, sl⟩ := oy
  cases hp
  obtain ⟨hh, gg, d, tt, os⟩ := s
  wp_walk using wpAny_loadPart' hy
  exact h
theorem int_cmp_lt {Q : Value → Shared → Prop} (hy : s.heap.get? y = some oy) (hp : oy.data = .plain) (h : Q .notImplemented s) :
    wpAny (model prog w) A (call (.builtin "int.__lt__") [.int n t, .ref y]) Q E s := by
  refine GQ.call_here F.slot_int_lt (typeIs_int s n t) F.entry_int_lt (F.args_int_lt_2 _ _) ?_
  obtain ⟨c, dd, dt, sl⟩ := oy
  cases hp
  obtain ⟨hh, gg, d, tt, os⟩ := s
  wp_walk using wpAny_loadPart' hy
  exact h
theorem int_cmp_le {Q : Value → Shared → Prop} (hy : s.heap.get? y = some oy) (hp : oy.data = .plain) (h : Q .notImplemented s) :
    wpAny (model prog w) A (call (.builtin "int.__le__") [.int n t, .ref y]) Q E s := by
  refine GQ.call_here F.slot_int_le (typeIs_int s n t) F.entry_int_le (F.args_int_le_2 _ _) ?_
  obtain ⟨c, dd, dt, sl⟩ := oy
  cases hp
  obtain ⟨hh, gg, d, tt, os⟩ := s
  wp_walk using wpAny_loadPart' hy
  exact h
theorem int_cmp_gt {Q : Value → Shared → Prop} (hy : s.heap.get? y = some oy) (hp : oy.data = .plain) (h : Q .notImplemented s) :
    wpAny (model prog w) A (call (.builtin "int.__gt__") [.int n t, .ref y]) Q E s := by
  refine GQ.call_here F.slot_int_gt (typeIs_int s n t) F.entry_int_gt (F.args_int_gt_2 _ _) ?_
  obtain ⟨c, dd, dt, sl⟩ := oy
  cases hp
  obtain ⟨hh, gg, d, tt, os⟩ := s
  wp_walk using wpAny_loadPart' hy
  exact h
theorem int_cmp_ge {Q : Value → Shared → Prop} (hy : s.heap.get? y = some oy) (hp : oy.data = .plain) (h : Q .notImplemented s) :
    wpAny (model prog w) A (call (.builtin "int.__ge__") [.int n t, .ref y]) Q E s := by
  refine GQ.call_here F.slot_int_ge (typeIs_int s n t) F.entry_int_ge (F.args_int_ge_2 _ _) ?_
  obtain ⟨c, dd, dt, sl⟩ := oy
  cases hp
  obtain ⟨hh, gg, d, tt, os⟩ := s
  wp_walk using wpAny_loadPart' hy
  exact h
end
/-- int op instance, declined -/
def IntDec (op : CmpOp) : Prop := ∀ {prog : Program} {w : World} {A : Around} {E : Value → Shared → Prop} {s : Shared} {y : Addr} {oy : Obj} {n : Int} {t : Tok} {Q : Option Value → Shared → Prop}, s.heap.get? y = some oy → oy.data = .plain → Q none s →
  wpAny (model prog w) A (tryCompare (.int n t) (cmpInfo op).2.1 (.ref y)) Q E s
theorem dec_eq : IntDec .Eq := fun hy hp h => wpAny_tryCompare_declines (typeIs_int _ _ _) F.slot_int_eq (int_cmp_eq hy hp ⟨rfl, h⟩)
theorem dec_ne : IntDec .NotEq := fun hy hp h => wpAny_tryCompare_declines (typeIs_int _ _ _) F.slot_int_ne (int_cmp_ne hy hp ⟨rfl, h⟩)
theorem dec_lt : IntDec .Lt := fun hy hp h => wpAny_tryCompare_declines (typeIs_int _ _ _) F.slot_int_lt (int_cmp_lt hy hp ⟨rfl, h⟩)
theorem dec_le : IntDec .LtE := fun hy hp h => wpAny_tryCompare_declines (typeIs_int _ _ _) F.slot_int_le (int_cmp_le hy hp ⟨rfl, h⟩)
theorem dec_gt : IntDec .Gt := fun hy hp h => wpAny_tryCompare_declines (typeIs_int _ _ _) F.slot_int_gt (int_cmp_gt hy hp ⟨rfl, h⟩)
theorem dec_ge : IntDec .GtE := fun hy hp h => wpAny_tryCompare_declines (typeIs_int _ _ _) F.slot_int_ge (int_cmp_ge hy hp ⟨rfl, h⟩)
def IntDecB (op : Operator) : Prop := ∀ {prog : Program} {w : World} {A : Around} {E : Value → Shared → Prop} {s : Shared} {y : Addr} {oy : Obj} {n : Int} {t : Tok} {Q : Option Value → Shared → Prop}, s.heap.get? y = some oy → oy.data = .plain → Q none s →
  wpAny (model prog w) A (tryMethod (.int n t) (PySem.dunder op.info.2) (.ref y)) Q E s
theorem dec_add : IntDecB .Add := by
  intro prog w A E s y oy n t Q hy hp h
  show wpAny (model prog w) A (tryMethod (.int n t) (PySem.dunder "add") (.ref y)) Q E s
  have hc : wpAny (model prog w) A (call (.builtin "int.__add__") [.int n t, .ref y]) (fun v s' => v = .notImplemented ∧ Q none s') E s := int_call_add hy hp ⟨rfl, h⟩
  exact wpAny_tryMethod_declines (name := PySem.dunder "add") (id := "int.__add__") (typeIs_int s n t) F.slot_int_add hc
theorem dec_sub : IntDecB .Sub := by
  intro prog w A E s y oy n t Q hy hp h
  show wpAny (model prog w) A (tryMethod (.int n t) (PySem.dunder "sub") (.ref y)) Q E s
  have hc : wpAny (model prog w) A (call (.builtin "int.__sub__") [.int n t, .ref y]) (fun v s' => v = .notImplemented ∧ Q none s') E s := int_call_sub hy hp ⟨rfl, h⟩
  exact wpAny_tryMethod_declines (name := PySem.dunder "sub") (id := "int.__sub__") (typeIs_int s n t) F.slot_int_sub hc
theorem dec_mul : IntDecB .Mult := by
  intro prog w A E s y oy n t Q hy hp h
  show wpAny (model prog w) A (tryMethod (.int n t) (PySem.dunder "mul") (.ref y)) Q E s
  have hc : wpAny (model prog w) A (call (.builtin "int.__mul__") [.int n t, .ref y]) (fun v s' => v = .notImplemented ∧ Q none s') E s := int_call_mul hy hp ⟨rfl, h⟩
  exact wpAny_tryMethod_declines (name := PySem.dunder "mul") (id := "int.__mul__") (typeIs_int s n t) F.slot_int_mul hc

section
variable {prog : Program} {w : World} {A : Around} {E : Value → Shared → Prop} {s : Shared} {K : PySem.W.Frag} {y C f g : Addr} {oy : Obj} {od : Option Obj} {n : Int} {t : Tok}
/-- n op y by y's def for the comparison turned round -/
theorem cmp_refl {op : CmpOp} {Q : Value → Shared → Prop} (hu : A.units < cLine) (Y : K.In s.heap) (I : PySem.W.InstAt s.heap y oy C od) (hp : oy.data = .plain) (dec : IntDec op)
    (hsub : PySem.W.subIn K (.ref C) (.type "int") = some false) (hr : PySem.W.findIn K (.ref C) (cmpInfo op).2.2 = some (some (.ref g))) (hg : PySem.W.isFn K (.ref g) = true)
    (h : wpAny (model prog w) A (call (.ref g) [.ref y, .int n t]) (PySem.W.CmpBack Q) E s) : wpAny (model prog w) A (richCompare op (.int n t) (.ref y)) Q E s := by
  have one : wpAny (model prog w) A (tryCompare (.ref y) (cmpInfo op).2.2 (.int n t)) (fun r s' => ∃ v, r = some v ∧ Q v s') E s := by
    unfold tryCompare
    refine wpAny_bind (PySem.W.ifBound_K Y I hr hg (wpAny_mono h (fun v s' hv => ?_) fun _ _ e => e))
    cases v <;> first | exact hv.elim | exact wpAny_pure ⟨_, rfl, hv⟩
  have h1 : oneThing? op (.int n t) (.ref y) = none := rfl
  have hne : (Value.type "int" != Value.ref C) = true := rfl
  unfold richCompare
  simp only [h1]
  refine wpAny_holding (wpAny_bind (wpAny_cRoomFor hu ?_))
  refine wpAny_bind ((PySem.W.Looks.of_pure rfl : PySem.W.Looks (model prog w) s.heap (typeOf (.int n t)) (.type "int")).here (wpAny_bind (I.type.here ?_)))
  rw [hne]
  simp only [if_true]
  refine wpAny_bind ((PySem.W.looks_subIn Y hsub).here ?_)
  simp only [Bool.false_eq_true, if_false]
  refine wpAny_bind (dec I.at_ hp ?_)
  simp only [Bool.not_false, if_true]
  refine wpAny_bind (wpAny_mono one (fun r s' z => ?_) fun _ _ e => e)
  obtain ⟨v, rfl, hq⟩ := z
  exact wpAny_pure hq
end
end OwnOps
end

-- OwnOps4
section
set_option Elab.async false
set_option linter.all false
set_option maxRecDepth 100000
namespace OwnOps
open PySem L2

section
variable {X : Cx} {CX : CXT} {C g f : Addr} {k : Nat} {fd : FuncData} {ps : List Str} {sp : Sp} {E : XK} {op : Operator} {T : String}

/-- the reading of n op y by y's def -/
def rRef2 (C : Addr) (sp : Sp) (E : XK) : R2 := fun x y H Q => ∃ (i : Int) (b dy : Addr) (fs : List (Str × V)), x = .int i ∧ y = .ref b ∧ H b = some (.ins C dy fs) ∧ sp [y, x] H Q E

theorem op_refl {nm : String} (hnm : op.info.2 = nm) (O : Op2 X.K C f nm) (hrf : PySem.W.findIn X.K (.ref C) (PySem.dunderR nm) = some (some (.ref g))) (hg : PySem.W.isFn X.K (.ref g) = true) (hl : fillsNumberSlot (.type "int") nm = pure true)
    (hsub : PySem.W.subIn X.K (.ref C) (.type "int") = some false) (dec : IntDecB op)
    (F : FnOk X.prog X.w X.K X.mg X.base CX k g fd ps sp) (hr : Room k X.A) (hb : Binds X.K fd ps []) (hx : Passes CX X E) : OpR X (binaryOp op) (rRef2 C sp E) := by
  subst hnm
  intro pins s σ H x y v u Q I rx ry h
  obtain ⟨i, b, dy, fs, rfl, rfl, hb', q⟩ := h
  obtain ⟨t, rfl⟩ := (show ∃ t, v = Value.int i t from rx)
  cases (show u = Value.ref b from ry)
  obtain ⟨od, J⟩ := inst_at I hb'
  refine refl_K I.kIn J (PySem.W.Looks.of_pure rfl) O.first O.at_ hrf hg (PySem.W.Looks.of_pure hl) hsub (fun _ Q' q' => dec J.at_ rfl q') ?_
  refine wpAny_mono (run_any (us := [.ref b, .int i t]) (vs := [.ref b, .int i]) F hr I.env0 hb hx I (.cons rfl (.cons ⟨t, rfl⟩ .nil)) q) (fun w s' z => ?_) fun _ _ e => e
  obtain ⟨z', H', I', rz, qz⟩ := id z
  exact back_of rz z

/-- x op y (a comparison), x of the class at C -/
theorem cmp_own {op : CmpOp} (hop : ∀ a b, compareOp op a b = richCompare op a b) (hs : PySem.W.findIn X.K (.ref C) (cmpInfo op).2.1 = some (some (.ref g))) (hf : PySem.W.isFn X.K (.ref g) = true)
    (F : FnOk X.prog X.w X.K X.mg X.base CX k g fd ps sp) (hr : Room k X.A) (hb : Binds X.K fd ps []) (hx : Passes CX X E)
    {R : V → Hp → Prop} (hR : ∀ {y : V} {H : Hp} {u : Value} {pins : List (Addr × Obj)} {σ : St} {s : Shared}, L2.Inv X pins σ H s → R y H → RelV y u → ∃ tb, PySem.W.Looks (model X.prog X.w) s.heap (typeOf u) tb ∧ PySem.W.notFirst X.K C tb = true) :
    OpR X (compareOp op) (rOwn2 C R sp E) := by
  intro pins s σ H x y v u Q I rx ry h
  obtain ⟨a, dx, fs, rfl, ha, hy, q⟩ := h
  cases (show v = Value.ref a from rx)
  obtain ⟨od, J⟩ := inst_at I ha
  obtain ⟨m, hF⟩ := I.fr
  obtain ⟨tb, ht, hn⟩ := hR I hy ry
  rw [hop]
  refine PySem.W.cmp_K (op := op) hr.units0 hF I.ok.mod.kin J ht hn hs hf ?_
  refine wpAny_mono (run_any (us := [.ref a, u]) (vs := [.ref a, y]) F hr I.env0 hb hx I (.cons rfl (.cons ry .nil)) q) (fun w s' z => ?_) fun _ _ e => e
  obtain ⟨z', H', I', rz, qz⟩ := id z
  exact back_of rz z
theorem looks_ins (hsame : PySem.W.notFirst X.K C (.ref C) = true) {y : V} {H : Hp} {u : Value} {pins : List (Addr × Obj)} {σ : St} {s : Shared} (I : L2.Inv X pins σ H s) (h : RIns C y H) (ry : RelV y u) :
    ∃ tb, PySem.W.Looks (model X.prog X.w) s.heap (typeOf u) tb ∧ PySem.W.notFirst X.K C tb = true := by
  obtain ⟨b, dy, fs, rfl, hb⟩ := h
  cases (show u = Value.ref b from ry)
  obtain ⟨od, J⟩ := inst_at I hb
  exact ⟨_, J.type, hsame⟩
theorem looks_int (hi : PySem.W.notFirst X.K C (.type "int") = true) {y : V} {H : Hp} {u : Value} {pins : List (Addr × Obj)} {σ : St} {s : Shared} (I : L2.Inv X pins σ H s) (h : RInt y H) (ry : RelV y u) :
    ∃ tb, PySem.W.Looks (model X.prog X.w) s.heap (typeOf u) tb ∧ PySem.W.notFirst X.K C tb = true := by
  obtain ⟨i, rfl⟩ := h
  obtain ⟨t, rfl⟩ := (show ∃ t, u = Value.int i t from ry)
  exact ⟨_, PySem.W.Looks.of_pure rfl, hi⟩

theorem cmp_refl2 {op : CmpOp} (hop : ∀ a b, compareOp op a b = richCompare op a b) (dec : IntDec op) (hs : PySem.W.findIn X.K (.ref C) (cmpInfo op).2.2 = some (some (.ref g))) (hf : PySem.W.isFn X.K (.ref g) = true)
    (hsub : PySem.W.subIn X.K (.ref C) (.type "int") = some false)
    (F : FnOk X.prog X.w X.K X.mg X.base CX k g fd ps sp) (hr : Room k X.A) (hb : Binds X.K fd ps []) (hx : Passes CX X E) : OpR X (compareOp op) (rRef2 C sp E) := by
  intro pins s σ H x y v u Q I rx ry h
  obtain ⟨i, b, dy, fs, rfl, rfl, hb', q⟩ := h
  obtain ⟨t, rfl⟩ := (show ∃ t, v = Value.int i t from rx)
  cases (show u = Value.ref b from ry)
  obtain ⟨od, J⟩ := inst_at I hb'
  rw [hop]
  refine cmp_refl hr.units0 I.kIn J rfl dec hsub hs hf ?_
  refine wpAny_mono (run_any (us := [.ref b, .int i t]) (vs := [.ref b, .int i]) F hr I.env0 hb hx I (.cons rfl (.cons ⟨t, rfl⟩ .nil)) q) (fun w s' z => ?_) fun _ _ e => e
  obtain ⟨z', H', I', rz, qz⟩ := id z
  exact back_of rz z

/-- one-place: what x's own def hands back -/
def rOwn1 (C : Addr) (sp : Sp) (E : XK) (R : V → Prop) : V → Hp → VK → Prop := fun x H Q => ∃ a dx fs, x = .ref a ∧ H a = some (.ins C dx fs) ∧ sp [x] H (fun z H' => R z ∧ Q z H') E
theorem neg_own (hs : PySem.W.findIn X.K (.ref C) "__neg__" = some (some (.ref g))) (hf : PySem.W.isFn X.K (.ref g) = true)
    (F : FnOk X.prog X.w X.K X.mg X.base CX k g fd ps sp) (hr : Room k X.A) (hb : Binds X.K fd ps []) (hx : Passes CX X E) : UnR X (unaryOp .USub) (rOwn1 C sp E fun _ => True) := by
  intro pins s σ H x v Q I rx h
  obtain ⟨a, dx, fs, rfl, ha, q⟩ := h
  cases (show v = Value.ref a from rx)
  obtain ⟨od, J⟩ := inst_at I ha
  obtain ⟨m, hF⟩ := I.fr
  refine PySem.W.ksp_neg hF I.ok.mod.kin J hs hf ?_
  refine wpAny_mono (run_any (us := [.ref a]) (vs := [.ref a]) F hr I.env0 hb hx I (.cons rfl .nil) q) (fun w s' z => ?_) fun _ _ e => e
  obtain ⟨z', H', I', rz, _, qz⟩ := z
  exact ⟨z', H', I', rz, qz⟩

open Builtin in
theorem abs_K {prog : Program} {w : World} {A : Around} {E : Value → Shared → Prop} {s : Shared} {K : PySem.W.Frag} {x C f : Addr} {ox : Obj} {od : Option Obj} {Q : Value → Shared → Prop} (Y : K.In s.heap) (I : PySem.W.InstAt s.heap x ox C od)
    (hs : PySem.W.findIn K (.ref C) "__abs__" = some (some (.ref f))) (hf : PySem.W.isFn K (.ref f) = true)
    (h : wpAny (model prog w) A.in1 (call (.ref f) [.ref x]) Q E s) : wpAny (model prog w) A (call (.builtin "abs") [.ref x]) Q E s := by
  refine Calls.call_function_entry PyProof.Rows.kind_abs PyProof.Rows.plain_abs PyProof.Rows.entry_abs (PyProof.Rows.args_abs _) ?_
  unfold Builtin.«abs»
  refine wpAny_bind (m := oneArg "abs" _) (wpAny_pure ?_)
  refine wpAny_bind (m := callSpecial? (.ref x) (Str.ofString "__abs__")) (PySem.W.special_fn Y I hs (beq_iff_eq.mp hf) (wpAny_mono h (fun r s' z => ?_) fun _ _ e => e))
  exact wpAny_pure ⟨_, rfl, z⟩

theorem room2 {k : Nat} {A : Around} (r : Room (k + 2) A) : Room k A.in1.in1 := (Room.in1 (r.in1))

theorem call_absO (hs : PySem.W.findIn X.K (.ref C) "__abs__" = some (some (.ref g))) (hf : PySem.W.isFn X.K (.ref g) = true)
    (F : FnOk X.prog X.w X.K X.mg X.base CX k g fd ps sp) (hr : Room (k + 1) X.A) (hb : Binds X.K fd ps []) (hx : Passes CX X E) : CallR X (.builtin "abs") (fun xs H Q => ∃ x, xs = [x] ∧ rOwn1 C sp E (fun _ => True) x H Q) := by
  intro pins s σ H xs us Q I rx h
  obtain ⟨x, rfl, a, dx, fs, rfl, ha, q⟩ := h
  obtain ⟨u, rfl, ru⟩ := vals1 rx
  cases (show u = Value.ref a from ru)
  obtain ⟨od, J⟩ := inst_at I ha
  refine abs_K I.kIn J hs hf ?_
  refine wpAny_mono (run_any (us := [.ref a]) (vs := [.ref a]) F hr.in1 I.env0.in1 hb hx I (.cons rfl .nil) q) (fun w s' z => ?_) fun _ _ e => e
  obtain ⟨z', H', I', rz, _, qz⟩ := z
  exact ⟨z', H', I', rz, qz⟩

def IsStr : V → Prop := fun z => ∃ y, z = .str y
theorem strback {Q : Value → Shared → Prop} {z : V} {u : Value} {s' : Shared} (hz : IsStr z) (r : RelV z u) (q : Q u s') : PySem.W.StrBack Q u s' := by
  obtain ⟨y, rfl⟩ := hz
  obtain ⟨t, rfl⟩ := (show ∃ t, u = Value.str y t from r)
  exact q
theorem call_reprO (hs : PySem.W.findIn X.K (.ref C) "__repr__" = some (some (.ref g))) (hf : PySem.W.isFn X.K (.ref g) = true)
    (F : FnOk X.prog X.w X.K X.mg X.base CX k g fd ps sp) (hr : Room (k + 1) X.A) (hb : Binds X.K fd ps []) (hx : Passes CX X E) : CallR X (.builtin "repr") (fun xs H Q => ∃ x, xs = [x] ∧ rOwn1 C sp E IsStr x H Q) := by
  intro pins s σ H xs us Q I rx h
  obtain ⟨x, rfl, a, dx, fs, rfl, ha, q⟩ := h
  obtain ⟨u, rfl, ru⟩ := vals1 rx
  cases (show u = Value.ref a from ru)
  obtain ⟨od, J⟩ := inst_at I ha
  obtain ⟨m, hF⟩ := I.fr
  refine PySem.W.repr_K hr.in1.units0 hF I.ok.mod.kin J hs hf ?_
  refine wpAny_mono (run_any (us := [.ref a]) (vs := [.ref a]) F hr.in1 I.env0.in1 hb hx I (.cons rfl .nil) q) (fun w s' z => ?_) fun _ _ e => e
  obtain ⟨z', H', I', rz, hz, qz⟩ := z
  exact strback hz rz ⟨z', H', I', rz, qz⟩
theorem call_strO (hs : PySem.W.findIn X.K (.ref C) "__str__" = some (some (.ref g))) (hf : PySem.W.isFn X.K (.ref g) = true)
    (F : FnOk X.prog X.w X.K X.mg X.base CX k g fd ps sp) (hr : Room (k + 2) X.A) (hb : Binds X.K fd ps []) (hx : Passes CX X E) : CallR X (.type "str") (fun xs H Q => ∃ x, xs = [x] ∧ rOwn1 C sp E IsStr x H Q) := by
  intro pins s σ H xs us Q I rx h
  obtain ⟨x, rfl, a, dx, fs, rfl, ha, q⟩ := h
  obtain ⟨u, rfl, ru⟩ := vals1 rx
  cases (show u = Value.ref a from ru)
  obtain ⟨od, J⟩ := inst_at I ha
  refine PySem.W.kso_call (room2 hr).units0 I.kIn J hs hf ?_
  refine wpAny_mono (run_any (us := [.ref a]) (vs := [.ref a]) F (room2 hr) I.env0.in1.in1 hb hx I (.cons rfl .nil) q) (fun w s' z => ?_) fun _ _ e => e
  obtain ⟨z', H', I', rz, hz, qz⟩ := z
  exact strback hz rz ⟨z', H', I', rz, qz⟩

open Builtin in
theorem bool_K {prog : Program} {w : World} {A : Around} {E : Value → Shared → Prop} {s : Shared} {K : PySem.W.Frag} {x C f : Addr} {ox : Obj} {od : Option Obj} {Q : Value → Shared → Prop} {m : Str → Option Value} {h₀ : Heap} {L : Addr} (F : PyProof.Rows.Fr h₀ L s.heap m) (Y : K.In h₀) (I : PySem.W.InstAt s.heap x ox C od)
    (hs : PySem.W.findIn K (.ref C) "__bool__" = some (some (.ref f))) (hf : PySem.W.isFn K (.ref f) = true)
    (h : wpAny (model prog w) A.in1.in1 (call (.ref f) [.ref x]) (PySem.W.BoolBack fun b s' => Q (.bool b) s') E s) : wpAny (model prog w) A (call (.type "bool") [.ref x]) Q E s := by
  refine callType_codes (T := "bool") (Bi := Builtin.«object.__init__») (Q₁ := fun r s₁ => ∃ y, r = .bool y ∧ Q r s₁) PySem.F.called_bool (PySem.F.typeCall_bool_1 _) PySem.F.entry_object_init ?_ ?_
  · refine codeAny_of_tree ?_
    show wpAny _ A.in1.in1 (do checkBuiltinCall "bool.__new__" ⟨[.type "bool", .ref x], []⟩; again (.builtin "bool.__new__" ⟨[.type "bool", .ref x], []⟩)) _ _ s
    refine wpAny_bind (wpAny_of_eq (PySem.F.newCall_bool_1 _) (wpAny_pure ⟨plainId_quiet (by decide +kernel) _, codeAny_builtin PySem.F.entry_bool_new ?_⟩))
    rw [Around.under_plainId (by decide +kernel) _]
    have key : wpAny (model prog w) A.in1.in1 (truthy (.ref x)) (fun b s₁ => Q (.bool b) s₁) E s := PySem.W.truthy_K F Y I hs hf h
    have f1 := PySem.F.conv_sub_bool
    obtain ⟨hp, gg, d, tk, os⟩ := s
    repeat (any_goals (first | assumption | (with_reducible refine wpAny_bind (wpAny_mono key (fun b s1 z => ?_) fun _ _ e => e)) | wp_step))
    all_goals first | exact ⟨_, rfl, z⟩ | exact ⟨_, rfl, _, rfl, z⟩ | skip
  · rintro obj s₁ ⟨y, rfl, hq⟩
    exact ⟨typeIs_bool _ _, PySem.F.args_object_init_2 _ _, object_init_meets PySem.F.called_bool.init.lookup PySem.F.called_bool.made (by decide) prog w A.in1 _ s₁ ⟨typeIs_bool _ _, rfl, hq⟩⟩
end
end OwnOps
end

-- GivErr
section
set_option Elab.async false
set_option linter.all false
set_option maxRecDepth 100000
set_option maxHeartbeats 2000000
/-! An own error class, over any of three built-in ones, that keeps its one argument in the field `given`. -/
namespace PySem
namespace Giv
open PySem.W PySem.Calls PyProof.Rows PySem.HandSPX Builtin Builtin.ObjectAttr
/-- own classes, then the given tail -/
def tailIs (bt : List Value) : List Value → Bool
  | .ref _ :: r => tailIs bt r
  | l => l == bt
theorem tail_cases (bt : List Value) : ∀ l : List Value, tailIs bt l = true → (∃ c r, l = .ref c :: r ∧ tailIs bt r = true) ∨ l = bt := fun l e => by
  cases l with
  | nil => exact .inr (beq_iff_eq.mp e)
  | cons a r => cases a <;> first | exact .inl ⟨_, _, rfl, e⟩ | exact .inr (beq_iff_eq.mp e)
theorem tail_pass {bt : List Value} (hb : ∀ self, refuseLoop self "__setattr__" bt = pure ()) (self : Value) : ∀ l : List Value, tailIs bt l = true → refuseLoop self "__setattr__" l = pure () := fun l => by
  induction l with
  | nil => intro e; rcases tail_cases bt _ e with ⟨_, _, q, _⟩ | q; cases q; rw [q]; exact hb self
  | cons a r ih =>
    intro e
    rcases tail_cases bt (a :: r) e with ⟨c, r', q, h⟩ | q
    · cases q; rw [refuseLoop_ref]; exact ih h
    · rw [q]; exact hb self
theorem tail_has {bt : List Value} (Y : String) : ∀ l : List Value, tailIs bt l = true → l.contains (.type Y) = bt.contains (.type Y) := fun l => by
  induction l with
  | nil => intro e; rcases tail_cases bt _ e with ⟨_, _, q, _⟩ | q; cases q; rw [q]
  | cons a r ih =>
    intro e
    rcases tail_cases bt (a :: r) e with ⟨c, r', q, h⟩ | q
    · cases q; rw [List.contains_cons, ih h]; rfl
    · rw [q]
/-- what is used of the built-in base -/
structure BaseOk (B newId initId : String) (bt : List Value) : Prop where
  facts : ExcBaseFacts B newId initId bt
  pass : ∀ self, refuseLoop self "__setattr__" bt = pure ()
  obj : bt.contains (.type "object") = true
theorem ok_VE : BaseOk "ValueError" "ValueError.__new__" "ValueError.__init__" [.type "ValueError", .type "Exception", .type "BaseException", .type "object"] :=
  ⟨F.excBase_ValueError, fun self => F.store_ValueError.passes self, by decide +kernel⟩
theorem ok_ZD : BaseOk "ZeroDivisionError" "ZeroDivisionError.__new__" "ZeroDivisionError.__init__" [.type "ZeroDivisionError", .type "ArithmeticError", .type "Exception", .type "BaseException", .type "object"] :=
  ⟨F.excBase_ZeroDivisionError, fun self => F.store_ZeroDivisionError.passes self, by decide +kernel⟩

section
variable {prog : Program} {w : World} {A : Around} {E : Value → Shared → Prop} {R : Result → Shared → Prop} {hp : Heap} {g : Array GenState} {d : Drawn} {t : Nat} {os : OsState}
/-- self.name = v on a new exception -/
theorem osa_giv {K : W.Frag} {name : Str} {tk : Tok} {v : Value} {x C : Addr} {fv : Array Value} {cd : ClassData} {bt bm : List Value} (hb : ∀ self, refuseLoop self "__setattr__" bt = pure ()) (hbo : bt.contains (.type "object") = true)
    (Y : K.In hp) (hx : hp.get? x = some { cls := .ref C, data := .fields fv }) (hcd : W.clsIn K C = some cd) (hm : cd.mro = .ref C :: bm) (htl : tailIs bt bm = true) (hh : cd.hasDict = true) (hno : W.findIn K (.ref C) name = some none)
    (fin : ∀ h' tk' dx, (∀ b o, b ≠ x → hp.get? b = some o → h'.get? b = some o) → hp.objs.size ≤ dx → dx ≠ x → h'.get? x = some { cls := .ref C, dict := some dx, data := .fields fv } →
      h'.Ns1 dx (fun y => if y = name then some v else none) → R (.ok (.ret .none)) ⟨h', g, d, tk', os⟩) :
    codeAny (model prog w) A (.call (.builtin "object.__setattr__") ⟨[.ref x, .str name tk, v], []⟩) R ⟨hp, g, d, t, os⟩ := by
  have J : W.InstAt hp x { cls := .ref C, data := .fields fv } C none := ⟨hx, rfl, rfl, trivial⟩
  have SO := F.store_object
  have htail : tailIs bt cd.mro = true := by rw [hm]; exact htl
  have hob2 : cd.mro.contains (.type "object") = true := by rw [tail_has "object" _ htail]; exact hbo
  have hemp : cd.mro.isEmpty = false := by rw [hm]; rfl
  have apart : x ≠ hp.objs.size := Nat.ne_of_lt (Heap.lt_size hx)
  have Lsub : W.Looks (model prog w) hp (isInstance (.ref x) (.type "object")) true :=
    J.type.andThen (W.looks_mroIn Y (by unfold W.mroIn; rw [hcd, Option.bind_some, if_neg (by rw [hemp]; decide), hob2]))
  refine codeAny_call_builtin SO.slot.plain SO.entry (@W.check_slot (model prog w) _ _ ⟨hp, g, d, t, os⟩ "object.__setattr__" "object" "__setattr__" (.ref x)
    [.str name tk, v] [] _ SO.kind SO.split Lsub (SO.args (.ref x) (.str name tk) v) ?_)
  have Lmro : W.Looks (model prog w) hp (mroOf (.ref C)) cd.mro := (W.looks_clsIn Y hcd).andThen .now
  have Lno : W.Looks (model prog w) hp (storeTaker? none) none := .now
  have Lcd : W.Looks (model prog w) hp (classData C) cd := W.looks_clsIn Y hcd
  rw [W.osa_eq, refuse_eq]
  refine wpAny_bind (wpAny_bind (J.type.at (wpAny_bind (Lmro.at ?_))))
  rw [tail_pass hb _ _ htail]
  refine wpAny_pure (wpAny_bind (J.type.at (wpAny_bind ((W.looks_findIn Y hno).at (wpAny_bind (Lno.at ?_))))))
  show wpAny _ _ (storeInOwnDict (.ref x) (.ref C) (.str name tk) name v false) _ _ _
  obtain ⟨c1, c2, c3, c4, c5, c6, c7, c8, c9, c10, c11⟩ := cd
  dsimp only at hh
  subst hh
  unfold storeInOwnDict ownDictForStores
  repeat (first | (with_reducible refine store_in_new ?_ ?_) | (with_reducible refine wpAny_loadPart_at hx ?_) | (with_reducible refine Lcd.at ?_) | wp_step)
  · exact ⟨_, #[], _, (Heap.get?_update_ne _ _ _ _ apart.symm).trans (Heap.get?_push_at rfl rfl), rfl, fun e he => absurd he (by simp), fun _ => rfl⟩
  · intro h' tk' hn' hs
    have hx1 : (hp.push { cls := .type "dict", data := .dict #[] }).get? x = some { cls := .ref C, data := .fields fv } := Heap.get?_push_of_some _ hx
    refine fin h' tk' hp.objs.size (fun b o hb ho => ?_) (Nat.le_refl _) apart.symm ?_ hn'
    · exact (hs.2 b (Nat.ne_of_lt (Heap.lt_size ho))).trans ((Heap.get?_update_ne _ _ _ _ hb).trans (Heap.get?_push_of_some _ ho))
    · exact (hs.2 x apart).trans (Heap.get?_update_self _ hx1 rfl)
end

/-! ### the text of __init__ -/
def gA (p1 p2 : Pos) : Arguments := { posonlyargs := [], args := [{ arg := "self", annotation := none, pos := p1 }, { arg := "given", annotation := none, pos := p2 }], vararg := none, kwonlyargs := [], kw_defaults := [], kwarg := none, defaults := [] }
def gB (q1 q2 q3 q4 : Pos) : List Stmt := [.Assign [.Attribute (.Name "self" q1) "given" q2] (.Name "given" q3) q4]
def gS : Scope := { kind := .function, names := [(PySem.Str.ofString "self", .local), (PySem.Str.ofString "given", .local)], isGenerator := false, isCoroutine := false, more := [] }
/-- what the written part says of the class called cn, at C, and of its __init__, at fI -/
structure ErrTxt (K : Frag) (mg : Str → Option Value) (cn qn : Str) (newId : String) (bt : List Value) (C fI : Addr) : Prop where
  gC : mg cn = some (.ref C)
  cls : ∃ nm q N bs bm sn sub ab col dd k0 k1 k2 k3 k5, K.lookup C = some (excClassObj nm q C N bs bm true sn sub ab col dd k0 k1 k2 k3 k5 newId) ∧ tailIs bt bm = true
  sa : findIn K (.ref C) "__setattr__" = some (some (.builtin "object.__setattr__"))
  ga : findIn K (.ref C) "__getattribute__" = some (some (.builtin "BaseException.__getattribute__"))
  gg : findIn K (.ref C) "__getattr__" = some none
  noN : findIn K (.ref C) "given" = some none
  iC : findIn K (.ref C) "__init__" = some (some (.ref fI))
  tC : typeIn K (.ref fI) = some (.type "function")
  kC : keepIn K (.ref C) = true
  exC : subIn K (.ref C) (.type "BaseException") = some true
  tyC : typeIn K (.ref C) = some (.type "type")
  hdC : hasDictIn K C = true
  te : exmOne K (.ref C) (.ref C) = some true
  fn : ∃ (oc : Value) (od : Option Addr) (doc pm : Value) (an : Option Addr) (cdv ct : Value) (osl : Array (Option Value)) (p1 p2 q1 q2 q3 q4 : Pos),
    K.lookup fI = some ⟨oc, od, .func (fnOf "__init__" qn (gA p1 p2) (gB q1 q2 q3 q4) gS .none .none doc pm an cdv ct), osl⟩ ∧ codeIn K cdv qn = true
theorem one_fits (v : Value) : [v].length ≤ sizeLine := by
  rw [sizeLine_eq]
  exact (by decide : 1 ≤ 16777216)
theorem ldG {M : Model} {s : Shared} {name : Str} {scope : Scope} {L a : Addr} {cd : Value} {m : Str → Option Value} {x : Str} {pos : Pos} {v : Value} {Q : Value → Shared → Prop} {A : Around} {E : Value → Shared → Prop} (hn : s.heap.Ns L m) (hv : m x = some v) (h : Q v s)
    (hk : scope.kind = .function := by rfl) (hl : (envOfC name scope L a cd).kindOf x = some .local := by rfl) (hd : (x == ("__debug__" : Str)) = false := by decide) :
    wpAny M A (eval (.Name x pos) (envOfC name scope L a cd)) Q E s := wpAny_Name (wpAny_loadName_local hk hl hn hv h) hd
/-- what __init__ leaves -/
structure GivEnd (h h' : Heap) (x C dx t1 : Addr) (v : Value) : Prop where
  keep : ∀ b o, b ≠ x → h.get? b = some o → h'.get? b = some o
  obj : h'.get? x = some { cls := .ref C, dict := some dx, data := .fields #[.ref t1, .none, .none, .none, .bool false, .none] }
  dbig : h.objs.size ≤ dx
  dne : dx ≠ x
  ns : h'.Ns1 dx (fun y => if y = "given" then some v else none)
/-- a made one -/
structure GivMade (h h' : Heap) (e C d : Addr) (v : Value) : Prop where
  keep : ∀ b o, h.get? b = some o → h'.get? b = some o
  new : h.objs.size ≤ e
  obj : ∃ oe vs, h'.get? e = some oe ∧ oe.cls = .ref C ∧ oe.dict = some d ∧ oe.data = .fields vs ∧ vs[1]? = some .none
  dbig : h.objs.size ≤ d
  dne : d ≠ e
  ns : h'.Ns1 d (fun y => if y = "given" then some v else none)
section
variable {prog : Program} {w : World} {A : Around} {E : Value → Shared → Prop} {R : Result → Shared → Prop} {s : Shared} {K : Frag} {mg : Str → Option Value} {C fI : Addr} {cn qn : Str} {B newId initId : String} {bt : List Value}
theorem giv_init (Z : BaseOk B newId initId bt) (T : ErrTxt K mg cn qn newId bt C fI) {x t0 : Addr} {v : Value} (X : K.In s.heap) (hlim : s.heap.NoLimit) (hx : s.heap.get? x = some (excO C t0)) (hroom : A.depth < recursionLimit)
    (hq : ∀ h' tk dx, GivEnd s.heap h' x C dx t0 v → R (.ok (.ret .none)) { s with heap := h', toks := tk }) :
    codeAny (model prog w) A (.call (.ref fI) ⟨[.ref x, v], []⟩) R s := by
  obtain ⟨oc, od, doc, pm, an, cdv, ct, osl, p1, p2, q1, q2, q3, q4, ho, hcd⟩ := T.fn
  obtain ⟨nm, q, N, bs, bm, sn, sub, ab, col, dd, k0, k1, k2, k3, k5, hC, hbm⟩ := T.cls
  have hcl : clsIn K C = some { name := nm, bases := bs, mro := .ref C :: bm, ns := N, qualname := q, hasDict := true, slotNames := sn, subclasses := sub, abstract := ab, collection := col, hasDel := false } := by unfold clsIn; rw [hC] <;> rfl
  refine Att.call_fn (binds := [("self", .ref x), ("given", v)]) X hlim ho hcd hroom (BindsTo.of_eq (by first | rfl | with_unfolding_all rfl)) (by first | rfl | decide | with_unfolding_all rfl) (fun s₁ IC => ?_) rfl rfl rfl
  obtain ⟨h₁, tk₁, rfl⟩ := IC.toInCall.same
  have k : ∀ b o, s.heap.get? b = some o → h₁.get? b = some o := IC.toInCall.keep
  have hn := IC.toInCall.ns
  have X₁ : K.In h₁ := X.keeps k
  have hx₁ := k _ _ hx
  show wpAny _ _ (execs _ _) _ _ _
  refine wpAny_execs_cons (plainObj_wpAny_Assign_Attribute ?_)
  refine ldG (v := v) hn (by first | rfl | with_unfolding_all rfl | kernel_rfl) (ldG (v := .ref x) hn (by first | rfl | with_unfolding_all rfl | kernel_rfl) ?_)
  refine set_plain X₁ (ox := excO C t0) (od := none) ⟨hx₁, rfl, rfl, trivial⟩ T.sa ?_
  refine osa_giv Z.pass Z.obj X₁ hx₁ hcl rfl hbm rfl T.noN (fun h₃ tk₃ dx k₃ dn dne hx₃ hn₃ => ?_)
  show wpAny _ _ (execs _ _) _ _ _
  have z : s.heap.objs.size < h₁.objs.size := hn.lt
  exact wpAny_execs_nil (hq h₃ tk₃ dx ⟨fun b o hb e => k₃ b o hb (k b o e), hx₃, Nat.le_of_lt (Nat.lt_of_lt_of_le z dn), dne, hn₃⟩)
theorem giv_made (Z : BaseOk B newId initId bt) (T : ErrTxt K mg cn qn newId bt C fI) {v : Value} (X : K.In s.heap) (hlim : s.heap.NoLimit) (hroom : A.depth + 1 < recursionLimit)
    (hq : ∀ h' tk e d, GivMade s.heap h' e C d v → R (.ok (.ret (.ref e))) { s with heap := h', toks := tk }) :
    codeAny (model prog w) A (.call (.ref C) ⟨[v], []⟩) R s := by
  obtain ⟨nm, q, N, bs, bm, sn, sub, ab, col, dd, k0, k1, k2, k3, k5, hC, hbm⟩ := T.cls
  obtain ⟨hp, g, dr, tk, os⟩ := s
  have k : ∀ b o, hp.get? b = some o → ((hp.push (kdv_tup [v])).push (excO C hp.objs.size)).get? b = some o := fun b o e => Heap.get?_push_of_some _ (Heap.get?_push_of_some _ e)
  have hget : ((hp.push (kdv_tup [v])).push (excO C hp.objs.size)).get? (hp.objs.size + 1) = some (excO C hp.objs.size) := by heap_get
  refine call_own Z.facts (fun X => tail_has X bm hbm) (X _ _ hC) (looks_findIn X T.iC) (fun self => bind_fn X self T.tC) (one_fits v) ?_
  refine giv_init (s := ⟨(hp.push (kdv_tup [v])).push (excO C hp.objs.size), g, dr, tk, os⟩) Z T (X.keeps k) (hlim.keeps k) hget ?_ fun h' tk' dx ⟨k', hx, dn, dne, hns⟩ => ?_
  · show A.depth + 1 < recursionLimit
    exact hroom
  · have old : ∀ b o, hp.get? b = some o → h'.get? b = some o := fun b o e => k' b o (Nat.ne_of_lt (Nat.lt_succ_of_lt (Heap.lt_size e))) (k b o e)
    have z : hp.objs.size + 1 + 1 ≤ dx := by
      first
        | (simpa only [Heap.size_push] using dn)
        | exact dn
        | (have q := dn; rw [Heap.size_push, Heap.size_push] at q; exact q)
    exact ⟨rfl, hq h' tk' (hp.objs.size + 1) dx ⟨old, Nat.le_succ _, ⟨_, _, hx, rfl, rfl, rfl, rfl⟩, Nat.le_trans (Nat.le_trans (Nat.le_succ _) (Nat.le_succ _)) z, dne, hns⟩⟩
end
end Giv
end PySem
end

-- GivErr2
section
set_option Elab.async false
set_option linter.all false
set_option maxRecDepth 100000
set_option maxHeartbeats 2000000
namespace L2
open PySem PySem.Spec PyProof.Rows
theorem relO_giv {v : V} {v' : Value} (r : RelV v v') (f : Str) : RelO (List.lookup f [(("given" : Str), v)]) (if f = "given" then some v' else none) := by
  by_cases hw : f = "given"
  · subst hw
    rw [if_pos rfl]
    have q : List.lookup ("given" : Str) [(("given" : Str), v)] = some v := by simp [List.lookup]
    rw [q]
    exact r
  · rw [if_neg hw]
    have qw : (f == ("given" : Str)) = false := by simpa using hw
    have q2 : List.lookup f [(("given" : Str), v)] = none := by simp [List.lookup, qw]
    rw [q2]
    trivial
section
variable {X : Cx} {C fI : Addr} {cn qn : Str} {B newId initId : String} {bt : List Value}
/-- Err(e) -/
def tMkGiv (C : Addr) (ta : TA) : L2.St → Hp → XK → Prop := fun σ H Q => ta σ H fun vs H1 => ∃ v, vs = [v] ∧ ∀ d, H1 d = none → Q (.ref C) (some d) (upd H1 d (.xd [(("given" : Str), v)]))
theorem pmk_giv {a : Expr} {ta : TA} {p pos : Pos} {k : Nat} (Z : PySem.Giv.BaseOk B newId initId bt) (T : PySem.Giv.ErrTxt X.K X.mg cn qn newId bt C fI) (hr : Room k X.A) (ha : PA X [a] ta) (hg : Gl X cn) (hdb : (cn == ("__debug__" : Str)) = false)
    (he : starEach (a :: []) X.env = (false, eval a X.env) :: starEach [] X.env := by rfl) (hpl : (backTo pos (starEach [] X.env)).any (·.1) = false := by rfl) :
    PMk X (.Call (.Name cn p) [a] [] pos) (tMkGiv C ta) := by
  intro pins s σ H Q I h
  refine wpAny_Call_Name_kw (ld_glob I hg T.gC ?_ hdb)
  refine PySem.W.callWith_K (h₀ := X.base) I.ok.mod.kin T.kC (thn (ha.run pos pins s σ H _ I h) fun us s1 hh => ?_) he hpl
  obtain ⟨vs, H1, I1, r1, v, ev, q1⟩ := hh
  subst ev
  refine ⟨I1.kIn, ?_⟩
  cases r1 with
  | cons rv rn =>
    rename_i v' us'
    cases rn
    show wpAny _ _ (call (.ref C) [v']) _ _ _
    have hlim := I1.nolimit
    obtain ⟨hp, g, dr, tk, os⟩ := s1
    refine wpAny_call (PySem.Giv.giv_made Z T I1.kIn hlim (by have := hr.dp; omega) fun h' tk' e d M => ?_)
    show MkP X pins σ Q (.ref e) ⟨h', g, dr, tk', os⟩
    obtain ⟨oe, fv, hoe, hc, hd, hdat, h1⟩ := M.obj
    have hns := M.ns
    obtain ⟨G', g1, g2⟩ := restrict h' fun b => decide (b ≠ e)
    have gk : ∀ b, b ≠ e → G'.get? b = h'.get? b := fun b hb => g1 b (decide_eq_true hb)
    have ge : G'.get? e = none := g2 e (by simp)
    have old : ∀ b o, hp.get? b = some o → G'.get? b = some o := fun b o q => (gk b (Nat.ne_of_lt (Nat.lt_of_lt_of_le (Heap.lt_size q) M.new))).trans (M.keep b o q)
    have ob : ObjOk X.prog X.w (upd H1 d (.xd [(("given" : Str), v)])) G' d (.xd [(("given" : Str), v)]) :=
      ⟨_, hns.at (fun o q => (gk d M.dne).trans q), fun f => relO_giv rv f⟩
    have J : L2.Inv X pins σ (upd H1 d (.xd [(("given" : Str), v)])) ⟨G', g, dr, tk', os⟩ := I1.laid (t' := tk') old M.dbig ob
    refine ⟨e, oe, fv, ⟨G', g, dr, tk', os⟩, _, .ref C, some d, rfl, J, fun b o q => ?_, ge, hoe, ⟨hc, hd⟩, hdat, h1, ?_, rfl, I1.bare, raises_own T.exC T.tyC, q1 d (I1.hok.fresh M.dbig)⟩
    · by_cases hb : b = e
      · have q' : G'.get? b = some o := q
        rw [hb, ge] at q'; cases q'
      · exact (gk b hb).symm.trans q
    · rw [upd_ne (Ne.symm M.dne)]
      exact I1.hok.fresh M.new
/-- raise Err(e) -/
def tRaiseGiv (C : Addr) (W : WX) (ta : TA) : TS := fun _ σ H => tMkGiv C ta σ H fun cls d H' => W cls d σ H'
theorem ps_raiseGiv {a : Expr} {ta : TA} {W : WX} {p pos pos2 : Pos} {k : Nat} (hc : X.calm = true) (Z : PySem.Giv.BaseOk B newId initId bt) (T : PySem.Giv.ErrTxt X.K X.mg cn qn newId bt C fI) (hr : Room k X.A) (tk : Takes X W) (ha : PA X [a] ta) (hg : Gl X cn) (hdb : (cn == ("__debug__" : Str)) = false := by decide)
    (he : starEach (a :: []) X.env = (false, eval a X.env) :: starEach [] X.env := by rfl) (hpl : (backTo pos (starEach [] X.env)).any (·.1) = false := by rfl) :
    PS X (.Raise (some (.Call (.Name cn p) [a] [] pos)) none pos2) (tRaiseGiv C W ta) := ps_raise hc tk (pmk_giv Z T hr ha hg hdb he hpl)
/-- err.given, err the exception that the suite holds (at a; its class cls, its dict d) -/
def tByGiv (C : Addr) (a : Addr) (cls : Value) (d : Option Addr) (te : TE) : TE := fun σ H Q => te σ H fun x H1 => x = .ref a ∧ cls = .ref C ∧ ∃ (dd : Addr) (v : V), d = some dd ∧ H1 dd = some (.xd [(("given" : Str), v)]) ∧ Q v H1
theorem pe_byGiv {a : Addr} {oe : Obj} {cls : Value} {d : Option Addr} {pn : List (Addr × Obj)} {e : Expr} {te : TE} {pos : Pos} (T : PySem.Giv.ErrTxt X.K X.mg cn qn newId bt C fI) (hz : Zc cls d oe) (hf : ∃ vs, oe.data = .fields vs) (he : PE (X.suite a ((a, oe) :: pn)) e te)
    (hb : attributeBase e "given" X.env (eval e X.env) = eval e X.env := by rfl) :
    PE (X.suite a ((a, oe) :: pn)) (.Attribute e "given" pos) (tByGiv C a cls d te) := by
  refine ⟨fun pins s σ H Q I h => ?_⟩
  refine attr_of hb (thn (he.run pins s σ H _ I h) fun u s1 hh => ?_)
  obtain ⟨x, H1, I1, rx, ex, ec, dd, v, ed, ea, q⟩ := hh
  subst ex
  obtain rfl : u = Value.ref a := rx
  subst ec
  subst ed
  obtain ⟨ha, _⟩ := I1.pin (a, oe) (List.mem_append_left _ List.mem_cons_self)
  obtain ⟨vs, hd⟩ := hf
  have hx : ObjOk X.prog X.w H1 s1.heap dd (.xd [(("given" : Str), v)]) := I1.hok dd _ ea
  obtain ⟨mA, hns, hr⟩ := hx
  obtain ⟨od, ho, hl⟩ := lookIn_ns hns
  have l : List.lookup ("given" : Str) [(("given" : Str), v)] = some v := by simp [List.lookup]
  obtain ⟨u, hu, ru⟩ := RelO.some_of (v := v) (o := mA "given") (by rw [← l]; exact hr "given")
  have J : PySem.W.InstAt s1.heap a oe C (some od) := ⟨ha, hz.1, by unfold PySem.W.notCls; rw [hd] <;> rfl, by rw [hz.2]; exact ho⟩
  exact HandSPX.exc_get I1.kIn J T.ga T.gg T.exC (PySem.W.findObj_own T.hdC T.noN rfl (by rw [hl, hu])) (handed_of ru) ⟨v, H1, I1.tok _, ru, q⟩
end
end L2
end

-- TryAs
section
set_option Elab.async false
set_option linter.all false
set_option maxRecDepth 100000
/-! try: with several clauses «except X as n». -/
namespace TryAs
open PySem L2
/-- the ends of a clause's suite: slot i is emptied on every way out -/
def endsAs (D : Ends) (i : Nat) : Ends where
  nx := fun t K => D.nx (t.set i none) K
  rt := D.rt
  bk := fun t K => D.bk (t.set i none) K
  ct := fun t K => D.ct (t.set i none) K
abbrev Cl := Value × Nat × (Addr → Value → Option Addr → TS)
def wAll (K : PySem.W.Frag) (Wout : WX) (D : Ends) : List Cl → WX
  | [] => Wout
  | (c, i, ts) :: r => fun cls d σ H => ∃ b, PySem.W.exmOne K cls c = some b ∧
      (b = true → ∀ a, H a = none → ts a cls d (endsAs D i) (σ.set i (some (.ref a))) H) ∧ (b = false → wAll K Wout D r cls d σ H)
inductive Clauses (X : Cx) : List ExceptHandler → List Cl → Prop
  | nil : Clauses X [] []
  | cons {x n : Str} {c : Value} {i : Nat} {ts : Addr → Value → Option Addr → TS} {fst : Stmt} {suite : List Stmt} {np hpos : Pos} {hds : List ExceptHandler} {l : List Cl}
      (at_ : X.N[i]? = some n) (loc : X.env.kindOf n = some .local) (nam : Names X x c)
      (run : ∀ (a : Addr) (oe : Obj) (cls : Value) (d : Option Addr) (pn : List (Addr × Obj)), Zc cls d oe → (∃ vs, oe.data = .fields vs) → PSs (X.suite a ((a, oe) :: pn)) (fst :: suite) (ts a cls d))
      (more : Clauses X hds l) : Clauses X (.ExceptHandler (some (.Name x np)) (some n) (fst :: suite) hpos :: hds) ((c, i, ts) :: l)
section
variable {X : Cx} {body : List Stmt} {hd0 : ExceptHandler} {hds : List ExceptHandler} {l : List Cl} {pos : Pos} {tb : WX → TS} {Wout : WX}
theorem ps_try_all (stk : X.stack = X.env :: X.outer) (frm : X.env.frame = some X.env.locals) (nod : X.N.Nodup) (tk : Takes X Wout)
    (hb : ∀ (W : WX) (pn : List (Addr × Obj)) (xe : Value → Shared → Prop), Takes (X.tr pn xe) W → PassesOwn (model X.prog X.w) X.A X.env xe → PSs (X.tr pn xe) body (tb W))
    (cl : Clauses X (hd0 :: hds) l) : PS X (.Try body (hd0 :: hds) [] [] pos) (fun D σ H => tb (wAll X.K Wout D l) D σ H) := by
  constructor
  intro pins s σ H D I h
  have okX := I.ok
  have frs2 : X.A.frames = some (X.env :: X.outer) := by rw [okX.frames, stk]
  refine wpAny_Try_except ?_
  refine wpAny_mono ((hb (wAll X.K Wout D l) (X.pn ++ pins)
    (fun e s₁ => wpAny (model X.prog X.w) X.A (noteFrame e X.env)
      (fun _ s₂ => wpAny (model X.prog X.w) X.A (setFlight e none)
        (fun _ s₃ => wpAny (model X.prog X.w) X.A (handleBy e X.env (hd0 :: hds)) (SP X pins D) X.xe s₃) X.xe s₂) X.xe s₁)
    (fun u s' xx => ?_) PassesOwn.looking).run [] s σ H D (I.toTry _) h) (fun f s1 hsp => ?_) (fun e s1 he => he)
  · obtain ⟨a, B, sI, pins1, σ1, H1, cls, d, rfl, J0, nb, up, sky, na, os, ag, w⟩ := xx
    have J1 : L2.Inv X pins σ1 H1 sI := J0.ofTry okX
    have sky1 : Sky B (X.env :: X.outer) a (Zc cls d) X.env.locals s'.heap := by rw [← stk]; exact sky
    show wpAny (model X.prog X.w) X.A (noteFrame (.ref a) X.env) _ _ _
    refine Sky.land Zc.steady frs2 frm sky1 fun h3 fl3 up3 => ?_
    have J3 : L2.Inv X pins σ1 H1 { s' with heap := h3 } := J1.landed nb fl3.1 (up.trans up3) os ag
    obtain ⟨oe3, vs3, he3, hz3, hd3⟩ := fl3.there
    have apart : a ∉ frs (X.env :: X.outer) := fun hm => by
      obtain ⟨_, o', e', hnf⟩ := fl3.2.2.1.mem hm
      have q : some o' = some oe3 := e'.symm.trans he3
      cases q
      exact hnf _ hd3
    have notL : a ≠ X.env.locals := fun z => apart (List.mem_filterMap.mpr ⟨X.env, List.mem_cons_self, by rw [frm, z]⟩)
    have notF : a ∉ X.fs := fun hm => by
      obtain ⟨e, he, q⟩ := List.mem_filterMap.mp hm
      exact apart (List.mem_filterMap.mpr ⟨e, List.mem_cons_of_mem _ he, q⟩)
    have S3 := J3.suite he3 hd3 na notL notF
    have go : ∀ {hs2 : List ExceptHandler} {l2 : List Cl}, Clauses X hs2 l2 → wAll X.K Wout D l2 cls d σ1 H1 →
        wpAny (model X.prog X.w) X.A (handleBy (.ref a) X.env hs2) (SP X pins D) X.xe { s' with heap := h3 } := by
      intro hs2 l2 hk
      induction hk with
      | nil =>
        intro w
        refine wpAny_handleBy_nil ?_
        obtain ⟨k1, k2, k3, oe, vs, T, oT, ts', he, hz, hd, h1, hr⟩ := id fl3
        unfold PySem.passOn
        refine wpAny_bind (wpAny_field he hd h1 ?_)
        have tn : ¬ ((Value.ref T == Value.none) = true) := by simp
        rw [if_neg tn]
        have fin : wpAny (model X.prog X.w) X.A (setFlight (.ref a) X.env.frame) (fun _ s4 => wpAny (model X.prog X.w) X.A (throw (.ref a) : Sem Flow) (SP X pins D) X.xe s4) X.xe { s' with heap := h3 } := by
          rw [frm]
          refine HandSPX.setFlight_upZ fl3 fun h4 hh4 up4 => wpAny_throw (tk _ _ ?_)
          exact ⟨a, B, sI, pins, σ1, H1, cls, d, rfl, J1, nb, (up.trans up3).trans up4, .inr (.inr (by rw [stk]; exact hh4)), na, os, ag, w⟩
        first | exact (wpAny_bind (wpAny_pure (wpAny_bind fin))) | exact (wpAny_bind fin)
      | @cons x n c i ts fst suite np hpos hs3 l3 at_ loc nam run more ih =>
        intro w
        obtain ⟨b, hb1, yes, no⟩ := w
        have slot : Loc X.env.scope n := .inl loc
        refine wpAny_handleBy_cons (codeAny_handlers_test ?_) (by intro q; cases q)
        have Lty : PySem.W.Looks (model X.prog X.w) h3 (typeOf (.ref a)) cls := fun A Q E s k q => wpAny_typeOf_ref (k _ _ he3) (by rw [hz3.1]; exact q)
        have Lex := PySem.W.exm_one (M := model X.prog X.w) (J3.kIn) Lty hb1
        have tst : ∀ {Q : Value → Shared → Prop} {E : Value → Shared → Prop}, Q c { s' with heap := h3 } → wpAny (model X.prog X.w) (X.A.mark (some (.ref a))) (eval (.Name x np) X.env) Q E { s' with heap := h3 } := fun {Q E} q => by
          obtain ⟨hg, ndb, hm | ⟨hm, hv, nn⟩⟩ := nam
          · exact (ld_glob (X := X.suite a ((a, oe3) :: (X.pn ++ pins))) S3 hg hm q ndb)
          · exact (ld_blt (X := X.suite a ((a, oe3) :: (X.pn ++ pins))) S3 hg hm hv q nn ndb)
        refine tst (Lex.here ?_)
        cases b with
        | true =>
          refine codeAny_handlers_suite_as ?_
          refine HandSPX.lands_againZ fl3 fun h4 fl4 up4 => ?_
          have J4 : L2.Inv X pins σ1 H1 { s' with heap := h4 } := J1.landed nb fl4.1 ((up.trans up3).trans up4) os ag
          obtain ⟨oe4, vs4, he4, hz4, hd4⟩ := fl4.there
          have S4 := J4.suite he4 hd4 na notL notF
          refine store_ok (X := X.suite a ((a, oe4) :: (X.pn ++ pins))) (v := .ref a) S4 nod at_ slot rfl (fun s5 S5 => ?_) (.inr loc)
          refine wpAny_mono ((run a oe4 cls d (X.pn ++ pins) hz4 ⟨_, hd4⟩).run [] s5 _ H1 _ S5 (yes rfl a na)) (fun f s6 hsp => ?_) (fun _ _ z => False.elim z)
          have wipe : ∀ {t6 : L2.St} {K6 : Hp} {Q : Shared → Prop}, L2.Inv (X.suite a ((a, oe4) :: (X.pn ++ pins))) [] t6 K6 s6 → (∀ s7, L2.Inv X pins (t6.set i none) K6 s7 → Q s7) →
              wpAny (model X.prog X.w) X.A (do bindName X.env n .none; unbindBehindTheSuite X.env n hpos) (fun _ s7 => Q s7) X.xe s6 := fun {t6 K6 Q} S6 hq => gone_ok (S6.unsuite okX) nod at_ loc hq
          cases f with
          | next =>
            obtain ⟨t6, K6, S6, q6⟩ := hsp
            exact (wipe S6 fun s7 J7 => ⟨_, _, J7, q6⟩)
          | brk =>
            obtain ⟨t6, K6, S6, q6⟩ := hsp
            exact (wipe S6 fun s7 J7 => ⟨_, _, J7, q6⟩)
          | cont =>
            obtain ⟨t6, K6, S6, q6⟩ := hsp
            exact (wipe S6 fun s7 J7 => ⟨_, _, J7, q6⟩)
          | ret u =>
            obtain ⟨v6, t6, K6, S6, r6, q6⟩ := hsp
            exact (wipe S6 fun s7 J7 => ⟨_, _, _, J7, r6, q6⟩)
        | false =>
          show wpAny _ X.A (handleBy (.ref a) X.env hs3) _ _ _
          exact ih (no rfl)
    exact go cl w
  · cases f with
    | next =>
      obtain ⟨t1, K1, J1, q⟩ := hsp
      exact wpAny_execs_nil ⟨t1, K1, J1.ofTry okX, q⟩
    | brk =>
      obtain ⟨t1, K1, J1, q⟩ := hsp
      exact ⟨t1, K1, J1.ofTry okX, q⟩
    | cont =>
      obtain ⟨t1, K1, J1, q⟩ := hsp
      exact ⟨t1, K1, J1.ofTry okX, q⟩
    | ret u =>
      obtain ⟨v1, t1, K1, J1, r, q⟩ := hsp
      exact ⟨v1, t1, K1, J1.ofTry okX, r, q⟩
/-- an exception of a callee, wished for at every state of the slots that fits -/
def EAll (X : Cx) (W : WX) : XK := fun cls d H' => ∀ t : L2.St, t.length = X.N.length → W cls d t H'
theorem pass_all {W : WX} (tk : Takes X W) : Passes (L2.CX X.prog X.w) X (EAll X W) := fun _ _ _ _ _ _ I c =>
  tk _ _ (XE.of_call I (fun _ _ _ z => z _ I.len) c)
end
end TryAs
end

-- OwnOps5
section
set_option Elab.async false
set_option linter.all false
set_option maxRecDepth 100000
namespace OwnOps
open PySem L2

section
variable {prog : Program} {w : World} {A : Around} {E : Value → Shared → Prop} {s : Shared} {K : PySem.W.Frag} {x C g : Addr} {ox : Obj} {od : Option Obj} {u : Value} {T : String}
/-- x op u by x's own def, u of a built-in type that is told by a look -/
theorem left_K {op : Operator} {fo ro rc : Option Value} {Q : Value → Shared → Prop} (Y : K.In s.heap) (I : PySem.W.InstAt s.heap x ox C od)
    (ht : PySem.W.Looks (model prog w) s.heap (typeOf u) (.type T)) (hc : PySem.W.selfFirst K C = true)
    (hs : PySem.W.findIn K (.ref C) (PySem.dunder op.info.2) = some (some (.ref g))) (hg : PySem.W.isFn K (.ref g) = true)
    (hrc : PySem.W.findIn K (.ref C) (PySem.dunderR op.info.2) = some rc) (hp : rc = none ∨ ∃ q : Addr, rc = some (.ref q))
    (hfo : PySem.W.findIn K (.type T) (PySem.dunder op.info.2) = some fo) (hro : PySem.W.findIn K (.type T) (PySem.dunderR op.info.2) = some ro) (hsub : PySem.W.subIn K (.type T) (.ref C) = some false)
    (h : wpAny (model prog w) A (call (.ref g) [.ref x, u]) (PySem.W.CmpBack Q) E s) : wpAny (model prog w) A (binaryOp op (.ref x) u) Q E s := by
  obtain ⟨dat, tl, hcd, hmro⟩ := PySem.W.ksp_first hc
  rcases hi : op.info with ⟨sy, nam⟩
  rw [hi] at hs hrc hfo hro
  dsimp only at hs hrc hfo hro
  have one := PySem.W.ksp_try Y I hs hg h
  obtain ⟨hh, gg, d, tt, os⟩ := s
  have M1 : PySem.W.Looks (model prog w) hh (typeOf (.ref x)) (.ref C) := I.type
  have M3 : PySem.W.Looks (model prog w) hh (fillsNumberSlot (.ref C) nam) true := PySem.W.fills_K Y hcd hmro hs
  have M4 : PySem.W.Looks (model prog w) hh (fillsNumberSlot (.type T) nam) ((fo.isSome && !isSeqSlot fo) || (ro.isSome && !isSeqSlot ro)) := PySem.W.ksp_fillsT Y hfo hro
  have M5 : PySem.W.Looks (model prog w) hh (isSubtype (.type T) (.ref C)) false := PySem.W.looks_subIn Y hsub
  have M6 : PySem.W.Looks (model prog w) hh (numberSlotInPython (.ref C) nam) true := PySem.W.ksp_inPy Y hs hrc hp
  have M7 : PySem.W.Looks (model prog w) hh (numberSlotInPython (.type T) nam) false := PySem.W.Looks.of_pure rfl
  have M8 : PySem.W.Looks (model prog w) hh (typeLookup (.type T) (PySem.dunderR nam)) ro := PySem.W.looks_findIn Y hro
  generalize ((fo.isSome && !isSeqSlot fo) || (ro.isSome && !isSeqSlot ro)) = fills at M4
  have differ : (Value.ref C == Value.type T) = false := Bool.eq_false_iff.mpr fun q => by cases beq_iff_eq.mp q
  simp only [binaryOp, hi]
  refine wpAny_holding (wpAny_bind ?_)
  unfold binaryOp1
  refine wpAny_bind (M1.at (wpAny_bind (ht.at (wpAny_bind (M3.at ?_)))))
  simp only [differ, Bool.false_eq_true, if_false]
  cases fills
  all_goals
    ksp_lk
    refine wpAny_mono one (fun r s' back => ?_) fun _ _ e => e
    obtain ⟨v, rfl, hq⟩ := back
    ksp_lk
    exact hq
end
end OwnOps
end

-- OwnNe
section
set_option Elab.async false
set_option linter.all false
set_option maxRecDepth 100000
/-! != of two lists that are equal item by item, by an own == too. -/
namespace OwnNe
open PySem PySem.SeqAt GQ
open AutoSeq1 (wpAny_loadPart')
open MeetsSeq MeetsSeq2 MeetsSeq3 SeqRoads2
section
variable {prog : Program} {w : World} {A : Around} {R : Result → Shared → Prop} {E : Value → Shared → Prop}
/-- the loop over the items, from i on: all are equal, so the answer is no -/
theorem loopN (l b : Addr) (N : Nat) (I : Nat → Shared → Prop) (hl : ListI prog w A (fun e s' => R (.error e) s') l b N I) (fin : ∀ s, I N s → R (.ok (.ret (.bool false))) s) :
    ∀ (k i : Nat), N - i = k → i ≤ N → ∀ s, I i s → wpAny (model prog w) A.in1 (Builtin.«list.__eq__.loop» ⟨[.ref l, .ref b, rawInt i, rawInt 3], []⟩) (FinOf prog w A R) (fun e s' => R (.error e) s') s
  | 0, i, hk, hi, s, h => by
    obtain ⟨xs, ys, n, n2, hl1, hb1, z1, z2, _⟩ := hl _ _ h
    have last : i = N := by omega
    have done : R (.ok (.ret (.bool false))) s := fin s (last ▸ h)
    obtain ⟨hp, g, d, tk, os⟩ := s
    wp_walk using wpAny_loadPart' hl1, wpAny_loadPart' hb1
    have no1 : xs[((i : Nat) : Int).toNat]? = none := by simp; omega
    have no2 : ys[((i : Nat) : Int).toNat]? = none := by simp; omega
    rw [no1, no2]
    wp_walk using wpAny_loadPart' hl1, wpAny_loadPart' hb1
    show R (.ok (.ret (.bool (xs.size != ys.size)))) _
    rw [z1, z2]
    simpa using done
  | k + 1, i, hk, hi, s, h => by
    obtain ⟨xs, ys, n, n2, hl1, hb1, z1, z2, one⟩ := hl _ _ h
    have lt1 : i < xs.size := by omega
    have lt2 : i < ys.size := by omega
    have here := one lt1 lt2
    obtain ⟨hp, g, d, tk, os⟩ := s
    wp_walk using wpAny_loadPart' hl1, wpAny_loadPart' hb1
    have is1 : xs[((i : Nat) : Int).toNat]? = some xs[i] := by simp [lt1]
    have is2 : ys[((i : Nat) : Int).toNat]? = some ys[i] := by simp [lt2]
    have up : ((i : Int) + 1) = ((i + 1 : Nat) : Int) := by omega
    rw [is1, is2]
    refine wpAny_bind (wpAny_mono here (fun r s2 q => ?_) fun _ _ x => x)
    obtain ⟨hr, q⟩ := q
    subst hr
    have rest := loopN l b N I hl fin k (i + 1) (by omega) (by omega) s2 q
    obtain ⟨hp2, g2, d2, tk2, os2⟩ := s2
    wp_walk
    rw [up]
    exact ⟨plainId_quiet plain_eq_loop _, codeAny_builtin entry_eq_loop (by rw [Around.under_plainId plain_eq_loop _] <;> exact rest)⟩
theorem listN (l b : Addr) (N : Nat) (I : Nat → Shared → Prop) (hl : ListI prog w A (fun e s' => R (.error e) s') l b N I) (fin : ∀ s, I N s → R (.ok (.ret (.bool false))) s) {s : Shared} (h : I 0 s) :
    wpAny (model prog w) A.in1 (Builtin.«list.__ne__» ⟨[.ref l, .ref b], []⟩) (FinOf prog w A R) (fun e s' => R (.error e) s') s := by
  obtain ⟨xs, ys, n, n2, hl1, hb1, z1, z2, _⟩ := hl _ _ h
  have rest := loopN (A := A) (R := R) l b N I hl fin _ 0 rfl (Nat.zero_le _) s h
  obtain ⟨hp, g, d, tk, os⟩ := s
  have sub := AutoSeq1.sub_list_list
  have same : ¬ (xs.size != ys.size) = true := by simp [z1, z2]
  wp_walk using wpAny_loadPart' hl1, wpAny_loadPart' hb1
  exact ⟨plainId_quiet plain_eq_loop _, codeAny_builtin entry_eq_loop (by rw [Around.under_plainId plain_eq_loop _] <;> exact rest)⟩
theorem rcN {l b : Addr} {N : Nat} {Q : Value → Shared → Prop} {s : Shared} (hu : A.units < cLine) (I : Nat → Shared → Prop) (hl : ListI prog w A E l b N I)
    (fin : ∀ s, I N s → Q (.bool false) s) (h : I 0 s) : wpAny (model prog w) A (richCompare .NotEq (.ref l) (.ref b)) Q E s := by
  obtain ⟨xs, ys, n, n2, hl1, hb1, _, _, _⟩ := hl _ _ h
  refine wpAny_richCompare_same_room (op := .NotEq) ⟨_, hl1, rfl⟩ ⟨_, hb1, rfl⟩ F.slot_list_ne (call_here F.slot_list_ne ⟨_, hl1, rfl⟩ F.entry_list_ne (F.args_list_ne_2 _ _) ?_) hu
  exact listN (R := wants (fun v s' => v ≠ .notImplemented ∧ Q v s') E) l b N I hl (fun s' q => ⟨(fun x => nomatch x), fin s' q⟩) h
end
open L2
/-- x != y of two lists, item by item equal -/
def rNeG (D : Eqv) : R2 := fun x y H Q => DList D x y H ∧ ∀ H', Ext H H' → Q (.bl false) H'
theorem op_neG {X : Cx} {n : Nat} {D : Eqv} (hD : Mon D) (h : EqG X n D) (hr : Room (n + 1) X.A) : OpR X (compareOp .NotEq) (rNeG D) := by
  intro pins s σ H x y v u Q I rx ry hq
  obtain ⟨⟨a, b, xs, ys, rfl, rfl, ha, hb, p⟩, q⟩ := hq
  cases rx
  cases ry
  have sb : Sub X (n + 1) X.A := ⟨hr, rfl⟩
  show wpAny (model X.prog X.w) X.A (richCompare .NotEq (.ref a) (.ref b)) (EP X pins σ Q) X.xe s
  refine rcN (N := xs.length) hr.units0 (fun _ s' => LoopI X pins σ H s') (fun i s' z => ?_) (fun s' ⟨H', I', e⟩ => ⟨.bl false, H', I', rfl, q H' e⟩) ⟨H, I, Ext.rfl'⟩
  obtain ⟨H1, I1, e1⟩ := id z
  obtain ⟨zz, its, k, r, e⟩ := I1.hok a _ (e1 _ _ ha)
  obtain ⟨zz2, its2, k2, r2, e2⟩ := I1.hok b _ (e1 _ _ hb)
  refine ⟨its.toArray, its2.toArray, k, k2, e, e2, by rw [List.size_toArray, ← r.length], by rw [List.size_toArray, ← r2.length, ← p.1], fun h1 h2 => ?_⟩
  exact turnG hD h sb p r r2 i h1 h2 s' z
/-- the same thing -/
def DSame : Eqv := fun x y _ => x = y ∧ ∃ a, x = .ref a
theorem mon_same : Mon DSame := fun _ _ _ _ _ d => d
theorem eqG_same {X : Cx} {n : Nat} : EqG X n DSame := by
  intro A pins s σ H x y u v sb I rx ry d
  obtain ⟨rfl, a, rfl⟩ := d
  cases rx
  cases ry
  exact SeqAt.EqAt.same (A := A) (s := s) (.ref a) X.prog X.w X.xe _ ⟨rfl, H, I, Ext.rfl'⟩
end OwnNe
end

-- OwnNe2
section
set_option Elab.async false
set_option linter.all false
set_option maxRecDepth 100000
namespace OwnNe
open PySem L2
def rNeEmp : R2 := fun x y H Q => ∃ l b xs, x = .ref l ∧ y = .ref b ∧ H l = some (.lst xs) ∧ H b = some (.lst []) ∧ Q (.bl (!xs.isEmpty)) H
/-- a list != [] -/
theorem op_neEmp {X : Cx} (hu : X.A.units < cLine) : OpR X (compareOp .NotEq) rNeEmp := by
  intro pins s σ H x y v u Q I rx ry h
  obtain ⟨l, b, xs, rfl, rfl, hl, hb, q⟩ := h
  cases rx
  cases ry
  obtain ⟨_, its, n, r, _, e⟩ := I.lstM hl
  obtain ⟨_, its2, n2, r2, _, e2⟩ := I.lstM hb
  cases r2
  have L1 : s.heap.IsList l its.toArray := ⟨_, e, rfl, n, rfl⟩
  have L2' : s.heap.IsList b ([] : List Value).toArray := ⟨_, e2, rfl, n2, rfl⟩
  show wpAny (model X.prog X.w) X.A (richCompare .NotEq (.ref l) (.ref b)) (EP X pins σ Q) X.xe s
  cases r with
  | nil => exact PySem.SeqAt.RcNeAt.lists (e := fun _ => true) L1 L2' rfl hu (fun j h1 _ => absurd h1 (by simp)) X.prog X.w X.xe _ ⟨.bl false, H, I, rfl, q⟩
  | cons a r => exact PySem.SeqAt.RcNeAt.lists_lengths L1 L2' (by simp) hu X.prog X.w X.xe _ ⟨.bl true, H, I, rfl, q⟩
end OwnNe
end

-- OwnNe3
section
set_option Elab.async false
set_option linter.all false
set_option maxRecDepth 100000
/-! Either of two rules; != by an own == alone; == of two lists, told as a truth. -/
namespace OwnNe
open PySem PySem.SeqAt GQ L2 OwnOps
open AutoSeq1 (wpAny_loadPart')
open MeetsSeq MeetsSeq2 MeetsSeq3 SeqRoads2
theorem op_or {X : Cx} {f : Value → Value → Sem Value} {r1 r2 : R2} (h1 : OpR X f r1) (h2 : OpR X f r2) : OpR X f (fun x y H Q => r1 x y H Q ∨ r2 x y H Q) := by
  intro pins s σ H x y v u Q I rx ry h
  rcases h with h | h
  · exact h1 pins s σ H x y v u Q I rx ry h
  · exact h2 pins s σ H x y v u Q I rx ry h
section
variable {prog : Program} {w : World} {A : Around} {E : Value → Shared → Prop} {s : Shared} {K : PySem.W.Frag} {x C L f : Addr} {h₀ : Heap} {m : Str → Option Value} {ox : Obj} {od : Option Obj} {b tb : Value}
theorem entry_ne {Q : Fin → Shared → Prop} (hu : A.units < cLine) (X : K.In s.heap) (I : PySem.W.InstAt s.heap x ox C od) (he : PySem.W.findIn K (.ref C) "__eq__" = some (some (.ref f))) (hf : PySem.W.isFn K (.ref f) = true)
    (h : wpAny (model prog w) A (call (.ref f) [.ref x, b]) (fun v s' => ∃ r, v = .bool r ∧ Q (.done (.ret (.bool (!r)))) s') E s) :
    wpAny (model prog w) A (Builtin.«object.__ne__» ⟨[.ref x, b], []⟩) Q E s := by
  unfold Builtin.«object.__ne__»
  repeat (first
    | with_reducible refine wpAny_cRoomFor hu ?_
    | (refine wpAny_bind (m := callSpecialIfBound? (.ref x) (Str.ofString "__eq__") [b])
        (PySem.W.ifBound_K X I he hf (wpAny_mono h (fun r s' hr => by
          obtain ⟨b, rfl, hq⟩ := hr
          repeat (first | exact hq | exact wpAny_pure hq | exact wpAny_truthy_bool hq | (refine wpAny_bind (m := truthy (.bool _)) (wpAny_truthy_bool ?_)) | wp_step)) fun _ _ e => e)))
    | wp_step)
theorem ifBound_ne {M : Model} {args : List Value} {Q : Option Value → Shared → Prop} (X : K.In s.heap) (I : PySem.W.InstAt s.heap x ox C od) (hs : PySem.W.findIn K (.ref C) "__ne__" = some (some (.builtin "object.__ne__")))
    (h : wpAny M A (call (.builtin "object.__ne__") (.ref x :: args)) (fun v => Q (some v)) E s) : wpAny M A (callSpecialIfBound? (.ref x) "__ne__" args) Q E s := by
  simp only [callSpecialIfBound?, bindSpecialIfBound?]
  refine wpAny_holding (wpAny_bind (wpAny_bind (wpAny_bind (I.type.here ((PySem.W.looks_findIn X hs).here ?_)))))
  refine wpAny_bind (wpAny_askSetting (wpAny_ite ?_))
  have fin : wpAny M A (call (.builtin "object.__ne__") ([.ref x] ++ args) >>= fun v => pure (some v)) Q E s := wpAny_bind (wpAny_mono h (fun v s' h' => wpAny_pure h') fun _ _ h' => h')
  split
  · exact wpAny_bind (wpAny_of_eq (F.cmp_object.ne.bind _) (wpAny_pure (by exact fin)))
  · exact wpAny_tryCatch (wpAny_bind (wpAny_of_eq (F.cmp_object.ne.bind _) (wpAny_pure (by exact fin))))
/-- x != b by x's own ==: the class has no != of its own -/
theorem rc_neK {Q : Value → Shared → Prop} (hu : A.units + 1 < cLine) (X : K.In s.heap) (I : PySem.W.InstAt s.heap x ox C od) (hb : PySem.W.Looks (model prog w) s.heap (typeOf b) tb) (hn : PySem.W.notFirst K C tb = true)
    (hm : PySem.W.mroIn K C (.type "object") = some true) (hs : PySem.W.findIn K (.ref C) "__ne__" = some (some (.builtin "object.__ne__"))) (he : PySem.W.findIn K (.ref C) "__eq__" = some (some (.ref f))) (hf : PySem.W.isFn K (.ref f) = true)
    (h : wpAny (model prog w) A.in1 (call (.ref f) [.ref x, b]) (fun v s' => ∃ r, v = .bool r ∧ Q (.bool (!r)) s') E s) : wpAny (model prog w) A (richCompare .NotEq (.ref x) b) Q E s := by
  have one : wpAny (model prog w) A (tryCompare (.ref x) (cmpInfo .NotEq).2.1 b) (fun r s' => ∃ v, r = some v ∧ Q v s') E s := by
    show wpAny (model prog w) A (tryCompare (.ref x) "__ne__" b) _ E s
    unfold tryCompare
    refine wpAny_bind (ifBound_ne X I hs (wpAny_call (codeAny_call_builtin F.cmp_object.ne.plain F.cmpEntry_ne
      (PySem.W.check_slot F.cmpKind_ne F.cmpSplit_ne (I.type.andThen (PySem.W.looks_mroIn X hm)) (F.cmpArgs_ne _ _) (entry_ne (A := A.in1) hu X I he hf (wpAny_mono h (fun v s' hv => ?_) fun _ _ e => e))))))
    obtain ⟨r, rfl, q⟩ := hv
    first
      | exact ⟨r, rfl, wpAny_pure ⟨_, rfl, q⟩⟩
      | exact ⟨r, rfl, wpAny_pure (wpAny_pure ⟨_, rfl, q⟩)⟩
      | exact ⟨r, rfl, ⟨_, rfl, q⟩⟩
  unfold richCompare
  simp only [oneThing_ref]
  refine wpAny_holding (wpAny_bind (wpAny_cRoomFor (by omega) ?_))
  refine wpAny_bind (I.type.here (wpAny_bind (hb.here ?_)))
  split
  · rename_i q
    have e : PySem.W.subIn K tb (.ref C) = some false := by
      rcases Bool.or_eq_true_iff.mp hn with e | e
      · rw [beq_iff_eq.mp e] at q; simp at q
      · exact beq_iff_eq.mp e
    refine wpAny_bind ((PySem.W.looks_subIn X e).here ?_)
    simp only [Bool.false_eq_true, if_false]
    refine wpAny_bind (wpAny_mono one (fun r s' z => ?_) fun _ _ e => e)
    obtain ⟨v, rfl, hq⟩ := z
    exact wpAny_pure hq
  · refine wpAny_bind (wpAny_pure ?_)
    simp only [Bool.false_eq_true, if_false]
    refine wpAny_bind (wpAny_mono one (fun r s' z => ?_) fun _ _ e => e)
    obtain ⟨v, rfl, hq⟩ := z
    exact wpAny_pure hq
end
/-- x != y by x's own == -/
def rNeOwn (C : Addr) (R : V → Hp → Prop) (sp : Sp) (E : XK) : R2 := fun x y H Q => ∃ a dx fs, x = .ref a ∧ H a = some (.ins C dx fs) ∧ R y H ∧ sp [x, y] H (fun v H' => ∃ r, v = .bl r ∧ Q (.bl (!r)) H') E
theorem op_neOwn {X : Cx} {CX : CXT} {C g : Addr} {k : Nat} {fd : FuncData} {ps : List Str} {sp : Sp} {E : XK} (hm : PySem.W.mroIn X.K C (.type "object") = some true) (hn : PySem.W.findIn X.K (.ref C) "__ne__" = some (some (.builtin "object.__ne__")))
    (hs : PySem.W.findIn X.K (.ref C) "__eq__" = some (some (.ref g))) (hf : PySem.W.isFn X.K (.ref g) = true)
    (F : FnOk X.prog X.w X.K X.mg X.base CX k g fd ps sp) (hr : Room (k + 1) X.A) (hb : Binds X.K fd ps []) (hx : Passes CX X E)
    {R : V → Hp → Prop} (hR : ∀ {y : V} {H : Hp} {u : Value} {pins : List (Addr × Obj)} {σ : L2.St} {s : Shared}, L2.Inv X pins σ H s → R y H → RelV y u → ∃ tb, PySem.W.Looks (model X.prog X.w) s.heap (typeOf u) tb ∧ PySem.W.notFirst X.K C tb = true) :
    OpR X (compareOp .NotEq) (rNeOwn C R sp E) := by
  intro pins s σ H x y v u Q I rx ry h
  obtain ⟨a, dx, fs, rfl, ha, hy, q⟩ := h
  cases (show v = Value.ref a from rx)
  obtain ⟨od, J⟩ := inst_at I ha
  obtain ⟨tb, ht, hn2⟩ := hR I hy ry
  show wpAny (model X.prog X.w) X.A (richCompare .NotEq (.ref a) u) (EP X pins σ Q) X.xe s
  refine rc_neK (show X.A.units + 1 < cLine from hr.in1.units0) I.kIn J ht hn2 hm hn hs hf ?_
  refine wpAny_mono (run_any (us := [.ref a, u]) (vs := [.ref a, y]) F hr.in1 I.env0.in1 hb hx I (.cons rfl (.cons ry .nil)) q) (fun w s' z => ?_) fun _ _ e => e
  obtain ⟨z', H', I', rz, r, rfl, qz⟩ := id z
  cases (show w = Value.bool r from rz)
  exact ⟨r, rfl, .bl (!r), H', I', rfl, qz⟩
section
variable {prog : Program} {w : World} {A : Around} {R : Result → Shared → Prop} {E : Value → Shared → Prop}
/-- at each turn the two lists are read anew: N items each, the i-th two equal as r i says -/
def ListB (prog : Program) (w : World) (A : Around) (E : Value → Shared → Prop) (l b : Addr) (N : Nat) (r : Nat → Bool) (I : Nat → Shared → Prop) : Prop :=
  ∀ i s, I i s → ∃ (xs ys : Array Value) (n n2 : Nat), s.heap.get? l = some { cls := .type "list", data := .seq xs n } ∧ s.heap.get? b = some { cls := .type "list", data := .seq ys n2 } ∧ xs.size = N ∧ ys.size = N ∧
    ∀ (h1 : i < xs.size) (h2 : i < ys.size), wpAny (model prog w) A.in1 (eqBool xs[i] ys[i]) (fun q s' => q = r i ∧ I (i + 1) s') E s
theorem loopB (l b : Addr) (N : Nat) (r : Nat → Bool) (I : Nat → Shared → Prop) (hl : ListB prog w A (fun e s' => R (.error e) s') l b N r I)
    (fin : (∀ j, j < N → r j = true) → ∀ s, I N s → R (.ok (.ret (.bool true))) s) (bad : ∀ j, j < N → r j = false → ∀ s, I (j + 1) s → R (.ok (.ret (.bool false))) s) :
    ∀ (k i : Nat), N - i = k → i ≤ N → (∀ j, j < i → r j = true) → ∀ s, I i s → wpAny (model prog w) A.in1 (Builtin.«list.__eq__.loop» ⟨[.ref l, .ref b, rawInt i, rawInt 2], []⟩) (FinOf prog w A R) (fun e s' => R (.error e) s') s
  | 0, i, hk, hi, all, s, h => by
    obtain ⟨xs, ys, n, n2, hl1, hb1, z1, z2, _⟩ := hl _ _ h
    have last : i = N := by omega
    have done : R (.ok (.ret (.bool true))) s := fin (fun j hj => all j (by omega)) s (last ▸ h)
    obtain ⟨hp, g, d, tk, os⟩ := s
    wp_walk using wpAny_loadPart' hl1, wpAny_loadPart' hb1
    have no1 : xs[((i : Nat) : Int).toNat]? = none := by simp; omega
    have no2 : ys[((i : Nat) : Int).toNat]? = none := by simp; omega
    rw [no1, no2]
    wp_walk using wpAny_loadPart' hl1, wpAny_loadPart' hb1
    show R (.ok (.ret (.bool (xs.size == ys.size)))) _
    rw [z1, z2]
    simpa using done
  | k + 1, i, hk, hi, all, s, h => by
    obtain ⟨xs, ys, n, n2, hl1, hb1, z1, z2, one⟩ := hl _ _ h
    have lt1 : i < xs.size := by omega
    have lt2 : i < ys.size := by omega
    have here := one lt1 lt2
    obtain ⟨hp, g, d, tk, os⟩ := s
    wp_walk using wpAny_loadPart' hl1, wpAny_loadPart' hb1
    have is1 : xs[((i : Nat) : Int).toNat]? = some xs[i] := by simp [lt1]
    have is2 : ys[((i : Nat) : Int).toNat]? = some ys[i] := by simp [lt2]
    have up : ((i : Int) + 1) = ((i + 1 : Nat) : Int) := by omega
    rw [is1, is2]
    refine wpAny_bind (wpAny_mono here (fun q s2 hq => ?_) fun _ _ x => x)
    obtain ⟨hr, hq⟩ := hq
    subst hr
    cases hb : r i with
    | true =>
      have rest := loopB l b N r I hl fin bad k (i + 1) (by omega) (by omega) (fun j hj => if e : j = i then by rw [e]; exact hb else all j (by omega)) s2 hq
      obtain ⟨hp2, g2, d2, tk2, os2⟩ := s2
      wp_walk
      rw [up]
      exact ⟨plainId_quiet plain_eq_loop _, codeAny_builtin entry_eq_loop (by rw [Around.under_plainId plain_eq_loop _] <;> exact rest)⟩
    | false =>
      have done := bad i (by omega) hb s2 hq
      obtain ⟨xs2, ys2, m, m2, hl2, hb2, z3, z4, _⟩ := hl _ _ hq
      have is3 : xs2[((i : Nat) : Int).toNat]? = some (xs2[i]'(by omega)) := by
        have : i < xs2.size := by omega
        simp [this]
      have is4 : ys2[((i : Nat) : Int).toNat]? = some (ys2[i]'(by omega)) := by
        have : i < ys2.size := by omega
        simp [this]
      obtain ⟨hp2, g2, d2, tk2, os2⟩ := s2
      wp_walk using wpAny_loadPart' hl2, wpAny_loadPart' hb2
      rw [is3, is4]
      wp_walk
      exact done
theorem listB (l b : Addr) (N : Nat) (r : Nat → Bool) (I : Nat → Shared → Prop) (hl : ListB prog w A (fun e s' => R (.error e) s') l b N r I)
    (fin : (∀ j, j < N → r j = true) → ∀ s, I N s → R (.ok (.ret (.bool true))) s) (bad : ∀ j, j < N → r j = false → ∀ s, I (j + 1) s → R (.ok (.ret (.bool false))) s) {s : Shared} (h : I 0 s) :
    wpAny (model prog w) A.in1 (Builtin.«list.__eq__» ⟨[.ref l, .ref b], []⟩) (FinOf prog w A R) (fun e s' => R (.error e) s') s := by
  obtain ⟨xs, ys, n, n2, hl1, hb1, z1, z2, _⟩ := hl _ _ h
  have rest := loopB (A := A) (R := R) l b N r I hl fin bad _ 0 rfl (Nat.zero_le _) (fun j hj => absurd hj (by omega)) s h
  obtain ⟨hp, g, d, tk, os⟩ := s
  have sub := AutoSeq1.sub_list_list
  have same : ¬ (xs.size != ys.size) = true := by simp [z1, z2]
  wp_walk using wpAny_loadPart' hl1, wpAny_loadPart' hb1
  exact ⟨plainId_quiet plain_eq_loop _, codeAny_builtin entry_eq_loop (by rw [Around.under_plainId plain_eq_loop _] <;> exact rest)⟩
theorem rcB {l b : Addr} {N : Nat} {Q : Value → Shared → Prop} {s : Shared} (hu : A.units < cLine) (r : Nat → Bool) (I : Nat → Shared → Prop) (hl : ListB prog w A E l b N r I)
    (fin : (∀ j, j < N → r j = true) → ∀ s, I N s → Q (.bool true) s) (bad : ∀ j, j < N → r j = false → ∀ s, I (j + 1) s → Q (.bool false) s) (h : I 0 s) : wpAny (model prog w) A (richCompare .Eq (.ref l) (.ref b)) Q E s := by
  obtain ⟨xs, ys, n, n2, hl1, hb1, _, _, _⟩ := hl _ _ h
  refine wpAny_richCompare_same_room (op := .Eq) ⟨_, hl1, rfl⟩ ⟨_, hb1, rfl⟩ F.slot_list_eq (call_here F.slot_list_eq ⟨_, hl1, rfl⟩ F.entry_list_eq (F.args_list_eq_2 _ _) ?_) hu
  exact listB (R := wants (fun v s' => v ≠ .notImplemented ∧ Q v s') E) l b N r I hl (fun a s' q => ⟨(fun x => nomatch x), fin a s' q⟩) (fun j a b s' q => ⟨(fun x => nomatch x), bad j a b s' q⟩) h
end
/-- == gives what D says, and only makes objects -/
def EqB (X : Cx) (n : Nat) (D : V → V → Hp → Bool → Prop) : Prop :=
  ∀ (A : Around) (pins : List (Addr × Obj)) (s : Shared) (σ : L2.St) (H : Hp) (x y : V) (u v : Value) (b : Bool), Sub X n A → Inv X pins σ H s → RelV x u → RelV y v → D x y H b →
    wpAny (model X.prog X.w) A (eqBool u v) (fun r s' => r = b ∧ ∃ H', Inv X pins σ H' s' ∧ Ext H H') X.xe s
theorem EqB.eqG {X : Cx} {n : Nat} {D : V → V → Hp → Bool → Prop} (h : EqB X n D) : EqG X n (fun x y H => D x y H true) := fun A pins s σ H x y u v sb I rx ry d => h A pins s σ H x y u v true sb I rx ry d
/-- x == y of two lists of the same length -/
def rEqB (D : V → V → Hp → Bool → Prop) : R2 := fun x y H Q => ∃ a b xs ys, x = .ref a ∧ y = .ref b ∧ H a = some (.lst xs) ∧ H b = some (.lst ys) ∧ xs.length = ys.length ∧ ∃ r : Nat → Bool,
  (∀ (i : Nat) x y, xs[i]? = some x → ys[i]? = some y → D x y H (r i)) ∧ ∀ H' c, Ext H H' → (c = true ↔ ∀ j, j < xs.length → r j = true) → Q (.bl c) H'
theorem op_eqB {X : Cx} {n : Nat} {D : V → V → Hp → Bool → Prop} (hD : ∀ x y H H' b, Ext H H' → D x y H b → D x y H' b) (h : EqB X n D) (hr : Room (n + 1) X.A) : OpR X (compareOp .Eq) (rEqB D) := by
  intro pins s σ H x y v u Q I rx ry hq
  obtain ⟨a, b, xs, ys, rfl, rfl, ha, hb, len, r, p, q⟩ := hq
  cases rx
  cases ry
  have sb : Sub X (n + 1) X.A := ⟨hr, rfl⟩
  show wpAny (model X.prog X.w) X.A (richCompare .Eq (.ref a) (.ref b)) (EP X pins σ Q) X.xe s
  refine rcB (N := xs.length) hr.units0 r (fun _ s' => LoopI X pins σ H s') (fun i s' z => ?_) (fun al s' ⟨H', I', e⟩ => ⟨.bl true, H', I', rfl, q H' true e ⟨fun _ => al, fun _ => rfl⟩⟩)
    (fun j hj rj s' ⟨H', I', e⟩ => ⟨.bl false, H', I', rfl, q H' false e ⟨fun z => (nomatch z), fun al => by rw [al j hj] at rj; cases rj⟩⟩) ⟨H, I, Ext.rfl'⟩
  obtain ⟨H1, I1, e1⟩ := id z
  obtain ⟨zz, its, k, rr, e⟩ := I1.hok a _ (e1 _ _ ha)
  obtain ⟨zz2, its2, k2, rr2, e2⟩ := I1.hok b _ (e1 _ _ hb)
  refine ⟨its.toArray, its2.toArray, k, k2, e, e2, by rw [List.size_toArray, ← rr.length], by rw [List.size_toArray, ← rr2.length, ← len], fun h1 h2 => ?_⟩
  have g1 : its[i]? = some its.toArray[i] := by
    have h1' : i < its.length := by simpa using h1
    rw [List.getElem?_eq_getElem h1'] <;> simp
  have g2 : its2[i]? = some its2.toArray[i] := by
    have h2' : i < its2.length := by simpa using h2
    rw [List.getElem?_eq_getElem h2'] <;> simp
  have k1 : i < xs.length := by rw [rr.length]; simpa using h1
  have k3 : i < ys.length := by rw [rr2.length]; simpa using h2
  obtain ⟨u, hu, ru⟩ := rr.get (List.getElem?_eq_getElem k1)
  obtain ⟨v, hv, rv⟩ := rr2.get (List.getElem?_eq_getElem k3)
  rw [g1] at hu
  rw [g2] at hv
  rw [Option.some.inj hu, Option.some.inj hv]
  refine wpAny_mono (h X.A.in1 pins s' σ H1 _ _ u v _ sb.in1 I1 ru rv (hD _ _ _ _ _ e1 (p i _ _ (List.getElem?_eq_getElem k1) (List.getElem?_eq_getElem k3)))) (fun r' s2 q' => ?_) fun _ _ x => x
  obtain ⟨hr', H2, I2, e2'⟩ := q'
  exact ⟨hr', H2, I2, e1.trans e2'⟩
end OwnNe
end

-- ErrVal
section
set_option Elab.async false
set_option linter.all false
set_option maxRecDepth 100000
set_option maxHeartbeats 2000000
/-! An own error with the field `given`, held as a value. -/
namespace L2
open PySem PySem.Spec PyProof.Rows
/-- an error of the class cls at e, its dict at d -/
def ExG (cls : Value) (e d : Addr) : HO := .ext fun h => ∃ (oe : Obj) (vs : Array Value), h.get? e = some oe ∧ Zc cls (some d) oe ∧ oe.data = .fields vs ∧ vs[1]? = some .none
section
variable {X : Cx} {C fI : Addr} {cn qn : Str} {B newId initId : String} {bt : List Value}
/-- Err(x), as a value -/
theorem pe_mkGiv {a : Expr} {ta : TA} {p pos : Pos} {k : Nat} (Z : PySem.Giv.BaseOk B newId initId bt) (T : PySem.Giv.ErrTxt X.K X.mg cn qn newId bt C fI) (hr : Room k X.A) (ha : PA X [a] ta) (hg : Gl X cn) (hdb : (cn == ("__debug__" : Str)) = false := by decide)
    (he : starEach (a :: []) X.env = (false, eval a X.env) :: starEach [] X.env := by rfl) (hpl : (backTo pos (starEach [] X.env)).any (·.1) = false := by rfl) :
    PE X (.Call (.Name cn p) [a] [] pos) (fun σ H Q => ta σ H fun vs H1 => ∃ v, vs = [v] ∧ ∀ e d, H1 e = none → H1 d = none → d ≠ e → Q (.ref e) (upd (upd H1 d (.xd [(("given" : Str), v)])) e (ExG (.ref C) e d))) := by
  refine ⟨fun pins s σ H Q I h => ?_⟩
  refine wpAny_Call_Name_kw (ld_glob I hg T.gC ?_ hdb)
  refine PySem.W.callWith_K (h₀ := X.base) I.ok.mod.kin T.kC (thn (ha.run pos pins s σ H _ I h) fun us s1 hh => ?_) he hpl
  obtain ⟨vs, H1, I1, r1, v, ev, q1⟩ := hh
  subst ev
  refine ⟨I1.kIn, ?_⟩
  cases r1 with
  | cons rv rn =>
    rename_i v' us'
    cases rn
    show wpAny _ _ (call (.ref C) [v']) _ _ _
    have hlim := I1.nolimit
    obtain ⟨hp, g, dr, tk, os⟩ := s1
    refine wpAny_call (PySem.Giv.giv_made Z T I1.kIn hlim (by have := hr.dp; omega) fun h' tk' e d M => ?_)
    show EP X pins σ Q (.ref e) ⟨h', g, dr, tk', os⟩
    obtain ⟨oe, fv, hoe, hc, hd, hdat, h1⟩ := M.obj
    have hns := M.ns
    obtain ⟨G', g1, g2⟩ := restrict h' fun b => decide (b ≠ e)
    have gk : ∀ b, b ≠ e → G'.get? b = h'.get? b := fun b hb => g1 b (decide_eq_true hb)
    have ge : G'.get? e = none := g2 e (by simp)
    have old : ∀ b o, hp.get? b = some o → G'.get? b = some o := fun b o q => (gk b (Nat.ne_of_lt (Nat.lt_of_lt_of_le (Heap.lt_size q) M.new))).trans (M.keep b o q)
    have ob : ObjOk X.prog X.w (upd H1 d (.xd [(("given" : Str), v)])) G' d (.xd [(("given" : Str), v)]) :=
      ⟨_, hns.at (fun o q => (gk d M.dne).trans q), fun f => relO_giv rv f⟩
    have J : L2.Inv X pins σ (upd H1 d (.xd [(("given" : Str), v)])) ⟨G', g, dr, tk', os⟩ := I1.laid (t' := tk') old M.dbig ob
    have en : (upd H1 d (.xd [(("given" : Str), v)])) e = none := by
      rw [upd_ne (Ne.symm M.dne)]
      exact I1.hok.fresh M.new
    have J2 : L2.Inv X pins σ (upd (upd H1 d (.xd [(("given" : Str), v)])) e (ExG (.ref C) e d)) ⟨h', g, dr, tk', os⟩ := J.laidN (t' := tk') (fun b o q => by
      by_cases hb : b = e
      · rw [hb, ge] at q; cases q
      · exact (gk b hb).symm.trans q) ge en ⟨⟨oe, fv, hoe, ⟨hc, hd⟩, hdat, h1⟩, ⟨oe, hoe⟩, fun _ _ ⟨o, u, q, r⟩ k => ⟨o, u, k o q, r⟩⟩
    exact ⟨.ref e, _, J2, rfl, q1 e d (I1.hok.fresh M.new) (I1.hok.fresh M.dbig) M.dne⟩
/-- err.given, err an error held as a value -/
theorem pe_givVal {e : Expr} {te : TE} {pos : Pos} (T : PySem.Giv.ErrTxt X.K X.mg cn qn newId bt C fI) (he : PE X e te) (hb : attributeBase e "given" X.env (eval e X.env) = eval e X.env := by rfl) :
    PE X (.Attribute e "given" pos) (fun σ H Q => te σ H fun x H1 => ∃ a d v, x = .ref a ∧ H1 a = some (ExG (.ref C) a d) ∧ H1 d = some (.xd [(("given" : Str), v)]) ∧ Q v H1) := by
  refine ⟨fun pins s σ H Q I h => ?_⟩
  refine attr_of hb (thn (he.run pins s σ H _ I h) fun u s1 hh => ?_)
  obtain ⟨x, H1, I1, rx, a, d, v, ex, ea, ed, q⟩ := hh
  subst ex
  obtain rfl : u = Value.ref a := rx
  obtain ⟨⟨oe, vs, ha, hz, hd, h1⟩, _, _⟩ := (show ObjOk X.prog X.w H1 s1.heap a (ExG (.ref C) a d) from I1.hok a _ ea)
  have hx : ObjOk X.prog X.w H1 s1.heap d (.xd [(("given" : Str), v)]) := I1.hok d _ ed
  obtain ⟨mA, hns, hr⟩ := hx
  obtain ⟨od, ho, hl⟩ := lookIn_ns hns
  have l : List.lookup ("given" : Str) [(("given" : Str), v)] = some v := by simp [List.lookup]
  obtain ⟨u, hu, ru⟩ := RelO.some_of (v := v) (o := mA "given") (by rw [← l]; exact hr "given")
  have J : PySem.W.InstAt s1.heap a oe C (some od) := ⟨ha, hz.1, by unfold PySem.W.notCls; rw [hd] <;> rfl, by rw [hz.2]; exact ho⟩
  exact HandSPX.exc_get I1.kIn J T.ga T.gg T.exC (PySem.W.findObj_own T.hdC T.noN rfl (by rw [hl, hu])) (handed_of ru) ⟨v, H1, I1.tok _, ru, q⟩
end
end L2
end

-- ErrVal2
section
set_option Elab.async false
set_option linter.all false
set_option maxRecDepth 100000
/-! isinstance of an error held as a value. -/
namespace L2
open PySem PySem.Spec PyProof.Rows
/-- what is known of the error class at C for isinstance -/
structure KitG (K : PySem.W.Frag) (C : Addr) : Prop where
  ic : PySem.W.isClsIn K C = true
  ga : PySem.W.findIn K (.ref C) "__getattribute__" = some (some (.builtin "BaseException.__getattribute__"))
  gg : ∃ gt, PySem.W.findIn K (.ref C) "__getattr__" = some gt
  ex : PySem.W.subIn K (.ref C) (.type "BaseException") = some true
  ha : PySem.W.findIn K (.ref C) "__class__" = some (some (.builtin "object.__class__"))
  hn : PySem.W.specialIn K (.builtin "object.__class__") "__get__" = some (some (.builtin "getset_descriptor.__get__"))
  htk : PySem.W.takesIn K (.builtin "object.__class__") = some true
  hm : PySem.W.mroIn K C (.type "object") = some true
def rIsiG (K : PySem.W.Frag) : List V → Hp → VK → Prop := fun xs H Q => ∃ (a d C : Addr) (fs : List (Str × V)) (c : V) (u : Value) (b : Bool), xs = [.ref a, c] ∧ H a = some (ExG (.ref C) a d) ∧ H d = some (.xd fs) ∧ KitG K C ∧ ClsV c u ∧ PySem.W.kitOne K (.ref C) u = some b ∧ Q (.bl b) H
theorem call_isiG {X : Cx} : CallR X (.builtin "isinstance") (rIsiG X.K) := by
  intro pins s σ H xs us Q I r h
  obtain ⟨a, d, C, fs, c, u, b, rfl, ea, ed, G, k, e, q⟩ := h
  obtain ⟨u1, u2, rfl, r1, r2⟩ := vals2 r
  cases (show u1 = Value.ref a from r1)
  have e2 := k.eq r2
  subst e2
  obtain ⟨⟨oe, vs, ha, hz, hd, h1⟩, _, _⟩ := (show ObjOk X.prog X.w H s.heap a (ExG (.ref C) a d) from I.hok a _ ea)
  have hx : ObjOk X.prog X.w H s.heap d (.xd fs) := I.hok d _ ed
  obtain ⟨mA, hns, hr⟩ := hx
  obtain ⟨od, ho, hl⟩ := lookIn_ns hns
  have J : PySem.W.InstAt s.heap a oe C (some od) := ⟨ha, hz.1, by unfold PySem.W.notCls; rw [hd] <;> rfl, by rw [hz.2]; exact ho⟩
  obtain ⟨gt, hgt⟩ := G.gg
  exact PySem.W.kia_one (PySem.W.kitx_exc (ox := oe) (od := some od) G.ic G.ga hgt G.ex G.ha G.hn G.htk G.hm) I.kIn J e (fun z => nomatch z) fun tk => ⟨.bl b, H, I.tok tk, rfl, q⟩
end L2
end

-- OwnTry
section
set_option Elab.async false
set_option linter.all false
set_option maxRecDepth 100000
/-! Calls whose exception is wished for at just these slots; isinstance of a held error with a dict. -/
namespace OwnTry
open PySem L2
/-- W at the slots σ -/
def EA (W : WX) (σ : L2.St) : XK := fun cls d H' => W cls d σ H'
section
variable {X : Cx} {k : Nat} {f C : Addr} {fd : FuncData} {ps : List Str} {sp : Sp} {dvs : List V} {ds : List Value} {W : WX} {x m : Str} {p pos apos : Pos} {e o : Expr} {es : List Expr} {ta : TE} {t : TA}
theorem out_at {pins : List (Addr × Obj)} {σ : L2.St} {H : Hp} {s : Shared} (tk : Takes X W) (I : L2.Inv X pins σ H s) {u : Value} {s' : Shared} (c : L2.CX X.prog X.w X.stack H s (EA W σ) u s') : X.xe u s' :=
  tk _ _ (XE.of_call I (fun _ _ _ z => z) c)
/-- a def called, W wished for if it raises -/
theorem run_at {A : Around} {pins : List (Addr × Obj)} {σ : L2.St} {H : Hp} {s : Shared} {Q : VK} {us : List Value} {vs : List V} (F : FnOk X.prog X.w X.K X.mg X.base (L2.CX X.prog X.w) k f fd ps sp) (room : Room k A)
    (e0 : Env0 X.prog X.w X.K X.mg X.base A X.stack s H) (bi : L2.Binds X.K fd ps ds) (dv : Vals dvs ds) (tk : Takes X W)
    (I : L2.Inv X pins σ H s) (rel : Vals vs us) (h : sp (vs ++ dvs) H Q (EA W σ)) : wpAny (model X.prog X.w) A (call (.ref f) us) (EP X pins σ Q) X.xe s := by
  have both := rel.append dv
  have size : (us ++ ds).length = ps.length := both.length.symm.trans (F.len _ _ _ _ h)
  have body := F.run A X.stack s H ⟨us, []⟩ (us ++ ds) (vs ++ dvs) Q (EA W σ) room e0 (bi s us I.kIn size) both h
  refine wpAny_call (codeAny_mono body fun res s' got => ?_)
  match res, got with
  | .error u, got => exact out_at tk I got
  | .ok (.ret u), got => exact I.after got
  | .ok .next, got => exact got.elim
  | .ok .brk, got => exact got.elim
  | .ok .cont, got => exact got.elim
/-- o.m(e, ..) in a try -/
def tMethA (C : Addr) (m : Str) (sp : Sp) (dvs : List V) (W : WX) (ta : TE) (t : TA) : TE := fun σ H Q => ta σ H fun x H1 => ∃ a dx fs, x = .ref a ∧ H1 a = some (.ins C dx fs) ∧ fs.lookup m = none ∧ t σ H1 fun vs H2 => sp (.ref a :: (vs ++ dvs)) H2 Q (EA W σ)
theorem pe_methA {pl : Sem Bool} (he : PE X o ta) (c : Cls X.K C) (hm : Meth X.K C m f) (F : FnOk X.prog X.w X.K X.mg X.base (L2.CX X.prog X.w) k f fd ps sp) (room : Room k X.A) (bi : L2.Binds X.K fd ps ds) (dv : Vals dvs ds) (tk : Takes X W) (ha : PA X (e :: es) t)
    (hst : starEach (e :: es) X.env = (false, eval e X.env) :: starEach es X.env := by rfl) (hpl : (backTo pos (starEach es X.env)).any (·.1) = false := by rfl)
    (ht : eval (.Call (.Attribute o m apos) (e :: es) [] pos) X.env = (do
      let ov ← eval o X.env
      standAt apos.atName
      let (f, first) ← holding [ov] (getMethod ov m pl)
      callWith pos f first (backTo pos (starEach (e :: es) X.env)) (backToKw pos (keywordEach [] X.env))) := by rfl) :
    PE X (.Call (.Attribute o m apos) (e :: es) [] pos) (tMethA C m sp dvs W ta t) := by
  refine ⟨fun pins s σ H Q I h => ?_⟩
  refine PySem.W.methodCall_KW (pl := pl) (thn (he.run pins s σ H _ I h) fun u s1 hh => ?_) ht
  obtain ⟨x, H1, I1, rx, a, dx, fs, ex, ea, l, q⟩ := hh
  subst ex
  obtain rfl : u = Value.ref a := rx
  refine getmeth_ok I1 ea c hm l ?_
  refine PySem.W.callWith_K (first := [.ref a]) (h₀ := X.base) I.ok.mod.kin hm.kp (thn (ha.run pos pins s1 σ H1 _ I1 q) fun us s2 h2 => ?_) hst hpl
  obtain ⟨vs, H2, I2, r, q2⟩ := h2
  exact ⟨I2.kIn, run_at (us := .ref a :: us) (vs := .ref a :: vs) F room I2.env0 bi dv tk I2 (.cons rfl r) q2⟩
end
/-- isinstance(e, c), e the error with a dict that the suite holds -/
def rIsiH (K : PySem.W.Frag) (a : Addr) (cls : Value) (d : Option Addr) : List V → Hp → VK → Prop := fun xs H Q => ∃ (C dd : Addr) (fs : List (Str × V)) (c : V) (u : Value) (b : Bool),
  xs = [.ref a, c] ∧ cls = .ref C ∧ d = some dd ∧ H dd = some (.xd fs) ∧ KitG K C ∧ ClsV c u ∧ PySem.W.kitOne K (.ref C) u = some b ∧ Q (.bl b) H
theorem call_isiH {X : Cx} {a : Addr} {oe : Obj} {cls : Value} {d : Option Addr} {pn : List (Addr × Obj)} (hz : Zc cls d oe) (hf : ∃ vs, oe.data = .fields vs) : CallR (X.suite a ((a, oe) :: pn)) (.builtin "isinstance") (rIsiH X.K a cls d) := by
  intro pins s σ H xs us Q I r h
  obtain ⟨C, dd, fs, c, u, b, rfl, rfl, rfl, ed, G, k, e, q⟩ := h
  obtain ⟨u1, u2, rfl, r1, r2⟩ := vals2 r
  cases (show u1 = Value.ref a from r1)
  have e2 := k.eq r2
  subst e2
  obtain ⟨ha, _⟩ := I.pin (a, oe) (List.mem_append_left _ List.mem_cons_self)
  obtain ⟨vs, hd⟩ := hf
  have hx : ObjOk X.prog X.w H s.heap dd (.xd fs) := I.hok dd _ ed
  obtain ⟨mA, hns, hr⟩ := hx
  obtain ⟨od, ho, hl⟩ := lookIn_ns hns
  have J : PySem.W.InstAt s.heap a oe C (some od) := ⟨ha, hz.1, by unfold PySem.W.notCls; rw [hd] <;> rfl, by rw [hz.2]; exact ho⟩
  obtain ⟨gt, hgt⟩ := G.gg
  exact PySem.W.kia_one (PySem.W.kitx_exc (ox := oe) (od := some od) G.ic G.ga hgt G.ex G.ha G.hn G.htk G.hm) I.kIn J e (fun z => nomatch z) fun tk => ⟨.bl b, H, I.tok tk, rfl, q⟩
end OwnTry
end

-- Gen1
section
set_option Elab.async false
set_option linter.all false
set_option maxRecDepth 100000
/-! what every law's text wants again. -/
namespace G1
open PySem L2 OwnOps
theorem if_pos' {c : Bool} {A B : Prop} (hc : c = true) (h : A) : if c = true then A else B := by
  rw [if_pos hc]
  exact h
theorem if_neg' {c : Bool} {A B : Prop} (hc : c = false) (h : B) : if c = true then A else B := by
  rw [hc, if_neg Bool.false_ne_true]
  exact h
theorem same_upd {H : Hp} {p : Addr} {o : HO} (h : H p = none) : Same H (upd H p o) := fun b u e => by
  rw [upd_ne (ne_of_none e h)]
  exact e
theorem same_put {H G : Hp} {D : Addr} {o : HO} (s : Same H G) (h : H D = none) : Same H (upd G D o) := fun b u e => by
  rw [upd_ne (ne_of_none e h)]
  exact s b u e
/-- a new instance in making -/
theorem same_new {H : Hp} {x dx C : Addr} (hx : H x = none) (hd : H dx = none) : Same H (upd (upd H dx (.own x)) x (.ins C dx [])) := fun b u e => by
  rw [upd_ne (ne_of_none e hx), upd_ne (ne_of_none e hd)]
  exact e
/-- all stands but at l -/
def SameX (l : Addr) (H H' : Hp) : Prop := ∀ b u, b ≠ l → H b = some u → H' b = some u
theorem SameX.refl (l : Addr) (H : Hp) : SameX l H H := fun _ _ _ e => e
theorem SameX.trans {l : Addr} {H H1 H2 : Hp} (a : SameX l H H1) (b : SameX l H1 H2) : SameX l H H2 := fun c o n h => b c o n (a c o n h)
theorem SameX.of {l : Addr} {H H' : Hp} (a : Same H H') : SameX l H H' := fun c o _ h => a c o h
theorem SameX.upd {l : Addr} {H : Hp} {o : HO} : SameX l H (upd H l o) := fun c u n h => by
  rw [upd_ne n]
  exact h
theorem SameX.put {l a : Addr} {H H1 : Hp} {o : HO} (s : SameX l H H1) (h : H1 a = none) : SameX l H (L2.upd H1 a o) := fun c u n e => by
  rw [upd_ne (ne_of_none (s c u n e) h)]
  exact s c u n e
theorem same_made {H H' : Hp} {C x dx : Addr} (hx : H x = none) (hd : H dx = none) (sx : SameX x (upd (upd H dx (.own x)) x (.ins C dx [])) H') : Same H H' := fun b u e =>
  sx b u (ne_of_none e hx) (same_new hx hd b u e)
/-- a def of the module, called by its name -/
structure Glb (P : Program) (w : World) (K : PySem.W.Frag) (mg : Str → Option Value) (base : Heap) (x : Str) (k : Nat) (ps : List Str) (sp : Sp) : Prop where
  ex : ∃ (f : Addr) (fd : FuncData), mg x = some (.ref f) ∧ PySem.W.keepIn K (.ref f) = true ∧ FnOk P w K mg base (L2.CX P w) k f fd ps sp ∧ L2.Binds K fd ps []
/-- a method of the class, by its name -/
structure Dun (P : Program) (w : World) (K : PySem.W.Frag) (mg : Str → Option Value) (base : Heap) (C : Addr) (nm : Str) (k : Nat) (ps : List Str) (sp : Sp) : Prop where
  ex : ∃ (f : Addr) (fd : FuncData), PySem.W.findIn K (.ref C) nm = some (some (.ref f)) ∧ PySem.W.isFn K (.ref f) = true ∧ PySem.W.keepIn K (.ref f) = true ∧ FnOk P w K mg base (L2.CX P w) k f fd ps sp ∧ L2.Binds K fd ps []
section
variable {prog : Program} {w : World} {A : Around} {E : Value → Shared → Prop} {s : Shared}
theorem eqBool_rc {l : Addr} {v : Value} {Q : Bool → Shared → Prop} (ne : (Value.ref l == v) = false)
    (h : wpAny (model prog w) A (richCompare .Eq (.ref l) v) (fun x s' => ∃ r, x = .bool r ∧ Q r s') E s) : wpAny (model prog w) A (eqBool (.ref l) v) Q E s := by
  unfold eqBool
  refine wpAny_holding (wpAny_ite_split (fun z => absurd z (by rw [ne]; decide)) fun _ => wpAny_bind (wpAny_mono h ?_ fun _ _ x => x))
  rintro x s' ⟨r, rfl, q⟩
  exact wpAny_truthy_bool q
end
abbrev Fs := List (Str × V)
theorem putF_ne {n m : Str} {x y : V} {r : Fs} (h : ¬ m = n) : putF n y ((m, x) :: r) = (m, x) :: putF n y r := by
  show (if m = n then _ else _) = _
  rw [if_neg h] <;> rfl
theorem putF_eq {n : Str} {x y : V} {r : Fs} : putF n y ((n, x) :: r) = (n, y) :: r := by
  show (if n = n then _ else _) = _
  rw [if_pos rfl] <;> rfl
theorem lk_cons {n m : Str} {v : V} {l : List (Str × V)} (h : ¬ m = n) : ((m, v) :: l).lookup n = l.lookup n := by
  rw [List.lookup_cons, beq_false_of_ne (fun e => h e.symm)] <;> rfl
theorem lk_here {n : Str} {v : V} {l : List (Str × V)} : ((n, v) :: l).lookup n = some v := by
  rw [List.lookup_cons, beq_self_eq_true] <;> rfl
/-- all so far were true -/
def AllI (H : Hp) (D : Addr) (j : Nat) : Hp → Prop := fun G => Same H G ∧ G D = some (.lst ((List.replicate j true).map V.bl))
theorem all0 {H : Hp} {D : Addr} (h : H D = none) : AllI H D 0 (upd H D (.lst [])) := ⟨same_upd h, upd_same⟩
theorem AllI.step {H G G' : Hp} {D : Addr} {j : Nat} (i : AllI H D j G) (h : H D = none) (s : Same G G') : G' D = some (.lst ((List.replicate j true).map V.bl)) ∧ AllI H D (j + 1) (upd G' D (.lst ((List.replicate j true).map V.bl ++ [.bl true]))) := by
  refine ⟨s _ _ i.2, same_put (i.1.trans s) h, ?_⟩
  rw [upd_same, List.replicate_succ', List.map_append]
  rfl
theorem rep_len {j : Nat} (h : j < sizeLine) : ((List.replicate j true).map V.bl).length < sizeLine := by
  rw [List.length_map, List.length_replicate]
  exact h
theorem rep_all (j : Nat) : (List.replicate j true).all id = true := by
  rw [List.all_eq_true]
  intro x h
  rw [(List.mem_replicate.mp h).2]
  rfl
theorem map_at {xs : List Str} {j : Nat} {x : V} (h : (xs.map V.str)[j]? = some x) : ∃ t, xs[j]? = some t ∧ x = .str t := by
  rw [List.getElem?_map] at h
  cases e : xs[j]? with
  | none => rw [e] at h; cases h
  | some t =>
    rw [e] at h
    cases h
    exact ⟨t, rfl, rfl⟩
theorem yes_go {σ : L2.St} {H : Hp} {Q : Bool → Hp → Prop} (h : Q true H) : tYes σ H Q := h
end G1
end

-- EqDict
section
set_option Elab.async false
set_option linter.all false
set_option maxRecDepth 100000
/-! == of two dicts with flat values, whatever comes of it; of lists of such dicts. -/
namespace EqDict
open PySem L2 PySem.W OwnNe
abbrev Ent := List (Key × V)
/-- the same entries -/
def at1 (ls : Ent) (p : Key × V) : Bool := match valV ls p.1 with
  | none => false
  | some y => eqV p.2 y
def dEq (ks ls : Ent) : Bool := (ks.length == ls.length) && ks.all (at1 ls)
def Flt (ks : Ent) : Prop := ∀ p ∈ ks, flatV p.2 = true
theorem valV_mem {ls : Ent} {k : Key} {y : V} (h : valV ls k = some y) : ∃ p ∈ ls, p.2 = y := by
  unfold valV at h
  cases e : ls.find? (fun p => p.1 = k) with
  | none => rw [e] at h; cases h
  | some p =>
    rw [e] at h
    cases h
    exact ⟨p, List.mem_of_find?_eq_some e, rfl⟩
theorem hits {A : Around} {s : Shared} {ls : Ent} {vb : List (Key × Value)} (rb : KV ls vb) (fl : Flt ls) : ∀ {ks : Ent} {va : List (Key × Value)}, KV ks va → Flt ks →
    KeqHits A s vb va (ks.all (at1 ls))
  | _, _, .nil, _ => .nil
  | (k, x) :: ks, (k', u) :: va, .cons r t, f => by
    obtain ⟨r1, r2⟩ := r
    cases (show k = k' from r1)
    have rest := hits (A := A) (s := s) rb fl t fun p h => f p (List.mem_cons_of_mem _ h)
    rw [List.all_cons]
    unfold at1
    dsimp only
    have ro : RelO (valV ls k) (valueAt vb k) := rb.val k
    cases e : valV ls k with
    | none =>
      rw [e] at ro
      exact .miss (RelO.none_of ro)
    | some y =>
      rw [e] at ro
      obtain ⟨v, hv, rv⟩ := ro.some_of
      obtain ⟨p, hp, rfl⟩ := valV_mem e
      exact .hit hv (eqAt_V r2 rv (f _ List.mem_cons_self) (fl p hp)) rest
section
variable {X : Cx}
def rEqD (neg : Bool) : R2 := fun x y H Q => ∃ a b ks ls, x = .ref a ∧ y = .ref b ∧ Rd H a (.dK ks) ∧ Rd H b (.dK ls) ∧ Flt ks ∧ Flt ls ∧ Q (.bl (if neg then !dEq ks ls else dEq ks ls)) H
theorem op_eqDT (hu : X.A.units < cLine) : OpR X (compareOp .Eq) (rEqD false) := by
  intro pins s σ H x y v u Q I rx ry h
  obtain ⟨a, b, ks, ls, rfl, rfl, ea, eb, f1, f2, q⟩ := h
  cases rx
  cases ry
  obtain ⟨_, ya, va, ra, da⟩ := dk_rd I.hok ea
  obtain ⟨_, yb, vb, rb, db⟩ := dk_rd I.hok eb
  refine keq_eq (knd := mixKind X.prog X.w) ya yb da db hu (fun _ => hits rb f2 ra f1) ⟨.bl (dEq ks ls), H, I, ?_, q⟩
  unfold dEq
  rw [show ks.length = va.length from Paired.length ra, show ls.length = vb.length from Paired.length rb]
  rfl
theorem op_neDT (hu : X.A.units < cLine) : OpR X (compareOp .NotEq) (rEqD true) := by
  intro pins s σ H x y v u Q I rx ry h
  obtain ⟨a, b, ks, ls, rfl, rfl, ea, eb, f1, f2, q⟩ := h
  cases rx
  cases ry
  obtain ⟨_, ya, va, ra, da⟩ := dk_rd I.hok ea
  obtain ⟨_, yb, vb, rb, db⟩ := dk_rd I.hok eb
  refine keq_ne (knd := mixKind X.prog X.w) ya yb da db hu (fun _ => hits rb f2 ra f1) ⟨.bl (!dEq ks ls), H, I, ?_, q⟩
  unfold dEq
  rw [show ks.length = va.length from Paired.length ra, show ls.length = vb.length from Paired.length rb]
  rfl
/-- two dicts, apart -/
def DD : V → V → Hp → Bool → Prop := fun x y H r => ∃ a b ks ls, x = .ref a ∧ y = .ref b ∧ a ≠ b ∧ H a = some (.dK ks) ∧ H b = some (.dK ls) ∧ Flt ks ∧ Flt ls ∧ r = dEq ks ls
theorem mon_DD : ∀ x y H H' b, Ext H H' → DD x y H b → DD x y H' b := fun _ _ _ _ _ e ⟨a, b, ks, ls, h1, h2, n, h3, h4, r⟩ => ⟨a, b, ks, ls, h1, h2, n, e _ _ h3, e _ _ h4, r⟩
theorem eqB_DD : EqB X 1 DD := by
  intro A pins s σ H x y u v r sb I rx ry d
  obtain ⟨a, b, ks, ls, rfl, rfl, ne, ea, eb, f1, f2, rfl⟩ := d
  cases rx
  cases ry
  refine G1.eqBool_rc (beq_eq_false_iff_ne.mpr fun z => ne (Value.ref.inj z)) ?_
  obtain ⟨_, ya, va, ra, da⟩ := dk_rd I.hok (.inl ea)
  obtain ⟨_, yb, vb, rb, db⟩ := dk_rd I.hok (.inl eb)
  refine keq_eq (knd := mixKind X.prog X.w) ya yb da db sb.room.units0 (fun _ => hits rb f2 ra f1) ⟨_, rfl, ?_, H, I, Ext.rfl'⟩
  unfold dEq
  rw [show ks.length = va.length from Paired.length ra, show ls.length = vb.length from Paired.length rb]
end
end EqDict
end

-- SetStr
section
set_option Elab.async false
set_option linter.all false
set_option maxRecDepth 100000
/-! len(set(xs)), xs any texts (up to 4000). -/
namespace SetStr
open PySem PySem.Spec PyProof.Rows
/-- how many unlike ones stand among the first i -/
def cnt (xs : List Str) : Nat → Nat
  | 0 => 0
  | i + 1 => if xs.getD i Str.empty ∈ xs.take i then cnt xs i else cnt xs i + 1
theorem cnt_succ (xs : List Str) (i : Nat) : cnt xs (i + 1) = if xs.getD i Str.empty ∈ xs.take i then cnt xs i else cnt xs i + 1 := rfl
theorem cnt_le (xs : List Str) : ∀ i, cnt xs i ≤ i
  | 0 => Nat.le_refl _
  | i + 1 => by
    rw [cnt_succ]
    have := cnt_le xs i
    split <;> omega
theorem cnt_nodup {xs : List Str} (h : xs.Nodup) : ∀ i, i ≤ xs.length → cnt xs i = i
  | 0, _ => rfl
  | i + 1, hi => by
    rw [cnt_succ]
    have hl : i < xs.length := hi
    have e : xs.getD i Str.empty = xs[i] := by rw [List.getD_eq_getElem?_getD, List.getElem?_eq_getElem hl] <;> rfl
    rw [if_neg, cnt_nodup h i (by omega)]
    rw [e]
    intro z
    obtain ⟨j, hj, ej⟩ := List.getElem_of_mem z
    have hj' : j < i := by rw [List.length_take] at hj; omega
    rw [List.getElem_take] at ej
    have := (List.getElem_inj h).mp ej
    omega
theorem cnt_bad {xs : List Str} {i j : Nat} (hij : i < j) (hj : j < xs.length) (e : xs.getD i Str.empty = xs.getD j Str.empty) : ∀ k, j < k → cnt xs k < k
  | 0, h => by omega
  | k + 1, h => by
    rw [cnt_succ]
    by_cases hk : k = j
    · subst hk
      have m : xs.getD k Str.empty ∈ xs.take k := by
        rw [← e]
        have hi : i < xs.length := by omega
        have e2 : xs.getD i Str.empty = xs[i] := by rw [List.getD_eq_getElem?_getD, List.getElem?_eq_getElem hi] <;> rfl
        rw [e2, List.mem_take_iff_getElem]
        exact ⟨i, by omega, rfl⟩
      rw [if_pos m]
      have := cnt_le xs k
      omega
    · have := cnt_bad hij hj e k (by omega)
      split <;> omega
abbrev mem (xs : List Str) (i : Nat) : Str → Bool := fun k => decide (k ∈ xs.take i)
theorem mem_succ {xs : List Str} {i : Nat} (h : i < xs.length) (k : Str) : mem xs (i + 1) k = (mem xs i k || decide (k = xs.getD i Str.empty)) := by
  have e : xs.getD i Str.empty = xs[i] := by rw [List.getD_eq_getElem?_getD, List.getElem?_eq_getElem h] <;> rfl
  rw [e, ← Bool.decide_or]
  exact decide_eq_decide.mpr (by rw [List.take_succ_eq_append_getElem h, List.mem_append, List.mem_singleton])
section
variable {prog : Program} {w : World} {A : Around} {R : Result → Shared → Prop} {it : Addr} {fp wr : List Addr} {G : Array GenState → Array GenState → Prop} {n : Nat} {T : Nat → Value → Prop} {Z : Nat → Shared → Prop}
theorem fill (W : WalksS prog w A.in1 it fp wr G n T Z) (a : Addr) (out : a ∉ fp) (xs : List Str) (len : xs.length = n) (few : n ≤ 4000) (txt : ∀ i v, T i v → ∃ t, v = .str (xs.getD i Str.empty) t) :
    ∀ (k i : Nat) (s : Shared), n - i = k → i ≤ n → Z i s → s.heap.SetOf (strKind prog w) a (mem xs i) (cnt xs i) →
      (∀ s', Moved (a :: wr) G s s' → s'.heap.SetOf (strKind prog w) a (mem xs n) (cnt xs n) → R (.ok (.ret .none)) s') → codeAny (model prog w) A (.builtin "set.update.loop" ⟨[.ref a, .ref it], []⟩) R s := by
  have out' : a ∉ wr := fun h => out (W.sub _ h)
  intro k
  induction k with
  | zero =>
    intro i s hk hi hst hS fin
    cases (show n = i by omega)
    refine codeAny_builtin F.entry_set_update_loop (by
      rw [Around.under_plainId F.plain_set_update_loop _]
      refine wpAny_bind (m := pyNext (.ref it)) (W.done s _ _ hst fun s' hm => ?_)
      refine wpAny_pure (fin s' (hm.mono fun b h => List.mem_cons_of_mem _ h) ?_)
      obtain ⟨o, es, ep, t, ho, rest⟩ := hS
      exact ⟨o, es, ep, t, hm.heap a _ out' ho, rest⟩)
  | succ k ih =>
    intro i s hk hi hst hS fin
    have lt : i < n := by omega
    refine codeAny_builtin F.entry_set_update_loop (by
      rw [Around.under_plainId F.plain_set_update_loop _]
      refine wpAny_bind (m := pyNext (.ref it)) (W.item i s _ _ lt hst fun v s1 hv st1 hm => ?_)
      obtain ⟨t, rfl⟩ := txt i v hv
      have S1 : s1.heap.SetOf (strKind prog w) a (mem xs i) (cnt xs i) := let ⟨o, es, ep, tb, ho, rest⟩ := hS; ⟨o, es, ep, tb, hm.heap a _ out' ho, rest⟩
      refine wpAny_bind (m := holding [Value.str (xs.getD i Str.empty) t] (setAdd a (.str (xs.getD i Str.empty) t))) (wpAny_holding ?_)
      unfold setAdd
      refine wpAny_holding (wpAny_bind ((strKind prog w).pyHash (k := xs.getD i Str.empty) (strKind_is _ _ _ _) ?_))
      have room : cnt xs i + 1 < scanBound := by
        have := cnt_le xs i
        unfold scanBound
        omega
      refine wpAny_setAddHashed_of (knd := strKind prog w) (s := { s1 with toks := s1.toks + 1 }) (strKind_is _ _ _ _) rfl S1 room fun h' sb S2 => ?_
      have S3 : h'.SetOf (strKind prog w) a (mem xs (i + 1)) (cnt xs (i + 1)) := SetOf_congr S2 (fun k' => (mem_succ (by omega) k').symm) (by
        rw [cnt_succ]
        by_cases hm : xs.getD i Str.empty ∈ xs.take i
        · rw [if_pos hm, if_pos (decide_eq_true hm)]
        · rw [if_neg hm, if_neg (fun z => hm (of_decide_eq_true z))])
      refine wpAny_pure ⟨plainId_quiet F.plain_set_update_loop _, ih (i + 1) _ (by omega) lt (W.frame _ s1 _ _ st1 (Nat.le_succ _) fun b hb o e => (sb.2 b fun h : b = a => out (h ▸ hb)).trans e) S3 fun s2 m2 S4 => fin s2 ?_ S4⟩
      exact Moved.trans W.gtrans ((hm.mono fun b h => List.mem_cons_of_mem _ h).then_heap (Nat.le_succ _) fun b o hb e => (sb.2 b fun h : b = a => hb (h ▸ List.mem_cons_self)).trans e) m2)
end
section
variable {prog : Program} {w : World} {A : Around} {E : Value → Shared → Prop} {s : Shared}
/-- a set that holds nothing yet -/
abbrev bare (led : Bool) : Obj := { cls := .type "set", dict := none, data := .set #[] 0 (.fresh 0 0 led) }
abbrev made (s : Shared) (led : Bool) : Shared := { s with heap := s.heap.push (bare led) }
/-- what stands behind set(xs) -/
def Filled (prog : Program) (w : World) (s : Shared) (xs : List Str) (h : Heap) : Prop :=
  h.SetOf (strKind prog w) s.heap.objs.size (mem xs xs.length) (cnt xs xs.length) ∧ ∀ b o, b < s.heap.objs.size → s.heap.get? b = some o → h.get? b = some o
theorem init_set {l : Addr} {items : Array Value} {xs : List Str} {led : Bool} (calm : A.handled = none) (hl : s.heap.IsList l items) (ht : StrsAre items.toList xs) (few : xs.length ≤ 4000)
    {Q : PySem.Fin → Shared → Prop} (fin : ∀ h' tk, Filled prog w s xs h' → Q (.done (.ret .none)) { s with heap := h', toks := tk }) :
    wpAny (model prog w) A (Builtin.«set.__init__» ⟨[Value.ref s.heap.objs.size, Value.ref l], []⟩) Q E (made s led) := by
  have new : (made s led).heap.get? s.heap.objs.size = some (bare led) := Heap.get?_push_size _ rfl
  obtain ⟨o, ho, hc, nl, hd⟩ := hl
  obtain ⟨oc, od, oe, os⟩ := o
  cases hc
  cases hd
  have hl : s.heap.IsList l items := ⟨_, ho, rfl, nl, rfl⟩
  have ho1 : (made s led).heap.get? l = some { cls := .type "list", dict := od, data := .seq items nl, slots := os } := Heap.get?_push_of_some _ ho
  have hl1 : (made s led).heap.IsList l items := ⟨_, ho1, rfl, nl, rfl⟩
  have f1 := F.sub_list_set
  have f2 := F.sub_list_frozenset
  have f3 : (Value.type "list" == Value.type "dict") = false := by decide
  have lt : l < s.heap.objs.size := Heap.lt_size ho
  have sz : (made s led).heap.objs.size = s.heap.objs.size + 1 := Heap.size_push _ _
  have tx : xs.length = items.size := by rw [← StrsAre.len_eq ht, Array.length_toList]
  unfold Builtin.«set.__init__» noKeywords Builtin.Frozenset.updateFrom
  unfold made at *
  generalize hPI : pyIter = PI
  wp_walk
  subst hPI
  refine wpAny_pyIter_list hl1 (wpAny_bind (wpAny_runValue ?_))
  have apart : l ≠ (s.heap.push (bare led)).objs.size := by rw [sz]; exact Nat.ne_of_lt (Nat.lt_succ_of_lt lt)
  have out : s.heap.objs.size ∉ [(s.heap.push (bare led)).objs.size, l] := by
    rw [sz]
    simp only [List.mem_cons, List.not_mem_nil, or_false, not_or]
    exact ⟨Nat.ne_of_lt (Nat.lt_succ_self _), Nat.ne_of_gt lt⟩
  have at0 : ((s.heap.push (bare led)).push { cls := .type "list_iterator", data := .fields #[.ref l, .int 0 0] }).get? s.heap.objs.size = some (bare led) := Heap.get?_push_of_some _ new
  refine fill ((Walks.list (by simp [calm]) _ l apart items).toS) s.heap.objs.size out xs tx (by omega) (fun i v hv => SS.strs_at ht i v (by rw [Array.getElem?_toList]; exact hv)) (items.size - 0) 0 _ (by omega) (Nat.zero_le _) ⟨⟨_, Heap.get?_push_size _ rfl, rfl, rfl⟩, (hl1.push _)⟩
    (SetOf_congr ((setObjOf_fresh (knd := strKind prog w) led).setOf at0 (by unfold scanBound; omega)) (fun _ => rfl) rfl) fun s2 mv S2 => ?_
  obtain ⟨h2, g2, d2, tk, os2⟩ := s2
  cases (show g2 = s.gens from mv.gens)
  cases (show d2 = s.drawn from mv.drawn)
  cases (show os2 = s.os from mv.os)
  refine wpAny_pure (wpAny_pure (fin h2 tk ⟨by rw [tx]; exact S2, fun b o hb e => mv.heap b o ?_ (Heap.get?_push_of_some _ (Heap.get?_push_of_some _ e))⟩))
  simp only [List.mem_cons, List.not_mem_nil, or_false, not_or]
  exact ⟨Nat.ne_of_lt hb, by rw [sz]; exact Nat.ne_of_lt (Nat.lt_succ_of_lt hb)⟩
set_option maxHeartbeats 1600000 in
theorem call_set {l : Addr} {items : Array Value} {xs : List Str} {Q : Value → Shared → Prop} (calm : A.handled = none) (hl : s.heap.IsList l items) (ht : StrsAre items.toList xs) (few : xs.length ≤ 4000)
    (fin : ∀ (h' : Heap) (tk : Nat), Filled prog w s xs h' → Q (.ref s.heap.objs.size) { s with heap := h', toks := tk }) : wpAny (model prog w) A (call (.type "set") [.ref l]) Q E s := by
  obtain ⟨c, tl, hmro⟩ := F.called_set.mro
  have k1 := F.called_set.made
  have k2 := F.called_set.sub
  have k3 := F.called_set.notType
  have k4 := F.called_set.canCreate
  have k5 := F.typeCall_set_1 (.ref l)
  refine wpAny_call (codeAny_of_tree (wpAny_pure (M := model prog w) ⟨Code.quiet_builtin _ (by decide +kernel), codeAny_builtin F.entry_type_call ?_⟩))
  rw [Around.under_plain (weight_type_call_type "set" [.ref l] []) rfl]
  repeat (any_goals (first | assumption | wp_step))
  refine codeAny_mono (code_set_new_1 (.ref l) (E := E) (Q₁ := fun x s1 => ∃ led : Bool, x = .ref s.heap.objs.size ∧ s1 = made s led) fun led => ⟨led, rfl, rfl⟩) fun r s1 hr => ?_
  rcases r with e | (_ | _ | _ | x)
  · exact hr
  · exact hr.elim
  · exact hr.elim
  · exact hr.elim
  obtain ⟨led, rfl, rfl⟩ := hr
  have ty : Shared.TypeIs (made s led) (.ref s.heap.objs.size) "set" := ⟨_, Heap.get?_push_size _ rfl, rfl⟩
  have b1 := F.called_set.init.lookup
  have b2 := F.called_set.init.bind (.ref s.heap.objs.size)
  repeat (any_goals (first | assumption | wp_step))
  refine codeAny_call_builtin F.called_set.init.plain F.entry_set_init (check_set_init_1 ty (init_set (by simp [calm]) hl ht few fun h' tk fl => ?_))
  refine wpAny_pure ?_
  repeat (any_goals (first | assumption | wp_step))
  exact fin _ _ fl
end
section
variable {X : L2.Cx}
open L2
theorem strsAre : ∀ {xs : List Str} {us : List Value}, Vals (xs.map V.str) us → StrsAre us xs
  | [], _, r => by cases r; exact .nil
  | x :: xs, _, r => by
    cases r with
    | cons a b =>
      obtain ⟨t, rfl⟩ := a
      exact .cons x t (strsAre b)
/-- len(set(xs)), xs a list of texts -/
def tLenS (K : PySem.W.Frag) (ta : TE) : TE := fun σ H Q => ta σ H fun x H1 => ∃ (l : Addr) (xs : List Str), x = .ref l ∧ SqL K H1 l (xs.map V.str) ∧ xs.length ≤ 4000 ∧ Q (.int (cnt xs xs.length : Nat)) H1
theorem pe_lenS {a : Expr} {ta : TE} {p p2 q pos : Pos} (hg : Gl X "len") (hm : X.mg "len" = none) (hg2 : Gl X "set") (hm2 : X.mg "set" = none) (ha : PE X a ta) (calm : X.calm = true := by rfl)
    (one : starEach [a] X.env = (false, eval a X.env) :: starEach [] X.env := by rfl) : PE X (.Call (.Name "len" p) [.Call (.Name "set" p2) [a] [] q] [] pos) (tLenS X.K ta) := by
  refine ⟨fun pins s σ H Q I h => Call_ (ld_blt I hg hm boot_len (callWith_builtin1 (args_cons (Call_ (ld_blt I hg2 hm2 boot_set ?_)) rfl) rfl rfl))⟩
  refine callWith_type1 (args_cons (thn (ha.run pins s σ H _ I h) fun v s1 ⟨x, H1, I1, r1, l, xs, e, hq, few, fin⟩ => args_nil ?_) one) one rfl
  subst e
  cases r1
  obtain ⟨its, r, pl, hz⟩ := I1.list hq
  refine call_set (I1.ok.hd calm) pl.isList (by simpa using strsAre r) few fun h' tk fl => args_nil ?_
  obtain ⟨⟨o, es, ep, t, ho, hex, hd, _, _, _, hf, hn⟩, hk⟩ := fl
  have small : cnt xs xs.length ≤ 4000 := Nat.le_trans (cnt_le xs _) few
  have I2 : L2.Inv X pins σ H1 { s1 with heap := h', toks := tk } := I1.kept fun b o e => hk b o (Heap.lt_size e) e
  exact call_len_set ho hex hd hf (by rw [hn]; omega) ⟨.int (cnt xs xs.length : Nat), H1, I2.tok _, ⟨_, by rw [hn]⟩, fin⟩
end
end SetStr
end

-- SetStrT
section
set_option Elab.async false
set_option linter.all false
set_option maxRecDepth 100000
/-! len(set(xs)), xs a tuple of texts, or a list of them. -/
namespace SetStr
open PySem PySem.Spec PyProof.Rows
section
variable {prog : Program} {w : World} {A : Around} {E : Value → Shared → Prop} {s : Shared}
theorem init_setT {l : Addr} {items : Array Value} {xs : List Str} {led : Bool} (calm : A.handled = none) (hl : s.heap.IsTuple l items) (ht : StrsAre items.toList xs) (few : xs.length ≤ 4000)
    {Q : PySem.Fin → Shared → Prop} (fin : ∀ h' tk, Filled prog w s xs h' → Q (.done (.ret .none)) { s with heap := h', toks := tk }) :
    wpAny (model prog w) A (Builtin.«set.__init__» ⟨[Value.ref s.heap.objs.size, Value.ref l], []⟩) Q E (made s led) := by
  have new : (made s led).heap.get? s.heap.objs.size = some (bare led) := Heap.get?_push_size _ rfl
  obtain ⟨o, ho, hc, nl, hd⟩ := hl
  obtain ⟨oc, od, oe, os⟩ := o
  cases hc
  cases hd
  have hl : s.heap.IsTuple l items := ⟨_, ho, rfl, nl, rfl⟩
  have ho1 : (made s led).heap.get? l = some { cls := .type "tuple", dict := od, data := .seq items nl, slots := os } := Heap.get?_push_of_some _ ho
  have hl1 : (made s led).heap.IsTuple l items := ⟨_, ho1, rfl, nl, rfl⟩
  have f1 := F.sub_tuple_set
  have f2 := F.sub_tuple_frozenset
  have f3 : (Value.type "list" == Value.type "dict") = false := by decide
  have lt : l < s.heap.objs.size := Heap.lt_size ho
  have sz : (made s led).heap.objs.size = s.heap.objs.size + 1 := Heap.size_push _ _
  have tx : xs.length = items.size := by rw [← StrsAre.len_eq ht, Array.length_toList]
  unfold Builtin.«set.__init__» noKeywords Builtin.Frozenset.updateFrom
  unfold made at *
  generalize hPI : pyIter = PI
  wp_walk
  subst hPI
  refine wpAny_pyIter_tuple hl1 (wpAny_bind (wpAny_runValue ?_))
  have apart : l ≠ (s.heap.push (bare led)).objs.size := by rw [sz]; exact Nat.ne_of_lt (Nat.lt_succ_of_lt lt)
  have out : s.heap.objs.size ∉ [(s.heap.push (bare led)).objs.size, l] := by
    rw [sz]
    simp only [List.mem_cons, List.not_mem_nil, or_false, not_or]
    exact ⟨Nat.ne_of_lt (Nat.lt_succ_self _), Nat.ne_of_gt lt⟩
  have at0 : ((s.heap.push (bare led)).push { cls := .type "tuple_iterator", data := .fields #[.ref l, .int 0 0] }).get? s.heap.objs.size = some (bare led) := Heap.get?_push_of_some _ new
  refine fill ((Walks.tuple (by simp [calm]) _ l apart items).toS) s.heap.objs.size out xs tx (by omega) (fun i v hv => SS.strs_at ht i v (by rw [Array.getElem?_toList]; exact hv)) (items.size - 0) 0 _ (by omega) (Nat.zero_le _) ⟨⟨_, Heap.get?_push_size _ rfl, rfl, rfl⟩, (hl1.push _)⟩
    (SetOf_congr ((setObjOf_fresh (knd := strKind prog w) led).setOf at0 (by unfold scanBound; omega)) (fun _ => rfl) rfl) fun s2 mv S2 => ?_
  obtain ⟨h2, g2, d2, tk, os2⟩ := s2
  cases (show g2 = s.gens from mv.gens)
  cases (show d2 = s.drawn from mv.drawn)
  cases (show os2 = s.os from mv.os)
  refine wpAny_pure (wpAny_pure (fin h2 tk ⟨by rw [tx]; exact S2, fun b o hb e => mv.heap b o ?_ (Heap.get?_push_of_some _ (Heap.get?_push_of_some _ e))⟩))
  simp only [List.mem_cons, List.not_mem_nil, or_false, not_or]
  exact ⟨Nat.ne_of_lt hb, by rw [sz]; exact Nat.ne_of_lt (Nat.lt_succ_of_lt hb)⟩
set_option maxHeartbeats 1600000 in
theorem call_setT {l : Addr} {items : Array Value} {xs : List Str} {Q : Value → Shared → Prop} (calm : A.handled = none) (hl : s.heap.IsTuple l items) (ht : StrsAre items.toList xs) (few : xs.length ≤ 4000)
    (fin : ∀ (h' : Heap) (tk : Nat), Filled prog w s xs h' → Q (.ref s.heap.objs.size) { s with heap := h', toks := tk }) : wpAny (model prog w) A (call (.type "set") [.ref l]) Q E s := by
  obtain ⟨c, tl, hmro⟩ := F.called_set.mro
  have k1 := F.called_set.made
  have k2 := F.called_set.sub
  have k3 := F.called_set.notType
  have k4 := F.called_set.canCreate
  have k5 := F.typeCall_set_1 (.ref l)
  refine wpAny_call (codeAny_of_tree (wpAny_pure (M := model prog w) ⟨Code.quiet_builtin _ (by decide +kernel), codeAny_builtin F.entry_type_call ?_⟩))
  rw [Around.under_plain (weight_type_call_type "set" [.ref l] []) rfl]
  repeat (any_goals (first | assumption | wp_step))
  refine codeAny_mono (code_set_new_1 (.ref l) (E := E) (Q₁ := fun x s1 => ∃ led : Bool, x = .ref s.heap.objs.size ∧ s1 = made s led) fun led => ⟨led, rfl, rfl⟩) fun r s1 hr => ?_
  rcases r with e | (_ | _ | _ | x)
  · exact hr
  · exact hr.elim
  · exact hr.elim
  · exact hr.elim
  obtain ⟨led, rfl, rfl⟩ := hr
  have ty : Shared.TypeIs (made s led) (.ref s.heap.objs.size) "set" := ⟨_, Heap.get?_push_size _ rfl, rfl⟩
  have b1 := F.called_set.init.lookup
  have b2 := F.called_set.init.bind (.ref s.heap.objs.size)
  repeat (any_goals (first | assumption | wp_step))
  refine codeAny_call_builtin F.called_set.init.plain F.entry_set_init (check_set_init_1 ty (init_setT (by simp [calm]) hl ht few fun h' tk fl => ?_))
  refine wpAny_pure ?_
  repeat (any_goals (first | assumption | wp_step))
  exact fin _ _ fl
end
section
variable {X : L2.Cx}
open L2
/-- len(set(xs)), xs a list or a tuple of texts -/
def tLenT (K : PySem.W.Frag) (ta : TE) : TE := fun σ H Q => ta σ H fun x H1 => ∃ (l : Addr) (xs : List Str), x = .ref l ∧ (SqL K H1 l (xs.map V.str) ∨ SqT K H1 l (xs.map V.str)) ∧ xs.length ≤ 4000 ∧ Q (.int (cnt xs xs.length : Nat)) H1
theorem pe_lenT {a : Expr} {ta : TE} {p p2 q pos : Pos} (hg : Gl X "len") (hm : X.mg "len" = none) (hg2 : Gl X "set") (hm2 : X.mg "set" = none) (ha : PE X a ta) (calm : X.calm = true := by rfl)
    (one : starEach [a] X.env = (false, eval a X.env) :: starEach [] X.env := by rfl) : PE X (.Call (.Name "len" p) [.Call (.Name "set" p2) [a] [] q] [] pos) (tLenT X.K ta) := by
  refine ⟨fun pins s σ H Q I h => Call_ (ld_blt I hg hm boot_len (callWith_builtin1 (args_cons (Call_ (ld_blt I hg2 hm2 boot_set ?_)) rfl) rfl rfl))⟩
  refine callWith_type1 (args_cons (thn (ha.run pins s σ H _ I h) fun v s1 ⟨x, H1, I1, r1, l, xs, e, hq, few, fin⟩ => args_nil ?_) one) one rfl
  subst e
  cases r1
  rcases hq with hq | hq
  · obtain ⟨its, r, pl, hz⟩ := I1.list hq
    refine call_set (I1.ok.hd calm) pl.isList (by simpa using strsAre r) few fun h' tk fl => args_nil ?_
    obtain ⟨⟨o, es, ep, t, ho, hex, hd, _, _, _, hf, hn⟩, hk⟩ := fl
    have small : cnt xs xs.length ≤ 4000 := Nat.le_trans (cnt_le xs _) few
    have I2 : L2.Inv X pins σ H1 { s1 with heap := h', toks := tk } := I1.kept fun b o e => hk b o (Heap.lt_size e) e
    exact call_len_set ho hex hd hf (by rw [hn]; omega) ⟨.int (cnt xs xs.length : Nat), H1, I2.tok _, ⟨_, by rw [hn]⟩, fin⟩
  · obtain ⟨its, r, pl, hz⟩ := I1.tuple hq
    refine call_setT (I1.ok.hd calm) pl (by simpa using strsAre r) few fun h' tk fl => args_nil ?_
    obtain ⟨⟨o, es, ep, t, ho, hex, hd, _, _, _, hf, hn⟩, hk⟩ := fl
    have small : cnt xs xs.length ≤ 4000 := Nat.le_trans (cnt_le xs _) few
    have I2 : L2.Inv X pins σ H1 { s1 with heap := h', toks := tk } := I1.kept fun b o e => hk b o (Heap.lt_size e) e
    exact call_len_set ho hex hd hf (by rw [hn]; omega) ⟨.int (cnt xs xs.length : Nat), H1, I2.tok _, ⟨_, by rw [hn]⟩, fin⟩
end
end SetStr
end

-- SupX
section
set_option Elab.async false
set_option linter.all false
set_option maxRecDepth 100000
set_option maxHeartbeats 2000000
/-! a def that says super().m(..) first: its own cells, `__class__` captured. -/
namespace SupX
open PySem PySem.Spec PyProof.Rows L2 StX
/-! ### the frame: own cells behind a captured one -/
theorem cellsFrom_app : ∀ (names : List (Str × NameKind)) (n : Nat) (acc cl : List (Str × Addr)), cellsFrom n names (acc ++ cl) = cellsFrom n names acc ++ cl
  | [], _, _, _ => rfl
  | (x, k) :: r, n, acc, cl => by
    unfold cellsFrom
    split
    · exact cellsFrom_app r (n + 1) ((x, n) :: acc) cl
    · exact cellsFrom_app r n acc cl
theorem cellsFrom_cl (names : List (Str × NameKind)) (n : Nat) (cl : List (Str × Addr)) : cellsFrom n names cl = cellsFrom n names [] ++ cl := cellsFrom_app names n [] cl
theorem lookup_app {α : Type} {x : Str} {c : α} : ∀ {l r : List (Str × α)}, l.lookup x = some c → (l ++ r).lookup x = some c
  | (k, v) :: l, r, h => by
    rw [List.cons_append]
    rw [List.lookup_cons] at h ⊢
    cases hb : x == k with
    | true => rw [hb] at h; exact h
    | false => rw [hb] at h; exact lookup_app h
theorem lookup_app_none {α : Type} {x : Str} : ∀ {l r : List (Str × α)}, l.lookup x = none → (l ++ r).lookup x = r.lookup x
  | [], r, _ => rfl
  | (k, v) :: l, r, h => by
    rw [List.cons_append]
    rw [List.lookup_cons] at h ⊢
    cases hb : x == k with
    | true => rw [hb] at h; cases h
    | false => rw [hb] at h; exact lookup_app_none h
section
variable {M : Model} {A : Around} {E : Value → Shared → Prop} {s₀ s : Shared} {m cm : Str → Option Value} {env : Env} {cs : List (Str × Addr)}
theorem stL {n : Str} {v : Value} {Q : Unit → Shared → Prop} (x : InCallC s₀ env.locals m cs cm s) (hk : env.scope.kind = .function) (hl : env.kindOf n = some .local)
    (h : ∀ s', InCallC s₀ env.locals (fun y => if y = n then some v else m y) cs cm s' → Q () s') : wpAny M A (storeName env n v) Q E s := by
  refine wpAny_storeName_local hl x.toInCall.ns (fun h' hn' hs' => h _ ⟨⟨?_, hn', fun b o e => ?_, x.toInCall.fresh⟩, fun k c hc => ?_, x.apart, x.above⟩) (by rw [hk]; rfl)
  · obtain ⟨h₁, tk, rfl⟩ := x.toInCall.same
    exact ⟨h', _, rfl⟩
  · exact hs'.extBut b o (Nat.ne_of_lt (Nat.lt_of_lt_of_le (Heap.lt_size e) x.toInCall.fresh)) (x.toInCall.keep b o e)
  · exact (x.cell k c hc).sameBut hs' (Nat.ne_of_gt (x.above k c (mem_of_lookup hc)))
theorem stC {n : Str} {c : Addr} {v : Value} {Q : Unit → Shared → Prop} (x : InCallC s₀ env.locals m cs cm s) (hk : env.scope.kind = .function) (hl : env.kindOf n = some .cell)
    (hc : cs.lookup n = some c) (hce : env.cells.lookup n = some c)
    (h : ∀ s', InCallC s₀ env.locals m cs (fun y => if y = n then some v else cm y) s' → Q () s') : wpAny M A (storeName env n v) Q E s := by
  have hLc := x.above n c (mem_of_lookup hc)
  refine wpAny_storeName_cell hk hl hce (x.cell n c hc) fun h' hc' hs' => h _ ⟨⟨?_, x.toInCall.ns.sameBut hs' (Nat.ne_of_lt hLc), fun b o e => ?_, x.toInCall.fresh⟩, fun k c' hk' => ?_, x.apart, x.above⟩
  · obtain ⟨h₁, tk, rfl⟩ := x.toInCall.same
    exact ⟨h', _, rfl⟩
  · exact hs'.extBut b o (Nat.ne_of_lt (Nat.lt_trans (Nat.lt_of_lt_of_le (Heap.lt_size e) x.toInCall.fresh) hLc)) (x.toInCall.keep b o e)
  · by_cases hkn : k = n
    · subst hkn
      rw [hc] at hk'; cases hk'
      simpa using hc'
    · rw [if_neg hkn]
      exact (x.cell k c' hk').sameBut hs' fun e => hkn (name_of_addr x.apart (mem_of_lookup hk') (e ▸ mem_of_lookup hc))
theorem bindParamsS (f : Str × Value → PUnit → Sem (ForInStep PUnit)) (hf : ∀ n v u, f (n, v) u = (do storeName env n v; pure (.yield ⟨⟩))) (hk : env.scope.kind = .function) (hcs : ∀ n c, cs.lookup n = some c → env.cells.lookup n = some c) :
    ∀ (binds : List (Str × Value)) (m cm : Str → Option Value) (s : Shared) (Q : PUnit → Shared → Prop), InCallC s₀ env.locals m cs cm s →
      (∀ x ∈ binds, env.kindOf x.1 = some .local ∨ (env.kindOf x.1 = some .cell ∧ (cs.lookup x.1).isSome = true)) →
      (∀ s', InCallC s₀ env.locals (bindL env.kindOf binds m) cs (bindC env.kindOf binds cm) s' → Q ⟨⟩ s') → wpAny M A (forIn binds ⟨⟩ f) Q E s
  | [], m, cm, s, Q, x, _, h => by rw [List.forIn_nil]; exact wpAny_pure (h s x)
  | (n, v) :: r, m, cm, s, Q, x, hkind, h => by
    rw [List.forIn_cons, hf]
    have hr : ∀ y ∈ r, env.kindOf y.1 = some .local ∨ (env.kindOf y.1 = some .cell ∧ (cs.lookup y.1).isSome = true) := fun y hy => hkind y (List.mem_cons_of_mem _ hy)
    rcases hkind (n, v) List.mem_cons_self with hl | ⟨hl, hc⟩
    · refine wpAny_bind (wpAny_bind (stL x hk hl fun s' x' => wpAny_pure (bindParamsS f hf hk hcs r _ _ s' Q x' hr fun s'' x'' => h s'' ?_)))
      unfold bindL bindC; rw [if_pos hl, if_pos hl]; exact x''
    · obtain ⟨c, hc⟩ := Option.isSome_iff_exists.mp hc
      have hnl : ¬ env.kindOf n = some .local := by rw [hl]; decide
      refine wpAny_bind (wpAny_bind (stC x hk hl hc (hcs n c hc) fun s' x' => wpAny_pure (bindParamsS f hf hk hcs r _ _ s' Q x' hr fun s'' x'' => h s'' ?_)))
      unfold bindL bindC; rw [if_neg hnl, if_neg hnl]; exact x''
end
section
variable {M : Model} {A : Around} {E : Value → Shared → Prop} {s : Shared}
theorem newEnvS {scope : Scope} {globals : Addr} {cl : List (Str × Addr)} {binds : List (Str × Value)} {qual : Str} {func : Option Addr} {code : Value} {builtins : Addr} {Q : Env → Shared → Prop}
    (hk : scope.kind = .function)
    (hkind : ∀ x ∈ binds, scope.names.lookup x.1 = some .local ∨ (scope.names.lookup x.1 = some .cell ∧ ((cellsFrom (s.heap.objs.size + 1) scope.names []).lookup x.1).isSome = true))
    (hQ : ∀ env, env = newEnv scope s.heap.objs.size globals (cellsFrom (s.heap.objs.size + 1) scope.names [] ++ cl) qual func code none builtins →
      ∀ s', InCallC s env.locals (bindL env.kindOf binds fun _ => none) (cellsFrom (s.heap.objs.size + 1) scope.names []) (bindC env.kindOf binds fun _ => none) s' → Q env s') :
    wpAny M A (newFunctionEnv scope globals cl binds qual func code none builtins) Q E s := by
  simp only [newFunctionEnv, Option.isSome_none, Bool.false_eq_true, if_false]
  refine wpAny_bind (wpAny_alloc ?_)
  refine wpAny_bind (wpAny_layCells _ (fun name kind cells => by cases hkc : kind == NameKind.cell <;> simp [hkc]) _ _ _ _ ?_)
  have ok := cellsFrom_ok scope.names (s.heap.push { cls := .type "frame", data := .dict #[] }) (s.heap.objs.size + 1) [] ⟨fun _ _ hm => (nomatch hm), List.Pairwise.nil⟩ (by rw [Heap.size_push]; exact Nat.le_refl _)
  rw [Heap.size_push] at ok
  rw [show ({ s with heap := s.heap.push { cls := .type "frame", data := .dict #[] } } : Shared).heap.objs.size = s.heap.objs.size + 1 from Heap.size_push ..]
  rw [cellsFrom_cl]
  refine wpAny_bind (bindParamsS (s₀ := s) (env := newEnv scope s.heap.objs.size globals (cellsFrom (s.heap.objs.size + 1) scope.names [] ++ cl) qual func code none builtins) (cs := cellsFrom (s.heap.objs.size + 1) scope.names [])
    _ (fun _ _ _ => rfl) hk (fun n c h => lookup_app h) binds (fun _ => none) (fun _ => none) _ _
    ⟨⟨⟨_, _, rfl⟩, (Heap.Ns.new s.heap (.type "frame")).keeps (pushCells_keeps _ _), fun b o e => pushCells_keeps _ _ b o (Heap.get?_push_of_some _ e), Nat.le_refl _⟩,
      fun n c hc => (ok.empty n c (mem_of_lookup hc)).1, ok.apart, fun n c hm => (ok.empty n c hm).2⟩
    hkind fun s' x => wpAny_pure (hQ _ rfl s' x))
end
/-! ### the context of such a def's body -/
abbrev kC : Str := "__class__"
structure SScope (N P : List Str) (sc : Scope) : Prop where
  kind : sc.kind = .function
  co : sc.isCoroutine = false
  gen : sc.isGenerator = false
  nd : N.Nodup
  pre : N.take P.length = P
  par : ∀ x ∈ P, sc.names.lookup x = some .local ∨ sc.names.lookup x = some .cell
  free : ∀ y ∈ sc.names, y.2 = .free → y.1 = kC
  once : ∀ y ∈ sc.names, y.1 = kC → y.2 = .free
  has : sc.names.lookup kC = some .free
  sup : sc.names.lookup ("super" : Str) = some .globalImplicit
abbrev envS (qual : Str) (scope : Scope) (L f cda cc : Addr) : Env := PySem.W.envX qual scope L f (.ref cda) (cellsFrom (L + 1) scope.names [] ++ [(kC, cc)])
def cxS (CX : CXT) (P : Program) (w : World) (K : PySem.W.Frag) (mg : Str → Option Value) (base : Heap) (N : List Str) (qual : Str) (scope : Scope) (f cda cc : Addr) (A : Around) (outer : List Env) (s : Shared) (H : Hp) (E : XK) : Cx where
  prog := P
  w := w
  K := K
  mg := mg
  base := base
  A := A.deeper (envS qual scope s.heap.objs.size f cda cc)
  N := N
  s_0 := s
  H_0 := H
  env := envS qual scope s.heap.objs.size f cda cc
  outer := outer
  stack := envS qual scope s.heap.objs.size f cda cc :: outer
  ex := []
  calm := true
  fn := fun x => x != kC
  pn := []
  xe := fun e s' => wpAny (model P w) (A.deeper (envS qual scope s.heap.objs.size f cda cc)) (leaving (envS qual scope s.heap.objs.size f cda cc) e) (fun _ s'' => CX outer H s E e s'') (fun e' s'' => CX outer H s E e' s'') s'
theorem cell_mem : ∀ {names : List (Str × NameKind)} {n : Nat} {acc : List (Str × Addr)} {y : Str} {c : Addr}, (y, c) ∈ cellsFrom n names acc → (y, c) ∈ acc ∨ (y, NameKind.cell) ∈ names
  | [], _, _, _, _, h => .inl h
  | (x, k) :: r, n, acc, y, c, h => by
    unfold cellsFrom at h
    split at h
    · rename_i hk
      rcases cell_mem h with q | q
      · rcases List.mem_cons.mp q with q | q
        · cases q
          refine .inr ?_
          rw [show k = .cell from by cases k <;> first | rfl | cases hk]
          exact List.mem_cons_self
        · exact .inl q
      · exact .inr (List.mem_cons_of_mem _ q)
    · rcases cell_mem h with q | q
      · exact .inl q
      · exact .inr (List.mem_cons_of_mem _ q)
section
variable {CX : CXT} {P : Program} {w : World} {K : PySem.W.Frag} {mg : Str → Option Value} {base : Heap} {N ps : List Str} {qual : Str} {scope : Scope} {f cda cc D : Addr} {A : Around} {outer : List Env} {s s1 : Shared} {H : Hp} {E : XK} {us : List Value} {vs : List V} {cl : Value} {cld : Option Addr} {csl : Array (Option Value)}
theorem inv_startS (S : SScope N ps scope) (hcc : K.lookup cc = some ⟨cl, cld, .cell (some (.ref D)), csl⟩) (hd : A.handled = none) (e0 : Env0 P w K mg base A outer s H) (hl : vs.length = ps.length) (r : Vals vs us)
    (x : InCallC s s.heap.objs.size (bindL (envS qual scope s.heap.objs.size f cda cc).kindOf (ps.zip us) fun _ => none) (cellsFrom (s.heap.objs.size + 1) scope.names []) (bindC (envS qual scope s.heap.objs.size f cda cc).kindOf (ps.zip us) fun _ => none) s1) :
    Inv (cxS CX P w K mg base N qual scope f cda cc A outer s H E) [] (L2.start N vs) H s1 := by
  have hpl : ps.length ≤ N.length := by have := congrArg List.length S.pre; rw [List.length_take] at this; omega
  obtain ⟨h1, tk, rfl, hk⟩ := x.done
  have noA : ∀ b : Addr, b ∉ (cxS CX P w K mg base N qual scope f cda cc A outer s H E).ex := fun b z => absurd (show b ∈ ([] : List Addr) from z) (by simp)
  have hcs : ∃ o, base.get? cc = some o ∧ o.data = .cell (some (.ref D)) := ⟨_, e0.mod.kin _ _ hcc, rfl⟩
  obtain ⟨occ, hb1, hb2⟩ := hcs
  have ncl : (cellsFrom (s.heap.objs.size + 1) scope.names []).lookup kC = none := by
    cases q : (cellsFrom (s.heap.objs.size + 1) scope.names []).lookup kC with
    | none => rfl
    | some c =>
      rcases cell_mem (PySem.mem_of_lookup q) with z | z
      · cases z
      · cases S.once _ z rfl
  -- a cell: an own one, or the captured
  have two : ∀ y c, (cellsFrom (s.heap.objs.size + 1) scope.names [] ++ [(kC, cc)]).lookup y = some c → (cellsFrom (s.heap.objs.size + 1) scope.names []).lookup y = some c ∨ (y = kC ∧ c = cc) := fun y c h => by
    cases q : (cellsFrom (s.heap.objs.size + 1) scope.names []).lookup y with
    | some c' =>
      rw [lookup_app q] at h
      cases h
      exact .inl rfl
    | none =>
      rw [lookup_app_none q] at h
      refine .inr ?_
      rw [List.lookup_cons] at h
      cases hb : (y == kC) with
      | true => rw [hb] at h; cases h; exact ⟨beq_iff_eq.mp hb, rfl⟩
      | false => rw [hb] at h; cases h
  have lowc : cc < s.heap.objs.size := Heap.lt_size (e0.bs _ _ hb1).1
  refine ⟨⟨e0.mod, S.kind, rfl, rfl, Nat.le_refl _, fun y z c h1 h2 => ?_, fun y hy => ?_, fun y c q h => ?_, fun _ => hd, Around.frames_deeper e0.frames, .inr ⟨rfl, rfl⟩, fun b z => absurd z (noA b), e0.bs, e0.bsz, fun b _ _ => noA b, fun b z => absurd z (noA b), e0.funs, e0.frf⟩,
    rfl, e0.bare, Un.kept hk, ⟨_, x.toInCall.ns, fun i y v h1 h2 h3 => ?_⟩, fun y c h => ?_, e0.hok.fresh (Nat.le_refl _), fun y c h => ?_, fun p hp => absurd (show p ∈ ([] : List (Addr × Obj)) from hp) (by simp), e0.hok.kept hk, ?_⟩
  · rcases two _ _ h1 with q1 | ⟨q1, q2⟩ <;> rcases two _ _ h2 with r1 | ⟨r1, r2⟩
    · exact name_of_addr x.apart (PySem.mem_of_lookup q1) (PySem.mem_of_lookup r1)
    · subst r2
      have z := x.above _ _ (PySem.mem_of_lookup q1)
      exact absurd (Nat.lt_trans lowc z) (Nat.lt_irrefl _)
    · subst q2
      have z := x.above _ _ (PySem.mem_of_lookup r1)
      exact absurd (Nat.lt_trans lowc z) (Nat.lt_irrefl _)
    · rw [q1, r1]
  · have hy : scope.names.lookup y = some .cell ∨ scope.names.lookup y = some .free := hy
    rcases hy with hy | hy
    · obtain ⟨c, e⟩ := cell_has (n := s.heap.objs.size + 1) hy
      exact ⟨c, lookup_app e⟩
    · have e := S.free _ (PySem.mem_of_lookup hy) rfl
      dsimp only at e
      subst e
      exact ⟨cc, by show (cellsFrom (s.heap.objs.size + 1) scope.names [] ++ [(kC, cc)]).lookup kC = _; rw [lookup_app_none ncl]; simp [List.lookup]⟩
  · rcases two _ _ h with q1 | ⟨q1, q2⟩
    · exact Nat.le_of_lt (x.above y c (PySem.mem_of_lookup q1))
    · subst q1
      have q : (kC != kC) = true := q
      simp at q
  · have hi : i < vs.length := by
      unfold L2.start at h2
      by_cases hi : i < vs.length
      · exact hi
      · rw [List.getElem?_append_right (by simpa using hi)] at h2
        rw [List.getElem?_replicate] at h2
        split at h2 <;> cases h2
    have ha : vs[i]? = some v := by
      unfold L2.start at h2
      rw [List.getElem?_append_left (by simpa using hi), List.getElem?_map] at h2
      cases e : vs[i]? with
      | none => rw [e] at h2; cases h2
      | some a => rw [e] at h2; cases h2; rfl
    obtain ⟨u, hu, rv⟩ := r.get ha
    have hp : ps[i]? = some y := by
      rw [← S.pre, List.getElem?_take_of_lt (by omega)]; exact h1
    have ndP : ps.Nodup := by rw [← S.pre]; exact S.nd.sublist (List.take_sublist _ _)
    refine ⟨u, rv, ?_⟩
    rcases S.par y (List.mem_of_getElem? hp) with k | k
    · exact .inl ⟨k, bindL_get ndP hp hu k⟩
    · obtain ⟨c, e⟩ := cell_has (n := s.heap.objs.size + 1) k
      refine .inr ⟨.inl k, c, lookup_app e, ?_⟩
      have q := x.cell y c e
      rw [bindC_get ndP hp hu (by show scope.names.lookup y ≠ _; rw [k]; decide)] at q
      exact q
  · rcases two _ _ h with q1 | ⟨q1, q2⟩
    · exact ⟨_, x.cell y c q1⟩
    · subst q2
      exact ⟨_, occ, hk _ _ (e0.bs _ _ hb1).1, hb2⟩
  · rcases two _ _ h with q1 | ⟨q1, q2⟩
    · exact e0.hok.fresh (Nat.le_of_lt (x.above y c (PySem.mem_of_lookup q1)))
    · subst q2
      exact (e0.bs _ _ hb1).2
  · unfold L2.start
    show _ = N.length
    rw [List.length_append, List.length_map, List.length_replicate]
    omega
end
/-! ### a block where the code that runs is known -/
def PSsA (X : Cx) (code : Code) (body : List Stmt) (t : TS) : Prop := ∀ (pins : List (Addr × Obj)) (s : Shared) (σ : L2.St) (H : Hp) (D : Ends), Inv X pins σ H s → t D σ H → PySem.wpAt (model X.prog X.w) X.A code (execs body X.env) (SP X pins D) X.xe s
theorem PSsA.of {X : Cx} {code : Code} {body : List Stmt} {t : TS} (h : PSs X body t) : PSsA X code body t := fun pins s σ H D I q => wpAt_of_wpAny (h.run pins s σ H D I q)
section
variable {CX : CXT} {P : Program} {w : World} {K : PySem.W.Frag} {mg : Str → Option Value} {base : Heap} {k : Nat} {f cda cc D : Addr} {name qual : Str} {params : Arguments} {body : List Stmt} {scope : Scope} {dV kV doc pm ct oc : Value} {an od : Option Addr} {cl : Value} {cld : Option Addr} {csl : Array (Option Value)}
  {osl : Array (Option Value)} {N ps : List Str} {sp : Sp}
theorem run_bndS {A : Around} {outer : List Env} {s : Shared} {H : Hp} {args : Args} {Q : VK} {E : XK} {G : List V → Hp → Prop} (lk : K.lookup f = some ⟨oc, od, .func (PySem.W.ksFn name qual params body scope dV kV doc pm an (.ref cda) ct cc), osl⟩) (hcd : PySem.W.codeIn K (.ref cda) qual = true)
    (S : SScope N ps scope) (hcc : K.lookup cc = some ⟨cl, cld, .cell (some (.ref D)), csl⟩) (hr : Room (k + 1) A) (e0 : Env0 P w K mg base A outer s H) (hb : Bnd CX P w K mg base (PySem.W.ksFn name qual params body scope dV kV doc pm an (.ref cda) ct cc) args ps A outer s H E G)
    (hbody : ∀ (s2 : Shared) (H2 : Hp) (vs : List V), G vs H2 → Room k (A.deeper (envS qual scope s2.heap.objs.size f cda cc)) →
      ∃ t, PSsA (cxS CX P w K mg base N qual scope f cda cc A outer s2 H2 E) (.func body (envS qual scope s2.heap.objs.size f cda cc)) body t ∧ t { nx := fun _ H' => Q .non H', rt := Q } (L2.start N vs) H2) : codeAny (model P w) A (.call (.ref f) args) (CR CX outer P w H s Q E) s := by
  have KX : K.In s.heap := e0.mod.kin.keeps fun b o e => (e0.bs b o e).1
  refine codeAny_call_function hr.depth (KX _ _ lk) rfl S.co S.gen rfl (PySem.W.codeRec_of KX hcd) ?_
  refine hb _ _ _ fun s2 H2 vs us e2 un ho hx r hl g => ?_
  have lim : s2.heap.NoLimit := e0.mod.nolimit.keeps fun b o e => (e2.bs b o e).1
  have hkind : ∀ y ∈ ps.zip us, scope.names.lookup y.1 = some .local ∨ (scope.names.lookup y.1 = some .cell ∧ ((cellsFrom (s2.heap.objs.size + 1) scope.names []).lookup y.1).isSome = true) := fun y hy => by
    rcases S.par y.1 (List.of_mem_zip hy).1 with q | q
    · exact .inl q
    · exact .inr ⟨q, PySem.W.cellsFrom_some _ _ _ (.inl q)⟩
  refine newEnvS (s := s2) S.kind hkind fun env he s1 x => ?_
  subst he
  refine ⟨lim.keeps x.toInCall.keep, ks_codeAny_funcAt ?_⟩
  obtain ⟨t, ht, hq⟩ := hbody s2 H2 vs g (hr.deeper _)
  have I : Inv (cxS CX P w K mg base N qual scope f cda cc A outer s2 H2 E) [] (L2.start N vs) H2 s1 := inv_startS S hcc hr.hd e2 hl r x
  refine ks_wpAt_mono (ht [] s1 _ _ _ I hq) (fun fl s' hs => ?_) fun e s' hs => ?_
  · have fin : ∀ {σ' : L2.St} {H' : Hp} {v' : V} {u' : Value}, Inv (cxS CX P w K mg base N qual scope f cda cc A outer s2 H2 E) [] σ' H' s' → RelV v' u' → Q v' H' → CE outer P w H s Q u' s' :=
      fun {σ' H' v' u'} J rv' q => ⟨v', H', J.os.trans ho, J.bare, un.trans J.base, J.hok, rv', q⟩
    cases fl with
    | ret u' =>
      obtain ⟨v', σ', H', J, rv', q⟩ := hs
      exact fin J rv' q
    | next =>
      obtain ⟨σ', H', J, q⟩ := hs
      exact fin (v' := V.non) (u' := Value.none) J rfl q
    | brk =>
      obtain ⟨_, _, _, q⟩ := hs
      exact False.elim q
    | cont =>
      obtain ⟨_, _, _, q⟩ := hs
      exact False.elim q
  · exact wpAny_mono hs (fun _ s'' z => hx e s'' z) fun e' s'' z => hx e' s'' z
end
end SupX
end

-- SupX2
section
set_option Elab.async false
set_option linter.all false
set_option maxRecDepth 100000
set_option maxHeartbeats 2000000
namespace SupX
open PySem PySem.Spec PyProof.Rows L2 StX
/-- what super() finds ahead: of an instance of C, behind the class D, m is the def at g -/
structure SupAt (K : PySem.W.Frag) (C D : Addr) (m : Str) (g : Addr) : Prop where
  cls : (PySem.W.clsIn K C).isSome = true
  sub : PySem.W.mroIn K C (.ref D) = some true
  at_ : PySem.W.ks_superIn K C D m = some (some (.ref g))
instance {K : PySem.W.Frag} {C D : Addr} {m : Str} {g : Addr} : Decidable (SupAt K C D m g) := decidable_of_iff ((PySem.W.clsIn K C).isSome = true ∧ PySem.W.mroIn K C (.ref D) = some true ∧ PySem.W.ks_superIn K C D m = some (some (.ref g)))
  ⟨fun ⟨a, b, c⟩ => ⟨a, b, c⟩, fun ⟨a, b, c⟩ => ⟨a, b, c⟩⟩
/-- what the def itself is: its first parameter, its code's file, the cell of its class -/
structure SupDef (K : PySem.W.Frag) (P : Program) (f cda cc D g : Addr) (p1 : Str) : Prop where
  fn : ∃ oc od fd osl ar, K.lookup f = some ⟨oc, od, .func fd, osl⟩ ∧ (fd.params.posonlyargs ++ fd.params.args).head? = some ar ∧ ar.arg = p1
  code : ∃ cl od vs sl file tf, K.lookup cda = some ⟨cl, od, .fields vs, sl⟩ ∧ vs[2]? = some (.str file tf) ∧ ((P.main.file : Str) == file) = true
  cell : ∃ cl cld csl, K.lookup cc = some ⟨cl, cld, .cell (some (.ref D)), csl⟩
  cls : (PySem.W.clsIn K D).isSome = true
  sup : PySem.W.nsIn K mainGlobals "super" = some none
  any : PySem.W.nsIn K cStatics "thirdparty.any" = some none
  tg : PySem.W.typeIn K (.ref g) = some (.type "function")
  fg : PySem.W.fnIn K g = true
  top : (P.main.scope.names.lookup ("super" : Str)).isSome = false
def tSup (SO : Addr → Prop) (sp : Sp) (E : XK) (t : TA) (rest : TS) : TS := fun D σ H => ∃ x C dx fs, σ[0]? = some (some (V.ref x)) ∧ H x = some (.ins C dx fs) ∧ SO C ∧ t σ H fun vs H1 => sp (.ref x :: vs) H1 (fun _ H2 => rest D σ H2) E
/-- what stands in a call's argument list, whatever it is -/
def ArgsOk (X : Cx) (es : List Expr) : Prop := ∀ (pos : Pos) (u : Addr) (self : Value) (g : Addr) (Q : Value → Shared → Prop) (E : Value → Shared → Prop) (s : Shared), PySem.W.fnIn X.K g = true →
  wpAny (model X.prog X.w) X.A (spliced (backTo pos (starEach es X.env))) (fun vs s₁ => PySem.W.MethP X.K u g self s₁.heap ∧ wpAny (model X.prog X.w) X.A (call (.ref u) vs) Q E s₁) E s →
  wpAny (model X.prog X.w) X.A (callWith pos (.ref u) [] (backTo pos (starEach es X.env)) []) Q E s
theorem argsPlain {X : Cx} {e : Expr} {es : List Expr} (he : starEach (e :: es) X.env = (false, eval e X.env) :: starEach es X.env) (hp : ∀ pos, (backTo pos (starEach es X.env)).any (·.1) = false) : ArgsOk X (e :: es) := fun pos u self g Q E s hf h => by
  rw [he] at h ⊢
  exact PySem.W.callWith_of (P := PySem.W.MethP X.K u g self) (by show ((false || (backTo pos (starEach es X.env)).any (·.1)) || false) = false; rw [hp pos]; rfl) (PySem.W.keeps_M hf) (PySem.Calls.evalArgs_plain h)
theorem argsStar {X : Cx} {e : Expr} {es : List Expr} (he : starEach (e :: es) X.env = (false, eval e X.env) :: starEach es X.env) (hp : ∀ pos, (backTo pos (starEach es X.env)).any (·.1) = true) : ArgsOk X (e :: es) := fun pos u self g Q E s hf h => by
  rw [he] at h ⊢
  exact PySem.W.ks_call (P := PySem.W.MethP X.K u g self) (by show (false || (backTo pos (starEach es X.env)).any (·.1)) = true; rw [hp pos]; rfl) (PySem.W.keeps_M hf) (PySem.Calls.evalArgs_plain h)
section
variable {X : Cx} {CX : CXT} {k j : Nat} {f cda cc D g : Addr} {qual m p1 : Str} {scope : Scope} {L : Addr} {sp : Sp} {E : XK} {t : TA} {rest : TS} {code : List Stmt} {es : List Expr} {ss : List Stmt} {N ps : List Str}
theorem psA_sup {q0 q1 q2 q3 q4 : Pos} {pl : Sem Bool} (he : X.env = envS qual scope L f cda cc) (S : SScope N ps scope) (hN : X.N[0]? = some p1) (hl : scope.names.lookup p1 = some .local) (SD : SupDef X.K X.prog f cda cc D g p1) (hm : (m == ("__class__" : Str)) = false) (F : FnR X.prog X.w X.K X.mg X.base CX k g sp) (hr : Room k X.A) (hx : Passes CX X E)
    (ha : PA X es t) (hA : ArgsOk X es) (hrest : PSs X ss rest)
    (hev : eval (.Call (.Attribute (.Call (.Name "super" q0) [] [] q1) m q2) es [] q3) X.env = (do
      let ov ← attributeBase (.Call (.Name "super" q0) [] [] q1) m X.env (eval (.Call (.Name "super" q0) [] [] q1) X.env)
      standAt q2.atName
      let (f, first) ← holding [ov] (getMethod ov m pl)
      callWith q3 f first (backTo q3 (starEach es X.env)) [])) :
    PSsA X (.func code X.env) (.Expr (.Call (.Attribute (.Call (.Name "super" q0) [] [] q1) m q2) es [] q3) q4 :: ss) (tSup (fun C => SupAt X.K C D m g) sp E t rest) := by
  intro pins s σ H De I q
  obtain ⟨x, C, dx, fs, hσ, hx0, so, q⟩ := q
  obtain ⟨_, _, fd, _, ar, lkf, har, ear⟩ := SD.fn
  obtain ⟨_, _, vsC, _, file, tf, lkc, hvs, hfile⟩ := SD.code
  obtain ⟨_, _, _, lkcc⟩ := SD.cell
  obtain ⟨cdD, hD⟩ := Option.isSome_iff_exists.mp SD.cls
  obtain ⟨cdC, hC⟩ := Option.isSome_iff_exists.mp so.cls
  obtain ⟨od, J⟩ := OwnOps.inst_at I hx0
  have XK := I.kIn
  have hsc : X.env.scope = scope := by rw [he]
  obtain ⟨oD, hD1, hD2⟩ : ∃ oD, s.heap.get? D = some oD ∧ oD.data = .cls cdD := by
    unfold PySem.W.clsIn at hD
    split at hD
    · rename_i c d cd' sl ho
      cases hD
      exact ⟨_, XK _ _ ho, rfl⟩
    · cases hD
  have hkS : X.env.kindOf "super" = some .globalImplicit := by
    rw [he]; exact S.sup
  have hkC : X.env.kindOf kC = some .free := by
    rw [he]; exact S.has
  have hce : X.env.cells.lookup kC = some cc := by
    rw [he]
    show (cellsFrom (L + 1) scope.names [] ++ [(kC, cc)]).lookup kC = _
    have ncl : (cellsFrom (L + 1) scope.names []).lookup kC = none := by
      cases q : (cellsFrom (L + 1) scope.names []).lookup kC with
      | none => rfl
      | some c =>
        rcases cell_mem (PySem.mem_of_lookup q) with z | z
        · cases z
        · cases S.once _ z rfl
    rw [lookup_app_none ncl]
    simp [List.lookup]
  have hloc : ∃ mL, s.heap.Ns X.env.locals mL ∧ mL p1 = some (.ref x) := by
    obtain ⟨mL, h1, h2⟩ := I.loc
    obtain ⟨u, ru, lk⟩ := h2 0 p1 (.ref x) hN hσ (.inl (by rw [hsc]; exact hl))
    cases (show u = Value.ref x from ru)
    rcases lk with ⟨_, z⟩ | ⟨z, _⟩
    · exact ⟨mL, h1, z⟩
    · exfalso
      have e : X.env.kindOf p1 = some .local := by rw [he]; exact hl
      rw [e] at z
      rcases z with z | z <;> cases z
  obtain ⟨mL, hns, hself⟩ := hloc
  have hkind := I.ok.kind
  have hgl : s.heap.Ns X.env.globals X.mg := by
    rw [I.ok.glob]
    exact I.mod.glob.keeps I.bk
  obtain ⟨mb, hmb, hbb⟩ := I.mod.blt
  have hbl : s.heap.Ns X.env.builtins mb := by
    rw [I.ok.blt]
    exact hmb.keeps I.bk
  have hmgS : X.mg "super" = none := PySem.W.mg_none_of I.mod.kin I.mod.glob SD.sup
  refine PySem.ks_wpAt_execs_cons (PySem.ks_wpAt_Expr_any (PySem.ks_wpAt_MethodCall (pl := pl) ?_ hev) I.quiet)
  refine PySem.ks_wpAt_super_base (f := f) (cc := cda) (ar := ar) (fd := fd) (vs := vsC) (file := file) (tf := tf) hkS hkC hm (by rw [he]) (XK _ _ lkf) rfl har (by rw [he]) (XK _ _ lkc) rfl hvs hfile SD.top ?_
  refine PySem.W.ks_loadName_global hkind hkS (PySem.Calls.loadGlobal_builtin hgl hmgS hbl ((hbb _ (by decide +kernel)).trans (show bootBuiltins "super" = some (.type "super") by first | rfl | kernel_rfl)) ⟨rfl, ?_⟩)
  refine wpAny_loadName_free hkind hkC hce ⟨_, XK _ _ lkcc, rfl⟩ ?_
  rw [ear]
  refine wpAny_loadName_local hkind (by rw [he]; exact hl) hns hself ?_
  refine PySem.ks_wpAny_isType_cls hD1 hD2 ⟨rfl, ?_⟩
  refine PySem.ks_wpAny_call_super hD1 hD2 J.at_ J.cls (fun c e => ?_) (PySem.W.looks_mroIn XK so.sub) (fun h' e kp => ?_)
  · have := J.no
    unfold PySem.W.notCls at this
    rw [e] at this
    exact Bool.noConfusion this
  · obtain ⟨hh, g0, d0, t0, os0⟩ := s
    dsimp only at e kp
    have Xh : X.K.In h' := fun b o q => kp b o (XK b o q)
    have htg : ∃ og, h'.get? g = some og ∧ og.cls = .type "function" := by
      have z : (X.K.lookup g).map (·.cls) = some (.type "function") := SD.tg
      cases q : X.K.lookup g with
      | none => rw [q] at z; cases z
      | some og => rw [q] at z; exact ⟨og, Xh _ _ q, Option.some.inj z⟩
    obtain ⟨og, hog, cog⟩ := htg
    have hal : PySem.W.alongIn X.K m ((cdC.mro.dropWhile (· != .ref D)).drop 1) = some (some (.ref g)) := by
      have z := so.at_
      unfold PySem.W.ks_superIn at z
      rw [hC] at z
      exact z
    refine PySem.ks_wpAny_getMethod_super (D := D) (x := x) (C := C) (f := g) (of := og) (K := X.K) (l₀ := cdC.mro) (l := (cdC.mro.dropWhile (· != .ref D)).drop 1) e (PySem.W.looks_opaque Xh SD.any) ?_ rfl Xh hal hog cog (PySem.W.ks_ne XK J hC) hm ?_
    · exact fun A Q E s k q => wpAny_bind ((PySem.W.looks_clsIn Xh hC) A _ E s k (wpAny_pure q))
    · have kp2 : ∀ b u, hh.get? b = some u → (h'.push { cls := .type "method", data := .fields #[.ref g, .ref x] }).get? b = some u := fun b u q => Heap.get?_push_of_some _ (kp b u q)
      have I2 : Inv X pins σ H ⟨h'.push { cls := .type "method", data := .fields #[.ref g, .ref x] }, g0, d0, t0 + 1, os0⟩ := Inv.kept (s := ⟨hh, g0, d0, t0, os0⟩) I kp2
      have I1 : Inv X pins σ H ⟨h', g0, d0, t0 + 1, os0⟩ := Inv.kept (s := ⟨hh, g0, d0, t0, os0⟩) I kp
      have fr : H h'.objs.size = none := I1.fresh
      have nl : h'.objs.size ≠ X.env.locals := Nat.ne_of_gt I1.lt
      have nf : h'.objs.size ∉ X.fs := I1.nofs (Nat.le_refl _)
      have I3 : Inv X ((h'.objs.size, PySem.W.methodObj (.ref g) (.ref x)) :: pins) σ H ⟨h'.push { cls := .type "method", data := .fields #[.ref g, .ref x] }, g0, d0, t0 + 1, os0⟩ := I2.pins_of fun p hp => by
        rcases List.mem_cons.mp hp with rfl | hp
        · exact ⟨Heap.get?_push_at rfl rfl, fr, nl, nf, fun v z => by cases z⟩
        · exact I2.pin p (List.mem_append_right _ hp)
      refine hA q3 h'.objs.size (.ref x) g _ _ _ SD.fg (thn (ha.run q3 _ _ σ H _ I3 q) fun us s2 got => ?_)
      obtain ⟨vs, H1, I4, r, hq⟩ := got
      have hb := (I4.pin _ (List.mem_append_right _ List.mem_cons_self)).1
      refine ⟨⟨hb, I4.kIn⟩, wpAny_call (PySem.ks_codeAny_call_bound hb (codeAny_mono (F X.A X.stack s2 H1 (.ref x :: us) (.ref x :: vs) _ E hr I4.env0 (.cons rfl r) hq) fun r s' h => ?_))⟩
      cases r with
      | error e => exact hx _ σ H1 s2 e s' I4 h
      | ok fl =>
        cases fl with
        | ret u =>
          obtain ⟨v, H2, I5, _, h5⟩ := I4.after h
          have I6 : Inv X pins σ H2 s' := I5.pins_of fun p hp => I5.pin p (List.mem_append_right _ (List.mem_cons_of_mem _ hp))
          exact wpAt_of_wpAny (hrest.run pins s' σ H2 De I6 h5)
        | next => exact False.elim h
        | brk => exact False.elim h
        | cont => exact False.elim h
end
end SupX
end

-- L5a
section
set_option Elab.async false
set_option linter.all false
set_option maxRecDepth 100000
namespace R5
open PySem L2 OwnOps OwnNe G1 StX
/-! ### the text by places -/
def top (i : Nat) : Stmt := PySem.Challenge.pw_wishedwires_k05_parts_kept.main.body.getD i (.Pass ⟨0, 0, 0, 0⟩)
abbrev sWord : Stmt := top 6
abbrev sDiff : Stmt := top 8
abbrev sVR (j : Nat) : Stmt := inClass (top 25) j
abbrev sKi (j : Nat) : Stmt := inClass (top 30) j
abbrev sPin (j : Nat) : Stmt := inClass (top 31) j
abbrev sPath (j : Nat) : Stmt := inClass (top 32) j
abbrev sJoi (j : Nat) : Stmt := inClass (top 34) j
abbrev sAsR : Stmt := top 36
abbrev sGrp : Stmt := top 37
abbrev sMat : Stmt := top 38
abbrev sOrd : Stmt := top 39
abbrev sPL : Stmt := top 40
abbrev sWrd : Stmt := top 41
/-- the built-in names that are asked -/
structure Bi (mg : Str → Option Value) : Prop where
  isi : mg "isinstance" = none
  int : mg "int" = none
  str : mg "str" = none
  len : mg "len" = none
  all : mg "all" = none
  set : mg "set" = none
  tuple : mg "tuple" = none
  list : mg "list" = none
  dict : mg "dict" = none
  min : mg "min" = none
  max : mg "max" = none
  range : mg "range" = none
  enum : mg "enumerate" = none
  zip : mg "zip" = none
  sorted : mg "sorted" = none
  sup : mg "super" = none
/-- numbers that the module names -/
structure Nums (mg : Str → Option Value) : Prop where
  signs : ∃ t, mg "WORD_SIGNS" = some (.int 12 t)
  pins : ∃ t, mg "MOST_PINS" = some (.int 6 t)
  ctrl : ∃ t, mg "MOST_CONTROLS" = some (.int 3 t)
/-- the values that are met as names, pins, groups, rules -/
inductive Av (H : Hp) : V → Prop
  | str (x : Str) : Av H (.str x)
  | non : Av H .non
  | int (i : Int) : Av H (.int i)
  | bl (b : Bool) : Av H (.bl b)
  | lst {a : Addr} {xs : List V} (e : H a = some (.lst xs)) : Av H (.ref a)
  | tup {a : Addr} {xs : List V} (e : H a = some (.tup xs)) : Av H (.ref a)
theorem Av.same {H H' : Hp} {v : V} (h : Av H v) (s : Same H H') : Av H' v := by
  cases h with
  | str x => exact .str x
  | non => exact .non
  | int i => exact .int i
  | bl b => exact .bl b
  | lst e => exact .lst (s _ _ e)
  | tup e => exact .tup (s _ _ e)
def wd (x : Str) : Bool := decide (1 ≤ x.length) && decide (x.length ≤ 12) && Txt.isascii x && Txt.isalnum x && Txt.isalpha ⟨#[x.cps.getD 0 0]⟩ && decide (V.str x = V.str (Txt.lower x))
def wdV : V → Bool
  | .str x => wd x
  | _ => false
/-- not too long -/
def Shr : V → Prop
  | .str x => x.length ≤ 1000
  | _ => True
theorem at_hd {α : Type} {xs : List α} {c : α} (h : xs[0]? = some c) : atI xs 0 = some c := by
  cases xs with
  | nil => cases h
  | cons a r =>
    cases h
    unfold atI ixN
    rw [if_pos (by decide), if_pos (by rw [List.length_cons]; omega)]
    rfl
section
variable {P : Program} {w : World} {K : PySem.W.Frag} {mg : Str → Option Value} {base : Heap}
def spWord : Sp := fun vs H Q _ => ∃ v, vs = [v] ∧ Av H v ∧ Shr v ∧ Q (.bl (wdV v)) H
theorem ok_word {f : Addr} {fd : FuncData} (F : Fun K "is_word" "is_word" sWord f fd) (T : Bi mg) (N : Nums mg) : FnOk P w K mg base (L2.CX P w) 1 f fd ["value"] spWord := by
  obtain ⟨t12, n12⟩ := N.signs
  have sc : FnScope ["value"] ["value"] (defScope sWord) := ⟨rfl, rfl, rfl, by decide +kernel, rfl, by decide +kernel, by decide +kernel⟩
  refine F.okX sc (fun vs H Q E h => ?_) (fun cdv A outer s H vs Q E hr h => ?_)
  · obtain ⟨x, rfl, _⟩ := h
    rfl
  · obtain ⟨v, rfl, av, few, fin⟩ := h
    refine ⟨_, pss_cons (ps_if (PW.pt (pw_or (pt_not (pt_val (pe_callB call_isi (by rfl) T.isi (by decide +kernel) (pa_cons (pv 0) (pa_cons (pe_bltn (v := .ty "str") (by rfl) T.str (by decide +kernel) rfl) pa_nil)))))
        (pw_or1 (pt_not (pt_chain op_le op_le pe_int (pe_callB call_len (by rfl) T.len PySem.boot_len (pa_cons (pv 0) pa_nil)) (pe_glob (v := .int 12) (by rfl) n12 ⟨_, rfl⟩)))))) (pss_one (ps_ret pe_bl)) pss_nil)
      (pss_one (ps_ret (pe_and (pe_m0 PySem.F.slot_str_isascii PySem.F.type_str_isascii mt_isascii (pv 0)) (pe_and (pe_m0 PySem.F.slot_str_isalnum PySem.F.type_str_isalnum mt_isalnum (pv 0)) (pe_and (pe_m0 PySem.F.slot_str_isalpha PySem.F.type_str_isalpha mt_isalpha (pe_ix ix_str (pv 0) pe_int (fun _ _ => rfl)))
        (pe_one (pe_cmpR op_eq (pv 0) (pe_lower (pv 0)) (nomark _)))))))), ?_⟩
    cases av with
    | non => exact ⟨_, rfl, _, _, _, _, _, rfl, .ty _, .base .non, kit_ty (r := false) (by decide +kernel), _, rfl, if_pos' rfl fin⟩
    | int i => exact ⟨_, rfl, _, _, _, _, _, rfl, .ty _, .base (.int i), kit_ty (r := false) (by decide +kernel), _, rfl, if_pos' rfl fin⟩
    | bl b => exact ⟨_, rfl, _, _, _, _, _, rfl, .ty _, .base (.bl b), kit_ty (r := false) (by decide +kernel), _, rfl, if_pos' rfl fin⟩
    | lst e => exact ⟨_, rfl, _, _, _, _, _, rfl, .ty _, .base (.lst e), kit_ty (r := false) (by decide +kernel), _, rfl, if_pos' rfl fin⟩
    | tup e => exact ⟨_, rfl, _, _, _, _, _, rfl, .ty _, .base (.tup e), kit_ty (r := false) (by decide +kernel), _, rfl, if_pos' rfl fin⟩
    | str x =>
    have few : x.length ≤ 1000 := few
    have fin : Q (.bl (wd x)) H := fin
    refine ⟨_, rfl, _, _, _, _, _, rfl, .ty _, .base (.str _), kit_ty (r := true) (by decide +kernel), _, rfl, if_neg' rfl ?_⟩
    refine ⟨_, rfl, _, _, rfl, ⟨Nat.le_trans few (by decide), rfl⟩, _, _, rfl, rfl, _, rfl, ?_⟩
    by_cases a1 : (1 : Int) ≤ (x.length : Int)
    · refine if_pos' (decide_eq_true a1) ⟨_, _, rfl, rfl, _, rfl, ?_⟩
      by_cases a2 : (x.length : Int) ≤ 12
      · refine if_neg' (by rw [decide_eq_true a2]; rfl) ?_
        have e1 : decide (1 ≤ x.length) = true := decide_eq_true (by omega)
        have e2 : decide (x.length ≤ 12) = true := decide_eq_true (by omega)
        unfold wd at fin
        rw [e1, e2, Bool.true_and, Bool.true_and] at fin
        refine ⟨_, rfl, ⟨_, rfl⟩, _, rfl, rfl, True.intro, _, rfl, ?_⟩
        cases b1 : Txt.isascii x with
        | false => rw [b1] at fin; exact if_neg' rfl fin
        | true =>
        refine if_pos' rfl ⟨_, rfl, ⟨_, rfl⟩, _, rfl, rfl, True.intro, _, rfl, ?_⟩
        rw [b1, Bool.true_and] at fin
        cases b2 : Txt.isalnum x with
        | false => rw [b2] at fin; exact if_neg' rfl fin
        | true =>
        rw [b2, Bool.true_and] at fin
        have pos : 0 < x.cps.size := by
          have : x.length = x.cps.size := rfl
          omega
        have hx : x.cps.toList[0]? = some (x.cps.getD 0 0) := by
          rw [Array.getElem?_toList, Array.getD_eq_getD_getElem?, Array.getElem?_eq_getElem pos]
          rfl
        refine if_pos' rfl ⟨_, rfl, _, _, x.cps.getD 0 0, rfl, rfl, Nat.le_trans few (by decide), at_hd hx, ⟨_, rfl⟩, _, rfl, rfl, True.intro, _, rfl, ?_⟩
        cases b3 : Txt.isalpha ⟨#[x.cps.getD 0 0]⟩ with
        | false => rw [b3] at fin; exact if_neg' rfl fin
        | true =>
        rw [b3, Bool.true_and] at fin
        exact if_pos' rfl ⟨_, rfl, _, rfl, ⟨_, rfl⟩, _, rfl, rfl, Nat.le_trans few (by decide), rfl, fin⟩
      · refine if_pos' (by rw [decide_eq_false a2]; rfl) ?_
        have e2 : decide (x.length ≤ 12) = false := decide_eq_false (by omega)
        unfold wd at fin
        rw [e2, Bool.and_false] at fin
        exact fin
    · refine if_neg' (decide_eq_false a1) ⟨_, rfl, if_pos' rfl ?_⟩
      have e1 : decide (1 ≤ x.length) = false := decide_eq_false (by omega)
      unfold wd at fin
      rw [e1] at fin
      exact fin
end
end R5
end

-- FnGd
section
set_option Elab.async false
set_option linter.all false
set_option maxRecDepth 100000
/-! what a def promises where no repr is under way (the law itself, and what it calls): so that a repr of lists and tuples may be asked. -/
namespace FnGd
open PySem L2 OwnOps PyProof.Rows
structure FnG (P : Program) (w : World) (K : PySem.W.Frag) (mg : Str → Option Value) (base : Heap) (CX : CXT) (k : Nat) (f : Addr) (fd : FuncData) (ps : List Str) (sp : Sp) : Prop where
  len : ∀ vs H Q E, sp vs H Q E → vs.length = ps.length
  run : ∀ (A : Around) (outer : List Env) (s : Shared) (H : Hp) (args : Args) (us : List Value) (vs : List V) (Q : VK) (E : XK), Room k A → A.guards = some [] → Env0 P w K mg base A outer s H → BindsTo s fd args (ps.zip us) → Vals vs us → sp vs H Q E →
    codeAny (model P w) A (.call (.ref f) args) (CR CX outer P w H s Q E) s
section
variable {P : Program} {w : World} {K : PySem.W.Frag} {mg : Str → Option Value} {base : Heap} {CX : CXT}
theorem okG {x qual : Str} {st : Stmt} {f : Addr} {fd : FuncData} {N ps : List Str} {k : Nat} {sp : Sp} (F : Fun K x qual st f fd) (S : FnScope N ps (defScope st)) (len : ∀ vs H Q E, sp vs H Q E → vs.length = ps.length)
    (hbody : ∀ (cdv : Value) (A : Around) (outer : List Env) (s : Shared) (H : Hp) (vs : List V) (Q : VK) (E : XK), Room k (A.deeper (envOfC qual (defScope st) s.heap.objs.size f cdv)) → A.guards = some [] → sp vs H Q E →
      ∃ t, PSs (cxOf CX P w K mg base N qual (defScope st) f cdv A outer s H E) (defBody st) t ∧ t { nx := fun _ H' => Q .non H', rt := Q } (start N vs) H) : FnG P w K mg base CX (k + 1) f fd ps sp := by
  obtain ⟨oc, od, kV, doc, pm, an, cdv, ct, osl, rfl, lk, hcd⟩ := F.ex
  refine ⟨len, fun A outer s H args us vs Q E room gd e0 bi rel told => ?_⟩
  have inn : K.In s.heap := e0.mod.kin.keeps fun b o e => (e0.bs b o e).1
  have free : s.heap.NoLimit := e0.mod.nolimit.keeps fun b o e => (e0.bs b o e).1
  refine codeAny_call_function room.depth (inn _ _ lk) rfl S.co S.gen rfl (PySem.W.codeRec_of inn hcd) (bi _ _ _ _ (wpAny_newFunctionEnv_cells S.kind (fun y hy => ?_) fun env he s1 x => ?_))
  · rcases S.par y.1 (List.of_mem_zip hy).1 with q | q
    · exact .inl q
    · exact .inr ⟨q, PySem.W.cellsFrom_some _ _ _ (.inl q)⟩
  subst he
  obtain ⟨t, ht, goal⟩ := hbody cdv A outer s H vs Q E (room.deeper _) gd told
  have I := inv_start (CX := CX) (E := E) (A := A) S room.hd e0 (len _ _ _ _ told) rel x
  refine ⟨free.keeps x.toInCall.keep, codeAny_func (wpAny_mono (ht.run [] s1 (start N vs) H _ I goal) (fun fl s' got => ?_) fun e s' got => got)⟩
  match fl, got with
  | .ret u, ⟨v, σ', H', J, rv, q⟩ => exact ⟨v, H', J.os, J.bare, J.base, J.hok, rv, q⟩
  | .next, ⟨σ', H', J, q⟩ => exact ⟨V.non, H', J.os, J.bare, J.base, J.hok, rfl, q⟩
  | .brk, ⟨_, _, _, q⟩ => exact q.elim
  | .cont, ⟨_, _, _, q⟩ => exact q.elim
theorem FnG.of {f : Addr} {fd : FuncData} {ps : List Str} {k : Nat} {sp : Sp} (F : FnOk P w K mg base CX k f fd ps sp) : FnG P w K mg base CX k f fd ps sp := ⟨F.len, fun A outer s H args us vs Q E r _ => F.run A outer s H args us vs Q E r⟩
end
theorem law_callG {P : Program} {w : World} {K : PySem.W.Frag} {mg mb : Str → Option Value} {CX : CXT} {k : Nat} {fa a : Addr} {fd : FuncData} {x : Str} {sp : Sp} {s₁ : Shared} {vs : List Value} {ns : List Int} (KX : K.In s₁.heap) (hns : s₁.heap.Ns mainGlobals mg) (hb : s₁.heap.Ns builtinsNs mb) (hbb : ∀ x : Str, x ≠ Str.ofString "__name__" → mb x = bootBuiltins x)
    (hlim : s₁.heap.NoLimit) (hg : s₁.gens = #[]) (ha : s₁.heap.get? a = some { cls := .type "list", data := .seq vs.toArray }) (hi : IntsAre vs ns) (hl : ns.length ≤ sizeLine) (hr : Room k callerA) (F : ∀ base : Heap, K.In base → base.Ns mainGlobals mg → FnG P w K mg base CX k fa fd [x] sp)
    (hbind : ∀ (s : Shared) (u : Value), BindsTo s fd { pos := [u] } [(x, u)]) (hsp : ∀ H : Hp, Only H → SqL K H a (ns.map V.int) → sp [.ref a] H (fun v _ => v = .bl true) fun _ _ _ => False) (hCX : ∀ (H : Hp) (e : Value) (s' : Shared), CX [] H s₁ (fun _ _ _ => False) e s' → False) :
    codeAny (model P w) callerA (.call (.ref fa) { pos := [.ref a] }) (fun r s' => r = .ok (.ret (.bool true)) ∧ OldK s₁.heap s'.heap ∧ s'.os = s₁.os ∧ AllBare s'.gens) s₁ := by
  have rv := vals_ints hi
  have lenV := hi.length
  have core : ∀ H : Hp, Only H → SqL K H a (ns.map V.int) → HOk P w H s₁.heap → (∀ b, H b ≠ none → b = a) → (H a ≠ none → K.lookup a = none) →
      codeAny (model P w) callerA (.call (.ref fa) { pos := [.ref a] }) (fun r s' => r = .ok (.ret (.bool true)) ∧ OldK s₁.heap s'.heap ∧ s'.os = s₁.os ∧ AllBare s'.gens) s₁ := by
    intro H hO hS hok hA hK
    have out : ∀ b, b ≠ a → H b = none := fun b n => by
      cases q : H b with
      | none => rfl
      | some u => exact absurd (hA b (by rw [q]; exact Option.some_ne_none _)) n
    have noA : ∀ {b o es ep}, s₁.heap.get? b = some o → o.data = .dict es ep → H b = none := fun {b o es ep} e d => out b fun z => by
      subst z
      rw [ha] at e
      cases e
      cases d
    have nsK : ∀ {b m}, s₁.heap.Ns b m → (hidT s₁.heap H).Ns b m := fun ⟨o, es, ep, e, d, r⟩ => ⟨o, es, ep, hidT_get e (noA e d), d, r⟩
    have hKb : K.In (hidT s₁.heap H) := fun b o e => by
      refine hidT_get (KX b o e) ?_
      by_cases z : b = a
      · subst z
        cases q : H b with
        | none => rfl
        | some u =>
          have := hK (by rw [q]; exact Option.some_ne_none _)
          rw [e] at this
          cases this
      · exact out b z
    have hM : L2.Mod K mg (hidT s₁.heap H) := ⟨hKb, nsK hns, ⟨mb, nsK hb, hbb⟩, let ⟨mc, h1, h2⟩ := hlim; ⟨mc, nsK h1, h2⟩⟩
    have e0 : Env0 P w K mg (hidT s₁.heap H) callerA [] s₁ H := ⟨rfl, hM, fun b o e => of_hidT e, Nat.le_of_eq (hidT_size _ _), trivial, fun b hb => (nomatch hb), hok, AllBare.of_eq hg⟩
    refine codeAny_mono ((F (hidT s₁.heap H) hKb (nsK hns)).run callerA [] s₁ H { pos := [.ref a] } [.ref a] [.ref a] (fun v _ => v = .bl true) (fun _ _ _ => False) hr rfl e0 (hbind s₁ _) (.cons rfl .nil) (hsp H hO hS)) fun r s' h => ?_
    match r, h with
    | .error e, h => exact (hCX H e s' h).elim
    | .ok .next, h => exact h.elim
    | .ok .brk, h => exact h.elim
    | .ok .cont, h => exact h.elim
    | .ok (.ret u), ⟨v, H', os, bare, un, hok', r', q⟩ =>
      subst q
      rw [show u = .bool true from r']
      refine ⟨rfl, OldK.of_keep fun b o e => ?_, os, bare⟩
      rcases hO b with z | ⟨ob, xs, z⟩
      · exact un.keep b o e z (fun z => nomatch z) (fun z => nomatch z)
      · have h1 := (hok b _ z).1
        have h2 := (hok' b _ (un.frzs b ob _ z)).1
        rw [e] at h1
        cases h1
        exact h2
  cases hk : K.lookup a with
  | none =>
    refine core (fun b => if b = a then some (.frz { cls := .type "list", data := .seq vs.toArray } (.lst (ns.map V.int))) else none) (fun b => ?_) (.inl (.inr ⟨_, if_pos rfl⟩)) (fun b u z => ?_) (fun b z => ?_) fun _ => hk
    · by_cases h : b = a
      · exact .inr ⟨_, _, if_pos h⟩
      · exact .inl (if_neg h)
    · by_cases h : b = a
      · have z' := (if_pos h).symm.trans z
        cases z'
        subst h
        exact ⟨ha, by rw [List.length_map]; exact hl, vs, 0, rv, ha⟩
      · have z' := (if_neg h).symm.trans z
        cases z'
    · by_cases h : b = a
      · exact h
      · exact absurd (if_neg h) z
  | some o =>
    have e := KX a o hk
    rw [ha] at e
    cases e
    exact core (fun _ => none) (fun _ => .inl rfl) (.inr ⟨_, vs.toArray, 0, hk, rfl, rfl, rfl, by rw [List.size_toArray, lenV]; exact hl, rv⟩) (fun b u z => nomatch z) (fun b z => absurd rfl z) fun z => absurd rfl z
theorem walk_ofG {l : PySem.W.OpenLaw} {n k : Nat} {q : Program} {loose : List Str} {XP : (Str → Option Value) → Heap → Prop} {YP : World → Heap → Prop} {d : DefRec} {K : Params → PySem.W.Frag} {CX : World → CXT} {sp : World → Sp} {x : Str} (hn : l.most = some n) (hn2 : n ≤ sizeLine) (hdf : d.params.defaults = []) (hr : Room k callerA)
    (hY : ∀ (w : World) (h : Heap), YP w h → (K w.params).In h)
    (F : ∀ (w : World) (mg : Str → Option Value) (fa : Addr) (h : Heap), (K w.params).In h → h.Ns mainGlobals mg → mg d.name = some (.ref fa) → ∃ fd, (∀ (s : Shared) (u : Value), BindsTo s fd { pos := [u] } [(x, u)]) ∧ ∀ base : Heap, (K w.params).In base → base.Ns mainGlobals mg → FnG l.prog w (K w.params) mg base (CX w) k fa fd [x] (sp w))
    (hsp : ∀ (w : World) (H : Hp) (a : Addr) (ns : List Int), ns.length ≤ n → Only H → SqL (K w.params) H a (ns.map V.int) → sp w [.ref a] H (fun v _ => v = .bl true) fun _ _ _ => False)
    (hCX : ∀ (w : World) (H : Hp) (s : Shared) (e : Value) (s' : Shared), CX w [] H s (fun _ _ _ => False) e s' → False) :
    PySem.W.WalkO q loose XP YP l.row.toRowW d [] (fun f vs => PySem.call f vs) :=
  Att.attach_call hn hdf fun w s₀ s₁ mg mb fa o pm cd doc a vs ns G Y ho hd hcd hmg hobj hints hlen hg => by
    have KX := hY w s₁.heap Y
    obtain ⟨fd, hb, hF⟩ := F w mg fa s₁.heap KX G.T.g hmg
    exact law_callG KX G.T.g G.T.b G.T.builtins G.T.nolimit hg hobj hints (Nat.le_trans hlen hn2) hr hF hb (fun H hO hS => hsp w H a ns hlen hO hS) fun H e s' => hCX w H s₁ e s'
end FnGd
end

-- HeadB
section
set_option Elab.async false
set_option linter.all false
set_option maxRecDepth 100000
set_option maxHeartbeats 2000000
/-! a law's end over a head that is one kernel run: the facts are one Bool over the written part, its addresses are told by names; nothing of the heap is written out. -/
namespace HdB
open PySem PySem.Spec PyProof.Rows L2 He
abbrev AlB : Type := Bool × AlD
def obsB (ck : List (PySem.W.Frag → Bool)) (fn : List DefD) (K : PySem.W.Frag) : AlB := (ck.all fun f => f K, obsD [] fn K)
def valB (fn : List DefD) : AlB := (true, valD fn)
abbrev SaysB (ck : List (PySem.W.Frag → Bool)) (fn : List DefD) (K : PySem.W.Frag) : Prop := obsB ck fn K = valB fn
def hookB (as : List Addr) (ck : List (PySem.W.Frag → Bool)) (fn : List DefD) : PySem.W.Hook where
  α := AlB
  obs := fun s => obsB ck fn (frG s.heap.get? as)
  val := fun _ => valB fn
  says := fun _ h => ∃ K : PySem.W.Frag, K.In h ∧ SaysB ck fn K
  of := fun _ _ e => ⟨_, frG_in, e⟩
  keeps := fun _ _ _ ⟨K, hK, c⟩ k => ⟨K, PySem.W.Frag.In.keeps hK k, c⟩
def obB (as : List Addr) (ck : List (PySem.W.Frag → Bool)) (fn : List DefD) (s : PySem.W.SharedT) : AlB := obsB ck fn (frG (HandSHeadRun.getT s) as)
theorem obB_eq (as : List Addr) (ck : List (PySem.W.Frag → Bool)) (fn : List DefD) (s : PySem.W.SharedT) : obB as ck fn s = (hookB as ck fn).obs s.abs := by
  have e : HandSHeadRun.getT s = s.abs.heap.get? := funext (HandSHeadRun.getT_eq s)
  unfold obB
  rw [e]
  rfl
section
variable {ck : List (PySem.W.Frag → Bool)} {fn : List DefD} {K : PySem.W.Frag}
theorem SaysB.fact (c : SaysB ck fn K) (i : Nat) {f : PySem.W.Frag → Bool} (h : ck[i]? = some f := by rfl) : f K = true := by
  have c1 : (ck.all fun f => f K) = true := congrArg (fun z : AlB => z.1) c
  exact List.all_eq_true.mp c1 f (List.mem_of_getElem? h)
theorem SaysB.isP (c : SaysB ck fn K) (i : Nat) {p : PySem.W.Frag → Prop} [∀ K, Decidable (p K)] (h : ck[i]? = some (fun K => decide (p K)) := by rfl) : p K := of_decide_eq_true (c.fact i h)
theorem SaysB.def_ (c : SaysB ck fn K) (i : Nat) {d : DefD} (h : fn[i]? = some d := by rfl) : ∃ fd, FunD K d.name d.qual d.params d.body d.scope (d.dvs K) (d.kws K) (fAd K d.at_) fd := by
  have c2 : SaysD [] fn K := congrArg (fun z : AlB => z.2) c
  exact c2.def_ i h
end
/-- a def without defaults -/
theorem funOf {K : PySem.W.Frag} {x q : Str} {st : Stmt} {f : Addr} (h : ∃ fd, FunD K x q (defArgs st) (defBody st) (defScope st) [] [] f fd) : ∃ fd, Fun K x q st f fd := by
  obtain ⟨fd, ⟨⟨oc, od, dV, kV, doc, pm, an, cdv, ct, osl, e, l, c, dd, kk⟩, kp⟩⟩ := h
  rcases dd with ⟨_, q⟩ | ⟨n, _⟩
  · subst q
    exact ⟨fd, ⟨⟨oc, od, kV, doc, pm, an, cdv, ct, osl, e, l, c⟩, kp⟩⟩
  · exact (n rfl).elim
/-- an own error class, seen by a Bool -/
def clsX (K : PySem.W.Frag) (C : Addr) (bt : List Value) (newId : String) : Bool := match K.lookup C with
  | some ⟨.type "type", _, .cls cd, sl⟩ => (match cd.mro, sl.toList with
    | .ref C' :: bm, [_, _, _, _, some (.builtin n), _] => C' == C && (n == newId && (!cd.hasDel && (cd.hasDict && PySem.Giv.tailIs bt bm)))
    | _, _ => false)
  | _ => false
theorem clsX_ok {K : PySem.W.Frag} {C : Addr} {bt : List Value} {newId : String} (q : clsX K C bt newId = true) :
    ∃ nm qn N bs bm sn sub ab col dd k0 k1 k2 k3 k5, K.lookup C = some (PySem.excClassObj nm qn C N bs bm true sn sub ab col dd k0 k1 k2 k3 k5 newId) ∧ PySem.Giv.tailIs bt bm = true := by
  unfold clsX at q
  split at q
  · rename_i dd cd sl ho
    split at q
    · rename_i C' bm k0 k1 k2 k3 n k5 hm hs
      obtain ⟨a1, q⟩ := ba q
      obtain ⟨a2, q⟩ := ba q
      obtain ⟨a3, q⟩ := ba q
      obtain ⟨a4, a5⟩ := ba q
      have b1 := beq_iff_eq.mp a1
      have b2 := beq_iff_eq.mp a2
      have b3 : cd.hasDel = false := by
        cases z : cd.hasDel with
        | false => rfl
        | true => rw [z] at a3; cases a3
      clear a1 a2 a3
      obtain ⟨nm, bs, mro, ns, qn, hd, sn, sub, ab, col, del⟩ := cd
      dsimp only at hm b3 a4
      subst hm b3 a4 b1 b2
      have hsl : sl = #[k0, k1, k2, k3, some (.builtin n), k5] := by
        obtain ⟨l⟩ := sl
        simp only at hs
        rw [hs]
      subst hsl
      exact ⟨nm, qn, ns, bs, bm, sn, sub, ab, col, dd, k0, k1, k2, k3, k5, ho, a5⟩
    · cases q
  · cases q
instance {K : PySem.W.Frag} {C : Addr} : Decidable (Cls K C) := decidable_of_iff (PySem.W.plainGet K C Str.empty = true ∧ PySem.W.hasDictIn K C = true ∧ PySem.W.plainOver K C = true ∧ PySem.W.findIn K (.ref C) "__setattr__" = some (some (.builtin "object.__setattr__")))
  ⟨fun ⟨a, b, c, d⟩ => ⟨a, b, c, d⟩, fun ⟨a, b, c, d⟩ => ⟨a, b, c, d⟩⟩
instance {K : PySem.W.Frag} {C : Addr} {f : Str} : Decidable (NoAttr K C f) := inferInstanceAs (Decidable (PySem.W.findIn K (.ref C) f = some none))
/-- an own error class that keeps its argument in the field given: all that is asked of it, by one Bool -/
def kwN (K : PySem.W.Frag) (f : Addr) : Bool := match K.lookup f with
  | some ⟨_, _, .func fd, _⟩ => (match fd.kwdefaults with
    | .none => true
    | _ => false)
  | _ => false
structure ErrB (K : PySem.W.Frag) (E f : Addr) (cn : Str) (bt : List Value) (newId : String) : Prop where
  here : PySem.W.nsIn K mainGlobals cn = some (some (.ref E))
  xL : clsX K E bt newId = true
  sa : PySem.W.findIn K (.ref E) "__setattr__" = some (some (.builtin "object.__setattr__"))
  ga : PySem.W.findIn K (.ref E) "__getattribute__" = some (some (.builtin "BaseException.__getattribute__"))
  gg : PySem.W.findIn K (.ref E) "__getattr__" = some none
  no : PySem.W.findIn K (.ref E) "given" = some none
  iC : PySem.W.findIn K (.ref E) "__init__" = some (some (.ref f))
  tC : PySem.W.typeIn K (.ref f) = some (.type "function")
  kC : PySem.W.keepIn K (.ref E) = true
  ex : PySem.W.subIn K (.ref E) (.type "BaseException") = some true
  ty : PySem.W.typeIn K (.ref E) = some (.type "type")
  hd : PySem.W.hasDictIn K E = true
  te : PySem.W.exmOne K (.ref E) (.ref E) = some true
  kn : kwN K f = true
instance {K : PySem.W.Frag} {E f : Addr} {cn : Str} {bt : List Value} {newId : String} : Decidable (ErrB K E f cn bt newId) := decidable_of_iff ((PySem.W.nsIn K mainGlobals cn = some (some (.ref E))) ∧ (clsX K E bt newId = true) ∧ (PySem.W.findIn K (.ref E) "__setattr__" = some (some (.builtin "object.__setattr__"))) ∧ (PySem.W.findIn K (.ref E) "__getattribute__" = some (some (.builtin "BaseException.__getattribute__"))) ∧ (PySem.W.findIn K (.ref E) "__getattr__" = some none) ∧ (PySem.W.findIn K (.ref E) "given" = some none) ∧ (PySem.W.findIn K (.ref E) "__init__" = some (some (.ref f))) ∧ (PySem.W.typeIn K (.ref f) = some (.type "function")) ∧ (PySem.W.keepIn K (.ref E) = true) ∧ (PySem.W.subIn K (.ref E) (.type "BaseException") = some true) ∧ (PySem.W.typeIn K (.ref E) = some (.type "type")) ∧ (PySem.W.hasDictIn K E = true) ∧ (PySem.W.exmOne K (.ref E) (.ref E) = some true) ∧ (kwN K f = true))
  ⟨fun ⟨here_, xL_, sa_, ga_, gg_, no_, iC_, tC_, kC_, ex_, ty_, hd_, te_, kn_⟩ => ⟨here_, xL_, sa_, ga_, gg_, no_, iC_, tC_, kC_, ex_, ty_, hd_, te_, kn_⟩, fun ⟨here_, xL_, sa_, ga_, gg_, no_, iC_, tC_, kC_, ex_, ty_, hd_, te_, kn_⟩ => ⟨here_, xL_, sa_, ga_, gg_, no_, iC_, tC_, kC_, ex_, ty_, hd_, te_, kn_⟩⟩
theorem ErrB.txt {K : PySem.W.Frag} {E f : Addr} {cn qn : Str} {bt : List Value} {newId : String} {p1 p2 q1 q2 q3 q4 : Pos} (b : ErrB K E f cn bt newId)
    (F : ∃ fd, FunD K "__init__" qn (PySem.Giv.gA p1 p2) (PySem.Giv.gB q1 q2 q3 q4) PySem.Giv.gS [] [] f fd) (mg : Str → Option Value) (hg : mg cn = some (.ref E)) : PySem.Giv.ErrTxt K mg cn qn newId bt E f := by
  obtain ⟨fd, ⟨⟨oc, od, dV, kV, doc, pm, an, cdv, ct, osl, e, l, c, dd, kk⟩, kp⟩⟩ := F
  subst e
  have k := b.kn
  unfold kwN at k
  rw [l] at k
  have hk : kV = .none := by
    cases kV with
    | none => rfl
    | _ => cases k
  have hd : dV = .none := by
    rcases dd with ⟨_, q⟩ | ⟨n, _⟩
    · exact q
    · exact (n rfl).elim
  subst hk hd
  exact { gC := hg, cls := clsX_ok b.xL, sa := b.sa, ga := b.ga, gg := b.gg, noN := b.no, iC := b.iC, tC := b.tC, kC := b.kC, exC := b.ex, tyC := b.ty, hdC := b.hd, te := b.te, fn := ⟨oc, od, doc, pm, an, cdv, ct, osl, p1, p2, q1, q2, q3, q4, l, c⟩ }
/-- where a class stands, where a method of it does -/
abbrev gaX (K : PySem.W.Frag) (x : Str) : Addr := He.ga K x
abbrev maX (K : PySem.W.Frag) (x m : Str) : Addr := He.ma K (He.ga K x) m
abbrev gD (x : Str) (st : Stmt) : DefD := ⟨(x, none), x, x, defArgs st, defBody st, defScope st, [], []⟩
abbrev mD (c x q : Str) (st : Stmt) : DefD := ⟨(c, some x), x, q, defArgs st, defBody st, defScope st, [], []⟩
/-- the law's end: K and what is known of it come out of the Hook -/
theorem walk_ofB {l : PySem.W.OpenLaw} {n k : Nat} {q : Program} {loose : List Str} {XP : (Str → Option Value) → Heap → Prop} {YP : World → Heap → Prop} {d : DefRec} {CX : World → CXT} {x : Str} (hn : l.most = some n) (hn2 : n ≤ sizeLine) (hdf : d.params.defaults = []) (hr : Room k callerA)
    (F : ∀ (w : World) (mg : Str → Option Value) (fa : Addr) (h : Heap), YP w h → h.Ns mainGlobals mg → mg d.name = some (.ref fa) → ∃ (K : PySem.W.Frag) (fd : FuncData) (sp : Sp), K.In h ∧ (∀ (s : Shared) (u : Value), BindsTo s fd { pos := [u] } [(x, u)]) ∧
      (∀ (H : Hp) (a : Addr) (ns : List Int), ns.length ≤ n → Only H → SqL K H a (ns.map V.int) → sp [.ref a] H (fun v _ => v = .bl true) fun _ _ _ => False) ∧
      ∀ base : Heap, K.In base → base.Ns mainGlobals mg → FnGd.FnG l.prog w K mg base (CX w) k fa fd [x] sp)
    (hCX : ∀ (w : World) (H : Hp) (s : Shared) (e : Value) (s' : Shared), CX w [] H s (fun _ _ _ => False) e s' → False) :
    PySem.W.WalkO q loose XP YP l.row.toRowW d [] (fun f vs => PySem.call f vs) :=
  Att.attach_call hn hdf fun w s₀ s₁ mg mb fa o pm cd doc a vs ns G Y ho hd hcd hmg hobj hints hlen hg => by
    obtain ⟨K, fd, sp, KX, hb, hsp, hF⟩ := F w mg fa s₁.heap Y G.T.g hmg
    exact FnGd.law_callG KX G.T.g G.T.b G.T.builtins G.T.nolimit hg hobj hints (Nat.le_trans hlen hn2) hr hF hb (fun H hO hS => hsp H a ns hlen hO hS) fun H e s' => hCX w H s₁ e s'
end HdB
end

-- HeadS
section
set_option Elab.async false
set_option linter.all false
set_option maxRecDepth 100000
set_option maxHeartbeats 2000000
/-! HeadB, and defs that say super() (their cell of the class, their code's file, keyword-only defaults). -/
namespace HdS
open PySem PySem.Spec PyProof.Rows L2 He HdB
abbrev FnSW : Type := Option (Str × Str × Arguments × FuncBody × Scope × Addr × List Str × Addr)
/-- such a def: where it stands, its names, what it is made of, its keyword-only defaults (true: None, false: some object), its class, its file -/
structure DefS where
  at_ : Str × Option Str
  name : Str
  qual : Str
  params : Arguments
  body : List Stmt
  scope : Scope
  kwd : List (Str × Bool)
  cls : Str
  file : Str
def fnS (K : PySem.W.Frag) (p : Str × Option Str) : FnSW := match K.lookup (fAd K p) with
  | some ⟨_, _, .func fd, _⟩ => some (fd.name, fd.qualname, fd.params, fd.body, fd.scope, fd.globals, fd.closure.map (·.1), fd.builtins)
  | _ => none
def DefS.val (d : DefS) : FnSW := some (d.name, d.qual, d.params, .stmts d.body, d.scope, mainGlobals, ["__class__"], builtinsNs)
/-- where a keyword-only default lies -/
def kwAd (K : PySem.W.Frag) (f : Addr) (k : Str) : Addr := match K.lookup f with
  | some ⟨_, _, .func fd, _⟩ => (match fd.kwdefaults with
    | .ref D => (match PySem.W.nsIn K D k with
      | some (some (.ref a)) => a
      | _ => 0)
    | _ => 0)
  | _ => 0
def DefS.kws (K : PySem.W.Frag) (d : DefS) : List (Str × V) := d.kwd.map fun q => (q.1, if q.2 then V.non else V.ref (kwAd K (fAd K d.at_) q.1))
def isNo : Value → Bool
  | .none => true
  | _ => false
def fileB (K : PySem.W.Frag) (file : Str) : Value → Bool
  | .ref c => (match K.lookup c with
    | some ⟨_, _, .fields vs, _⟩ => (match (vs[2]? : Option Value) with
      | some (.str z _) => decide (z = file)
      | _ => false)
    | _ => false)
  | _ => false
def cellB (K : PySem.W.Frag) (C : Addr) : List (Str × Addr) → Bool
  | [(_, cc)] => (match K.lookup cc with
    | some ⟨_, _, .cell (some (.ref D)), _⟩ => decide (D = C)
    | _ => false)
  | _ => false
def DefS.ok (K : PySem.W.Frag) (d : DefS) : Bool := match K.lookup (fAd K d.at_) with
  | some ⟨_, _, .func fd, _⟩ => PySem.W.codeIn K fd.code d.qual && (isNo fd.defaults && (kwdB K fd.kwdefaults (d.kws K) && (fileB K d.file fd.code && cellB K (ga K d.cls) fd.closure)))
  | _ => false
/-- a plain def that stands at an address told by the written part (a property's getter) -/
structure DefP where
  at_ : PySem.W.Frag → Addr
  name : Str
  qual : Str
  params : Arguments
  body : List Stmt
  scope : Scope
def fnP (K : PySem.W.Frag) (a : Addr) : FnW := match K.lookup a with
  | some ⟨_, _, .func fd, _⟩ => some (fd.name, fd.qualname, fd.params, fd.body, fd.scope, fd.globals, fd.closure, fd.builtins)
  | _ => none
def DefP.val (d : DefP) : FnW := some (d.name, d.qual, d.params, .stmts d.body, d.scope, mainGlobals, [], builtinsNs)
def DefP.ok (K : PySem.W.Frag) (d : DefP) : Bool := PySem.W.keepIn K (.ref (d.at_ K)) && (match K.lookup (d.at_ K) with
  | some ⟨_, _, .func fd, _⟩ => PySem.W.codeIn K fd.code d.qual && (isNo fd.defaults && isNo fd.kwdefaults)
  | _ => false)
abbrev AlS : Type := AlB × (Bool × List FnSW) × (Bool × List FnW)
def obsS (ck : List (PySem.W.Frag → Bool)) (fn : List DefD) (sn : List DefS) (pn : List DefP) (K : PySem.W.Frag) : AlS := (obsB ck fn K, (sn.all fun d => d.ok K, sn.map fun d => fnS K d.at_), (pn.all fun d => d.ok K, pn.map fun d => fnP K (d.at_ K)))
def valS (fn : List DefD) (sn : List DefS) (pn : List DefP) : AlS := (valB fn, (true, sn.map DefS.val), (true, pn.map DefP.val))
abbrev SaysS (ck : List (PySem.W.Frag → Bool)) (fn : List DefD) (sn : List DefS) (pn : List DefP) (K : PySem.W.Frag) : Prop := obsS ck fn sn pn K = valS fn sn pn
def hookS (as : List Addr) (ck : List (PySem.W.Frag → Bool)) (fn : List DefD) (sn : List DefS) (pn : List DefP) : PySem.W.Hook where
  α := AlS
  obs := fun s => obsS ck fn sn pn (frG s.heap.get? as)
  val := fun _ => valS fn sn pn
  says := fun _ h => ∃ K : PySem.W.Frag, K.In h ∧ SaysS ck fn sn pn K
  of := fun _ _ e => ⟨_, frG_in, e⟩
  keeps := fun _ _ _ ⟨K, hK, c⟩ k => ⟨K, PySem.W.Frag.In.keeps hK k, c⟩
def obS (as : List Addr) (ck : List (PySem.W.Frag → Bool)) (fn : List DefD) (sn : List DefS) (pn : List DefP) (s : PySem.W.SharedT) : AlS := obsS ck fn sn pn (frG (HandSHeadRun.getT s) as)
theorem obS_eq (as : List Addr) (ck : List (PySem.W.Frag → Bool)) (fn : List DefD) (sn : List DefS) (pn : List DefP) (s : PySem.W.SharedT) : obS as ck fn sn pn s = (hookS as ck fn sn pn).obs s.abs := by
  have e : HandSHeadRun.getT s = s.abs.heap.get? := funext (HandSHeadRun.getT_eq s)
  unfold obS
  rw [e]
  rfl
section
variable {ck : List (PySem.W.Frag → Bool)} {fn : List DefD} {sn : List DefS} {pn : List DefP} {K : PySem.W.Frag}
theorem SaysS.b (c : SaysS ck fn sn pn K) : SaysB ck fn K := congrArg (fun z : AlS => z.1) c
theorem SaysS.sdef (c : SaysS ck fn sn pn K) (i : Nat) {d : DefS} (h : sn[i]? = some d := by rfl) :
    ∃ (oc : Value) (od : Option Addr) (kV doc pm : Value) (an : Option Addr) (cda : Addr) (ct : Value) (cc : Addr) (osl : Array (Option Value)),
      K.lookup (fAd K d.at_) = some ⟨oc, od, .func (PySem.W.ksFn d.name d.qual d.params d.body d.scope .none kV doc pm an (.ref cda) ct cc), osl⟩ ∧ PySem.W.codeIn K (.ref cda) d.qual = true ∧ KwdV K kV (d.kws K) ∧
      (∃ cl od vs sl file tf, K.lookup cda = some ⟨cl, od, .fields vs, sl⟩ ∧ vs[2]? = some (.str file tf) ∧ file = d.file) ∧ ∃ cl cld csl, K.lookup cc = some ⟨cl, cld, .cell (some (.ref (ga K d.cls))), csl⟩ := by
  have c1 : (sn.all fun d => d.ok K) = true := congrArg (fun z : AlS => z.2.1.1) c
  have e : sn.map (fun d => fnS K d.at_) = sn.map DefS.val := congrArg (fun z : AlS => z.2.1.2) c
  have ok := List.all_eq_true.mp c1 d (List.mem_of_getElem? h)
  have e2 : (sn.map fun d => fnS K d.at_)[i]? = (sn.map DefS.val)[i]? := by rw [e]
  rw [List.getElem?_map, List.getElem?_map, h] at e2
  have e3 : fnS K d.at_ = d.val := Option.some.inj e2
  unfold fnS at e3
  unfold DefS.ok at ok
  cases q : K.lookup (fAd K d.at_) with
  | none =>
    rw [q] at ok
    cases ok
  | some o =>
    obtain ⟨oc, od, dt, osl⟩ := o
    rw [q] at ok e3
    cases dt with
    | func fd =>
      obtain ⟨n1, n2, n3, n4, n5, n6, n7, n8, n9, n10, n11, n12, n13, n14, n15⟩ := fd
      have e4 : (some (n1, n2, n3, n4, n5, n6, (n7.map fun q => q.1 : List Str), n15) : FnSW) = some (d.name, d.qual, d.params, FuncBody.stmts d.body, d.scope, mainGlobals, (["__class__"] : List Str), builtinsNs) := e3
      simp only [Option.some.injEq, Prod.mk.injEq] at e4
      obtain ⟨h1, h2, h3, h4, h5, h6, h7, h8⟩ := e4
      subst h1 h2 h3 h4 h5 h6 h8
      have c3 : (PySem.W.codeIn K n13 d.qual && (isNo n8 && (kwdB K n9 (d.kws K) && (fileB K d.file n13 && cellB K (ga K d.cls) n7)))) = true := ok
      obtain ⟨k1, k2⟩ := ba c3
      obtain ⟨k3, k4⟩ := ba k2
      obtain ⟨k5, k6⟩ := ba k4
      obtain ⟨k7, k8⟩ := ba k6
      have z8 : n8 = .none := by
        cases n8 with
        | none => rfl
        | _ => cases k3
      subst z8
      obtain ⟨cc, rfl⟩ : ∃ cc, n7 = [(("__class__" : Str), cc)] := by
        match n7, h7 with
        | [(x, cc)], h7 =>
          have : x = "__class__" := by
            have := List.cons.inj h7
            exact this.1
          exact ⟨cc, by rw [this]⟩
      unfold fileB at k7
      unfold cellB at k8
      cases n13 with
      | ref cda =>
        refine ⟨oc, od, n9, n10, n11, n12, cda, n14, cc, osl, rfl, k1, kwdB_ok k5, ?_, ?_⟩
        · dsimp only at k7
          cases ql : K.lookup cda with
          | none => rw [ql] at k7; cases k7
          | some o2 =>
            obtain ⟨cl, od2, dt2, sl⟩ := o2
            rw [ql] at k7
            cases dt2 with
            | fields vs =>
              dsimp only at k7
              cases qv : vs[2]? with
              | none => rw [qv] at k7; cases k7
              | some v =>
                rw [qv] at k7
                cases v with
                | str z t => exact ⟨_, _, vs, _, z, t, rfl, qv, of_decide_eq_true k7⟩
                | _ => cases k7
            | _ => cases k7
        · dsimp only at k8
          cases ql : K.lookup cc with
          | none => rw [ql] at k8; cases k8
          | some o2 =>
            obtain ⟨cl, od2, dt2, sl⟩ := o2
            rw [ql] at k8
            cases dt2 with
            | cell cv =>
              cases cv with
              | none => cases k8
              | some v =>
                cases v with
                | ref D =>
                  have e5 : D = ga K d.cls := of_decide_eq_true k8
                  subst e5
                  exact ⟨_, _, _, rfl⟩
                | _ => cases k8
            | _ => cases k8
      | _ => cases k7
    | _ => cases ok
theorem SaysS.pdef (c : SaysS ck fn sn pn K) (i : Nat) {d : DefP} (h : pn[i]? = some d := by rfl) : ∃ fd, FunD K d.name d.qual d.params d.body d.scope [] [] (d.at_ K) fd := by
  have c1 : (pn.all fun d => d.ok K) = true := congrArg (fun z : AlS => z.2.2.1) c
  have e : pn.map (fun d => fnP K (d.at_ K)) = pn.map DefP.val := congrArg (fun z : AlS => z.2.2.2) c
  have ok := List.all_eq_true.mp c1 d (List.mem_of_getElem? h)
  have e2 : (pn.map fun d => fnP K (d.at_ K))[i]? = (pn.map DefP.val)[i]? := by rw [e]
  rw [List.getElem?_map, List.getElem?_map, h] at e2
  have e3 : fnP K (d.at_ K) = d.val := Option.some.inj e2
  unfold fnP at e3
  unfold DefP.ok at ok
  obtain ⟨kp, ok⟩ := ba ok
  cases q : K.lookup (d.at_ K) with
  | none =>
    rw [q] at ok
    cases ok
  | some o =>
    obtain ⟨oc, od, dt, osl⟩ := o
    rw [q] at ok e3
    cases dt with
    | func fd =>
      obtain ⟨n1, n2, n3, n4, n5, n6, n7, n8, n9, n10, n11, n12, n13, n14, n15⟩ := fd
      have e4 : (some (n1, n2, n3, n4, n5, n6, n7, n15) : FnW) = some (d.name, d.qual, d.params, FuncBody.stmts d.body, d.scope, mainGlobals, [], builtinsNs) := e3
      simp only [Option.some.injEq, Prod.mk.injEq] at e4
      obtain ⟨h1, h2, h3, h4, h5, h6, h7, h8⟩ := e4
      subst h1 h2 h3 h4 h5 h6 h7 h8
      have c3 : (PySem.W.codeIn K n13 d.qual && (isNo n8 && isNo n9)) = true := ok
      obtain ⟨k1, k2⟩ := ba c3
      obtain ⟨k3, k4⟩ := ba k2
      have z8 : n8 = .none := by
        cases n8 with
        | none => rfl
        | _ => cases k3
      have z9 : n9 = .none := by
        cases n9 with
        | none => rfl
        | _ => cases k4
      subst z8 z9
      exact ⟨_, ⟨oc, od, .none, .none, n10, n11, n12, n13, n14, osl, rfl, q, k1, .inl ⟨rfl, rfl⟩, .inl rfl⟩, kp⟩
    | _ => cases ok
end
end HdS
end

-- HeadI
section
set_option Elab.async false
set_option linter.all false
set_option maxRecDepth 100000
/-! the head of a program that opens with imports: its opening run in the kernel too, then the top (HandS.Head0 to Head2 serve a program without imports). -/
noncomputable section
namespace HdI
open PySem PySem.W PySem.Calls PyProof.Rows HandSHeadRun
/-- the opening, to its end -/
def impF (st : SharedT → Thread → Option (SharedT × Thread)) : Nat → SharedT → Thread → Option SharedT
  | 0, _, _ => none
  | m + 1, s, t => match t.atExitBegin with
    | some [] => some s
    | some (_ :: _) => none
    | none => match st s t with
      | some (s', t') => frS s' fun s' => impF st m s' t'
      | none => none
theorem impF_ok {tb : String → Option Builtin} {p : Program} {w : World} : ∀ {m : Nat} {s s' : SharedT} {t : Thread}, impF (stepT (denote tb) p w) m s t = some s' → importEnds tb p w m s.abs t = some s'.abs
  | 0, _, _, _, h => by cases h
  | m + 1, s, s', t, h => by
    unfold impF at h
    unfold importEnds
    cases ht : t.atExitBegin with
    | some l =>
      rw [ht] at h
      cases l with
      | nil => cases h; rfl
      | cons a r => cases h
    | none =>
      rw [ht] at h
      cases hs : stepT (denote tb) p w s t with
      | none => rw [hs] at h; cases h
      | some r =>
        obtain ⟨s2, t2⟩ := r
        rw [hs] at h
        have h3 : (frS s2 fun s' => impF (stepT (denote tb) p w) m s' t2) = some s' := h
        rw [frS_eq] at h3
        have q := impF_ok h3
        show (match step (denote tb) p w s.abs t with
          | .go s' t' => importEnds tb p w m s' t'
          | .halt _ _ => none) = some s'.abs
        rw [stepT_spec hs]
        exact q
def s0T (p : Program) : SharedT := ⟨.nil, 0, (start p).1.heap.life, #[], (start p).1.drawn, (start p).1.toks, (start p).1.os⟩
theorem s0T_abs (p : Program) : (s0T p).abs = (start p).1 := rfl
/-- a shared state as a tree -/
def asT {α : Type} (s : Shared) (k : SharedT → Option α) : Option α := match putAll s.heap.objs.toList .nil 0 with
  | some (t, n) => frNat n fun n => k ⟨t, n, s.heap.life, s.gens, s.drawn, s.toks, s.os⟩
  | none => none
theorem asT_ok {α : Type} {s : Shared} {k : SharedT → Option α} {x : α} (h : asT s k = some x) : ∃ z : SharedT, z.abs = s ∧ k z = some x := by
  unfold asT at h
  cases e : putAll s.heap.objs.toList .nil 0 with
  | none => rw [e] at h; cases h
  | some r =>
    obtain ⟨t, n⟩ := r
    rw [e] at h
    have h1 : (frNat n fun n => k ⟨t, n, s.heap.life, s.gens, s.drawn, s.toks, s.os⟩) = some x := h
    rw [frNat_eq] at h1
    refine ⟨_, ?_, h1⟩
    show (⟨absHeap t n s.heap.life, s.gens, s.drawn, s.toks, s.os⟩ : Shared) = s
    rw [putAll_heap e]
/-- the opening's steps, the fence, the top's steps, the looks -/
def endI {α : Type} (st st' : SharedT → Thread → Option (SharedT × Thread)) (M1 M : Nat) (p : Program) (look : Shared → SharedT → α) : Option α :=
  match impF st' M1 (s0T (opening p)) (start (opening p)).2 with
  | some s => match fenceModules? p s.abs with
    | some s2 => asT s2 fun z => match s2.heap.isNs mainGlobals && s2.gens.size == 0 with
      | true => (goF st z.n (s2.heap.nsMap mainGlobals "__annotations__") M z (topStub p)).map (look s2)
      | false => none
    | none => none
  | none => none
theorem endI_ok {α : Type} {M1 M : Nat} {p : Program} {w : World} {look : Shared → SharedT → α} {x : α} (h : endI (stepT (denote treeTable) p w) (stepT (denote treeTable) (opening p) w) M1 M p look = some x) :
    ∃ s2 s3, fencedOpening treeTable p w M1 = some s2 ∧ (s2.heap.isNs mainGlobals && s2.gens.size == 0) = true ∧ topRun treeTable p w s2.heap.objs.size (s2.heap.nsMap mainGlobals "__annotations__") M s2 (topStub p) = some s3.abs ∧ look s2 s3 = x := by
  unfold endI at h
  cases e : impF (stepT (denote treeTable) (opening p) w) M1 (s0T (opening p)) (start (opening p)).2 with
  | none => rw [e] at h; cases h
  | some s =>
    rw [e] at h
    have q := impF_ok e
    rw [s0T_abs] at q
    have h1 : (match fenceModules? p s.abs with
      | some s2 => asT s2 fun z => match s2.heap.isNs mainGlobals && s2.gens.size == 0 with
        | true => (goF (stepT (denote treeTable) p w) z.n (s2.heap.nsMap mainGlobals "__annotations__") M z (topStub p)).map (look s2)
        | false => none
      | none => none) = some x := h
    cases e2 : fenceModules? p s.abs with
    | none => rw [e2] at h1; cases h1
    | some s2 =>
      rw [e2] at h1
      obtain ⟨z, hz, h2⟩ := asT_ok h1
      cases e3 : (s2.heap.isNs mainGlobals && s2.gens.size == 0) with
      | false =>
        rw [e3] at h2
        cases h2
      | true =>
        rw [e3] at h2
        obtain ⟨s3, h3, h4⟩ := Option.map_eq_some_iff.mp h2
        refine ⟨s2, s3, ?_, e3, ?_, h4⟩
        · unfold fencedOpening
          rw [q]
          exact e2
        · have r := goF_ok h3
          have en : s2.heap.objs.size = z.n := by
            rw [← hz]
            exact absHeap_size _ _ _
          rw [hz] at r
          rw [en]
          exact r
def looksI (p : Program) (s2 : Shared) (s : Shared) : Bool := staticsOk (importedModules p.main.body) s2.heap s.heap && namesBound p s.heap && gensDone s && laidKept s2.heap s.heap
theorem left_two {p q : Program} {loose : List Str} {Xt : Shared → Bool} {α : Type} {Yf : Shared → α} {Ya : World → α} {N M1 M : Nat} (le1 : Nat.ble M1 N = true) (le : Nat.ble M N = true)
    (run : ∀ w : World, endI (stepT (denote treeTable) p w) (stepT (denote treeTable) (opening p) w) M1 M p (fun s2 s => (looksI p s2 s.abs, openSeen q loose (importedModules p.main.body) Xt true s.abs, Yf s.abs)) = some (true, openGood q loose, Ya w)) :
    LeftO p q loose Xt Yf Ya N true := fun w => by
  obtain ⟨s2, s3, h1, h2, h3, h4⟩ := endI_ok (run w)
  obtain ⟨l1, l2, l3⟩ : _ ∧ _ ∧ _ := by simpa only [Prod.mk.injEq] using h4
  have r := topRun_mono (N - M) _ _ _ _ h3
  rw [show M + (N - M) = N by have := Nat.le_of_ble_eq_true le; omega] at r
  have l1' : (staticsOk (importedModules p.main.body) s2.heap s3.abs.heap && namesBound p s3.abs.heap && gensDone s3.abs && laidKept s2.heap s3.abs.heap) = true := l1
  have t : topFrom treeTable p w N s2 = some s3.abs := by
    unfold topFrom
    rw [h2]
    show (topRun treeTable p w s2.heap.objs.size (s2.heap.nsMap mainGlobals "__annotations__") N s2 (topStub p)).bind _ = _
    rw [r]
    show (match staticsOk (importedModules p.main.body) s2.heap s3.abs.heap && namesBound p s3.abs.heap && gensDone s3.abs && laidKept s2.heap s3.abs.heap with | true => some s3.abs | false => none) = _
    rw [l1']
  have f : fencedOpening treeTable p w N = some s2 := by
    unfold fencedOpening at h1 ⊢
    obtain ⟨a, b, c⟩ := Option.bind_eq_some_iff.mp h1
    have m := importEnds_mono (N - M1) _ _ _ _ b
    rw [show M1 + (N - M1) = N by have := Nat.le_of_ble_eq_true le1; omega] at m
    rw [m]
    exact c
  unfold openEnds
  rw [f]
  show (topFrom treeTable p w N _).map _ = _
  rw [t]
  exact congrArg some (Prod.ext l2 l3)
/-- the run's equation at a world, by the library's twins -/
def RunI (r : OpenRow) (q : Program) (H : Hook) (ob : SharedT → H.α) (M1 M : Nat) (loose : List PySem.Str) (w : World) : Prop :=
  endI (stepQ (denQ tabQ) r.prog w) (stepQ (denQ tabQ) (opening r.prog) w) M1 M r.prog (fun s2 s => (looksI r.prog s2 s.abs, seenQ q loose (importedModules r.prog.main.body) (fun s => xlAt q [] s && recOk r.toRowW.records s) s.abs, ob s)) = some (true, openGood q loose, H.val w)
theorem head_imp {r : OpenRow} {q : Program} {H : Hook} {ob : SharedT → H.α} {M1 M : Nat} {loose : List PySem.Str} {d : DefRec} {kwd : List (PySem.Str × PySem.Expr)} (ho : ∀ s : SharedT, ob s = H.obs s.abs)
    (run : ∀ w, RunI r q H ob M1 M loose w)
    (hdef : defOf q r.name = some (d, kwd)) (hp : r.prog.theDef r.name = some (d.params, d.body, d.scope)) (hk : kwWritten? d.params.kwonlyargs d.params.kw_defaults = some kwd)
    (hwr : (!r.writes || r.records.isEmpty) = true) (k1 : r.wellSaid = true) (ok : (chainsOk q && opensWell r.prog && (frees r.toRowW && r.within.isEmpty)) = true) (hb : r.prog.bare) (hw : r.toRowW.promised)
    (call : WalkO q loose (XL q []) H.says r.toRowW d kwd fun f vs => PySem.call f vs) : r.Holds := by
  have left : LeftO r.prog q loose (fun s => xlAt q [] s && recOk r.toRowW.records s) H.obs H.val (M + M1) true :=
    left_two (M1 := M1) (M := M) (Nat.ble_eq_true_of_le (by omega)) (Nat.ble_eq_true_of_le (by omega)) fun w => by
      have z := run w
      have eo : ob = fun s => H.obs s.abs := funext ho
      unfold RunI at z
      rw [eo] at z
      rw [stepQ_eq, denQ_eq, tabQ_eq]
      simp only [seenQ_eq]
      exact z
  exact holds_open (r := r) (q := q) (loose := loose) (XP := XL q []) (YP := H.says) (d := d) (kwd := kwd) left H.of H.keeps (fun s z => xl_of s (Bool.and_eq_true_iff.mp z).1) XL.keeps hdef hp hk (fun s z => recFacts_of (Bool.and_eq_true_iff.mp z).2) hwr k1 ok hb hw call
end HdI
end

-- L58
section
set_option Elab.async false
set_option linter.all false
set_option maxRecDepth 100000
set_option maxHeartbeats 0
namespace R5
open PySem PySem.Spec PyProof.Rows L2 He HdB HdS OwnOps SupX StX
/-- the getter of a property -/
def pgX (K : PySem.W.Frag) (c x : Str) : Addr := match PySem.W.recIn K (maX K c x) "property" with
  | some (.ref g :: _) => g
  | _ => 0
def recB (K : PySem.W.Frag) (c x : Str) : Bool := match PySem.W.recIn K (maX K c x) "property" with
  | some (.ref _ :: _) => true
  | _ => false
theorem recB_ok {K : PySem.W.Frag} {c x : Str} (h : recB K c x = true) : ∃ rest, PySem.W.recIn K (maX K c x) "property" = some (.ref (pgX K c x) :: rest) := by
  unfold recB at h
  unfold pgX
  cases q : PySem.W.recIn K (maX K c x) "property" with
  | none => rw [q] at h; cases h
  | some l =>
    rw [q] at h
    cases l with
    | nil => cases h
    | cons v r => cases v with
      | ref g => exact ⟨r, rfl⟩
      | _ => cases h
/-- a class of kinds, all that is asked of it -/
structure KB (K : PySem.W.Frag) (C DK tp gE CP f gK DX : Addr) (d : Bool) : Prop where
  pg : PySem.W.plainGet K C Str.empty = true
  hd : PySem.W.hasDictIn K C = true
  po : PySem.W.plainOver K C = true
  sa : PySem.W.findIn K (.ref C) "__setattr__" = some (some (.builtin "object.__setattr__"))
  n1 : PySem.W.findIn K (.ref C) "name" = some none
  n2 : PySem.W.findIn K (.ref C) "pins" = some none
  n3 : PySem.W.findIn K (.ref C) "controls" = some none
  n4 : PySem.W.findIn K (.ref C) "is_path" = some none
  n5 : PySem.W.findIn K (.ref C) "orders" = some none
  n6 : PySem.W.findIn K (.ref C) "_line" = some none
  n7 : PySem.W.findIn K (.ref C) "_groups" = some none
  n8 : PySem.W.findIn K (.ref C) "_rules" = some none
  tx : PySem.W.findIn K (.ref C) "text" = some (some (.ref tp))
  ha : PySem.W.findIn K (.ref C) "__class__" = some (some (.builtin "object.__class__"))
  hm : PySem.W.mroIn K C (.type "object") = some true
  kK : PySem.W.kitOne K (.ref C) (.ref DK) = some true
  eq : PySem.W.findIn K (.ref C) "__eq__" = some (some (.ref gE))
  ne : PySem.W.findIn K (.ref C) "__ne__" = some (some (.builtin "object.__ne__"))
  nf : PySem.W.notFirst K C (.ref C) = true
  kP : PySem.W.kitOne K (.ref C) (.ref CP) = some false
  nP : PySem.W.notFirst K CP (.ref C) = true
  mks : PySem.W.makesIn K C = true
  kp : PySem.W.keepIn K (.ref C) = true
  ini : PySem.W.findIn K (.ref C) "__init__" = some (some (.ref f))
  fi : PySem.W.isFn K (.ref f) = true
  so : SupAt K C DX "__init__" gK
  co : PySem.W.findIn K (.ref C) "DIRECTED" = some (some (.bool d))
instance {K : PySem.W.Frag} {C DK tp gE CP f gK DX : Addr} {d : Bool} : Decidable (KB K C DK tp gE CP f gK DX d) := decidable_of_iff ((PySem.W.plainGet K C Str.empty = true) ∧ (PySem.W.hasDictIn K C = true) ∧ (PySem.W.plainOver K C = true) ∧ (PySem.W.findIn K (.ref C) "__setattr__" = some (some (.builtin "object.__setattr__"))) ∧ (PySem.W.findIn K (.ref C) "name" = some none) ∧ (PySem.W.findIn K (.ref C) "pins" = some none) ∧ (PySem.W.findIn K (.ref C) "controls" = some none) ∧ (PySem.W.findIn K (.ref C) "is_path" = some none) ∧ (PySem.W.findIn K (.ref C) "orders" = some none) ∧ (PySem.W.findIn K (.ref C) "_line" = some none) ∧ (PySem.W.findIn K (.ref C) "_groups" = some none) ∧ (PySem.W.findIn K (.ref C) "_rules" = some none) ∧ (PySem.W.findIn K (.ref C) "text" = some (some (.ref tp))) ∧ (PySem.W.findIn K (.ref C) "__class__" = some (some (.builtin "object.__class__"))) ∧ (PySem.W.mroIn K C (.type "object") = some true) ∧ (PySem.W.kitOne K (.ref C) (.ref DK) = some true) ∧ (PySem.W.findIn K (.ref C) "__eq__" = some (some (.ref gE))) ∧ (PySem.W.findIn K (.ref C) "__ne__" = some (some (.builtin "object.__ne__"))) ∧ (PySem.W.notFirst K C (.ref C) = true) ∧ (PySem.W.kitOne K (.ref C) (.ref CP) = some false) ∧ (PySem.W.notFirst K CP (.ref C) = true) ∧ (PySem.W.makesIn K C = true) ∧ (PySem.W.keepIn K (.ref C) = true) ∧ (PySem.W.findIn K (.ref C) "__init__" = some (some (.ref f))) ∧ (PySem.W.isFn K (.ref f) = true) ∧ (SupAt K C DX "__init__" gK) ∧ (PySem.W.findIn K (.ref C) "DIRECTED" = some (some (.bool d))))
  ⟨fun ⟨pg_, hd_, po_, sa_, n1_, n2_, n3_, n4_, n5_, n6_, n7_, n8_, tx_, ha_, hm_, kK_, eq_, ne_, nf_, kP_, nP_, mks_, kp_, ini_, fi_, so_, co_⟩ => ⟨pg_, hd_, po_, sa_, n1_, n2_, n3_, n4_, n5_, n6_, n7_, n8_, tx_, ha_, hm_, kK_, eq_, ne_, nf_, kP_, nP_, mks_, kp_, ini_, fi_, so_, co_⟩, fun ⟨pg_, hd_, po_, sa_, n1_, n2_, n3_, n4_, n5_, n6_, n7_, n8_, tx_, ha_, hm_, kK_, eq_, ne_, nf_, kP_, nP_, mks_, kp_, ini_, fi_, so_, co_⟩ => ⟨pg_, hd_, po_, sa_, n1_, n2_, n3_, n4_, n5_, n6_, n7_, n8_, tx_, ha_, hm_, kK_, eq_, ne_, nf_, kP_, nP_, mks_, kp_, ini_, fi_, so_, co_⟩⟩
abbrev Fc0 (K : PySem.W.Frag) : Prop := KB K (gaX K "PinKind") (gaX K "Kind") (maX K "Kind" "text") (maX K "Kind" "__eq__") (gaX K "Part") (maX K "PinKind" "__init__") (maX K "Kind" "__init__") (gaX K "PinKind") false
abbrev Fc1 (K : PySem.W.Frag) : Prop := PySem.W.nsIn K mainGlobals "PinKind" = some (some (.ref (gaX K "PinKind")))
abbrev Fc2 (K : PySem.W.Frag) : Prop := KB K (gaX K "PathKind") (gaX K "Kind") (maX K "Kind" "text") (maX K "Kind" "__eq__") (gaX K "Part") (maX K "PathKind" "__init__") (maX K "Kind" "__init__") (gaX K "PathKind") false
abbrev Fc3 (K : PySem.W.Frag) : Prop := PySem.W.nsIn K mainGlobals "PathKind" = some (some (.ref (gaX K "PathKind")))
abbrev Fc4 (K : PySem.W.Frag) : Prop := KB K (gaX K "DirectedKind") (gaX K "Kind") (maX K "Kind" "text") (maX K "Kind" "__eq__") (gaX K "Part") (maX K "PathKind" "__init__") (maX K "Kind" "__init__") (gaX K "PathKind") true
abbrev Fc5 (K : PySem.W.Frag) : Prop := PySem.W.nsIn K mainGlobals "DirectedKind" = some (some (.ref (gaX K "DirectedKind")))
abbrev Fc6 (K : PySem.W.Frag) : Prop := KB K (gaX K "JoiningKind") (gaX K "Kind") (maX K "Kind" "text") (maX K "Kind" "__eq__") (gaX K "Part") (maX K "JoiningKind" "__init__") (maX K "Kind" "__init__") (gaX K "PathKind") false
abbrev Fc7 (K : PySem.W.Frag) : Prop := PySem.W.nsIn K mainGlobals "JoiningKind" = some (some (.ref (gaX K "JoiningKind")))
abbrev Fc8 (K : PySem.W.Frag) : Prop := KB K (gaX K "DirectedJoiningKind") (gaX K "Kind") (maX K "Kind" "text") (maX K "Kind" "__eq__") (gaX K "Part") (maX K "JoiningKind" "__init__") (maX K "Kind" "__init__") (gaX K "PathKind") true
abbrev Fc9 (K : PySem.W.Frag) : Prop := PySem.W.nsIn K mainGlobals "DirectedJoiningKind" = some (some (.ref (gaX K "DirectedJoiningKind")))
abbrev Fc10 (K : PySem.W.Frag) : Prop := SupAt K (gaX K "JoiningKind") (gaX K "JoiningKind") "__init__" (maX K "PathKind" "__init__")
abbrev Fc11 (K : PySem.W.Frag) : Prop := SupAt K (gaX K "DirectedJoiningKind") (gaX K "JoiningKind") "__init__" (maX K "PathKind" "__init__")
abbrev Fc12 (K : PySem.W.Frag) : Prop := PySem.W.nsIn K mainGlobals "Kind" = some (some (.ref (gaX K "Kind")))
abbrev Fc13 (K : PySem.W.Frag) : Prop := PySem.W.nsIn K mainGlobals "ValueRule" = some (some (.ref (gaX K "ValueRule")))
abbrev Fc14 (K : PySem.W.Frag) : Prop := PySem.W.nsIn K mainGlobals "Ratio" = some (some (.ref (gaX K "Ratio")))
abbrev Fc15 (K : PySem.W.Frag) : Prop := PySem.W.nsIn K mainGlobals "Part" = some (some (.ref (gaX K "Part")))
abbrev Fc16 (K : PySem.W.Frag) : Prop := PySem.W.specialIn K (.ref (maX K "Kind" "text")) "__get__" = some (some (.builtin "property.__get__"))
abbrev Fc17 (K : PySem.W.Frag) : Prop := PySem.W.takesIn K (.ref (maX K "Kind" "text")) = some true
abbrev Fc18 (K : PySem.W.Frag) : Prop := recB K "Kind" "text" = true
abbrev Fc19 (K : PySem.W.Frag) : Prop := PySem.W.specialIn K (.builtin "object.__class__") "__get__" = some (some (.builtin "getset_descriptor.__get__"))
abbrev Fc20 (K : PySem.W.Frag) : Prop := PySem.W.takesIn K (.builtin "object.__class__") = some true
abbrev Fc21 (K : PySem.W.Frag) : Prop := ∀ T ∈ (["str", "NoneType", "int"] : List String), PySem.W.kitOne K (.type T) (.ref (gaX K "Kind")) = some false
abbrev Fc22 (K : PySem.W.Frag) : Prop := PySem.W.specialIn K (.bool true) "__get__" = some none
abbrev Fc23 (K : PySem.W.Frag) : Prop := PySem.W.specialIn K (.bool false) "__get__" = some none
abbrev Fc24 (K : PySem.W.Frag) : Prop := PySem.W.isFn K (.ref (maX K "Kind" "__eq__")) = true
abbrev Fc25 (K : PySem.W.Frag) : Prop := PySem.W.findIn K (.ref (gaX K "Kind")) "__eq__" = some (some (.ref (maX K "Kind" "__eq__")))
abbrev Fc26 (K : PySem.W.Frag) : Prop := PySem.W.typeIn K (.ref (maX K "Kind" "__init__")) = some (.type "function") ∧ PySem.W.fnIn K (maX K "Kind" "__init__") = true
abbrev Fc27 (K : PySem.W.Frag) : Prop := PySem.W.typeIn K (.ref (maX K "PathKind" "__init__")) = some (.type "function") ∧ PySem.W.fnIn K (maX K "PathKind" "__init__") = true
abbrev Fc28 (K : PySem.W.Frag) : Prop := PySem.W.nsIn K mainGlobals "super" = some none
abbrev Fc29 (K : PySem.W.Frag) : Prop := PySem.W.nsIn K cStatics "thirdparty.any" = some none
abbrev Fc30 (K : PySem.W.Frag) : Prop := (PySem.W.clsIn K (gaX K "PinKind")).isSome = true
abbrev Fc31 (K : PySem.W.Frag) : Prop := (PySem.W.clsIn K (gaX K "PathKind")).isSome = true
abbrev Fc32 (K : PySem.W.Frag) : Prop := (PySem.W.clsIn K (gaX K "JoiningKind")).isSome = true
abbrev Fc33 (K : PySem.W.Frag) : Prop := Cls K (gaX K "ValueRule")
abbrev Fc34 (K : PySem.W.Frag) : Prop := NoAttr K (gaX K "ValueRule") "word"
abbrev Fc35 (K : PySem.W.Frag) : Prop := PySem.W.findIn K (.ref (gaX K "ValueRule")) "__class__" = some (some (.builtin "object.__class__"))
abbrev Fc36 (K : PySem.W.Frag) : Prop := PySem.W.mroIn K (gaX K "ValueRule") (.type "object") = some true
abbrev Fc37 (K : PySem.W.Frag) : Prop := PySem.W.kitOne K (.ref (gaX K "ValueRule")) (.ref (gaX K "ValueRule")) = some true
abbrev Fc38 (K : PySem.W.Frag) : Prop := ∀ T ∈ (["str", "int", "bool", "tuple", "list", "NoneType"] : List String), PySem.W.kitOne K (.type T) (.ref (gaX K "ValueRule")) = some false
abbrev Fc39 (K : PySem.W.Frag) : Prop := PySem.W.makesIn K (gaX K "ValueRule") = true ∧ PySem.W.keepIn K (.ref (gaX K "ValueRule")) = true ∧ PySem.W.findIn K (.ref (gaX K "ValueRule")) "__init__" = some (some (.ref (maX K "ValueRule" "__init__"))) ∧ PySem.W.isFn K (.ref (maX K "ValueRule" "__init__")) = true
abbrev Fc40 (K : PySem.W.Frag) : Prop := (Fa.int "WORD_SIGNS" 12).ok K = true
abbrev Fc41 (K : PySem.W.Frag) : Prop := (Fa.int "MOST_PINS" 6).ok K = true
abbrev Fc42 (K : PySem.W.Frag) : Prop := (Fa.int "MOST_CONTROLS" 3).ok K = true
abbrev Fc43 (K : PySem.W.Frag) : Prop := (Fa.int "NAME_WORDS" 64).ok K = true
abbrev Fc44 (K : PySem.W.Frag) : Prop := (match K.lookup (kwAd K (maX K "PinKind" "__init__") "swaps") with | some ⟨.type "tuple", _, .seq its _, _⟩ => its.size == 0 | _ => false) = true
abbrev Fc45 (K : PySem.W.Frag) : Prop := Cls K (gaX K "Ratio")
abbrev Fc46 (K : PySem.W.Frag) : Prop := NoAttr K (gaX K "Ratio") "top"
abbrev Fc47 (K : PySem.W.Frag) : Prop := NoAttr K (gaX K "Ratio") "bottom"
abbrev Fc48 (K : PySem.W.Frag) : Prop := PySem.W.findIn K (.ref (gaX K "Ratio")) "__class__" = some (some (.builtin "object.__class__"))
abbrev Fc49 (K : PySem.W.Frag) : Prop := PySem.W.mroIn K (gaX K "Ratio") (.type "object") = some true
abbrev Fc50 (K : PySem.W.Frag) : Prop := PySem.W.makesIn K (gaX K "Ratio") = true ∧ PySem.W.keepIn K (.ref (gaX K "Ratio")) = true ∧ PySem.W.findIn K (.ref (gaX K "Ratio")) "__init__" = some (some (.ref (maX K "Ratio" "__init__"))) ∧ PySem.W.isFn K (.ref (maX K "Ratio" "__init__")) = true
abbrev Fc51 (K : PySem.W.Frag) : Prop := PySem.W.selfFirst K (gaX K "Ratio") = true
abbrev Fc52 (K : PySem.W.Frag) : Prop := PySem.W.notFirst K (gaX K "Ratio") (.ref (gaX K "Ratio")) = true
abbrev Fc53 (K : PySem.W.Frag) : Prop := ∀ T ∈ (["int", "bool", "NoneType", "str", "list", "tuple"] : List String), PySem.W.kitOne K (.type T) (.ref (gaX K "Ratio")) = some false
abbrev Fc54 (K : PySem.W.Frag) : Prop := PySem.W.kitOne K (.ref (gaX K "Ratio")) (.ref (gaX K "Ratio")) = some true
abbrev Fc55 (K : PySem.W.Frag) : Prop := PySem.W.kitOne K (.ref (gaX K "Ratio")) (.type "int") = some false
abbrev Fc56 (K : PySem.W.Frag) : Prop := ∀ T ∈ (["int", "bool", "NoneType", "str", "list", "tuple"] : List String), PySem.W.notFirst K (gaX K "Ratio") (.type T) = true
abbrev Fc57 (K : PySem.W.Frag) : Prop := PySem.W.subIn K (.ref (gaX K "Ratio")) (.type "int") = some false
abbrev Fc58 (K : PySem.W.Frag) : Prop := PySem.W.nsIn K mainGlobals "gcd" = some (some (.builtin "math.gcd"))
abbrev Fc59 (K : PySem.W.Frag) : Prop := PySem.W.findIn K (.ref (gaX K "Ratio")) "__eq__" = some (some (.ref (maX K "Ratio" "__eq__"))) ∧ PySem.W.isFn K (.ref (maX K "Ratio" "__eq__")) = true ∧ PySem.W.keepIn K (.ref (maX K "Ratio" "__eq__")) = true
abbrev Fc60 (K : PySem.W.Frag) : Prop := PySem.W.findIn K (.ref (gaX K "Ratio")) "__ne__" = some (some (.ref (maX K "Ratio" "__ne__"))) ∧ PySem.W.isFn K (.ref (maX K "Ratio" "__ne__")) = true ∧ PySem.W.keepIn K (.ref (maX K "Ratio" "__ne__")) = true
abbrev Fc61 (K : PySem.W.Frag) : Prop := Cls K (gaX K "Part")
abbrev Fc62 (K : PySem.W.Frag) : Prop := NoAttr K (gaX K "Part") "kind"
abbrev Fc63 (K : PySem.W.Frag) : Prop := NoAttr K (gaX K "Part") "_value"
abbrev Fc64 (K : PySem.W.Frag) : Prop := NoAttr K (gaX K "Part") "_nets"
abbrev Fc65 (K : PySem.W.Frag) : Prop := PySem.W.findIn K (.ref (gaX K "Part")) "__class__" = some (some (.builtin "object.__class__"))
abbrev Fc66 (K : PySem.W.Frag) : Prop := PySem.W.mroIn K (gaX K "Part") (.type "object") = some true
abbrev Fc67 (K : PySem.W.Frag) : Prop := PySem.W.kitOne K (.ref (gaX K "Part")) (.ref (gaX K "Part")) = some true
abbrev Fc68 (K : PySem.W.Frag) : Prop := PySem.W.kitOne K (.ref (gaX K "Part")) (.ref (gaX K "Kind")) = some false
abbrev Fc69 (K : PySem.W.Frag) : Prop := PySem.W.kitOne K (.type "int") (.ref (gaX K "Part")) = some false
abbrev Fc70 (K : PySem.W.Frag) : Prop := PySem.W.makesIn K (gaX K "Part") = true ∧ PySem.W.keepIn K (.ref (gaX K "Part")) = true ∧ PySem.W.findIn K (.ref (gaX K "Part")) "__init__" = some (some (.ref (maX K "Part" "__init__"))) ∧ PySem.W.isFn K (.ref (maX K "Part" "__init__")) = true
abbrev Fc71 (K : PySem.W.Frag) : Prop := PySem.W.findIn K (.ref (gaX K "Part")) "__getitem__" = some (some (.ref (maX K "Part" "__getitem__"))) ∧ PySem.W.isFn K (.ref (maX K "Part" "__getitem__")) = true ∧ PySem.W.fnIn K (maX K "Part" "__getitem__") = true
abbrev Fc72 (K : PySem.W.Frag) : Prop := PySem.W.noSeq K (gaX K "Part") = true ∧ PySem.W.findIn K (.ref (gaX K "Part")) "__setitem__" = some (some (.ref (maX K "Part" "__setitem__"))) ∧ PySem.W.isFn K (.ref (maX K "Part" "__setitem__")) = true
abbrev Fc73 (K : PySem.W.Frag) : Prop := PySem.W.findIn K (.ref (gaX K "Part")) "__len__" = some (some (.ref (maX K "Part" "__len__"))) ∧ PySem.W.isFn K (.ref (maX K "Part" "__len__")) = true
abbrev Fc74 (K : PySem.W.Frag) : Prop := PySem.W.findIn K (.ref (gaX K "Part")) "__eq__" = some (some (.ref (maX K "Part" "__eq__"))) ∧ PySem.W.isFn K (.ref (maX K "Part" "__eq__")) = true
abbrev Fc75 (K : PySem.W.Frag) : Prop := PySem.W.findIn K (.ref (gaX K "Part")) "__ne__" = some (some (.builtin "object.__ne__"))
abbrev Fc76 (K : PySem.W.Frag) : Prop := PySem.W.notFirst K (gaX K "Part") (.ref (gaX K "Part")) = true
abbrev Fc77 (K : PySem.W.Frag) : Prop := PySem.W.notFirst K (gaX K "Part") (.type "int") = true
abbrev Fc78 (K : PySem.W.Frag) : Prop := PySem.W.findIn K (.ref (gaX K "Part")) "value" = some (some (.ref (maX K "Part" "value"))) ∧ PySem.W.specialIn K (.ref (maX K "Part" "value")) "__get__" = some (some (.builtin "property.__get__")) ∧ PySem.W.takesIn K (.ref (maX K "Part" "value")) = some true
abbrev Fc79 (K : PySem.W.Frag) : Prop := recB K "Part" "value" = true
abbrev Fc80 (K : PySem.W.Frag) : Prop := PySem.W.findIn K (.ref (gaX K "Part")) "nets" = some (some (.ref (maX K "Part" "nets"))) ∧ PySem.W.specialIn K (.ref (maX K "Part" "nets")) "__get__" = some (some (.builtin "property.__get__")) ∧ PySem.W.takesIn K (.ref (maX K "Part" "nets")) = some true
abbrev Fc81 (K : PySem.W.Frag) : Prop := recB K "Part" "nets" = true
abbrev Fc82 (K : PySem.W.Frag) : Prop := PySem.W.findIn K (.ref (gaX K "Part")) "set_value" = some (some (.ref (maX K "Part" "set_value"))) ∧ PySem.W.isFn K (.ref (maX K "Part" "set_value")) = true ∧ PySem.W.keepIn K (.ref (maX K "Part" "set_value")) = true
abbrev Fc83 (K : PySem.W.Frag) : Prop := PySem.W.findIn K (.ref (gaX K "Part")) "set_nets" = some (some (.ref (maX K "Part" "set_nets"))) ∧ PySem.W.isFn K (.ref (maX K "Part" "set_nets")) = true ∧ PySem.W.keepIn K (.ref (maX K "Part" "set_nets")) = true
abbrev Fc84 (K : PySem.W.Frag) : Prop := PySem.W.findIn K (.ref (gaX K "Part")) "seats" = some (some (.ref (maX K "Part" "seats"))) ∧ PySem.W.isFn K (.ref (maX K "Part" "seats")) = true ∧ PySem.W.keepIn K (.ref (maX K "Part" "seats")) = true
abbrev Fc85 (K : PySem.W.Frag) : Prop := PySem.W.findIn K (.ref (gaX K "Part")) "copied" = some (some (.ref (maX K "Part" "copied"))) ∧ PySem.W.isFn K (.ref (maX K "Part" "copied")) = true ∧ PySem.W.keepIn K (.ref (maX K "Part" "copied")) = true
abbrev Fc86 (K : PySem.W.Frag) : Prop := PySem.W.findIn K (.ref (gaX K "Part")) "moved" = some (some (.ref (maX K "Part" "moved"))) ∧ PySem.W.isFn K (.ref (maX K "Part" "moved")) = true ∧ PySem.W.keepIn K (.ref (maX K "Part" "moved")) = true
abbrev Fc87 (K : PySem.W.Frag) : Prop := PySem.W.findIn K (.ref (gaX K "Part")) "_index_of" = some (some (.ref (maX K "Part" "_index_of"))) ∧ PySem.W.isFn K (.ref (maX K "Part" "_index_of")) = true ∧ PySem.W.keepIn K (.ref (maX K "Part" "_index_of")) = true
abbrev Fc88 (K : PySem.W.Frag) : Prop := ErrB K (gaX K "InvalidKind") (maX K "InvalidKind" "__init__") "InvalidKind" [.type "ValueError", .type "Exception", .type "BaseException", .type "object"] "ValueError.__new__"
abbrev Fc89 (K : PySem.W.Frag) : Prop := ErrB K (gaX K "InvalidName") (maX K "InvalidName" "__init__") "InvalidName" [.type "ValueError", .type "Exception", .type "BaseException", .type "object"] "ValueError.__new__"
abbrev Fc90 (K : PySem.W.Frag) : Prop := ErrB K (gaX K "InvalidPins") (maX K "InvalidPins" "__init__") "InvalidPins" [.type "ValueError", .type "Exception", .type "BaseException", .type "object"] "ValueError.__new__"
abbrev Fc91 (K : PySem.W.Frag) : Prop := ErrB K (gaX K "NotPositive") (maX K "NotPositive" "__init__") "NotPositive" [.type "ValueError", .type "Exception", .type "BaseException", .type "object"] "ValueError.__new__"
abbrev Fc92 (K : PySem.W.Frag) : Prop := ErrB K (gaX K "InvalidNumber") (maX K "InvalidNumber" "__init__") "InvalidNumber" [.type "ValueError", .type "Exception", .type "BaseException", .type "object"] "ValueError.__new__"
abbrev Fc93 (K : PySem.W.Frag) : Prop := ErrB K (gaX K "UnknownName") (maX K "UnknownName" "__init__") "UnknownName" [.type "KeyError", .type "LookupError", .type "Exception", .type "BaseException", .type "object"] "LookupError.__new__"
abbrev Fc94 (K : PySem.W.Frag) : Prop := ErrB K (gaX K "NoDivision") (maX K "NoDivision" "__init__") "NoDivision" [.type "ZeroDivisionError", .type "ArithmeticError", .type "Exception", .type "BaseException", .type "object"] "ZeroDivisionError.__new__"
abbrev Fc95 (K : PySem.W.Frag) : Prop := PySem.W.exmOne K (.ref (gaX K "InvalidName")) (.ref (gaX K "InvalidKind")) = some false
abbrev Fc96 (K : PySem.W.Frag) : Prop := PySem.W.exmOne K (.ref (gaX K "InvalidPins")) (.ref (gaX K "InvalidKind")) = some false
abbrev Fc97 (K : PySem.W.Frag) : Prop := PySem.W.exmOne K (.ref (gaX K "InvalidPins")) (.ref (gaX K "InvalidName")) = some false
abbrev Fc98 (K : PySem.W.Frag) : Prop := PySem.W.exmOne K (.ref (gaX K "NotPositive")) (.ref (gaX K "InvalidKind")) = some false
abbrev Fc99 (K : PySem.W.Frag) : Prop := PySem.W.exmOne K (.ref (gaX K "NotPositive")) (.ref (gaX K "InvalidName")) = some false
abbrev Fc100 (K : PySem.W.Frag) : Prop := PySem.W.exmOne K (.ref (gaX K "NotPositive")) (.ref (gaX K "InvalidPins")) = some false
abbrev Fc101 (K : PySem.W.Frag) : Prop := PySem.W.exmOne K (.ref (gaX K "UnknownName")) (.ref (gaX K "InvalidKind")) = some false
abbrev Fc102 (K : PySem.W.Frag) : Prop := PySem.W.exmOne K (.ref (gaX K "UnknownName")) (.ref (gaX K "InvalidName")) = some false
abbrev Fc103 (K : PySem.W.Frag) : Prop := PySem.W.exmOne K (.ref (gaX K "UnknownName")) (.ref (gaX K "InvalidPins")) = some false
abbrev Fc104 (K : PySem.W.Frag) : Prop := PySem.W.exmOne K (.ref (gaX K "UnknownName")) (.ref (gaX K "NotPositive")) = some false
abbrev Fc105 (K : PySem.W.Frag) : Prop := PySem.W.nsIn K mainGlobals "is_whole" = some (some (.ref (gaX K "is_whole")))
abbrev Fc106 (K : PySem.W.Frag) : Prop := PySem.W.nsIn K mainGlobals "is_word" = some (some (.ref (gaX K "is_word")))
abbrev Fc107 (K : PySem.W.Frag) : Prop := PySem.W.nsIn K mainGlobals "is_name" = some (some (.ref (gaX K "is_name")))
abbrev Fc108 (K : PySem.W.Frag) : Prop := PySem.W.nsIn K mainGlobals "are_different_words" = some (some (.ref (gaX K "are_different_words")))
abbrev Fc109 (K : PySem.W.Frag) : Prop := PySem.W.nsIn K mainGlobals "are_names" = some (some (.ref (gaX K "are_names")))
abbrev Fc110 (K : PySem.W.Frag) : Prop := PySem.W.nsIn K mainGlobals "is_net_map" = some (some (.ref (gaX K "is_net_map")))
abbrev Fc111 (K : PySem.W.Frag) : Prop := PySem.W.nsIn K mainGlobals "value_of" = some (some (.ref (gaX K "value_of")))
abbrev Fc112 (K : PySem.W.Frag) : Prop := PySem.W.nsIn K mainGlobals "_as_rule" = some (some (.ref (gaX K "_as_rule")))
abbrev Fc113 (K : PySem.W.Frag) : Prop := PySem.W.nsIn K mainGlobals "_are_groups" = some (some (.ref (gaX K "_are_groups")))
abbrev Fc114 (K : PySem.W.Frag) : Prop := PySem.W.nsIn K mainGlobals "_mates" = some (some (.ref (gaX K "_mates")))
abbrev Fc115 (K : PySem.W.Frag) : Prop := PySem.W.nsIn K mainGlobals "_orders" = some (some (.ref (gaX K "_orders")))
abbrev Fc116 (K : PySem.W.Frag) : Prop := PySem.W.nsIn K mainGlobals "_path_line" = some (some (.ref (gaX K "_path_line")))
abbrev Fc117 (K : PySem.W.Frag) : Prop := PySem.W.nsIn K mainGlobals "_worded" = some (some (.ref (gaX K "_worded")))
abbrev Fc118 (K : PySem.W.Frag) : Prop := PySem.W.nsIn K mainGlobals "_fitting" = some (some (.ref (gaX K "_fitting")))
abbrev Fc119 (K : PySem.W.Frag) : Prop := PySem.W.nsIn K mainGlobals "_law_draws" = some (some (.ref (gaX K "_law_draws")))
abbrev Fc120 (K : PySem.W.Frag) : Prop := PySem.W.nsIn K mainGlobals "_law_draw" = some (some (.ref (gaX K "_law_draw")))
abbrev Fc121 (K : PySem.W.Frag) : Prop := PySem.W.nsIn K mainGlobals "_law_kinds" = some (some (.ref (gaX K "_law_kinds")))
abbrev Fc122 (K : PySem.W.Frag) : Prop := PySem.W.nsIn K mainGlobals "_law_part" = some (some (.ref (gaX K "_law_part")))
abbrev Fc123 (K : PySem.W.Frag) : Prop := PySem.W.nsIn K mainGlobals "_law_error" = some (some (.ref (gaX K "_law_error")))
abbrev Fc124 (K : PySem.W.Frag) : Prop := PySem.W.nsIn K mainGlobals "_law_is" = some (some (.ref (gaX K "_law_is")))
abbrev Fc125 (K : PySem.W.Frag) : Prop := PySem.W.nsIn K mainGlobals "_law_set_right" = some (some (.ref (gaX K "_law_set_right")))
abbrev Fc126 (K : PySem.W.Frag) : Prop := PySem.W.nsIn K mainGlobals "law" = some (some (.ref (gaX K "law")))
abbrev Fc127 (K : PySem.W.Frag) : Prop := PySem.W.nsIn K mainGlobals "isinstance" = some none
abbrev Fc128 (K : PySem.W.Frag) : Prop := PySem.W.nsIn K mainGlobals "int" = some none
abbrev Fc129 (K : PySem.W.Frag) : Prop := PySem.W.nsIn K mainGlobals "str" = some none
abbrev Fc130 (K : PySem.W.Frag) : Prop := PySem.W.nsIn K mainGlobals "len" = some none
abbrev Fc131 (K : PySem.W.Frag) : Prop := PySem.W.nsIn K mainGlobals "all" = some none
abbrev Fc132 (K : PySem.W.Frag) : Prop := PySem.W.nsIn K mainGlobals "set" = some none
abbrev Fc133 (K : PySem.W.Frag) : Prop := PySem.W.nsIn K mainGlobals "tuple" = some none
abbrev Fc134 (K : PySem.W.Frag) : Prop := PySem.W.nsIn K mainGlobals "list" = some none
abbrev Fc135 (K : PySem.W.Frag) : Prop := PySem.W.nsIn K mainGlobals "dict" = some none
abbrev Fc136 (K : PySem.W.Frag) : Prop := PySem.W.nsIn K mainGlobals "min" = some none
abbrev Fc137 (K : PySem.W.Frag) : Prop := PySem.W.nsIn K mainGlobals "max" = some none
abbrev Fc138 (K : PySem.W.Frag) : Prop := PySem.W.nsIn K mainGlobals "range" = some none
abbrev Fc139 (K : PySem.W.Frag) : Prop := PySem.W.nsIn K mainGlobals "enumerate" = some none
abbrev Fc140 (K : PySem.W.Frag) : Prop := PySem.W.nsIn K mainGlobals "zip" = some none
abbrev Fc141 (K : PySem.W.Frag) : Prop := PySem.W.nsIn K mainGlobals "sorted" = some none
abbrev Fc142 (K : PySem.W.Frag) : Prop := PySem.W.nsIn K mainGlobals "super" = some none
abbrev Fc143 (K : PySem.W.Frag) : Prop := PySem.W.nsIn K mainGlobals "bool" = some none
abbrev Fc144 (K : PySem.W.Frag) : Prop := PySem.W.nsIn K mainGlobals "abs" = some none
abbrev Fc145 (K : PySem.W.Frag) : Prop := PySem.W.nsIn K mainGlobals "repr" = some none
def ck : List (PySem.W.Frag → Bool) := [fun K => decide (Fc0 K), fun K => decide (Fc1 K), fun K => decide (Fc2 K), fun K => decide (Fc3 K), fun K => decide (Fc4 K), fun K => decide (Fc5 K), fun K => decide (Fc6 K), fun K => decide (Fc7 K), fun K => decide (Fc8 K), fun K => decide (Fc9 K), fun K => decide (Fc10 K), fun K => decide (Fc11 K), fun K => decide (Fc12 K), fun K => decide (Fc13 K), fun K => decide (Fc14 K), fun K => decide (Fc15 K), fun K => decide (Fc16 K), fun K => decide (Fc17 K), fun K => decide (Fc18 K), fun K => decide (Fc19 K), fun K => decide (Fc20 K), fun K => decide (Fc21 K), fun K => decide (Fc22 K), fun K => decide (Fc23 K), fun K => decide (Fc24 K), fun K => decide (Fc25 K), fun K => decide (Fc26 K), fun K => decide (Fc27 K), fun K => decide (Fc28 K), fun K => decide (Fc29 K), fun K => decide (Fc30 K), fun K => decide (Fc31 K), fun K => decide (Fc32 K), fun K => decide (Fc33 K), fun K => decide (Fc34 K), fun K => decide (Fc35 K), fun K => decide (Fc36 K), fun K => decide (Fc37 K), fun K => decide (Fc38 K), fun K => decide (Fc39 K), fun K => decide (Fc40 K), fun K => decide (Fc41 K), fun K => decide (Fc42 K), fun K => decide (Fc43 K), fun K => decide (Fc44 K), fun K => decide (Fc45 K), fun K => decide (Fc46 K), fun K => decide (Fc47 K), fun K => decide (Fc48 K), fun K => decide (Fc49 K), fun K => decide (Fc50 K), fun K => decide (Fc51 K), fun K => decide (Fc52 K), fun K => decide (Fc53 K), fun K => decide (Fc54 K), fun K => decide (Fc55 K), fun K => decide (Fc56 K), fun K => decide (Fc57 K), fun K => decide (Fc58 K), fun K => decide (Fc59 K), fun K => decide (Fc60 K), fun K => decide (Fc61 K), fun K => decide (Fc62 K), fun K => decide (Fc63 K), fun K => decide (Fc64 K), fun K => decide (Fc65 K), fun K => decide (Fc66 K), fun K => decide (Fc67 K), fun K => decide (Fc68 K), fun K => decide (Fc69 K), fun K => decide (Fc70 K), fun K => decide (Fc71 K), fun K => decide (Fc72 K), fun K => decide (Fc73 K), fun K => decide (Fc74 K), fun K => decide (Fc75 K), fun K => decide (Fc76 K), fun K => decide (Fc77 K), fun K => decide (Fc78 K), fun K => decide (Fc79 K), fun K => decide (Fc80 K), fun K => decide (Fc81 K), fun K => decide (Fc82 K), fun K => decide (Fc83 K), fun K => decide (Fc84 K), fun K => decide (Fc85 K), fun K => decide (Fc86 K), fun K => decide (Fc87 K), fun K => decide (Fc88 K), fun K => decide (Fc89 K), fun K => decide (Fc90 K), fun K => decide (Fc91 K), fun K => decide (Fc92 K), fun K => decide (Fc93 K), fun K => decide (Fc94 K), fun K => decide (Fc95 K), fun K => decide (Fc96 K), fun K => decide (Fc97 K), fun K => decide (Fc98 K), fun K => decide (Fc99 K), fun K => decide (Fc100 K), fun K => decide (Fc101 K), fun K => decide (Fc102 K), fun K => decide (Fc103 K), fun K => decide (Fc104 K), fun K => decide (Fc105 K), fun K => decide (Fc106 K), fun K => decide (Fc107 K), fun K => decide (Fc108 K), fun K => decide (Fc109 K), fun K => decide (Fc110 K), fun K => decide (Fc111 K), fun K => decide (Fc112 K), fun K => decide (Fc113 K), fun K => decide (Fc114 K), fun K => decide (Fc115 K), fun K => decide (Fc116 K), fun K => decide (Fc117 K), fun K => decide (Fc118 K), fun K => decide (Fc119 K), fun K => decide (Fc120 K), fun K => decide (Fc121 K), fun K => decide (Fc122 K), fun K => decide (Fc123 K), fun K => decide (Fc124 K), fun K => decide (Fc125 K), fun K => decide (Fc126 K), fun K => decide (Fc127 K), fun K => decide (Fc128 K), fun K => decide (Fc129 K), fun K => decide (Fc130 K), fun K => decide (Fc131 K), fun K => decide (Fc132 K), fun K => decide (Fc133 K), fun K => decide (Fc134 K), fun K => decide (Fc135 K), fun K => decide (Fc136 K), fun K => decide (Fc137 K), fun K => decide (Fc138 K), fun K => decide (Fc139 K), fun K => decide (Fc140 K), fun K => decide (Fc141 K), fun K => decide (Fc142 K), fun K => decide (Fc143 K), fun K => decide (Fc144 K), fun K => decide (Fc145 K)]
def fn : List He.DefD := [gD "is_whole" (top 5),
  gD "is_word" (top 6),
  gD "is_name" (top 7),
  gD "are_different_words" (top 8),
  gD "are_names" (top 9),
  gD "is_net_map" (top 10),
  gD "value_of" (top 22),
  gD "_as_rule" (top 36),
  gD "_are_groups" (top 37),
  gD "_mates" (top 38),
  gD "_orders" (top 39),
  gD "_path_line" (top 40),
  gD "_worded" (top 41),
  gD "_fitting" (top 44),
  gD "_law_draws" (top 46),
  gD "_law_draw" (top 47),
  gD "_law_kinds" (top 48),
  gD "_law_part" (top 49),
  gD "_law_error" (top 50),
  gD "_law_is" (top 51),
  gD "_law_set_right" (top 52),
  gD "law" (top 53),
  mD "ValueRule" "__init__" "ValueRule.__init__" (inClass (top 25) 0),
  mD "Kind" "__init__" "Kind.__init__" (inClass (top 30) 1),
  mD "Kind" "__eq__" "Kind.__eq__" (inClass (top 30) 5),
  mD "Ratio" "__eq__" "Ratio.__eq__" (inClass (top 21) 11),
  mD "Ratio" "__ne__" "Ratio.__ne__" (inClass (top 21) 12),
  mD "Part" "__init__" "Part.__init__" (inClass (top 43) 0),
  mD "Part" "set_value" "Part.set_value" (inClass (top 43) 5),
  mD "Part" "set_nets" "Part.set_nets" (inClass (top 43) 6),
  mD "Part" "seats" "Part.seats" (inClass (top 43) 7),
  mD "Part" "copied" "Part.copied" (inClass (top 43) 8),
  mD "Part" "moved" "Part.moved" (inClass (top 43) 9),
  mD "Part" "__getitem__" "Part.__getitem__" (inClass (top 43) 10),
  mD "Part" "__setitem__" "Part.__setitem__" (inClass (top 43) 11),
  mD "Part" "__len__" "Part.__len__" (inClass (top 43) 13),
  mD "Part" "__eq__" "Part.__eq__" (inClass (top 43) 14),
  mD "Part" "_index_of" "Part._index_of" (inClass (top 43) 15),
  mD "InvalidKind" "__init__" "InvalidKind.__init__" (inClass (top 13) 0),
  mD "InvalidName" "__init__" "InvalidName.__init__" (inClass (top 14) 0),
  mD "InvalidPins" "__init__" "InvalidPins.__init__" (inClass (top 16) 0),
  mD "NotPositive" "__init__" "NotPositive.__init__" (inClass (top 17) 0),
  mD "InvalidNumber" "__init__" "InvalidNumber.__init__" (inClass (top 15) 0),
  mD "UnknownName" "__init__" "UnknownName.__init__" (inClass (top 18) 0),
  mD "NoDivision" "__init__" "NoDivision.__init__" (inClass (top 19) 0),
  ⟨("Ratio", some "__init__"), "__init__", "Ratio.__init__", defArgs (inClass (top 21) 0), defBody (inClass (top 21) 0), defScope (inClass (top 21) 0), [.int 1], []⟩]
def PFILE : Str := (PySem.Challenge.rw_wishedwires_k05_parts_kept).prog.main.file
def sn : List DefS := [⟨("PinKind", some "__init__"), "__init__", "PinKind.__init__", defArgs (inClass (top 31) 0), defBody (inClass (top 31) 0), defScope (inClass (top 31) 0), [("swaps", false)], "PinKind", PFILE⟩,
  ⟨("PathKind", some "__init__"), "__init__", "PathKind.__init__", defArgs (inClass (top 32) 0), defBody (inClass (top 32) 0), defScope (inClass (top 32) 0), [], "PathKind", PFILE⟩,
  ⟨("JoiningKind", some "__init__"), "__init__", "JoiningKind.__init__", defArgs (inClass (top 34) 0), defBody (inClass (top 34) 0), defScope (inClass (top 34) 0), [("row", true), ("side", true)], "JoiningKind", PFILE⟩]
def pn : List DefP := [⟨fun K => pgX K "Kind" "text", "text", "Kind.text", defArgs (inClass (top 30) 4), defBody (inClass (top 30) 4), defScope (inClass (top 30) 4)⟩,
  ⟨fun K => pgX K "Part" "value", "value", "Part.value", defArgs (inClass (top 43) 1), defBody (inClass (top 43) 1), defScope (inClass (top 43) 1)⟩,
  ⟨fun K => pgX K "Part" "nets", "nets", "Part.nets", defArgs (inClass (top 43) 3), defBody (inClass (top 43) 3), defScope (inClass (top 43) 3)⟩]
abbrev RW0 : PySem.W.OpenRow := PySem.W.OpenLaw.row PySem.Challenge.rw_wishedwires_k05_parts_kept
def names : List PySem.Str := (["gcd", "_wall", "WORD_SIGNS", "NAME_WORDS", "is_whole", "is_word", "is_name", "are_different_words", "are_names", "is_net_map", "WireError", "InvalidKind", "InvalidName", "InvalidNumber", "InvalidPins", "NotPositive", "UnknownName", "NoDivision", "Ratio", "value_of", "_as_ratio", "ValueRule", "_total", "MOST_PINS", "MOST_CONTROLS", "Kind", "PinKind", "PathKind", "DirectedKind", "JoiningKind"] : List PySem.Str) ++ (["DirectedJoiningKind", "_as_rule", "_are_groups", "_mates", "_orders", "_path_line", "_worded", "Part", "_fitting", "_law_draws", "_law_draw", "_law_kinds", "_law_part", "_law_error", "_law_is", "_law_set_right"] : List PySem.Str)
def as : List Addr := 3 :: 2 :: List.range' 11 889
abbrev hk : PySem.W.Hook := hookS as ck fn sn pn
def ob (s : PySem.W.SharedT) : AlS := obS as ck fn sn pn s
theorem ob_eq (s : PySem.W.SharedT) : ob s = hk.obs s.abs := obS_eq as ck fn sn pn s
theorem run (w : World) : HdI.RunI RW0 (PySem.W.view RW0.prog [53]) hk ob 3000 20000 names w := by
  unfold HdI.RunI; kernel_rfl
end R5
end

-- RatMath
section
namespace RatM
/-- the divisor that Ratio's __init__ takes: the gcd with the bottom's sign -/
def cmn (t b : Int) : Int := if b > 0 then (Nat.gcd t.natAbs b.natAbs : Int) else -(Nat.gcd t.natAbs b.natAbs : Int)
def nt (t b : Int) : Int := t.fdiv (cmn t b)
def nb (t b : Int) : Int := b.fdiv (cmn t b)

theorem gpos {t b : Int} (h : b ≠ 0) : 0 < Nat.gcd t.natAbs b.natAbs := Nat.gcd_pos_of_pos_right _ (by omega)
theorem cmn_ne {t b : Int} (h : b ≠ 0) : cmn t b ≠ 0 := by
  have := gpos (t := t) h
  unfold cmn
  split <;> omega
theorem cmn_scale {t b k : Int} (hb : b ≠ 0) (hk : k ≠ 0) : cmn (t * k) (b * k) = cmn t b * k := by
  unfold cmn
  rw [Int.natAbs_mul, Int.natAbs_mul, Nat.gcd_mul_right, Int.natCast_mul]
  rcases Int.lt_or_gt_of_ne hk with h | h
  · have e : ((k.natAbs : Nat) : Int) = -k := by omega
    rw [e]
    rcases Int.lt_or_gt_of_ne hb with h2 | h2
    · rw [if_pos (show b * k > 0 from Int.mul_pos_of_neg_of_neg h2 h), if_neg (show ¬ b > 0 by omega), Int.mul_neg, Int.neg_mul]
    · rw [if_neg (show ¬ b * k > 0 from by have := Int.mul_neg_of_pos_of_neg h2 h; omega), if_pos (show b > 0 by omega), Int.mul_neg, Int.neg_neg]
  · have e : ((k.natAbs : Nat) : Int) = k := by omega
    rw [e]
    rcases Int.lt_or_gt_of_ne hb with h2 | h2
    · rw [if_neg (show ¬ b * k > 0 from by have := Int.mul_neg_of_neg_of_pos h2 h; omega), if_neg (show ¬ b > 0 by omega), Int.neg_mul]
    · rw [if_pos (show b * k > 0 from Int.mul_pos h2 h), if_pos (show b > 0 by omega)]
theorem cmn_dvd_t (t b : Int) : cmn t b ∣ t := by
  have h : ((Nat.gcd t.natAbs b.natAbs : Nat) : Int) ∣ t := Int.dvd_natAbs.mp (Int.natCast_dvd_natCast.mpr (Nat.gcd_dvd_left _ _))
  unfold cmn
  split
  · exact h
  · exact Int.neg_dvd.mpr h
theorem cmn_dvd_b (t b : Int) : cmn t b ∣ b := by
  have h : ((Nat.gcd t.natAbs b.natAbs : Nat) : Int) ∣ b := Int.dvd_natAbs.mp (Int.natCast_dvd_natCast.mpr (Nat.gcd_dvd_right _ _))
  unfold cmn
  split
  · exact h
  · exact Int.neg_dvd.mpr h
theorem nt_mul {t b : Int} : nt t b * cmn t b = t := Int.fdiv_mul_cancel (cmn_dvd_t t b)
theorem nb_mul {t b : Int} : nb t b * cmn t b = b := Int.fdiv_mul_cancel (cmn_dvd_b t b)
theorem nb_pos {t b : Int} (h : b ≠ 0) : 0 < nb t b := by
  have e := nb_mul (t := t) (b := b)
  have g := gpos (t := t) h
  have hc : cmn t b = if b > 0 then (Nat.gcd t.natAbs b.natAbs : Int) else -(Nat.gcd t.natAbs b.natAbs : Int) := rfl
  rcases Int.lt_trichotomy (nb t b) 0 with h1 | h1 | h1
  · exfalso
    split at hc
    · have := Int.mul_neg_of_neg_of_pos h1 (show 0 < cmn t b by omega); omega
    · have := Int.mul_pos_of_neg_of_neg h1 (show cmn t b < 0 by omega); omega
  · rw [h1, Int.zero_mul] at e; omega
  · exact h1
theorem nt_scale {t b k : Int} (hb : b ≠ 0) (hk : k ≠ 0) : nt (t * k) (b * k) = nt t b := by
  have e : t * k = nt t b * (cmn t b * k) := by rw [← Int.mul_assoc, nt_mul]
  show (t * k).fdiv (cmn (t * k) (b * k)) = nt t b
  rw [cmn_scale hb hk, e]
  exact Int.mul_fdiv_cancel _ (Int.mul_ne_zero (cmn_ne hb) hk)
theorem nb_scale {t b k : Int} (hb : b ≠ 0) (hk : k ≠ 0) : nb (t * k) (b * k) = nb t b := by
  have e : b * k = nb t b * (cmn t b * k) := by rw [← Int.mul_assoc, nb_mul]
  show (b * k).fdiv (cmn (t * k) (b * k)) = nb t b
  rw [cmn_scale hb hk, e]
  exact Int.mul_fdiv_cancel _ (Int.mul_ne_zero (cmn_ne hb) hk)
/-- pairs that are in proportion have one normal form -/
theorem nrm_of {t b t' b' k k' : Int} (hb : b ≠ 0) (hb' : b' ≠ 0) (hk : k ≠ 0) (hk' : k' ≠ 0) (e1 : t * k = t' * k') (e2 : b * k = b' * k') : nt t b = nt t' b' ∧ nb t b = nb t' b' := by
  refine ⟨?_, ?_⟩
  · rw [← nt_scale hb hk, e1, e2, nt_scale hb' hk']
  · rw [← nb_scale hb hk, e1, e2, nb_scale hb' hk']
theorem nrm_cross {t b t' b' : Int} (hb : b ≠ 0) (hb' : b' ≠ 0) (e : t * b' = t' * b) : nt t b = nt t' b' ∧ nb t b = nb t' b' :=
  nrm_of hb hb' hb' hb e (Int.mul_comm b b')
theorem nrm_id {t b : Int} (hb : b ≠ 0) : nt (nt t b) (nb t b) = nt t b ∧ nb (nt t b) (nb t b) = nb t b := by
  have p := nb_pos (t := t) hb
  have h := nrm_of (t := nt t b) (b := nb t b) (t' := t) (b' := b) (k := cmn t b) (k' := 1) (by omega) hb (cmn_ne hb) (by decide) (by rw [nt_mul, Int.mul_one]) (by rw [nb_mul, Int.mul_one])
  exact h
/-- equal normal forms are pairs in proportion -/
theorem cross_of {t b t' b' : Int} (e1 : nt t b = nt t' b') (e2 : nb t b = nb t' b') : t * b' = t' * b := by
  have a := nt_mul (t := t) (b := b); have c := nb_mul (t := t) (b := b)
  have a' := nt_mul (t := t') (b := b'); have c' := nb_mul (t := t') (b := b')
  rw [e1] at a
  rw [e2] at c
  generalize nt t' b' = x at a a'
  generalize nb t' b' = y at c c'
  generalize cmn t b = g at a c
  generalize cmn t' b' = g' at a' c'
  rw [← a, ← c', ← a', ← c]
  simp only [Int.mul_assoc, Int.mul_left_comm, Int.mul_comm]
theorem natAbs_le_mul {x y : Int} (hy : y ≠ 0) : x.natAbs ≤ (x * y).natAbs := by
  rw [Int.natAbs_mul]
  exact Nat.le_mul_of_pos_right _ (by omega)
theorem nt_le {t b : Int} (hb : b ≠ 0) : (nt t b).natAbs ≤ t.natAbs := by
  have h := natAbs_le_mul (x := nt t b) (cmn_ne (t := t) hb)
  rwa [nt_mul] at h
theorem nb_le {t b : Int} (hb : b ≠ 0) : (nb t b).natAbs ≤ b.natAbs := by
  have h := natAbs_le_mul (x := nb t b) (cmn_ne (t := t) hb)
  rwa [nb_mul] at h
theorem cmn_le {t b : Int} (hb : b ≠ 0) : (cmn t b).natAbs ≤ b.natAbs := by
  have p := nb_pos (t := t) hb
  have h := natAbs_le_mul (x := cmn t b) (y := nb t b) (by omega)
  rwa [Int.mul_comm, nb_mul] at h
theorem nt_one (t : Int) : nt t 1 = t ∧ nb t 1 = 1 := by
  have c : cmn t 1 = 1 := by
    unfold cmn
    rw [if_pos (by decide), show (1 : Int).natAbs = 1 from rfl, Nat.gcd_one_right]
    rfl
  exact ⟨by show t.fdiv (cmn t 1) = t; rw [c, Int.fdiv_one], by show (1 : Int).fdiv (cmn t 1) = 1; rw [c, Int.fdiv_one]⟩
end RatM
end

-- TupIn
section
set_option Elab.async false
set_option linter.all false
set_option maxRecDepth 100000
/-! x not in (a, b, ..), where no item is equal to x and the asking may make objects. -/
namespace OwnNe
open PySem PySem.SeqAt GQ L2 OwnOps
open AutoSeq1 (wpAny_loadPart')
open MeetsSeq MeetsSeq2 MeetsSeq3 SeqRoads2
section
variable {prog : Program} {w : World} {A : Around} {E : Value → Shared → Prop}
/-- no item is equal to x; J: what stands before the i-th is asked -/
theorem tup_containsJ (l : Addr) (items : Array Value) (n : Nat) (dd : Option Addr) (sl : Array (Option Value)) (x : Value) (J : Nat → Shared → Prop) (R : Result → Shared → Prop)
    (step : ∀ (i : Nat) (y : Value) (s : Shared), items.toList[i]? = some y → J i s → wpAny (model prog w) A.in1 (eqBool y x) (fun q s' => q = false ∧ J (i + 1) s') (fun e s' => R (.error e) s') s)
    (many : ∀ i, items.size ≤ i → ∀ s, J i s → J items.size s) (fin : ∀ s, J items.size s → R (.ok (.ret (.bool false))) s) {s : Shared} (hl : s.heap.get? l = some { cls := .type "tuple", dict := dd, data := .seq items n, slots := sl }) (h : J 0 s) :
    wpAny (model prog w) A.in1 (Builtin.«tuple.__contains__» ⟨[.ref l, x], []⟩) (FinOf prog w A R) (fun e s' => R (.error e) s') s := by
  refine wpAny_mono (Q := fun fin s' => ∃ v, fin = .done (.ret v) ∧ R (.ok (.ret v)) s') ?_ (fun fin s' h' => by obtain ⟨v, rfl, hv⟩ := h'; exact hv) fun _ _ x => x
  obtain ⟨hp, g, d, tk, os⟩ := s
  wp_walk using wpAny_loadPart' hl, wpAny_forIn_array _ (fun rest (b : Option Fin × Unit) s' => b.1 = none ∧ ∃ i : Nat, rest = items.toList.drop i ∧ J i s') _
  case turn =>
    rintro y rest b s' ⟨hb, i, hr, hJ⟩
    have hi : items.toList[i]? = some y := by
      rw [← List.head?_drop, ← hr]
      rfl
    refine wpAny_bind (wpAny_mono (step i y s' hi hJ) (fun q s2 hq => ?_) fun _ _ x => x)
    obtain ⟨rfl, hq⟩ := hq
    wp_walk
    refine ⟨rfl, i + 1, ?_, hq⟩
    have := congrArg List.tail hr
    rw [List.tail_drop] at this
    exact this
  case fin =>
    rintro ⟨b1, b2⟩ s' ⟨hb, i, hr, hJ⟩
    simp only at hb
    subst hb
    have hl' : items.size ≤ i := by
      have := congrArg List.length hr
      rw [List.length_drop] at this
      simp at this
      omega
    obtain ⟨hp, g, d, tk, os⟩ := s'
    wp_walk
    exact ⟨_, rfl, fin _ (many i hl' _ hJ)⟩
  case h =>
    exact ⟨rfl, 0, rfl, h⟩
theorem str_cmp_eq {z : Str} {t : Tok} {y : Addr} {oy : Obj} {s : Shared} {Q : Value → Shared → Prop} (hy : s.heap.get? y = some oy) (hp : oy.data = .plain) (h : Q .notImplemented s) :
    wpAny (model prog w) A (call (.builtin "str.__eq__") [.str z t, .ref y]) Q E s := by
  refine GQ.call_here F.slot_str_eq (typeIs_str s z t) F.entry_str_eq (F.args_str_eq_2 _ _) ?_
  obtain ⟨c, dd, dt, sl⟩ := oy
  cases hp
  obtain ⟨hh, gg, d, tt, os⟩ := s
  wp_walk using wpAny_loadPart' hy
  exact h
theorem str_refl {K : PySem.W.Frag} {y C g : Addr} {oy : Obj} {od : Option Obj} {z : Str} {t : Tok} {s : Shared} {Q : Value → Shared → Prop} (hu : A.units < cLine) (Y : K.In s.heap) (I : PySem.W.InstAt s.heap y oy C od) (hp : oy.data = .plain)
    (hsub : PySem.W.subIn K (.ref C) (.type "str") = some false) (hr : PySem.W.findIn K (.ref C) "__eq__" = some (some (.ref g))) (hg : PySem.W.isFn K (.ref g) = true)
    (h : wpAny (model prog w) A (call (.ref g) [.ref y, .str z t]) (PySem.W.CmpBack Q) E s) : wpAny (model prog w) A (richCompare .Eq (.str z t) (.ref y)) Q E s := by
  have one : wpAny (model prog w) A (tryCompare (.ref y) (cmpInfo .Eq).2.2 (.str z t)) (fun r s' => ∃ v, r = some v ∧ Q v s') E s := by
    unfold tryCompare
    refine wpAny_bind (PySem.W.ifBound_K Y I hr hg (wpAny_mono h (fun v s' hv => ?_) fun _ _ e => e))
    cases v <;> first | exact hv.elim | exact wpAny_pure ⟨_, rfl, hv⟩
  have h1 : oneThing? .Eq (.str z t) (.ref y) = none := rfl
  have hne : (Value.type "str" != Value.ref C) = true := rfl
  unfold richCompare
  simp only [h1]
  refine wpAny_holding (wpAny_bind (wpAny_cRoomFor hu ?_))
  refine wpAny_bind ((PySem.W.Looks.of_pure rfl : PySem.W.Looks (model prog w) s.heap (typeOf (.str z t)) (.type "str")).here (wpAny_bind (I.type.here ?_)))
  rw [hne]
  simp only [if_true]
  refine wpAny_bind ((PySem.W.looks_subIn Y hsub).here ?_)
  simp only [Bool.false_eq_true, if_false]
  refine wpAny_bind (wpAny_tryCompare_declines (typeIs_str _ _ _) F.slot_str_eq (str_cmp_eq I.at_ hp ⟨rfl, ?_⟩))
  simp only [Bool.not_false, if_true]
  refine wpAny_bind (wpAny_mono one (fun r s' z => ?_) fun _ _ e => e)
  obtain ⟨v, rfl, hq⟩ := z
  exact wpAny_pure hq
theorem eqBool_rs {z : Str} {tk : Tok} {l : Addr} {s : Shared} {Q : Bool → Shared → Prop}
    (h : wpAny (model prog w) A (richCompare .Eq (.str z tk) (.ref l)) (fun x s' => ∃ r, x = .bool r ∧ Q r s') E s) : wpAny (model prog w) A (eqBool (.str z tk) (.ref l)) Q E s := by
  unfold eqBool
  refine wpAny_holding (wpAny_ite_split (fun z => by cases (beq_iff_eq.mp z)) fun _ => wpAny_bind (wpAny_mono h ?_ fun _ _ x => x))
  rintro x s' ⟨r, rfl, q⟩
  exact wpAny_truthy_bool q
end
/-- x not in a tuple, none of whose items is equal to x -/
def rNotInB (D : V → V → Hp → Bool → Prop) : R2 := fun x y H Q => ∃ p xs, y = .ref p ∧ H p = some (.tup xs) ∧ (∀ z ∈ xs, D z x H false) ∧ ∀ H', Ext H H' → Q (.bl true) H'
theorem op_notInB {X : Cx} {n : Nat} {D : V → V → Hp → Bool → Prop} (hD : ∀ x y H H' b, Ext H H' → D x y H b → D x y H' b) (h : EqB X n D) (hr : Room (n + 1) X.A) : OpR X (compareOp .NotIn) (rNotInB D) := by
  intro pins s σ H x y v u Q I rx ry hq
  obtain ⟨p, xs, rfl, hp, hd, q⟩ := hq
  cases ry
  have sb : Sub X (n + 1) X.A := ⟨hr, rfl⟩
  obtain ⟨hz, its, rr, ho⟩ := (show ObjOk X.prog X.w H s.heap p (.tup xs) from I.hok p _ hp)
  obtain ⟨⟨cls, dd, data, sl⟩, ho, hc, k, hdat⟩ := ho
  simp only at hc hdat
  subst hc hdat
  show wpAny _ X.A (do return .bool (!(← contains (.ref p) v))) (EP X pins σ Q) X.xe s
  refine wpAny_bind (wpAny_contains_slot ⟨_, ho, rfl⟩ F.slot_tuple_contains (wpAny_mono (Q := fun c s' => c = .bool false ∧ LoopI X pins σ H s') (GQ.call_here F.slot_tuple_contains ⟨_, ho, rfl⟩ F.entry_tuple_contains (F.args_tuple_contains_2 _ _) ?_) (fun c s' hc => ?_) fun _ _ e => e))
  · refine tup_containsJ (R := wants (fun c s' => c = .bool false ∧ LoopI X pins σ H s') X.xe) p its.toArray k dd sl v (fun _ s' => LoopI X pins σ H s') (fun i u s' hi hJ => ?_) (fun _ _ s' j => j) (fun s' j => ⟨rfl, j⟩) ho ⟨H, I, Ext.rfl'⟩
    obtain ⟨H1, I1, e1⟩ := hJ
    have hi : its[i]? = some u := by simpa using hi
    obtain ⟨y, hy, ru⟩ : ∃ y, xs[i]? = some y ∧ RelV y u := by
      have lt : i < xs.length := by rw [rr.length]; exact (List.getElem?_eq_some_iff.mp hi).1
      obtain ⟨u', hu', ru⟩ := rr.get (List.getElem?_eq_getElem lt)
      rw [hi] at hu'
      cases hu'
      exact ⟨_, List.getElem?_eq_getElem lt, ru⟩
    refine wpAny_mono (h X.A.in1 pins s' σ H1 _ _ u v _ sb.in1 I1 ru rx (hD _ _ _ _ _ e1 (hd y (List.mem_of_getElem? hy)))) (fun r' s2 q' => ?_) fun _ _ x => x
    obtain ⟨hr', H2, I2, e2'⟩ := q'
    exact ⟨hr', H2, I2, e1.trans e2'⟩
  · obtain ⟨rfl, H', I', e⟩ := hc
    exact wpAny_truthy_bool (wpAny_pure ⟨.bl true, H', I', rfl, q H' e⟩)
end OwnNe
end

-- L5q
section
set_option Elab.async false
set_option linter.all false
set_option maxRecDepth 100000
set_option exponentiation.threshold 10000
namespace R5r
open PySem L2 OwnOps RatM OwnNe G1
/-! ### 1. the text by places -/
def top (i : Nat) : Stmt := PySem.Challenge.pw_wishedwires_k05_parts_kept.main.body.getD i (.Pass ⟨0, 0, 0, 0⟩)
abbrev sWhole : Stmt := top 5
abbrev sRat (j : Nat) : Stmt := inClass (top 21) j
abbrev sAs : Stmt := top 23
/-! ### 2. what the written part holds -/
abbrev veT : List Value := [.type "ValueError", .type "Exception", .type "BaseException", .type "object"]
abbrev zdT : List Value := [.type "ZeroDivisionError", .type "ArithmeticError", .type "Exception", .type "BaseException", .type "object"]
structure Txt (K : PySem.W.Frag) (mg : Str → Option Value) (C CI fCI CZ fCZ : Addr) : Prop where
  cl : Cls K C
  nT : NoAttr K C "top"
  nB : NoAttr K C "bottom"
  gC : mg "Ratio" = some (.ref C)
  eI : PySem.Giv.ErrTxt K mg "InvalidNumber" "InvalidNumber.__init__" "ValueError.__new__" veT CI fCI
  eZ : PySem.Giv.ErrTxt K mg "NoDivision" "NoDivision.__init__" "ZeroDivisionError.__new__" zdT CZ fCZ
  ha : PySem.W.findIn K (.ref C) "__class__" = some (some (.builtin "object.__class__"))
  hn : PySem.W.specialIn K (.builtin "object.__class__") "__get__" = some (some (.builtin "getset_descriptor.__get__"))
  htk : PySem.W.takesIn K (.builtin "object.__class__") = some true
  hm : PySem.W.mroIn K C (.type "object") = some true
  kCC : PySem.W.kitOne K (.ref C) (.ref C) = some true
  kCi : PySem.W.kitOne K (.ref C) (.type "int") = some false
  kiC : PySem.W.kitOne K (.type "int") (.ref C) = some false
  kbC : PySem.W.kitOne K (.type "bool") (.ref C) = some false
  knC : PySem.W.kitOne K (.type "NoneType") (.ref C) = some false
  ksC : PySem.W.kitOne K (.type "str") (.ref C) = some false
  klC : PySem.W.kitOne K (.type "list") (.ref C) = some false
  ktC : PySem.W.kitOne K (.type "tuple") (.ref C) = some false
  isi : mg "isinstance" = none
  int : mg "int" = none
  bool : mg "bool" = none
  abs : mg "abs" = none
  str : mg "str" = none
  repr : mg "repr" = none
  gcd : mg "gcd" = some (.builtin "math.gcd")
/-- the values that are met where a number is wanted -/
inductive Kd (C : Addr) (H : Hp) : V → Prop
  | int (i : Int) : Kd C H (.int i)
  | bl (b : Bool) : Kd C H (.bl b)
  | non : Kd C H .non
  | str (x : Str) : Kd C H (.str x)
  | ins {a dx : Addr} {fs : List (Str × V)} (e : H a = some (.ins C dx fs)) : Kd C H (.ref a)
  | lst {a : Addr} {xs : List V} (e : H a = some (.lst xs)) : Kd C H (.ref a)
  | tup {a : Addr} {xs : List V} (e : H a = some (.tup xs)) : Kd C H (.ref a)
def isW : V → Bool
  | .int _ => true
  | _ => false
/-- an instance of Ratio with these two -/
def flds (t b : Int) : List (Str × V) := putF "bottom" (.int b) (putF "top" (.int t) [])
theorem tb : ¬ (("top" : Str) = "bottom") := by decide +kernel
theorem flds_eq (t b : Int) : flds t b = ([("top", V.int t), ("bottom", V.int b)] : List (Str × V)) := by
  show (if ("top" : Str) = "bottom" then [(("top" : Str), V.int b)] else (("top" : Str), V.int t) :: putF "bottom" (V.int b) []) = ([("top", V.int t), ("bottom", V.int b)] : List (Str × V))
  rw [if_neg tb]
  all_goals rfl
theorem flds_top (t b : Int) : (flds t b).lookup ("top" : Str) = some (.int t) := by
  unfold flds
  rw [lookup_putF, if_neg tb, lookup_putF, if_pos rfl]
theorem flds_bot (t b : Int) : (flds t b).lookup ("bottom" : Str) = some (.int b) := by
  unfold flds
  rw [lookup_putF, if_pos rfl]
theorem flds_no (t b : Int) {m : Str} (h1 : ¬ m = "bottom") (h2 : ¬ m = "top") : (flds t b).lookup m = none := by
  unfold flds
  rw [lookup_putF, if_neg h1, lookup_putF, if_neg h2]
  all_goals rfl
def Rat (C : Addr) (H : Hp) (p : Addr) (t b : Int) : Prop := ∃ dx, H p = some (.ins C dx (flds t b))
theorem Rat.same {C : Addr} {H H' : Hp} {p : Addr} {t b : Int} (r : Rat C H p t b) (e : Same H H') : Rat C H' p t b := let ⟨dx, h⟩ := r; ⟨dx, e _ _ h⟩
/-- what may be told of a number -/
def Sm (n : Nat) (x : Int) : Prop := x.natAbs < 2 ^ n

section
variable {P : Program} {w : World} {K : PySem.W.Frag} {mg : Str → Option Value} {base : Heap} {C CI fCI CZ fCZ : Addr}
/-! ### 3. is_whole -/
def spWhole (C : Addr) : Sp := fun vs H Q _ => ∃ v, vs = [v] ∧ Kd C H v ∧ Q (.bl (isW v)) H
theorem scW : FnScope ["value"] ["value"] (defScope sWhole) := ⟨rfl, rfl, rfl, by decide +kernel, rfl, by decide +kernel, by decide +kernel⟩
theorem ok_whole {f : Addr} {fd : FuncData} (F : Fun K "is_whole" "is_whole" sWhole f fd) (T : Txt K mg C CI fCI CZ fCZ) : FnOk P w K mg base (L2.CX P w) 1 f fd ["value"] (spWhole C) := by
  refine F.okX scW (fun vs H Q E h => ?_) (fun cdv A outer s H vs Q E hr h => ?_)
  · obtain ⟨v, rfl, _⟩ := h
    rfl
  · obtain ⟨v, rfl, kd, k⟩ := h
    refine ⟨_, pss_one (ps_ret (pe_and (pe_callB call_isi (by rfl) T.isi (by decide +kernel) (pa_cons (pv 0) (pa_cons (pe_bltn (v := .ty "int") (by rfl) T.int (by decide +kernel) rfl) pa_nil)))
      (pe_one (pe_not (pe_callB call_isi (by rfl) T.isi (by decide +kernel) (pa_cons (pv 0) (pa_cons (pe_bltn (v := .ty "bool") (by rfl) T.bool (by decide +kernel) rfl) pa_nil))))))), ?_⟩
    cases kd with
    | int i => exact ⟨_, rfl, _, _, _, _, _, rfl, .ty _, .base (.int i), kit_ty (by decide +kernel), _, rfl, iteT ⟨_, rfl, _, _, _, _, _, rfl, .ty _, .base (.int i), kit_ty (r := false) (by decide +kernel), _, rfl, k⟩⟩
    | bl b => exact ⟨_, rfl, _, _, _, _, _, rfl, .ty _, .base (.bl b), kit_ty (by decide +kernel), _, rfl, iteT ⟨_, rfl, _, _, _, _, _, rfl, .ty _, .base (.bl b), kit_ty (r := true) (by decide +kernel), _, rfl, k⟩⟩
    | non => exact ⟨_, rfl, _, _, _, _, _, rfl, .ty _, .base .non, kit_ty (by decide +kernel), _, rfl, iteF k⟩
    | str x => exact ⟨_, rfl, _, _, _, _, _, rfl, .ty _, .base (.str x), kit_ty (by decide +kernel), _, rfl, iteF k⟩
    | ins e => exact ⟨_, rfl, _, _, _, _, _, rfl, .ty _, .base (.ins e T.cl T.ha T.hn T.htk T.hm), T.kCi, _, rfl, iteF k⟩
    | lst e => exact ⟨_, rfl, _, _, _, _, _, rfl, .ty _, .base (.lst e), kit_ty (by decide +kernel), _, rfl, iteF k⟩
    | tup e => exact ⟨_, rfl, _, _, _, _, _, rfl, .ty _, .base (.tup e), kit_ty (by decide +kernel), _, rfl, iteF k⟩

theorem if_pos' {c : Bool} {A B : Prop} (hc : c = true) (h : A) : if c = true then A else B := by
  rw [if_pos hc]
  exact h
theorem if_neg' {c : Bool} {A B : Prop} (hc : c = false) (h : B) : if c = true then A else B := by
  rw [hc, if_neg Bool.false_ne_true]
  exact h
/-! ### 4. __init__ -/
def CDivG (_ j : Int) : Prop := j ≠ 0 ∧ j.natAbs.log2 < 9000
theorem op_fdivG {X : Cx} : OpR X (binaryOp .FloorDiv) (rI CDivG fun i j => .int (i.fdiv j)) := opI fun i j _ _ _ _ _ hc q =>
  PyProof.Rows.floordiv_int hc.1 q (.inl (PyProof.noPylong_of_log2 hc.2))
theorem wide_divG {i j : Int} {n : Nat} (h : j ≠ 0) (hb : j.natAbs < 2 ^ n) (h0 : 0 < n) (h9 : n ≤ 9000) : CDivG i j := ⟨h, Nat.lt_of_lt_of_le (PySem.Flt.log2_lt_of h0 hb) h9⟩
abbrev xd (v : V) : HO := .xd [(("given" : Str), v)]
def spInit (C CI CZ : Addr) : Sp := fun vs H Q E => ∃ (p dx : Addr) (vt vb : V), vs = [.ref p, vt, vb] ∧ H p = some (.ins C dx []) ∧ Kd C H vt ∧ (isW vt = true → Kd C H vb) ∧
  ((isW vt = false ∧ ∀ d, H d = none → E (.ref CI) (some d) (upd H d (xd vt))) ∨
   (isW vt = true ∧ isW vb = false ∧ ∀ d, H d = none → E (.ref CI) (some d) (upd H d (xd vb))) ∨
   (∃ t b, vt = .int t ∧ vb = .int b ∧ ((b = 0 ∧ ∀ d, H d = none → E (.ref CZ) (some d) (upd H d (xd vt))) ∨
     (b ≠ 0 ∧ Sm 5000 b ∧ Q .non (upd H p (.ins C dx (flds (nt t b) (nb t b))))))))
theorem scI : FnScope ["self", "top", "bottom", "common"] ["self", "top", "bottom"] (defScope (sRat 0)) := ⟨rfl, rfl, rfl, by decide +kernel, rfl, by decide +kernel, by decide +kernel⟩
theorem Kd.whole {C : Addr} {H : Hp} {v : V} (k : Kd C H v) (h : isW v = true) : ∃ i, v = .int i := by
  cases k <;> first | exact ⟨_, rfl⟩ | exact absurd h (by simp [isW])
abbrev InitD (K : PySem.W.Frag) (f : Addr) (fd : FuncData) := FunD K "__init__" "Ratio.__init__" (defArgs (sRat 0)) (defBody (sRat 0)) (defScope (sRat 0)) [.int 1] [] f fd
theorem ok_init {f fW : Addr} {fd fdW : FuncData} (F : InitD K f fd) (T : Txt K mg C CI fCI CZ fCZ)
    (GW : FnOk P w K mg base (L2.CX P w) 1 fW fdW ["value"] (spWhole C)) (mW : mg "is_whole" = some (.ref fW)) (kW : PySem.W.keepIn K (.ref fW) = true) (bW : L2.Binds K fdW ["value"] []) :
    FnOk P w K mg base (L2.CX P w) 3 f fd ["self", "top", "bottom"] (spInit C CI CZ) := by
  refine F.ok scI (fun vs H Q E h => ?_) (fun cdv A outer s H vs Q E hr h => ?_)
  · obtain ⟨p, dx, vt, vb, rfl, _⟩ := h
    rfl
  · obtain ⟨p, dx, vt, vb, rfl, hp, kt, kb, k⟩ := h
    have hr1 : Room 1 _ := hr.mono (by decide)
    refine ⟨_, pss_cons (ps_if (pt_not (pt_val (pe_call GW hr1 (by rfl) mW kW bW .nil passL (pa_cons (pv 1) pa_nil)))) (pss_one (ps_raiseGiv rfl PySem.Giv.ok_VE T.eI hr (takes_of rfl rfl rfl rfl) (pa_cons (pv 1) pa_nil) (by rfl))) pss_nil)
      (pss_cons (ps_if (pt_not (pt_val (pe_call GW hr1 (by rfl) mW kW bW .nil passL (pa_cons (pv 2) pa_nil)))) (pss_one (ps_raiseGiv rfl PySem.Giv.ok_VE T.eI hr (takes_of rfl rfl rfl rfl) (pa_cons (pv 2) pa_nil) (by rfl))) pss_nil)
      (pss_cons (ps_if (pt_cmpR op_eq (pv 2) pe_int (nomark _)) (pss_one (ps_raiseGiv rfl PySem.Giv.ok_ZD T.eZ hr (takes_of rfl rfl rfl rfl) (pa_cons (pv 1) pa_nil) (by rfl))) pss_nil)
      (pss_cons (ps_set (i := 3) scI.nd rfl (Or.inl rfl) (pe_ifExp (pt_cmpR op_gt (pv 2) pe_int (nomark _)) (pe_callBfun cr_gcd (by rfl) T.gcd (pa_cons (pv 1) (pa_cons (pv 2) pa_nil)))
        (pe_un un_neg (pe_callBfun cr_gcd (by rfl) T.gcd (pa_cons (pv 1) (pa_cons (pv 2) pa_nil))))))
      (pss_cons (ps_fld (pv 0) (pe_op op_fdivG (pv 1) (pv 3)) rfl)
      (pss_one (ps_fld (pv 0) (pe_op op_fdivG (pv 2) (pv 3)) rfl)))))), ?_⟩
    refine ⟨_, rfl, _, rfl, kt, _, rfl, ?_⟩
    rcases k with ⟨n1, k⟩ | ⟨y1, n2, k⟩ | ⟨t, b, rfl, rfl, k⟩
    · rw [n1]
      exact iteT ⟨_, rfl, _, rfl, k⟩
    · rw [y1]
      refine iteF ⟨_, rfl, _, rfl, kb y1, _, rfl, ?_⟩
      rw [n2]
      exact iteT ⟨_, rfl, _, rfl, k⟩
    · refine iteF ⟨_, rfl, _, rfl, kb rfl, _, rfl, iteF ⟨_, rfl, rfl, _, rfl, ?_⟩⟩
      rcases k with ⟨b0, k⟩ | ⟨b0, bs, k⟩
      · refine if_pos' (decide_eq_true (show V.int b = V.int 0 by rw [b0])) ?_
        exact ⟨_, rfl, _, rfl, k⟩
      · refine if_neg' (decide_eq_false (fun z => b0 (V.int.inj z))) ?_
        have cb : (cmn t b).natAbs < 2 ^ 5000 := Nat.lt_of_le_of_lt (cmn_le b0) bs
        have dv : ∀ x, CDivG x (cmn t b) := fun x => wide_divG (cmn_ne b0) cb (by decide) (by decide)
        have e0 : upd (upd H p (.ins C dx (putF "top" (.int (nt t b)) []))) p (.ins C dx (flds (nt t b) (nb t b))) = upd H p (.ins C dx (flds (nt t b) (nb t b))) := upd_upd
        rw [← e0] at k
        have nxt : ∀ c : Int, c = cmn t b → (tSeq (sFld K (tVar 0) (tOp (rI CDivG fun i j => V.int (i.fdiv j)) (tVar 1) (tVar 3)) "top") (sFld K (tVar 0) (tOp (rI CDivG fun i j => V.int (i.fdiv j)) (tVar 2) (tVar 3)) "bottom"))
            { nx := fun _ H' => Q .non H', rt := Q } [some (.ref p), some (.int t), some (.int b), some (.int c)] H := by
          rintro c rfl
          exact ⟨_, rfl, _, rfl, _, _, rfl, rfl, dv t, _, rfl, p, C, dx, _, rfl, hp, T.cl, T.nT, (by show 0 < 1000; decide), _, rfl, _, rfl, _, _, rfl, rfl, dv b, _, rfl, p, C, dx, _, rfl, upd_same, T.cl, T.nB, (by show 1 < 1000; decide), k⟩
        refine ⟨_, rfl, _, _, rfl, rfl, _, rfl, ?_⟩
        refine ite2 (fun hb => ?_) (fun hb => ?_)
        · exact ⟨_, rfl, _, rfl, _, _, rfl, nxt _ (if_pos (of_decide_eq_true hb)).symm⟩
        · exact ⟨_, rfl, _, rfl, _, _, rfl, _, rfl, nxt _ (if_neg (fun z => hb (decide_eq_true z))).symm⟩
end
/-- the values that are no numbers -/
inductive Bd (H : Hp) : V → Prop
  | bl (b : Bool) : Bd H (.bl b)
  | non : Bd H .non
  | str (x : Str) : Bd H (.str x)
  | lst {a : Addr} {xs : List V} (e : H a = some (.lst xs)) : Bd H (.ref a)
  | tup {a : Addr} {xs : List V} (e : H a = some (.tup xs)) : Bd H (.ref a)
theorem Bd.kd {C : Addr} {H : Hp} {v : V} (h : Bd H v) : Kd C H v := by
  cases h with
  | bl b => exact .bl b
  | non => exact .non
  | str x => exact .str x
  | lst e => exact .lst e
  | tup e => exact .tup e
theorem Bd.w {H : Hp} {v : V} (h : Bd H v) : isW v = false := by
  cases h <;> rfl
theorem Kd.same {C : Addr} {H H' : Hp} {v : V} (h : Kd C H v) (e : Same H H') : Kd C H' v := by
  cases h with
  | int i => exact .int i
  | bl b => exact .bl b
  | non => exact .non
  | str x => exact .str x
  | ins q => exact .ins (e _ _ q)
  | lst q => exact .lst (e _ _ q)
  | tup q => exact .tup (e _ _ q)
theorem Bd.same {H H' : Hp} {v : V} (h : Bd H v) (e : Same H H') : Bd H' v := by
  cases h with
  | bl b => exact .bl b
  | non => exact .non
  | str x => exact .str x
  | lst q => exact .lst (e _ _ q)
  | tup q => exact .tup (e _ _ q)
/-- v stands for the ratio t / b -/
def Num (C : Addr) (H : Hp) (v : V) (t b : Int) : Prop := (∃ q, v = .ref q ∧ Rat C H q t b) ∨ (v = .int t ∧ b = 1)
theorem Num.same {C : Addr} {H H' : Hp} {v : V} {t b : Int} (h : Num C H v t b) (e : Same H H') : Num C H' v t b := by
  rcases h with ⟨q, rfl, r⟩ | ⟨rfl, rfl⟩
  · exact .inl ⟨q, rfl, r.same e⟩
  · exact .inr ⟨rfl, rfl⟩
theorem same_upd {H : Hp} {p : Addr} {o : HO} (h : H p = none) : Same H (upd H p o) := fun b u e => by
  rw [upd_ne (ne_of_none e h)]
  exact e
/-- a new instance in making -/
theorem same_new {H : Hp} {x dx C : Addr} (hx : H x = none) (hd : H dx = none) : Same H (upd (upd H dx (.own x)) x (.ins C dx [])) := fun b u e => by
  rw [upd_ne (ne_of_none e hx), upd_ne (ne_of_none e hd)]
  exact e
section
variable {C CI CZ : Addr} {H : Hp} {Q : VK} {E : XK}
theorem mk_good {t b : Int} (hb : b ≠ 0) (bs : Sm 5000 b) (k : ∀ p H', Same H H' → Rat C H' p (nt t b) (nb t b) → Q (.ref p) H') :
    ∀ x dx, H x = none → H dx = none → dx ≠ x → spInit C CI CZ [.ref x, .int t, .int b] (upd (upd H dx (.own x)) x (.ins C dx [])) (fun v H2 => v = .non ∧ Q (.ref x) H2) E := by
  intro x dx hx hd ne
  refine ⟨x, dx, .int t, .int b, rfl, upd_same, .int t, fun _ => .int b, .inr (.inr ⟨t, b, rfl, rfl, .inr ⟨hb, bs, rfl, ?_⟩⟩)⟩
  refine k x _ (fun c o e => ?_) ⟨dx, upd_same⟩
  rw [upd_ne (ne_of_none e hx)]
  exact same_new hx hd c o e
theorem mk_bad1 {v u : V} (kd : Bd H v ∨ ∃ a dx fs, v = .ref a ∧ H a = some (.ins C dx fs)) (k : ∀ d H', Same H H' → H' d = some (xd v) → E (.ref CI) (some d) H') :
    ∀ x dx, H x = none → H dx = none → dx ≠ x → spInit C CI CZ [.ref x, v, u] (upd (upd H dx (.own x)) x (.ins C dx [])) (fun v H2 => v = .non ∧ Q (.ref x) H2) E := by
  intro x dx hx hd ne
  have nw : isW v = false := by
    rcases kd with h | ⟨a, _, _, rfl, _⟩
    · exact h.w
    · rfl
  have kk : Kd C H v := by
    rcases kd with h | ⟨a, _, _, rfl, e⟩
    · exact h.kd
    · exact .ins e
  refine ⟨x, dx, v, u, rfl, upd_same, kk.same (same_new hx hd), fun y => absurd y (by rw [nw]; decide), .inl ⟨nw, fun d hdn => ?_⟩⟩
  refine k d _ (fun c o e => ?_) upd_same
  have e2 := same_new (C := C) hx hd c o e
  rw [upd_ne (ne_of_none e2 hdn)]
  exact e2
theorem mk_bad2 {t : Int} {v : V} (kd : Bd H v ∨ ∃ a dx fs, v = .ref a ∧ H a = some (.ins C dx fs)) (k : ∀ d H', Same H H' → H' d = some (xd v) → E (.ref CI) (some d) H') :
    ∀ x dx, H x = none → H dx = none → dx ≠ x → spInit C CI CZ [.ref x, .int t, v] (upd (upd H dx (.own x)) x (.ins C dx [])) (fun v H2 => v = .non ∧ Q (.ref x) H2) E := by
  intro x dx hx hd ne
  have nw : isW v = false := by
    rcases kd with h | ⟨a, _, _, rfl, _⟩
    · exact h.w
    · rfl
  have kk : Kd C H v := by
    rcases kd with h | ⟨a, _, _, rfl, e⟩
    · exact h.kd
    · exact .ins e
  refine ⟨x, dx, .int t, v, rfl, upd_same, .int t, fun _ => kk.same (same_new hx hd), .inr (.inl ⟨rfl, nw, fun d hdn => ?_⟩)⟩
  refine k d _ (fun c o e => ?_) upd_same
  have e2 := same_new (C := C) hx hd c o e
  rw [upd_ne (ne_of_none e2 hdn)]
  exact e2
theorem mk_zero {t : Int} (k : ∀ d H', Same H H' → H' d = some (xd (.int t)) → E (.ref CZ) (some d) H') :
    ∀ x dx, H x = none → H dx = none → dx ≠ x → spInit C CI CZ [.ref x, .int t, .int 0] (upd (upd H dx (.own x)) x (.ins C dx [])) (fun v H2 => v = .non ∧ Q (.ref x) H2) E := by
  intro x dx hx hd ne
  refine ⟨x, dx, .int t, .int 0, rfl, upd_same, .int t, fun _ => .int 0, .inr (.inr ⟨t, 0, rfl, rfl, .inl ⟨rfl, fun d hdn => ?_⟩⟩)⟩
  refine k d _ (fun c o e => ?_) upd_same
  have e2 := same_new (C := C) hx hd c o e
  rw [upd_ne (ne_of_none e2 hdn)]
  exact e2
end

/-- what is known of the class's making -/
structure Mak (P : Program) (w : World) (K : PySem.W.Frag) (mg : Str → Option Value) (base : Heap) (C CI CZ : Addr) : Prop where
  ex : ∃ (fI : Addr) (fd : FuncData) (ds : List Value), Mk K C fI ∧ FnOk P w K mg base (L2.CX P w) 3 fI fd ["self", "top", "bottom"] (spInit C CI CZ) ∧ L2.Binds K fd ["self", "top", "bottom"] [] ∧ Vals [.int 1] ds ∧ L2.Binds K fd ["self", "top", "bottom"] ds

/-- a method of the class, by its name -/
structure Dun (P : Program) (w : World) (K : PySem.W.Frag) (mg : Str → Option Value) (base : Heap) (C : Addr) (nm : Str) (k : Nat) (ps : List Str) (sp : Sp) : Prop where
  ex : ∃ (f : Addr) (fd : FuncData), PySem.W.findIn K (.ref C) nm = some (some (.ref f)) ∧ PySem.W.isFn K (.ref f) = true ∧ PySem.W.keepIn K (.ref f) = true ∧ FnOk P w K mg base (L2.CX P w) k f fd ps sp ∧ L2.Binds K fd ps []
/-- what is known of the class beside the built-in types -/
structure Tys (K : PySem.W.Frag) (C : Addr) : Prop where
  sf : PySem.W.selfFirst K C = true
  nCC : PySem.W.notFirst K C (.ref C) = true
  nI : PySem.W.notFirst K C (.type "int") = true
  nB : PySem.W.notFirst K C (.type "bool") = true
  nN : PySem.W.notFirst K C (.type "NoneType") = true
  nS : PySem.W.notFirst K C (.type "str") = true
  nL : PySem.W.notFirst K C (.type "list") = true
  nT : PySem.W.notFirst K C (.type "tuple") = true
  sI : PySem.W.subIn K (.ref C) (.type "int") = some false
def RAny (C : Addr) : V → Hp → Prop := fun y H => RIns C y H ∨ RInt y H ∨ Bd H y
theorem looks_any {X : Cx} {C : Addr} (Y : Tys X.K C) {y : V} {H : Hp} {u : Value} {pins : List (Addr × Obj)} {σ : L2.St} {s : Shared} (I : L2.Inv X pins σ H s) (h : RAny C y H) (ry : RelV y u) :
    ∃ tb, PySem.W.Looks (model X.prog X.w) s.heap (typeOf u) tb ∧ PySem.W.notFirst X.K C tb = true := by
  rcases h with h | h | h
  · exact looks_ins Y.nCC I h ry
  · exact looks_int Y.nI I h ry
  · cases h with
    | bl b => cases (show u = Value.bool b from ry); exact ⟨_, PySem.W.Looks.of_pure rfl, Y.nB⟩
    | non => cases (show u = Value.none from ry); exact ⟨_, PySem.W.Looks.of_pure rfl, Y.nN⟩
    | str x => obtain ⟨t, rfl⟩ := (show ∃ t, u = Value.str x t from ry); exact ⟨_, PySem.W.Looks.of_pure rfl, Y.nS⟩
    | lst e =>
      cases (show u = Value.ref _ from ry)
      obtain ⟨_, _, n, _, h1⟩ := (show ObjOk X.prog X.w H s.heap _ (.lst _) from I.hok _ _ e)
      exact ⟨.type "list", fun A Q E s' k q => wpAny_typeOf_ref (k _ _ h1) q, Y.nL⟩
    | tup e =>
      cases (show u = Value.ref _ from ry)
      obtain ⟨_, _, _, o, h1, h2, _⟩ := (show ObjOk X.prog X.w H s.heap _ (.tup _) from I.hok _ _ e)
      exact ⟨.type "tuple", fun A Q E s' k q => wpAny_typeOf_ref (k _ _ h1) (by rw [h2]; exact q), Y.nT⟩

section
variable {P : Program} {w : World} {K : PySem.W.Frag} {mg : Str → Option Value} {base : Heap} {C CI fCI CZ fCZ : Addr}
def spEq (C : Addr) (neg : Bool) : Sp := fun vs H Q _ => ∃ p v t b, vs = [.ref p, v] ∧ Rat C H p t b ∧ ((∃ q t' b', v = .ref q ∧ Rat C H q t' b' ∧ Q (.bl (neg != (decide (t = t') && decide (b = b')))) H) ∨
  (∃ i, v = .int i ∧ Q (.bl (neg != (decide (b = 1) && decide (t = i)))) H) ∨ (Bd H v ∧ Q (.bl neg) H))
theorem dI (i j : Int) : decide (V.int i = V.int j) = decide (i = j) := by
  by_cases h : i = j
  · rw [decide_eq_true h, decide_eq_true (by rw [h])]
  · rw [decide_eq_false h, decide_eq_false (fun z => h (V.int.inj z))]
theorem ok_eq {f : Addr} {fd : FuncData} (F : Fun K "__eq__" "Ratio.__eq__" (sRat 11) f fd) (T : Txt K mg C CI fCI CZ fCZ) (GW : Glb P w K mg base "is_whole" 1 ["value"] (spWhole C)) :
    FnOk P w K mg base (L2.CX P w) 2 f fd ["self", "other"] (spEq C false) := by
  obtain ⟨fW, fdW, mW, kW, GW, bW⟩ := GW.ex
  have sc : FnScope ["self", "other"] ["self", "other"] (defScope (sRat 11)) := ⟨rfl, rfl, rfl, by decide +kernel, rfl, by decide +kernel, by decide +kernel⟩
  refine F.okX sc (fun vs H Q E h => ?_) (fun cdv A outer s H vs Q E hr h => ?_)
  · obtain ⟨p, v, t, b, rfl, _⟩ := h
    rfl
  · obtain ⟨p, v, t, b, rfl, ⟨dx, hp⟩, k⟩ := h
    refine ⟨_, pss_cons (ps_if (pt_val (pe_callB call_isi (by rfl) T.isi (by decide +kernel) (pa_cons (pv 1) (pa_cons (pe_glob (v := .ref C) (by rfl) T.gC rfl) pa_nil))))
        (pss_one (ps_ret (pe_and (pe_cmpR op_eq (pe_fld (pv 0) rfl) (pe_fld (pv 1) rfl) (nomark _)) (pe_one (pe_cmpR op_eq (pe_fld (pv 0) rfl) (pe_fld (pv 1) rfl) (nomark _)))))) pss_nil)
      (pss_one (ps_ret (pe_and (pe_call GW hr (by rfl) mW kW bW .nil passL (pa_cons (pv 1) pa_nil)) (pe_and (pe_cmpR op_eq (pe_fld (pv 0) rfl) pe_int (nomark _)) (pe_one (pe_cmpR op_eq (pe_fld (pv 0) rfl) (pv 1) (nomark _))))))), ?_⟩
    rcases k with ⟨q, t', b', rfl, ⟨dq, hq⟩, k⟩ | ⟨i, rfl, k⟩ | ⟨bd, k⟩
    · refine ⟨_, rfl, _, _, _, _, _, rfl, .own C, .base (.ins hq T.cl T.ha T.hn T.htk T.hm), T.kCC, _, rfl, iteT ?_⟩
      refine ⟨_, rfl, p, C, dx, _, _, rfl, hp, T.cl, T.nT, flds_top _ _, _, rfl, q, C, dq, _, _, rfl, hq, T.cl, T.nT, flds_top _ _, rfl, _, rfl, ?_⟩
      rw [dI]
      by_cases h : t = t'
      · rw [decide_eq_true h]
        refine iteT ⟨_, rfl, p, C, dx, _, _, rfl, hp, T.cl, T.nB, flds_bot _ _, _, rfl, q, C, dq, _, _, rfl, hq, T.cl, T.nB, flds_bot _ _, rfl, ?_⟩
        rw [dI]
        rw [decide_eq_true h] at k
        simpa using k
      · rw [decide_eq_false h]
        rw [decide_eq_false h] at k
        exact iteF (by simpa using k)
    · refine ⟨_, rfl, _, _, _, _, _, rfl, .own C, .base (.int i), T.kiC, _, rfl, iteF ?_⟩
      refine ⟨_, rfl, _, rfl, .int i, _, rfl, iteT ⟨_, rfl, p, C, dx, _, _, rfl, hp, T.cl, T.nB, flds_bot _ _, rfl, _, rfl, ?_⟩⟩
      rw [dI]
      by_cases h : b = 1
      · rw [decide_eq_true h]
        refine iteT ⟨_, rfl, p, C, dx, _, _, rfl, hp, T.cl, T.nT, flds_top _ _, _, rfl, rfl, ?_⟩
        rw [dI]
        rw [decide_eq_true h] at k
        simpa using k
      · rw [decide_eq_false h]
        rw [decide_eq_false h] at k
        exact iteF (by simpa using k)
    · cases bd with
      | bl b => exact ⟨_, rfl, _, _, _, _, _, rfl, .own C, .base (.bl b), T.kbC, _, rfl, iteF ⟨_, rfl, _, rfl, .bl b, _, rfl, iteF k⟩⟩
      | non => exact ⟨_, rfl, _, _, _, _, _, rfl, .own C, .base .non, T.knC, _, rfl, iteF ⟨_, rfl, _, rfl, .non, _, rfl, iteF k⟩⟩
      | str x => exact ⟨_, rfl, _, _, _, _, _, rfl, .own C, .base (.str x), T.ksC, _, rfl, iteF ⟨_, rfl, _, rfl, .str x, _, rfl, iteF k⟩⟩
      | lst e => exact ⟨_, rfl, _, _, _, _, _, rfl, .own C, .base (.lst e), T.klC, _, rfl, iteF ⟨_, rfl, _, rfl, .lst e, _, rfl, iteF k⟩⟩
      | tup e => exact ⟨_, rfl, _, _, _, _, _, rfl, .own C, .base (.tup e), T.ktC, _, rfl, iteF ⟨_, rfl, _, rfl, .tup e, _, rfl, iteF k⟩⟩
theorem ok_ne {f : Addr} {fd : FuncData} (F : Fun K "__ne__" "Ratio.__ne__" (sRat 12) f fd) (Z : Tys K C) (D : Dun P w K mg base C (cmpInfo .Eq).2.1 2 ["self", "other"] (spEq C false)) :
    FnOk P w K mg base (L2.CX P w) 3 f fd ["self", "other"] (spEq C true) := by
  obtain ⟨g, gd, ga, gf, _, GD, gb⟩ := D.ex
  have sc : FnScope ["self", "other"] ["self", "other"] (defScope (sRat 12)) := ⟨rfl, rfl, rfl, by decide +kernel, rfl, by decide +kernel, by decide +kernel⟩
  refine F.okX sc (fun vs H Q E h => ?_) (fun cdv A outer s H vs Q E hr h => ?_)
  · obtain ⟨p, v, t, b, rfl, _⟩ := h
    rfl
  · obtain ⟨p, v, t, b, rfl, ⟨dx, hp⟩, k⟩ := h
    refine ⟨_, pss_one (ps_ret (pe_not (pe_cmpR (op := .Eq) (cmp_own (C := C) (E := E0) (R := RAny C) (fun _ _ => rfl) ga gf GD hr gb passL (looks_any Z)) (pv 0) (pv 1) (nomark _)))), ?_⟩
    rcases k with ⟨q, t', b', rfl, ⟨dq, hq⟩, k⟩ | ⟨i, rfl, k⟩ | ⟨bd, k⟩
    · exact ⟨_, rfl, _, rfl, p, dx, _, rfl, hp, .inl ⟨q, dq, _, rfl, hq⟩, p, .ref q, t, b, rfl, ⟨dx, hp⟩, .inl ⟨q, t', b', rfl, ⟨dq, hq⟩, _, rfl, by cases hx : (decide (t = t') && decide (b = b')) <;> rw [hx] at k <;> exact k⟩⟩
    · exact ⟨_, rfl, _, rfl, p, dx, _, rfl, hp, .inr (.inl ⟨i, rfl⟩), p, .int i, t, b, rfl, ⟨dx, hp⟩, .inr (.inl ⟨i, rfl, _, rfl, by cases hx : (decide (b = 1) && decide (t = i)) <;> rw [hx] at k <;> exact k⟩)⟩
    · exact ⟨_, rfl, _, rfl, p, dx, _, rfl, hp, .inr (.inr bd), p, v, t, b, rfl, ⟨dx, hp⟩, .inr (.inr ⟨bd, _, rfl, k⟩)⟩
end
abbrev sVal : Stmt := top 22
/-- a number above 0 in lowest terms, of a size that is met -/
structure Vb (t b : Int) : Prop where
  b0 : 0 < b
  t0 : 0 < t
  sm : Sm 5000 b
  n1 : nt t b = t
  n2 : nb t b = b
def Vp (C : Addr) (H : Hp) (v : V) (t b : Int) : Prop := Num C H v t b ∧ Vb t b
theorem Vp.same {C : Addr} {H H' : Hp} {v : V} {t b : Int} (h : Vp C H v t b) (e : Same H H') : Vp C H' v t b := ⟨h.1.same e, h.2⟩
def NoV (C : Addr) (H : Hp) (v : V) : Prop := Bd H v ∨ ∃ t b, Num C H v t b ∧ t ≤ 0
theorem NoV.same {C : Addr} {H H' : Hp} {v : V} (h : NoV C H v) (e : Same H H') : NoV C H' v := h.elim (fun h => .inl (h.same e)) fun ⟨t, b, h, l⟩ => .inr ⟨t, b, h.same e, l⟩
def spVal (C CN : Addr) : Sp := fun vs H Q E => ∃ v, vs = [v] ∧ ((∃ t b, Vp C H v t b ∧ ∀ r H', Same H H' → Rat C H' r t b → Q (.ref r) H') ∨ (NoV C H v ∧ ∀ d H', Same H H' → H' d = some (xd v) → E (.ref CN) (some d) H'))
theorem mkR_at {C CI CZ : Addr} {H : Hp} {W : VK} {E : XK} {x dx : Addr} {t b : Int} (hx : H x = none) (hd : H dx = none) (hb : b ≠ 0) (bs : Sm 5000 b) (k : ∀ H', Same H H' → Rat C H' x (nt t b) (nb t b) → W .non H') :
    spInit C CI CZ [.ref x, .int t, .int b] (upd (upd H dx (.own x)) x (.ins C dx [])) W E := by
  refine ⟨x, dx, .int t, .int b, rfl, upd_same, .int t, fun _ => .int b, .inr (.inr ⟨t, b, rfl, rfl, .inr ⟨hb, bs, ?_⟩⟩)⟩
  refine k _ (fun c o e => ?_) ⟨dx, upd_same⟩
  rw [upd_ne (ne_of_none e hx)]
  exact same_new hx hd c o e
theorem mkR_one {C CI CZ : Addr} {H : Hp} {W : VK} {E : XK} {x dx : Addr} {t : Int} (hx : H x = none) (hd : H dx = none) (k : ∀ H', Same H H' → Rat C H' x t 1 → W .non H') :
    spInit C CI CZ [.ref x, .int t, .int 1] (upd (upd H dx (.own x)) x (.ins C dx [])) W E :=
  mkR_at hx hd (by decide) (Nat.one_lt_two_pow (by decide)) fun H' s r => k H' s (by rw [(nt_one t).1, (nt_one t).2] at r; exact r)
section
variable {P : Program} {w : World} {K : PySem.W.Frag} {mg : Str → Option Value} {base : Heap} {C CI fCI CZ fCZ CN fCN : Addr}
theorem ok_val {f : Addr} {fd : FuncData} (F : Fun K "value_of" "value_of" sVal f fd) (T : Txt K mg C CI fCI CZ fCZ) (M : Mak P w K mg base C CI CZ) (eN : PySem.Giv.ErrTxt K mg "NotPositive" "NotPositive.__init__" "ValueError.__new__" veT CN fCN)
    (GW : Glb P w K mg base "is_whole" 1 ["value"] (spWhole C)) : FnOk P w K mg base (L2.CX P w) 5 f fd ["value"] (spVal C CN) := by
  obtain ⟨fI, fdI, ds, mk, GI, b3, d2, b2⟩ := M.ex
  obtain ⟨fW, fdW, mW, kW, GW, bW⟩ := GW.ex
  have sc : FnScope ["value"] ["value"] (defScope sVal) := ⟨rfl, rfl, rfl, by decide +kernel, rfl, by decide +kernel, by decide +kernel⟩
  refine F.okX sc (fun vs H Q E h => ?_) (fun cdv A outer s H vs Q E hr h => ?_)
  · obtain ⟨v, rfl, _⟩ := h
    rfl
  · obtain ⟨v, rfl, k⟩ := h
    refine ⟨_, pss_cons (ps_if (PW.pt (pw_and (pt_val (pe_callB call_isi (by rfl) T.isi (by decide +kernel) (pa_cons (pv 0) (pa_cons (pe_glob (v := .ref C) (by rfl) T.gC rfl) pa_nil)))) (pw_and1 (pt_cmpR op_gt (pe_fld (pv 0) rfl) pe_int (nomark _)))))
        (pss_one (ps_ret (pe_make mk GI (hr.mono (by decide)) (by rfl) T.gC b3 .nil passL (pa_cons (pe_fld (pv 0) rfl) (pa_cons (pe_fld (pv 0) rfl) pa_nil))))) pss_nil)
      (pss_cons (ps_if (PW.pt (pw_or (pt_not (pt_val (pe_call GW (hr.mono (by decide)) (by rfl) mW kW bW .nil passL (pa_cons (pv 0) pa_nil)))) (pw_or1 (pt_cmpR op_le (pv 0) pe_int (nomark _)))))
        (pss_one (ps_raiseGiv rfl PySem.Giv.ok_VE eN hr (takes_of rfl rfl rfl rfl) (pa_cons (pv 0) pa_nil) (by rfl))) pss_nil)
      (pss_one (ps_ret (pe_make mk GI (hr.mono (by decide)) (by rfl) T.gC b2 d2 passL (pa_cons (pv 0) pa_nil))))), ?_⟩
    rcases k with ⟨t, b, ⟨nm, vb⟩, k⟩ | ⟨bd | ⟨t, b, nm, t0⟩, k⟩
    · rcases nm with ⟨q, rfl, dq, hq⟩ | ⟨rfl, rfl⟩
      · refine ⟨_, rfl, _, _, _, _, _, rfl, .own C, .base (.ins hq T.cl T.ha T.hn T.htk T.hm), T.kCC, _, rfl, if_pos' rfl ?_⟩
        refine ⟨_, rfl, q, C, dq, _, _, rfl, hq, T.cl, T.nT, flds_top _ _, _, _, rfl, rfl, _, rfl, if_pos' (decide_eq_true vb.t0) ?_⟩
        refine ⟨_, rfl, q, C, dq, _, _, rfl, hq, T.cl, T.nT, flds_top _ _, _, rfl, q, C, dq, _, _, rfl, hq, T.cl, T.nB, flds_bot _ _, ?_⟩
        exact mk_good (Int.ne_of_gt vb.b0) vb.sm fun p H' sm r => k p H' sm (by rw [vb.n1, vb.n2] at r; exact r)
      · refine ⟨_, rfl, _, _, _, _, _, rfl, .own C, .base (.int t), T.kiC, _, rfl, if_neg' rfl ?_⟩
        refine ⟨_, rfl, _, rfl, .int t, _, rfl, if_neg' rfl ⟨_, rfl, _, _, rfl, rfl, _, rfl, if_neg' (decide_eq_false (by have := vb.t0; omega)) ⟨_, rfl, ?_⟩⟩⟩
        exact mk_good (by decide) (Nat.one_lt_two_pow (by decide)) fun p H' sm r => k p H' sm (by rw [vb.n1, vb.n2] at r; exact r)
    · have fin : ∀ d, H d = none → E (.ref CN) (some d) (upd H d (xd v)) := fun d hd => k d _ (same_upd hd) upd_same
      cases bd with
      | bl b => exact ⟨_, rfl, _, _, _, _, _, rfl, .own C, .base (.bl b), T.kbC, _, rfl, if_neg' rfl ⟨_, rfl, _, rfl, .bl b, _, rfl, if_pos' rfl ⟨_, rfl, _, rfl, fin⟩⟩⟩
      | non => exact ⟨_, rfl, _, _, _, _, _, rfl, .own C, .base .non, T.knC, _, rfl, if_neg' rfl ⟨_, rfl, _, rfl, .non, _, rfl, if_pos' rfl ⟨_, rfl, _, rfl, fin⟩⟩⟩
      | str x => exact ⟨_, rfl, _, _, _, _, _, rfl, .own C, .base (.str x), T.ksC, _, rfl, if_neg' rfl ⟨_, rfl, _, rfl, .str x, _, rfl, if_pos' rfl ⟨_, rfl, _, rfl, fin⟩⟩⟩
      | lst e => exact ⟨_, rfl, _, _, _, _, _, rfl, .own C, .base (.lst e), T.klC, _, rfl, if_neg' rfl ⟨_, rfl, _, rfl, .lst e, _, rfl, if_pos' rfl ⟨_, rfl, _, rfl, fin⟩⟩⟩
      | tup e => exact ⟨_, rfl, _, _, _, _, _, rfl, .own C, .base (.tup e), T.ktC, _, rfl, if_neg' rfl ⟨_, rfl, _, rfl, .tup e, _, rfl, if_pos' rfl ⟨_, rfl, _, rfl, fin⟩⟩⟩
    · have fin : ∀ d, H d = none → E (.ref CN) (some d) (upd H d (xd v)) := fun d hd => k d _ (same_upd hd) upd_same
      rcases nm with ⟨q, rfl, dq, hq⟩ | ⟨rfl, rfl⟩
      · refine ⟨_, rfl, _, _, _, _, _, rfl, .own C, .base (.ins hq T.cl T.ha T.hn T.htk T.hm), T.kCC, _, rfl, if_pos' rfl ?_⟩
        refine ⟨_, rfl, q, C, dq, _, _, rfl, hq, T.cl, T.nT, flds_top _ _, _, _, rfl, rfl, _, rfl, if_neg' (decide_eq_false (by omega)) ?_⟩
        exact ⟨_, rfl, _, rfl, .ins hq, _, rfl, if_pos' rfl ⟨_, rfl, _, rfl, fin⟩⟩
      · refine ⟨_, rfl, _, _, _, _, _, rfl, .own C, .base (.int t), T.kiC, _, rfl, if_neg' rfl ?_⟩
        exact ⟨_, rfl, _, rfl, .int t, _, rfl, if_neg' rfl ⟨_, rfl, _, _, rfl, rfl, _, rfl, if_pos' (decide_eq_true t0) ⟨_, rfl, _, rfl, fin⟩⟩⟩
end
end R5r
end

-- WalkIt
section
set_option Elab.async false
set_option linter.all false
set_option maxRecDepth 100000
namespace G1
open PySem L2 OwnOps
theorem pg_two {X : Cx} {i j : Nat} {x y : Str} {p1 p2 pos : Pos} {kk : Nat} (hc : X.calm = true) (hN : X.N.Nodup) (hi : X.N[i]? = some x) (hx : Loc X.env.scope x) (hj : X.N[j]? = some y) (hy : Loc X.env.scope y)
    (hf : X.fn x = true ∨ X.env.scope.names.lookup x = some .local := by first | exact .inl rfl | exact .inr rfl) (hg : X.fn y = true ∨ X.env.scope.names.lookup y = some .local := by first | exact .inl rfl | exact .inr rfl) :
    PG X (.Tuple [.Name x p1, .Name y p2] kk pos) (gTup X.K 2 (gCons (gName i) (gCons (gName j) gNil))) := pg_tup hc (pgs_cons (pg_name (i := i) hN hi hx hf) (pgs_cons (pg_name (i := j) hN hj hy hg) pgs_nil))
/-- a walk, whatever its turn is -/
theorem walk_it {J : It} {n : Nat} {G : Hp → Prop} {Y : Nat → Hp → V → Hp → Prop} (w : Walk J n G Y) {turn : V → Hp → (Hp → Prop) → Prop} {Fin : Hp → Prop} {H0 : Hp} (Pv : Nat → Hp → Prop) (h0 : Pv 0 H0) (hG : ∀ i H, i ≤ n → Pv i H → G H)
    (hs : ∀ i x H H', i < n → Pv i H → Y i H x H' → turn x H' (Pv (i + 1))) (hd : ∀ H, Pv n H → Fin H) :
    ∃ W : Nat → Nat → Hp → Prop, (∃ m, W 0 m H0) ∧ ∀ i m H, W i m H → (J.stop i H ∧ Fin H) ∨ (J.go i H ∧ ∃ Nx : Hp → Prop, (∀ H', Nx H' → ∃ m', m' < m ∧ W (i + 1) m' H') ∧ ∀ x H', J.yld i H x H' → turn x H' Nx) := by
  refine ⟨fun i m H => m + i = n ∧ Pv i H, ⟨n, rfl, h0⟩, fun i m H ⟨e, p⟩ => ?_⟩
  have q := hG i H (by omega) p
  by_cases lt : i < n
  · exact .inr ⟨w.goes i H lt q, Pv (i + 1), fun H' p' => ⟨m - 1, by omega, by omega, p'⟩, fun x H' y => hs i x H H' lt p (w.yields i H x H' lt q y)⟩
  · cases (show i = n by omega)
    exact .inl ⟨w.stops H q, hd H p⟩
theorem same_unlock {H G : Hp} {d : Addr} {u : HO} {od : Obj} (hd : H d = some u) (s : Same (upd H d (.frz od u)) G) : G d = some (.frz od u) ∧ Same H (upd G d u) := by
  refine ⟨s _ _ upd_same, fun b o e => ?_⟩
  by_cases h : b = d
  · subst h
    rw [hd] at e
    cases e
    exact upd_same
  · rw [upd_ne h]
    exact s b o (by rw [upd_ne h]; exact e)
theorem rd_lock {H : Hp} {d a : Addr} {u v : HO} {od : Obj} (hd : H d = some u) (m : Mut (some u)) (r : Rd H a v) : Rd (upd H d (.frz od u)) a v := by
  by_cases h : a = d
  · subst h
    rcases r with r | ⟨o, r⟩
    · rw [hd] at r
      cases r
      exact .inr ⟨od, upd_same⟩
    · rw [hd] at r
      cases r
      exact m.elim
  · rcases r with r | ⟨o, r⟩
    · exact .inl (by rw [upd_ne h]; exact r)
    · exact .inr ⟨o, by rw [upd_ne h]; exact r⟩
theorem SameX.none {p x : Addr} {H G : Hp} {u : HO} (s : SameX p H G) (hp : G p = some u) (h : G x = none) : H x = none := by
  cases e : H x with
  | none => rfl
  | some o =>
    by_cases n : x = p
    · subst n
      rw [hp] at h
      cases h
    · rw [s x o n e] at h
      cases h
theorem Same.none {x : Addr} {H G : Hp} (s : Same H G) (h : G x = none) : H x = none := by
  cases e : H x with
  | none => rfl
  | some o =>
    rw [s x o e] at h
    cases h
end G1
end

-- L5b
section
set_option Elab.async false
set_option linter.all false
set_option maxRecDepth 100000
namespace R5
open PySem L2 OwnOps OwnNe G1 StX
def difV (xs : List V) : Bool := xs.all wdV && decide xs.Nodup
/-- a list or a tuple, as it stands -/
def LT (K : PySem.W.Frag) (H : Hp) (a : Addr) (xs : List V) : Prop := SqL K H a xs ∨ SqT K H a xs
theorem texts_of : ∀ {xs : List V}, xs.all wdV = true → ∃ zs : List Str, xs = zs.map V.str
  | [], _ => ⟨[], rfl⟩
  | x :: xs, h => by
    rw [List.all_cons, Bool.and_eq_true] at h
    obtain ⟨zs, e⟩ := texts_of h.2
    cases x with
    | str z => exact ⟨z :: zs, by rw [e]; rfl⟩
    | _ => exact absurd h.1 (by simp [wdV])
theorem nodup_str {zs : List Str} : (zs.map V.str).Nodup ↔ zs.Nodup := by
  constructor
  · intro h
    exact List.Pairwise.of_map V.str (fun a b ne e => ne (by rw [e])) h
  · intro h
    exact List.Pairwise.map V.str (fun a b ne e => ne (V.str.inj e)) h
theorem cnt_is (zs : List Str) : decide ((SetStr.cnt zs zs.length : Int) = zs.length) = decide zs.Nodup := by
  by_cases h : zs.Nodup
  · rw [SetStr.cnt_nodup h _ (Nat.le_refl _), decide_eq_true h, decide_eq_true rfl]
  · rw [decide_eq_false h]
    have : ∃ i j, i < j ∧ j < zs.length ∧ zs.getD i Str.empty = zs.getD j Str.empty := by
      apply Classical.byContradiction
      intro q
      apply h
      rw [List.nodup_iff_pairwise_ne, List.pairwise_iff_getElem]
      intro i j hi hj hij e
      refine q ⟨i, j, hij, hj, ?_⟩
      rw [List.getD_eq_getElem?_getD, List.getD_eq_getElem?_getD, List.getElem?_eq_getElem hi, List.getElem?_eq_getElem hj, e]
    obtain ⟨i, j, hij, hj, e⟩ := this
    have := SetStr.cnt_bad hij hj e zs.length hj
    exact decide_eq_false (by omega)
theorem take_succ_at {α : Type} {xs : List α} {i : Nat} {x : α} (h : xs[i]? = some x) : xs.take (i + 1) = xs.take i ++ [x] := by
  rw [List.take_add_one, h]
  rfl
theorem Same.tupS {K : PySem.W.Frag} {H H' : Hp} {a : Addr} {xs : List V} (e : Same H H') (h : SqT K H a xs) : SqT K H' a xs := by
  rcases h with h | h
  · rcases h with h | ⟨o, h⟩
    · exact .inl (.inl (e _ _ h))
    · exact .inl (.inr ⟨o, e _ _ h⟩)
  · exact .inr h
section
variable {P : Program} {w : World} {K : PySem.W.Frag} {mg : Str → Option Value} {base : Heap}
def spDiff (K : PySem.W.Frag) : Sp := fun vs H Q _ => ∃ a xs, vs = [.ref a] ∧ LT K H a xs ∧ xs.length ≤ 100 ∧ (∀ x ∈ xs, Av H x ∧ Shr x) ∧ ∀ H', Same H H' → Q (.bl (difV xs)) H'
theorem ok_diff {f : Addr} {fd : FuncData} (F : Fun K "are_different_words" "are_different_words" sDiff f fd) (T : Bi mg) (GW : Glb P w K mg base "is_word" 1 ["value"] spWord) : FnOk P w K mg base (L2.CX P w) 2 f fd ["values"] (spDiff K) := by
  obtain ⟨_, _, mW, kW, GW, bW⟩ := GW.ex
  have sc : FnScope ["values", "value"] ["values"] (defScope sDiff) := ⟨rfl, rfl, rfl, by decide +kernel, rfl, by decide +kernel, by decide +kernel⟩
  have hN := sc.nd
  refine F.okX sc (fun vs H Q E h => ?_) (fun cdv A outer s H vs Q E hr h => ?_)
  · obtain ⟨a, xs, rfl, _⟩ := h
    rfl
  · obtain ⟨a, xs, rfl, hS, few, av, fin⟩ := h
    rcases hS with hS | hS
    · refine ⟨_, pss_one (ps_ret (pe_and (pe_callB (cr_all rfl) (by rfl) T.all (by decide +kernel) (pa_cons (pe_lc (own := [("value", 1)]) (g := gName 1) (tt := tYes) (te := tCall spWord [] E0 (tCons (tVar 1) tNil)) rfl hN (pi_list (pv 0)) (blkOk_by (N := ["values", "value"]) (sc := defScope sDiff) (by decide +kernel)) (fun _ _ _ _ _ => pg_name (i := 1) hN rfl (Or.inl rfl)) (fun _ _ _ _ _ => pts_nil)
          (fun _ _ _ _ _ => pe_call GW (hr.mono (by decide)) (by rfl) mW kW bW .nil passL (pa_cons (pv 1) pa_nil))) pa_nil))
        (pe_one (pe_cmpR op_eq (SetStr.pe_lenT (by rfl) T.len (by rfl) T.set (pv 0)) (pe_callB call_len_seq (by rfl) T.len PySem.boot_len (pa_cons (pv 0) pa_nil)) (nomark _))))), ?_⟩
      refine ⟨_, rfl, a, rfl, ⟨xs, hS⟩, fun D hD => lc_it (walk_list (xs := xs) (a := a) (K := K)) (fun i G => Same H G ∧ ∃ at_, G D = some (.lst at_) ∧ at_ = (xs.take i).map fun v => V.bl (wdV v)) ⟨same_upd hD, [], upd_same, rfl⟩ (fun i G hi g => g.1.seq hS) (fun i x G G' hi g y => ?_) (fun G g => ?_)⟩
      · obtain ⟨rfl, hx⟩ := y
        obtain ⟨sm, at_, hD2, rfl⟩ := g
        refine ⟨rfl, _, rfl, ?_⟩
        obtain ⟨ax, sx⟩ := av x (List.mem_of_getElem? hx)
        exact ⟨x, rfl, ax.same sm, sx, _, hD2, by rw [List.length_map, List.length_take]; exact small1000 (by omega), same_put sm hD, _, upd_same, by rw [take_succ_at hx, List.map_append]; rfl⟩
      · obtain ⟨sm, at_, hD2, rfl⟩ := g
        rw [List.take_length] at hD2
        have e0 : xs.map (fun v => V.bl (wdV v)) = (xs.map wdV).map V.bl := by rw [List.map_map]; rfl
        rw [e0] at hD2
        have ea : ((xs.map wdV).all id) = xs.all wdV := by rw [List.all_map]; rfl
        refine ⟨D, xs.map wdV, rfl, SqL.of hD2, _, rfl, ?_⟩
        cases b : xs.all wdV with
        | false =>
          refine if_neg' (by rw [ea, b]) ?_
          have z := fin G sm
          unfold difV at z
          rw [b] at z
          exact z
        | true =>
          refine if_pos' (by rw [ea, b]) ?_
          obtain ⟨zs, rfl⟩ := texts_of b
          refine ⟨_, rfl, a, zs, rfl, .inl (sm.seq hS), by rw [List.length_map] at few; omega, _, rfl, a, _, rfl, .inl (sm.seq hS), rfl, ?_⟩
          have z := fin G sm
          unfold difV at z
          rw [b, Bool.true_and] at z
          have e2 : decide (V.int (SetStr.cnt zs zs.length : Int) = V.int ((zs.map V.str).length : Int)) = decide (zs.map V.str).Nodup := by
            rw [List.length_map, decide_eq_decide.mpr nodup_str, ← cnt_is]
            exact decide_eq_decide.mpr ⟨fun q => V.int.inj q, fun q => by rw [q]⟩
          show Q (.bl _) G
          rw [e2]
          exact z
    · refine ⟨_, pss_one (ps_ret (pe_and (pe_callB (cr_all rfl) (by rfl) T.all (by decide +kernel) (pa_cons (pe_lc (own := [("value", 1)]) (g := gName 1) (tt := tYes) (te := tCall spWord [] E0 (tCons (tVar 1) tNil)) rfl hN (pi_tup (pv 0)) (blkOk_by (N := ["values", "value"]) (sc := defScope sDiff) (by decide +kernel)) (fun _ _ _ _ _ => pg_name (i := 1) hN rfl (Or.inl rfl)) (fun _ _ _ _ _ => pts_nil)
          (fun _ _ _ _ _ => pe_call GW (hr.mono (by decide)) (by rfl) mW kW bW .nil passL (pa_cons (pv 1) pa_nil))) pa_nil))
        (pe_one (pe_cmpR op_eq (SetStr.pe_lenT (by rfl) T.len (by rfl) T.set (pv 0)) (pe_callB call_len_seq (by rfl) T.len PySem.boot_len (pa_cons (pv 0) pa_nil)) (nomark _))))), ?_⟩
      refine ⟨_, rfl, a, rfl, ⟨xs, hS⟩, fun D hD => lc_it (walk_tup (xs := xs) (a := a) (K := K)) (fun i G => Same H G ∧ ∃ at_, G D = some (.lst at_) ∧ at_ = (xs.take i).map fun v => V.bl (wdV v)) ⟨same_upd hD, [], upd_same, rfl⟩ (fun i G hi g => R5.Same.tupS g.1 hS) (fun i x G G' hi g y => ?_) (fun G g => ?_)⟩
      · obtain ⟨rfl, hx⟩ := y
        obtain ⟨sm, at_, hD2, rfl⟩ := g
        refine ⟨rfl, _, rfl, ?_⟩
        obtain ⟨ax, sx⟩ := av x (List.mem_of_getElem? hx)
        exact ⟨x, rfl, ax.same sm, sx, _, hD2, by rw [List.length_map, List.length_take]; exact small1000 (by omega), same_put sm hD, _, upd_same, by rw [take_succ_at hx, List.map_append]; rfl⟩
      · obtain ⟨sm, at_, hD2, rfl⟩ := g
        rw [List.take_length] at hD2
        have e0 : xs.map (fun v => V.bl (wdV v)) = (xs.map wdV).map V.bl := by rw [List.map_map]; rfl
        rw [e0] at hD2
        have ea : ((xs.map wdV).all id) = xs.all wdV := by rw [List.all_map]; rfl
        refine ⟨D, xs.map wdV, rfl, SqL.of hD2, _, rfl, ?_⟩
        cases b : xs.all wdV with
        | false =>
          refine if_neg' (by rw [ea, b]) ?_
          have z := fin G sm
          unfold difV at z
          rw [b] at z
          exact z
        | true =>
          refine if_pos' (by rw [ea, b]) ?_
          obtain ⟨zs, rfl⟩ := texts_of b
          refine ⟨_, rfl, a, zs, rfl, .inr (R5.Same.tupS sm hS), by rw [List.length_map] at few; omega, _, rfl, a, _, rfl, .inr (R5.Same.tupS sm hS), rfl, ?_⟩
          have z := fin G sm
          unfold difV at z
          rw [b, Bool.true_and] at z
          have e2 : decide (V.int (SetStr.cnt zs zs.length : Int) = V.int ((zs.map V.str).length : Int)) = decide (zs.map V.str).Nodup := by
            rw [List.length_map, decide_eq_decide.mpr nodup_str, ← cnt_is]
            exact decide_eq_decide.mpr ⟨fun q => V.int.inj q, fun q => by rw [q]⟩
          show Q (.bl _) G
          rw [e2]
          exact z
end
end R5
end

-- L5c
section
set_option Elab.async false
set_option linter.all false
set_option maxRecDepth 100000
namespace R5
open PySem L2 OwnOps OwnNe G1 StX
abbrev veT : List Value := [.type "ValueError", .type "Exception", .type "BaseException", .type "object"]
abbrev xd (v : V) : HO := .xd [(("given" : Str), v)]
/-- a class of kinds: its instances are plain, nothing of it is named as a field -/
structure KCls (K : PySem.W.Frag) (C : Addr) : Prop where
  cl : Cls K C
  n1 : NoAttr K C "name"
  n2 : NoAttr K C "pins"
  n3 : NoAttr K C "controls"
  n4 : NoAttr K C "is_path"
  n5 : NoAttr K C "orders"
  n6 : NoAttr K C "_line"
  n7 : NoAttr K C "_groups"
  n8 : NoAttr K C "_rules"
/-- the fields of a kind -/
def kf (nm pins ctl isp ords line : V) : List (Str × V) := [("name", nm), ("pins", pins), ("controls", ctl), ("is_path", isp), ("orders", ords), ("_line", line)]
theorem kf_put0 (nm pins ctl isp ords line : V) : putF "_line" line (putF "orders" ords (putF "is_path" isp (putF "controls" ctl (putF "pins" pins (putF "name" nm []))))) = kf nm pins ctl isp ords line := by kernel_rfl
section
variable (nm pins ctl isp ords line v : V)
theorem kf_pins (r : List (Str × V)) : putF "pins" v (kf nm pins ctl isp ords line ++ r) = kf nm v ctl isp ords line ++ r := by kernel_rfl
theorem kf_ctl (r : List (Str × V)) : putF "controls" v (kf nm pins ctl isp ords line ++ r) = kf nm pins v isp ords line ++ r := by kernel_rfl
theorem kf_isp (r : List (Str × V)) : putF "is_path" v (kf nm pins ctl isp ords line ++ r) = kf nm pins ctl v ords line ++ r := by kernel_rfl
theorem kf_ords (r : List (Str × V)) : putF "orders" v (kf nm pins ctl isp ords line ++ r) = kf nm pins ctl isp v line ++ r := by kernel_rfl
theorem kf_line (r : List (Str × V)) : putF "_line" v (kf nm pins ctl isp ords line ++ r) = kf nm pins ctl isp ords v ++ r := by kernel_rfl
theorem kp_pins : putF "pins" v (kf nm pins ctl isp ords line) = kf nm v ctl isp ords line := by kernel_rfl
theorem kp_ctl : putF "controls" v (kf nm pins ctl isp ords line) = kf nm pins v isp ords line := by kernel_rfl
theorem kp_isp : putF "is_path" v (kf nm pins ctl isp ords line) = kf nm pins ctl v ords line := by kernel_rfl
theorem kp_ords : putF "orders" v (kf nm pins ctl isp ords line) = kf nm pins ctl isp v line := by kernel_rfl
theorem kp_line : putF "_line" v (kf nm pins ctl isp ords line) = kf nm pins ctl isp ords v := by kernel_rfl
theorem kp_name' : (kf nm pins ctl isp ords line).lookup ("name" : Str) = some nm := by kernel_rfl
theorem kp_pins' : (kf nm pins ctl isp ords line).lookup ("pins" : Str) = some pins := by kernel_rfl
theorem kp_ctl' : (kf nm pins ctl isp ords line).lookup ("controls" : Str) = some ctl := by kernel_rfl
theorem kf_len : (kf nm pins ctl isp ords line).length = 6 := rfl
theorem kf_few : (kf nm pins ctl isp ords line).length < 1000 := by show 6 < 1000; decide
theorem kf_grp : putF "_groups" v (kf nm pins ctl isp ords line) = kf nm pins ctl isp ords line ++ [(("_groups" : Str), v)] := by kernel_rfl
theorem kf_rul : putF "_rules" v (kf nm pins ctl isp ords line) = kf nm pins ctl isp ords line ++ [(("_rules" : Str), v)] := by kernel_rfl
theorem kf_name' (r : List (Str × V)) : (kf nm pins ctl isp ords line ++ r).lookup ("name" : Str) = some nm := by kernel_rfl
theorem kf_pins' (r : List (Str × V)) : (kf nm pins ctl isp ords line ++ r).lookup ("pins" : Str) = some pins := by kernel_rfl
theorem kf_ctl' (r : List (Str × V)) : (kf nm pins ctl isp ords line ++ r).lookup ("controls" : Str) = some ctl := by kernel_rfl
theorem kf_isp' (r : List (Str × V)) : (kf nm pins ctl isp ords line ++ r).lookup ("is_path" : Str) = some isp := by kernel_rfl
theorem kf_ords' (r : List (Str × V)) : (kf nm pins ctl isp ords line ++ r).lookup ("orders" : Str) = some ords := by kernel_rfl
theorem kf_line' (r : List (Str × V)) : (kf nm pins ctl isp ords line ++ r).lookup ("_line" : Str) = some line := by kernel_rfl
theorem kf_rul' : (kf nm pins ctl isp ords line ++ [(("_rules" : Str), v)]).lookup ("_rules" : Str) = some v := by kernel_rfl
theorem kf_dir : (kf nm pins ctl isp ords line).lookup ("DIRECTED" : Str) = none := by kernel_rfl
theorem kf_dirR : (kf nm pins ctl isp ords line ++ [(("_rules" : Str), v)]).lookup ("DIRECTED" : Str) = none := by kernel_rfl
theorem kf_dirG : (kf nm pins ctl isp ords line ++ [(("_groups" : Str), v)]).lookup ("DIRECTED" : Str) = none := by kernel_rfl
end
/-- an instance in making: all else stands, its fields are fs -/
structure Mkg (p C dx : Addr) (H G : Hp) (fs : List (Str × V)) : Prop where
  sm : SameX p H G
  at_ : G p = some (.ins C dx fs)
theorem Mkg.new {p C dx t : Addr} {H G : Hp} {fs : List (Str × V)} {o : HO} (m : Mkg p C dx H G fs) (n : G t = none) : Mkg p C dx H (upd G t o) fs :=
  ⟨fun b u nb e => by rw [upd_ne (ne_of_none (m.sm b u nb e) n)]; exact m.sm b u nb e, by rw [upd_ne (ne_of_none m.at_ n)]; exact m.at_⟩
theorem Mkg.put {p C dx : Addr} {H G : Hp} {fs fs' : List (Str × V)} (m : Mkg p C dx H G fs) : Mkg p C dx H (upd G p (.ins C dx fs')) fs' :=
  ⟨fun b u nb e => by rw [upd_ne nb]; exact m.sm b u nb e, upd_same⟩
theorem Mkg.same {p C dx : Addr} {H G G' : Hp} {fs : List (Str × V)} (m : Mkg p C dx H G fs) (s : Same G G') : Mkg p C dx H G' fs := ⟨fun b u nb e => s _ _ (m.sm b u nb e), s _ _ m.at_⟩
theorem Mkg.start {p C dx : Addr} {H : Hp} {fs : List (Str × V)} (h : H p = some (.ins C dx fs)) : Mkg p C dx H H fs := ⟨SameX.refl _ _, h⟩
theorem pl {k : Str} {v : V} {n : Nat} : ∀ {l : List (Str × V)}, l.length ≤ n → (putF k v l).length ≤ n + 1
  | [], h => by show 1 ≤ n + 1; omega
  | (x, u) :: r, h => by
    unfold putF
    split
    · simp only [List.length_cons] at h ⊢; omega
    · have := pl (k := k) (v := v) (n := n - 1) (l := r) (by simp only [List.length_cons] at h; omega)
      simp only [List.length_cons] at h ⊢; omega
theorem p0 : ([] : List (Str × V)).length ≤ 0 := Nat.le_refl _
theorem plt {l : List (Str × V)} {n : Nat} (h : l.length ≤ n) (hn : n < 1000 := by decide) : l.length < 1000 := Nat.lt_of_le_of_lt h hn
theorem put_ne {G : Hp} {p t C dx : Addr} {o : HO} {fs : List (Str × V)} (h : G t = some o) (hp : G p = some (.ins C dx fs)) (no : ∀ C dx fs, o ≠ .ins C dx fs) {u : HO} : upd G p u t = some o := by
  rw [upd_ne (fun z => by rw [z, hp] at h; exact no _ _ _ (Option.some.inj h).symm)]
  exact h
theorem app_len (a b : Str) : (a ++ b).length = a.length + b.length := Str.length_append a b
theorem len0 : Str.empty.length = 0 := by decide +kernel
def kindT (x : Str) : Str := (Str.empty ++ "kind ") ++ x
section
variable {P : Program} {w : World} {K : PySem.W.Frag} {mg : Str → Option Value} {base : Heap} {CN fCN : Addr}
def spKI (K : PySem.W.Frag) (CN : Addr) : Sp := fun vs H Q E => ∃ (p dx C : Addr) (v : V), vs = [.ref p, v] ∧ H p = some (.ins C dx []) ∧ KCls K C ∧ Av H v ∧ Shr v ∧
  ((wdV v = false ∧ ∀ d H', SameX p H H' → H' d = some (xd v) → E (.ref CN) (some d) H') ∨
   (∃ x, v = .str x ∧ wd x = true ∧ ∀ H' a1 c a3, SameX p H H' → H' p = some (.ins C dx (kf (.str x) (.ref a1) (.ref c) (.bl false) (.ref a3) (.str (kindT x)))) → H' c = some (.tup []) → Q .non H'))
theorem upd_put {H : Hp} {p C dx : Addr} {a b : List (Str × V)} : upd (upd H p (.ins C dx a)) p (.ins C dx b) = upd H p (.ins C dx b) := by
  funext x
  unfold upd
  split <;> rfl
theorem ok_ki {f : Addr} {fd : FuncData} (F : Fun K "__init__" "Kind.__init__" (sKi 1) f fd) (eN : PySem.Giv.ErrTxt K mg "InvalidName" "InvalidName.__init__" "ValueError.__new__" veT CN fCN) (GW : Glb P w K mg base "is_word" 1 ["value"] spWord) :
    FnOk P w K mg base (L2.CX P w) 3 f fd ["self", "name"] (spKI K CN) := by
  obtain ⟨_, _, mW, kW, GW, bW⟩ := GW.ex
  have sc : FnScope ["self", "name"] ["self", "name"] (defScope (sKi 1)) := ⟨rfl, rfl, rfl, by decide +kernel, rfl, by decide +kernel, by decide +kernel⟩
  have hN := sc.nd
  refine F.okX sc (fun vs H Q E h => ?_) (fun cdv A outer s H vs Q E hr h => ?_)
  · obtain ⟨p, dx, C, v, rfl, _⟩ := h
    rfl
  · obtain ⟨p, dx, C, v, rfl, hp, kc, av, sh, k⟩ := h
    refine ⟨_, pss_cons (ps_if (pt_not (pt_val (pe_call GW (hr.mono (by decide)) (by rfl) mW kW bW .nil passL (pa_cons (pv 1) pa_nil)))) (pss_one (ps_raiseGiv rfl PySem.Giv.ok_VE eN hr (takes_of rfl rfl rfl rfl) (pa_cons (pv 1) pa_nil) (by rfl))) pss_nil)
      (pss_cons (ps_fld (pv 0) (pv 1) rfl)
      (pss_cons (ps_fld (pv 0) (pe_tup pa_nil) rfl)
      (pss_cons (ps_fld (pv 0) (pe_tup pa_nil) rfl)
      (pss_cons (ps_fld (pv 0) pe_bl rfl)
      (pss_cons (ps_fld (pv 0) (pe_tup (pa_cons (pe_tup pa_nil) pa_nil)) rfl)
      (pss_one (ps_fld (pv 0) (pe_joined (.cons pe_str (.cons (pe_fmt (pv 1)) .nil))) rfl))))))), ?_⟩
    refine ⟨_, rfl, v, rfl, av, sh, _, rfl, ?_⟩
    rcases k with ⟨b, k⟩ | ⟨x, rfl, b, k⟩
    · refine if_pos' (by rw [b]; rfl) ⟨_, rfl, _, rfl, fun d hd => ?_⟩
      exact k d _ (fun b u nb e => by rw [upd_ne (ne_of_none e hd)]; exact e) upd_same
    · refine if_neg' (by rw [show wdV (.str x) = wd x from rfl, b]; rfl) ?_
      have xs : x.length ≤ 12 := by
        unfold wd at b
        simp only [Bool.and_eq_true, decide_eq_true_eq] at b
        exact b.1.1.1.1.2
      have few : ∀ fs : List (Str × V), fs.length ≤ 8 → fs.length < 1000 := fun fs h => by omega
      refine ⟨_, rfl, _, rfl, p, C, dx, _, rfl, hp, kc.cl, kc.n1, (by show 0 < 1000; decide), ?_⟩
      have m0 := (Mkg.start hp).put (fs' := putF "name" (.str x) [])
      generalize upd H p (.ins C dx (putF "name" (.str x) [])) = G0 at m0 ⊢
      refine ⟨(by show 0 ≤ sizeLine; exact Nat.zero_le _), fun t1 h1 => ⟨_, rfl, p, C, dx, _, rfl, (m0.new h1).at_, kc.cl, kc.n2, plt (pl p0), ?_⟩⟩
      have m1 := (m0.new h1 (o := .tup [])).put (fs' := putF "pins" (.ref t1) (putF "name" (.str x) []))
      generalize upd (upd G0 t1 (.tup [])) p (.ins C dx (putF "pins" (.ref t1) (putF "name" (.str x) []))) = G1 at m1 ⊢
      refine ⟨(by show 0 ≤ sizeLine; exact Nat.zero_le _), fun t2 h2 => ⟨_, rfl, p, C, dx, _, rfl, (m1.new h2).at_, kc.cl, kc.n3, plt (pl (pl p0)), ?_⟩⟩
      have q2 : (upd G1 t2 (.tup [])) t2 = some (.tup []) := upd_same
      have m2 := m1.new h2 (o := .tup [])
      generalize upd G1 t2 (.tup []) = G2 at m2 q2 ⊢
      have q3 := put_ne q2 m2.at_ (by intro _ _ _ z; cases z) (u := .ins C dx (putF "controls" (.ref t2) (putF "pins" (.ref t1) (putF "name" (.str x) []))))
      have m3 := m2.put (fs' := putF "controls" (.ref t2) (putF "pins" (.ref t1) (putF "name" (.str x) [])))
      generalize upd G2 p (.ins C dx (putF "controls" (.ref t2) (putF "pins" (.ref t1) (putF "name" (.str x) [])))) = G3 at m3 q3 ⊢
      refine ⟨_, rfl, p, C, dx, _, rfl, m3.at_, kc.cl, kc.n4, plt (pl (pl (pl p0))), ?_⟩
      have q4 := put_ne q3 m3.at_ (by intro _ _ _ z; cases z) (u := .ins C dx (putF "is_path" (.bl false) (putF "controls" (.ref t2) (putF "pins" (.ref t1) (putF "name" (.str x) [])))))
      have m4 := m3.put (fs' := putF "is_path" (.bl false) (putF "controls" (.ref t2) (putF "pins" (.ref t1) (putF "name" (.str x) []))))
      generalize upd G3 p (.ins C dx (putF "is_path" (.bl false) (putF "controls" (.ref t2) (putF "pins" (.ref t1) (putF "name" (.str x) []))))) = G4 at m4 q4 ⊢
      refine ⟨(by show 0 ≤ sizeLine; exact Nat.zero_le _), fun t3 h3 => ⟨(by show 1 ≤ sizeLine; decide), fun t4 h4 => ⟨_, rfl, p, C, dx, _, rfl, ((m4.new h3).new h4).at_, kc.cl, kc.n5, plt (pl (pl (pl (pl p0)))), ?_⟩⟩⟩
      have q5 : (upd (upd G4 t3 (.tup [])) t4 (.tup [.ref t3])) t2 = some (.tup []) := same_upd h4 _ _ (same_upd h3 _ _ q4)
      have m5 := (m4.new h3 (o := .tup [])).new h4 (o := .tup [.ref t3])
      generalize upd (upd G4 t3 (.tup [])) t4 (.tup [.ref t3]) = G5 at m5 q5 ⊢
      have q6 := put_ne q5 m5.at_ (by intro _ _ _ z; cases z) (u := .ins C dx (putF "orders" (.ref t4) (putF "is_path" (.bl false) (putF "controls" (.ref t2) (putF "pins" (.ref t1) (putF "name" (.str x) []))))))
      have m6 := m5.put (fs' := putF "orders" (.ref t4) (putF "is_path" (.bl false) (putF "controls" (.ref t2) (putF "pins" (.ref t1) (putF "name" (.str x) [])))))
      generalize upd G5 p (.ins C dx (putF "orders" (.ref t4) (putF "is_path" (.bl false) (putF "controls" (.ref t2) (putF "pins" (.ref t1) (putF "name" (.str x) [])))))) = G6 at m6 q6 ⊢
      have line : 1000 ≤ sizeLine := by decide
      refine ⟨("kind " : Str), rfl, ?_, _, rfl, .inl ⟨x, rfl, by omega, x, rfl, ?_, _, rfl, p, C, dx, _, rfl, m6.at_, kc.cl, kc.n6, plt (pl (pl (pl (pl (pl p0))))), ?_⟩⟩
      · rw [app_len, len0]
        exact Nat.le_trans (by decide +kernel : 0 + (Str.ofString "kind ").length ≤ 1000) line
      · rw [app_len, app_len, len0, show (Str.ofString "kind ").length = 5 by decide +kernel]
        omega
      · have e := kf_put0 (.str x) (.ref t1) (.ref t2) (.bl false) (.ref t4) (.str (kindT x))
        have m7 := m6.put (fs' := kf (.str x) (.ref t1) (.ref t2) (.bl false) (.ref t4) (.str (kindT x)))
        have q7 := put_ne q6 m6.at_ (by intro _ _ _ z; cases z) (u := .ins C dx (kf (.str x) (.ref t1) (.ref t2) (.bl false) (.ref t4) (.str (kindT x))))
        rw [← e] at m7 q7
        have z := k _ t1 t2 t4 m7.sm (by rw [← e]; exact m7.at_) q7
        exact z
end
end R5
end

-- L5d
section
set_option Elab.async false
set_option linter.all false
set_option maxRecDepth 100000
set_option exponentiation.threshold 10000
namespace R5
open PySem L2 OwnOps OwnNe G1 StX
/-- the words of rules -/
def rwd (w : Bool) : Str := if w then "sum" else "inverse"
/-- what is known of the class ValueRule -/
structure RTxt (K : PySem.W.Frag) (mg : Str → Option Value) (D CK fCK : Addr) : Prop where
  cl : Cls K D
  nW : NoAttr K D "word"
  gD : mg "ValueRule" = some (.ref D)
  eK : PySem.Giv.ErrTxt K mg "InvalidKind" "InvalidKind.__init__" "ValueError.__new__" veT CK fCK
  ha : PySem.W.findIn K (.ref D) "__class__" = some (some (.builtin "object.__class__"))
  hn : PySem.W.specialIn K (.builtin "object.__class__") "__get__" = some (some (.builtin "getset_descriptor.__get__"))
  htk : PySem.W.takesIn K (.builtin "object.__class__") = some true
  hm : PySem.W.mroIn K D (.type "object") = some true
  kDD : PySem.W.kitOne K (.ref D) (.ref D) = some true
  ksD : PySem.W.kitOne K (.type "str") (.ref D) = some false
def rf (w : Bool) : List (Str × V) := putF "word" (.str (rwd w)) []
theorem rf_word (w : Bool) : (rf w).lookup ("word" : Str) = some (.str (rwd w)) := by
  unfold rf
  rw [lookup_putF, if_pos rfl]
theorem rf_no (w : Bool) {m : Str} (h : ¬ m = "word") : (rf w).lookup m = none := by
  unfold rf
  rw [lookup_putF, if_neg h]
  all_goals rfl
def Rul (D : Addr) (H : Hp) (p : Addr) (w : Bool) : Prop := ∃ dx, H p = some (.ins D dx (rf w))
theorem Rul.same {D : Addr} {H H' : Hp} {p : Addr} {w : Bool} (h : Rul D H p w) (e : Same H H') : Rul D H' p w := let ⟨dx, q⟩ := h; ⟨dx, e _ _ q⟩
/-- a text that is not the other value -/
def WD : V → V → Hp → Bool → Prop := fun x y H b => ∃ z, x = .str z ∧ b = false ∧ Av H y ∧ y ≠ .str z
theorem mon_WD : ∀ x y H H' b, Ext H H' → WD x y H b → WD x y H' b := fun _ _ _ _ _ e ⟨z, h1, h2, h3, h4⟩ => ⟨z, h1, h2, h3.same e, h4⟩
theorem eqB_WD {X : Cx} : EqB X 2 WD := by
  intro A pins s σ H x y u v bb sb I rx ry d
  obtain ⟨z, rfl, rfl, wv, ne⟩ := d
  obtain ⟨tk, rfl⟩ := (show ∃ t, u = Value.str z t from rx)
  have fin : (fun (r : Bool) s' => r = false ∧ ∃ H', L2.Inv X pins σ H' s' ∧ Ext H H') false s := ⟨rfl, H, I, Ext.rfl'⟩
  have hu : A.units < cLine := sb.room.units0
  cases wv with
  | bl b => cases (show v = Value.bool b from ry); exact SeqAt.EqAt.str_bool z tk b X.prog X.w X.xe _ fin
  | non => cases (show v = Value.none from ry); exact SeqAt.EqAt.str_none z tk X.prog X.w X.xe _ fin
  | str x =>
    obtain ⟨t, rfl⟩ := (show ∃ t, v = Value.str x t from ry)
    have q := SeqAt.EqAt.str_str (A := A) (s := s) z tk x t
    have e : (z == x) = false := beq_eq_false_iff_ne.mpr fun e => ne (by rw [e])
    rw [e] at q
    exact q X.prog X.w X.xe _ fin
  | lst e =>
    cases (show v = Value.ref _ from ry)
    obtain ⟨_, _, n, _, h1⟩ := (show ObjOk X.prog X.w H s.heap _ (.lst _) from I.hok _ _ e)
    exact SeqAt.EqAt.str_list z tk ⟨_, h1, rfl, n, rfl⟩ hu X.prog X.w X.xe _ fin
  | tup e =>
    cases (show v = Value.ref _ from ry)
    obtain ⟨_, _, _, o, h1, h2, n, h3⟩ := (show ObjOk X.prog X.w H s.heap _ (.tup _) from I.hok _ _ e)
    exact SeqAt.EqAt.str_tuple z tk ⟨o, h1, h2, n, h3⟩ hu X.prog X.w X.xe _ fin
  | int i => obtain ⟨t, rfl⟩ := (show ∃ t, v = Value.int i t from ry); exact SeqAt.EqAt.str_int z tk i t X.prog X.w X.xe _ fin
/-- no word of a rule -/
def NoWd (H : Hp) (v : V) : Prop := Av H v ∧ ∀ w, v ≠ .str (rwd w)
def spVI (D CK : Addr) : Sp := fun vs H Q E => ∃ (p dx : Addr) (v : V), vs = [.ref p, v] ∧ H p = some (.ins D dx []) ∧ ((∃ w, v = .str (rwd w) ∧ ∀ H', Same H H' → Q .non (upd H' p (.ins D dx (rf w)))) ∨
  (NoWd H v ∧ ∀ d H', Same H H' → H' d = some (xd v) → E (.ref CK) (some d) H'))
def spVEq (D : Addr) : Sp := fun vs H Q _ => ∃ p w v, vs = [.ref p, v] ∧ Rul D H p w ∧ ((∃ q w', v = .ref q ∧ Rul D H q w' ∧ Q (.bl (w == w')) H) ∨ (∃ z, v = .str z ∧ Q (.bl false) H))
theorem rwd_rwd (w w' : Bool) : decide (V.str (rwd w) = V.str (rwd w')) = (w == w') := by
  cases w <;> cases w' <;> first | exact decide_eq_true rfl | exact decide_eq_false (fun z => absurd (V.str.inj z) (by decide +kernel))
section
variable {P : Program} {w : World} {K : PySem.W.Frag} {mg : Str → Option Value} {base : Heap} {D CK fCK : Addr}
theorem ok_vi {f : Addr} {fd : FuncData} (F : Fun K "__init__" "ValueRule.__init__" (sVR 0) f fd) (U : RTxt K mg D CK fCK) :
    FnOk P w K mg base (L2.CX P w) 4 f fd ["self", "word"] (spVI D CK) := by
  have sc : FnScope ["self", "word"] ["self", "word"] (defScope (sVR 0)) := ⟨rfl, rfl, rfl, by decide +kernel, rfl, by decide +kernel, by decide +kernel⟩
  refine F.okX sc (fun vs H Q E h => ?_) (fun cdv A outer s H vs Q E hr h => ?_)
  · obtain ⟨p, dx, v, rfl, _⟩ := h
    rfl
  · obtain ⟨p, dx, v, rfl, hp, k⟩ := h
    refine ⟨_, pss_cons (ps_if (pt_cmpR (op := .NotIn) (op_or (op_notInB (n := 2) mon_WD eqB_WD hr) op_notIn_seq) (pv 1) (pe_tup (pa_cons pe_str (pa_cons pe_str pa_nil))) (by rfl))
        (pss_one (ps_raiseGiv rfl PySem.Giv.ok_VE U.eK hr (takes_of rfl rfl rfl rfl) (pa_cons (pv 1) pa_nil) (by rfl))) pss_nil)
      (pss_one (ps_fld (pv 0) (pv 1) rfl)), ?_⟩
    refine ⟨_, rfl, (by show 2 ≤ sizeLine; decide), fun tp np => ?_⟩
    have s0 := same_upd (o := .tup [.str "sum", .str "inverse"]) np
    have e0 : (upd H tp (.tup [.str "sum", .str "inverse"])) tp = some (.tup [.str "sum", .str "inverse"]) := upd_same
    generalize upd H tp (.tup [.str "sum", .str "inverse"]) = G at s0 e0 ⊢
    rcases k with ⟨w', rfl, k⟩ | ⟨⟨wv, nw⟩, k⟩
    · refine .inr ⟨tp, _, rfl, .inr (SqT.of e0), rfl, rfl, _, rfl, if_neg' (by cases w' <;> decide +kernel) ?_⟩
      exact ⟨_, rfl, _, rfl, p, D, dx, _, rfl, s0 _ _ hp, U.cl, U.nW, (by show 0 < 1000; decide), k G s0⟩
    · refine .inl ⟨tp, _, rfl, e0, fun z hz => ?_, fun H' ex => ⟨_, rfl, if_pos' rfl ⟨_, rfl, _, rfl, fun d hd => k d _ (s0.trans (Same.trans ex (same_upd hd))) upd_same⟩⟩⟩
      rcases List.mem_cons.mp hz with rfl | hz
      · exact ⟨_, rfl, rfl, wv.same s0, nw true⟩
      · rw [List.mem_singleton.mp hz]
        exact ⟨_, rfl, rfl, wv.same s0, nw false⟩
theorem ok_veq {f : Addr} {fd : FuncData} (F : Fun K "__eq__" "ValueRule.__eq__" (sVR 3) f fd) (T : Bi mg) (U : RTxt K mg D CK fCK) : FnOk P w K mg base (L2.CX P w) 1 f fd ["self", "other"] (spVEq D) := by
  have sc : FnScope ["self", "other"] ["self", "other"] (defScope (sVR 3)) := ⟨rfl, rfl, rfl, by decide +kernel, rfl, by decide +kernel, by decide +kernel⟩
  refine F.okX sc (fun vs H Q E h => ?_) (fun cdv A outer s H vs Q E hr h => ?_)
  · obtain ⟨p, w', v, rfl, _⟩ := h
    rfl
  · obtain ⟨p, w', v, rfl, ⟨dx, hp⟩, k⟩ := h
    refine ⟨_, pss_one (ps_ret (pe_and (pe_callB call_isi (by rfl) T.isi (by decide +kernel) (pa_cons (pv 1) (pa_cons (pe_glob (v := .ref D) (by rfl) U.gD rfl) pa_nil))) (pe_one (pe_cmpR op_eq (pe_fld (pv 0) rfl) (pe_fld (pv 1) rfl) (nomark _))))), ?_⟩
    rcases k with ⟨q, w2, rfl, ⟨dq, hq⟩, k⟩ | ⟨z, rfl, k⟩
    · refine ⟨_, rfl, _, _, _, _, _, rfl, .own D, .base (.ins hq U.cl U.ha U.hn U.htk U.hm), U.kDD, _, rfl, iteT ⟨_, rfl, p, D, dx, _, _, rfl, hp, U.cl, U.nW, rf_word _, _, rfl, q, D, dq, _, _, rfl, hq, U.cl, U.nW, rf_word _, rfl, ?_⟩⟩
      rw [rwd_rwd]
      exact k
    · exact ⟨_, rfl, _, _, _, _, _, rfl, .own D, .base (.str z), U.ksD, _, rfl, iteF k⟩
/-! ### _as_rule: None, a word, a rule -/
theorem Rul.word {D : Addr} {H : Hp} {p : Addr} {w : Bool} (r : Rul D H p w) : ∃ dx, H p = some (.ins D dx (rf w)) := r
structure MkV (P : Program) (w : World) (K : PySem.W.Frag) (mg : Str → Option Value) (base : Heap) (D CK : Addr) : Prop where
  ex : ∃ f fd, Mk K D f ∧ FnOk P w K mg base (L2.CX P w) 4 f fd ["self", "word"] (spVI D CK) ∧ L2.Binds K fd ["self", "word"] []
def spAsR (D CK : Addr) : Sp := fun vs H Q E => ∃ v, vs = [v] ∧ ((v = .non ∧ Q .non H) ∨
  (((∃ w, v = .str (rwd w) ∧ ∀ q H', Same H H' → Rul D H' q w → Q (.ref q) H') ∨ (∃ w q, v = .ref q ∧ Rul D H q w ∧ ∀ q' H', Same H H' → Rul D H' q' w → Q (.ref q') H')) ∨
   (v ≠ .non ∧ NoWd H v ∧ ∀ d H', Same H H' → H' d = some (xd v) → E (.ref CK) (some d) H')))
theorem ok_asr {f : Addr} {fd : FuncData} (F : Fun K "_as_rule" "_as_rule" sAsR f fd) (T : Bi mg) (U : RTxt K mg D CK fCK) (M : MkV P w K mg base D CK) (ks : ∀ T : String, T ∈ ["str", "int", "bool", "tuple", "list", "NoneType"] → PySem.W.kitOne K (.type T) (.ref D) = some false) :
    FnOk P w K mg base (L2.CX P w) 6 f fd ["value"] (spAsR D CK) := by
  obtain ⟨fV, fdV, mk, GV, bV⟩ := M.ex
  have sc : FnScope ["value"] ["value"] (defScope sAsR) := ⟨rfl, rfl, rfl, by decide +kernel, rfl, by decide +kernel, by decide +kernel⟩
  have hN := sc.nd
  refine F.okX sc (fun vs H Q E h => ?_) (fun cdv A outer s H vs Q E hr h => ?_)
  · obtain ⟨v, rfl, _⟩ := h
    rfl
  · obtain ⟨v, rfl, k⟩ := h
    refine ⟨_, pss_cons (ps_if (pt_cmpR op_isN (pv 0) pe_non (nomark _)) (pss_one (ps_ret pe_non)) pss_nil)
      (pss_one (ps_ret (pe_make (E := E) mk GV (hr.mono (by decide)) (by rfl) U.gD bV .nil (passes_call (takes_of rfl rfl rfl rfl) (fun _ _ _ _ h => h)) (pa_cons (pe_ifExp (pt_val (pe_callB call_isi (by rfl) T.isi (by decide +kernel) (pa_cons (pv 0) (pa_cons (pe_glob (v := .ref D) (by rfl) U.gD rfl) pa_nil)))) (pe_fld (pv 0) rfl) (pv 0)) pa_nil)))), ?_⟩
    have made : ∀ {G : Hp} {x d : Addr} {w : Bool} {H' : Hp}, G x = none → G d = none → Same (upd (upd G d (.own x)) x (.ins D d [])) H' → Same G (upd H' x (.ins D d (rf w))) := fun nx nd s => same_put ((same_new nx nd).trans s) nx
    rcases k with ⟨rfl, k⟩ | (⟨w', rfl, k⟩ | ⟨w', q, rfl, ⟨dq, hq⟩, k⟩) | ⟨nn, nw, k⟩
    · exact ⟨_, rfl, rfl, _, rfl, if_pos' rfl k⟩
    · refine ⟨_, rfl, rfl, _, rfl, if_neg' rfl ?_⟩
      refine ⟨_, rfl, _, _, _, _, _, rfl, .own D, .base (.str _), U.ksD, _, rfl, iteF ⟨_, rfl, fun x dx nx nd ne => ?_⟩⟩
      exact ⟨x, dx, _, rfl, upd_same, .inl ⟨w', rfl, fun H' s => ⟨rfl, k x _ (made nx nd s) ⟨dx, upd_same⟩⟩⟩⟩
    · refine ⟨_, rfl, rfl, _, rfl, if_neg' rfl ?_⟩
      refine ⟨_, rfl, _, _, _, _, _, rfl, .own D, .base (.ins hq U.cl U.ha U.hn U.htk U.hm), U.kDD, _, rfl, iteT ⟨_, rfl, q, D, dq, _, _, rfl, hq, U.cl, U.nW, rf_word _, fun x dx nx nd ne => ?_⟩⟩
      exact ⟨x, dx, _, rfl, upd_same, .inl ⟨w', rfl, fun H' s => ⟨rfl, k x _ (made nx nd s) ⟨dx, upd_same⟩⟩⟩⟩
    · refine ⟨_, rfl, rfl, _, rfl, if_neg' (decide_eq_false nn) ?_⟩
      have bad : ∀ x dx, H x = none → H dx = none → dx ≠ x → spVI D CK (.ref x :: ([v] ++ [])) (upd (upd H dx (.own x)) x (.ins D dx [])) (fun u H2 => u = .non ∧ Q (.ref x) H2) E := fun x dx nx nd ne =>
        ⟨x, dx, v, rfl, upd_same, .inr ⟨⟨nw.1.same (same_new nx nd), nw.2⟩, fun d H' s e => k d H' ((same_new nx nd).trans s) e⟩⟩
      cases nw.1 with
      | non => exact absurd rfl nn
      | str z => exact ⟨_, rfl, _, _, _, _, _, rfl, .own D, .base (.str z), ks _ (by simp), _, rfl, iteF ⟨_, rfl, bad⟩⟩
      | int i => exact ⟨_, rfl, _, _, _, _, _, rfl, .own D, .base (.int i), ks _ (by simp), _, rfl, iteF ⟨_, rfl, bad⟩⟩
      | bl b => exact ⟨_, rfl, _, _, _, _, _, rfl, .own D, .base (.bl b), ks _ (by simp), _, rfl, iteF ⟨_, rfl, bad⟩⟩
      | lst e => exact ⟨_, rfl, _, _, _, _, _, rfl, .own D, .base (.lst e), ks _ (by simp), _, rfl, iteF ⟨_, rfl, bad⟩⟩
      | tup e => exact ⟨_, rfl, _, _, _, _, _, rfl, .own D, .base (.tup e), ks _ (by simp), _, rfl, iteF ⟨_, rfl, bad⟩⟩
end
end R5
end

-- L5e
section
set_option Elab.async false
set_option linter.all false
set_option maxRecDepth 100000
set_option exponentiation.threshold 10000
namespace R5
open PySem L2 OwnOps OwnNe G1 StX
def worded (ws : List Str) (tail : Str) : Str := Txt.join " " (if tail.length = 0 then ws else ws ++ [(":" : Str), tail])
def size (ws : List Str) : Nat := (ws.map (·.length)).sum
section
variable {P : Program} {w : World} {K : PySem.W.Frag} {mg : Str → Option Value} {base : Heap}
def spWrd (K : PySem.W.Frag) : Sp := fun vs H Q _ => ∃ a ws tail, vs = [.ref a, .str tail] ∧ SqL K H a (ws.map V.str) ∧ ws.length ≤ 1000 ∧ size ws ≤ 100000 ∧ tail.length ≤ 100000 ∧ ∀ H', Same H H' → Q (.str (worded ws tail)) H'
theorem ok_wrd {f : Addr} {fd : FuncData} (F : Fun K "_worded" "_worded" sWrd f fd) : FnOk P w K mg base (L2.CX P w) 1 f fd ["words", "tail"] (spWrd K) := by
  have sc : FnScope ["words", "tail"] ["words", "tail"] (defScope sWrd) := ⟨rfl, rfl, rfl, by decide +kernel, rfl, by decide +kernel, by decide +kernel⟩
  refine F.okX sc (fun vs H Q E h => ?_) (fun cdv A outer s H vs Q E hr h => ?_)
  · obtain ⟨a, ws, tail, rfl, _⟩ := h
    rfl
  · obtain ⟨a, ws, tail, rfl, hS, n1, n2, n3, fin⟩ := h
    refine ⟨_, pss_one (ps_ret (pe_join pe_str (pe_ifExp (pt_truth (pv 1) (fun _ => rfl)) (pe_lst (pa_star (pv 0) (pa_cons pe_str (pa_cons (pv 1) pa_nil)))) (pv 0)))), ?_⟩
    have one : (Str.ofString " ").length = 1 := by decide +kernel
    have line : sizeLine = 16777216 := by decide
    refine ⟨⟨_, rfl⟩, _, rfl, _, ⟨by omega, rfl⟩, ?_⟩
    by_cases h0 : tail.length = 0
    · refine if_neg' (by rw [h0]; rfl) ⟨_, rfl, " ", a, ws, rfl, rfl, .inl hS, ?_, ?_⟩
      · unfold size at n2
        rw [one]
        omega
      · have z := fin H (Same.refl H)
        unfold worded at z
        rw [if_pos h0] at z
        exact z
    · refine if_pos' (by simp [h0]) ⟨_, rfl, a, _, rfl, .inr hS, _, rfl, ?_, fun p hp => ?_⟩
      · simp only [List.length_append, List.length_map, List.length_cons, List.length_nil]; omega
      · have e : ws.map V.str ++ [V.str ":", V.str tail] = (ws ++ [(":" : Str), tail]).map V.str := by rw [List.map_append]; rfl
        refine ⟨" ", p, ws ++ [(":" : Str), tail], rfl, rfl, .inl (SqL.of ?_), ?_, ?_⟩
        · rw [← e]
          exact upd_same
        · unfold size at n2
          rw [one, List.map_append, List.sum_append, List.length_append]
          simp only [List.map_cons, List.map_nil, List.sum_cons, List.sum_nil, List.length_cons, List.length_nil]
          rw [show (Str.ofString ":").length = 1 by decide +kernel]
          omega
        · have z := fin _ (same_upd hp (o := .lst (ws.map V.str ++ [V.str ":", V.str tail])))
          unfold worded at z
          rw [if_neg h0] at z
          exact z
end
end R5
end

-- L5f
section
set_option Elab.async false
set_option linter.all false
set_option maxRecDepth 100000
set_option exponentiation.threshold 10000
namespace R5
open PySem L2 OwnOps OwnNe G1 StX
abbrev RR := Option (Bool × Addr)
def rKvs (a b : RR) : List (Key × V) := (match a with | some (_, q) => [(Sum.inr "row", V.ref q)] | none => []) ++ (match b with | some (_, q) => [(Sum.inr "side", V.ref q)] | none => [])
structure Ruls (D : Addr) (H : Hp) (r : Addr) (a b : RR) : Prop where
  at_ : H r = some (.dK (rKvs a b))
  ra : ∀ w q, a = some (w, q) → Rul D H q w
  rb : ∀ w q, b = some (w, q) → Rul D H q w
theorem Ruls.same {D : Addr} {H H' : Hp} {r : Addr} {a b : RR} (h : Ruls D H r a b) (s : Same H H') : Ruls D H' r a b := ⟨s _ _ h.at_, fun w q e => (h.ra w q e).same s, fun w q e => (h.rb w q e).same s⟩
def wayT (k : Str) (a : RR) : List Str := match a with | some (w, _) => [k, rwd w] | none => []
def pathT (d : Bool) (x : Str) (cs : List Str) (a b : RR) : Str := worded ("path" :: x :: cs) (Txt.join " " ((if d then [("directed" : Str)] else []) ++ (wayT "row" a ++ wayT "side" b)))
theorem val_row (a b : RR) : valV (rKvs a b) (Sum.inr ("row" : Str)) = a.map fun p => V.ref p.2 := by
  have n1 : ¬ ((Sum.inr ("side" : Str) : Key) = Sum.inr ("row" : Str)) := by decide +kernel
  rcases a with _ | ⟨w, q⟩ <;> rcases b with _ | ⟨w', q'⟩ <;> unfold rKvs <;> first | rfl | exact valV_pos rfl | (exact (valV_neg n1).trans rfl)
theorem val_side (a b : RR) : valV (rKvs a b) (Sum.inr ("side" : Str)) = b.map fun p => V.ref p.2 := by
  have n1 : ¬ ((Sum.inr ("row" : Str) : Key) = Sum.inr ("side" : Str)) := by decide +kernel
  rcases a with _ | ⟨w, q⟩ <;> rcases b with _ | ⟨w', q'⟩ <;> unfold rKvs <;> first | rfl | exact valV_pos rfl | (exact (valV_neg n1).trans rfl) | (exact (valV_neg n1).trans (valV_pos rfl))
/-- the ways, by place -/
def way (i : Nat) : Str := if i = 0 then "row" else "side"
def rul (a b : RR) (i : Nat) : RR := if i = 0 then a else b
def told (a b : RR) (n : Nat) : List Str := (List.range n).flatMap fun i => wayT (way i) (rul a b i)
theorem told_succ (a b : RR) (n : Nat) : told a b (n + 1) = told a b n ++ wayT (way n) (rul a b n) := by
  unfold told
  rw [List.range_succ, List.flatMap_append]
  simp
theorem told_len (a b : RR) : ∀ n, (told a b n).length ≤ 2 * n
  | 0 => Nat.le_refl _
  | n + 1 => by
    rw [told_succ, List.length_append]
    have h := told_len a b n
    have : (wayT (way n) (rul a b n)).length ≤ 2 := by
      unfold wayT
      split <;> simp
    omega
theorem val_way (a b : RR) {i : Nat} (hi : i < 2) : valV (rKvs a b) (Sum.inr (way i)) = (rul a b i).map fun p => V.ref p.2 := by
  rcases (show i = 0 ∨ i = 1 by omega) with rfl | rfl
  · exact val_row a b
  · exact val_side a b
theorem Ruls.at_way {D : Addr} {H : Hp} {r : Addr} {a b : RR} (h : Ruls D H r a b) {i : Nat} {w : Bool} {q : Addr} (e : rul a b i = some (w, q)) : Rul D H q w := by
  unfold rul at e
  split at e
  · exact h.ra w q e
  · exact h.rb w q e
theorem if_lst {c : Bool} {ta tb : TA} {σ : L2.St} {H : Hp} {Q : VK} (C : V → Hp → Prop) (k : ∀ v G, C v G → Q v G) (h1 : c = true → tLst ta σ H C) (h2 : c = false → tLst tb σ H C)
    (m1 : ∀ Q1 Q2 : List V → Hp → Prop, (∀ xs G, Q1 xs G → Q2 xs G) → ta σ H Q1 → ta σ H Q2) (m2 : ∀ Q1 Q2 : List V → Hp → Prop, (∀ xs G, Q1 xs G → Q2 xs G) → tb σ H Q1 → tb σ H Q2) :
    if c = true then tLst ta σ H Q else tLst tb σ H Q := by
  cases c with
  | true => exact m1 _ _ (fun xs G ⟨e, f⟩ => ⟨e, fun p hp => k _ _ (f p hp)⟩) (h1 rfl)
  | false => exact m2 _ _ (fun xs G ⟨e, f⟩ => ⟨e, fun p hp => k _ _ (f p hp)⟩) (h2 rfl)
theorem way_at {i : Nat} {x : V} (h : [V.str "row", V.str "side"][i]? = some x) : i < 2 ∧ x = .str (way i) := by
  match i, h with
  | 0, h => cases h; exact ⟨by omega, rfl⟩
  | 1, h => cases h; exact ⟨by omega, rfl⟩
theorem sum_le {ys : List Str} {n : Nat} : (∀ y ∈ ys, y.length ≤ n) → (ys.map (·.length)).sum ≤ n * ys.length := by
  induction ys with
  | nil => intro _; exact Nat.zero_le _
  | cons y r ih =>
    intro h
    rw [List.map_cons, List.sum_cons, List.length_cons, Nat.mul_add, Nat.mul_one]
    have h1 := h y List.mem_cons_self
    have h2 := ih fun z hz => h z (List.mem_cons_of_mem _ hz)
    omega
theorem join_le {a : Str} (ys : List Str) : (Txt.join a ys).length ≤ (ys.map (·.length)).sum + ys.length * a.length := by
  have h := StrLaws.join_length_le a ys
  unfold Txt.join
  rw [StrLaws.glued_eq_join]
  exact h
abbrev NPL : List Str := ["kind", "rules", "words", "ruled", "way", "word"]
section
variable {P : Program} {w : World} {K : PySem.W.Frag} {mg : Str → Option Value} {base : Heap} {D CK fCK : Addr}
def spPL (K : PySem.W.Frag) (D : Addr) : Sp := fun vs H Q _ => ∃ (k r C dx c : Addr) (fs : List (Str × V)) (x : Str) (cs : List Str) (d : Bool) (u : Value) (a b : RR), vs = [.ref k, .ref r] ∧ H k = some (.ins C dx fs) ∧ KCls K C ∧ Con K C "DIRECTED" (.bl d) u ∧
  fs.lookup ("DIRECTED" : Str) = none ∧ fs.lookup ("name" : Str) = some (.str x) ∧ fs.lookup ("controls" : Str) = some (.ref c) ∧ H c = some (.tup (cs.map V.str)) ∧ Ruls D H r a b ∧ x.length ≤ 12 ∧ cs.length ≤ 6 ∧ (∀ y ∈ cs, y.length ≤ 12) ∧ ∀ H', Same H H' → Q (.str (pathT d x cs a b)) H'
theorem ok_pl {f : Addr} {fd : FuncData} (F : Fun K "_path_line" "_path_line" sPL f fd) (T : Bi mg) (U : RTxt K mg D CK fCK) (GW : Glb P w K mg base "_worded" 1 ["words", "tail"] (spWrd K)) : FnOk P w K mg base (L2.CX P w) 2 f fd ["kind", "rules"] (spPL K D) := by
  obtain ⟨_, _, mW, kW, GW, bW⟩ := GW.ex
  have sc : FnScope NPL ["kind", "rules"] (defScope sPL) := ⟨rfl, rfl, rfl, by decide +kernel, rfl, by decide +kernel, by decide +kernel⟩
  have hN := sc.nd
  refine F.okX sc (fun vs H Q E h => ?_) (fun cdv A outer s H vs Q E hr h => ?_)
  · obtain ⟨k, r, C, dx, c, fs, x, cs, d, u, a, b, rfl, _⟩ := h
    rfl
  · obtain ⟨k, r, C, dx, c, fs, x, cs, d, u, a, b, rfl, hk, kc, con, l0, l1, l2, hc, ru, x12, c6, c12, fin⟩ := h
    refine ⟨_, pss_cons (ps_set (i := 2) hN rfl (Or.inl rfl) (pe_ifExp (pt_val (pe_con (pv 0) rfl)) (pe_lst (pa_cons pe_str pa_nil)) (pe_lst pa_nil)))
      (pss_cons (ps_setLc2 (i := 3) (own := [("way", 4), ("word", 5)]) (vs1 := [5]) (g := gName 4) (g1 := gName 5) (tt := tB (tDIn (tVar 4) (tVar 1))) (tt1 := tYes) (wi1 := iTup K (tTup (tCons (tVar 4) (tCons (tFld K (tDGet (tVar 1) (tVar 4)) "word") tNil)))) (te := tVar 5) rfl hN rfl rfl (sw_true rfl rfl rfl (by decide +kernel))
          (pi_tup (pe_tup (pa_cons pe_str (pa_cons pe_str pa_nil)))) (blkOk_by (N := NPL) (sc := defScope sPL) (by decide +kernel)) (by decide) (fun _ _ _ _ _ => pg_name (i := 4) hN rfl (Or.inl rfl)) (fun _ _ _ _ _ => pts_one (pt_cmp (pc_din (hu_of hr) (pv 4) (pv 1))))
          (fun _ _ _ _ _ => pi_tup (pe_tup (pa_cons (pv 4) (pa_cons (pe_fld (pe_dget (hu_of hr) (pv 1) (pv 4) (fun _ _ => rfl)) rfl) pa_nil)))) (fun _ _ _ _ _ => pg_name (i := 5) hN rfl (Or.inl rfl)) (fun _ _ _ _ _ => pts_nil) (fun _ _ _ _ _ => pv 5))
      (pss_one (ps_ret (pe_call GW hr (by rfl) mW kW bW .nil passL (pa_cons (pe_lst (pa_cons pe_str (pa_cons (pe_fld (pv 0) rfl) (pa_star (pe_fld (pv 0) rfl) pa_nil)))) (pa_cons (pe_join pe_str (pe_lst (pa_star (pv 2) (pa_star (pv 3) pa_nil)))) pa_nil)))))), ?_⟩
    have line : 1000 ≤ sizeLine := by decide
    refine ⟨_, rfl, k, C, dx, fs, _, u, rfl, hk, kc.cl, con, l0, _, rfl, if_lst (fun v G => ∃ p, v = .ref p ∧ Same H G ∧ G p = some (.lst (((if d then [("directed" : Str)] else []) : List Str).map V.str))) ?_ (fun h => ?_) (fun h => ?_) (fun _ _ h z => h _ _ z) (fun _ _ h z => h _ _ z)⟩
    rotate_left
    · exact ⟨by show 1 ≤ sizeLine; omega, fun p np => ⟨p, rfl, same_upd np, by rw [h]; exact upd_same⟩⟩
    · exact ⟨by show 0 ≤ sizeLine; omega, fun p np => ⟨p, rfl, same_upd np, by rw [h]; exact upd_same⟩⟩
    rintro _ G0 ⟨pw, rfl, s0, hpw⟩
    refine ⟨by show 2 ≤ sizeLine; omega, fun tp np => ⟨tp, rfl, ⟨_, SqT.of upd_same⟩, fun Dl nD => ?_⟩⟩
    have s1 : Same G0 (upd G0 tp (.tup [.str "row", .str "side"])) := same_upd np
    have et : (upd G0 tp (.tup [.str "row", .str "side"])) tp = some (.tup [.str "row", .str "side"]) := upd_same
    generalize upd G0 tp (.tup [.str "row", .str "side"]) = G1 at s1 et nD ⊢
    have s01 : Same H G1 := s0.trans s1
    have ru1 := ru.same s01
    refine walk_it (walk_tup (K := K) (a := tp) (xs := [.str "row", .str "side"])) (fun i G2 => Same G1 G2 ∧ G2 Dl = some (.lst ((told a b i).map V.str))) ⟨same_upd nD, upd_same⟩ (fun i G2 _ ⟨sm2, _⟩ => SqT.of (sm2 _ _ et)) (fun i x' G2 G3 hi ⟨sm2, hD2⟩ ⟨e, hx⟩ => ?_) (fun G2 ⟨sm2, hD2⟩ => ?_)
    · subst e
      obtain ⟨i2, rfl⟩ := way_at hx
      have ru2 := ru1.same sm2
      have hl := told_len a b i
      refine ⟨rfl, _, rfl, _, rfl, r, _, rfl, DGet.k (k := Sum.inr (way i)) ru2.at_, _, rfl, ?_⟩
      rw [val_way a b i2]
      cases er : rul a b i with
      | none => exact if_neg' rfl ⟨sm2, by rw [told_succ, er]; show G3 Dl = some (.lst ((told a b i ++ []).map V.str)); rw [List.append_nil]; exact hD2⟩
      | some z =>
        obtain ⟨w', q⟩ := z
        obtain ⟨dq, hq⟩ := ru2.at_way er
        refine if_pos' rfl ⟨_, rfl, _, rfl, _, rfl, r, _, rfl, ?_, q, D, dq, _, _, rfl, hq, U.cl, U.nW, rf_word _, (by show 2 ≤ sizeLine; omega), fun t2 n2 => ⟨t2, rfl, ⟨_, SqT.of upd_same⟩, ?_⟩⟩
        · have z := DGet.k (k := Sum.inr (way i)) ru2.at_
          rw [val_way a b i2, er] at z
          exact z
        · have s2 : Same G3 (upd G3 t2 (.tup [.str (way i), .str (rwd w')])) := same_upd n2
          have e2 : (upd G3 t2 (.tup [.str (way i), .str (rwd w')])) t2 = some (.tup [.str (way i), .str (rwd w')]) := upd_same
          generalize upd G3 t2 (.tup [.str (way i), .str (rwd w')]) = G4 at s2 e2 ⊢
          refine walk_it (walk_tup (K := K) (a := t2) (xs := [.str (way i), .str (rwd w')])) (fun j G5 => (Same G1 G5 ∧ G5 t2 = some (.tup [.str (way i), .str (rwd w')])) ∧ G5 Dl = some (.lst ((told a b i ++ ([way i, rwd w'] : List Str).take j).map V.str)))
            ⟨⟨sm2.trans s2, e2⟩, by rw [List.take_zero, List.append_nil]; exact s2 _ _ hD2⟩ (fun j G5 _ h => SqT.of h.1.2) (fun j y G5 G6 hj ⟨⟨sm5, e5⟩, hD5⟩ ⟨e, hy⟩ => ?_) (fun G5 ⟨⟨sm5, e5⟩, hD5⟩ => ?_)
          · subst e
            have hy2 : ∃ z, ([way i, rwd w'] : List Str)[j]? = some z ∧ y = .str z := by
              match j, hy with
              | 0, h => cases h; exact ⟨_, rfl, rfl⟩
              | 1, h => cases h; exact ⟨_, rfl, rfl⟩
            obtain ⟨z, hz, rfl⟩ := hy2
            have ne : t2 ≠ Dl := fun q => by rw [q, hD5] at e5; cases e5
            refine ⟨rfl, yes_go (iteT ⟨_, rfl, _, hD5, ?_, ⟨same_put sm5 nD, by rw [upd_ne ne]; exact e5⟩, ?_⟩)⟩
            · rw [List.length_map, List.length_append, List.length_take]
              have : min j [way i, rwd w'].length ≤ 2 := Nat.min_le_right _ _
              omega
            · rw [upd_same, take_succ_at hz, ← List.append_assoc]
              simp only [List.map_append]
              rfl
          · refine ⟨sm5, ?_⟩
            rw [told_succ, er]
            exact hD5
    · have s02 := s01.trans sm2
      have hD2 : G2 Dl = some (.lst ((told a b 2).map V.str)) := hD2
      have hk2 := s02 _ _ hk
      have hc2 := s02 _ _ hc
      have hp2 := sm2 _ _ (s1 _ _ hpw)
      have hl := told_len a b 2
      have sz : ∀ {α : Type} {β : Type} (f : α → β) (l : List α), (l.map f).length = l.length := fun f l => List.length_map ..
      refine ⟨_, rfl, k, C, dx, _, _, rfl, hk2, kc.cl, kc.n1, l1, _, rfl, k, C, dx, _, _, rfl, hk2, kc.cl, kc.n3, l2, c, _, rfl, .inl (SqT.of hc2), ?_, fun q1 n1 => ?_⟩
      · simp only [List.length_cons, List.length_append, List.length_map, List.length_nil]
        omega
      have s3 : Same G2 (upd G2 q1 (.lst (V.str "path" :: V.str x :: (cs.map V.str ++ [])))) := same_upd n1
      have e3 : (upd G2 q1 (.lst (V.str "path" :: V.str x :: (cs.map V.str ++ [])))) q1 = some (.lst (V.str "path" :: V.str x :: (cs.map V.str ++ []))) := upd_same
      generalize upd G2 q1 (.lst (V.str "path" :: V.str x :: (cs.map V.str ++ []))) = G3 at s3 e3 ⊢
      refine ⟨⟨_, rfl⟩, _, rfl, pw, _, rfl, .inr (SqL.of (s3 _ _ hp2)), _, rfl, Dl, _, rfl, .inr (SqL.of (s3 _ _ hD2)), ?_, fun q2 n2 => ?_⟩
      · simp only [List.length_append, List.length_map, List.length_nil]
        have : (if d then [("directed" : Str)] else []).length ≤ 1 := by cases d <;> simp
        omega
      · have e0 : ((if d then [("directed" : Str)] else []) : List Str).map V.str ++ ((told a b 2).map V.str ++ []) = (((if d then [("directed" : Str)] else []) : List Str) ++ told a b 2).map V.str := by rw [List.append_nil, List.map_append]
        have et2 : told a b 2 = wayT "row" a ++ wayT "side" b := by
          rw [told_succ, told_succ]
          rfl
        have s4 : Same G3 (upd G3 q2 (.lst (((if d then [("directed" : Str)] else []) : List Str).map V.str ++ ((told a b 2).map V.str ++ [])))) := same_upd n2
        have e4 : (upd G3 q2 (.lst (((if d then [("directed" : Str)] else []) : List Str).map V.str ++ ((told a b 2).map V.str ++ [])))) q2 = some (.lst ((((if d then [("directed" : Str)] else []) : List Str) ++ told a b 2).map V.str)) := by rw [upd_same, e0]
        generalize upd G3 q2 (.lst (((if d then [("directed" : Str)] else []) : List Str).map V.str ++ ((told a b 2).map V.str ++ []))) = G4 at s4 e4 ⊢
        have one : (Str.ofString " ").length = 1 := by decide +kernel
        have short : ∀ y ∈ (((if d then [("directed" : Str)] else []) : List Str) ++ told a b 2), y.length ≤ 9 := fun y hy => by
          have hw : ∀ w : Bool, (rwd w).length ≤ 9 := by decide +kernel
          rw [et2] at hy
          rcases List.mem_append.mp hy with h | h
          · cases d with
            | true => rw [List.mem_singleton.mp h]; decide +kernel
            | false => cases h
          · rcases List.mem_append.mp h with h | h
            · unfold wayT at h
              split at h
              · rcases List.mem_cons.mp h with h | h
                · rw [h]; decide +kernel
                · rw [List.mem_singleton.mp h]; exact hw _
              · cases h
            · unfold wayT at h
              split at h
              · rcases List.mem_cons.mp h with h | h
                · rw [h]; decide +kernel
                · rw [List.mem_singleton.mp h]; exact hw _
              · cases h
        have ln : (((if d then [("directed" : Str)] else []) : List Str) ++ told a b 2).length ≤ 5 := by
          rw [List.length_append]
          have : (if d then [("directed" : Str)] else []).length ≤ 1 := by cases d <;> simp
          omega
        generalize hz : (((if d then [("directed" : Str)] else []) : List Str) ++ told a b 2) = zs at e4 short ln
        have sm := sum_le short
        have pt : Txt.join " " zs = Txt.join " " ((if d then [("directed" : Str)] else []) ++ (wayT "row" a ++ wayT "side" b)) := by rw [← hz, et2]
        refine ⟨" ", q2, zs, rfl, rfl, .inl (SqL.of e4), by rw [one]; omega, ?_⟩
        refine ⟨q1, "path" :: x :: cs, Txt.join " " zs, rfl, SqL.of ?_, by simp only [List.length_cons]; omega, ?_, ?_, fun H' s' => ?_⟩
        · rw [s4 _ _ e3, List.append_nil]
          all_goals rfl
        · have sm2 := sum_le c12
          unfold size
          rw [List.map_cons, List.map_cons, List.sum_cons, List.sum_cons, show (Str.ofString "path").length = 4 by decide +kernel]
          omega
        · have := join_le (a := " ") zs
          rw [one] at this
          omega
        · have z := fin H' (s02.trans (s3.trans (s4.trans s')))
          unfold pathT at z
          rw [← pt] at z
          exact z
end
end R5
end

-- SupX3
section
set_option Elab.async false
set_option linter.all false
set_option maxRecDepth 100000
set_option maxHeartbeats 2000000
/-! defs def f(self, name, *v, k = d): what they promise for positional arguments and keywords; making instances by them. -/
namespace SupX
open PySem PySem.Spec PyProof.Rows L2 StX
abbrev SpA := List V → List (Str × V) → Hp → VK → XK → Prop
/-- a def's promise, called with positional arguments and keywords -/
def FnA (P : Program) (w : World) (K : PySem.W.Frag) (mg : Str → Option Value) (base : Heap) (CX : CXT) (k : Nat) (f : Addr) (sp : SpA) : Prop :=
  ∀ (A : Around) (outer : List Env) (s : Shared) (H : Hp) (us : List Value) (vs : List V) (ks : List Str) (ws : List Value) (zs : List V) (Q : VK) (E : XK), Room k A → Env0 P w K mg base A outer s H → Vals vs us → Vals zs ws → zs.length = ks.length → sp vs (ks.zip zs) H Q E →
    codeAny (model P w) A (.call (.ref f) ⟨us, ks.zip ws⟩) (CR CX outer P w H s Q E) s
section
variable {P : Program} {w : World} {K : PySem.W.Frag} {mg : Str → Option Value} {base : Heap} {CX : CXT} {j k : Nat} {f : Addr} {sp sp' : SpA}
theorem FnA.mono (F : FnA P w K mg base CX j f sp) (h : j ≤ k) : FnA P w K mg base CX k f sp := fun A outer s H us vs ks ws zs Q E hr => F A outer s H us vs ks ws zs Q E (hr.mono h)
theorem FnA.imp (F : FnA P w K mg base CX k f sp) (h : ∀ vs kv H Q E, sp' vs kv H Q E → sp vs kv H Q E) : FnA P w K mg base CX k f sp' := fun A outer s H us vs ks ws zs Q E hr e0 r rz l hs => F A outer s H us vs ks ws zs Q E hr e0 r rz l (h _ _ _ _ _ hs)
theorem FnA.pos (F : FnA P w K mg base CX k f sp) : FnR P w K mg base CX k f (fun vs H Q E => sp vs [] H Q E) := fun A outer s H us vs Q E hr e0 r hs => F A outer s H us vs [] [] [] Q E hr e0 r .nil rfl hs
end
/-- how the arguments come in: the written ones, the keyword-only ones by gV, what is left over -/
def BindA (K : PySem.W.Frag) (fd : FuncData) (p1 p2 : Str) (kn : List Str) (pv : Str) (okK : List (Str × V) → Prop) (gV : List (Str × V) → List V) : Prop :=
  ∀ (ks : List Str) (ws : List Value) (zs : List V), Vals zs ws → zs.length = ks.length → okK (ks.zip zs) → ∃ cs : List Value, Vals (gV (ks.zip zs)) cs ∧ (gV (ks.zip zs)).length = kn.length ∧
    ∀ (M : Model) (A : Around) (s : Shared) (a b : Value) (rest : List Value) (Q : List (Str × Value) → Shared → Prop) (E : Value → Shared → Prop), K.In s.heap →
      wpAny M A (newTuple rest >>= fun t => pure ((p1 :: p2 :: kn ++ [pv]).zip (a :: b :: cs ++ [t]))) Q E s → wpAny M A (bindArgs fd ⟨a :: b :: rest, ks.zip ws⟩) Q E s
section
variable {CX : CXT} {P : Program} {w : World} {K : PySem.W.Frag} {mg : Str → Option Value} {base : Heap} {k : Nat} {f cda cc D : Addr} {name qual : Str} {params : Arguments} {body : List Stmt} {scope : Scope} {dV kV doc pm ct oc : Value} {an od : Option Addr} {cl : Value} {cld : Option Addr} {csl : Array (Option Value)}
  {osl : Array (Option Value)} {N kn : List Str} {p1 p2 pv : Str} {sp : Sp} {okK : List (Str × V) → Prop} {gV : List (Str × V) → List V}
theorem fnA_S (lk : K.lookup f = some ⟨oc, od, .func (PySem.W.ksFn name qual params body scope dV kV doc pm an (.ref cda) ct cc), osl⟩) (hcd : PySem.W.codeIn K (.ref cda) qual = true) (S : SScope N (p1 :: p2 :: kn ++ [pv]) scope) (hcc : K.lookup cc = some ⟨cl, cld, .cell (some (.ref D)), csl⟩) (hCX : CXUp CX)
    (hb : BindA K (PySem.W.ksFn name qual params body scope dV kV doc pm an (.ref cda) ct cc) p1 p2 kn pv okK gV)
    (hbody : ∀ (A : Around) (outer : List Env) (s : Shared) (H : Hp) (vs : List V) (Q : VK) (E : XK), Room k (A.deeper (envS qual scope s.heap.objs.size f cda cc)) → sp vs H Q E →
      ∃ t, PSsA (cxS CX P w K mg base N qual scope f cda cc A outer s H E) (.func body (envS qual scope s.heap.objs.size f cda cc)) body t ∧ t { nx := fun _ H' => Q .non H', rt := Q } (L2.start N vs) H) :
    FnA P w K mg base CX (k + 1) f (fun vs kv H Q E => ∃ a b rest, vs = a :: b :: rest ∧ okK kv ∧ rest.length ≤ sizeLine ∧ ∀ p, H p = Option.none → sp (a :: b :: gV kv ++ [V.ref p]) (upd H p (.tup rest)) Q E) := by
  intro A outer s H us vs ks ws zs Q E hr e0 r rz lz hsp
  obtain ⟨a, b, rest, ev, ok, hz, hq⟩ := hsp
  subst ev
  cases r with
  | cons ra r =>
  cases r with
  | @cons _ ub _ u2 rb r2 =>
  rename_i ua
  obtain ⟨cs, rc, lc, hbind⟩ := hb ks ws zs rz lz ok
  have KX : K.In s.heap := e0.mod.kin.keeps fun b o e => (e0.bs b o e).1
  have hn : H s.heap.objs.size = Option.none := e0.hok.fresh (Nat.le_refl _)
  have hl2 : u2.length ≤ sizeLine := by rw [← r2.length]; exact hz
  refine run_bndS lk hcd S hcc hr e0 (G := fun xs H2 => ∃ p, H p = Option.none ∧ xs = a :: b :: gV (ks.zip zs) ++ [V.ref p] ∧ H2 = upd H p (.tup rest)) (fun A' Ex Q' h => ?_) fun s2 H2 xs ⟨p, hp, ex, eH⟩ hr' => ?_
  · refine hbind _ _ _ _ _ _ _ _ KX ?_
    refine wpAny_bind (wpAny_newTuple (wpAny_pure ?_) hl2)
    have new : ObjOk P w (upd H s.heap.objs.size (.tup rest)) (s.heap.push ({ cls := .type "tuple", data := .seq u2.toArray } : Obj)) s.heap.objs.size (.tup rest) := ⟨hz, u2, r2, ⟨_, Heap.get?_push_size _ rfl, rfl, _, rfl⟩⟩
    have un := un_laid (fs := frs outer) (s := s) (o := ({ cls := .type "tuple", data := .seq u2.toArray } : Obj)) (u := .tup rest) hn
    exact h _ _ (a :: b :: gV (ks.zip zs) ++ [V.ref s.heap.objs.size]) (ua :: ub :: cs ++ [Value.ref s.heap.objs.size]) (env0_laid e0 new) un rfl (fun e s' => hCX outer s H _ _ E e s' un (fun b o q => Heap.get?_push_of_some _ q) rfl) (.cons ra (.cons rb (rc.append (.cons rfl .nil))))
      (by simp only [List.length_append, List.length_cons, List.length_nil, lc]) ⟨_, hn, rfl, rfl⟩
  · subst ex eH
    exact hbody A outer s2 _ _ Q E hr' (hq p hp)
end
/-! ### making by such an __init__ -/
def tMakeA (C : Addr) (ks : List Str) (sp : SpA) (E : XK) (t tk : TA) : TE := fun σ H Q => t σ H fun vs H1 => tk σ H1 fun zs H2 => zs.length = ks.length ∧ ∀ x dx, H2 x = none → H2 dx = none → dx ≠ x →
  sp (.ref x :: vs) (ks.zip zs) (upd (upd H2 dx (.own x)) x (.ins C dx [])) (fun v H3 => v = .non ∧ Q (.ref x) H3) E
section
variable {X : Cx} {CX : CXT} {k : Nat} {f C : Addr} {ks : List Str} {sp : SpA} {E : XK} {x : Str} {p pos : Pos} {e : Expr} {es : List Expr} {kws : List Keyword} {t tk : TA}
theorem run_makeA {pins : List (Addr × Obj)} {σ : L2.St} {H : Hp} {s : Shared} {Q : VK} {us ws : List Value} {vs zs : List V} (M : Mk X.K C f) (F : FnA X.prog X.w X.K X.mg X.base CX k f sp) (hr : Room (k + 1) X.A) (hx : Passes CX X E)
    (I : Inv X pins σ H s) (r : Vals vs us) (rz : Vals zs ws) (l2 : zs.length = ks.length)
    (h : ∀ x dx, H x = none → H dx = none → dx ≠ x → sp (.ref x :: vs) (ks.zip zs) (upd (upd H dx (.own x)) x (.ins C dx [])) (fun v H2 => v = .non ∧ Q (.ref x) H2) E) :
    wpAny (model X.prog X.w) X.A (call (.ref C) us (ks.zip ws)) (EP X pins σ Q) X.xe s := by
  have hq := h (s.heap.objs.size + 1) s.heap.objs.size (I.hok.fresh (Nat.le_succ _)) (I.hok.fresh (Nat.le_refl _)) (Nat.ne_of_lt (Nat.lt_succ_self _))
  have I2 := Inv.made (C := C) I
  refine wpAny_call (make_map (f := f) I.kIn M.makes M.init (beq_iff_eq.mp M.fn) (codeAny_mono (F _ X.stack _ _ (Value.ref (s.heap.objs.size + 1) :: us) (V.ref (s.heap.objs.size + 1) :: vs) ks ws zs _ E (hr.make C us (ks.zip ws)) (I2.env0.make C us (ks.zip ws)) (.cons rfl r) rz l2 hq) fun r s' hq' => ?_))
  cases r with
  | error e => exact hx pins σ _ _ e s' I2 hq'
  | ok fl =>
    cases fl with
    | ret u =>
      obtain ⟨v, H', I3, rv, ev, q3⟩ := I2.after hq'
      subst ev
      exact ⟨rv, ⟨V.ref (s.heap.objs.size + 1), H', I3, rfl, q3⟩⟩
    | next => exact False.elim hq'
    | brk => exact False.elim hq'
    | cont => exact False.elim hq'
/-- C(e, ..) -/
theorem pe_makeA0 (M : Mk X.K C f) (F : FnA X.prog X.w X.K X.mg X.base CX k f sp) (hr : Room (k + 1) X.A) (hg : Gl X x) (hm : X.mg x = some (.ref C)) (hx : Passes CX X E) (ha : PA X (e :: es) t)
    (hdb : (x == ("__debug__" : Str)) = false := by decide) (he : starEach (e :: es) X.env = (false, eval e X.env) :: starEach es X.env := by rfl) (hpl : (backTo pos (starEach es X.env)).any (·.1) = false := by rfl) :
    PE X (.Call (.Name x p) (e :: es) [] pos) (tMakeA C [] sp E t tNil) := by
  refine ⟨fun pins s σ H Q I h => ?_⟩
  refine wpAny_Call_Name_kw (ld_glob I hg hm ?_ hdb)
  refine PySem.W.callWith_K (h₀ := X.base) I.ok.mod.kin M.kp (thn (ha.run pos pins s σ H _ I h) fun us s1 ⟨vs, H1, I1, r, q⟩ => ⟨I1.kIn, ?_⟩) he hpl
  exact run_makeA (ks := []) (ws := []) M F hr hx I1 r .nil q.1 q.2
/-- C(e, .., k = v, ..) -/
theorem pe_makeA (M : Mk X.K C f) (F : FnA X.prog X.w X.K X.mg X.base CX k f sp) (hr : Room (k + 1) X.A) (hg : Gl X x) (hm : X.mg x = some (.ref C)) (hx : Passes CX X E) (ha : PA X (e :: es) t) (hkw : PK X kws tk)
    (hall : (backToKw pos (keywordEach kws X.env)).all (·.1.isSome) = true := by rfl) (hks : (backToKw pos (keywordEach kws X.env)).filterMap (·.1) = ks := by rfl) (hdb : (x == ("__debug__" : Str)) = false := by decide)
    (he : starEach (e :: es) X.env = (false, eval e X.env) :: starEach es X.env := by rfl) (hpl : ((backTo pos (starEach (e :: es) X.env)).any (·.1) || (backToKw pos (keywordEach kws X.env)).any (·.1.isNone)) = false := by rfl) :
    PE X (.Call (.Name x p) (e :: es) kws pos) (tMakeA C ks sp E t tk) := by
  refine ⟨fun pins s σ H Q I h => ?_⟩
  refine wpAny_Call_Name_kw (ld_glob I hg hm ?_ hdb)
  refine PySem.W.callWith_KW (h₀ := X.base) I.ok.mod.kin M.kp hall (thn (ha.run pos pins s σ H _ I h) fun us s1 ⟨vs, H1, I1, r, q⟩ => ?_) hpl he
  refine thn (hkw.run pos pins s1 σ H1 _ I1 q) fun ws s2 ⟨zs, H2, I2, rz, l2, q2⟩ => ⟨I2.kIn, ?_⟩
  rw [hks]
  exact run_makeA M F hr hx I2 r rz l2 q2
end
end SupX
end

-- L5g
section
set_option Elab.async false
set_option linter.all false
set_option maxRecDepth 100000
set_option exponentiation.threshold 10000
namespace R5
open PySem L2 OwnOps OwnNe G1 StX SupX
/-- a def of a class that says super() -/
structure SDef (K : PySem.W.Frag) (P : Program) (qual : Str) (st : Stmt) (kw : List (Str × V)) (f D : Addr) : Prop where
  ex : ∃ (oc : Value) (od : Option Addr) (kV doc pm : Value) (an : Option Addr) (cda : Addr) (ct : Value) (cc : Addr) (osl : Array (Option Value)),
    K.lookup f = some ⟨oc, od, .func (PySem.W.ksFn "__init__" qual (defArgs st) (defBody st) (defScope st) .none kV doc pm an (.ref cda) ct cc), osl⟩ ∧ PySem.W.codeIn K (.ref cda) qual = true ∧ KwdV K kV kw ∧
      (∃ cl od vs sl file tf, K.lookup cda = some ⟨cl, od, .fields vs, sl⟩ ∧ vs[2]? = some (.str file tf) ∧ ((P.main.file : Str) == file) = true) ∧ ∃ cl cld csl, K.lookup cc = some ⟨cl, cld, .cell (some (.ref D)), csl⟩
  cls : (PySem.W.clsIn K D).isSome = true
structure SupG (K : PySem.W.Frag) (P : Program) : Prop where
  sup : PySem.W.nsIn K mainGlobals "super" = some none
  any : PySem.W.nsIn K cStatics "thirdparty.any" = some none
  top : (P.main.scope.names.lookup ("super" : Str)).isSome = false
/-- a tuple of tuples of ints -/
def TT (H : Hp) (a : Addr) (os : List (List Int)) : Prop := ∃ as : List Addr, H a = some (.tup (as.map V.ref)) ∧ as.length = os.length ∧ ∀ (i : Nat) (q : Addr), as[i]? = some q → ∃ o : List Int, os[i]? = some o ∧ H q = some (.tup (o.map V.int))
theorem TT.same {H H' : Hp} {a : Addr} {os : List (List Int)} (h : TT H a os) (s : Same H H') : TT H' a os := by
  obtain ⟨as, h1, h2, h3⟩ := h
  exact ⟨as, s _ _ h1, h2, fun i q hq => let ⟨o, a, b⟩ := h3 i q hq; ⟨o, a, s _ _ b⟩⟩
theorem TT.sameX {p : Addr} {H H' : Hp} {a : Addr} {os : List (List Int)} {o : HO} (h : TT H a os) (s : SameX p H H') (hp : H p = some o) (no : ∀ xs, o ≠ .tup xs) : TT H' a os := by
  obtain ⟨as, h1, h2, h3⟩ := h
  have ne : ∀ {q : Addr} {xs}, H q = some (.tup xs) → q ≠ p := fun {q xs} h z => by rw [z, hp] at h; exact no _ (Option.some.inj h)
  exact ⟨as, s _ _ (ne h1) h1, h2, fun i q hq => let ⟨o, a, b⟩ := h3 i q hq; ⟨o, a, s _ _ (ne b) b⟩⟩
/-- the orders of a path's pins -/
def upto (n : Nat) : List Int := (List.range n).map Int.ofNat
def pathO (d : Bool) (n : Nat) : List (List Int) := upto n :: if d then [] else [1 :: 0 :: (upto n).drop 2]
/-- a path kind's instance, behind its __init__ -/
structure PathI (H : Hp) (p C dx : Addr) (x : Str) (cs : List Str) (d : Bool) (r : List (Str × V)) (line : Str) : Prop where
  ex : ∃ pa ca oa, H p = some (.ins C dx (kf (.str x) (.ref pa) (.ref ca) (.bl true) (.ref oa) (.str line) ++ r)) ∧ H pa = some (.tup ((("a" : Str) :: "b" :: cs).map V.str)) ∧ H ca = some (.tup (cs.map V.str)) ∧ TT H oa (pathO d (cs.length + 2))
theorem rg_upto (n : Nat) : rgV 0 (n : Int) = (upto n).map V.int := by
  unfold rgV upto
  rw [List.map_map, show ((n : Int) - 0).toNat = n by omega]
  refine List.map_congr_left fun i _ => ?_
  show V.int (0 + (i : Int)) = V.int (Int.ofNat i)
  rw [Int.zero_add]
  rfl
theorem upto_len (n : Nat) : (upto n).length = n := by
  unfold upto
  rw [List.length_map, List.length_range]
theorem cut2 {n : Nat} (h : 2 ≤ n) : ¬ (HT.sIx ((upto n).map V.int).length 0 (some 2) = 0 ∧ HT.sIx ((upto n).map V.int).length ((upto n).map V.int).length none = ((upto n).map V.int).length) ∧ cutV ((upto n).map V.int) (some 2) none = (((upto n).drop 2).map V.int) := by
  have l : ((upto n).map V.int).length = n := by rw [List.length_map, upto_len]
  rw [l]
  have e : HT.sIx n 0 (some 2) = 2 := by
    rw [show (some 2 : Option Int) = some ((2 : Nat) : Int) from rfl, HT.sIx_nat]
    omega
  refine ⟨fun z => by rw [e] at z; omega, ?_⟩
  unfold cutV
  rw [l, e, HT.sIx_none, List.map_drop, List.take_of_length_le]
  rw [List.length_drop, l]
  all_goals exact Nat.le_refl _
/-- the orders of a path's pins are laid -/
theorem orders_ok {K : PySem.W.Frag} {σ : L2.St} {G : Hp} {Q : VK} {al : Addr} {d : Bool} {n : Nat} (h3 : σ[3]? = some (some (.ref al))) (hal : G al = some (.tup ((upto n).map V.int))) (n2 : 2 ≤ n) (n8 : n ≤ 100)
    (hq : ∀ oa G', Same G G' → TT G' oa (pathO d n) → Q (.ref oa) G') :
    if d = true then tTup (tCons (tVar 3) tNil) σ G Q else tTup (tCons (tVar 3) (tCons (tOp (rCatA K) (tTup (tCons (tC (.int 1)) (tCons (tC (.int 0)) tNil))) (tSl (rSlA K) (tVar 3) (tPart (tC (.int 2))) tNoPart)) tNil)) σ G Q := by
  have line : 1000 ≤ sizeLine := by decide
  cases d with
  | true =>
    refine iteT ⟨_, h3, by show 1 ≤ sizeLine; omega, fun q nq => hq q _ (same_upd nq) ⟨[al], upd_same, rfl, fun i a ha => ?_⟩⟩
    match i, ha with
    | 0, ha => cases ha; exact ⟨_, rfl, same_upd nq _ _ hal⟩
  | false =>
    refine iteF ⟨_, h3, by show 2 ≤ sizeLine; omega, fun q1 n1 => ⟨_, h3, _, rfl, al, _, rfl, SqT.of (same_upd n1 _ _ hal), fun z => absurd z (cut2 n2).1, fun _ q2 nq2 => ?_⟩⟩
    rw [(cut2 n2).2]
    have e1 : (upd (upd G q1 (.tup [.int 1, .int 0])) q2 (.tup (((upto n).drop 2).map V.int))) q1 = some (.tup [.int 1, .int 0]) := same_upd nq2 _ _ upd_same
    have e2 : (upd (upd G q1 (.tup [.int 1, .int 0])) q2 (.tup (((upto n).drop 2).map V.int))) q2 = some (.tup (((upto n).drop 2).map V.int)) := upd_same
    have s2 : Same G (upd (upd G q1 (.tup [.int 1, .int 0])) q2 (.tup (((upto n).drop 2).map V.int))) := (same_upd n1).trans (same_upd nq2)
    generalize upd (upd G q1 (.tup [.int 1, .int 0])) q2 (.tup (((upto n).drop 2).map V.int)) = G2 at e1 e2 s2 ⊢
    have fin : ∀ q G3, Same G2 G3 → G3 q = some (.tup ((1 :: 0 :: (upto n).drop 2).map V.int)) → (2 ≤ sizeLine ∧ ∀ oa, G3 oa = none → Q (.ref oa) (upd G3 oa (.tup [.ref al, .ref q]))) := fun q G3 s3 hq3 => by
      refine ⟨by omega, fun oa no => hq oa _ ((s2.trans s3).trans (same_upd no)) ⟨[al, q], upd_same, rfl, fun i a ha => ?_⟩⟩
      match i, ha with
      | 0, ha => cases ha; exact ⟨_, rfl, same_upd no _ _ (s3 _ _ (s2 _ _ hal))⟩
      | 1, ha => cases ha; exact ⟨_, rfl, same_upd no _ _ hq3⟩
    refine ⟨q1, q2, _, _, rfl, rfl, SqT.of e1, SqT.of e2, ?_, fun z => absurd z (by simp), fun _ z => ?_, fun _ _ q3 n3 => ?_⟩
    · rw [List.length_map, List.length_drop, upto_len]
      show 2 + (n - 2) ≤ sizeLine
      omega
    · refine fin q1 G2 (Same.refl _) ?_
      rw [e1]
      have : (upto n).drop 2 = [] := by
        cases h : (upto n).drop 2 with
        | nil => rfl
        | cons a b => rw [h] at z; cases z
      rw [this]
      rfl
    · exact fin q3 _ (same_upd n3) upd_same
abbrev NPI : List Str := ["self", "name", "controls", "along"]
section
variable {P : Program} {w : World} {K : PySem.W.Frag} {mg : Str → Option Value} {base : Heap} {D CK fCK CN DP fP : Addr}
/-- what an __init__ of a path promises, its arguments given -/
def spPathB (K : PySem.W.Frag) (CN CK : Addr) (SO : Addr → Prop) : Sp := fun vs H Q E => ∃ (p dx C ca : Addr) (v : V) (rest : List V) (d : Bool) (u : Value), vs = [.ref p, v, .ref ca] ∧ H p = some (.ins C dx []) ∧ H ca = some (.tup rest) ∧ KCls K C ∧ SO C ∧ Con K C "DIRECTED" (.bl d) u ∧
  Av H v ∧ Shr v ∧ rest.length ≤ 6 ∧ (∀ y ∈ rest, Av H y ∧ Shr y) ∧
  ((wdV v = false ∧ ∀ e H', SameX p H H' → H' e = some (xd v) → E (.ref CN) (some e) H') ∨
   (wdV v = true ∧ (decide (3 < rest.length) || !difV (.str "a" :: .str "b" :: rest)) = true ∧ ∀ e H', SameX p H H' → H' e = some (xd (.ref ca)) → E (.ref CK) (some e) H') ∨
   (∃ x cs, v = .str x ∧ rest = cs.map V.str ∧ wd x = true ∧ (decide (3 < rest.length) || !difV (.str "a" :: .str "b" :: rest)) = false ∧ (∀ y ∈ cs, y.length ≤ 12) ∧ ∀ H', SameX p H H' → PathI H' p C dx x cs d [] (pathT d x cs none none) → Q .non H'))
theorem bind_path {kV doc pm ct : Value} {an : Option Addr} {cda cc : Addr} : BindA K (PySem.W.ksFn "__init__" "PathKind.__init__" (defArgs (sPath 0)) (defBody (sPath 0)) (defScope (sPath 0)) .none kV doc pm an (.ref cda) ct cc) "self" "name" [] "controls" (fun kv => kv = []) (fun _ => []) := by
  intro ks ws zs rz lz ok
  have e : zs = [] := by
    cases zs with
    | nil => rfl
    | cons z zs => cases ks with
      | nil => cases lz
      | cons k ks => cases ok
  subst e
  cases rz
  refine ⟨[], .nil, rfl, fun M A s a b rest Q E KI h => ?_⟩
  rw [show ks.zip ([] : List Value) = [] from by cases ks <;> rfl]
  cases rest with
  | nil => exact h
  | cons r rs => exact h
theorem ok_path {f : Addr} (F : SDef K P "PathKind.__init__" (sPath 0) [] f DP) (G : SupG K P) (T : Bi mg) (N : Nums mg) (U : RTxt K mg D CK fCK) {g : Addr} (GK : FnR P w K mg base (L2.CX P w) 3 g (spKI K CN)) (tg : PySem.W.typeIn K (.ref g) = some (.type "function")) (fg : PySem.W.fnIn K g = true)
    (GD : Glb P w K mg base "are_different_words" 2 ["values"] (spDiff K)) (GL : Glb P w K mg base "_path_line" 2 ["kind", "rules"] (spPL K D)) :
    FnA P w K mg base (L2.CX P w) 5 f (fun vs kv H Q E => ∃ a b rest, vs = a :: b :: rest ∧ kv = [] ∧ rest.length ≤ sizeLine ∧ ∀ p, H p = none → spPathB K CN CK (fun C => SupAt K C DP "__init__" g) (a :: b :: [] ++ [V.ref p]) (upd H p (.tup rest)) Q E) := by
  obtain ⟨_, _, mD, kD, GD, bD⟩ := GD.ex
  obtain ⟨_, _, mL, kL, GL, bL⟩ := GL.ex
  obtain ⟨t3, n3⟩ := N.ctrl
  obtain ⟨oc, od, kV, doc, pm, an, cda, ct, cc, osl, lk, hcd, _, hcode, cl, cld, csl, hcc⟩ := F.ex
  have sc : SScope NPI ["self", "name", "controls"] (defScope (sPath 0)) := ⟨rfl, rfl, rfl, by decide +kernel, rfl, by decide +kernel, by decide +kernel, by decide +kernel, by decide +kernel, by decide +kernel⟩
  have hN := sc.nd
  have SD : SupDef K P f cda cc DP g "self" := ⟨⟨_, _, _, _, _, lk, rfl, rfl⟩, hcode, ⟨cl, cld, csl, hcc⟩, F.cls, G.sup, G.any, tg, fg, G.top⟩
  refine fnA_S (CX := L2.CX P w) (k := 4) (N := NPI) (kn := []) lk hcd sc hcc cxUp bind_path (fun A outer s H vs Q E hr h => ?_)
  obtain ⟨p, dx, C, ca, v, rest, d, u, rfl, hp, hca, kc, so, con, av, sh, n6, its, k⟩ := h
  refine ⟨_, psA_sup (qual := "PathKind.__init__") (E := E) (sp := spKI K CN) rfl sc rfl (by decide +kernel) SD (by decide) GK (hr.mono (by decide)) (passes_call (takes_of rfl rfl rfl rfl) (fun _ _ _ _ h => h)) (pa_cons (pv 1) pa_nil) (argsPlain rfl (fun _ => rfl))
    (pss_cons (ps_if (PW.pt (pw_or (pt_cmpR op_gt (pe_callB call_len_seq (by rfl) T.len PySem.boot_len (pa_cons (pv 2) pa_nil)) (pe_glob (v := .int 3) (by rfl) n3 ⟨_, rfl⟩) (nomark _))
        (pw_or1 (pt_not (pt_val (pe_call GD (hr.mono (by decide)) (by rfl) mD kD bD .nil passL (pa_cons (pe_tup (pa_cons pe_str (pa_cons pe_str (pa_star (pv 2) pa_nil)))) pa_nil)))))))
      (pss_one (ps_raiseGiv rfl PySem.Giv.ok_VE U.eK hr (takes_of rfl rfl rfl rfl) (pa_cons (pv 2) pa_nil) (by rfl))) pss_nil)
    (pss_cons (ps_fld (pv 0) (pe_tup (pa_cons pe_str (pa_cons pe_str (pa_star (pv 2) pa_nil)))) rfl)
    (pss_cons (ps_fld (pv 0) (pv 2) rfl)
    (pss_cons (ps_fld (pv 0) pe_bl rfl)
    (pss_cons (ps_set (i := 3) hN rfl (Or.inl rfl) (pe_tupRg rfl (by rfl) T.tuple (prg_1 (by rfl) T.range (pe_callB call_len_seq (by rfl) T.len PySem.boot_len (pa_cons (pe_fld (pv 0) rfl) pa_nil)))))
    (pss_cons (ps_fld (pv 0) (pe_ifExp (pt_val (pe_con (pv 0) rfl)) (pe_tup (pa_cons (pv 3) pa_nil)) (pe_tup (pa_cons (pv 3) (pa_cons (pe_op op_catA (pe_tup (pa_cons pe_int (pa_cons pe_int pa_nil))) (pe_slice sl_tupA (pv 3) (po_some pe_int) po_none)) pa_nil)))) rfl)
    (pss_one (ps_fld (pv 0) (pe_call GL (hr.mono (by decide)) (by rfl) mL kL bL .nil passL (pa_cons (pv 0) (pa_cons pe_dnewK pa_nil))) rfl)))))))) (by rfl), ?_⟩
  refine ⟨p, C, dx, [], rfl, hp, so, _, rfl, ?_⟩
  have nca : ca ≠ p := fun z => by rw [z, hp] at hca; cases hca
  -- the name is none
  by_cases hv : wdV v = true
  case neg =>
    rcases k with ⟨b, k⟩ | ⟨b, _⟩ | ⟨x, cs, e1, e2, b, _⟩
    · exact ⟨p, dx, C, v, rfl, hp, kc, av, sh, .inl ⟨b, fun e H' sm he => k e H' sm he⟩⟩
    · exact absurd b hv
    · rw [e1] at hv; exact absurd b hv
  obtain ⟨x, rfl, wx⟩ : ∃ x, v = .str x ∧ wd x = true := by
    cases v with
    | str x => exact ⟨x, rfl, hv⟩
    | _ => exact absurd hv (by simp [wdV])
  refine ⟨p, dx, C, .str x, rfl, hp, kc, av, sh, .inr ⟨x, rfl, wx, fun H1 a1 c0 a3 sm hp1 hc0 => ?_⟩⟩
  have hca1 : H1 ca = some (.tup rest) := sm _ _ nca hca
  have line : 1000 ≤ sizeLine := by decide
  have m1 : Mkg p C dx H H1 (kf (.str x) (.ref a1) (.ref c0) (.bl false) (.ref a3) (.str (kindT x))) := ⟨sm, hp1⟩
  have its1 : ∀ G, Same H1 G → ∀ y ∈ (V.str "a" :: V.str "b" :: rest), Av G y ∧ Shr y := fun G s y hy => by
    rcases List.mem_cons.mp hy with rfl | hy
    · exact ⟨.str _, (by decide +kernel : (Str.ofString "a").length ≤ 1000)⟩
    · rcases List.mem_cons.mp hy with rfl | hy
      · exact ⟨.str _, (by decide +kernel : (Str.ofString "b").length ≤ 1000)⟩
      · obtain ⟨h1, h2⟩ := its y hy
        refine ⟨Av.same ?_ s, h2⟩
        cases h1 with
        | str => exact .str _
        | non => exact .non
        | int => exact .int _
        | bl => exact .bl _
        | lst e => exact .lst (sm _ _ (fun z => by rw [z, hp] at e; cases e) e)
        | tup e => exact .tup (sm _ _ (fun z => by rw [z, hp] at e; cases e) e)
  -- are the controls different words?
  have bad : ∀ G, Same H1 G → (decide (3 < rest.length) || !difV (.str "a" :: .str "b" :: rest)) = true → ∀ e H', Same G H' → H' e = some (xd (.ref ca)) → E (.ref CK) (some e) H' := fun G s b e H' s' he => by
    rcases k with ⟨b', _⟩ | ⟨_, _, k⟩ | ⟨_, _, _, _, _, b', _⟩
    · rw [hv] at b'; cases b'
    · exact k e H' (fun c u n q => s' _ _ (s _ _ (sm c u n q))) he
    · rw [b] at b'; cases b'
  refine ⟨_, rfl, ca, _, rfl, .inr (SqT.of hca1), _, _, rfl, rfl, _, rfl, ?_⟩
  by_cases h3 : (3 : Int) < (rest.length : Int)
  · refine if_pos' (decide_eq_true h3) (if_pos' rfl ⟨_, rfl, _, rfl, fun e ne => ?_⟩)
    exact bad H1 (Same.refl _) (by rw [decide_eq_true (show 3 < rest.length by omega)]; rfl) e _ (same_upd ne) upd_same
  refine if_neg' (decide_eq_false h3) ⟨_, rfl, ca, _, rfl, .inl (SqT.of hca1), ?_, fun t1 nt1 => ?_⟩
  · show (V.str "a" :: V.str "b" :: (rest ++ [])).length ≤ sizeLine
    simp only [List.length_cons, List.length_append, List.length_nil]
    omega
  rw [List.append_nil]
  have s2 : Same H1 (upd H1 t1 (.tup (V.str "a" :: V.str "b" :: rest))) := same_upd nt1
  have e2 : (upd H1 t1 (.tup (V.str "a" :: V.str "b" :: rest))) t1 = some (.tup (V.str "a" :: V.str "b" :: rest)) := upd_same
  generalize upd H1 t1 (.tup (V.str "a" :: V.str "b" :: rest)) = G1 at s2 e2 ⊢
  refine ⟨t1, _, rfl, .inr (SqT.of e2), by simp only [List.length_cons]; omega, its1 G1 s2, fun G2 s3 => ⟨_, rfl, ?_⟩⟩
  cases hd : difV (V.str "a" :: V.str "b" :: rest) with
  | false =>
    refine if_pos' rfl ⟨_, rfl, _, rfl, fun e ne => ?_⟩
    exact bad G2 (s2.trans s3) (by rw [hd]; simp) e _ (same_upd ne) upd_same
  | true =>
  refine if_neg' rfl ?_
  obtain ⟨x', cs, e1, er, _, good, c12, kk⟩ : ∃ x' cs, V.str x = .str x' ∧ rest = cs.map V.str ∧ wd x' = true ∧ (decide (3 < rest.length) || !difV (.str "a" :: .str "b" :: rest)) = false ∧ (∀ y ∈ cs, y.length ≤ 12) ∧ ∀ H', SameX p H H' → PathI H' p C dx x' cs d [] (pathT d x' cs none none) → Q .non H' := by
    rcases k with ⟨b', _⟩ | ⟨_, b', _⟩ | k
    · rw [hv] at b'; cases b'
    · rw [hd, decide_eq_false (show ¬ 3 < rest.length by omega)] at b'; cases b'
    · exact k
  cases e1
  clear k
  subst er
  have m2 := m1.same (s2.trans s3)
  have hca2 := s3 _ _ (s2 _ _ hca1)
  clear its1 bad
  have put_keep : ∀ {G : Hp} {t : Addr} {o : HO} {fs : List (Str × V)} (u : HO), Mkg p C dx H G fs → G t = some o → (∀ C dx fs, o ≠ .ins C dx fs) → upd G p u t = some o := fun u m h no => put_ne h m.at_ no
  -- pins
  refine ⟨_, rfl, ca, _, rfl, .inl (SqT.of hca2), ?_, fun t2 n2 => ⟨_, rfl, p, C, dx, _, rfl, (m2.new n2).at_, kc.cl, kc.n2, kf_few .., ?_⟩⟩
  · simp only [List.length_cons, List.length_append, List.length_nil, List.length_map]
    rw [List.length_map] at h3
    omega
  rw [kp_pins, List.append_nil]
  have hca3 := put_keep (.ins C dx (kf (.str x) (.ref t2) (.ref c0) (.bl false) (.ref a3) (.str (kindT x)))) (m2.new n2 (o := .tup (V.str "a" :: V.str "b" :: cs.map V.str))) (same_upd n2 _ _ hca2) (by intro _ _ _ z; cases z)
  have ht3 := put_keep (.ins C dx (kf (.str x) (.ref t2) (.ref c0) (.bl false) (.ref a3) (.str (kindT x)))) (m2.new n2 (o := .tup (V.str "a" :: V.str "b" :: cs.map V.str))) upd_same (by intro _ _ _ z; cases z)
  have m3 := (m2.new n2 (o := .tup (V.str "a" :: V.str "b" :: cs.map V.str))).put (fs' := kf (.str x) (.ref t2) (.ref c0) (.bl false) (.ref a3) (.str (kindT x)))
  generalize upd (upd G2 t2 (.tup (V.str "a" :: V.str "b" :: cs.map V.str))) p (.ins C dx (kf (.str x) (.ref t2) (.ref c0) (.bl false) (.ref a3) (.str (kindT x)))) = G3 at m3 hca3 ht3 ⊢
  -- controls, is_path
  refine ⟨_, rfl, _, rfl, p, C, dx, _, rfl, m3.at_, kc.cl, kc.n3, kf_few .., ?_⟩
  rw [kp_ctl]
  have hca4 := put_keep (.ins C dx (kf (.str x) (.ref t2) (.ref ca) (.bl false) (.ref a3) (.str (kindT x)))) m3 hca3 (by intro _ _ _ z; cases z)
  have ht4 := put_keep (.ins C dx (kf (.str x) (.ref t2) (.ref ca) (.bl false) (.ref a3) (.str (kindT x)))) m3 ht3 (by intro _ _ _ z; cases z)
  have m4 := m3.put (fs' := kf (.str x) (.ref t2) (.ref ca) (.bl false) (.ref a3) (.str (kindT x)))
  generalize upd G3 p (.ins C dx (kf (.str x) (.ref t2) (.ref ca) (.bl false) (.ref a3) (.str (kindT x)))) = G4 at m4 hca4 ht4 ⊢
  refine ⟨_, rfl, p, C, dx, _, rfl, m4.at_, kc.cl, kc.n4, kf_few .., ?_⟩
  rw [kp_isp]
  have hca5 := put_keep (.ins C dx (kf (.str x) (.ref t2) (.ref ca) (.bl true) (.ref a3) (.str (kindT x)))) m4 hca4 (by intro _ _ _ z; cases z)
  have ht5 := put_keep (.ins C dx (kf (.str x) (.ref t2) (.ref ca) (.bl true) (.ref a3) (.str (kindT x)))) m4 ht4 (by intro _ _ _ z; cases z)
  have m5 := m4.put (fs' := kf (.str x) (.ref t2) (.ref ca) (.bl true) (.ref a3) (.str (kindT x)))
  generalize upd G4 p (.ins C dx (kf (.str x) (.ref t2) (.ref ca) (.bl true) (.ref a3) (.str (kindT x)))) = G5 at m5 hca5 ht5 ⊢
  -- along
  refine ⟨_, rfl, p, C, dx, _, _, rfl, m5.at_, kc.cl, kc.n2, kp_pins' .., t2, _, rfl, .inr (SqT.of ht5), ?_⟩
  have ln : ((V.str "a" :: V.str "b" :: cs.map V.str).length : Int) = ((cs.length + 2 : Nat) : Int) := by
    simp only [List.length_cons, List.length_map]
  have n6 : cs.length ≤ 3 := by
    rw [List.length_map] at h3
    omega
  refine ⟨_, rfl, RgOk.of_le (Int.le_refl _) (by rw [ln]; omega) (by decide) (by rw [ln]; omega), fun al nal => ?_⟩
  rw [ln, rg_upto]
  have m6 := m5.new nal (o := .tup ((upto (cs.length + 2)).map V.int))
  have hca6 := same_upd nal (o := .tup ((upto (cs.length + 2)).map V.int)) _ _ hca5
  have ht6 := same_upd nal (o := .tup ((upto (cs.length + 2)).map V.int)) _ _ ht5
  have hal6 : (upd G5 al (.tup ((upto (cs.length + 2)).map V.int))) al = some (.tup ((upto (cs.length + 2)).map V.int)) := upd_same
  generalize upd G5 al (.tup ((upto (cs.length + 2)).map V.int)) = G6 at m6 hca6 ht6 hal6 ⊢
  -- orders
  refine ⟨_, rfl, p, C, dx, _, _, u, rfl, m6.at_, kc.cl, con, by kernel_rfl, _, rfl, orders_ok (n := cs.length + 2) rfl hal6 (by omega) (by omega) fun oa G7 s7 tt => ?_⟩
  have m7 := m6.same s7
  refine ⟨_, rfl, p, C, dx, _, rfl, m7.at_, kc.cl, kc.n5, kf_few .., ?_⟩
  rw [kp_ords]
  have hca8 := put_keep (.ins C dx (kf (.str x) (.ref t2) (.ref ca) (.bl true) (.ref oa) (.str (kindT x)))) m7 (s7 _ _ hca6) (by intro _ _ _ z; cases z)
  have ht8 := put_keep (.ins C dx (kf (.str x) (.ref t2) (.ref ca) (.bl true) (.ref oa) (.str (kindT x)))) m7 (s7 _ _ ht6) (by intro _ _ _ z; cases z)
  have m8 := m7.put (fs' := kf (.str x) (.ref t2) (.ref ca) (.bl true) (.ref oa) (.str (kindT x)))
  have tt8 : TT (upd G7 p (.ins C dx (kf (.str x) (.ref t2) (.ref ca) (.bl true) (.ref oa) (.str (kindT x))))) oa (pathO d (cs.length + 2)) := tt.sameX (p := p) (fun b o nb e => by rw [upd_ne nb]; exact e) m7.at_ (by intro xs z; cases z)
  generalize upd G7 p (.ins C dx (kf (.str x) (.ref t2) (.ref ca) (.bl true) (.ref oa) (.str (kindT x)))) = G8 at m8 hca8 ht8 tt8 ⊢
  -- the line
  refine ⟨_, rfl, fun r nr => ?_⟩
  have m9 := m8.new nr (o := .dK [])
  have s9 : Same G8 (upd G8 r (.dK [])) := same_upd nr
  have er : (upd G8 r (.dK [])) r = some (.dK []) := upd_same
  generalize upd G8 r (.dK []) = G9 at m9 s9 er ⊢
  have x12 : x.length ≤ 12 := by
    unfold wd at wx
    simp only [Bool.and_eq_true, decide_eq_true_eq] at wx
    exact wx.1.1.1.1.2
  refine ⟨p, r, C, dx, ca, _, x, cs, d, u, none, none, rfl, m9.at_, kc, con, by kernel_rfl, kp_name' .., kp_ctl' .., s9 _ _ hca8, ⟨er, (fun _ _ z => by cases z), (fun _ _ z => by cases z)⟩, x12, by omega, c12, fun G10 s10 => ?_⟩
  have m10 := m9.same s10
  refine ⟨_, rfl, p, C, dx, _, rfl, m10.at_, kc.cl, kc.n6, kf_few .., ?_⟩
  rw [kp_line]
  have put10 : ∀ {t : Addr} {o : HO}, G8 t = some o → (∀ C dx fs, o ≠ .ins C dx fs) → upd G10 p (.ins C dx (kf (.str x) (.ref t2) (.ref ca) (.bl true) (.ref oa) (.str (pathT d x cs none none)))) t = some o := fun h no => put_keep _ m10 (s10 _ _ (s9 _ _ h)) no
  refine kk _ (m10.put (fs' := kf (.str x) (.ref t2) (.ref ca) (.bl true) (.ref oa) (.str (pathT d x cs none none)))).sm ⟨t2, ca, oa, by rw [List.append_nil]; exact upd_same, put10 ht8 (by intro _ _ _ z; cases z), put10 hca8 (by intro _ _ _ z; cases z), ?_⟩
  exact (tt8.same (s9.trans s10)).sameX (p := p) (fun b o nb e => by rw [upd_ne nb]; exact e) m10.at_ (by intro xs z; cases z)
end
end R5
end

-- SupX4
section
set_option Elab.async false
set_option linter.all false
set_option maxRecDepth 100000
set_option maxHeartbeats 2000000
/-! super().m(e, *y) ahead in a def. -/
namespace SupX
open PySem PySem.Spec PyProof.Rows L2 StX
section
open PySem.W
variable {prog : Program} {w : World} {M : Model} {A : Around} {E : Value → Shared → Prop} {h : Heap} {g : Array GenState} {d : Drawn} {t : Nat} {os : OsState}
theorem getAttr_super {so D x C f : Addr} {of : Obj} {l₀ l : List Value} {K : Frag} {name : Str} {Q : Value → Shared → Prop}
    (hso : h.get? so = some { cls := .type "super", dict := none, data := .fields #[.ref D, .ref x, .ref C], slots := #[] }) (hno : Looks (model prog w) h (opaqueClassAbove (.ref C)) none)
    (hC : Looks (model prog w) h (mroOf (.ref C)) l₀) (hl : (l₀.dropWhile (· != .ref D)).drop 1 = l) (X : K.In h)
    (hf : alongIn K name l = some (some (.ref f))) (hfo : h.get? f = some of) (hfc : of.cls = .type "function") (hxC : x ≠ C) (hn : (name == ("__class__" : Str)) = false)
    (hq : Q (.ref h.objs.size) ⟨h.push { cls := .type "method", data := .fields #[.ref f, .ref x] }, g, d, t + 1, os⟩) :
    wpAny (model prog w) A (getAttr (.ref so) name true) Q E ⟨h, g, d, t, os⟩ := by
  have hlk := F.ks_slot_super_ga.lookup
  have hcan := F.ks_canon_super_ga
  have hT : ∀ t', (⟨h, g, d, t', os⟩ : Shared).TypeIs (.ref so) "super" := fun _ => ⟨_, hso, rfl⟩
  unfold getAttr getAttrBy
  refine wpAny_bind (wpAny_mkText (wpAny_holding (wpAny_bind (wpAny_typeOf (hT _) (wpAny_bind (wpAny_of_eq hlk ?_))))))
  show wpAny _ _ (getAttrByItsOwn (.ref so) (.str name t) (.type "super") (.builtin "super.__getattribute__") true _) _ _ _
  unfold getAttrByItsOwn hookBefore callGetattribute boundAndCalled
  refine wpAny_bind (wpAny_of_eq (show (if onTheHeap (.type "super") then typeLookup (.type "super") "__getattr__" else pure none) = pure none from rfl) ?_)
  refine wpAny_bind (wpAny_attempt (wpAny_holding ?_))
  show wpAny _ _ (bindSpecial (.builtin "super.__getattribute__") (.ref so) >>= _) _ _ _
  refine wpAny_bind (wpAny_of_eq (F.ks_slot_super_ga.bind _) ?_)
  refine wpAny_mono (Q := fun v s' => v = .ref h.objs.size ∧ s' = ⟨h.push { cls := .type "method", data := .fields #[.ref f, .ref x] }, g, d, t + 1, os⟩) (E := fun _ _ => False)
    (wpAny_call_entry F.ks_slot_super_ga (hT _) F.ks_entry_super_ga (ks_wpAny_super_ga hso hno hC hl X hf hfo hfc hxC hn ⟨_, rfl, rfl, rfl⟩) (F.ks_gaArgs_super _ _)) (fun v s' hv => ?_) fun _ _ z => z.elim
  obtain ⟨rfl, rfl⟩ := hv
  exact wpAny_pure hq
end
theorem wpAt_MethS {M : Model} {A : Around} {c : Code} {E : Value → Shared → Prop} {s : Shared} {env : Env} {o e1 e2 : Expr} {m : Str} {p apos pos : Pos} {Q : Value → Shared → Prop}
    (hst : starEach [e1, .Starred e2 p] env = [(false, eval e1 env), (true, eval e2 env)])
    (h : PySem.wpAt M A c (attributeBase o m env (eval o env)) (fun ov s₁ => wpAny M A (getAttr ov m true) (fun f s₂ => wpAny M A (callWith pos f [] (backTo pos [(false, eval e1 env), (true, eval e2 env)]) []) Q E s₂) E s₁) E s) :
    PySem.wpAt M A c (eval (.Call (.Attribute o m apos) [e1, .Starred e2 p] [] pos) env) Q E s := by
  have hke : backToKw pos (keywordEach [] env) = [] := rfl
  have hform : methodCallForm ([e1, Expr.Starred e2 p].length + ([] : List Keyword).length) (backTo pos [(false, eval e1 env), (true, eval e2 env)]) [] = false := rfl
  have hpos : methodCallPos false o env apos pos = pure pos := rfl
  have hcal : ∀ ov, calleeOf false o env ov m = (getAttr ov m true >>= fun v => pure (v, [])) := fun _ => rfl
  rw [arm_eval_Call, hst, hke]
  refine PySem.wpAt_bind (PySem.ks_wpAt_mono h (fun ov s₁ h₁ => PySem.wpAt_of_wpAny ?_) fun _ _ x => x)
  refine wpAny_bind (wpAny_standAt ?_)
  unfold methodCall
  rw [hform, hpos, hcal]
  refine wpAny_bind (wpAny_holding (wpAny_bind (wpAny_mono h₁ (fun f s₂ h₂ => wpAny_pure ?_) fun _ _ x => x)))
  exact wpAny_bind (wpAny_pure h₂)
section
variable {X : Cx} {CX : CXT} {k j : Nat} {f cda cc D g : Addr} {qual m p1 : Str} {scope : Scope} {L : Addr} {sp : Sp} {E : XK} {t : TA} {rest : TS} {code : List Stmt} {es : List Expr} {ss : List Stmt} {N ps : List Str}
theorem psA_supS {q0 q1 q2 q3 q4 sp_ : Pos} {e1 e2 : Expr} (he : X.env = envS qual scope L f cda cc) (S : SScope N ps scope) (hN : X.N[0]? = some p1) (hl : scope.names.lookup p1 = some .local) (SD : SupDef X.K X.prog f cda cc D g p1) (hm : (m == ("__class__" : Str)) = false) (F : FnR X.prog X.w X.K X.mg X.base CX k g sp) (hr : Room k X.A) (hx : Passes CX X E)
    (ha : PA X [e1, .Starred e2 sp_] t) (hA : ArgsOk X [e1, .Starred e2 sp_]) (hrest : PSs X ss rest) (hst : starEach [e1, .Starred e2 sp_] X.env = [(false, eval e1 X.env), (true, eval e2 X.env)] := by rfl) :
    PSsA X (.func code X.env) (.Expr (.Call (.Attribute (.Call (.Name "super" q0) [] [] q1) m q2) [e1, .Starred e2 sp_] [] q3) q4 :: ss) (tSup (fun C => SupAt X.K C D m g) sp E t rest) := by
  intro pins s σ H De I q
  obtain ⟨x, C, dx, fs, hσ, hx0, so, q⟩ := q
  obtain ⟨_, _, fd, _, ar, lkf, har, ear⟩ := SD.fn
  obtain ⟨_, _, vsC, _, file, tf, lkc, hvs, hfile⟩ := SD.code
  obtain ⟨_, _, _, lkcc⟩ := SD.cell
  obtain ⟨cdD, hD⟩ := Option.isSome_iff_exists.mp SD.cls
  obtain ⟨cdC, hC⟩ := Option.isSome_iff_exists.mp so.cls
  obtain ⟨od, J⟩ := OwnOps.inst_at I hx0
  have XK := I.kIn
  have hsc : X.env.scope = scope := by rw [he]
  obtain ⟨oD, hD1, hD2⟩ : ∃ oD, s.heap.get? D = some oD ∧ oD.data = .cls cdD := by
    unfold PySem.W.clsIn at hD
    split at hD
    · rename_i c d cd' sl ho
      cases hD
      exact ⟨_, XK _ _ ho, rfl⟩
    · cases hD
  have hkS : X.env.kindOf "super" = some .globalImplicit := by
    rw [he]; exact S.sup
  have hkC : X.env.kindOf kC = some .free := by
    rw [he]; exact S.has
  have hce : X.env.cells.lookup kC = some cc := by
    rw [he]
    show (cellsFrom (L + 1) scope.names [] ++ [(kC, cc)]).lookup kC = _
    have ncl : (cellsFrom (L + 1) scope.names []).lookup kC = none := by
      cases q : (cellsFrom (L + 1) scope.names []).lookup kC with
      | none => rfl
      | some c =>
        rcases cell_mem (PySem.mem_of_lookup q) with z | z
        · cases z
        · cases S.once _ z rfl
    rw [lookup_app_none ncl]
    simp [List.lookup]
  have hloc : ∃ mL, s.heap.Ns X.env.locals mL ∧ mL p1 = some (.ref x) := by
    obtain ⟨mL, h1, h2⟩ := I.loc
    obtain ⟨u, ru, lk⟩ := h2 0 p1 (.ref x) hN hσ (.inl (by rw [hsc]; exact hl))
    cases (show u = Value.ref x from ru)
    rcases lk with ⟨_, z⟩ | ⟨z, _⟩
    · exact ⟨mL, h1, z⟩
    · exfalso
      have e : X.env.kindOf p1 = some .local := by rw [he]; exact hl
      rw [e] at z
      rcases z with z | z <;> cases z
  obtain ⟨mL, hns, hself⟩ := hloc
  have hkind := I.ok.kind
  have hgl : s.heap.Ns X.env.globals X.mg := by
    rw [I.ok.glob]
    exact I.mod.glob.keeps I.bk
  obtain ⟨mb, hmb, hbb⟩ := I.mod.blt
  have hbl : s.heap.Ns X.env.builtins mb := by
    rw [I.ok.blt]
    exact hmb.keeps I.bk
  have hmgS : X.mg "super" = none := PySem.W.mg_none_of I.mod.kin I.mod.glob SD.sup
  refine PySem.ks_wpAt_execs_cons (PySem.ks_wpAt_Expr_any (wpAt_MethS hst ?_) I.quiet)
  refine PySem.ks_wpAt_super_base (f := f) (cc := cda) (ar := ar) (fd := fd) (vs := vsC) (file := file) (tf := tf) hkS hkC hm (by rw [he]) (XK _ _ lkf) rfl har (by rw [he]) (XK _ _ lkc) rfl hvs hfile SD.top ?_
  refine PySem.W.ks_loadName_global hkind hkS (PySem.Calls.loadGlobal_builtin hgl hmgS hbl ((hbb _ (by decide +kernel)).trans (show bootBuiltins "super" = some (.type "super") by first | rfl | kernel_rfl)) ⟨rfl, ?_⟩)
  refine wpAny_loadName_free hkind hkC hce ⟨_, XK _ _ lkcc, rfl⟩ ?_
  rw [ear]
  refine wpAny_loadName_local hkind (by rw [he]; exact hl) hns hself ?_
  refine PySem.ks_wpAny_isType_cls hD1 hD2 ⟨rfl, ?_⟩
  refine PySem.ks_wpAny_call_super hD1 hD2 J.at_ J.cls (fun c e => ?_) (PySem.W.looks_mroIn XK so.sub) (fun h' e kp => ?_)
  · have := J.no
    unfold PySem.W.notCls at this
    rw [e] at this
    exact Bool.noConfusion this
  · obtain ⟨hh, g0, d0, t0, os0⟩ := s
    dsimp only at e kp
    have Xh : X.K.In h' := fun b o q => kp b o (XK b o q)
    have htg : ∃ og, h'.get? g = some og ∧ og.cls = .type "function" := by
      have z : (X.K.lookup g).map (·.cls) = some (.type "function") := SD.tg
      cases q : X.K.lookup g with
      | none => rw [q] at z; cases z
      | some og => rw [q] at z; exact ⟨og, Xh _ _ q, Option.some.inj z⟩
    obtain ⟨og, hog, cog⟩ := htg
    have hal : PySem.W.alongIn X.K m ((cdC.mro.dropWhile (· != .ref D)).drop 1) = some (some (.ref g)) := by
      have z := so.at_
      unfold PySem.W.ks_superIn at z
      rw [hC] at z
      exact z
    refine getAttr_super (D := D) (x := x) (C := C) (f := g) (of := og) (K := X.K) (l₀ := cdC.mro) (l := (cdC.mro.dropWhile (· != .ref D)).drop 1) e (PySem.W.looks_opaque Xh SD.any) ?_ rfl Xh hal hog cog (PySem.W.ks_ne XK J hC) hm ?_
    · exact fun A Q E s k q => wpAny_bind ((PySem.W.looks_clsIn Xh hC) A _ E s k (wpAny_pure q))
    · have kp2 : ∀ b u, hh.get? b = some u → (h'.push { cls := .type "method", data := .fields #[.ref g, .ref x] }).get? b = some u := fun b u q => Heap.get?_push_of_some _ (kp b u q)
      have I2 : Inv X pins σ H ⟨h'.push { cls := .type "method", data := .fields #[.ref g, .ref x] }, g0, d0, t0 + 1, os0⟩ := Inv.kept (s := ⟨hh, g0, d0, t0, os0⟩) I kp2
      have I1 : Inv X pins σ H ⟨h', g0, d0, t0 + 1, os0⟩ := Inv.kept (s := ⟨hh, g0, d0, t0, os0⟩) I kp
      have fr : H h'.objs.size = none := I1.fresh
      have nl : h'.objs.size ≠ X.env.locals := Nat.ne_of_gt I1.lt
      have nf : h'.objs.size ∉ X.fs := I1.nofs (Nat.le_refl _)
      have I3 : Inv X ((h'.objs.size, PySem.W.methodObj (.ref g) (.ref x)) :: pins) σ H ⟨h'.push { cls := .type "method", data := .fields #[.ref g, .ref x] }, g0, d0, t0 + 1, os0⟩ := I2.pins_of fun p hp => by
        rcases List.mem_cons.mp hp with rfl | hp
        · exact ⟨Heap.get?_push_at rfl rfl, fr, nl, nf, fun v z => by cases z⟩
        · exact I2.pin p (List.mem_append_right _ hp)
      rw [← hst]
      refine hA q3 h'.objs.size (.ref x) g _ _ _ SD.fg (thn (ha.run q3 _ _ σ H _ I3 q) fun us s2 got => ?_)
      obtain ⟨vs, H1, I4, r, hq⟩ := got
      have hb := (I4.pin _ (List.mem_append_right _ List.mem_cons_self)).1
      refine ⟨⟨hb, I4.kIn⟩, wpAny_call (PySem.ks_codeAny_call_bound hb (codeAny_mono (F X.A X.stack s2 H1 (.ref x :: us) (.ref x :: vs) _ E hr I4.env0 (.cons rfl r) hq) fun r s' h => ?_))⟩
      cases r with
      | error e => exact hx _ σ H1 s2 e s' I4 h
      | ok fl =>
        cases fl with
        | ret u =>
          obtain ⟨v, H2, I5, _, h5⟩ := I4.after h
          have I6 : Inv X pins σ H2 s' := I5.pins_of fun p hp => I5.pin p (List.mem_append_right _ (List.mem_cons_of_mem _ hp))
          exact wpAt_of_wpAny (hrest.run pins s' σ H2 De I6 h5)
        | next => exact False.elim h
        | brk => exact False.elim h
        | cont => exact False.elim h
end
end SupX
end

-- L5h
section
set_option Elab.async false
set_option linter.all false
set_option maxRecDepth 100000
set_option exponentiation.threshold 10000
namespace R5
open PySem L2 OwnOps OwnNe G1 StX SupX
/-- what may be handed in as a rule -/
inductive RVal (D : Addr) (H : Hp) : V → Option Bool → Prop
  | non : RVal D H .non none
  | word (w : Bool) : RVal D H (.str (rwd w)) (some w)
  | rul {q : Addr} {w : Bool} (h : Rul D H q w) : RVal D H (.ref q) (some w)
theorem rf_ne (w : Bool) : rf w ≠ [] := fun z => by
  have h := rf_word w
  rw [z] at h
  cases h
theorem Rul.sameX {D p C dx : Addr} {H H' : Hp} {q : Addr} {w : Bool} (r : Rul D H q w) (hp : H p = some (.ins C dx [])) (s : SameX p H H') : Rul D H' q w := by
  obtain ⟨dq, h⟩ := r
  refine ⟨dq, s _ _ (fun z => ?_) h⟩
  rw [z, hp] at h
  injection h with h
  injection h with _ _ h
  exact rf_ne w h.symm
theorem RVal.sameX {D p C dx : Addr} {H H' : Hp} {v : V} {a : Option Bool} (r : RVal D H v a) (hp : H p = some (.ins C dx [])) (s : SameX p H H') : RVal D H' v a := by
  cases r with
  | non => exact .non
  | word w => exact .word w
  | rul h => exact .rul (h.sameX hp s)
theorem RVal.same {D : Addr} {H H' : Hp} {v : V} {a : Option Bool} (r : RVal D H v a) (s : Same H H') : RVal D H' v a := by
  cases r with
  | non => exact .non
  | word w => exact .word w
  | rul h => exact .rul (h.same s)
theorem Av.sameX {p C dx : Addr} {fs : List (Str × V)} {H H' : Hp} {v : V} (h : Av H v) (hp : H p = some (.ins C dx fs)) (s : SameX p H H') : Av H' v := by
  cases h with
  | str => exact .str _
  | non => exact .non
  | int => exact .int _
  | bl => exact .bl _
  | lst e => exact .lst (s _ _ (fun z => by rw [z, hp] at e; cases e) e)
  | tup e => exact .tup (s _ _ (fun z => by rw [z, hp] at e; cases e) e)
/-- what _as_rule makes of it -/
inductive RRes (D : Addr) (H : Hp) : V → RR → Prop
  | non : RRes D H .non none
  | rul {q : Addr} {w : Bool} (h : Rul D H q w) : RRes D H (.ref q) (some (w, q))
theorem RRes.same {D : Addr} {H H' : Hp} {v : V} {a : RR} (r : RRes D H v a) (s : Same H H') : RRes D H' v a := by
  cases r with
  | non => exact .non
  | rul h => exact .rul (h.same s)
def one (k : Str) (a : RR) : List (Key × V) := match a with | some (_, q) => [(Sum.inr k, V.ref q)] | none => []
theorem rKvs_eq (a b : RR) : rKvs a b = one "row" a ++ one "side" b := rfl
theorem put_row (q : Addr) : putK ([] : List (Key × V)) (Sum.inr ("row" : Str)) (.ref q) = [((Sum.inr ("row" : Str) : Key), V.ref q)] := rfl
theorem put_side (a : RR) (q : Addr) : putK (rKvs a none) (Sum.inr ("side" : Str)) (.ref q) = rKvs a (some (true, q)) := by
  rcases a with _ | ⟨w, r⟩
  · rfl
  · kernel_rfl
theorem given_kvs (u v : V) : mergeK [] [((Sum.inr ("row" : Str) : Key), u), (Sum.inr ("side" : Str), v)] = [((Sum.inr ("row" : Str) : Key), u), (Sum.inr ("side" : Str), v)] := by kernel_rfl
theorem asr_go {D CK : Addr} {G : Hp} {Q : VK} {E : XK} {r : V} {a : Option Bool} (rv : RVal D G r a) (kk : ∀ v a' G', Same G G' → RRes D G' v a' → a'.map Prod.fst = a → Q v G') : spAsR D CK [r] G Q E := by
  cases rv with
  | non => exact ⟨_, rfl, .inl ⟨rfl, kk .non none G (Same.refl _) .non rfl⟩⟩
  | word w => exact ⟨_, rfl, .inr (.inl (.inl ⟨w, rfl, fun q H' s ru => kk (.ref q) (some (w, q)) H' s (.rul ru) rfl⟩))⟩
  | @rul q w h => exact ⟨_, rfl, .inr (.inl (.inr ⟨w, q, rfl, h, fun q' H' s ru => kk (.ref q') (some (w, q')) H' s (.rul ru) rfl⟩))⟩
theorem RRes.put {D : Addr} {H : Hp} {v : V} {a : RR} {p : Addr} {o u : HO} (r : RRes D H v a) (hp : H p = some o) (no : ∀ C dx fs, o ≠ .ins C dx fs) : RRes D (upd H p u) v a := by
  cases r with
  | non => exact .non
  | rul h =>
    obtain ⟨dq, h⟩ := h
    exact .rul ⟨dq, by rw [upd_ne (fun z => by rw [z, hp] at h; exact no _ _ _ (Option.some.inj h))]; exact h⟩
theorem RRes.is {D : Addr} {H : Hp} {v : V} {a : RR} (r : RRes D H v a) : ∀ w q, a = some (w, q) → Rul D H q w := by
  cases r with
  | non => intro w q z; cases z
  | rul h => intro w q z; cases z; exact h
theorem rf_line (nm pins ctl isp ords line v r : V) : putF "_line" v (kf nm pins ctl isp ords line ++ [(("_rules" : Str), r)]) = kf nm pins ctl isp ords v ++ [(("_rules" : Str), r)] := by kernel_rfl
theorem rf_name (nm pins ctl isp ords line r : V) : (kf nm pins ctl isp ords line ++ [(("_rules" : Str), r)]).lookup ("name" : Str) = some nm := by kernel_rfl
theorem rf_ctl (nm pins ctl isp ords line r : V) : (kf nm pins ctl isp ords line ++ [(("_rules" : Str), r)]).lookup ("controls" : Str) = some ctl := by kernel_rfl
theorem rf_rul (nm pins ctl isp ords line r : V) : (kf nm pins ctl isp ords line ++ [(("_rules" : Str), r)]).lookup ("_rules" : Str) = some r := by kernel_rfl
theorem rf_few (nm pins ctl isp ords line r : V) : (kf nm pins ctl isp ords line ++ [(("_rules" : Str), r)]).length < 1000 := by
  show 7 < 1000
  decide
def seen (a b : RR) (i : Nat) : List (Key × V) := rKvs (if 0 < i then a else none) (if 1 < i then b else none)
theorem row_ne : ¬ ((Sum.inr ("row" : Str) : Key) = Sum.inr ("side" : Str)) := by decide +kernel
theorem put_side' (a : RR) (q : Addr) (w : Bool) : putK (rKvs a none) (Sum.inr ("side" : Str)) (.ref q) = rKvs a (some (w, q)) := by
  rcases a with _ | ⟨w, r⟩
  · rfl
  · kernel_rfl
abbrev NJI : List Str := ["self", "name", "row", "side", "controls", "given", "way", "rule"]
section
variable {P : Program} {w : World} {K : PySem.W.Frag} {mg : Str → Option Value} {base : Heap} {D CK fCK CN DP DJ gK : Addr}
def spJoiB (K : PySem.W.Frag) (D CK DP DJ gK gP : Addr) : Sp := fun vs H Q E => ∃ (p dx C ca : Addr) (x : Str) (cs : List Str) (r s : V) (d : Bool) (u : Value), vs = [.ref p, .str x, r, s, .ref ca] ∧ H p = some (.ins C dx []) ∧ H ca = some (.tup (cs.map V.str)) ∧ KCls K C ∧ SupAt K C DP "__init__" gK ∧ SupAt K C DJ "__init__" gP ∧ Con K C "DIRECTED" (.bl d) u ∧
  wd x = true ∧ cs.length ≤ 3 ∧ difV (.str "a" :: .str "b" :: cs.map V.str) = true ∧ (∀ y ∈ cs, y.length ≤ 12) ∧
  ((∃ a b, RVal D H r a ∧ RVal D H s b ∧ ∀ H' ra a' b', SameX p H H' → a'.map Prod.fst = a → b'.map Prod.fst = b → PathI H' p C dx x cs d [("_rules", .ref ra)] (pathT d x cs a' b') → Ruls D H' ra a' b' → Q .non H') ∨
   (r ≠ .non ∧ NoWd H r ∧ ∀ e H', SameX p H H' → H' e = some (xd r) → E (.ref CK) (some e) H') ∨
   (∃ a, RVal D H r a ∧ s ≠ .non ∧ NoWd H s ∧ ∀ e H', SameX p H H' → H' e = some (xd s) → E (.ref CK) (some e) H'))
def okJ (kv : List (Str × V)) : Prop := (∃ r s, kv = [(("row" : Str), r), (("side" : Str), s)] ∨ kv = [(("side" : Str), s), (("row" : Str), r)]) ∨ ∃ s, kv = [(("side" : Str), s)]
def gJ (kv : List (Str × V)) : List V := [(kv.lookup ("row" : Str)).getD .non, (kv.lookup ("side" : Str)).getD .non]
theorem bind_joi {kV doc pm ct : Value} {an : Option Addr} {cda cc : Addr} (kd : KwdV K kV [("row", .non), ("side", .non)]) : BindA K (PySem.W.ksFn "__init__" "JoiningKind.__init__" (defArgs (sJoi 0)) (defBody (sJoi 0)) (defScope (sJoi 0)) .none kV doc pm an (.ref cda) ct cc) "self" "name" ["row", "side"] "controls" okJ gJ := by
  intro ks ws zs rz lz ok
  rcases ok with ok | ⟨s, e⟩
  case inr =>
    have one : ∃ k1 z1, ks = [k1] ∧ zs = [z1] := by
      have l := congrArg List.length e
      rw [List.length_zip, lz, Nat.min_self] at l
      match ks, zs, lz, l with
      | [k1], [z1], _, _ => exact ⟨_, _, rfl, rfl⟩
    obtain ⟨k1, z1, rfl, rfl⟩ := one
    cases rz with
    | @cons _ w1 _ ws r1 rz =>
    cases rz
    cases e
    rcases kd with z | ⟨Dk, rfl, hq⟩
    · cases z
    obtain ⟨u, hu, ru⟩ := hq _ List.mem_cons_self
    refine ⟨[u, w1], .cons ru (.cons r1 .nil), rfl, fun M A st a b rest Q E KI h => ?_⟩
    cases rest with
    | nil =>
      have ch : ∃ (β γ : Type) (k1 : Option Value → Sem β) (k2 : β → Sem γ) (k3 : γ → Sem (List (Str × Value))) (c : β), bindArgs (PySem.W.ksFn "__init__" "JoiningKind.__init__" (defArgs (sJoi 0)) (defBody (sJoi 0)) (defScope (sJoi 0)) .none (.ref Dk) doc pm an (.ref cda) ct cc) ⟨a :: b :: [], (["side"] : List Str).zip [w1]⟩ = ((nsGet Dk ("row" : Str) >>= k1) >>= k2) >>= k3 ∧ k1 (some u) = pure c ∧ (k2 c >>= k3) = (newTuple ([]) >>= fun t => pure ((["self", "name", "row", "side", "controls"] : List Str).zip (a :: b :: [u, w1] ++ [t]))) := ⟨_, _, _, _, _, _, rfl, rfl, rfl⟩
      obtain ⟨β, γ, k1, k2, k3, c, e1, e2, e3⟩ := ch
      show wpAny M A (bindArgs _ ⟨a :: b :: [], (["side"] : List Str).zip [w1]⟩) Q E st
      rw [e1, bind_assoc]
      refine wpAny_bind (((PySem.W.looks_nsIn (K := K) KI hu).andThen (PySem.W.Looks.of_pure e2)) A _ _ st (fun _ _ e => e) ?_)
      rw [e3]
      exact h
    | cons r rs =>
      have ch : ∃ (β γ : Type) (k1 : Option Value → Sem β) (k2 : β → Sem γ) (k3 : γ → Sem (List (Str × Value))) (c : β), bindArgs (PySem.W.ksFn "__init__" "JoiningKind.__init__" (defArgs (sJoi 0)) (defBody (sJoi 0)) (defScope (sJoi 0)) .none (.ref Dk) doc pm an (.ref cda) ct cc) ⟨a :: b :: r :: rs, (["side"] : List Str).zip [w1]⟩ = ((nsGet Dk ("row" : Str) >>= k1) >>= k2) >>= k3 ∧ k1 (some u) = pure c ∧ (k2 c >>= k3) = (newTuple (r :: rs) >>= fun t => pure ((["self", "name", "row", "side", "controls"] : List Str).zip (a :: b :: [u, w1] ++ [t]))) := ⟨_, _, _, _, _, _, rfl, rfl, rfl⟩
      obtain ⟨β, γ, k1, k2, k3, c, e1, e2, e3⟩ := ch
      show wpAny M A (bindArgs _ ⟨a :: b :: r :: rs, (["side"] : List Str).zip [w1]⟩) Q E st
      rw [e1, bind_assoc]
      refine wpAny_bind (((PySem.W.looks_nsIn (K := K) KI hu).andThen (PySem.W.Looks.of_pure e2)) A _ _ st (fun _ _ e => e) ?_)
      rw [e3]
      exact h
  have two : ∃ k1 k2 z1 z2, ks = [k1, k2] ∧ zs = [z1, z2] := by
    obtain ⟨r, s, e | e⟩ := ok <;> (
      have l := congrArg List.length e
      rw [List.length_zip, lz, Nat.min_self] at l
      match ks, zs, lz, l with
      | [k1, k2], [z1, z2], _, _ => exact ⟨_, _, _, _, rfl, rfl⟩)
  obtain ⟨k1, k2, z1, z2, rfl, rfl⟩ := two
  cases rz with
  | @cons _ w1 _ ws r1 rz =>
  cases rz with
  | @cons _ w2 _ ws r2 rz =>
  cases rz
  obtain ⟨r, s, e | e⟩ := ok
  · cases e
    exact ⟨[w1, w2], .cons r1 (.cons r2 .nil), rfl, fun M A st a b rest Q E KI h => by
      cases rest with
      | nil => exact h
      | cons r rs => exact h⟩
  · cases e
    exact ⟨[w2, w1], .cons r2 (.cons r1 .nil), rfl, fun M A st a b rest Q E KI h => by
      cases rest with
      | nil => exact h
      | cons r rs => exact h⟩
theorem ok_joi {f : Addr} (F : SDef K P "JoiningKind.__init__" (sJoi 0) [("row", .non), ("side", .non)] f DJ) (G : SupG K P) (T : Bi mg) (U : RTxt K mg D CK fCK) {gP : Addr}
    (GP : FnR P w K mg base (L2.CX P w) 5 gP (fun vs H Q E => ∃ a b rest, vs = a :: b :: rest ∧ rest.length ≤ sizeLine ∧ ∀ p, H p = none → spPathB K CN CK (fun C => SupAt K C DP "__init__" gK) (a :: b :: [] ++ [V.ref p]) (upd H p (.tup rest)) Q E)) (tg : PySem.W.typeIn K (.ref gP) = some (.type "function")) (fg : PySem.W.fnIn K gP = true)
    (GA : Glb P w K mg base "_as_rule" 6 ["value"] (spAsR D CK)) (GL : Glb P w K mg base "_path_line" 2 ["kind", "rules"] (spPL K D)) :
    FnA P w K mg base (L2.CX P w) 7 f (fun vs kv H Q E => ∃ a b rest, vs = a :: b :: rest ∧ okJ kv ∧ rest.length ≤ sizeLine ∧ ∀ p, H p = none → spJoiB K D CK DP DJ gK gP (a :: b :: gJ kv ++ [V.ref p]) (upd H p (.tup rest)) Q E) := by
  obtain ⟨_, _, mA, kA, GA, bA⟩ := GA.ex
  obtain ⟨_, _, mL, kL, GL, bL⟩ := GL.ex
  obtain ⟨oc, od, kV, doc, pm, an, cda, ct, cc, osl, lk, hcd, kd, hcode, cl, cld, csl, hcc⟩ := F.ex
  have sc : SScope NJI ["self", "name", "row", "side", "controls"] (defScope (sJoi 0)) := ⟨rfl, rfl, rfl, by decide +kernel, rfl, by decide +kernel, by decide +kernel, by decide +kernel, by decide +kernel, by decide +kernel⟩
  have hN := sc.nd
  have SD : SupDef K P f cda cc DJ gP "self" := ⟨⟨_, _, _, _, _, lk, rfl, rfl⟩, hcode, ⟨cl, cld, csl, hcc⟩, F.cls, G.sup, G.any, tg, fg, G.top⟩
  refine fnA_S (CX := L2.CX P w) (k := 6) (N := NJI) (kn := ["row", "side"]) lk hcd sc hcc cxUp (bind_joi kd) (fun A outer s H vs Q E hr h => ?_)
  obtain ⟨p, dx, C, ca, x, cs, r, sv, d, u, rfl, hp, hca, kc, so, soJ, con, wx, n3, dif, c12, k⟩ := h
  have pE : Passes (L2.CX P w) (cxS (L2.CX P w) P w K mg base NJI "JoiningKind.__init__" (defScope (sJoi 0)) f cda cc A outer s H E) E := passes_call (takes_of rfl rfl rfl rfl) (fun _ _ _ _ h => h)
  refine ⟨_, psA_supS (qual := "JoiningKind.__init__") (E := E) rfl sc rfl (by decide +kernel) SD (by decide) GP (hr.mono (by decide)) pE (pa_cons (pv 1) (pa_star (pv 4) pa_nil)) (argsStar rfl (fun _ => rfl))
    (pss_cons (ps_set (i := 5) hN rfl (Or.inl rfl) (pe_disp (pps_cons pe_str (pe_call (E := E) GA (hr.mono (by decide)) (by rfl) mA kA bA .nil pE (pa_cons (pv 2) pa_nil)) (pps_cons pe_str (pe_call (E := E) GA (hr.mono (by decide)) (by rfl) mA kA bA .nil pE (pa_cons (pv 3) pa_nil)) pps_nil)) (by rfl) rfl (by simp) (by decide)))
    (pss_cons (ps_fld (pv 0) (pe_lock (pe_dc (own := [("way", 6), ("rule", 7)]) (g := gTup K 2 (gCons (gName 6) (gCons (gName 7) gNil))) (tt := tTest (tOp (fun x y H Q => y = .non ∧ Q (.bl (!decide (x = .non))) H) (tVar 7) (tC .non))) (tk := tVar 6) (tv := tVar 7) rfl hN (pi_items (pv 5)) (blkOk_by (N := NJI) (sc := defScope (sJoi 0)) (by decide +kernel)) (fun _ _ _ _ _ => pg_two (i := 6) (j := 7) rfl hN rfl (Or.inl rfl) rfl (Or.inl rfl))
        (fun _ _ _ _ _ => pts_one (pt_cmpR op_notN (pv 7) pe_non (nomark _))) (fun _ _ _ _ _ => pv 6) (fun _ _ _ _ _ => pv 7))) rfl)
    (pss_one (ps_fld (pv 0) (pe_call GL (hr.mono (by decide)) (by rfl) mL kL bL .nil passL (pa_cons (pv 0) (pa_cons (pe_fld (pv 0) rfl) pa_nil))) rfl)))), ?_⟩
  have line : 1000 ≤ sizeLine := by decide
  have hap : (cs.map V.str ++ []) = cs.map V.str := List.append_nil _
  refine ⟨p, C, dx, [], rfl, hp, soJ, _, rfl, _, rfl, ca, _, rfl, .inl (SqT.of hca), ?_⟩
  refine ⟨_, _, cs.map V.str ++ [], rfl, by rw [hap, List.length_map]; omega, fun q nq => ?_⟩
  have nqp : q ≠ p := fun z => by rw [z, hp] at nq; cases nq
  have hp0 : (upd H q (.tup (cs.map V.str ++ []))) p = some (.ins C dx []) := by rw [upd_ne (Ne.symm nqp)]; exact hp
  refine ⟨p, dx, C, q, .str x, cs.map V.str ++ [], d, u, rfl, hp0, upd_same, kc, so, con, .str x, ?_, by rw [hap, List.length_map]; omega, fun y hy => ?_, .inr (.inr ⟨x, cs, rfl, hap, wx, ?_, c12, fun H1 sm pi => ?_⟩)⟩
  · show x.length ≤ 1000
    unfold wd at wx
    simp only [Bool.and_eq_true, decide_eq_true_eq] at wx
    have := wx.1.1.1.1.2
    omega
  · rw [hap] at hy
    obtain ⟨z, hz, rfl⟩ := List.mem_map.mp hy
    exact ⟨.str _, Nat.le_trans (c12 z hz) (by decide)⟩
  · rw [hap, dif, List.length_map, decide_eq_false (show ¬ 3 < cs.length by omega)]
    rfl
  have sm1 : SameX p H H1 := fun b o nb e => sm b o nb (by rw [upd_ne (ne_of_none e nq)]; exact e)
  clear sm hp0 nqp nq
  obtain ⟨pa, ca1, oa, hp1, hpa, hca1, tt⟩ := pi
  rw [List.append_nil] at hp1
  -- given
  refine fun p0 np0 => ?_
  have s0 : Same H1 (upd H1 p0 (.dK [])) := same_upd np0
  have e0 : (upd H1 p0 (.dK [])) p0 = some (.dK []) := upd_same
  generalize upd H1 p0 (.dK []) = G0 at s0 e0 ⊢
  have smG : SameX p H G0 := fun b o nb e => s0 _ _ (sm1 b o nb e)
  have bad : ∀ {v : V} {G : Hp}, Same G0 G → v ≠ .non → NoWd H v → (∀ e H', SameX p H H' → H' e = some (xd v) → E (.ref CK) (some e) H') → spAsR D CK [v] G (fun _ _ => False) E := fun {v G} s nn nw ke =>
    ⟨v, rfl, .inr (.inr ⟨nn, ⟨nw.1.sameX hp (fun b o nb e => s _ _ (smG b o nb e)), nw.2⟩, fun e H' s' he => ke e H' (fun b o nb q => s' _ _ (s _ _ (smG b o nb q))) he⟩)⟩
  have weak : ∀ {v : V} {G : Hp} {Q' : VK}, spAsR D CK [v] G (fun _ _ => False) E → spAsR D CK [v] G Q' E := fun {v G Q'} ⟨v', e, h⟩ => ⟨v', e, by
    rcases h with ⟨_, z⟩ | (⟨w', h1, z⟩ | ⟨w', q', h1, h2, z⟩) | h
    · exact z.elim
    · exact .inr (.inl (.inl ⟨w', h1, fun q H' s r => (z q H' s r).elim⟩))
    · exact .inr (.inl (.inr ⟨w', q', h1, h2, fun q H' s r => (z q H' s r).elim⟩))
    · exact .inr (.inr h)⟩
  rcases k with ⟨a, b, ra, rb, k⟩ | ⟨nn, nw, ke⟩ | ⟨a, ra, nn, nw, ke⟩
  rotate_left
  · refine ⟨_, rfl, ?_⟩
    dsimp only [tNil, List.append_nil, List.cons_append, List.nil_append]
    exact weak (bad (Same.refl _) nn nw ke)
  · refine ⟨_, rfl, ?_⟩
    dsimp only [tNil, List.append_nil, List.cons_append, List.nil_append]
    refine asr_go (ra.sameX hp smG) fun v a' G' s _ _ => ⟨_, rfl, ?_⟩
    dsimp only [tNil, List.append_nil, List.cons_append, List.nil_append]
    exact weak (bad s nn nw ke)
  refine ⟨_, rfl, ?_⟩
  dsimp only [tNil, List.append_nil, List.cons_append, List.nil_append]
  refine asr_go (ra.sameX hp smG) fun v1 a' G1 s1 r1 ea => ⟨_, rfl, ?_⟩
  dsimp only [tNil, List.append_nil, List.cons_append, List.nil_append]
  refine asr_go ((rb.sameX hp smG).same s1) fun v2 b' G2 s2 r2 eb => ?_
  have e2 : G2 p0 = some (.dK []) := s2 _ _ (s1 _ _ e0)
  refine ⟨e2, [((Sum.inr ("row" : Str) : Key), v1), (Sum.inr ("side" : Str), v2)], rfl, by simp, ?_⟩
  rw [given_kvs]
  have s3 : Same H1 (upd G2 p0 (.dK [((Sum.inr ("row" : Str) : Key), v1), (Sum.inr ("side" : Str), v2)])) := same_put (s0.trans (s1.trans s2)) np0
  have r1' := (r1.same s2).put e2 (by intro _ _ _ z; cases z) (u := .dK [((Sum.inr ("row" : Str) : Key), v1), (Sum.inr ("side" : Str), v2)])
  have r2' := r2.put e2 (by intro _ _ _ z; cases z) (u := .dK [((Sum.inr ("row" : Str) : Key), v1), (Sum.inr ("side" : Str), v2)])
  have e3 : (upd G2 p0 (.dK [((Sum.inr ("row" : Str) : Key), v1), (Sum.inr ("side" : Str), v2)])) p0 = some (.dK [((Sum.inr ("row" : Str) : Key), v1), (Sum.inr ("side" : Str), v2)]) := upd_same
  generalize upd G2 p0 (.dK [((Sum.inr ("row" : Str) : Key), v1), (Sum.inr ("side" : Str), v2)]) = G3 at s3 r1' r2' e3 ⊢
  clear r1 r2 s1 s2 e2 e0 s0 smG bad weak
  -- the rules
  refine ⟨p0, _, e3, trivial, fun odd => ⟨_, rfl, p0, odd, _, rfl, upd_same, fun Dl nD => ?_⟩⟩
  refine walk_it walk_items (fun i G => Same (upd G3 p0 (.frz odd (.dK [((Sum.inr ("row" : Str) : Key), v1), (Sum.inr ("side" : Str), v2)]))) G ∧ G Dl = some (.dK (seen a' b' i))) ⟨same_upd nD, upd_same⟩ (fun i G _ ⟨sm, _⟩ => sm _ _ upd_same) (fun i y G G' hi ⟨sm, hD⟩ ⟨Tq, u1, v1', e1, nT, e2, hu, hv⟩ => ?_) (fun G ⟨sm, hD⟩ => ?_)
  · subst e1 e2
    have st : Same G (upd G Tq (.tup [u1, v1'])) := same_upd nT
    have nx : Same (upd G3 p0 (.frz odd (.dK [((Sum.inr ("row" : Str) : Key), v1), (Sum.inr ("side" : Str), v2)]))) (upd G Tq (.tup [u1, v1'])) := sm.trans st
    have hD' := st _ _ hD
    refine ⟨Tq, _, rfl, SqT.of upd_same, rfl, _, _, rfl, _, _, rfl, rfl, rfl, _, rfl, rfl, _, rfl, ?_⟩
    match i, hi, hu, hv with
    | 0, _, hu, hv =>
      cases hu
      cases hv
      cases r1' with
      | non => exact if_neg' rfl ⟨nx, hD'⟩
      | @rul q w' h => exact if_pos' rfl ⟨_, rfl, _, rfl, seen (some (w', q)) b' 0, Sum.inr ("row" : Str), rfl, hD', by show (0 : Nat) < sizeLine; omega, same_put nx nD, by rw [upd_same]; rfl⟩
    | 1, _, hu, hv =>
      cases hu
      cases hv
      cases r2' with
      | non => exact if_neg' rfl ⟨nx, hD'⟩
      | @rul q w' h =>
        refine if_pos' rfl ⟨_, rfl, _, rfl, seen a' (some (w', q)) 1, Sum.inr ("side" : Str), rfl, hD', ?_, same_put nx nD, ?_⟩
        · show (rKvs a' none).length < sizeLine
          have : (rKvs a' none).length ≤ 1 := by rcases a' with _ | ⟨_, _⟩ <;> simp [rKvs]
          omega
        · rw [upd_same]
          exact congrArg (fun z => some (HO.dK z)) (put_side' a' q w')
  obtain ⟨e4, s4⟩ := same_unlock e3 sm
  refine ⟨e4, ?_⟩
  have nDp : Dl ≠ p0 := fun z => by rw [z, upd_same] at nD; cases nD
  have hD4 : (upd G p0 (.dK [((Sum.inr ("row" : Str) : Key), v1), (Sum.inr ("side" : Str), v2)])) Dl = some (.dK (rKvs a' b')) := by rw [upd_ne nDp]; exact hD
  generalize upd G p0 (.dK [((Sum.inr ("row" : Str) : Key), v1), (Sum.inr ("side" : Str), v2)]) = G4 at s4 hD4 ⊢
  have s14 : Same H1 G4 := s3.trans s4
  have m4 : Mkg p C dx H G4 _ := ⟨fun b o nb e => s14 _ _ (sm1 b o nb e), s14 _ _ hp1⟩
  have ru4 : Ruls D G4 Dl a' b' := ⟨hD4, (r1'.same s4).is, (r2'.same s4).is⟩
  refine ⟨_, rfl, p, C, dx, _, rfl, m4.at_, kc.cl, kc.n8, kf_few .., ?_⟩
  rw [kf_rul]
  have keep : ∀ {t : Addr} {o : HO} {fs : List (Str × V)} {G : Hp} (u : HO), Mkg p C dx H G fs → G t = some o → (∀ C dx fs, o ≠ .ins C dx fs) → upd G p u t = some o := fun u m h no => put_ne h m.at_ no
  have rulput : ∀ {q : Addr} {w : Bool} {G : Hp} {fs fs' : List (Str × V)}, Mkg p C dx H G fs → fs.length ≠ 1 → Rul D G q w → Rul D (upd G p (.ins C dx fs')) q w := fun {q w G fs fs'} m ne ⟨dq, h⟩ => ⟨dq, by
    rw [upd_ne (fun z => by
      rw [z, m.at_] at h
      injection h with h
      injection h with _ _ h
      exact ne (by rw [h]; rfl))]
    exact h⟩
  have m5 := m4.put (fs' := kf (.str x) (.ref pa) (.ref ca1) (.bl true) (.ref oa) (.str (pathT d x cs none none)) ++ [(("_rules" : Str), V.ref Dl)])
  have hca5 := keep (.ins C dx (kf (.str x) (.ref pa) (.ref ca1) (.bl true) (.ref oa) (.str (pathT d x cs none none)) ++ [(("_rules" : Str), V.ref Dl)])) m4 (s14 _ _ hca1) (by intro _ _ _ z; cases z)
  have hpa5 := keep (.ins C dx (kf (.str x) (.ref pa) (.ref ca1) (.bl true) (.ref oa) (.str (pathT d x cs none none)) ++ [(("_rules" : Str), V.ref Dl)])) m4 (s14 _ _ hpa) (by intro _ _ _ z; cases z)
  have hD5 := keep (.ins C dx (kf (.str x) (.ref pa) (.ref ca1) (.bl true) (.ref oa) (.str (pathT d x cs none none)) ++ [(("_rules" : Str), V.ref Dl)])) m4 hD4 (by intro _ _ _ z; cases z)
  have ru5 : Ruls D (upd G4 p (.ins C dx (kf (.str x) (.ref pa) (.ref ca1) (.bl true) (.ref oa) (.str (pathT d x cs none none)) ++ [(("_rules" : Str), V.ref Dl)]))) Dl a' b' := ⟨hD5, fun w q e => rulput m4 (by show 6 ≠ 1; decide) (ru4.ra w q e), fun w q e => rulput m4 (by show 6 ≠ 1; decide) (ru4.rb w q e)⟩
  have tt5 : TT (upd G4 p (.ins C dx (kf (.str x) (.ref pa) (.ref ca1) (.bl true) (.ref oa) (.str (pathT d x cs none none)) ++ [(("_rules" : Str), V.ref Dl)]))) oa (pathO d (cs.length + 2)) := (tt.same s14).sameX (p := p) (fun b o nb e => by rw [upd_ne nb]; exact e) m4.at_ (by intro xs z; cases z)
  generalize upd G4 p (.ins C dx (kf (.str x) (.ref pa) (.ref ca1) (.bl true) (.ref oa) (.str (pathT d x cs none none)) ++ [(("_rules" : Str), V.ref Dl)])) = G5 at m5 hca5 hpa5 hD5 ru5 tt5 ⊢
  -- the line
  have x12 : x.length ≤ 12 := by
    unfold wd at wx
    simp only [Bool.and_eq_true, decide_eq_true_eq] at wx
    exact wx.1.1.1.1.2
  refine ⟨_, rfl, _, rfl, p, C, dx, _, _, rfl, m5.at_, kc.cl, kc.n8, rf_rul .., p, Dl, C, dx, ca1, _, x, cs, d, u, a', b', rfl, m5.at_, kc, con, kf_dirR .., rf_name .., rf_ctl .., hca5, ru5, x12, by omega, c12, fun G6 s6 => ?_⟩
  have m6 := m5.same s6
  refine ⟨_, rfl, p, C, dx, _, rfl, m6.at_, kc.cl, kc.n6, rf_few .., ?_⟩
  rw [rf_line]
  have ru6 := ru5.same s6
  have m7 := m6.put (fs' := kf (.str x) (.ref pa) (.ref ca1) (.bl true) (.ref oa) (.str (pathT d x cs a' b')) ++ [(("_rules" : Str), V.ref Dl)])
  refine k _ Dl a' b' m7.sm ea eb ⟨pa, ca1, oa, m7.at_, keep _ m6 (s6 _ _ hpa5) (by intro _ _ _ z; cases z), keep _ m6 (s6 _ _ hca5) (by intro _ _ _ z; cases z), ?_⟩ ⟨keep _ m6 (s6 _ _ hD5) (by intro _ _ _ z; cases z), fun w q e => rulput m6 (by show 7 ≠ 1; decide) (ru6.ra w q e), fun w q e => rulput m6 (by show 7 ≠ 1; decide) (ru6.rb w q e)⟩
  exact (tt5.same s6).sameX (p := p) (fun b o nb e => by rw [upd_ne nb]; exact e) m6.at_ (by intro xs z; cases z)
end
end R5
end

-- L5i
section
set_option Elab.async false
set_option linter.all false
set_option maxRecDepth 100000
set_option exponentiation.threshold 10000
namespace R5
open PySem L2 OwnOps OwnNe G1 StX SupX
/-- what is met as a group -/
inductive Gr (H : Hp) : V → Option (List Str) → Prop
  | tup {a : Addr} {zs : List Str} (e : H a = some (.tup (zs.map V.str))) : Gr H (.ref a) (some zs)
  | lst {a : Addr} {xs : List V} (e : H a = some (.lst xs)) : Gr H (.ref a) none
  | str (x : Str) : Gr H (.str x) none
theorem Gr.same {H H' : Hp} {v : V} {o : Option (List Str)} (g : Gr H v o) (s : Same H H') : Gr H' v o := by
  cases g with
  | tup e => exact .tup (s _ _ e)
  | lst e => exact .lst (s _ _ e)
  | str x => exact .str x
def gOk : Option (List Str) → Bool
  | some zs => decide (2 ≤ zs.length)
  | none => false
theorem tyx_tup {K : PySem.W.Frag} {H : Hp} {a : Addr} {xs : List V} (h : SqT K H a xs) : TyX K H (.ref a) (.type "tuple") := by
  rcases h with (h | ⟨o, h⟩) | ⟨o, its, n, h1, h2, _⟩
  · exact .base (.tup h)
  · exact .fTuple h
  · exact .kTuple h1 h2
/-- the groups, as they are met -/
structure Grs (K : PySem.W.Frag) (H : Hp) (a : Addr) (gs : List V) (os : List (Option (List Str))) : Prop where
  at_ : SqT K H a gs
  len : gs.length = os.length
  it : ∀ (i : Nat) v, gs[i]? = some v → ∃ o, os[i]? = some o ∧ Gr H v o
theorem Grs.same {K : PySem.W.Frag} {H H' : Hp} {a : Addr} {gs : List V} {os : List (Option (List Str))} (g : Grs K H a gs os) (s : Same H H') : Grs K H' a gs os := ⟨Same.tupS s g.at_, g.len, fun i v h => let ⟨o, h1, h2⟩ := g.it i v h; ⟨o, h1, h2.same s⟩⟩
def texts (os : List (Option (List Str))) : List Str := os.flatMap fun o => o.getD []
def grpB (os : List (Option (List Str))) (pins : List Str) : Bool := os.all gOk && (difV ((texts os).map V.str) && (texts os).all fun z => pins.contains z)
abbrev rLenQ (K : PySem.W.Frag) : List V → Hp → VK → Prop := fun xs H Q => ∃ p ys, xs = [.ref p] ∧ (SqL K H p ys ∨ SqT K H p ys) ∧ Q (.int ys.length) H
theorem eqV_str (a b : Str) : eqV (.str a) (.str b) = decide (a = b) := by
  show (a == b) = decide (a = b)
  by_cases h : a = b
  · rw [h, decide_eq_true rfl]; exact beq_self_eq_true _
  · rw [decide_eq_false h]; exact beq_eq_false_iff_ne.mpr h
theorem inV_str (x : Str) (xs : List Str) : inV (.str x) (xs.map V.str) = xs.contains x := by
  unfold inV
  rw [List.any_map]
  induction xs with
  | nil => rfl
  | cons y r ih =>
    rw [List.any_cons, List.contains_cons, ih]
    congr 1
    show eqV (.str y) (.str x) = _
    rw [eqV_str]
    by_cases h : y = x
    · rw [h, decide_eq_true rfl]; exact (beq_self_eq_true _).symm
    · rw [decide_eq_false h]; exact (beq_eq_false_iff_ne.mpr (Ne.symm h)).symm
theorem flat_strs (xs : List Str) : (xs.map V.str).all flatV = true := by
  rw [List.all_map]
  exact List.all_eq_true.mpr fun _ _ => rfl
theorem texts_succ {os : List (Option (List Str))} {i : Nat} {o : Option (List Str)} (h : os[i]? = some o) : texts (os.take (i + 1)) = texts (os.take i) ++ o.getD [] := by
  unfold texts
  rw [take_succ_at h, List.flatMap_append]
  simp
theorem texts_le {os : List (Option (List Str))} (i : Nat) : (texts (os.take i)).length ≤ (texts os).length := by
  unfold texts
  have e : os = os.take i ++ os.drop i := (List.take_append_drop i os).symm
  have : (os.flatMap fun o => o.getD []).length = ((os.take i).flatMap fun o => o.getD []).length + ((os.drop i).flatMap fun o => o.getD []).length := by
    rw [← List.length_append, ← List.flatMap_append, ← e]
  omega
abbrev NGr : List Str := ["swaps", "pins", "grouped", "group", "pin"]
section
variable {P : Program} {w : World} {K : PySem.W.Frag} {mg : Str → Option Value} {base : Heap}
def spGrp (K : PySem.W.Frag) : Sp := fun vs H Q _ => ∃ v pa pins, vs = [v, .ref pa] ∧ SqT K H pa (pins.map V.str) ∧ ((Av H v ∧ (∀ a xs, v = .ref a → H a ≠ some (.tup xs)) ∧ Q (.bl false) H) ∨
  ∃ a gs os, v = .ref a ∧ Grs K H a gs os ∧ gs.length ≤ 10 ∧ (texts os).length ≤ 40 ∧ (∀ z ∈ texts os, z.length ≤ 1000) ∧ ∀ H', Same H H' → Q (.bl (grpB os pins)) H')
theorem ok_grp {f : Addr} {fd : FuncData} (F : Fun K "_are_groups" "_are_groups" sGrp f fd) (T : Bi mg) (GD : Glb P w K mg base "are_different_words" 2 ["values"] (spDiff K)) : FnOk P w K mg base (L2.CX P w) 3 f fd ["swaps", "pins"] (spGrp K) := by
  obtain ⟨_, _, mD, kD, GD, bD⟩ := GD.ex
  have sc : FnScope NGr ["swaps", "pins"] (defScope sGrp) := ⟨rfl, rfl, rfl, by decide +kernel, rfl, by decide +kernel, by decide +kernel⟩
  have hN := sc.nd
  refine F.okX sc (fun vs H Q E h => ?_) (fun cdv A outer s H vs Q E hr h => ?_)
  · obtain ⟨v, pa, pins, rfl, _⟩ := h
    rfl
  · obtain ⟨v, pa, pins, rfl, hpa, k⟩ := h
    refine ⟨_, pss_cons (ps_if (pt_not (pt_val (pe_callB call_isi (by rfl) T.isi (by decide +kernel) (pa_cons (pv 0) (pa_cons (pe_bltn (v := .ty "tuple") (by rfl) T.tuple (by decide +kernel) rfl) pa_nil))))) (pss_one (ps_ret pe_bl)) pss_nil)
      (pss_cons (ps_if (pt_not (pt_val (pe_callB (cr_all rfl) (by rfl) T.all (by decide +kernel) (pa_cons (pe_lc (own := [("group", 3)]) (g := gName 3) (tt := tYes) (te := tAndV (tCB (rIsi K) (tCons (tVar 3) (tCons (tC (.ty "tuple")) tNil))) (tOp (rI0 fun i j => .bl (decide (j ≤ i))) (tCB (rLenQ K) (tCons (tVar 3) tNil)) (tC (.int 2)))) rfl hN (pi_tup (pv 0))
          (blkOk_by (N := NGr) (sc := defScope sGrp) (by decide +kernel)) (fun _ _ _ _ _ => pg_name (i := 3) hN rfl (Or.inl rfl)) (fun _ _ _ _ _ => pts_nil)
          (fun _ _ _ _ _ => pe_and (pe_callB (id := "isinstance") (show CallR _ (.builtin "isinstance") (rIsi K) from call_isi) (by rfl) T.isi (by decide +kernel) (pa_cons (pv 3) (pa_cons (pe_bltn (v := .ty "tuple") (by rfl) T.tuple (by decide +kernel) rfl) pa_nil))) (pe_one (pe_cmpR op_ge (pe_callB call_len_seq (by rfl) T.len PySem.boot_len (pa_cons (pv 3) pa_nil)) pe_int (nomark _))))) pa_nil)))) (pss_one (ps_ret pe_bl)) pss_nil)
      (pss_cons (ps_setLc2 (i := 2) (own := [("group", 3), ("pin", 4)]) (vs1 := [4]) (g := gName 3) (g1 := gName 4) (tt := tYes) (tt1 := tYes) (wi1 := iTup K (tVar 3)) (te := tVar 4) rfl hN rfl rfl (sw_true rfl rfl rfl (by decide +kernel)) (pi_tup (pv 0))
          (blkOk_by (N := NGr) (sc := defScope sGrp) (by decide +kernel)) (by decide) (fun _ _ _ _ _ => pg_name (i := 3) hN rfl (Or.inl rfl)) (fun _ _ _ _ _ => pts_nil) (fun _ _ _ _ _ => pi_tup (pv 3)) (fun _ _ _ _ _ => pg_name (i := 4) hN rfl (Or.inl rfl)) (fun _ _ _ _ _ => pts_nil) (fun _ _ _ _ _ => pv 4))
      (pss_one (ps_ret (pe_and (pe_call GD hr (by rfl) mD kD bD .nil passL (pa_cons (pv 2) pa_nil)) (pe_one (pe_callB (cr_all rfl) (by rfl) T.all (by decide +kernel) (pa_cons
          (pe_lc (own := [("pin", 4)]) (g := gName 4) (tt := tYes) (te := tOp (rIn K false) (tVar 4) (tVar 1)) rfl hN (pi_list (pv 2)) (blkOk_by (N := NGr) (sc := defScope sGrp) (by decide +kernel)) (fun _ _ _ _ _ => pg_name (i := 4) hN rfl (Or.inl rfl)) (fun _ _ _ _ _ => pts_nil)
            (fun _ _ _ _ _ => pe_cmpR op_in_seq (pv 4) (pv 1) (by rfl))) pa_nil)))))))), ?_⟩
    have line : 1000 ≤ sizeLine := by decide
    rcases k with ⟨av, nt, k⟩ | ⟨a, gs, os, rfl, gr, n10, n40, sh, k⟩
    · cases av with
      | non => exact ⟨_, rfl, _, _, _, _, _, rfl, .ty _, .base .non, kit_ty (r := false) (by decide +kernel), _, rfl, if_pos' rfl k⟩
      | str x => exact ⟨_, rfl, _, _, _, _, _, rfl, .ty _, .base (.str _), kit_ty (r := false) (by decide +kernel), _, rfl, if_pos' rfl k⟩
      | int i => exact ⟨_, rfl, _, _, _, _, _, rfl, .ty _, .base (.int i), kit_ty (r := false) (by decide +kernel), _, rfl, if_pos' rfl k⟩
      | bl b => exact ⟨_, rfl, _, _, _, _, _, rfl, .ty _, .base (.bl b), kit_ty (r := false) (by decide +kernel), _, rfl, if_pos' rfl k⟩
      | lst e => exact ⟨_, rfl, _, _, _, _, _, rfl, .ty _, .base (.lst e), kit_ty (r := false) (by decide +kernel), _, rfl, if_pos' rfl k⟩
      | tup e => exact absurd e (nt _ _ rfl)
    refine ⟨_, rfl, _, _, _, _, _, rfl, .ty _, tyx_tup gr.at_, kit_ty (r := true) (by decide +kernel), _, rfl, if_neg' rfl ?_⟩
    refine ⟨_, rfl, a, rfl, ⟨_, gr.at_⟩, fun D nD => ?_⟩
    refine walk_it (walk_tup (K := K) (a := a) (xs := gs)) (fun i G => Same H G ∧ G D = some (.lst (((os.take i).map gOk).map V.bl))) ⟨same_upd nD, upd_same⟩ (fun i G _ ⟨sm, _⟩ => Same.tupS sm gr.at_) (fun i v G G' hi ⟨sm, hD⟩ ⟨e, hx⟩ => ?_) (fun G ⟨sm, hD⟩ => ?_)
    · subst e
      obtain ⟨o, ho, g⟩ := gr.it i v hx
      have g := g.same sm
      have room : (((os.take i).map gOk).map V.bl).length < sizeLine := by
        rw [List.length_map, List.length_map, List.length_take]
        have := gr.len
        omega
      have nxt : ∀ b, b = gOk o → (upd G' D (.lst (((os.take i).map gOk).map V.bl ++ [V.bl b]))) D = some (.lst (((os.take (i + 1)).map gOk).map V.bl)) := fun b e => by
        rw [upd_same, take_succ_at ho, List.map_append, List.map_append, e]
        rfl
      cases g with
      | @tup q zs h1 =>
        exact ⟨rfl, yes_go (iteT ⟨_, rfl, _, _, _, _, _, rfl, .ty _, .base (.tup h1), kit_ty (r := true) (by decide +kernel), _, rfl, if_pos' rfl ⟨_, rfl, _, _, rfl, .inr (SqT.of h1), _, _, rfl, rfl, _, hD, room, same_put sm nD, nxt _ (by
          show decide ((2 : Int) ≤ ((List.map V.str zs).length : Nat)) = decide _
          rw [List.length_map, decide_eq_decide]
          omega)⟩⟩)⟩
      | str x => exact ⟨rfl, yes_go (iteT ⟨_, rfl, _, _, _, _, _, rfl, .ty _, .base (.str _), kit_ty (r := false) (by decide +kernel), _, rfl, if_neg' rfl ⟨_, hD, room, same_put sm nD, nxt _ rfl⟩⟩)⟩
      | lst h1 => exact ⟨rfl, yes_go (iteT ⟨_, rfl, _, _, _, _, _, rfl, .ty _, .base (.lst h1), kit_ty (r := false) (by decide +kernel), _, rfl, if_neg' rfl ⟨_, hD, room, same_put sm nD, nxt _ rfl⟩⟩)⟩
    rw [show os.take gs.length = os by rw [gr.len]; exact List.take_length] at hD
    refine ⟨D, _, rfl, SqL.of hD, _, rfl, ?_⟩
    rw [List.all_map, show (os.all (id ∘ gOk)) = os.all gOk from rfl]
    cases ha : os.all gOk with
    | false =>
      refine if_pos' rfl ?_
      have z := k G sm
      unfold grpB at z
      rw [ha] at z
      exact z
    | true =>
    refine if_neg' rfl ?_
    have gr1 := gr.same sm
    refine ⟨_, rfl, a, rfl, ⟨_, gr1.at_⟩, fun D2 nD2 => ?_⟩
    refine walk_it (walk_tup (K := K) (a := a) (xs := gs)) (fun i G2 => Same G G2 ∧ G2 D2 = some (.lst ((texts (os.take i)).map V.str))) ⟨same_upd nD2, upd_same⟩ (fun i G2 _ ⟨sm2, _⟩ => Same.tupS sm2 gr1.at_) (fun i v G2 G3 hi ⟨sm2, hD2⟩ ⟨e, hx⟩ => ?_) (fun G2 ⟨sm2, hD2⟩ => ?_)
    · subst e
      obtain ⟨o, ho, g⟩ := gr1.it i v hx
      have g := g.same sm2
      have ok : gOk o = true := List.all_eq_true.mp ha o (List.mem_of_getElem? ho)
      cases g with
      | str x => cases ok
      | lst h => cases ok
      | @tup q zs h1 =>
      have le1 := texts_le (os := os) (i + 1)
      rw [texts_succ ho, List.length_append] at le1
      refine ⟨rfl, yes_go (iteT ⟨_, rfl, q, rfl, ⟨_, SqT.of h1⟩, ?_⟩)⟩
      refine walk_it (walk_tup (K := K) (a := q) (xs := zs.map V.str)) (fun j G4 => Same G G4 ∧ G4 q = some (.tup (zs.map V.str)) ∧ G4 D2 = some (.lst ((texts (os.take i) ++ zs.take j).map V.str))) ⟨sm2, h1, by rw [List.take_zero, List.append_nil]; exact hD2⟩ (fun j G4 _ h => SqT.of h.2.1) (fun j y G4 G5 hj ⟨sm4, e4, hD4⟩ ⟨e, hy⟩ => ?_) (fun G4 ⟨sm4, e4, hD4⟩ => ?_)
      · subst e
        rw [List.getElem?_map] at hy
        obtain ⟨z, hz, rfl⟩ := Option.map_eq_some_iff.mp hy
        have ne : q ≠ D2 := fun w => by rw [w, hD4] at e4; cases e4
        refine ⟨rfl, yes_go (iteT ⟨_, rfl, _, hD4, ?_, same_put sm4 nD2, by rw [upd_ne ne]; exact e4, ?_⟩)⟩
        · rw [List.length_map, List.length_append, List.length_take]
          have : min j zs.length ≤ zs.length := Nat.min_le_right _ _
          have e : (Option.getD (some zs) ([] : List Str)).length = zs.length := rfl
          omega
        · rw [upd_same, take_succ_at hz, ← List.append_assoc]
          simp only [List.map_append]
          rfl
      · refine ⟨sm4, ?_⟩
        rw [List.length_map, List.take_length] at hD4
        rw [texts_succ ho]
        exact hD4
    rw [show os.take gs.length = os by rw [gr.len]; exact List.take_length] at hD2
    have sm02 := sm.trans sm2
    refine ⟨_, rfl, D2, _, rfl, .inl (SqL.of hD2), by rw [List.length_map]; omega, fun y hy => ?_, fun G3 s3 => ?_⟩
    · obtain ⟨z, hz, rfl⟩ := List.mem_map.mp hy
      exact ⟨.str z, sh z hz⟩
    cases hd : difV ((texts os).map V.str) with
    | false =>
      refine ⟨_, rfl, if_neg' rfl ?_⟩
      have z := k G3 (sm02.trans s3)
      unfold grpB at z
      rw [ha, hd] at z
      exact z
    | true =>
    have hD3 := s3 _ _ hD2
    have hpa3 := Same.tupS s3 (Same.tupS sm02 hpa)
    refine ⟨_, rfl, if_pos' rfl ⟨_, rfl, D2, rfl, ⟨_, SqL.of hD3⟩, fun D4 nD4 => ?_⟩⟩
    refine walk_it (walk_list (K := K) (a := D2) (xs := (texts os).map V.str)) (fun i G4 => Same G3 G4 ∧ G4 D4 = some (.lst ((((texts os).take i).map fun z => pins.contains z).map V.bl))) ⟨same_upd nD4, upd_same⟩ (fun i G4 _ ⟨sm4, _⟩ => SqL.of (sm4 _ _ hD3)) (fun i v G4 G5 hi ⟨sm4, hD4⟩ ⟨e, hx⟩ => ?_) (fun G4 ⟨sm4, hD4⟩ => ?_)
    · subst e
      rw [List.getElem?_map] at hx
      obtain ⟨z, hz, rfl⟩ := Option.map_eq_some_iff.mp hx
      refine ⟨rfl, yes_go (iteT ⟨_, rfl, _, rfl, pa, _, rfl, .inr (Same.tupS sm4 hpa3), rfl, flat_strs _, _, hD4, ?_, same_put sm4 nD4, ?_⟩)⟩
      · rw [List.length_map, List.length_map, List.length_take]
        omega
      · rw [upd_same, take_succ_at hz, inV_str]
        simp only [List.map_append]
        rfl
    · rw [List.length_map, List.take_length] at hD4
      refine ⟨D4, _, rfl, SqL.of hD4, ?_⟩
      have z := k G4 (sm02.trans (s3.trans sm4))
      unfold grpB at z
      rw [ha, hd] at z
      rw [List.all_map]
      exact z
end
end R5
end

-- EnumT
section
set_option Elab.async false
set_option maxRecDepth 100000
/-! enumerate over a tuple, for the hand layer -/
namespace EnumT
open PySem PySem.Spec PyProof.Rows L2
open Sem (wp)

set_option maxHeartbeats 1000000 in
theorem enumNew {v : Value} {ob : Obj} {Hs : Heap → Prop} (B : Begins v ob Hs) :
    Meets (Builtin.«enumerate.__new__» ⟨[.type "enumerate", v], []⟩) (fun _ R s => Hs s.heap ∧
      R (.ok (.ret (.ref (s.heap.push ob).objs.size))) { s with heap := (s.heap.push ob).push { cls := .type "enumerate", data := .fields #[.none, .bool false, .ref s.heap.objs.size, rawInt 0, .none, .none] } }) := by
  refine .of_wp fun P w A R s hR => ?_
  obtain ⟨hp, gl, dd, tk, os⟩ := s
  obtain ⟨hs, hr⟩ := hR
  have sub := sub_enumerate
  have fwd : ∀ {A' : Around} {E : Value → Shared → Prop} {Q : Value → Shared → Prop}, Q (.ref hp.objs.size) ⟨hp.push ob, gl, dd, tk, os⟩ → wpAny (model P w) A' (pyIter v) Q E ⟨hp, gl, dd, tk, os⟩ :=
    fun q => B.iter P w _ _ ⟨hp, gl, dd, tk, os⟩ _ hs q
  wp_walk using fwd
  refine wpAny_stack_any fun st => wpAny_pure ?_
  split
  · rename_i c _ _ _ _ _
    rcases hb : (c == Value.type "enumerate") with _ | _
    all_goals
      wp_walk using fwd
      exact ⟨_, rfl, hr⟩
  · wp_walk using fwd
    exact ⟨_, rfl, hr⟩

theorem enumOver {P : Program} {w : World} {A : Around} {E : Value → Shared → Prop} {s : Shared} {v : Value} {ob : Obj} {Hs : Heap → Prop} {Q : Value → Shared → Prop} (B : Begins v ob Hs) (hs : Hs s.heap)
    (k : ∀ h', IsEnum h' (s.heap.objs.size + 1) s.heap.objs.size 0 .none → h'.get? s.heap.objs.size = some ob →
      (∀ b o, s.heap.get? b = some o → h'.get? b = some o) → Q (.ref (s.heap.objs.size + 1)) { s with heap := h' }) :
    wpAny (model P w) A (call (.type "enumerate") [v]) Q E s := by
  refine callType_new F.called_enumerate (by decide) (F.typeCall_enumerate_1 _) (F.newCall_enumerate_1 _) (fun obj => F.args_object_init_2 obj _) F.entry_enumerate_new
    (enumNew B) ⟨hs, ?_⟩
  have z : (s.heap.push ob).objs.size = s.heap.objs.size + 1 := Heap.size_push ..
  have he := Heap.get?_push_size (s.heap.push ob) (o := { cls := .type "enumerate", data := .fields #[.none, .bool false, .ref s.heap.objs.size, rawInt 0, .none, .none] }) rfl
  show _ ∧ _
  rw [z] at he ⊢
  exact ⟨⟨_, he, rfl⟩, k _ he (Heap.get?_push_of_some _ (Heap.get?_push_size _ B.free)) fun b o x => Heap.get?_push_of_some _ (Heap.get?_push_of_some _ x)⟩

/-- the tuple at a, each item in a new pair -/
def ItE (K : PySem.W.Frag) (a : Addr) : It :=
  ⟨fun i H => ∃ (xs : List V) (x : V), SqT K H a xs ∧ xs[i]? = some x,
   fun i H v H' => ∃ T x, v = .ref T ∧ H T = none ∧ H' = upd H T (.tup [.int (i : Nat), x]) ∧ ∀ xs, SqT K H a xs → xs[i]? = some x,
   fun i H => ∃ xs : List V, SqT K H a xs ∧ xs.length ≤ i⟩

theorem turnE {P : Program} {w : World} {K : PySem.W.Frag} {elts : List Expr} {kk : Nat} {tpos : Pos} (a e it : Addr) :
    Turn P w K (.Tuple elts kk tpos) (ItE K a) [e, it] e (fun i h => (∃ old, IsEnum h e it ((i : Nat) : Int) old) ∧ h.IsTupleIter it a i ∧ e ≠ it) where
  mem := List.mem_cons_self ..
  obj := by
    rintro i h ⟨⟨old, he⟩, ⟨o, ho, hc, hd⟩, _⟩ b hb
    rcases List.mem_cons.mp hb with rfl | hb
    · exact ⟨_, he, fun v q => nomatch q⟩
    · obtain rfl := List.mem_singleton.mp hb
      exact ⟨o, ho, fun v q => by rw [hd] at q; cases q⟩
  keep := by
    rintro i h h' ⟨⟨old, he⟩, hi, ne⟩ k
    exact ⟨⟨old, k e (by simp) _ he⟩, hi.at fun o q => k it (by simp) o q, ne⟩
  item := by
    intro X hP hw hK hc i pins s σ H E I hf st hg
    subst hP hw hK
    obtain ⟨⟨old, he⟩, hit, hne⟩ := st
    obtain ⟨xs, x, hq, hx⟩ := hg
    obtain ⟨its, rv, p, hz⟩ := I.tuple hq
    obtain ⟨u, hu, ru⟩ := rv.get hx
    have ai : a ≠ it := by
      obtain ⟨o, ho, hc, _⟩ := p
      obtain ⟨o', ho', hc', _⟩ := hit
      intro z
      subst z
      rw [ho] at ho'
      cases ho'
      rw [hc] at hc'
      exact absurd hc' (by decide)
    have ae : e ≠ a := by
      obtain ⟨o, ho, hc, _⟩ := p
      intro z
      subst z
      have e' := he.symm.trans ho
      cases e'
      exact absurd (show Value.type "enumerate" = Value.type "tuple" from hc) (by decide)
    have hel : e < s.heap.objs.size := Heap.lt_size he
    have hil : it < s.heap.objs.size := by obtain ⟨_, q, _⟩ := hit; exact Heap.lt_size q
    have lt : i < its.toArray.size := by
      have := List.getElem?_eq_some_iff.mp hu
      simpa using this.1
    refine wpAny_pyNext_enum_itemC (Draws.tuple (A := X.A.in1) (I.ok.hd hc) it a ai its.toArray) he ⟨hit, p⟩ lt hne (by simp [hne, ae]) fun y h' tk hy ho st' hT hsz hk => ?_
    obtain rfl : y = u := by
      have hy' : its[i]? = some y := by simpa using hy
      exact Option.some.inj (hy'.symm.trans hu)
    refine ⟨_, rfl, wpAny_letOwnedTupleGo_enum (s := { s with heap := h', toks := tk + 1 }) ho fun h'' he' sb => ?_⟩
    have hT2 : h''.get? s.heap.objs.size = some { cls := .type "tuple", data := .seq #[.int i tk, y] } := (sb.2 _ (Nat.ne_of_gt hel)).trans hT
    have new : ObjOk X.prog X.w (upd H s.heap.objs.size (.tup [.int (i : Nat), x])) h'' s.heap.objs.size (.tup [.int (i : Nat), x]) :=
      ⟨by show 2 ≤ sizeLine; decide, [.int i tk, y], .cons ⟨_, rfl⟩ (.cons ru .nil), ⟨_, hT2, rfl, _, rfl⟩⟩
    have I1 : Inv X pins σ (upd H s.heap.objs.size (.tup [.int (i : Nat), x])) { s with heap := h'', toks := tk + 1 } :=
      I.turnedNew (ch := [e, it]) (fun b ob hb q => (sb.2 b (fun z => hb (by simp [z]))).trans (hk b ob (fun z => hb (by simp [z])) (fun z => hb (by simp [z])) q)) hf (Nat.le_refl _) new
    refine ⟨.ref s.heap.objs.size, _, I1, rfl, ⟨_, x, rfl, I.hok.fresh (Nat.le_refl _), rfl, fun ys hy => by rw [I.tuple_inj hy hq]; exact hx⟩, ⟨⟨y, ?_⟩, st'.1.at fun o q => (sb.2 it (Ne.symm hne)).trans q, hne⟩, fun b hb => ?_⟩
    · rw [Int.natCast_succ]; exact he'
    · have lt2 : b < s.heap.objs.size := by
        rcases List.mem_cons.mp hb with rfl | h2
        · exact hel
        · exact (List.mem_singleton.mp h2) ▸ hil
      rw [upd_ne (Nat.ne_of_lt lt2)]
      exact (hf b hb).1
  done := by
    intro X hP hw hK hc i pins s σ H E I hf st hg
    subst hP hw hK
    obtain ⟨⟨old, he⟩, hit, hne⟩ := st
    obtain ⟨xs, hq, hx⟩ := hg
    obtain ⟨its, rv, p, hz⟩ := I.tuple hq
    obtain ⟨f0, f1, f2, f3, f4, f5⟩ := hf it (by simp)
    have hl := rv.length
    have D : Draws X.prog X.w X.A.in1 it [it, a] i (fun _ _ => True) (fun j h => j = i ∧ h.IsTupleIter it a i ∧ h.IsTuple a its.toArray) :=
      { live := fun j h q => let ⟨o, ho, _⟩ := q.2.1; ⟨o, ho⟩
        frame := fun j h h' q k => ⟨q.1, q.2.1.at fun o e => k it (by simp) o e, q.2.2.at fun o e => k a (by simp) o e⟩
        item := fun j s Q E lt q => absurd q.1 (Nat.ne_of_lt lt)
        done := fun s Q E q h => wpAny_nextOf_tuple_end (I.ok.hd hc) q.2.1 q.2.2 (by simp; omega) h }
    exact wpAny_pyNext_enum_endD D he ⟨rfl, hit, p⟩ fun h' eb => ⟨rfl, I.turned (t' := s.toks) (fun b o hb q => eb b o hb q) f0 f1 f3 f4 f5⟩
  self := fun A i s Q E st h => let ⟨⟨_, he⟩, _⟩ := st; wpAny_pyIter_enum he h

def iEnumT (K : PySem.W.Frag) (ta : TA) : TI := fun σ H R => ta σ H fun vs H1 => ∃ a xs, vs = [.ref a] ∧ SqT K H1 a xs ∧ R (ItE K a) H1

theorem pi_enumT {X : Cx} {e : Expr} {ta : TA} {p pos tpos : Pos} {elts : List Expr} {kk : Nat} (hg : Gl X "enumerate") (hm : X.mg "enumerate" = none) (ha : PA X [e] ta) (hs : starEach [e] X.env = [(false, eval e X.env)] := by rfl) :
    PI X (.Tuple elts kk tpos) (.Call (.Name "enumerate" p) [e] [] pos) (iEnumT X.K ta) := by
  constructor
  intro pins s σ H R I h
  refine Call_ (ld_blt I hg hm boot_enumerate (PyProof.Rows.callWith_type1 (thn (ha.run pos pins s σ H _ I h) fun us s1 ⟨vs, H1, I1, r1, a, xs, ex, hq, q⟩ => ?_) hs rfl))
  subst ex
  rcases r1 with _ | ⟨r, rr⟩
  cases rr
  cases r
  obtain ⟨its, rv, p', hz⟩ := I1.tuple hq
  refine enumOver (begins_tuple a its.toArray) p' fun h' he hit hk => wpAny_pyIter_enum he ?_
  have I2 : Inv X pins σ H1 { s1 with heap := h' } := I1.kept (t' := s1.toks) hk
  refine ⟨s1.heap.objs.size + 1, [s1.heap.objs.size + 1, s1.heap.objs.size], _, _, H1, rfl, I2, turnE a _ s1.heap.objs.size, ⟨⟨.none, he⟩, ⟨_, hit, rfl, rfl⟩, Nat.succ_ne_self _⟩, fun b hb => ?_, q⟩
  have le : s1.heap.objs.size ≤ b := by
    rcases List.mem_cons.mp hb with rfl | hb
    · exact Nat.le_succ _
    · exact Nat.le_of_eq (List.mem_singleton.mp hb).symm
  exact I1.fpOk le (I1.hok.fresh le)
end EnumT
end

-- L5j
section
set_option Elab.async false
set_option linter.all false
set_option maxRecDepth 100000
set_option exponentiation.threshold 10000
namespace R5
open PySem L2 OwnOps OwnNe G1 StX SupX EnumT
/-- lists of texts, in a list -/
structure LLt (H : Hp) (a : Addr) (gss : List (List Str)) (qs : List Addr) : Prop where
  at_ : H a = some (.lst (qs.map V.ref))
  len : qs.length = gss.length
  it : ∀ (i : Nat) (q : Addr), qs[i]? = some q → ∃ g, gss[i]? = some g ∧ H q = some (.lst (g.map V.str))
theorem LLt.same {H H' : Hp} {a : Addr} {gss : List (List Str)} {qs : List Addr} (g : LLt H a gss qs) (s : Same H H') : LLt H' a gss qs := ⟨s _ _ g.at_, g.len, fun i v h => let ⟨o, h1, h2⟩ := g.it i v h; ⟨o, h1, s _ _ h2⟩⟩
def gmates (pin : Str) (gss : List (List Str)) : List Str := gss.flatMap fun g => if g.contains pin then g else []
def mOk (pin : Str) (ms pins : List Str) (i : Nat) : Bool := decide (pins.getD i Str.empty = pin) || ms.contains (pins.getD i Str.empty)
def mTo (pin : Str) (ms pins : List Str) (n : Nat) : List Nat := (List.range n).filter fun i => mOk pin ms pins i
def matesT (pin : Str) (pins : List Str) (gss : List (List Str)) : List Nat := mTo pin (gmates pin gss) pins pins.length
def nV (n : Nat) : V := .int (n : Int)
theorem gmates_succ {pin : Str} {gss : List (List Str)} {i : Nat} {g : List Str} (h : gss[i]? = some g) : gmates pin (gss.take (i + 1)) = gmates pin (gss.take i) ++ (if g.contains pin then g else []) := by
  unfold gmates
  rw [take_succ_at h, List.flatMap_append]
  simp
theorem gmates_le {pin : Str} {gss : List (List Str)} (i : Nat) : (gmates pin (gss.take i)).length ≤ (gmates pin gss).length := by
  have e : gss = gss.take i ++ gss.drop i := (List.take_append_drop i gss).symm
  have : (gmates pin gss).length = (gmates pin (gss.take i)).length + (gmates pin (gss.drop i)).length := by
    unfold gmates
    rw [← List.length_append, ← List.flatMap_append, ← e]
  omega
theorem gmates_flat {pin : Str} (gss : List (List Str)) : (gmates pin gss).length ≤ gss.flatten.length := by
  unfold gmates
  induction gss with
  | nil => exact Nat.le_refl _
  | cons g r ih =>
    rw [List.flatMap_cons, List.flatten_cons, List.length_append, List.length_append]
    split
    · omega
    · simp only [List.length_nil]
      omega
theorem mTo_succ {pin : Str} {ms pins : List Str} (n : Nat) : mTo pin ms pins (n + 1) = mTo pin ms pins n ++ (if mOk pin ms pins n = true then [n] else []) := by
  unfold mTo
  rw [List.range_succ, List.filter_append]
  congr 1
  by_cases h : mOk pin ms pins n = true
  · rw [if_pos h, List.filter_cons_of_pos h]
    rfl
  · rw [if_neg h, List.filter_cons_of_neg h]
    rfl
theorem mTo_len {pin : Str} {ms pins : List Str} (n : Nat) : (mTo pin ms pins n).length ≤ n := by
  unfold mTo
  have := List.length_filter_le (fun i => mOk pin ms pins i) (List.range n)
  rw [List.length_range] at this
  exact this
theorem getD_at {pins : List Str} {i : Nat} {x : Str} (h : pins[i]? = some x) : pins.getD i Str.empty = x := by
  rw [List.getD_eq_getElem?_getD, h]
  rfl
theorem walk_enumT {K : PySem.W.Frag} {a : Addr} {xs : List V} : Walk (ItE K a) xs.length (fun H => SqT K H a xs) (YPair (fun i => some (.int (i : Nat))) (fun i => xs[i]?)) := by
  refine ⟨fun i _ hi q => ⟨xs, xs[i], q, by simp [hi]⟩, fun _ q => ⟨xs, q, Nat.le_refl _⟩, fun i H v H' _ q y => ?_⟩
  obtain ⟨T, x, h1, h2, h3, h4⟩ := y
  exact ⟨T, .int (i : Nat), x, h1, h2, h3, rfl, h4 xs q⟩
theorem in_b (x : Str) (xs : List Str) : (if false = true then !inV (.str x) (xs.map V.str) else inV (.str x) (xs.map V.str)) = xs.contains x := (if_neg Bool.false_ne_true).trans (inV_str x xs)
abbrev NMt : List Str := ["pin", "pins", "groups", "mates", "group", "mate", "index", "other"]
section
variable {P : Program} {w : World} {K : PySem.W.Frag} {mg : Str → Option Value} {base : Heap}
def spMat (K : PySem.W.Frag) : Sp := fun vs H Q _ => ∃ pin pa pins ga gss qs, vs = [.str pin, .ref pa, .ref ga] ∧ SqT K H pa (pins.map V.str) ∧ LLt H ga gss qs ∧ pins.length ≤ 100 ∧ gss.length ≤ 100 ∧ gss.flatten.length ≤ 100 ∧
  ∀ r H', Same H H' → H' r = some (.lst ((matesT pin pins gss).map nV)) → Q (.ref r) H'
theorem ok_mat {f : Addr} {fd : FuncData} (F : Fun K "_mates" "_mates" sMat f fd) (T : Bi mg) : FnOk P w K mg base (L2.CX P w) 3 f fd ["pin", "pins", "groups"] (spMat K) := by
  have sc : FnScope NMt ["pin", "pins", "groups"] (defScope sMat) := ⟨rfl, rfl, rfl, by decide +kernel, rfl, by decide +kernel, by decide +kernel⟩
  have hN := sc.nd
  refine F.okX sc (fun vs H Q E h => ?_) (fun cdv A outer s H vs Q E hr h => ?_)
  · obtain ⟨pin, pa, pins, ga, gss, qs, rfl, _⟩ := h
    rfl
  · obtain ⟨pin, pa, pins, ga, gss, qs, rfl, hpa, hg, n1, n2, n3, k⟩ := h
    refine ⟨_, pss_cons (ps_set (i := 3) hN rfl (Or.inr rfl) (pe_lc2 (own := [("group", 4), ("mate", 5)]) (vs1 := [5]) (g := gName 4) (g1 := gName 5) (tt := tTest (tOp (rIn K false) (tVar 0) (tVar 4))) (tt1 := tYes) (wi1 := iList K (tVar 4)) (te := tVar 5) rfl hN (pi_list (pv 2))
          (blkOk_by (N := NMt) (sc := defScope sMat) (by decide +kernel)) (by decide) (fun _ _ _ _ _ => pg_name (i := 4) hN rfl (Or.inl rfl)) (fun _ _ _ _ _ => pts_one (pt_cmpR op_in_seq (pv 0) (pv 4) (by rfl))) (fun _ _ _ _ _ => pi_list (pv 4)) (fun _ _ _ _ _ => pg_name (i := 5) hN rfl (Or.inl rfl)) (fun _ _ _ _ _ => pts_nil) (fun _ _ _ _ _ => pv 5)))
      (pss_one (ps_ret (pe_lc (own := [("index", 6), ("other", 7)]) (g := gTup K 2 (gCons (gName 6) (gCons (gName 7) gNil))) (tt := tOr (tTest (tOp rEq (tVar 7) (tVar 0))) (tTest (tOp (rIn K false) (tVar 7) (tVar 3)))) (te := tVar 6) rfl hN (pi_enumT (by rfl) T.enum (pa_cons (pv 1) pa_nil))
          (blkOk_by (N := NMt) (sc := defScope sMat) (by decide +kernel)) (fun _ _ _ _ _ => pg_two (i := 6) (j := 7) rfl hN rfl (Or.inl rfl) rfl (Or.inl rfl)) (fun _ _ _ _ _ => pts_one (PW.pt (pw_or (pt_cmpR op_eq (pv 7) (pv 0) (nomark _)) (pw_or1 (pt_cmpR op_in_seq (pv 7) (pv 3) (by rfl)))))) (fun _ _ _ _ _ => pv 6)))), ?_⟩
    have line : 1000 ≤ sizeLine := by decide
    have few := gmates_flat (pin := pin) gss
    refine ⟨_, rfl, ga, rfl, ⟨_, SqL.of hg.at_⟩, fun D nD => ?_⟩
    refine walk_it (walk_list (K := K) (a := ga) (xs := qs.map V.ref)) (fun i G => Same H G ∧ G D = some (.lst ((gmates pin (gss.take i)).map V.str))) ⟨same_upd nD, upd_same⟩ (fun i G _ ⟨sm, _⟩ => SqL.of (sm _ _ hg.at_)) (fun i v G G' hi ⟨sm, hD⟩ ⟨e, hx⟩ => ?_) (fun G ⟨sm, hD⟩ => ?_)
    · subst e
      rw [List.getElem?_map] at hx
      obtain ⟨q, hq, rfl⟩ := Option.map_eq_some_iff.mp hx
      obtain ⟨g, hgi, hq0⟩ := hg.it i q hq
      have hgq := sm _ _ hq0
      have ne : q ≠ D := fun w => by rw [w, nD] at hq0; cases hq0
      have le1 := gmates_le (pin := pin) (gss := gss) (i + 1)
      have sc1 := gmates_succ (pin := pin) hgi
      rw [sc1, List.length_append] at le1
      refine ⟨rfl, _, rfl, _, rfl, q, _, rfl, .inl (SqL.of hgq), rfl, flat_strs _, _, rfl, ?_⟩
      cases hc : g.contains pin with
      | false =>
        rw [hc] at sc1
        refine if_neg' ((in_b pin g).trans hc) ⟨sm, ?_⟩
        rw [sc1]
        simpa using hD
      | true =>
        rw [hc] at sc1 le1
        refine if_pos' ((in_b pin g).trans hc) ⟨_, rfl, q, rfl, ⟨_, SqL.of hgq⟩, ?_⟩
        refine walk_it (walk_list (K := K) (a := q) (xs := g.map V.str)) (fun j G4 => Same H G4 ∧ G4 q = some (.lst (g.map V.str)) ∧ G4 D = some (.lst ((gmates pin (gss.take i) ++ g.take j).map V.str))) ⟨sm, hgq, by rw [List.take_zero, List.append_nil]; exact hD⟩ (fun j G4 _ h => SqL.of h.2.1) (fun j y G4 G5 hj ⟨sm4, e4, hD4⟩ ⟨e, hy⟩ => ?_) (fun G4 ⟨sm4, e4, hD4⟩ => ?_)
        · subst e
          rw [List.getElem?_map] at hy
          obtain ⟨z, hz, rfl⟩ := Option.map_eq_some_iff.mp hy
          refine ⟨rfl, yes_go (iteT ⟨_, rfl, _, hD4, ?_, same_put sm4 nD, by rw [upd_ne ne]; exact e4, ?_⟩)⟩
          · rw [List.length_map, List.length_append, List.length_take]
            have : min j g.length ≤ g.length := Nat.min_le_right _ _
            have e : (if true = true then g else ([] : List Str)).length = g.length := rfl
            omega
          · rw [upd_same, take_succ_at hz, ← List.append_assoc]
            simp only [List.map_append]
            rfl
        · refine ⟨sm4, ?_⟩
          rw [List.length_map, List.take_length] at hD4
          rw [sc1]
          exact hD4
    rw [show gss.take (qs.map V.ref).length = gss by rw [List.length_map, hg.len]; exact List.take_length] at hD
    have hpaG := Same.tupS sm hpa
    refine ⟨_, rfl, pa, _, rfl, hpaG, fun D2 nD2 => ?_⟩
    have nDD : D ≠ D2 := fun w => by rw [← w, hD] at nD2; cases nD2
    refine walk_it (walk_enumT (K := K) (a := pa) (xs := pins.map V.str)) (fun i G2 => Same G G2 ∧ G2 D2 = some (.lst ((mTo pin (gmates pin gss) pins i).map nV))) ⟨same_upd nD2, upd_same⟩ (fun i G2 _ ⟨sm2, _⟩ => Same.tupS sm2 hpaG) (fun i v G2 G3 hi ⟨sm2, hD2⟩ ⟨T0, u, v', ex, nT, eG, hu, hv⟩ => ?_) (fun G2 ⟨sm2, hD2⟩ => ?_)
    · subst ex eG
      cases hu
      have hv : (pins.map V.str)[i]? = some v' := hv
      rw [List.getElem?_map] at hv
      obtain ⟨z, hz, rfl⟩ := Option.map_eq_some_iff.mp hv
      rw [List.length_map] at hi
      have sT := same_upd (o := .tup [V.int (i : Nat), V.str z]) nT
      have hD2' := sT _ _ hD2
      have hm3 := sT _ _ (sm2 _ _ hD)
      have len := mTo_len (pin := pin) (ms := gmates pin gss) (pins := pins) i
      have sc2 := mTo_succ (pin := pin) (ms := gmates pin gss) (pins := pins) i
      have room : ((mTo pin (gmates pin gss) pins i).map nV).length < sizeLine := by
        rw [List.length_map]
        omega
      have yes : mOk pin (gmates pin gss) pins i = true → (upd (upd G2 T0 (.tup [V.int (i : Nat), V.str z])) D2 (.lst ((mTo pin (gmates pin gss) pins i).map nV ++ [V.int (i : Nat)]))) D2 = some (.lst ((mTo pin (gmates pin gss) pins (i + 1)).map nV)) := fun h => by
        rw [upd_same, sc2, if_pos h, List.map_append]
        rfl
      have eok : mOk pin (gmates pin gss) pins i = (decide (z = pin) || (gmates pin gss).contains z) := by
        unfold mOk
        rw [getD_at hz]
      refine ⟨T0, _, rfl, SqT.of upd_same, rfl, _, _, rfl, _, _, rfl, rfl, rfl, _, rfl, _, rfl, rfl, _, rfl, ?_⟩
      have e1 : decide (V.str z = V.str pin) = decide (z = pin) := by rw [decide_eq_decide]; exact ⟨fun h => V.str.inj h, fun h => by rw [h]⟩
      rw [e1]
      cases h1 : decide (z = pin) with
      | true => exact iteT (iteT ⟨_, rfl, _, hD2', room, same_put (sm2.trans sT) nD2, yes (by rw [eok, h1]; rfl)⟩)
      | false =>
        refine if_neg' rfl ⟨_, rfl, _, rfl, D, _, rfl, .inl (SqL.of hm3), rfl, flat_strs _, _, rfl, ?_⟩
        rw [in_b]
        cases h2 : (gmates pin gss).contains z with
        | true => exact iteT ⟨_, rfl, _, hD2', room, same_put (sm2.trans sT) nD2, yes (by rw [eok, h1, h2]; rfl)⟩
        | false =>
          refine if_neg' rfl ⟨sm2.trans sT, ?_⟩
          rw [hD2', sc2, eok, h1, h2]
          simp
    · rw [List.length_map] at hD2
      exact k D2 G2 (sm.trans sm2) hD2
end
end R5
end

-- L5k
section
set_option Elab.async false
set_option linter.all false
set_option maxRecDepth 100000
set_option exponentiation.threshold 10000
namespace R5
open PySem L2 OwnOps OwnNe G1 StX SupX EnumT
/-- tuples of ints, in a list -/
structure LTs (H : Hp) (a : Addr) (os : List (List Int)) (as : List Addr) : Prop where
  at_ : H a = some (.lst (as.map V.ref))
  len : as.length = os.length
  it : ∀ (i : Nat) (q : Addr), as[i]? = some q → ∃ o, os[i]? = some o ∧ H q = some (.tup (o.map V.int))
theorem LTs.same {H H' : Hp} {a : Addr} {os : List (List Int)} {as : List Addr} (g : LTs H a os as) (s : Same H H') : LTs H' a os as := ⟨s _ _ g.at_, g.len, fun i v h => let ⟨o, h1, h2⟩ := g.it i v h; ⟨o, h1, s _ _ h2⟩⟩
theorem LTs.push {G : Hp} {D T : Addr} {os : List (List Int)} {as : List Addr} (h : LTs G D os as) (nT : G T = none) (o : List Int) :
    LTs (upd (upd G T (.tup (o.map V.int))) D (.lst (as.map V.ref ++ [V.ref T]))) D (os ++ [o]) (as ++ [T]) where
  at_ := by rw [upd_same, List.map_append]; rfl
  len := by rw [List.length_append, List.length_append, h.len]; rfl
  it := fun i q hq => by
    have nTD : T ≠ D := fun z => by rw [z, h.at_] at nT; cases nT
    by_cases lt : i < as.length
    · rw [List.getElem?_append_left lt] at hq
      obtain ⟨o', h1, h2⟩ := h.it i q hq
      have nqD : q ≠ D := fun z => by rw [z, h.at_] at h2; cases h2
      refine ⟨o', by rw [List.getElem?_append_left (h.len ▸ lt)]; exact h1, ?_⟩
      rw [upd_ne nqD]
      exact same_upd nT _ _ h2
    · have lt2 := (List.getElem?_eq_some_iff.mp hq).1
      rw [List.length_append, List.length_singleton] at lt2
      have e : i = as.length := by omega
      subst e
      rw [List.getElem?_append_right (Nat.le_refl _), Nat.sub_self] at hq
      cases hq
      refine ⟨o, by rw [h.len, List.getElem?_append_right (Nat.le_refl _), Nat.sub_self]; rfl, ?_⟩
      rw [upd_ne nTD, upd_same]
/-- ints, in lists, in a list -/
structure LIs (H : Hp) (a : Addr) (css : List (List Int)) (qs : List Addr) : Prop where
  at_ : H a = some (.lst (qs.map V.ref))
  len : qs.length = css.length
  it : ∀ (i : Nat) (q : Addr), qs[i]? = some q → ∃ c, css[i]? = some c ∧ H q = some (.lst (c.map V.int))
theorem LIs.same {H H' : Hp} {a : Addr} {os : List (List Int)} {as : List Addr} (g : LIs H a os as) (s : Same H H') : LIs H' a os as := ⟨s _ _ g.at_, g.len, fun i v h => let ⟨o, h1, h2⟩ := g.it i v h; ⟨o, h1, s _ _ h2⟩⟩
def extO (o c : List Int) : List (List Int) := (c.filter fun i => !o.contains i).map fun i => o ++ [i]
def stepO (os : List (List Int)) (c : List Int) : List (List Int) := os.flatMap fun o => extO o c
def ordersT (css : List (List Int)) : List (List Int) := css.foldl stepO [[]]
theorem extO_len (o c : List Int) : (extO o c).length ≤ c.length := by
  unfold extO
  rw [List.length_map]
  exact List.length_filter_le _ _
theorem extO_succ {o c : List Int} {j : Nat} {z : Int} (h : c[j]? = some z) : extO o (c.take (j + 1)) = extO o (c.take j) ++ (if o.contains z then [] else [o ++ [z]]) := by
  unfold extO
  rw [take_succ_at h, List.filter_append, List.map_append]
  congr 1
  cases hc : o.contains z with
  | true => rw [List.filter_cons_of_neg (by rw [hc]; decide)]; rfl
  | false => rw [List.filter_cons_of_pos (by rw [hc]; rfl)]; rfl
theorem stepO_succ {os : List (List Int)} {c o : List Int} {i : Nat} (h : os[i]? = some o) : stepO (os.take (i + 1)) c = stepO (os.take i) c ++ extO o c := by
  unfold stepO
  rw [take_succ_at h, List.flatMap_append]
  simp
theorem stepO_len {c : List Int} (hc : c.length ≤ 6) : ∀ os : List (List Int), (stepO os c).length ≤ 6 * os.length
  | [] => Nat.le_refl _
  | o :: os => by
    have h1 := stepO_len hc os
    have h2 := extO_len o c
    unfold stepO at h1 ⊢
    rw [List.flatMap_cons, List.length_append, List.length_cons]
    omega
theorem orders_len {css : List (List Int)} (hc : ∀ c ∈ css, c.length ≤ 6) : ∀ k, (ordersT (css.take k)).length ≤ 6 ^ k
  | 0 => Nat.le_refl _
  | k + 1 => by
    have ih := orders_len hc k
    by_cases lt : k < css.length
    · have e : css[k]? = some css[k] := List.getElem?_eq_getElem lt
      unfold ordersT at ih ⊢
      rw [take_succ_at e, List.foldl_append]
      have := stepO_len (hc _ (List.getElem_mem lt)) ((css.take k).foldl stepO [[]])
      rw [Nat.pow_succ]
      show (stepO _ _).length ≤ _
      omega
    · rw [List.take_of_length_le (by omega)]
      rw [List.take_of_length_le (by omega)] at ih
      rw [Nat.pow_succ]
      omega
theorem orders_succ {css : List (List Int)} {k : Nat} {c : List Int} (h : css[k]? = some c) : ordersT (css.take (k + 1)) = stepO (ordersT (css.take k)) c := by
  unfold ordersT
  rw [take_succ_at h, List.foldl_append]
  rfl
theorem orders_each {css : List (List Int)} : ∀ k, ∀ o ∈ ordersT (css.take k), o.length ≤ k
  | 0, o, h => by
    rw [show ordersT (css.take 0) = [[]] from rfl, List.mem_singleton] at h
    rw [h]
    exact Nat.le_refl _
  | k + 1, o, h => by
    by_cases lt : k < css.length
    · have e : css[k]? = some css[k] := List.getElem?_eq_getElem lt
      rw [orders_succ e] at h
      obtain ⟨o1, h1, h2⟩ := List.mem_flatMap.mp h
      obtain ⟨z, _, rfl⟩ := List.mem_map.mp h2
      have := orders_each k o1 h1
      rw [List.length_append]
      show _ + 1 ≤ _
      omega
    · rw [List.take_of_length_le (by omega)] at h
      have := orders_each (css := css) k o (by rw [List.take_of_length_le (by omega)]; exact h)
      omega
theorem eqV_int (a b : Int) : eqV (.int a) (.int b) = decide (a = b) := by
  show (a == b) = decide (a = b)
  by_cases h : a = b
  · rw [h, decide_eq_true rfl]; exact beq_self_eq_true _
  · rw [decide_eq_false h]; exact beq_eq_false_iff_ne.mpr h
theorem inV_int (x : Int) (xs : List Int) : inV (.int x) (xs.map V.int) = xs.contains x := by
  unfold inV
  rw [List.any_map]
  induction xs with
  | nil => rfl
  | cons y r ih =>
    rw [List.any_cons, List.contains_cons, ih]
    congr 1
    show eqV (.int y) (.int x) = _
    rw [eqV_int]
    by_cases h : y = x
    · rw [h, decide_eq_true rfl]; exact (beq_self_eq_true _).symm
    · rw [decide_eq_false h]; exact (beq_eq_false_iff_ne.mpr (Ne.symm h)).symm
theorem notin_b (x : Int) (xs : List Int) : (if true = true then !inV (.int x) (xs.map V.int) else inV (.int x) (xs.map V.int)) = !xs.contains x := (if_pos rfl).trans (congrArg _ (inV_int x xs))
theorem flat_ints (xs : List Int) : (xs.map V.int).all flatV = true := by
  rw [List.all_map]
  exact List.all_eq_true.mpr fun _ _ => rfl
theorem passOwn {X : Cx} {K : Value → Shared → Prop} {E₁ : Value → Shared → Prop} (hx : X.xe = fun e s' => wpAny (model X.prog X.w) X.A (leaving X.env e) (fun _ s'' => K e s'') E₁ s' := by rfl) : PassesOwn (model X.prog X.w) X.A X.env X.xe := passes_of hx
abbrev NOr : List Str := ["choices", "orders", "indices", "order", "index"]
section
variable {P : Program} {w : World} {K : PySem.W.Frag} {mg : Str → Option Value} {base : Heap}
def spOrd : Sp := fun vs H Q _ => ∃ ca css qs, vs = [.ref ca] ∧ LIs H ca css qs ∧ css.length ≤ 6 ∧ (∀ c ∈ css, c.length ≤ 6) ∧ ∀ r H', Same H H' → TT H' r (ordersT css) → Q (.ref r) H'
theorem ok_ord {f : Addr} {fd : FuncData} (F : Fun K "_orders" "_orders" sOrd f fd) (T : Bi mg) : FnOk P w K mg base (L2.CX P w) 3 f fd ["choices"] spOrd := by
  have sc : FnScope NOr ["choices"] (defScope sOrd) := ⟨rfl, rfl, rfl, by decide +kernel, rfl, by decide +kernel, by decide +kernel⟩
  have hN := sc.nd
  refine F.okX sc (fun vs H Q E h => ?_) (fun cdv A outer s H vs Q E hr h => ?_)
  · obtain ⟨ca, css, qs, rfl, _⟩ := h
    rfl
  · obtain ⟨ca, css, qs, rfl, hc, n1, n2, k⟩ := h
    refine ⟨_, pss_cons (ps_set (i := 1) hN rfl (Or.inl rfl) (pe_lst (pa_cons (pe_tup pa_nil) pa_nil)))
      (pss_cons (ps_for passOwn rfl (pi_list (pv 0)) (pg_name (i := 2) hN rfl (Or.inr rfl)) (pss_one (ps_setLc2 (i := 1) (own := [("order", 3), ("index", 4)]) (vs1 := [4]) (g := gName 3) (g1 := gName 4) (tt := tYes) (tt1 := tTest (tOp (rIn K true) (tVar 4) (tVar 3))) (wi1 := iList K (tVar 2)) (te := tTup (tStar K (tVar 3) (tCons (tVar 4) tNil))) rfl hN rfl rfl (sw_true rfl rfl rfl (by decide +kernel)) (pi_list (pv 1))
          (blkOk_by (N := NOr) (sc := defScope sOrd) (by decide +kernel)) (by decide) (fun _ _ _ _ _ => pg_name (i := 3) hN rfl (Or.inl rfl)) (fun _ _ _ _ _ => pts_nil) (fun _ _ _ _ _ => pi_list (pv 2)) (fun _ _ _ _ _ => pg_name (i := 4) hN rfl (Or.inl rfl)) (fun _ _ _ _ _ => pts_one (pt_cmpR op_notIn_seq (pv 4) (pv 3) (by rfl))) (fun _ _ _ _ _ => pe_tup (pa_star (pv 3) (pa_cons (pv 4) pa_nil))))))
      (pss_one (ps_ret (pe_tupleOf (by rfl) T.tuple (pv 1))))), ?_⟩
    have line : 300000 ≤ sizeLine := by decide
    refine ⟨by show 0 ≤ sizeLine; omega, fun t0 nt0 => ⟨by show 1 ≤ sizeLine; omega, fun D0 nD0 => ?_⟩⟩
    have s0 : Same H (upd (upd H t0 (.tup [])) D0 (.lst [V.ref t0])) := (same_upd nt0).trans (same_upd nD0)
    have l0 : LTs (upd (upd H t0 (.tup [])) D0 (.lst [V.ref t0])) D0 (ordersT (css.take 0)) [t0] := by
      refine ⟨upd_same, rfl, fun i q hq => ?_⟩
      match i, hq with
      | 0, hq => cases hq; exact ⟨[], rfl, same_upd nD0 _ _ upd_same⟩
    refine ⟨_, rfl, ca, rfl, ⟨_, SqL.of (s0 _ _ hc.at_)⟩, for_it (walk_list (K := K) (a := ca) (xs := qs.map V.ref)) (fun i σ G => (∃ D as v2, σ = [some (.ref ca), some (.ref D), v2, none, none] ∧ LTs G D (ordersT (css.take i)) as) ∧ Same H G)
      ⟨⟨D0, [t0], none, rfl, l0⟩, s0⟩ (fun i σ G _ ⟨_, sm⟩ => SqL.of (sm _ _ hc.at_)) (fun i v σ G G' hi ⟨⟨D, as, v2, e, lt⟩, sm⟩ ⟨eG, hx⟩ => ?_) (fun σ G ⟨⟨D, as, v2, e, lt⟩, sm⟩ => ?_)⟩
    · subst e eG
      rw [List.getElem?_map] at hx
      obtain ⟨q, hq, rfl⟩ := Option.map_eq_some_iff.mp hx
      obtain ⟨c, hci, hq0⟩ := hc.it i q hq
      have hqG := sm _ _ hq0
      have c6 := n2 c (List.mem_of_getElem? hci)
      have o6 := orders_len n2 i
      rw [orders_succ hci]
      have oL : ∀ o ∈ ordersT (css.take i), o.length ≤ i := fun o h => orders_each i o h
      generalize ordersT (css.take i) = os at lt o6 oL
      have p6 : 6 ^ i ≤ 46656 := by
        have : i < 6 := by rw [List.length_map, hc.len] at hi; omega
        exact Nat.le_trans (Nat.pow_le_pow_right (by decide) (show i ≤ 6 by omega)) (by decide)
      have few : os.length ≤ 46656 := Nat.le_trans o6 p6
      refine ⟨_, rfl, D, rfl, ⟨_, SqL.of lt.at_⟩, fun L nL => ?_⟩
      refine walk_it (walk_list (K := K) (a := D) (xs := as.map V.ref)) (fun j G1 => Same G' G1 ∧ ∃ bs, LTs G1 L (stepO (os.take j) c) bs) ⟨same_upd nL, [], upd_same, rfl, fun i q h => by cases h⟩ (fun j G1 _ ⟨s1, _⟩ => SqL.of (s1 _ _ lt.at_)) (fun j v G1 G2 hj ⟨s1, bs, hb⟩ ⟨eG, hy⟩ => ?_) (fun G1 ⟨s1, bs, hb⟩ => ?_)
      · subst eG
        rw [List.getElem?_map] at hy
        obtain ⟨p, hp, rfl⟩ := Option.map_eq_some_iff.mp hy
        obtain ⟨o, hoj, hpo⟩ := lt.it j p hp
        have hj' : j < os.length := by rw [List.length_map, lt.len] at hj; exact hj
        have bl := stepO_len c6 (os.take j)
        rw [List.length_take] at bl
        rw [stepO_succ hoj]
        generalize stepO (os.take j) c = pre at hb bl
        refine ⟨rfl, yes_go (iteT ⟨_, rfl, q, rfl, ⟨_, SqL.of (s1 _ _ hqG)⟩, ?_⟩)⟩
        refine walk_it (walk_list (K := K) (a := q) (xs := c.map V.int)) (fun m G3 => Same G' G3 ∧ ∃ bs, LTs G3 L (pre ++ extO o (c.take m)) bs) ⟨s1, bs, by rw [List.take_zero, show extO o [] = [] from rfl, List.append_nil]; exact hb⟩ (fun m G3 _ h => SqL.of (h.1 _ _ hqG)) (fun m y G3 G4 hm ⟨s3, bs, hb⟩ ⟨eG, hz⟩ => ?_) (fun G3 ⟨s3, bs, hb⟩ => ?_)
        · subst eG
          rw [List.getElem?_map] at hz
          obtain ⟨z, hzc, rfl⟩ := Option.map_eq_some_iff.mp hz
          have hpo3 := s3 _ _ hpo
          have el := extO_len o (c.take m)
          rw [List.length_take] at el
          refine ⟨rfl, _, rfl, _, rfl, p, _, rfl, .inr (SqT.of hpo3), rfl, flat_ints _, _, rfl, ?_⟩
          rw [notin_b, extO_succ hzc]
          cases hz2 : o.contains z with
          | true => exact iteF ⟨s3, bs, by simpa using hb⟩
          | false =>
            refine iteT ⟨_, rfl, p, _, rfl, .inl (SqT.of hpo3), _, rfl, ?_, fun T nT => ⟨_, same_upd nT _ _ hb.at_, ?_, ?_, ?_⟩⟩
            · rw [List.length_append, List.length_map]
              have := oL o (List.mem_of_getElem? hoj)
              have e : ([V.int z] : List V).length = 1 := rfl
              rw [List.length_map, hc.len] at hi
              show _ + _ ≤ _
              omega
            · rw [List.length_map, hb.len, List.length_append]
              omega
            · exact same_put (s3.trans (same_upd nT)) nL
            · refine ⟨bs ++ [T], ?_⟩
              have := hb.push nT (o ++ [z])
              rw [List.map_append] at this
              rw [← List.append_assoc]
              exact this
        · refine ⟨s3, bs, ?_⟩
          rw [List.length_map, List.take_length] at hb
          exact hb
      · rw [List.length_map, lt.len, List.take_length] at hb
        exact ⟨⟨L, bs, _, rfl, hb⟩, sm.trans s1⟩
    · subst e
      rw [show css.take (qs.map V.ref).length = css by rw [List.length_map, hc.len]; exact List.take_length] at lt
      refine ⟨_, rfl, .inl ⟨D, _, rfl, SqL.of lt.at_, fun r nr => k r _ (sm.trans (same_upd nr)) ⟨as, upd_same, lt.len, fun i q hq => ?_⟩⟩⟩
      obtain ⟨o, h1, h2⟩ := lt.it i q hq
      exact ⟨o, h1, same_upd nr _ _ h2⟩
end
end R5
end

-- SupXF
section
set_option Elab.async false
set_option linter.all false
set_option maxRecDepth 100000
set_option maxHeartbeats 2000000
/-! defs def f(self, name, *v, k = d) whose star tuple is asked for its methods: it stands exactly (frz), so that it is known to have no dict. -/
namespace SupX
open PySem PySem.Spec PyProof.Rows L2 StX
section
variable {CX : CXT} {P : Program} {w : World} {K : PySem.W.Frag} {mg : Str → Option Value} {base : Heap} {k : Nat} {f cda cc D : Addr} {name qual : Str} {params : Arguments} {body : List Stmt} {scope : Scope} {dV kV doc pm ct oc : Value} {an od : Option Addr} {cl : Value} {cld : Option Addr} {csl : Array (Option Value)}
  {osl : Array (Option Value)} {N kn : List Str} {p1 p2 pv : Str} {sp : Sp} {okK : List (Str × V) → Prop} {gV : List (Str × V) → List V}
theorem fnA_F (lk : K.lookup f = some ⟨oc, od, .func (PySem.W.ksFn name qual params body scope dV kV doc pm an (.ref cda) ct cc), osl⟩) (hcd : PySem.W.codeIn K (.ref cda) qual = true) (S : SScope N (p1 :: p2 :: kn ++ [pv]) scope) (hcc : K.lookup cc = some ⟨cl, cld, .cell (some (.ref D)), csl⟩) (hCX : CXUp CX)
    (hb : BindA K (PySem.W.ksFn name qual params body scope dV kV doc pm an (.ref cda) ct cc) p1 p2 kn pv okK gV)
    (hbody : ∀ (A : Around) (outer : List Env) (s : Shared) (H : Hp) (vs : List V) (Q : VK) (E : XK), Room k (A.deeper (envS qual scope s.heap.objs.size f cda cc)) → sp vs H Q E →
      ∃ t, PSsA (cxS CX P w K mg base N qual scope f cda cc A outer s H E) (.func body (envS qual scope s.heap.objs.size f cda cc)) body t ∧ t { nx := fun _ H' => Q .non H', rt := Q } (L2.start N vs) H) :
    FnA P w K mg base CX (k + 1) f (fun vs kv H Q E => ∃ a b rest, vs = a :: b :: rest ∧ okK kv ∧ rest.length ≤ sizeLine ∧ ∀ p o, H p = Option.none → o.dict = Option.none → o.cls = .type "tuple" → sp (a :: b :: gV kv ++ [V.ref p]) (upd H p (.frz o (.tup rest))) Q E) := by
  intro A outer s H us vs ks ws zs Q E hr e0 r rz lz hsp
  obtain ⟨a, b, rest, ev, ok, hz, hq⟩ := hsp
  subst ev
  cases r with
  | cons ra r =>
  cases r with
  | @cons _ ub _ u2 rb r2 =>
  rename_i ua
  obtain ⟨cs, rc, lc, hbind⟩ := hb ks ws zs rz lz ok
  have KX : K.In s.heap := e0.mod.kin.keeps fun b o e => (e0.bs b o e).1
  have hn : H s.heap.objs.size = Option.none := e0.hok.fresh (Nat.le_refl _)
  have hl2 : u2.length ≤ sizeLine := by rw [← r2.length]; exact hz
  refine run_bndS lk hcd S hcc hr e0 (G := fun xs H2 => ∃ p o, H p = Option.none ∧ o.dict = Option.none ∧ o.cls = .type "tuple" ∧ xs = a :: b :: gV (ks.zip zs) ++ [V.ref p] ∧ H2 = upd H p (.frz o (.tup rest))) (fun A' Ex Q' h => ?_) fun s2 H2 xs ⟨p, o, hp, od, oc', ex, eH⟩ hr' => ?_
  · refine hbind _ _ _ _ _ _ _ _ KX ?_
    refine wpAny_bind (wpAny_newTuple (wpAny_pure ?_) hl2)
    have new : ObjOk P w (upd H s.heap.objs.size (.frz ({ cls := .type "tuple", data := .seq u2.toArray } : Obj) (.tup rest))) (s.heap.push ({ cls := .type "tuple", data := .seq u2.toArray } : Obj)) s.heap.objs.size (.frz ({ cls := .type "tuple", data := .seq u2.toArray } : Obj) (.tup rest)) := ⟨Heap.get?_push_size _ rfl, hz, u2, r2, ⟨_, Heap.get?_push_size _ rfl, rfl, _, rfl⟩⟩
    have un := un_laid (fs := frs outer) (s := s) (o := ({ cls := .type "tuple", data := .seq u2.toArray } : Obj)) (u := .frz ({ cls := .type "tuple", data := .seq u2.toArray } : Obj) (.tup rest)) hn
    exact h _ _ (a :: b :: gV (ks.zip zs) ++ [V.ref s.heap.objs.size]) (ua :: ub :: cs ++ [Value.ref s.heap.objs.size]) (env0_laid e0 new) un rfl (fun e s' => hCX outer s H _ _ E e s' un (fun b o q => Heap.get?_push_of_some _ q) rfl) (.cons ra (.cons rb (rc.append (.cons rfl .nil))))
      (by simp only [List.length_append, List.length_cons, List.length_nil, lc]) ⟨_, _, hn, rfl, rfl, rfl, rfl⟩
  · subst ex eH
    exact hbody A outer s2 _ _ Q E hr' (hq p o hp od oc')
end
/-- o.m(..), o a tuple that stands exactly -/
def tBMF (r : V → List V → Hp → VK → Prop) (to : TE) (t : TA) : TE := fun σ H Q => to σ H fun x H1 => (∃ p o u, x = .ref p ∧ H1 p = some (.frz o u) ∧ o.cls = .type "tuple" ∧ o.dict = Option.none) ∧ t σ H1 fun xs H2 => r x xs H2 Q
section
variable {X : Cx} {o e : Expr} {es : List Expr} {to : TE} {t : TA} {name : Str} {apos cpos : Pos} {id : String} {r : V → List V → Hp → VK → Prop}
theorem pe_bmF (pa : PlainAttrs "tuple") (slot : Slot "tuple" name id) (hty : typeOf (.builtin id) = pure (.type "method_descriptor")) (hm : MtR X id r) (ho : PE X o to) (ha : PA X (e :: es) t)
    (hbase : attributeBase o name X.env (eval o X.env) = eval o X.env := by rfl)
    (hfew : ((backTo cpos (starEach (e :: es) X.env)).all (fun x => !x.1) && (backToKw cpos (keywordEach [] X.env)).all (fun x => x.1.isSome)
      && decide ((e :: es).length + ([] : List Keyword).length + (if ([] : List Keyword).isEmpty then 0 else 1) < 30)) = true := by rfl)
    (hline : (apos.endLine == cpos.line) = true := by rfl) (hs : starEach (e :: es) X.env = (false, eval e X.env) :: starEach es X.env := by rfl) (hplain : (backTo cpos (starEach es X.env)).any (·.1) = false := by rfl) :
    PE X (.Call (.Attribute o name apos) (e :: es) [] cpos) (tBMF r to t) := by
  constructor
  intro pins s σ H Q I h
  refine wpAny_Call_method_late hbase hfew hline rfl (thn (ho.run pins s σ H _ I h) fun v s1 ⟨x, H1, I1, r1, ⟨p, ob, u, ex, hp, hc, hd⟩, q1⟩ => ?_)
  subst ex
  cases r1
  have here := (I1.hok p _ hp).1
  refine ⟨"tuple", id, pa, slot, hty, ⟨ob, here, hc⟩, fun a ea => ?_, ?_⟩
  · cases ea
    exact ⟨ob, here, hd⟩
  have args := ha.run cpos pins s1 σ H1 _ I1 q1
  rw [hs] at args ⊢
  refine Calls.callWith_builtin (by show (false || (backTo cpos (starEach es X.env)).any (·.1)) = false; rw [hplain] <;> rfl) (Calls.evalArgs_plain ?_)
  exact thn args fun us s2 ⟨xs, H2, I2, r2, q2⟩ => hm pins s2 σ H2 (.ref p) xs _ us Q I2 rfl r2 q2
end
end SupX
end

-- L5l
section
set_option Elab.async false
set_option linter.all false
set_option maxRecDepth 100000
set_option exponentiation.threshold 10000
namespace R5
open PySem L2 OwnOps OwnNe G1 StX SupX EnumT
abbrev rTIdx (K : PySem.W.Frag) : V → List V → Hp → VK → Prop := fun x xs H Q => ∃ p, ∃ ys : List Str, ∃ z j, x = .ref p ∧ xs = [.str z] ∧ SqT K H p (ys.map V.str) ∧ ys[j]? = some z ∧ (∀ m, m < j → ys[m]? ≠ some z) ∧ Q (.int (j : Nat)) H
abbrev rJn (K : PySem.W.Frag) : V → List V → Hp → VK → Prop := fun x xs H Q => ∃ a p, ∃ ys : List Str, x = .str a ∧ xs = [.ref p] ∧ (SqL K H p (ys.map V.str) ∨ SqT K H p (ys.map V.str)) ∧ (ys.map (·.length)).sum + ys.length * a.length ≤ 16777216 ∧ Q (.str (Txt.join a ys)) H
abbrev teA (K : PySem.W.Frag) : TE := tLc (iTup K (tVar 3)) (gName 6) (tTest (tOp (rIn K false) (tVar 6) (tVar 7))) (tVar 6) [6]
abbrev teB0 (K : PySem.W.Frag) : TE := tBMF (rTIdx K) (tVar 3) (tCons (tVar 6) tNil)
abbrev teB (K : PySem.W.Frag) : TE := tLc (iList K (tVar 7)) (gName 6) tYes (teB0 K) [6]
abbrev teC (K : PySem.W.Frag) : TE := tCall (spMat K) [] E0 (tCons (tVar 6) (tCons (tVar 3) (tCons (tVar 4) tNil)))
abbrev teE (K : PySem.W.Frag) : TE := tM1 (rJn K) (tC (.str " ")) (tVar 7)
abbrev ttD (K : PySem.W.Frag) : L2.TT := tTest (tOp rEq (tOp (rIxL K) (tVar 7) (tC (.int 0))) (tVar 6))
/-- the groups in the order of the pins -/
def inPins (pins zs : List Str) : List Str := pins.filter fun z => zs.contains z
def gsOf (pins : List Str) (os : List (Option (List Str))) : List (List Str) := os.map fun o => inPins pins (o.getD [])
def ordG (pins : List Str) (gss : List (List Str)) : List (List Str) := pins.flatMap fun pin => gss.filter fun g => decide (g.head? = some pin)
theorem gsOf_succ {pins : List Str} {os : List (Option (List Str))} {i : Nat} {o : Option (List Str)} (h : os[i]? = some o) : gsOf pins (os.take (i + 1)) = gsOf pins (os.take i) ++ [inPins pins (o.getD [])] := by
  unfold gsOf
  rw [take_succ_at h, List.map_append]
  rfl
theorem inPins_succ {pins zs : List Str} {j : Nat} {z : Str} (h : pins[j]? = some z) : inPins (pins.take (j + 1)) zs = inPins (pins.take j) zs ++ (if zs.contains z then [z] else []) := by
  unfold inPins
  rw [take_succ_at h, List.filter_append]
  congr 1
  cases hc : zs.contains z with
  | true => rw [List.filter_cons_of_pos hc]; rfl
  | false => rw [List.filter_cons_of_neg (by rw [hc]; decide)]; rfl
theorem inPins_len (pins zs : List Str) : (inPins pins zs).length ≤ pins.length := List.length_filter_le _ _
theorem LLt.push {G : Hp} {D q : Addr} {gss : List (List Str)} {qs : List Addr} {g : List Str} (h : LLt G D gss qs) (e : G q = some (.lst (g.map V.str))) (ne : q ≠ D) : LLt (upd G D (.lst (qs.map V.ref ++ [V.ref q]))) D (gss ++ [g]) (qs ++ [q]) where
  at_ := by rw [upd_same, List.map_append]; rfl
  len := by rw [List.length_append, List.length_append, h.len]; rfl
  it := fun i a ha => by
    by_cases lt : i < qs.length
    · rw [List.getElem?_append_left lt] at ha
      obtain ⟨g', h1, h2⟩ := h.it i a ha
      have nD : a ≠ D := fun z => by
        rw [z, h.at_] at h2
        cases qs with
        | nil => cases ha
        | cons b bs =>
          have h2 : (HO.lst (List.map V.ref (b :: bs))) = HO.lst (List.map V.str g') := Option.some.inj h2
          cases g' with
          | nil => cases h2
          | cons c cs => cases h2
      exact ⟨g', by rw [List.getElem?_append_left (h.len ▸ lt)]; exact h1, by rw [upd_ne nD]; exact h2⟩
    · have lt2 := (List.getElem?_eq_some_iff.mp ha).1
      rw [List.length_append, List.length_singleton] at lt2
      have e1 : i = qs.length := by omega
      subst e1
      rw [List.getElem?_append_right (Nat.le_refl _), Nat.sub_self] at ha
      cases ha
      exact ⟨g, by rw [h.len, List.getElem?_append_right (Nat.le_refl _), Nat.sub_self]; rfl, by rw [upd_ne ne]; exact e⟩
theorem LIs.push {G : Hp} {D q : Addr} {gss : List (List Int)} {qs : List Addr} {g : List Int} (h : LIs G D gss qs) (e : G q = some (.lst (g.map V.int))) (ne : q ≠ D) : LIs (upd G D (.lst (qs.map V.ref ++ [V.ref q]))) D (gss ++ [g]) (qs ++ [q]) where
  at_ := by rw [upd_same, List.map_append]; rfl
  len := by rw [List.length_append, List.length_append, h.len]; rfl
  it := fun i a ha => by
    by_cases lt : i < qs.length
    · rw [List.getElem?_append_left lt] at ha
      obtain ⟨g', h1, h2⟩ := h.it i a ha
      have nD : a ≠ D := fun z => by
        rw [z, h.at_] at h2
        cases qs with
        | nil => cases ha
        | cons b bs =>
          have h2 : (HO.lst (List.map V.ref (b :: bs))) = HO.lst (List.map V.int g') := Option.some.inj h2
          cases g' with
          | nil => cases h2
          | cons c cs => cases h2
      exact ⟨g', by rw [List.getElem?_append_left (h.len ▸ lt)]; exact h1, by rw [upd_ne nD]; exact h2⟩
    · have lt2 := (List.getElem?_eq_some_iff.mp ha).1
      rw [List.length_append, List.length_singleton] at lt2
      have e1 : i = qs.length := by omega
      subst e1
      rw [List.getElem?_append_right (Nat.le_refl _), Nat.sub_self] at ha
      cases ha
      exact ⟨g, by rw [h.len, List.getElem?_append_right (Nat.le_refl _), Nat.sub_self]; rfl, by rw [upd_ne ne]; exact e⟩
theorem first_at {z : Str} : ∀ {ys : List Str}, z ∈ ys → ∃ j : Nat, ys[j]? = some z ∧ ∀ m : Nat, m < j → ys[m]? ≠ some z
  | y :: ys, h => by
    by_cases e : y = z
    · exact ⟨0, by rw [e]; rfl, fun m h => by omega⟩
    · obtain ⟨j, h1, h2⟩ := first_at (ys := ys) ((List.mem_cons.mp h).resolve_left (fun z => e z.symm))
      refine ⟨j + 1, h1, fun m hm => ?_⟩
      cases m with
      | zero => exact fun w => e (Option.some.inj w)
      | succ m => exact h2 m (by omega)
section
variable {K : PySem.W.Frag} {G : Hp} {Q : VK} {sa pa gb ob : Addr} {y0 y1 y2 y3 y4 y5 y6 y7 : Option V} {pins : List Str}
theorem lcA {gs : List V} {os : List (Option (List Str))} (gr : Grs K G sa gs os) (ok : os.all gOk = true) (hpa : SqT K G pa (pins.map V.str)) (n6 : pins.length ≤ 6) (n10 : gs.length ≤ 10)
    (fin : ∀ D qs G', Same G G' → LLt G' D (gsOf pins os) qs → Q (.ref D) G') : tLc (iTup K (tVar 2)) (gName 7) tYes (teA K) [7] [y0, y1, some (.ref sa), some (.ref pa), y4, y5, y6, y7] G Q := by
  have line : 1000 ≤ sizeLine := by decide
  refine ⟨_, rfl, sa, rfl, ⟨_, gr.at_⟩, fun D nD => ?_⟩
  refine walk_it (walk_tup (K := K) (a := sa) (xs := gs)) (fun i G1 => Same G G1 ∧ ∃ qs, LLt G1 D (gsOf pins (os.take i)) qs) ⟨same_upd nD, [], upd_same, rfl, fun i q h => by cases h⟩ (fun i G1 _ ⟨sm, _⟩ => Same.tupS sm gr.at_) (fun i v G1 G2 hi ⟨sm, qs, lt⟩ ⟨e, hx⟩ => ?_) (fun G1 ⟨sm, qs, lt⟩ => ?_)
  · subst e
    obtain ⟨o, ho, g⟩ := gr.it i v hx
    have g := g.same sm
    have okO : gOk o = true := List.all_eq_true.mp ok o (List.mem_of_getElem? ho)
    cases g with
    | str x => cases okO
    | lst h => cases okO
    | @tup q zs h1 =>
    have hpa1 := Same.tupS sm hpa
    refine ⟨rfl, yes_go (iteT ⟨_, rfl, pa, rfl, ⟨_, hpa1⟩, fun D2 nD2 => ?_⟩)⟩
    have n2 : D2 ≠ D := fun z => by rw [z, lt.at_] at nD2; cases nD2
    refine walk_it (walk_tup (K := K) (a := pa) (xs := pins.map V.str)) (fun j G3 => Same G2 G3 ∧ G3 D2 = some (.lst ((inPins (pins.take j) zs).map V.str))) ⟨same_upd nD2, upd_same⟩ (fun j G3 _ ⟨s3, _⟩ => Same.tupS s3 hpa1) (fun j y G3 G4 hj ⟨s3, hD2⟩ ⟨e, hy⟩ => ?_) (fun G3 ⟨s3, hD2⟩ => ?_)
    · subst e
      rw [List.getElem?_map] at hy
      obtain ⟨z, hz, rfl⟩ := Option.map_eq_some_iff.mp hy
      refine ⟨rfl, _, rfl, _, rfl, q, _, rfl, .inr (SqT.of (s3 _ _ h1)), rfl, flat_strs _, _, rfl, ?_⟩
      rw [in_b, inPins_succ hz]
      cases hc : zs.contains z with
      | false => exact iteF ⟨s3, by simpa using hD2⟩
      | true =>
        refine iteT ⟨_, rfl, _, hD2, ?_, same_put s3 nD2, by rw [upd_same, List.map_append]; rfl⟩
        have := inPins_len (pins.take j) zs
        rw [List.length_take] at this
        rw [List.length_map]
        omega
    · rw [List.length_map, List.take_length] at hD2
      have lt3 := lt.same s3
      refine ⟨_, lt3.at_, ?_, same_put (sm.trans s3) nD, qs ++ [D2], ?_⟩
      · rw [List.length_map, lt.len]
        unfold gsOf
        rw [List.length_map, List.length_take]
        have := gr.len
        omega
      · rw [gsOf_succ ho]
        exact lt3.push hD2 n2
  · rw [show os.take gs.length = os by rw [gr.len]; exact List.take_length] at lt
    exact fin D qs G1 sm lt
theorem lcB {gss : List (List Str)} {qs : List Addr} {o : Obj} (L : LLt G gb gss qs) (hf : G pa = some (.frz o (.tup (pins.map V.str)))) (od : o.dict = none) (oc : o.cls = .type "tuple") (sub : ∀ g ∈ gss, ∀ z ∈ g, z ∈ pins) (n6 : ∀ g ∈ gss, g.length ≤ 6) (n10 : gss.length ≤ 10)
    (fin : ∀ D xs G', Same G G' → G' D = some (.lst xs) → Q (.ref D) G') : tLc (iList K (tVar 4)) (gName 7) tYes (teB K) [7] [y0, y1, y2, some (.ref pa), some (.ref gb), y5, y6, y7] G Q := by
  have line : 1000 ≤ sizeLine := by decide
  refine ⟨_, rfl, gb, rfl, ⟨_, SqL.of L.at_⟩, fun D nD => ?_⟩
  refine walk_it (walk_list (K := K) (a := gb) (xs := qs.map V.ref)) (fun i G1 => Same G G1 ∧ ∃ xs, G1 D = some (.lst xs) ∧ xs.length = i) ⟨same_upd nD, [], upd_same, rfl⟩ (fun i G1 _ ⟨sm, _⟩ => SqL.of (sm _ _ L.at_)) (fun i v G1 G2 hi ⟨sm, xs, hD, lx⟩ ⟨e, hx⟩ => ?_) (fun G1 ⟨sm, xs, hD, _⟩ => fin D xs G1 sm hD)
  subst e
  rw [List.getElem?_map] at hx
  obtain ⟨q, hq, rfl⟩ := Option.map_eq_some_iff.mp hx
  obtain ⟨g, hg, hq0⟩ := L.it i q hq
  have hq1 := sm _ _ hq0
  have mem := List.mem_of_getElem? hg
  have gl := n6 g mem
  refine ⟨rfl, yes_go (iteT ⟨_, rfl, q, rfl, ⟨_, SqL.of hq1⟩, fun D2 nD2 => ?_⟩)⟩
  refine walk_it (walk_list (K := K) (a := q) (xs := g.map V.str)) (fun j G3 => Same G2 G3 ∧ ∃ ys, G3 D2 = some (.lst ys) ∧ ys.length = j) ⟨same_upd nD2, [], upd_same, rfl⟩ (fun j G3 _ ⟨s3, _⟩ => SqL.of (s3 _ _ hq1)) (fun j y G3 G4 hj ⟨s3, ys, hD2, ly⟩ ⟨e, hy⟩ => ?_) (fun G3 ⟨s3, ys, hD2, ly⟩ => ?_)
  · subst e
    rw [List.getElem?_map] at hy
    obtain ⟨z, hz, rfl⟩ := Option.map_eq_some_iff.mp hy
    obtain ⟨m, hm, hmin⟩ := first_at (sub g mem z (List.mem_of_getElem? hz))
    have hf3 := s3 _ _ (sm _ _ hf)
    rw [List.length_map] at hj
    refine ⟨rfl, yes_go (iteT ⟨_, rfl, ⟨pa, o, _, rfl, hf3, oc, od⟩, _, rfl, pa, pins, z, m, rfl, rfl, .inl (.inr ⟨o, hf3⟩), hm, hmin, ys, hD2, by omega, same_put s3 nD2, _, upd_same, ?_⟩)⟩
    rw [List.length_append, ly]
    rfl
  · have hD3 := s3 _ _ hD
    refine ⟨xs, hD3, ?_, same_put (sm.trans s3) nD, _, upd_same, ?_⟩
    · rw [List.length_map, L.len] at hi
      omega
    · rw [List.length_append, lx]
      rfl
theorem lcC {gss : List (List Str)} {qs : List Addr} (L : LLt G gb gss qs) (hpa : SqT K G pa (pins.map V.str)) (n6 : pins.length ≤ 6) (n10 : gss.length ≤ 10) (nf : gss.flatten.length ≤ 100)
    (fin : ∀ D rs G', Same G G' → LIs G' D (pins.map fun z => (matesT z pins gss).map Int.ofNat) rs → Q (.ref D) G') : tLc (iTup K (tVar 3)) (gName 6) tYes (teC K) [6] [y0, y1, y2, some (.ref pa), some (.ref gb), y5, y6, y7] G Q := by
  have line : 1000 ≤ sizeLine := by decide
  refine ⟨_, rfl, pa, rfl, ⟨_, hpa⟩, fun D nD => ?_⟩
  refine walk_it (walk_tup (K := K) (a := pa) (xs := pins.map V.str)) (fun i G1 => Same G G1 ∧ ∃ rs, LIs G1 D ((pins.take i).map fun z => (matesT z pins gss).map Int.ofNat) rs) ⟨same_upd nD, [], upd_same, rfl, fun i q h => by cases h⟩ (fun i G1 _ ⟨sm, _⟩ => Same.tupS sm hpa) (fun i v G1 G2 hi ⟨sm, rs, lt⟩ ⟨e, hx⟩ => ?_) (fun G1 ⟨sm, rs, lt⟩ => ?_)
  · subst e
    rw [List.getElem?_map] at hx
    obtain ⟨z, hz, rfl⟩ := Option.map_eq_some_iff.mp hx
    rw [List.length_map] at hi
    refine ⟨rfl, yes_go (iteT ⟨_, rfl, _, rfl, _, rfl, z, pa, pins, gb, gss, qs, rfl, Same.tupS sm hpa, L.same sm, by omega, by omega, nf, fun r G3 s3 hr => ?_⟩)⟩
    have lt3 := lt.same s3
    have hr : G3 r = some (.lst (((matesT z pins gss).map Int.ofNat).map V.int)) := by
      rw [hr, List.map_map]
      rfl
    have some_ : i ∈ matesT z pins gss := by
      unfold matesT mTo
      rw [List.mem_filter, List.mem_range]
      refine ⟨hi, ?_⟩
      unfold mOk
      rw [getD_at hz, decide_eq_true rfl]
      rfl
    have ne : r ≠ D := fun w => by
      rw [w, lt3.at_] at hr
      cases hm : matesT z pins gss with
      | nil => rw [hm] at some_; cases some_
      | cons a b =>
        rw [hm] at hr
        cases rs with
        | nil => cases hr
        | cons c d => cases hr
    refine ⟨_, lt3.at_, ?_, same_put (sm.trans s3) nD, rs ++ [r], ?_⟩
    · rw [List.length_map, lt.len, List.length_map, List.length_take]
      omega
    · rw [take_succ_at hz, List.map_append]
      exact lt3.push hr ne
  · rw [List.length_map, List.take_length] at lt
    exact fin D rs G1 sm lt
theorem lcD {gss : List (List Str)} {qs : List Addr} (L : LLt G gb gss qs) (hpa : SqT K G pa (pins.map V.str)) (n6 : pins.length ≤ 6) (n10 : gss.length ≤ 10) (ne : ∀ g ∈ gss, g ≠ [])
    (fin : ∀ D rs G', Same G G' → LLt G' D (ordG pins gss) rs → Q (.ref D) G') : tLc2 (iTup K (tVar 3)) (gName 6) tYes (iList K (tVar 4)) (gName 7) (ttD K) (tVar 7) [6, 7] [7] [y0, y1, y2, some (.ref pa), some (.ref gb), y5, y6, y7] G Q := by
  have line : 1000 ≤ sizeLine := by decide
  have ordL : ∀ i, (ordG (pins.take i) gss).length ≤ i * 10 := fun i => by
    unfold ordG
    induction i with
    | zero => exact Nat.le_refl _
    | succ i ih =>
      by_cases lt : i < pins.length
      · rw [take_succ_at (List.getElem?_eq_getElem lt), List.flatMap_append, List.length_append]
        have := List.length_filter_le (fun g : List Str => decide (g.head? = some pins[i])) gss
        simp only [List.flatMap_cons, List.flatMap_nil, List.append_nil]
        omega
      · rw [List.take_of_length_le (by omega)]
        rw [List.take_of_length_le (by omega)] at ih
        omega
  refine ⟨_, rfl, pa, rfl, ⟨_, hpa⟩, fun D nD => ?_⟩
  refine walk_it (walk_tup (K := K) (a := pa) (xs := pins.map V.str)) (fun i G1 => Same G G1 ∧ ∃ rs, LLt G1 D (ordG (pins.take i) gss) rs) ⟨same_upd nD, [], upd_same, rfl, fun i q h => by cases h⟩ (fun i G1 _ ⟨sm, _⟩ => Same.tupS sm hpa) (fun i v G1 G2 hi ⟨sm, rs, lt⟩ ⟨e, hx⟩ => ?_) (fun G1 ⟨sm, rs, lt⟩ => ?_)
  · subst e
    rw [List.getElem?_map] at hx
    obtain ⟨pin, hp, rfl⟩ := Option.map_eq_some_iff.mp hx
    have Lg := (L.same sm).at_
    have oL := ordL i
    rw [List.length_map] at hi
    have os : ordG (pins.take (i + 1)) gss = ordG (pins.take i) gss ++ gss.filter fun g => decide (g.head? = some pin) := by
      unfold ordG
      rw [take_succ_at hp, List.flatMap_append]
      simp
    rw [os]
    generalize ordG (pins.take i) gss = pre at lt oL
    refine ⟨rfl, yes_go (iteT ⟨_, rfl, gb, rfl, ⟨_, SqL.of Lg⟩, ?_⟩)⟩
    refine walk_it (walk_list (K := K) (a := gb) (xs := qs.map V.ref)) (fun j G3 => Same G G3 ∧ ∃ rs, LLt G3 D (pre ++ (gss.take j).filter fun g => decide (g.head? = some pin)) rs) ⟨sm, rs, by rw [List.take_zero, List.filter_nil, List.append_nil]; exact lt⟩ (fun j G3 _ h => SqL.of (h.1 _ _ L.at_)) (fun j y G3 G4 hj ⟨s3, rs, l3⟩ ⟨e, hy⟩ => ?_) (fun G3 ⟨s3, rs, l3⟩ => ?_)
    · subst e
      rw [List.getElem?_map] at hy
      obtain ⟨q, hq, rfl⟩ := Option.map_eq_some_iff.mp hy
      obtain ⟨g, hg, hq0⟩ := L.it j q hq
      have nqD : q ≠ D := fun w => by rw [w, nD] at hq0; cases hq0
      have hq3 := s3 _ _ hq0
      rw [List.length_map, L.len] at hj
      cases g with
      | nil => exact absurd rfl (ne [] (List.mem_of_getElem? hg))
      | cons z zs =>
      refine ⟨rfl, _, rfl, q, _, 0, .str z, rfl, rfl, SqL.of hq3, at_hd rfl, _, rfl, rfl, _, rfl, ?_⟩
      have e1 : decide (V.str z = V.str pin) = decide ((z :: zs).head? = some pin) := by
        rw [decide_eq_decide]
        exact ⟨fun h => by rw [V.str.inj h]; rfl, fun h => by rw [Option.some.inj h]⟩
      rw [e1, take_succ_at hg, List.filter_append, ← List.append_assoc]
      have fl := List.length_filter_le (fun g : List Str => decide (g.head? = some pin)) (gss.take j)
      rw [List.length_take] at fl
      cases hc : decide ((z :: zs).head? = some pin) with
      | false =>
        refine iteF ⟨s3, rs, ?_⟩
        rw [List.filter_cons_of_neg (by rw [hc]; decide), List.filter_nil, List.append_nil]
        exact l3
      | true =>
        refine iteT ⟨_, rfl, _, l3.at_, ?_, same_put s3 nD, rs ++ [q], ?_⟩
        · rw [List.length_map, l3.len, List.length_append]
          omega
        · rw [show List.filter (fun g => decide (g.head? = some pin)) [z :: zs] = [z :: zs] from List.filter_cons_of_pos (p := fun g : List Str => decide (g.head? = some pin)) hc]
          exact l3.push hq3 nqD
    · rw [List.length_map, L.len, List.take_length] at l3
      exact ⟨s3, rs, l3⟩
  · rw [List.length_map, List.take_length] at lt
    exact fin D rs G1 sm lt
theorem lcE {ogs : List (List Str)} {rs : List Addr} (L : LLt G ob ogs rs) (n : ogs.length ≤ 100) (gl : ∀ g ∈ ogs, g.length ≤ 6 ∧ ∀ z ∈ g, z.length ≤ 12)
    (fin : ∀ D G', Same G G' → G' D = some (.lst ((ogs.map (Txt.join " ")).map V.str)) → Q (.ref D) G') : tLc (iList K (tVar 5)) (gName 7) tYes (teE K) [7] [y0, y1, y2, y3, y4, some (.ref ob), y6, y7] G Q := by
  have line : 1000 ≤ sizeLine := by decide
  have one : (Str.ofString " ").length = 1 := by decide +kernel
  refine ⟨_, rfl, ob, rfl, ⟨_, SqL.of L.at_⟩, fun D nD => ?_⟩
  refine walk_it (walk_list (K := K) (a := ob) (xs := rs.map V.ref)) (fun i G1 => Same G G1 ∧ G1 D = some (.lst (((ogs.take i).map (Txt.join " ")).map V.str))) ⟨same_upd nD, upd_same⟩ (fun i G1 _ ⟨sm, _⟩ => SqL.of (sm _ _ L.at_)) (fun i v G1 G2 hi ⟨sm, hD⟩ ⟨e, hx⟩ => ?_) (fun G1 ⟨sm, hD⟩ => ?_)
  · subst e
    rw [List.getElem?_map] at hx
    obtain ⟨q, hq, rfl⟩ := Option.map_eq_some_iff.mp hx
    obtain ⟨g, hg, hq0⟩ := L.it i q hq
    obtain ⟨g6, g12⟩ := gl g (List.mem_of_getElem? hg)
    have su : (g.map (·.length)).sum ≤ 12 * g.length := sum_le fun z hz => g12 z hz
    refine ⟨rfl, yes_go (iteT ⟨⟨_, rfl⟩, _, rfl, " ", q, g, rfl, rfl, .inl (SqL.of (sm _ _ hq0)), by rw [one]; omega, _, hD, ?_, same_put sm nD, ?_⟩)⟩
    · rw [List.length_map, List.length_map, List.length_take]
      omega
    · rw [upd_same, take_succ_at hg, List.map_append, List.map_append]
      rfl
  · rw [List.length_map, L.len, List.take_length] at hD
    exact fin D G1 sm hD
end
end R5
end

-- L5m
section
set_option Elab.async false
set_option linter.all false
set_option maxRecDepth 100000
set_option exponentiation.threshold 10000
namespace R5
open PySem L2 OwnOps OwnNe G1 StX SupX EnumT
abbrev NPn : List Str := ["self", "name", "swaps", "pins", "groups", "ordered", "pin", "group"]
abbrev scA : Scope := { kind := .function, names := [(".0", .local), ("group", .cell), ("pins", .cell)], isGenerator := false, isCoroutine := false, more := [] }
abbrev scB : Scope := { kind := .function, names := [(".0", .local), ("group", .local), ("pins", .cell)], isGenerator := false, isCoroutine := false, more := [] }
abbrev scA0 : Scope := { kind := .function, names := [(".0", .local), ("group", .cell), ("pins", .free)], isGenerator := false, isCoroutine := false, more := [] }
abbrev scB0 : Scope := { kind := .function, names := [(".0", .local), ("group", .local), ("pins", .free)], isGenerator := false, isCoroutine := false, more := [] }
def gssT (pins : List Str) (os : List (Option (List Str))) : List (List Str) := gsOf pins os
def pinO (pins : List Str) (gss : List (List Str)) : List (List Int) := ordersT (pins.map fun z => (matesT z pins gss).map Int.ofNat)
def pinT (x : Str) (pins : List Str) (gss : List (List Str)) : Str := worded (("pins" : Str) :: x :: pins) (Txt.join " , " ((ordG pins gss).map (Txt.join " ")))
/-- a pin kind's instance, behind its __init__ -/
structure PinI (K : PySem.W.Frag) (H : Hp) (p C dx : Addr) (x : Str) (pins : List Str) (gss : List (List Str)) : Prop where
  ex : ∃ pa ca oa ga, H p = some (.ins C dx (kf (.str x) (.ref pa) (.ref ca) (.bl false) (.ref oa) (.str (pinT x pins gss)) ++ [(("_groups" : Str), .ref ga)])) ∧ SqT K H pa (pins.map V.str) ∧ H ca = some (.tup []) ∧ TT H oa (pinO pins gss)
theorem Gr.sameX {p C dx : Addr} {fs : List (Str × V)} {H H' : Hp} {v : V} {o : Option (List Str)} (g : Gr H v o) (hp : H p = some (.ins C dx fs)) (s : SameX p H H') : Gr H' v o := by
  cases g with
  | tup e => exact .tup (s _ _ (fun z => by rw [z, hp] at e; cases e) e)
  | lst e => exact .lst (s _ _ (fun z => by rw [z, hp] at e; cases e) e)
  | str x => exact .str x
theorem sqtX {K : PySem.W.Frag} {p C dx a : Addr} {fs : List (Str × V)} {xs : List V} {H H' : Hp} (hp : H p = some (.ins C dx fs)) (s : SameX p H H') (h : SqT K H a xs) : SqT K H' a xs := by
  have ne : ∀ o, H a = some o → (∀ C dx fs, o ≠ .ins C dx fs) → H' a = some o := fun o e n => s _ _ (fun z => by rw [z, hp] at e; exact n _ _ _ (Option.some.inj e).symm) e
  rcases h with (h | ⟨o, h⟩) | h
  · exact .inl (.inl (ne _ h fun _ _ _ z => by cases z))
  · exact .inl (.inr ⟨o, ne _ h fun _ _ _ z => by cases z⟩)
  · exact .inr h
theorem Grs.sameX {K : PySem.W.Frag} {p C dx : Addr} {fs : List (Str × V)} {H H' : Hp} {a : Addr} {gs : List V} {os : List (Option (List Str))} (g : Grs K H a gs os) (hp : H p = some (.ins C dx fs)) (s : SameX p H H') : Grs K H' a gs os :=
  ⟨sqtX hp s g.at_, g.len, fun i v h => let ⟨o, h1, h2⟩ := g.it i v h; ⟨o, h1, h2.sameX hp s⟩⟩
theorem ordG_len (pins : List Str) (gss : List (List Str)) : (ordG pins gss).length ≤ pins.length * gss.length := by
  unfold ordG
  induction pins with
  | nil => simp
  | cons z r ih =>
    have := List.length_filter_le (fun g : List Str => decide (g.head? = some z)) gss
    rw [List.flatMap_cons, List.length_append, List.length_cons, Nat.succ_mul]
    omega
theorem ordG_mem {pins : List Str} {gss : List (List Str)} {g : List Str} (h : g ∈ ordG pins gss) : g ∈ gss := by
  obtain ⟨z, _, h2⟩ := List.mem_flatMap.mp h
  exact (List.mem_filter.mp h2).1
theorem flat_len {gss : List (List Str)} {n : Nat} (h : ∀ g ∈ gss, g.length ≤ n) : gss.flatten.length ≤ n * gss.length := by
  induction gss with
  | nil => simp
  | cons g r ih =>
    have h1 := h g List.mem_cons_self
    have h2 := ih fun z hz => h z (List.mem_cons_of_mem _ hz)
    rw [List.flatten_cons, List.length_append, List.length_cons, Nat.mul_succ]
    omega
theorem grp_ne {os : List (Option (List Str))} {pins : List Str} (h : grpB os pins = true) : ∀ g ∈ gsOf pins os, g ≠ [] := by
  intro g hg
  obtain ⟨o, ho, rfl⟩ := List.mem_map.mp hg
  unfold grpB at h
  rw [Bool.and_eq_true, Bool.and_eq_true] at h
  have h1 := List.all_eq_true.mp h.1 o ho
  cases o with
  | none => cases h1
  | some zs =>
    have h2 : 2 ≤ zs.length := of_decide_eq_true h1
    cases zs with
    | nil => exact absurd h2 (by decide)
    | cons z r =>
      have hz : z ∈ texts os := List.mem_flatMap.mpr ⟨some (z :: r), ho, List.mem_cons_self⟩
      have h3 := List.all_eq_true.mp h.2.2 z hz
      have hp : z ∈ pins := List.contains_iff_mem.mp h3
      intro e
      have : z ∈ inPins pins (z :: r) := List.mem_filter.mpr ⟨hp, List.contains_iff_mem.mpr List.mem_cons_self⟩
      rw [show inPins pins ((some (z :: r)).getD []) = inPins pins (z :: r) from rfl] at e
      rw [e] at this
      cases this
theorem gs_sub {os : List (Option (List Str))} {pins : List Str} : ∀ g ∈ gsOf pins os, ∀ z ∈ g, z ∈ pins := by
  intro g hg z hz
  obtain ⟨o, _, rfl⟩ := List.mem_map.mp hg
  exact (List.mem_filter.mp hz).1
theorem gs_len {os : List (Option (List Str))} {pins : List Str} : ∀ g ∈ gsOf pins os, g.length ≤ pins.length := by
  intro g hg
  obtain ⟨o, _, rfl⟩ := List.mem_map.mp hg
  exact inPins_len _ _
section
variable {P : Program} {w : World} {K : PySem.W.Frag} {mg : Str → Option Value} {base : Heap} {D CK fCK CN DI gK : Addr}
def spPinB (K : PySem.W.Frag) (CN CK DI gK : Addr) : Sp := fun vs H Q E => ∃ (p dx C pa : Addr) (v sv : V) (rest : List V) (o : Obj), vs = [.ref p, v, sv, .ref pa] ∧ H p = some (.ins C dx []) ∧ H pa = some (.frz o (.tup rest)) ∧ o.dict = none ∧ o.cls = .type "tuple" ∧ KCls K C ∧ SupAt K C DI "__init__" gK ∧
  Av H v ∧ Shr v ∧ 1 ≤ rest.length ∧ rest.length ≤ 6 ∧ (∀ y ∈ rest, Av H y ∧ Shr y) ∧
  ((wdV v = false ∧ ∀ e H', SameX p H H' → H' e = some (xd v) → E (.ref CN) (some e) H') ∨
   (wdV v = true ∧ difV rest = false ∧ ∀ e H', SameX p H H' → H' e = some (xd (.ref pa)) → E (.ref CK) (some e) H') ∨
   (∃ x pins, v = .str x ∧ rest = pins.map V.str ∧ wd x = true ∧ difV rest = true ∧ (∀ z ∈ pins, z.length ≤ 12) ∧
     ((Av H sv ∧ (∀ a xs, sv = .ref a → H a ≠ some (.tup xs)) ∧ ∀ e H', SameX p H H' → H' e = some (xd sv) → E (.ref CK) (some e) H') ∨
      ∃ a gs os, sv = .ref a ∧ Grs K H a gs os ∧ gs.length ≤ 10 ∧ (texts os).length ≤ 40 ∧ (∀ z ∈ texts os, z.length ≤ 1000) ∧
        ((grpB os pins = false ∧ ∀ e H', SameX p H H' → H' e = some (xd sv) → E (.ref CK) (some e) H') ∨
         (grpB os pins = true ∧ ∀ H', SameX p H H' → PinI K H' p C dx x pins (gsOf pins os) → Q .non H')))))
def okP (kv : List (Str × V)) : Prop := kv = [] ∨ ∃ v, kv = [(("swaps" : Str), v)]
def gP (sd : Addr) (kv : List (Str × V)) : List V := [(kv.lookup ("swaps" : Str)).getD (.ref sd)]
theorem bind_pin {kV doc pm ct : Value} {an : Option Addr} {cda cc sd : Addr} (kd : KwdV K kV [("swaps", .ref sd)]) : BindA K (PySem.W.ksFn "__init__" "PinKind.__init__" (defArgs (sPin 0)) (defBody (sPin 0)) (defScope (sPin 0)) .none kV doc pm an (.ref cda) ct cc) "self" "name" ["swaps"] "pins" okP (gP sd) := by
  intro ks ws zs rz lz ok
  rcases ok with e | ⟨v, e⟩
  · have e1 : zs = [] := by
      cases zs with
      | nil => rfl
      | cons z zs => cases ks with
        | nil => cases lz
        | cons k ks => cases e
    subst e1
    have e2 : ks = [] := List.length_eq_zero_iff.mp lz.symm
    subst e2
    cases rz
    rcases kd with z | ⟨Dk, rfl, hq⟩
    · cases z
    obtain ⟨u, hu, ru⟩ := hq _ (List.mem_singleton_self _)
    refine ⟨[u], .cons ru .nil, rfl, fun M A st a b rest Q E KI h => ?_⟩
    cases rest with
    | nil =>
      have ch : ∃ (β γ : Type) (k1 : Option Value → Sem β) (k2 : β → Sem γ) (k3 : γ → Sem (List (Str × Value))) (c : β), bindArgs (PySem.W.ksFn "__init__" "PinKind.__init__" (defArgs (sPin 0)) (defBody (sPin 0)) (defScope (sPin 0)) .none (.ref Dk) doc pm an (.ref cda) ct cc) ⟨a :: b :: [], []⟩ = ((nsGet Dk ("swaps" : Str) >>= k1) >>= k2) >>= k3 ∧ k1 (some u) = pure c ∧ (k2 c >>= k3) = (newTuple ([]) >>= fun t => pure ((["self", "name", "swaps", "pins"] : List Str).zip (a :: b :: [u] ++ [t]))) := ⟨_, _, _, _, _, _, rfl, rfl, rfl⟩
      obtain ⟨β, γ, k1, k2, k3, c, e1, e2, e3⟩ := ch
      show wpAny M A (bindArgs _ ⟨a :: b :: [], []⟩) Q E st
      rw [e1, bind_assoc]
      refine wpAny_bind (((PySem.W.looks_nsIn (K := K) KI hu).andThen (PySem.W.Looks.of_pure e2)) A _ _ st (fun _ _ e => e) ?_)
      rw [e3]
      exact h
    | cons r rs =>
      have ch : ∃ (β γ : Type) (k1 : Option Value → Sem β) (k2 : β → Sem γ) (k3 : γ → Sem (List (Str × Value))) (c : β), bindArgs (PySem.W.ksFn "__init__" "PinKind.__init__" (defArgs (sPin 0)) (defBody (sPin 0)) (defScope (sPin 0)) .none (.ref Dk) doc pm an (.ref cda) ct cc) ⟨a :: b :: r :: rs, []⟩ = ((nsGet Dk ("swaps" : Str) >>= k1) >>= k2) >>= k3 ∧ k1 (some u) = pure c ∧ (k2 c >>= k3) = (newTuple (r :: rs) >>= fun t => pure ((["self", "name", "swaps", "pins"] : List Str).zip (a :: b :: [u] ++ [t]))) := ⟨_, _, _, _, _, _, rfl, rfl, rfl⟩
      obtain ⟨β, γ, k1, k2, k3, c, e1, e2, e3⟩ := ch
      show wpAny M A (bindArgs _ ⟨a :: b :: r :: rs, []⟩) Q E st
      rw [e1, bind_assoc]
      refine wpAny_bind (((PySem.W.looks_nsIn (K := K) KI hu).andThen (PySem.W.Looks.of_pure e2)) A _ _ st (fun _ _ e => e) ?_)
      rw [e3]
      exact h
  · have two : ∃ k1 z1, ks = [k1] ∧ zs = [z1] := by
      have l := congrArg List.length e
      rw [List.length_zip, lz, Nat.min_self] at l
      match ks, zs, lz, l with
      | [k1], [z1], _, _ => exact ⟨_, _, rfl, rfl⟩
    obtain ⟨k1, z1, rfl, rfl⟩ := two
    cases rz with
    | @cons _ w1 _ ws r1 rz =>
    cases rz
    cases e
    exact ⟨[w1], .cons r1 .nil, rfl, fun M A st a b rest Q E KI h => by
      cases rest with
      | nil => exact h
      | cons r rs => exact h⟩
theorem ok_pin {f sd : Addr} (F : SDef K P "PinKind.__init__" (sPin 0) [("swaps", .ref sd)] f DI) (G : SupG K P) (T : Bi mg) (N : Nums mg) (U : RTxt K mg D CK fCK) (GK : FnR P w K mg base (L2.CX P w) 3 gK (spKI K CN)) (tg : PySem.W.typeIn K (.ref gK) = some (.type "function")) (fg : PySem.W.fnIn K gK = true)
    (GD : Glb P w K mg base "are_different_words" 2 ["values"] (spDiff K)) (GG : Glb P w K mg base "_are_groups" 3 ["swaps", "pins"] (spGrp K)) (GM : Glb P w K mg base "_mates" 3 ["pin", "pins", "groups"] (spMat K)) (GO : Glb P w K mg base "_orders" 3 ["choices"] spOrd) (GW : Glb P w K mg base "_worded" 1 ["words", "tail"] (spWrd K)) :
    FnA P w K mg base (L2.CX P w) 6 f (fun vs kv H Q E => ∃ a b rest, vs = a :: b :: rest ∧ okP kv ∧ rest.length ≤ sizeLine ∧ ∀ p o, H p = none → o.dict = none → o.cls = .type "tuple" → spPinB K CN CK DI gK (a :: b :: gP sd kv ++ [V.ref p]) (upd H p (.frz o (.tup rest))) Q E) := by
  obtain ⟨_, _, mD, kD, GD, bD⟩ := GD.ex
  obtain ⟨_, _, mG, kG, GG, bG⟩ := GG.ex
  obtain ⟨_, _, mM, kM, GM, bM⟩ := GM.ex
  obtain ⟨_, _, mO, kO, GO, bO⟩ := GO.ex
  obtain ⟨_, _, mW, kW, GW, bW⟩ := GW.ex
  obtain ⟨t6, n6⟩ := N.pins
  obtain ⟨oc, od, kV, doc, pm, an, cda, ct, cc, osl, lk, hcd, kd, hcode, cl, cld, csl, hcc⟩ := F.ex
  have sc : SScope NPn ["self", "name", "swaps", "pins"] (defScope (sPin 0)) := ⟨rfl, rfl, rfl, by decide +kernel, rfl, by decide +kernel, by decide +kernel, by decide +kernel, by decide +kernel, by decide +kernel⟩
  have hN := sc.nd
  have SD : SupDef K P f cda cc DI gK "self" := ⟨⟨_, _, _, _, _, lk, rfl, rfl⟩, hcode, ⟨cl, cld, csl, hcc⟩, F.cls, G.sup, G.any, tg, fg, G.top⟩
  refine fnA_F (CX := L2.CX P w) (k := 5) (N := NPn) (kn := ["swaps"]) lk hcd sc hcc cxUp (bind_pin kd) (fun A outer s H vs Q E hr h => ?_)
  have pE : Passes (L2.CX P w) (cxS (L2.CX P w) P w K mg base NPn "PinKind.__init__" (defScope (sPin 0)) f cda cc A outer s H E) E := passes_call (takes_of rfl rfl rfl rfl) (fun _ _ _ _ h => h)
  refine ⟨_, psA_sup (qual := "PinKind.__init__") (E := E) (sp := spKI K CN) rfl sc rfl (by decide +kernel) SD (by decide) GK (hr.mono (by decide)) pE (pa_cons (pv 1) pa_nil) (argsPlain rfl (fun _ => rfl))
    (pss_cons (ps_if (PW.pt (pw_or (pt_not (pt_chain op_le op_le pe_int (pe_callB call_len_seq (by rfl) T.len PySem.boot_len (pa_cons (pv 3) pa_nil)) (pe_glob (v := .int 6) (by rfl) n6 ⟨_, rfl⟩)))
        (pw_or1 (pt_not (pt_val (pe_call GD (hr.mono (by decide)) (by rfl) mD kD bD .nil passL (pa_cons (pv 3) pa_nil)))))))
      (pss_one (ps_raiseGiv rfl PySem.Giv.ok_VE U.eK hr (takes_of rfl rfl rfl rfl) (pa_cons (pv 3) pa_nil) (by rfl))) pss_nil)
    (pss_cons (ps_if (pt_not (pt_val (pe_call GG (hr.mono (by decide)) (by rfl) mG kG bG .nil passL (pa_cons (pv 2) (pa_cons (pv 3) pa_nil)))))
      (pss_one (ps_raiseGiv rfl PySem.Giv.ok_VE U.eK hr (takes_of rfl rfl rfl rfl) (pa_cons (pv 2) pa_nil) (by rfl))) pss_nil)
    (pss_cons (ps_fld (pv 0) (pv 3) rfl)
    (pss_cons (ps_set (i := 4) hN rfl (Or.inr rfl) (pe_lc (scope := scA0) (own := [("group", 7)]) (g := gName 7) (tt := tYes) (te := teA K) rfl hN (pi_tup (pv 2)) (blkOk_by (N := NPn) (sc := defScope (sPin 0)) (by decide +kernel)) (fun _ _ _ _ _ => pg_name (i := 7) hN rfl (Or.inr rfl)) (fun _ _ _ _ _ => pts_nil)
        (fun _ _ _ _ _ => pe_lc (own := [("pin", 6)]) (g := gName 6) rfl hN (pi_tup (pv 3)) (blkOk_by (N := NPn) (sc := scA) (by decide +kernel)) (fun _ _ _ _ _ => pg_name (i := 6) hN rfl (Or.inl rfl)) (fun _ _ _ _ _ => pts_one (pt_cmpR op_in_seq (pv 6) (pv 7) (by rfl))) (fun _ _ _ _ _ => pv 6))))
    (pss_cons (ps_fld (pv 0) (pe_lc (scope := scB0) (own := [("group", 7)]) (g := gName 7) (tt := tYes) (te := teB K) rfl hN (pi_list (pv 4)) (blkOk_by (N := NPn) (sc := defScope (sPin 0)) (by decide +kernel)) (fun _ _ _ _ _ => pg_name (i := 7) hN rfl (Or.inl rfl)) (fun _ _ _ _ _ => pts_nil)
        (fun _ _ _ _ _ => pe_lc (wi := iList K (tVar 7)) (own := [("pin", 6)]) (g := gName 6) (tt := tYes) (te := teB0 K) rfl hN (pi_list (pv 7)) (blkOk_by (N := NPn) (sc := scB) (by decide +kernel)) (fun _ _ _ _ _ => pg_name (i := 6) hN rfl (Or.inl rfl)) (fun _ _ _ _ _ => pts_nil)
          (fun _ _ _ _ _ => pe_bmF PySem.F.plainAttrs_tuple PySem.F.slot_tuple_index PySem.F.type_tuple_index mt_tup_index (pv 3) (pa_cons (pv 6) pa_nil)))) rfl)
    (pss_cons (ps_fld (pv 0) (pe_call GO (hr.mono (by decide)) (by rfl) mO kO bO .nil passL (pa_cons (pe_lc (own := [("pin", 6)]) (g := gName 6) (tt := tYes) (te := teC K) rfl hN (pi_tup (pv 3)) (blkOk_by (N := NPn) (sc := defScope (sPin 0)) (by decide +kernel)) (fun _ _ _ _ _ => pg_name (i := 6) hN rfl (Or.inl rfl)) (fun _ _ _ _ _ => pts_nil)
        (fun _ _ _ _ _ => pe_call GM (hr.mono (by decide)) (by rfl) mM kM bM .nil passL (pa_cons (pv 6) (pa_cons (pv 3) (pa_cons (pv 4) pa_nil))))) pa_nil)) rfl)
    (pss_cons (ps_setLc2 (i := 5) (own := [("pin", 6), ("group", 7)]) (vs1 := [7]) (g := gName 6) (g1 := gName 7) (tt := tYes) (tt1 := ttD K) (wi1 := iList K (tVar 4)) (te := tVar 7) rfl hN rfl rfl (sw_true rfl rfl rfl (by decide +kernel)) (pi_tup (pv 3))
          (blkOk_by (N := NPn) (sc := defScope (sPin 0)) (by decide +kernel)) (by decide) (fun _ _ _ _ _ => pg_name (i := 6) hN rfl (Or.inl rfl)) (fun _ _ _ _ _ => pts_nil) (fun _ _ _ _ _ => pi_list (pv 4)) (fun _ _ _ _ _ => pg_name (i := 7) hN rfl (Or.inl rfl)) (fun _ _ _ _ _ => pts_one (pt_cmpR op_eq (pe_ix (show IxR _ (rIxL K) from ix_list) (pv 7) pe_int (fun _ _ => rfl)) (pv 6) (nomark _))) (fun _ _ _ _ _ => pv 7))
    (pss_one (ps_fld (pv 0) (pe_call GW (hr.mono (by decide)) (by rfl) mW kW bW .nil passL (pa_cons (pe_lst (pa_cons pe_str (pa_cons (pv 1) (pa_star (pv 3) pa_nil)))) (pa_cons (pe_join pe_str (pe_lc (own := [("group", 7)]) (g := gName 7) (tt := tYes) (te := teE K) rfl hN (pi_list (pv 5)) (blkOk_by (N := NPn) (sc := defScope (sPin 0)) (by decide +kernel)) (fun _ _ _ _ _ => pg_name (i := 7) hN rfl (Or.inl rfl)) (fun _ _ _ _ _ => pts_nil)
        (fun _ _ _ _ _ => pe_join pe_str (pv 7)))) pa_nil))) rfl))))))))) (by rfl), ?_⟩
  obtain ⟨p, dx, C, pa, v, sv, rest, o, rfl, hp, hpa, od', oc', kc, so, av, sh, l1, l6, its, k⟩ := h
  refine ⟨p, C, dx, [], rfl, hp, so, _, rfl, ?_⟩
  have npa : pa ≠ p := fun z => by rw [z, hp] at hpa; cases hpa
  by_cases hv : wdV v = true
  case neg =>
    rcases k with ⟨b, k⟩ | ⟨b, _⟩ | ⟨x, pins, e1, e2, b, _⟩
    · exact ⟨p, dx, C, v, rfl, hp, kc, av, sh, .inl ⟨b, fun e H' sm he => k e H' sm he⟩⟩
    · exact absurd b hv
    · rw [e1] at hv; exact absurd b hv
  obtain ⟨x, rfl, wx⟩ : ∃ x, v = .str x ∧ wd x = true := by
    cases v with
    | str x => exact ⟨x, rfl, hv⟩
    | _ => exact absurd hv (by simp [wdV])
  refine ⟨p, dx, C, .str x, rfl, hp, kc, av, sh, .inr ⟨x, rfl, wx, fun H1 a1 c0 a3 sm hp1 hc0 => ?_⟩⟩
  have hpa1 := sm _ _ npa hpa
  have line : 1000 ≤ sizeLine := by decide
  have sqF : ∀ {G : Hp}, G pa = some (.frz o (.tup rest)) → SqT K G pa rest := fun h => .inl (.inr ⟨o, h⟩)
  have its1 : ∀ G, Same H1 G → ∀ y ∈ rest, Av G y ∧ Shr y := fun G s y hy => by
    obtain ⟨h1, h2⟩ := its y hy
    exact ⟨(h1.sameX hp sm).same s, h2⟩
  refine ⟨_, rfl, pa, _, rfl, .inr (sqF hpa1), _, _, rfl, rfl, _, rfl, ?_⟩
  refine if_pos' (decide_eq_true (by omega)) ⟨_, _, rfl, rfl, _, rfl, ?_⟩
  refine if_neg' (by rw [decide_eq_true (show ((rest.length : Nat) : Int) ≤ 6 by omega)]; rfl) ?_
  refine ⟨_, rfl, pa, _, rfl, .inr (sqF hpa1), by omega, its1 H1 (Same.refl _), fun G2 s2 => ⟨_, rfl, ?_⟩⟩
  have sm2 : SameX p H G2 := fun b u n q => s2 _ _ (sm b u n q)
  have hpa2 := s2 _ _ hpa1
  cases hd : difV rest with
  | false =>
    refine if_pos' rfl ⟨_, rfl, _, rfl, fun e ne => ?_⟩
    rcases k with ⟨b', _⟩ | ⟨_, _, k⟩ | ⟨_, _, _, _, _, b', _⟩
    · rw [hv] at b'; cases b'
    · exact k e _ (fun b u n q => same_upd ne _ _ (sm2 b u n q)) upd_same
    · rw [hd] at b'; cases b'
  | true =>
  refine if_neg' rfl ?_
  rcases k with ⟨b', _⟩ | ⟨_, b', _⟩ | ⟨x', pins, e1, er, _, _, c12, k⟩
  · rw [hv] at b'; cases b'
  · rw [hd] at b'; cases b'
  cases e1
  subst er
  rw [List.length_map] at l1 l6
  -- the groups
  rcases k with ⟨av2, nt, ke⟩ | ⟨ga, gs, os, rfl, gr, n10, n40, sh2, k⟩
  · refine ⟨_, rfl, _, rfl, sv, pa, pins, rfl, sqF hpa2, .inl ⟨(av2.sameX hp sm).same s2, fun a xs e h => ?_, _, rfl, if_pos' rfl ⟨_, rfl, _, rfl, fun e ne => ke e _ (fun b u n q => same_upd ne _ _ (sm2 b u n q)) upd_same⟩⟩⟩
    subst e
    cases av2 with
    | lst e =>
      have := sm2 _ _ (fun z => by rw [z, hp] at e; cases e) e
      rw [h] at this
      cases this
    | tup e => exact nt _ _ rfl e
  refine ⟨_, rfl, _, rfl, _, pa, pins, rfl, sqF hpa2, .inr ⟨ga, gs, os, rfl, gr.sameX hp sm2, n10, n40, sh2, fun G3 s3 => ⟨_, rfl, ?_⟩⟩⟩
  have sm3 : SameX p H G3 := fun b u n q => s3 _ _ (sm2 b u n q)
  rcases k with ⟨hb, ke⟩ | ⟨hb, kk⟩
  · rw [hb]
    exact if_pos' rfl ⟨_, rfl, _, rfl, fun e ne => ke e _ (fun b u n q => same_upd ne _ _ (sm3 b u n q)) upd_same⟩
  rw [hb]
  refine if_neg' rfl ?_
  have gOks : os.all gOk = true := by
    unfold grpB at hb
    rw [Bool.and_eq_true] at hb
    exact hb.1
  have gne := grp_ne hb
  have gsub := @gs_sub os pins
  have glen := @gs_len os pins
  have gcnt : (gsOf pins os).length ≤ 10 := by
    have e : (gsOf pins os).length = os.length := List.length_map ..
    have := gr.len
    omega
  have gflat : (gsOf pins os).flatten.length ≤ 100 := by
    have := flat_len (gss := gsOf pins os) (n := 6) fun g hg => Nat.le_trans (glen g hg) l6
    omega
  -- pins
  have m3 : Mkg p C dx H1 G3 (kf (.str x) (.ref a1) (.ref c0) (.bl false) (.ref a3) (.str (kindT x))) := (Mkg.start hp1).same (s2.trans s3)
  refine ⟨_, rfl, _, rfl, p, C, dx, _, rfl, m3.at_, kc.cl, kc.n2, kf_few .., ?_⟩
  rw [kp_pins]
  have m4 := m3.put (fs' := kf (.str x) (.ref pa) (.ref c0) (.bl false) (.ref a3) (.str (kindT x)))
  generalize upd G3 p (.ins C dx (kf (.str x) (.ref pa) (.ref c0) (.bl false) (.ref a3) (.str (kindT x)))) = G4 at m4 ⊢
  have nc0 : c0 ≠ p := fun z => by rw [z, hp1] at hc0; cases hc0
  have smH : ∀ {G : Hp} {fs : List (Str × V)}, Mkg p C dx H1 G fs → SameX p H G := fun m b u n q => m.sm b u n (sm b u n q)
  -- groups
  dsimp only [tSeq, tAsg]
  refine lcA (gr.sameX hp (smH m4)) gOks (sqF (m4.sm _ _ npa hpa1)) l6 n10 fun D qs G5 s5 L5 => ?_
  have m5 := m4.same s5
  have glen6 : ∀ g ∈ gsOf pins os, g.length ≤ 6 := fun g hg => Nat.le_trans (glen g hg) l6
  dsimp only [gName, tSeq, sFld, tAsg]
  refine lcB L5 (m5.sm _ _ npa hpa1) od' oc' gsub glen6 gcnt fun B xs G6 s6 hB => ?_
  have m6 := m5.same s6
  have L6 := L5.same s6
  refine ⟨_, rfl, p, C, dx, _, rfl, m6.at_, kc.cl, kc.n7, kf_few .., ?_⟩
  rw [kf_grp]
  have m7 := m6.put (fs' := kf (.str x) (.ref pa) (.ref c0) (.bl false) (.ref a3) (.str (kindT x)) ++ [(("_groups" : Str), V.ref B)])
  have Lput : ∀ {G : Hp} {fs : List (Str × V)} {u : HO}, Mkg p C dx H1 G fs → LLt G D (gsOf pins os) qs → LLt (upd G p u) D (gsOf pins os) qs := fun {G fs u} m L =>
    ⟨put_ne L.at_ m.at_ (by intro _ _ _ z; cases z), L.len, fun i q hq => let ⟨g, h1, h2⟩ := L.it i q hq; ⟨g, h1, put_ne h2 m.at_ (by intro _ _ _ z; cases z)⟩⟩
  have L7 := Lput (u := .ins C dx (kf (.str x) (.ref pa) (.ref c0) (.bl false) (.ref a3) (.str (kindT x)) ++ [(("_groups" : Str), V.ref B)])) m6 L6
  generalize upd G6 p (.ins C dx (kf (.str x) (.ref pa) (.ref c0) (.bl false) (.ref a3) (.str (kindT x)) ++ [(("_groups" : Str), V.ref B)])) = G7 at m7 L7 ⊢
  -- orders
  dsimp only [tSeq, sFld, tCall, tCons, tNil]
  refine lcC L7 (sqF (m7.sm _ _ npa hpa1)) l6 gcnt gflat fun Cc rs G8 s8 L8 => ?_
  refine ⟨Cc, _, rs, rfl, L8, by rw [List.length_map]; exact l6, fun c hc => ?_, fun r G9 s9 tt => ?_⟩
  · obtain ⟨z, _, rfl⟩ := List.mem_map.mp hc
    rw [List.length_map]
    exact Nat.le_trans (mTo_len _) l6
  have m9 := m7.same (s8.trans s9)
  refine ⟨_, rfl, p, C, dx, _, rfl, m9.at_, kc.cl, kc.n5, by show 7 < 1000; decide, ?_⟩
  rw [kf_ords]
  have m10 := m9.put (fs' := kf (.str x) (.ref pa) (.ref c0) (.bl false) (.ref r) (.str (kindT x)) ++ [(("_groups" : Str), V.ref B)])
  have L10 := Lput (u := .ins C dx (kf (.str x) (.ref pa) (.ref c0) (.bl false) (.ref r) (.str (kindT x)) ++ [(("_groups" : Str), V.ref B)])) m9 (L7.same (s8.trans s9))
  have tt10 : TT (upd G9 p (.ins C dx (kf (.str x) (.ref pa) (.ref c0) (.bl false) (.ref r) (.str (kindT x)) ++ [(("_groups" : Str), V.ref B)]))) r (pinO pins (gsOf pins os)) := tt.sameX (p := p) (fun b o nb e => by rw [upd_ne nb]; exact e) m9.at_ (by intro xs z; cases z)
  generalize upd G9 p (.ins C dx (kf (.str x) (.ref pa) (.ref c0) (.bl false) (.ref r) (.str (kindT x)) ++ [(("_groups" : Str), V.ref B)])) = G10 at m10 L10 tt10 ⊢
  -- ordered
  refine lcD L10 (sqF (m10.sm _ _ npa hpa1)) l6 gcnt gne fun Dd ds G11 s11 L11 => ?_
  have m11 := m10.same s11
  have hpa11 := sqF (m11.sm _ _ npa hpa1)
  have tt11 := tt10.same s11
  -- the line
  have x12 : x.length ≤ 12 := by
    unfold wd at wx
    simp only [Bool.and_eq_true, decide_eq_true_eq] at wx
    exact wx.1.1.1.1.2
  have ol : (ordG pins (gsOf pins os)).length ≤ 60 := by
    have h1 := ordG_len pins (gsOf pins os)
    have h2 : pins.length * (gsOf pins os).length ≤ 6 * 10 := Nat.mul_le_mul l6 gcnt
    omega
  refine ⟨_, rfl, _, rfl, pa, _, rfl, .inl hpa11, ?_, fun l nl => ?_⟩
  · simp only [List.length_cons, List.length_append, List.length_nil, List.length_map]
    omega
  have sl := same_upd (o := .lst (V.str "pins" :: V.str x :: (pins.map V.str ++ []))) nl
  refine ⟨⟨_, rfl⟩, ?_⟩
  refine lcE (L11.same sl) (by omega) (fun g hg => ⟨glen6 g (ordG_mem hg), fun z hz => c12 z (gsub g (ordG_mem hg) z hz)⟩) fun De G12 s12 hDe => ?_
  have spc : (Str.ofString " ").length = 1 := by decide +kernel
  have com : (Str.ofString " , ").length = 3 := by decide +kernel
  have each : ∀ y ∈ (ordG pins (gsOf pins os)).map (Txt.join " "), y.length ≤ 78 := fun y hy => by
    obtain ⟨g, hg, rfl⟩ := List.mem_map.mp hy
    have h1 := join_le (a := " ") g
    have h2 := sum_le (ys := g) (n := 12) fun z hz => c12 z (gsub g (ordG_mem hg) z hz)
    have h3 := glen6 g (ordG_mem hg)
    rw [spc] at h1
    omega
  have tot := sum_le each
  rw [List.length_map] at tot
  have tail_le := join_le (a := " , ") ((ordG pins (gsOf pins os)).map (Txt.join " "))
  rw [com, List.length_map] at tail_le
  refine ⟨" , ", De, _, rfl, rfl, .inl (SqL.of hDe), by rw [com, List.length_map]; omega, ?_⟩
  have m12 := m11.same ((same_upd (o := .lst (V.str "pins" :: V.str x :: (pins.map V.str ++ []))) nl).trans s12)
  have ws : G12 l = some (.lst ((("pins" : Str) :: x :: pins).map V.str)) := by
    rw [s12 _ _ upd_same, List.append_nil]
    rfl
  refine ⟨l, ("pins" : Str) :: x :: pins, _, rfl, SqL.of ws, by simp only [List.length_cons]; omega, ?_, by omega, fun G13 s13 => ?_⟩
  · have h1 := sum_le (ys := pins) (n := 12) c12
    unfold size
    rw [List.map_cons, List.map_cons, List.sum_cons, List.sum_cons, show (Str.ofString "pins").length = 4 by decide +kernel]
    omega
  have m13 := m12.same s13
  refine ⟨_, rfl, p, C, dx, _, rfl, m13.at_, kc.cl, kc.n6, by show 7 < 1000; decide, ?_⟩
  rw [kf_line]
  have m14 := m13.put (fs' := kf (.str x) (.ref pa) (.ref c0) (.bl false) (.ref r) (.str (pinT x pins (gsOf pins os))) ++ [(("_groups" : Str), V.ref B)])
  refine kk _ (smH m14) ⟨pa, c0, r, B, m14.at_, sqF (m14.sm _ _ npa hpa1), m14.sm _ _ nc0 hc0, ?_⟩
  exact (tt11.same (((same_upd (o := .lst (V.str "pins" :: V.str x :: (pins.map V.str ++ []))) nl).trans s12).trans s13)).sameX (p := p) (fun b o nb e => by rw [upd_ne nb]; exact e) m13.at_ (by intro xs z; cases z)
end
end R5
end

-- L5n
section
set_option Elab.async false
set_option linter.all false
set_option maxRecDepth 100000
set_option exponentiation.threshold 10000
namespace SupX
open PySem PySem.Spec PyProof.Rows L2
/-- e.f, a property of whatever class of ours -/
def tPropC (S : Addr → Prop) (sp : Sp) (E : XK) (ta : TE) : TE := fun σ H Q => ta σ H fun x H1 => ∃ a C dx fs, x = .ref a ∧ H1 a = some (.ins C dx fs) ∧ S C ∧ sp [.ref a] H1 Q E
section
variable {X : Cx} {CX : CXT} {k : Nat} {p g : Addr} {f : Str} {fd : FuncData} {ps : List Str} {sp : Sp} {E : XK} {e : Expr} {pos : Pos} {ta : TE} {S : Addr → Prop}
theorem pe_propC (he : PE X e ta) (c : ∀ C, S C → Cls X.K C ∧ PropOf X.K C f p g) (F : FnOk X.prog X.w X.K X.mg X.base CX k g fd ps sp) (hr : Room (k + 1) X.A) (hb : L2.Binds X.K fd ps []) (hx : Passes CX X.nox E)
    (hab : attributeBase e f X.env (eval e X.env) = eval e X.env) : PE X (.Attribute e f pos) (tPropC S sp E ta) := by
  constructor
  intro pins s σ H Q I h
  refine attr_of hab (thn (he.run pins s σ H _ I h) fun u s1 ⟨x, H1, I1, rx, a, C, dx, fs, ex, ea, hS, q⟩ => ?_)
  subst ex
  cases rx
  exact getprop_ok I1 ea (c C hS).1 (c C hS).2 F hr hb .nil hx q
end
end SupX
namespace R5
open PySem L2 OwnOps OwnNe G1 StX SupX
/-- a class of kinds, by what is asked of its instances -/
structure KndC (K : PySem.W.Frag) (DK tp tg C : Addr) : Prop where
  kc : KCls K C
  tx : PropOf K C "text" tp tg
  ha : PySem.W.findIn K (.ref C) "__class__" = some (some (.builtin "object.__class__"))
  hm : PySem.W.mroIn K C (.type "object") = some true
  kK : PySem.W.kitOne K (.ref C) (.ref DK) = some true
structure KndT (K : PySem.W.Frag) (mg : Str → Option Value) (DK : Addr) : Prop where
  gK : mg "Kind" = some (.ref DK)
  hn : PySem.W.specialIn K (.builtin "object.__class__") "__get__" = some (some (.builtin "getset_descriptor.__get__"))
  htk : PySem.W.takesIn K (.builtin "object.__class__") = some true
  ksK : PySem.W.kitOne K (.type "str") (.ref DK) = some false
/-- a kind, by its line -/
structure KndI (K : PySem.W.Frag) (DK tp tg : Addr) (H : Hp) (p : Addr) (l : Str) : Prop where
  ex : ∃ C dx fs, H p = some (.ins C dx fs) ∧ KndC K DK tp tg C ∧ fs.lookup ("_line" : Str) = some (.str l)
section
variable {P : Program} {w : World} {K : PySem.W.Frag} {mg : Str → Option Value} {base : Heap} {DK tp tg : Addr}
def spText (K : PySem.W.Frag) (DK tp tg : Addr) : Sp := fun vs H Q _ => ∃ p l, vs = [.ref p] ∧ KndI K DK tp tg H p l ∧ Q (.str l) H
theorem ok_text {f : Addr} {fd : FuncData} (F : Fun K "text" "Kind.text" (sKi 4) f fd) : FnOk P w K mg base (L2.CX P w) 1 f fd ["self"] (spText K DK tp tg) := by
  have sc : FnScope ["self"] ["self"] (defScope (sKi 4)) := ⟨rfl, rfl, rfl, by decide +kernel, rfl, by decide +kernel, by decide +kernel⟩
  refine F.okX sc (fun vs H Q E h => ?_) (fun cdv A outer s H vs Q E hr h => ?_)
  · obtain ⟨p, l, rfl, _⟩ := h
    rfl
  · obtain ⟨p, l, rfl, ⟨C, dx, fs, hp, kc, lk⟩, k⟩ := h
    exact ⟨_, pss_one (ps_ret (pe_fld (pv 0) rfl)), _, rfl, p, C, dx, fs, _, rfl, hp, kc.kc.cl, kc.kc.n6, lk, k⟩
def spKEq (K : PySem.W.Frag) (DK tp tg : Addr) : Sp := fun vs H Q _ => ∃ p l v, vs = [.ref p, v] ∧ KndI K DK tp tg H p l ∧ ((∃ q l', v = .ref q ∧ KndI K DK tp tg H q l' ∧ Q (.bl (decide (l = l'))) H) ∨ (∃ z, v = .str z ∧ Q (.bl false) H))
theorem ok_keq {f ft : Addr} {fd ftd : FuncData} (F : Fun K "__eq__" "Kind.__eq__" (sKi 5) f fd) (T : Bi mg) (U : KndT K mg DK) (GT : FnOk P w K mg base (L2.CX P w) 1 tg ftd ["self"] (spText K DK tp tg)) (bT : L2.Binds K ftd ["self"] []) :
    FnOk P w K mg base (L2.CX P w) 3 f fd ["self", "other"] (spKEq K DK tp tg) := by
  have sc : FnScope ["self", "other"] ["self", "other"] (defScope (sKi 5)) := ⟨rfl, rfl, rfl, by decide +kernel, rfl, by decide +kernel, by decide +kernel⟩
  refine F.okX sc (fun vs H Q E h => ?_) (fun cdv A outer s H vs Q E hr h => ?_)
  · obtain ⟨p, l, v, rfl, _⟩ := h
    rfl
  · obtain ⟨p, l, v, rfl, kp, k⟩ := h
    have cS : ∀ C, KndC K DK tp tg C → Cls K C ∧ PropOf K C "text" tp tg := fun C h => ⟨h.kc.cl, h.tx⟩
    refine ⟨_, pss_one (ps_ret (pe_and (pe_callB call_isi (by rfl) T.isi (by decide +kernel) (pa_cons (pv 1) (pa_cons (pe_glob (v := .ref DK) (by rfl) U.gK rfl) pa_nil))) (pe_one (pe_cmpR op_eq (pe_propC (E := E0) (pv 0) cS GT hr bT passL rfl) (pe_propC (E := E0) (pv 1) cS GT hr bT passL rfl) (nomark _))))), ?_⟩
    rcases k with ⟨q, l', rfl, kq, k⟩ | ⟨z, rfl, k⟩
    · obtain ⟨C, dx, fs, hp, kc, lk⟩ := id kp
      obtain ⟨C', dx', fs', hq, kc', lk'⟩ := id kq
      refine ⟨_, rfl, _, _, _, _, _, rfl, .own DK, .base (.ins hq kc'.kc.cl kc'.ha U.hn U.htk kc'.hm), kc'.kK, _, rfl, iteT ⟨_, rfl, p, C, dx, fs, rfl, hp, kc, p, l, rfl, kp, _, rfl, q, C', dx', fs', rfl, hq, kc', q, l', rfl, kq, rfl, ?_⟩⟩
      have e : decide (V.str l = V.str l') = decide (l = l') := by rw [decide_eq_decide]; exact ⟨fun h => V.str.inj h, fun h => by rw [h]⟩
      rw [e]
      exact k
    · exact ⟨_, rfl, _, _, _, _, _, rfl, .own DK, .base (.str z), U.ksK, _, rfl, iteF k⟩
/-- rules(): a new dict -/
def spRules (K : PySem.W.Frag) : Sp := fun vs H Q _ => ∃ p C dx fs ra kvs, vs = [.ref p] ∧ H p = some (.ins C dx fs) ∧ KCls K C ∧ fs.lookup ("_rules" : Str) = some (.ref ra) ∧ H ra = some (.dK kvs) ∧ ∀ r H', Same H H' → H r = none → H' r = some (.dK kvs) → Q (.ref r) H'
theorem ok_rules {f : Addr} {fd : FuncData} (F : Fun K "rules" "JoiningKind.rules" (sJoi 1) f fd) (T : Bi mg) : FnOk P w K mg base (L2.CX P w) 1 f fd ["self"] (spRules K) := by
  have sc : FnScope ["self"] ["self"] (defScope (sJoi 1)) := ⟨rfl, rfl, rfl, by decide +kernel, rfl, by decide +kernel, by decide +kernel⟩
  refine F.okX sc (fun vs H Q E h => ?_) (fun cdv A outer s H vs Q E hr h => ?_)
  · obtain ⟨p, C, dx, fs, ra, kvs, rfl, _⟩ := h
    rfl
  · obtain ⟨p, C, dx, fs, ra, kvs, rfl, hp, kc, lk, hra, k⟩ := h
    refine ⟨_, pss_one (ps_ret (pe_callTy call_dictD (by rfl) T.dict (by decide +kernel) (pa_cons (pe_fld (pv 0) rfl) pa_nil))), ?_⟩
    exact ⟨_, rfl, p, C, dx, fs, _, rfl, hp, kc.cl, kc.n8, lk, ra, kvs, rfl, .inl hra, fun r nr => k r _ (same_upd nr) nr upd_same⟩
end
end R5
end

-- L5o
section
set_option Elab.async false
set_option linter.all false
set_option maxRecDepth 100000
set_option exponentiation.threshold 10000
namespace R5
open PySem L2 OwnOps OwnNe G1 StX SupX
abbrev sDraws : Stmt := top 46
abbrev sDraw : Stmt := top 47
theorem dp_ints {K : PySem.W.Frag} {H : Hp} : ∀ ns : List Int, DpAll K H (ns.map V.int) (ns.map PyData.int)
  | [] => .nil
  | n :: r => .cons (.int n) (dp_ints r)
theorem atI_mod {ns : List Int} {k : Int} (h : ns ≠ []) : ∃ z, atI (ns.map V.int) (k % (ns.length : Int)) = some (.int z) := by
  have hl : 0 < ns.length := List.length_pos_iff.mpr h
  have h1 : 0 ≤ k % (ns.length : Int) := Int.emod_nonneg _ (by omega)
  have h2 : k % (ns.length : Int) < ns.length := Int.emod_lt_of_pos _ (by omega)
  obtain ⟨j, hj⟩ : ∃ j : Nat, k % (ns.length : Int) = j := ⟨_, (Int.toNat_of_nonneg h1).symm⟩
  have h3 : j < ns.length := by omega
  refine ⟨ns[j], at_of hj ?_⟩
  rw [List.getElem?_map, List.getElem?_eq_getElem h3]
  rfl
section
variable {P : Program} {w : World} {K : PySem.W.Frag} {mg : Str → Option Value} {base : Heap}
/-! ### the law's draws -/
def spDraws (K : PySem.W.Frag) : Sp := fun vs H Q _ => ∃ (a : Addr) (ns : List Int) (k : Int), vs = [.ref a, .int k] ∧ SqL K H a (ns.map V.int) ∧
  ∀ p x y H', Same H H' → H' p = some (.lst [.int x, .int y]) → H p = none → Q (.ref p) H'
theorem ok_draws {f : Addr} {fd : FuncData} (F : Fun K "_law_draws" "_law_draws" sDraws f fd) (T : Bi mg) :
    FnOk P w K mg base (L2.CX P w) 1 f fd ["_law_script", "_law_k"] (spDraws K) := by
  have sc : FnScope ["_law_script", "_law_k", "_law_cell", "_law_seed"] ["_law_script", "_law_k"] (defScope sDraws) := ⟨rfl, rfl, rfl, by decide +kernel, rfl, by decide +kernel, by decide +kernel⟩
  refine F.okX sc (fun vs H Q E h => ?_) (fun cdv A outer s H vs Q E hr h => ?_)
  · obtain ⟨a, ns, k, rfl, _⟩ := h
    rfl
  · obtain ⟨a, ns, k, rfl, hS, fin⟩ := h
    refine ⟨_, pss_cons (ps_set (i := 2) sc.nd rfl (Or.inl rfl) pe_int)
      (pss_cons (ps_if (pt_cmpR (op_neD hr.units) (pv 0) (pe_lst pa_nil) (nomark _))
        (pss_one (ps_set (i := 2) sc.nd rfl (Or.inl rfl) (pe_ix ix_list (pv 0) (pe_op op_mod (pe_callTy call_int1 (by rfl) T.int (by decide +kernel) (pa_cons (pv 1) pa_nil)) (pe_callB call_len_seq (by rfl) T.len PySem.boot_len (pa_cons (pv 0) pa_nil))) (fun _ _ => rfl)))) pss_nil)
      (pss_cons (ps_if (pt_cmpR op_ge (pv 1) (pe_callB call_len_seq (by rfl) T.len PySem.boot_len (pa_cons (pv 0) pa_nil)) (nomark _))
        (pss_one (ps_set (i := 2) sc.nd rfl (Or.inl rfl) (pe_op op_mod (pe_callTy call_int1 (by rfl) T.int (by decide +kernel) (pa_cons (pv 2) pa_nil)) pe_int))) pss_nil)
      (pss_cons (ps_set (i := 3) sc.nd rfl (Or.inl rfl) (pe_op op_mod (pe_op op_mul (pe_callTy call_int1 (by rfl) T.int (by decide +kernel) (pa_cons
          (pe_op op_add (pe_op op_add (pe_op op_mod (pe_callTy call_int1 (by rfl) T.int (by decide +kernel) (pa_cons (pv 2) pa_nil)) pe_int) (pe_op op_mul pe_int (pv 1))) pe_int) pa_nil)) pe_int) pe_int))
      (pss_one (ps_ret (pe_lst (pa_cons (pe_op op_mul (pv 2) (pe_callTy call_int1 (by rfl) T.int (by decide +kernel) (pa_cons (pe_cmpR op_ge (pv 2) (pe_op op_pow pe_int pe_int) (nomark _)) pa_nil))) (pa_cons (pv 3) pa_nil)))))))), ?_⟩
    refine ⟨_, rfl, (by show 0 ≤ sizeLine; exact Nat.zero_le _), fun p0 np0 => ?_⟩
    have s0 : Same H (upd H p0 (.lst [])) := same_upd np0
    have hS0 := s0.seq hS
    have e0 : (upd H p0 (.lst [])) p0 = some (.lst []) := upd_same
    generalize upd H p0 (.lst []) = H0 at s0 hS0 e0
    have el : (1000003 : Int) > 0 := by decide
    have bits : ∀ z : Int, -(2 ^ 64) < (if decide (z ≥ 10 ^ 18) = true then (1 : Int) else 0) ∧ (if decide (z ≥ 10 ^ 18) = true then (1 : Int) else 0) < 2 ^ 64 := fun z => by
      split <;> exact ⟨by decide, by decide⟩
    refine ⟨.list (ns.map PyData.int), .list [], .lst hS0 (dp_ints ns), .lst (SqL.of e0) .nil, PySem.W.ke_shaped_ints ns, by decide +kernel, _, rfl, ?_⟩
    by_cases hn : ns = []
    · subst hn
      refine iteF ?_
      refine ⟨_, rfl, _, rfl, a, _, rfl, .inl hS0, _, _, rfl, rfl, _, rfl, ?_⟩
      refine ite2 (fun _ => ⟨_, rfl, .inl ⟨_, rfl, _, _, rfl, rfl, (by show (0 : Int) < 1000003; decide), ?_⟩⟩) (fun _ => ?_)
      all_goals
        refine ⟨_, rfl, .inl ⟨_, rfl, _, _, rfl, rfl, (by show (0 : Int) < 2147483629; decide), _, rfl, _, _, rfl, rfl, .inl ⟨by decide, by decide⟩, _, _, rfl, rfl, _, _, rfl, rfl, .inl ⟨_, rfl, _, _, rfl, rfl, .inr ⟨by decide, by decide⟩, _, _, rfl, rfl, (by show (0 : Int) < 2147483647; decide), ?_⟩⟩⟩
        refine ⟨_, rfl, _, rfl, _, _, rfl, rfl, ⟨by decide, by decide, by decide +kernel⟩, _, _, rfl, rfl, .inr ⟨_, rfl, _, _, rfl, rfl, .inr (bits _), _, rfl, (by show 2 ≤ sizeLine; decide), fun p np => ?_⟩⟩
        exact fin p _ _ _ (s0.trans (same_upd np)) upd_same (s0.free np)
    · have ef : PyData.eqv (.list (ns.map PyData.int)) (.list []) = false := by
        cases ns with
        | nil => exact absurd rfl hn
        | cons _ _ => rfl
      rw [ef]
      obtain ⟨z, hz⟩ := atI_mod (k := k) hn
      refine iteT ⟨_, rfl, _, rfl, .inl ⟨_, rfl, _, rfl, a, _, rfl, .inl hS0, _, _, rfl, rfl, (by rw [List.length_map]; exact Int.natCast_pos.mpr (List.length_pos_iff.mpr hn)), a, _, _, _, rfl, rfl, hS0, (by rw [List.length_map]; exact hz), ?_⟩⟩
      refine ⟨_, rfl, _, rfl, a, _, rfl, .inl hS0, _, _, rfl, rfl, _, rfl, ?_⟩
      refine ite2 (fun _ => ⟨_, rfl, .inl ⟨_, rfl, _, _, rfl, rfl, (by show (0 : Int) < 1000003; decide), ?_⟩⟩) (fun _ => ?_)
      all_goals
        refine ⟨_, rfl, .inl ⟨_, rfl, _, _, rfl, rfl, (by show (0 : Int) < 2147483629; decide), _, rfl, _, _, rfl, rfl, .inl ⟨by decide, by decide⟩, _, _, rfl, rfl, _, _, rfl, rfl, .inl ⟨_, rfl, _, _, rfl, rfl, .inr ⟨by decide, by decide⟩, _, _, rfl, rfl, (by show (0 : Int) < 2147483647; decide), ?_⟩⟩⟩
        refine ⟨_, rfl, _, rfl, _, _, rfl, rfl, ⟨by decide, by decide, by decide +kernel⟩, _, _, rfl, rfl, .inr ⟨_, rfl, _, _, rfl, rfl, .inr (bits _), _, rfl, (by show 2 ≤ sizeLine; decide), fun p np => ?_⟩⟩
        exact fin p _ _ _ (s0.trans (same_upd np)) upd_same (s0.free np)
def spDraw : Sp := fun vs H Q _ => ∃ (l : Addr) (u x y : Int), vs = [.ref l, .int u] ∧ 0 < u ∧ u < 1073741824 ∧ H l = some (.lst [.int x, .int y]) ∧
  ∀ d x' y', 0 ≤ d → d < u → Q (.int d) (upd H l (.lst [.int x', .int y']))
theorem ok_draw {f : Addr} {fd : FuncData} (F : Fun K "_law_draw" "_law_draw" sDraw f fd) (T : Bi mg) :
    FnOk P w K mg base (L2.CX P w) 1 f fd ["_law_draws_here", "_law_upto"] spDraw := by
  have sc : FnScope ["_law_draws_here", "_law_upto", "_law_digit"] ["_law_draws_here", "_law_upto"] (defScope sDraw) := ⟨rfl, rfl, rfl, by decide +kernel, rfl, by decide +kernel, by decide +kernel⟩
  refine F.okX sc (fun vs H Q E h => ?_) (fun cdv A outer s H vs Q E hr h => ?_)
  · obtain ⟨l, u, x, y, rfl, _⟩ := h
    rfl
  · obtain ⟨l, u, x, y, rfl, u0, u1, hl, fin⟩ := h
    refine ⟨_, pss_cons (ps_if (pt_cmpR op_gt (pe_ix ix_list (pv 0) pe_int (fun _ _ => rfl)) pe_int (nomark _))
        (pss_cons (ps_set (i := 2) sc.nd rfl (Or.inl rfl) (pe_op op_mod (pe_callTy call_int1 (by rfl) T.int (by decide +kernel) (pa_cons (pe_ix ix_list (pv 0) pe_int (fun _ _ => rfl)) pa_nil)) (pv 1)))
        (pss_cons (ps_asg (pe_op op_fdiv (pe_ix ix_list (pv 0) pe_int (fun _ _ => rfl)) (pv 1)) (pg_sub (pv 0) pe_int set_list))
        (pss_one (ps_ret (pv 2))))) pss_nil)
      (pss_cons (ps_asg (pe_op op_mod (pe_callTy call_int1 (by rfl) T.int (by decide +kernel) (pa_cons (pe_op op_add (pe_op op_mul (pe_ix ix_list (pv 0) pe_int (fun _ _ => rfl)) pe_int) pe_int) pa_nil)) pe_int) (pg_sub (pv 0) pe_int set_list))
      (pss_one (ps_ret (pe_op op_mod (pe_callTy call_int1 (by rfl) T.int (by decide +kernel) (pa_cons (pe_op op_fdiv (pe_op op_mod (pe_callTy call_int1 (by rfl) T.int (by decide +kernel)
        (pa_cons (pe_op op_mul (pe_ix ix_list (pv 0) pe_int (fun _ _ => rfl)) (pe_ix ix_list (pv 0) pe_int (fun _ _ => rfl))) pa_nil)) pe_int) pe_int) pa_nil)) (pv 1))))), ?_⟩
    refine ⟨_, rfl, l, _, _, _, rfl, rfl, SqL.of hl, at_of (j := 0) rfl rfl, _, _, rfl, rfl, _, rfl, ?_⟩
    refine ite2 (fun _ => ?_) (fun _ => ?_)
    · refine ⟨_, rfl, l, _, _, _, rfl, rfl, SqL.of hl, at_of (j := 0) rfl rfl, .inl ⟨_, rfl, _, rfl, _, _, rfl, rfl, u0, ?_⟩⟩
      refine ⟨_, rfl, l, _, _, _, rfl, rfl, SqL.of hl, at_of (j := 0) rfl rfl, _, rfl, _, _, rfl, rfl, ⟨u0, u1⟩, _, rfl, l, _, _, 0, rfl, rfl, hl, rfl, _, rfl, ?_⟩
      exact fin _ _ _ (Int.emod_nonneg _ (Int.ne_of_gt u0)) (Int.emod_lt_of_pos _ u0)
    · refine ⟨_, rfl, l, _, _, _, rfl, rfl, SqL.of hl, at_of (j := 1) rfl rfl, _, _, rfl, rfl, .inr ⟨by decide, by decide⟩, _, _, rfl, rfl, .inl ⟨_, rfl, _, _, rfl, rfl, (by show (0 : Int) < 2147483647; decide), _, rfl, l, _, _, 1, rfl, rfl, hl, rfl, ?_⟩⟩
      have y0 : 0 ≤ (y * 48271 + 11) % 2147483647 := Int.emod_nonneg _ (by decide)
      have y1 : (y * 48271 + 11) % 2147483647 < 2147483647 := Int.emod_lt_of_pos _ (by decide)
      have hl2 : (upd H l (.lst [.int x, .int ((y * 48271 + 11) % 2147483647)])) l = some (.lst [.int x, .int ((y * 48271 + 11) % 2147483647)]) := upd_same
      refine ⟨_, rfl, l, _, _, .int ((y * 48271 + 11) % 2147483647), rfl, rfl, SqL.of hl2, at_of (j := 1) rfl rfl, _, rfl, l, _, _, .int ((y * 48271 + 11) % 2147483647), rfl, rfl, SqL.of hl2, at_of (j := 1) rfl rfl, _, _, rfl, rfl, .inl ⟨by omega, by omega⟩, .inl ⟨_, rfl, _, _, rfl, rfl, (by show (0 : Int) < 2147483629; decide), _, _, rfl, rfl, ⟨by decide, by decide⟩, .inl ⟨_, rfl, _, rfl, _, _, rfl, rfl, u0, ?_⟩⟩⟩
      exact fin _ _ _ (Int.emod_nonneg _ (Int.ne_of_gt u0)) (Int.emod_lt_of_pos _ u0)
end
end R5
end

-- GenFor
section
set_option Elab.async false
set_option linter.all false
set_option maxRecDepth 100000
set_option maxHeartbeats 1000000
/-! for within a generator's body, at the level of segments. -/
namespace GenFor
open PySem PySem.Spec PyProof.Rows L2 GenW
section
variable {P : Program} {w : World} {A : Around} {R : GenEnd} {Y : Protocol} {n : Nat} {s₀ : Shared} {c : Code} {fs : List Frame} {s : Shared} {env : Env}
  {K : Flow → Sem PySem.Fin} {J : Value → Sem PySem.Fin} {gd : Bool → Bool} {lv : List Value → List Value} {target iter : Expr} {body : List Stmt} {pos : Pos}
/-- the frame that waits for the loop -/
abbrev forFrame (env : Env) (K : Flow → Sem PySem.Fin) (J : Value → Sem PySem.Fin) (gd : Bool → Bool) (lv : List Value → List Value) (c : Code) (p : Pos) : Frame :=
  .ret (fun r => ((match r with | .ok f => (.pure f : Sem Flow) | .error e => .raise e).onRaise (cameBack env)).wrap K J gd lv) none (gd false) (lv []) c p []
theorem seg_For (hs : ∀ x, foldedSetIterable iter env x = pure x)
    (h : wpAny (model P w) (A.over c fs) (eval iter env) (fun v s1 => wpAny (model P w) (A.over c fs) (pyIter v) (fun it s2 => ∀ p, Seg (model P w) A R Y n s₀ (.forLoop target it body [] env) ((model P w).den (.forLoop target it body [] env)) (forFrame env K J gd lv c p :: fs) s2)
      (fun x s' => Seg (model P w) A R Y n s₀ c (J x) fs s') s1) (fun x s' => Seg (model P w) A R Y n s₀ c (J x) fs s') s) :
    Seg (model P w) A R Y n s₀ c ((exec (.For target iter body [] pos) env).wrap K J gd lv) fs s := by
  show Seg _ A R Y n s₀ c (.at pos fun _ => ((eval iter env >>= fun v => foldedSetIterable iter env v >>= fun x => standAt iter.pos >>= fun _ => holding [x] (pyIter x) >>= fun it => runOwn (.forLoop target it body [] env) env)).wrap K J gd lv) fs s
  refine seg_at (seg_bind_wrap (wpAny_mono h (fun v s1 h1 => ?_) fun _ _ e => e))
  rw [hs]
  refine seg_bind_wrap (wpAny_pure ?_)
  refine seg_bind_wrap (wpAny_standAt ?_)
  refine seg_bind_wrap (wpAny_holding (wpAny_mono h1 (fun it s2 h2 => ?_) fun _ _ e => e))
  exact seg_call h2
/-- an exception in a loop's turn -/
abbrev XTurn (P : Program) (w : World) (A : Around) (R : GenEnd) (Y : Protocol) (n : Nat) (s₀ : Shared) (c : Code) (fs : List Frame) (env : Env) (x : Value) (s' : Shared) : Prop :=
  Seg (model P w) A R Y n s₀ c ((do noteFrame x env; theTreesLotGoes x : Sem Unit).wrap (fun _ => .raise x) .raise id id) fs s'
theorem seg_forLoop {it : Value} (h : wpAny (model P w) (A.over (.forLoop target it body [] env) fs) (pyNext it) (fun r s1 => match r with
      | none => Seg (model P w) A R Y n s₀ (.forLoop target it body [] env) (.pure (.again (.block [] env))) fs s1
      | some v => wpAny (model P w) (A.over (.forLoop target it body [] env) fs) (letOwnedTupleGo target it v) (fun _ s2 => wpAny (model P w) (A.over (.forLoop target it body [] env) fs) (assign target env v) (fun _ s3 =>
          Seg (model P w) A R Y n s₀ (.forLoop target it body [] env) ((execs body env).wrap (fun f => match f with
            | .next | .cont => .pure (.again (.forLoop target it body [] env))
            | .brk => .pure (.done .next)
            | .ret v => .pure (.done (.ret v))) (fun e => (do noteFrame e env; theTreesLotGoes e : Sem Unit).wrap (fun _ => .raise e) .raise id id) id id) fs s3)
          (XTurn P w A R Y n s₀ (.forLoop target it body [] env) fs env) s2) (XTurn P w A R Y n s₀ (.forLoop target it body [] env) fs env) s1)
      (XTurn P w A R Y n s₀ (.forLoop target it body [] env) fs env) s) :
    Seg (model P w) A R Y n s₀ (.forLoop target it body [] env) ((model P w).den (.forLoop target it body [] env)) fs s := by
  show Seg _ A R Y n s₀ _ ((forTurn target it body [] env).onRaise (fun x => do noteFrame x env; theTreesLotGoes x)) fs s
  unfold forTurn
  rw [Sem.onRaise_eq_wrap]
  have xx : ∀ x s', XTurn P w A R Y n s₀ (.forLoop target it body [] env) fs env x s' → Seg (model P w) A R Y n s₀ (.forLoop target it body [] env) ((do noteFrame x env; theTreesLotGoes x : Sem Unit).bind fun _ => .raise x) fs s' := fun x s' hx => by
    rw [Sem.bind_eq_wrap]
    exact hx
  refine seg_bind_wrap (wpAny_standAt ?_)
  refine seg_bind_wrap (wpAny_onRaise (wpAny_mono h (fun r s1 h1 => ?_) fun x s' hx => wpAny_standAt (xx x s' hx)))
  cases r with
  | none => exact h1
  | some v =>
    refine seg_bind_wrap (wpAny_mono h1 (fun _ s2 h2 => ?_) fun x s' hx => xx x s' hx)
    refine seg_bind_wrap (wpAny_mono h2 (fun _ s3 h3 => ?_) fun x s' hx => xx x s' hx)
    rw [Sem.bind_eq_wrap', Sem.wrap_wrap]
    rw [Sem.wrap_congr (execs body env) _ _ (K' := fun f => match f with
            | .next | .cont => .pure (.again (.forLoop target it body [] env))
            | .brk => .pure (.done .next)
            | .ret v => .pure (.done (.ret v))) (H' := (fun e => (do noteFrame e env; theTreesLotGoes e : Sem Unit).wrap (fun _ => .raise e) .raise id id))
        (fun f => by cases f <;> rfl)
        (fun e => by first | exact Sem.bind_eq_wrap _ _ | (show (do noteFrame e env; theTreesLotGoes e : Sem Unit).bind (fun _ => .raise e) = _; rw [Sem.bind_eq_wrap]))]
    exact h3
end
end GenFor
end

-- GenFor2
section
set_option Elab.async false
set_option linter.all false
set_option maxRecDepth 100000
set_option maxHeartbeats 1000000
/-! a generator def whose body goes over a tuple and hands each item out: its run beside a consumer that turns two objects. -/
namespace GenFor
open PySem PySem.Spec PyProof.Rows L2 GenW
/-- while the generator sleeps its consumer turns the objects at C and D; all else is kept -/
structure Woke (C D : Addr) (s s' : Shared) : Prop where
  os : s'.os = s.os
  bare : AllBare s'.gens
  keep : ∀ b o, b ≠ C → b ≠ D → s.heap.get? b = some o → s'.heap.get? b = some o
  c : ∃ o, s'.heap.get? C = some o ∧ ∀ v, o.data ≠ .cell v
  d : ∃ o, s'.heap.get? D = some o ∧ ∀ v, o.data ≠ .cell v
/-- running: the consumer's two objects stand as they stood when it was woken -/
def Two (X : Cx) (C D : Addr) (σ : L2.St) (H : Hp) (s₀ s : Shared) : Prop := ∃ oC oD, s₀.heap.get? C = some oC ∧ s₀.heap.get? D = some oD ∧ Inv X [(C, oC), (D, oD)] σ H s
structure Far (X : Cx) (C D : Addr) : Prop where
  c : Apart X C
  d : Apart X D
  pn : ∀ p ∈ X.pn, p.1 ≠ C ∧ p.1 ≠ D
theorem Two.at {X : Cx} {C D : Addr} {σ : L2.St} {H : Hp} {s₀ s : Shared} (h : Two X C D σ H s₀ s) : s.heap.get? C = s₀.heap.get? C ∧ s.heap.get? D = s₀.heap.get? D ∧ H C = none ∧ H D = none := by
  obtain ⟨oC, oD, e1, e2, I⟩ := h
  have h1 := I.pin (C, oC) (List.mem_append_right _ List.mem_cons_self)
  have h2 := I.pin (D, oD) (List.mem_append_right _ (List.mem_cons_of_mem _ List.mem_cons_self))
  exact ⟨h1.1.trans e1.symm, h2.1.trans e2.symm, h1.2.1, h2.2.1⟩
/-- woken again -/
theorem Two.woken {X : Cx} {C D : Addr} {σ : L2.St} {H : Hp} {s₀ s s' : Shared} (F : Far X C D) (h : Two X C D σ H s₀ s) (z : Woke C D s s') : Two X C D σ H s' s' := by
  obtain ⟨oC, oD, _, _, I⟩ := h
  obtain ⟨_, c1, c2, c3, _⟩ := I.pin (C, oC) (List.mem_append_right _ List.mem_cons_self)
  obtain ⟨_, d1, d2, d3, _⟩ := I.pin (D, oD) (List.mem_append_right _ (List.mem_cons_of_mem _ List.mem_cons_self))
  have I0 : Inv X [] σ H s := I.pins_of fun p hp => by cases hp
  obtain ⟨z1, z2, z3, ⟨oC', eC, nC⟩, ⟨oD', eD, nD⟩⟩ := z
  have nt : ∀ b u, H b = some u → b ≠ C ∧ b ≠ D := fun b u q => ⟨fun hb => (by rw [hb, c1] at q; cases q), fun hb => (by rw [hb, d1] at q; cases q)⟩
  have nc : ∀ b, b ∉ [C, D] → b ≠ C ∧ b ≠ D := fun b hb => ⟨fun e => hb (e ▸ List.mem_cons_self), fun e => hb (e ▸ List.mem_cons_of_mem _ List.mem_cons_self)⟩
  have keep : ∀ b ob, b ∉ [C, D] → s.heap.get? b = some ob → s'.heap.get? b = some ob := fun b ob hb q => z3 b ob (nc b hb).1 (nc b hb).2 q
  obtain ⟨hh, g, d, t, o⟩ := s'
  have ho : o = s.os := z1
  subst ho
  have J : Inv X [] σ H { s with heap := hh, gens := g, drawn := d, toks := t } := by
    refine I0.step (g' := g) (t' := t) (d' := d) (ch := [C, D]) (fun b hb => ?_)
      (fun b ob _ _ hc q _ => keep b ob hc q) (fun b ob _ _ hc q _ => ⟨ob.slots, keep b ob hc q⟩) (fun _ _ _ _ n => n) (fun b ob hc q => ⟨ob, keep b ob hc q⟩)
      (fun _ _ q => q) (fun _ _ _ q => q) (fun b ps q => ⟨#[], by rw [q]; simp⟩) (fun m hm => ?_) (fun b u q => ?_) z2
    · rcases List.mem_cons.mp hb with e | hb
      · rw [e]
        exact ⟨.inr F.c.1, F.c.2.1, F.c.2.2, fun p hp => by rw [List.append_nil] at hp; exact (F.pn p hp).1⟩
      · rw [List.mem_singleton.mp hb]
        exact ⟨.inr F.d.1, F.d.2.1, F.d.2.2, fun p hp => by rw [List.append_nil] at hp; exact (F.pn p hp).2⟩
    · obtain ⟨ob, es, ep, ho, r⟩ := hm
      exact ⟨ob, es, ep, z3 _ ob (Ne.symm c2) (Ne.symm d2) ho, r⟩
    · refine (I0.hok b u q).stay (fun c v hc y => ?_) (fun _ y => y) fun _ _ y => y
      rcases hc with y' | y'
      · rw [y'] at y ⊢; exact z3 b v (nt b u q).1 (nt b u q).2 y
      · exact z3 c v (nt c _ y').1 (nt c _ y').2 y
  refine ⟨oC', oD', eC, eD, J.pins_of fun p hp => ?_⟩
  rcases List.mem_cons.mp hp with hp | hp
  · rw [hp]
    exact ⟨eC, c1, c2, c3, nC⟩
  · rw [List.mem_singleton.mp hp]
    exact ⟨eD, d1, d2, d3, nD⟩
/-- an item is handed out -/
def Y2 (sB : Shared) (C D a : Addr) (g : Nat) (xs : List V) : Protocol := fun m s₀ v s1 kap =>
  ∃ (i : Nat) (x : V), i + m + 1 = xs.length ∧ xs[i]? = some x ∧ RelV x v ∧ s1.os = sB.os ∧ AllBare s1.gens ∧ s1.heap.NoLimit ∧ s1.heap.IsGen a g ∧ s1.heap.get? C = s₀.heap.get? C ∧ s1.heap.get? D = s₀.heap.get? D ∧ ∀ s', Woke C D s1 s' → kap (.send .none) s'
/-- all is handed out -/
def F2 (P : Program) (w : World) (outer : List Env) (H : Hp) (sB : Shared) (C D : Addr) : Nat → Shared → Shared → Prop := fun n s₀ s1 =>
  n = 0 ∧ s1.os = sB.os ∧ AllBare s1.gens ∧ Un (frs outer) [] H H sB.heap s1.heap ∧ HOk P w H s1.heap ∧ s1.heap.get? C = s₀.heap.get? C ∧ s1.heap.get? D = s₀.heap.get? D ∧ H C = none ∧ H D = none
def R2e (P : Program) (w : World) (outer : List Env) (H : Hp) (sB : Shared) (C D : Addr) : GenEnd := fun n s₀ r s1 =>
  ((r = .ok (.ret .none) ∨ r = .ok .next) ∧ F2 P w outer H sB C D n s₀ s1) ∨ ∃ e, r = .error e ∧ False
theorem fp_swap {X : Cx} {C D b : Addr} {o1 o2 o3 o4 : Obj} {H : Hp} (h : FpOk X [(C, o1), (D, o2)] H b) : FpOk X [(C, o3), (D, o4)] H b := by
  obtain ⟨a1, a2, a3, a4, a5, a6⟩ := h
  refine ⟨a1, a2, a3, a4, a5, fun p hp => ?_⟩
  rcases List.mem_append.mp hp with hp | hp
  · exact a6 p (List.mem_append_left _ hp)
  rcases List.mem_cons.mp hp with hp | hp
  · rw [hp]; exact a6 (C, o1) (List.mem_append_right _ List.mem_cons_self)
  · rw [List.mem_singleton.mp hp]; exact a6 (D, o2) (List.mem_append_right _ (List.mem_cons_of_mem _ List.mem_cons_self))
theorem fp_ne {X : Cx} {C D b : Addr} {o1 o2 : Obj} {H : Hp} (h : FpOk X [(C, o1), (D, o2)] H b) : b ≠ C ∧ b ≠ D := by
  obtain ⟨_, _, _, _, _, a6⟩ := h
  exact ⟨fun z => a6 (C, o1) (List.mem_append_right _ List.mem_cons_self) z.symm, fun z => a6 (D, o2) (List.mem_append_right _ (List.mem_cons_of_mem _ List.mem_cons_self)) z.symm⟩
section
variable {X : Cx} {A : Around} {R : GenEnd} {C D a oa it : Addr} {g j : Nat} {xs : List V} {sB : Shared} {fs : List Frame} {tgt e : Expr} {yp ep : Pos} {fp : List Addr} {tn : Nat → Heap → Prop} {H : Hp}
theorem seg_loop (hc : X.calm = true) (hxe : ∀ x s', X.xe x s' → False) (F : Far X C D) (hg : PG X tgt (gName j)) (he : PE X e (tVar j)) (T : Turn X.prog X.w X.K tgt (Itt X.K oa) fp it tn) (hq : SqT X.K H oa xs)
    (hgen : ∀ (pins : List (Addr × Obj)) (σ : L2.St) (s : Shared), Inv X pins σ H s → s.heap.IsGen a g) (hos : ∀ (pins : List (Addr × Obj)) (σ : L2.St) (s : Shared), Inv X pins σ H s → s.os = sB.os) (hjl : ∀ (σ : L2.St) (v : V), j < σ.length → (σ.set j (some v))[j]? = some (some v))
    (hov : A.over (.forLoop tgt (.ref it) [.Expr (.Yield (some e) yp) ep] [] X.env) fs = X.A) (hsp : splitAtGen fs = none) (hgu : fs.any Frame.guarded = false) (hco : X.env.scope.isCoroutine = false) (hin : interactive X.env = false)
    (hend : ∀ (σ : L2.St) (s₀ s1 : Shared), Two X C D σ H s₀ s1 → Seg (model X.prog X.w) A R (Y2 sB C D a g xs) 0 s₀ (.block [] X.env) (leafOf (.ok .next)) fs s1) :
    ∀ (r i : Nat) (σ : L2.St) (s₀ s : Shared), i + r = xs.length → j < σ.length → (∀ b ∈ fp, ∀ o1 o2, FpOk X [(C, o1), (D, o2)] H b) → Two X C D σ H s₀ s → tn i s.heap →
      Seg (model X.prog X.w) A R (Y2 sB C D a g xs) r s₀ (.forLoop tgt (.ref it) [.Expr (.Yield (some e) yp) ep] [] X.env) ((model X.prog X.w).den (.forLoop tgt (.ref it) [.Expr (.Yield (some e) yp) ep] [] X.env)) fs s := by
  intro r
  induction r with
  | zero =>
    intro i σ s₀ s hi hj hf hT ht
    refine seg_forLoop ?_
    rw [hov]
    obtain ⟨oC, oD, e1, e2, I⟩ := hT
    refine wpAny_mono (T.done X rfl rfl rfl hc i [(C, oC), (D, oD)] s σ H (fun _ _ => False) I (fun b hb => hf b hb _ _) ht ⟨xs, hq, by omega⟩) (fun r s1 ⟨er, I1⟩ => ?_) fun _ _ h => h.elim
    subst er
    refine seg_again rfl ?_
    exact hend σ s₀ s1 ⟨oC, oD, e1, e2, I1⟩
  | succ r ih =>
    intro i σ s₀ s hi hj hf hT ht
    refine seg_forLoop ?_
    rw [hov]
    obtain ⟨oC, oD, e1, e2, I⟩ := hT
    have lt : i < xs.length := by omega
    refine wpAny_mono (T.item X rfl rfl rfl hc i [(C, oC), (D, oD)] s σ H (fun _ _ => False) I (fun b hb => hf b hb _ _) ht ⟨xs, _, hq, List.getElem?_eq_getElem lt⟩) (fun r1 s1 ⟨u, er, h1⟩ => ?_) fun _ _ h => h.elim
    subst er
    refine wpAny_mono h1 (fun _ s2 h2 => ?_) fun _ _ h => h.elim
    obtain ⟨x, H', I2, ru, ⟨eH, hx⟩, ht2, _⟩ := h2
    subst eH
    have hxi := hx xs hq
    have I2' := I2.pinned (fun b hb => hf b hb oC oD) (T.obj _ _ ht2)
    refine wpAny_mono (hg.run _ s2 σ H' x u (fun σ' H2 => σ' = σ.set j (some x) ∧ H2 = H') I2' ru ⟨rfl, rfl⟩) (fun _ s3 h3 => ?_) fun x s' h => (hxe x s' h).elim
    obtain ⟨σ3, H3, I3, eσ, eH3⟩ := h3
    subst eσ eH3
    refine seg_execs_cons ?_
    refine seg_Expr_Yield hsp rfl hgu ?_ hco hin
    rw [hov]
    refine wpAny_mono (he.run _ s3 _ H3 (fun y H4 => y = x ∧ H4 = H3) I3 ⟨x, hjl σ x hj, rfl, rfl⟩) (fun v s4 h4 => ?_) fun x s' h => (hxe x s' h).elim
    obtain ⟨y, H4, I4, rv, ey, eH4⟩ := h4
    subst ey eH4
    intro kap hk
    have I5 := I4.unpinned
    have pC := I5.pin (C, oC) (List.mem_append_right _ List.mem_cons_self)
    have pD := I5.pin (D, oD) (List.mem_append_right _ (List.mem_cons_of_mem _ List.mem_cons_self))
    refine ⟨i, y, by omega, hxi, rv, hos _ _ _ I5, I5.bare, I5.nolimit, hgen _ _ _ I5, pC.1.trans e1.symm, pD.1.trans e2.symm, fun s' z => hk .none s' ?_⟩
    refine seg_execs_nil ?_
    refine seg_again rfl ?_
    refine ih (i + 1) _ s' s' (by omega) (by rw [List.length_set]; exact hj) hf ((show Two X C D _ H4 s₀ s4 from ⟨oC, oD, e1, e2, I5⟩).woken F z) ?_
    refine T.keep _ _ _ ht2 fun b hb o e => ?_
    obtain ⟨n1, n2⟩ := fp_ne (hf b hb oC oD)
    exact z.keep b o n1 n2 (I4.pin (b, o) (List.mem_append_right _ (List.mem_append_right _ (mem_pinsAt hb e)))).1
end
end GenFor
end

-- GenFor3
section
set_option Elab.async false
set_option linter.all false
set_option maxRecDepth 100000
set_option maxHeartbeats 1000000
/-! what a call of such a generator def gives. -/
namespace GenFor
open PySem PySem.Spec PyProof.Rows L2 GenW
/-- a generator that has not begun, and will hand out xs -/
def GMade2 (P : Program) (w : World) (k : Nat) (outer : List Env) (H : Hp) (s : Shared) (xs : List V) (u : Value) (s' : Shared) : Prop :=
  ∃ (a : Addr) (g : Nat) (c : Code), u = .ref a ∧ s.heap.objs.size ≤ a ∧ a < s'.heap.objs.size ∧ s'.heap.IsGen a g ∧ s'.gens[g]? = some (.fresh c) ∧ s'.os = s.os ∧ AllBare s'.gens ∧ s'.heap.NoLimit ∧ (∀ b o, s.heap.get? b = some o → s'.heap.get? b = some o) ∧
    ∀ (A : Around) (C D : Addr) (s2 : Shared), Room k A → A.frames = some outer → s'.heap.objs.size ≤ C → s'.heap.objs.size ≤ D → (∀ b o, s'.heap.get? b = some o → s2.heap.get? b = some o) → (∃ o, s2.heap.get? C = some o ∧ ∀ v, o.data ≠ .cell v) → (∃ o, s2.heap.get? D = some o ∧ ∀ v, o.data ≠ .cell v) →
      s2.os = s.os → AllBare s2.gens → Seg (model P w) A (R2e P w outer H s C D) (Y2 s C D a g xs) xs.length s2 c ((model P w).den c) [] s2
/-- a generator def that goes over a tuple -/
def GFn2 (P : Program) (w : World) (K : PySem.W.Frag) (mg : Str → Option Value) (base : Heap) (k : Nat) (f : Addr) (fd : FuncData) (ps : List Str) (sp : List V → Hp → List V → Prop) : Prop :=
  ∀ (A : Around) (outer : List Env) (s : Shared) (H : Hp) (args : Args) (us : List Value) (vs xs : List V), Room k A → Env0 P w K mg base A outer s H → BindsTo s fd args (ps.zip us) → Vals vs us → sp vs H xs →
    codeAny (model P w) A (.call (.ref f) args) (fun r s' => match r with | .ok (.ret u) => GMade2 P w k outer H s xs u s' | _ => False) s
abbrev gX (P : Program) (w : World) (K : PySem.W.Frag) (mg : Str → Option Value) (base : Heap) (N : List Str) (qual : Str) (scope : Scope) (f : Addr) (cdv : Value) (A : Around) (outer : List Env) (s : Shared) (H : Hp) (pn : List (Addr × Obj)) : Cx := (gcxOf P w K mg base N qual scope f cdv A outer s H (fun _ _ _ => False) pn).nox
theorem gen2_of {P : Program} {w : World} {K : PySem.W.Frag} {mg : Str → Option Value} {base : Heap} {k : Nat} {f : Addr} {name qual : Str} {params : Arguments} {scope : Scope} {dV kV doc pm cdv ct oc : Value} {an od : Option Addr}
    {osl : Array (Option Value)} {N ps : List Str} {sp : List V → Hp → List V → Prop} {tgt iter e : Expr} {yp ep fp : Pos} {j : Nat}
    (lk : K.lookup f = some ⟨oc, od, .func (PySem.W.fnOf name qual params [.For tgt iter [.Expr (.Yield (some e) yp) ep] [] fp] scope dV kV doc pm an cdv ct), osl⟩) (hcd : PySem.W.codeIn K cdv qual = true) (S : GScope N ps scope)
    (len : ∀ vs H xs, sp vs H xs → vs.length = ps.length) (hjN : j < N.length) (hs : ∀ (env : Env) (x : Value), foldedSetIterable iter env x = pure x) (hin : ∀ (L f' : Addr), interactive (envOfC qual scope L f' cdv) = false)
    (hbody : ∀ (A : Around) (outer : List Env) (s : Shared) (H : Hp) (vs xs : List V) (pn : List (Addr × Obj)), Room k (A.deeper (envOfC qual scope s.heap.objs.size f cdv)) → sp vs H xs →
      ∃ wi oa, PI (gX P w K mg base N qual scope f cdv A outer s H pn) tgt iter wi ∧ PG (gX P w K mg base N qual scope f cdv A outer s H pn) tgt (gName j) ∧ PE (gX P w K mg base N qual scope f cdv A outer s H pn) e (tVar j) ∧
        wi (start N vs) H (fun J H' => J = Itt K oa ∧ H' = H) ∧ SqT K H oa xs) :
    GFn2 P w K mg base (k + 1) f (PySem.W.fnOf name qual params [.For tgt iter [.Expr (.Yield (some e) yp) ep] [] fp] scope dV kV doc pm an cdv ct) ps sp := by
  intro A outer s H args us vs xs hr e0 hb r hsp
  have hl := len _ _ _ hsp
  have KX : K.In s.heap := e0.mod.kin.keeps fun b o e => (e0.bs b o e).1
  have lim : s.heap.NoLimit := e0.mod.nolimit.keeps fun b o e => (e0.bs b o e).1
  refine codeAny_call_generator hr.depth (KX _ _ lk) rfl S.co S.gen rfl (PySem.W.codeRec_of KX hcd) (hb _ _ _ _ ?_)
  refine wpAny_newFunctionEnv_cells S.kind (fun y hy => ?_) fun env he s1 x => ?_
  · rcases S.par y.1 (List.of_mem_zip hy).1 with q | q
    · exact .inl q
    · exact .inr ⟨q, PySem.W.cellsFrom_some _ _ _ (.inl q)⟩
  subst he
  refine ⟨lim.keeps x.toInCall.keep, ?_⟩
  have lim1 : s1.heap.NoLimit := lim.keeps x.toInCall.keep
  obtain ⟨h1, tk, es1, hk1⟩ := x.done
  have os1 : s1.os = s.os := by rw [es1]
  have gen1 : s1.gens = s.gens := by rw [es1]
  have lt1 : s.heap.objs.size < s1.heap.objs.size := x.toInCall.ns.lt
  have kp1 : ∀ b o, s.heap.get? b = some o → s1.heap.get? b = some o := x.toInCall.keep
  have main : ∀ (go : Obj) (nm qn : Value) (tk2 : Nat), go.cls = .type "generator" → go.data = .fields #[.int s1.gens.size 0, nm, qn] → go.slots = #[] → (∀ h : Heap, (h.push go).get? h.objs.size = some go) →
      GMade2 P w (k + 1) outer H s xs (.ref s1.heap.objs.size) { s1 with gens := s1.gens.push (.fresh (.func [.For tgt iter [.Expr (.Yield (some e) yp) ep] [] fp] (envOfC qual scope s.heap.objs.size f cdv))), toks := tk2, heap := s1.heap.push go } := by
    intro go nm qn tk2 hgc hgd0 hgs hgp
    have hgen : ∀ h : Heap, h.get? s1.heap.objs.size = some go → h.IsGen s1.heap.objs.size s1.gens.size := fun h e => ⟨go, nm, qn, e, hgc, hgd0, hgs⟩
    have hpushed : (s1.heap.push go).get? s1.heap.objs.size = some go := hgp _
    refine ⟨s1.heap.objs.size, s1.gens.size, _, rfl, Nat.le_of_lt lt1, ?_, hgen _ hpushed, Array.getElem?_push_size .., os1, AllBare.push (by rw [gen1]; exact e0.bare) rfl, lim1.keeps fun b o e => Heap.get?_push_of_some _ e, fun b o e => Heap.get?_push_of_some _ (kp1 b o e), ?_⟩
    · show _ < (s1.heap.push _).objs.size
      rw [Heap.size_push]; exact Nat.lt_succ_self _
    intro Aw C D s2 hrw hfr hC hD hk2 hCo hDo hos hba
    have e0w : Env0 P w K mg base Aw outer s H := ⟨hfr, e0.mod, e0.bs, e0.bsz, e0.funs, e0.frf, e0.hok, e0.bare⟩
    obtain ⟨wi, oa, hi, hg, he, hw, hq⟩ := hbody Aw outer s H vs xs [(s1.heap.objs.size, go)] (hrw.deeper _) hsp
    have I1 : Inv (gcxOf P w K mg base N qual scope f cdv Aw outer s H (fun _ _ _ => False) []) [] (start N vs) H s1 := inv_startG S hrw.hd e0w hl r x
    have kp2 : ∀ b o, s1.heap.get? b = some o → s2.heap.get? b = some o := fun b o e => hk2 b o (Heap.get?_push_of_some _ e)
    have I2 : Inv (gcxOf P w K mg base N qual scope f cdv Aw outer s H (fun _ _ _ => False) []) [] (start N vs) H s2 :=
      I1.call' (ch := []) (hos.trans os1.symm) (Un.kept kp2) (I1.hok.kept kp2) hba fun b z => by simp at z
    have above : ∀ {b : Addr}, (s1.heap.push go).objs.size ≤ b → s1.heap.objs.size < b := fun h => by rw [Heap.size_push] at h; exact h
    have hC1 := above hC
    have hD1 := above hD
    obtain ⟨oC, eC, nC⟩ := hCo
    obtain ⟨oD, eD, nD⟩ := hDo
    have young : ∀ b, s1.heap.objs.size ≤ b → H b = none ∧ b ≠ s.heap.objs.size ∧ b ∉ frs outer ∧ s.heap.objs.size ≤ b ∧ ∀ y c, (cellsFrom (s.heap.objs.size + 1) scope.names []).lookup y = some c → c ≠ b := fun b hb => by
      refine ⟨I1.hok.fresh hb, Nat.ne_of_gt (Nat.lt_of_lt_of_le lt1 hb), I1.nofs hb, Nat.le_trans (Nat.le_of_lt lt1) hb, fun y c e z => ?_⟩
      obtain ⟨v, ob, ho, _⟩ := I1.cell y c e
      have := Heap.lt_size ho
      rw [z] at this
      exact absurd (Nat.lt_of_lt_of_le this hb) (Nat.lt_irrefl _)
    obtain ⟨a1, a2, a3, a4, a5⟩ := young _ (Nat.le_refl _)
    obtain ⟨c1, c2, c3, c4, c5⟩ := young C (Nat.le_of_lt hC1)
    obtain ⟨d1, d2, d3, d4, d5⟩ := young D (Nat.le_of_lt hD1)
    have hT : Two (gX P w K mg base N qual scope f cdv Aw outer s H [(s1.heap.objs.size, go)]) C D (start N vs) H s2 s2 := by
      refine ⟨oC, oD, eC, eD, (Inv.pinnedG I2 fun p hp => ?_).wish _⟩
      rcases List.mem_append.mp hp with z | z
      · rw [List.mem_singleton.mp z]
        exact ⟨hk2 _ go hpushed, a1, a2, a3, fun v q => by rw [hgd0] at q; cases q⟩
      rcases List.mem_cons.mp z with z | z
      · rw [z]; exact ⟨eC, c1, c2, c3, nC⟩
      · rw [List.mem_singleton.mp z]; exact ⟨eD, d1, d2, d3, nD⟩
    have far : Far (gX P w K mg base N qual scope f cdv Aw outer s H [(s1.heap.objs.size, go)]) C D :=
      ⟨⟨c4, c2, c5⟩, ⟨d4, d2, d5⟩, fun p hp => by
        rw [List.mem_singleton.mp hp]
        exact ⟨Nat.ne_of_lt hC1, Nat.ne_of_lt hD1⟩⟩
    obtain ⟨oC', oD', eC', eD', I3⟩ := id hT
    refine seg_func ?_
    refine seg_execs_cons ?_
    refine seg_For (hs _) ?_
    rw [over_func]
    refine wpAny_mono (hi.run [(C, oC'), (D, oD')] s2 _ H _ I3 hw) (fun v s3 h3 => ?_) fun _ _ h => h.elim
    refine wpAny_mono h3 (fun itv s4 h4 => ?_) fun _ _ h => h.elim
    obtain ⟨it, fpa, tn, J, H4, eit, I4, T, st4, f4, eJ, eH⟩ := h4
    subst eit eJ eH
    intro p
    refine seg_loop (X := gX P w K mg base N qual scope f cdv Aw outer s H4 [(s1.heap.objs.size, go)]) (oa := oa) (j := j) rfl (fun _ _ h => h) far hg he T hq (fun pins σ s5 I5 => hgen _ (I5.pin (s1.heap.objs.size, go) (List.mem_append_left _ (List.mem_singleton.mpr rfl))).1) (fun pins σ s5 I5 => I5.os)
      (fun σ v h => List.getElem?_set_self h) ((over_loop rfl rfl).trans over_func) rfl rfl S.co (hin _ _) (fun σ s₀ s5 h5 => ?_) xs.length 0 (start N vs) s2 s4 (Nat.zero_add _) (by have := I4.len; exact this ▸ hjN) (fun b hb o1 o2 => fp_swap (f4 b hb)) ⟨oC', oD', eC', eD', I4⟩ st4
    refine seg_leaf (.ok .next) ?_
    show Seg _ _ _ _ _ _ _ (leafOf (.ok (.ret .none))) _ _
    obtain ⟨q1, q2, q3, q4⟩ := h5.at
    obtain ⟨_, _, _, _, I5⟩ := h5
    exact seg_end (.ok (.ret .none)) (.inl ⟨.inl rfl, rfl, I5.os, I5.bare, I5.base, I5.hok, q1, q2, q3, q4⟩)
  exact main _ _ _ _ rfl rfl rfl fun h => Heap.get?_push_size _ rfl
end GenFor
end

-- GenFor4
section
set_option Elab.async false
set_option linter.all false
set_option maxRecDepth 100000
set_option maxHeartbeats 1000000
/-! the consumer: [x for x in g], g such a generator: the comprehension's loop. -/
namespace GenFor
open PySem PySem.Spec PyProof.Rows L2 GenW
section
variable {P : Program} {w : World} {A : Around} {outer : List Env} {H : Hp} {sB : Shared} {C D a : Addr} {g : Nat} {xs : List V} {x : Str} {q p pos : Pos} {scope : Scope} {iter : Expr} {ce : Env} {R : Result → Shared → Prop}
/-- between two turns: i items are in the list -/
def Turns (P : Program) (w : World) (A : Around) (outer : List Env) (H : Hp) (sB : Shared) (C D a : Addr) (g : Nat) (xs : List V) (n : Nat) (s : Shared) : Prop :=
  ∃ (i : Nat) (us : List Value) (m : Str → Option Value), i + n = xs.length ∧ s.heap.IsGen a g ∧ s.heap.NoLimit ∧ (∃ gs, s.gens[g]? = some gs ∧ gs.Goes (model P w) A.in1 (R2e P w outer H sB C D) (Y2 sB C D a g xs) n (.send .none) (s.setGen g .running)) ∧
    s.heap.PlainList D us.toArray ∧ Vals (xs.take i) us ∧ s.heap.Ns C m
theorem comp_gen (hh : A.handled = none) (hd : A.depth < recursionLimit) (hl : ce.locals = C) (hk : ce.scope.kind = .function) (hx : ce.kindOf x = some .local) (hp : (ce.scope.kind == .class || (ce.scope.kind == .module && ce.locals != ce.globals)) = false) (hdb : (x == ("__debug__" : Str)) = false)
    (nCD : C ≠ D) (nCa : C ≠ a) (nDa : D ≠ a) (nCs : C ≠ cStatics) (nDs : D ≠ cStatics) (hsz : xs.length ≤ sizeLine)
    (done : ∀ s' us m, s'.os = sB.os → AllBare s'.gens → Un (frs outer) [] H H sB.heap s'.heap → HOk P w H s'.heap → H C = none → H D = none → s'.heap.PlainList D us.toArray → Vals xs us → s'.heap.Ns C m → R (.ok .next) s')
    (n : Nat) {s : Shared} (h : Turns P w A outer H sB C D a g xs n s) :
    codeAny (model P w) A (.compLoop (.ListComp (.Name x q) [⟨.Name x p, iter, [], 0⟩] scope pos) 0 (.ref a) (.ref D) ce) R s := by
  refine compLoop_any (fun n s => Turns P w A outer H sB C D a g xs n s) ?_ n h
  rintro n s ⟨i, us, m, hi, hg, hlim, ⟨gs, hgs, hgo⟩, hD, rv, hns⟩
  have hgl : g < s.gens.size := (Array.getElem?_eq_some_iff.mp hgs).1
  refine wpAny_gsz (n := g + 1) hgl (next_genG hh hlim hd hg hgs (F := F2 P w outer H sB C D) (Er := fun _ _ => False) (Y := Y2 sB C D a g xs) hgo (fun v s₁ gs' hbare hv => ?_) (fun s₁ hF h' hkp => ?_) fun e s₁ he => he.elim)
  · intro hsz'
    obtain ⟨i', y, hi', hy, rvy, hos, hba, hlm, hge, hC, hDq, hk'⟩ := hv
    have eC : s₁.heap.get? C = s.heap.get? C := hC
    have eD : s₁.heap.get? D = s.heap.get? D := hDq
    have hsz1 : g < s₁.gens.size := by
      have q : (s₁.setGen g gs').gens.size = s₁.gens.size := setGen_size _ _ _
      have hsz'' : g + 1 ≤ (s₁.setGen g gs').gens.size := hsz'
      omega
    have hns1 : s₁.heap.Ns C m := hns.at' fun o e => eC.trans e
    have hD1 : s₁.heap.PlainList D us.toArray := by
      obtain ⟨k, e⟩ := hD
      exact ⟨k, eD.trans e⟩
    refine wpAny_of_eq (rfl : letOwnedTupleGo (.Name x p) (.ref a) v = pure ()) ?_
    refine wpAny_assign_Name (wpAny_storeName_local (m := m) hx (by rw [hl]; exact hns1) (fun h₂ hn₂ hs₂ => ?_) hp)
    refine wpAny_tests_nil ?_
    rw [if_pos rfl]
    refine wpAny_Name (wpAny_loadName_local (v := v) hk hx hn₂ (if_pos rfl) ?_) hdb
    have nDl : D ≠ ce.locals := by rw [hl]; exact Ne.symm nCD
    have hD2 : h₂.PlainList D us.toArray := by
      obtain ⟨k, e⟩ := hD1
      exact ⟨k, hs₂.extBut D _ nDl e⟩
    have ul : us.length ≤ i := by rw [← rv.length, List.length_take]; exact Nat.min_le_left _ _
    refine wpAny_list_append_plain (hsz := by rw [List.size_toArray]; omega) hD2 fun h₅ hl₅ hs₅ => ?_
    have keep : ∀ b o, b ≠ C → b ≠ D → s₁.heap.get? b = some o → h₅.get? b = some o := fun b o n1 n2 e => hs₅.extBut b o n2 (hs₂.extBut b o (by rw [hl]; exact n1) e)
    have hns5 : h₅.Ns C (fun x_1 => if x_1 = x then some v else m x_1) := by
      rw [hl] at hn₂
      exact hn₂.at' fun o e => hs₅.extBut C o nCD e
    have wk : ∀ (t : Nat), Woke C D s₁ ({ s₁.setGen g gs' with heap := h₅, toks := t }.setGen g .running) := fun t => by
      refine ⟨rfl, allBare_setGen (allBare_setGen hba hbare) rfl, keep, ?_, ?_⟩
      · obtain ⟨ob, es, ep, ho, hd, _⟩ := hns5
        exact ⟨ob, ho, fun v e => by rw [hd] at e; cases e⟩
      · obtain ⟨k, e⟩ := hl₅
        exact ⟨_, e, fun v z => by cases z⟩
    cases n with
    | zero => exact (hk' _ (wk 0)).elim
    | succ n =>
      have e : i' = i := by omega
      subst e
      refine ⟨n, Nat.lt_succ_self _, i' + 1, us ++ [v], _, by omega, (let ⟨o, nm, qn, ho, r⟩ := hge; ⟨o, nm, qn, keep a o (Ne.symm nCa) (Ne.symm nDa) ho, r⟩), ?_, ⟨gs', setGen_at hsz1, hk' _ (wk _)⟩, ?_, ?_, hns5⟩
      · obtain ⟨mc, hnc, hnn⟩ := hlm
        exact ⟨mc, hnc.at' fun o e => keep _ o (Ne.symm nCs) (Ne.symm nDs) e, hnn⟩
      · have e : us.toArray.push v = (us ++ [v]).toArray := by simp
        rw [← e]
        exact hl₅
      · rw [List.take_add_one, hy]
        exact rv.append (.cons rvy .nil)
  · intro _
    obtain ⟨n0, os1, ba1, un, hok, hC, hDq, nC, nD⟩ := hF
    subst n0
    have e : xs.take i = xs := List.take_of_length_le (by omega)
    rw [e] at rv
    refine done _ us m os1 (allBare_setGen ba1 rfl) (un.trans (Un.kept hkp)) (hok.kept hkp) nC nD ?_ rv ?_
    · obtain ⟨k, e⟩ := hD
      exact ⟨k, hkp _ _ (hDq.trans e)⟩
    · exact hns.at' fun o e => hkp _ _ (hC.trans e)
end
end GenFor
end

-- GenFor5
section
set_option Elab.async false
set_option linter.all false
set_option maxRecDepth 100000
set_option maxHeartbeats 1000000
/-! [x for x in o.m()], m such a generator. -/
namespace GenFor
open PySem PySem.Spec PyProof.Rows L2 GenW
/-- an expression whose value is such a generator that has not begun: what it will hand out -/
structure PGen2 (X : Cx) (k : Nat) (e : Expr) (tg : TGen) : Prop where
  run : ∀ (pins : List (Addr × Obj)) (s : Shared) (σ : L2.St) (H : Hp) (cont : List V → Hp → Prop), Inv X pins σ H s → tg σ H cont → wpAny (model X.prog X.w) X.A (eval e X.env)
    (fun u s' => ∃ H1 sc xs, Inv X pins σ H1 sc ∧ GMade2 X.prog X.w k X.stack H1 sc xs u s' ∧ cont xs H1) X.xe s
def tMethG2 (S : Addr → Prop) (m : Str) (sp : List V → Hp → List V → Prop) (ta : TE) : TGen := fun σ H cont => ta σ H fun x H1 => ∃ a C dx fs xs, x = .ref a ∧ H1 a = some (.ins C dx fs) ∧ S C ∧ fs.lookup m = none ∧ sp [x] H1 xs ∧ cont xs H1
section
variable {X : Cx} {k : Nat} {f : Addr} {fd : FuncData} {ps : List Str} {sp : List V → Hp → List V → Prop} {o : Expr} {m : Str} {apos pos pos' : Pos} {ta : TE} {S : Addr → Prop}
/-- o.m(), of whatever class of ours -/
theorem pgen2_meth0 {pl : Sem Bool} (he : PE X o ta) (c : ∀ C, S C → Cls X.K C ∧ Meth X.K C m f) (F : GFn2 X.prog X.w X.K X.mg X.base k f fd ps sp) (len : ∀ vs H xs, sp vs H xs → vs.length = ps.length) (hr : Room k X.A) (hb : Binds X.K fd ps [])
    (ht : eval (.Call (.Attribute o m apos) [] [] pos') X.env = (do
      let ov ← eval o X.env
      standAt apos.atName
      let (f, first) ← holding [ov] (getMethod ov m pl)
      callWith pos' f first (backTo pos' (starEach [] X.env)) (backToKw pos' (keywordEach [] X.env))) := by rfl) :
    PGen2 X k (.Call (.Attribute o m apos) [] [] pos') (tMethG2 S m sp ta) := by
  constructor
  intro pins s σ H cont I h
  refine PySem.W.methodCall_KW (pl := pl) (thn (he.run pins s σ H _ I h) fun u s1 ⟨x, H1, I1, rx, a, C, dx, fs, xs, ex, ea, hS, l, hsp, hq⟩ => ?_) ht
  subst ex
  obtain rfl : u = Value.ref a := rx
  have hm := (c C hS).2
  refine getmeth_ok I1 ea (c C hS).1 hm l ?_
  refine PySem.W.callWith_K0 (first := [.ref a]) I1.kIn hm.kp ?_
  have hl2 : ([Value.ref a] ++ []).length = ps.length := len _ _ _ hsp
  refine wpAny_call (codeAny_mono (F X.A X.stack s1 H1 ⟨[.ref a], []⟩ ([Value.ref a] ++ []) [V.ref a] xs hr I1.env0 (hb s1 [Value.ref a] I1.kIn hl2) (show Vals [V.ref a] ([Value.ref a] ++ []) from .cons rfl .nil) hsp) fun r s' q => ?_)
  cases r with
  | error e => exact False.elim q
  | ok fl =>
    cases fl with
    | ret u => exact ⟨H1, s1, xs, I1, q, hq⟩
    | next => exact False.elim q
    | brk => exact False.elim q
    | cont => exact False.elim q
def tLcG (tg : TGen) : TE := fun σ H Q => tg σ H fun xs H1 => xs.length ≤ sizeLine ∧ ∀ p, H1 p = none → Q (.ref p) (upd H1 p (.lst xs))
theorem pe_lcG {iter : Expr} {tg : TGen} {x : Str} {q p : Pos} {scope : Scope} {own : List (Str × Nat)} (h : PGen2 X k iter tg) (hc : X.calm = true) (hr : Room (k + 1) X.A) (ok : BlkOk X.N X.env.scope scope own)
    (hx : ∀ (cl : List (Str × Addr)) (C : Addr), (compEnvC scope cl C X.env).kindOf x = some .local) (hdb : (x == ("__debug__" : Str)) = false := by decide) (hs : ∀ x, foldedSetIterable iter X.env x = pure x := by intro _; rfl) :
    PE X (.ListComp (.Name x q) [⟨.Name x p, iter, [], 0⟩] scope pos) (tLcG tg) := by
  constructor
  intro pins s σ H Q I hq
  rw [eval_ListComp]
  have hfree : ∀ y ∈ scope.names, y.2 = .free → ∃ c, X.env.cells.lookup y.1 = some c := fun y hy e => by
    rcases ok.free y hy e with k | k
    · exact I.ok.has _ (.inl k)
    · exact I.ok.has _ (.inr k)
  refine wpAny_comprehension_free (use := none) rfl hs (closure_ok hfree) ok.kind (fun y hy e => by rw [ok.uniq y hy, e])
    (thn (h.run pins s σ H _ I hq) fun u s1 ⟨H1, sc, xs, I1, G, hsz, hQ⟩ => ?_)
  obtain ⟨a, g, c, rfl, ha1, ha2, hgen, hfresh, os, ba, lim, kp, seg⟩ := G
  refine wpAny_pyIter_gen hgen ?_
  refine wpAny_newObj_type (newEnv_comp ?_) (by show 0 ≤ sizeLine; decide)
  generalize hD : s1.heap.objs.size = D
  generalize hs3 : ({ s1 with heap := s1.heap.push { cls := .type "list", data := .seq ([] : List Value).toArray } } : Shared) = s3
  show codeAny _ _ (.compStart (.ListComp (.Name x q) [⟨.Name x p, iter, [], 0⟩] scope pos) 0 (.ref a) (.ref D) (compEnvC scope (cellsFrom (s3.heap.objs.size + 1) scope.names (cloFrom X.env.cells scope.names [])) s3.heap.objs.size X.env)) (compPost (model X.prog X.w) X.A X.xe none (EP X pins σ Q) (.ref D) s3.heap.objs.size) { s3 with heap := pushCells (s3.heap.push { cls := .type "dict", data := .dict #[] }) scope.names }
  have hxe := hx (cellsFrom (s3.heap.objs.size + 1) scope.names (cloFrom X.env.cells scope.names [])) s3.heap.objs.size
  have kce : (compEnvC scope (cellsFrom (s3.heap.objs.size + 1) scope.names (cloFrom X.env.cells scope.names [])) s3.heap.objs.size X.env).scope.kind = .function := ok.kind
  generalize hce : compEnvC scope (cellsFrom (s3.heap.objs.size + 1) scope.names (cloFrom X.env.cells scope.names [])) s3.heap.objs.size X.env = ce at hxe kce ⊢
  have cL : ce.locals = s3.heap.objs.size := by subst hce; rfl
  have h3 : s3.heap = s1.heap.push { cls := .type "list", data := .seq ([] : List Value).toArray } := by rw [← hs3]
  have g3 : s3.gens = s1.gens := by rw [← hs3]
  have o3 : s3.os = s1.os := by rw [← hs3]
  have szC : s3.heap.objs.size = D + 1 := by rw [h3, Heap.size_push, hD]
  generalize hC : s3.heap.objs.size = C at cL szC ⊢
  have k3 : ∀ b o, s1.heap.get? b = some o → s3.heap.get? b = some o := fun b o e => by rw [h3]; exact Heap.get?_push_of_some _ e
  have k4 : ∀ b o, s3.heap.get? b = some o → (pushCells (s3.heap.push { cls := .type "dict", data := .dict #[] }) scope.names).get? b = some o := fun b o e => pushCells_keeps _ _ _ _ (Heap.get?_push_of_some _ e)
  have eC : (pushCells (s3.heap.push { cls := .type "dict", data := .dict #[] }) scope.names).get? C = some { cls := .type "dict", data := .dict #[] } := by
    rw [← hC]
    exact pushCells_keeps _ _ _ _ (Heap.get?_push_size _ rfl)
  have eD3 : s3.heap.get? D = some { cls := .type "list", data := .seq ([] : List Value).toArray } := by
    rw [h3, ← hD]
    exact Heap.get?_push_size _ rfl
  have eD := k4 _ _ eD3
  have kp4 : ∀ b o, s1.heap.get? b = some o → (pushCells (s3.heap.push { cls := .type "dict", data := .dict #[] }) scope.names).get? b = some o := fun b o e => k4 b o (k3 b o e)
  have aD : a < D := by rw [← hD]; exact ha2
  have stat : cStatics < D := by
    obtain ⟨mc, hns, _⟩ := id lim
    rw [← hD]
    exact hns.lt
  have scD : sc.heap.objs.size ≤ D := by rw [← hD]; exact Nat.le_trans ha1 (Nat.le_of_lt ha2)
  have DC : D < C := by rw [szC]; exact Nat.lt_succ_self _
  have aC : a < C := Nat.lt_trans aD DC
  have tC : cStatics < C := Nat.lt_trans stat DC
  generalize hs4 : ({ s3 with heap := pushCells (s3.heap.push { cls := .type "dict", data := .dict #[] }) scope.names } : Shared) = s4
  have h4 : s4.heap = pushCells (s3.heap.push { cls := .type "dict", data := .dict #[] }) scope.names := by rw [← hs4]
  have g4 : s4.gens = s1.gens := by rw [← hs4]; exact g3
  have o4 : s4.os = sc.os := by rw [← hs4]; exact o3.trans os
  rw [← h4] at eC eD kp4
  have ns4 : s4.heap.Ns C (fun _ => none) := ⟨_, _, _, eC, rfl, (fun e he => by simp at he), fun _ => rfl⟩
  have start : Turns X.prog X.w X.A X.stack H1 sc C D a g xs xs.length s4 := by
    refine ⟨0, [], _, Nat.zero_add _, hgen.keeps kp4, lim.keeps kp4, ⟨.fresh c, by rw [g4]; exact hfresh, rfl, ?_⟩, ⟨_, eD⟩, .nil, ns4⟩
    refine seg X.A.in1 C D (s4.setGen g .running) hr.in1 I1.ok.frames (by rw [hD, szC]; exact Nat.le_succ _) (Nat.le_of_eq hD) (fun b o e => kp4 b o e) ⟨_, eC, fun v z => by cases z⟩ ⟨_, eD, fun v z => by cases z⟩ o4 (allBare_setGen (by rw [g4]; exact ba) rfl)
  have loop : codeAny (model X.prog X.w) X.A (.compLoop (.ListComp (.Name x q) [⟨.Name x p, iter, [], 0⟩] scope pos) 0 (.ref a) (.ref D) ce) (compPost (model X.prog X.w) X.A X.xe none (EP X pins σ Q) (.ref D) C) s4 := by
    refine comp_gen (I1.ok.hd hc) hr.depth cL kce hxe (by rw [kce]; rfl) hdb (Nat.ne_of_gt DC) (Nat.ne_of_gt aC) (Nat.ne_of_gt aD) (Nat.ne_of_gt tC) (Nat.ne_of_gt stat) hsz (fun s' us m os' ba' un hok nC nD hl rv hns => ?_) xs.length start
    obtain ⟨kk, hl⟩ := hl
    have rv' : Vals xs us.toArray.toList := rv
    have I5 : Inv X pins σ (upd H1 D (.lst xs)) s' := I1.drained (ex := []) scD hsz hl rv' .nil os' ba' un hok nD
    have fC : FpOk X pins (upd H1 D (.lst xs)) C := I1.fpOk (Nat.le_trans scD (Nat.le_of_lt DC)) (by rw [upd_ne (Nat.ne_of_gt DC)]; exact nC)
    obtain ⟨f0, f1, f2, f3, f4, f5⟩ := fC
    exact ⟨m, hns, fun h'' sb => ⟨.ref D, _, I5.turned (t' := s'.toks) (fun b o hb e => (sb.2 b hb).trans e) f0 f1 f3 f4 f5, rfl, hQ D nD⟩⟩
  exact codeAny_compStart_list loop (wpAny_pyIter_gen (hgen.keeps kp4) loop)
end
end GenFor
end

-- L5w
section
set_option Elab.async false
set_option linter.all false
set_option maxRecDepth 100000
set_option exponentiation.threshold 10000
namespace R5
open PySem L2 OwnOps OwnNe G1 StX SupX GenFor
/-! making kinds, as the callers read it -/
abbrev saPath (K : PySem.W.Frag) (CN CK DP gK : Addr) : SpA := fun vs kv H Q E => ∃ a b rest, vs = a :: b :: rest ∧ kv = [] ∧ rest.length ≤ sizeLine ∧ ∀ p, H p = none → spPathB K CN CK (fun C => SupAt K C DP "__init__" gK) (a :: b :: [] ++ [V.ref p]) (upd H p (.tup rest)) Q E
theorem made_same {H H' : Hp} {q dx C p : Addr} {o : HO} (hq : H q = none) (hd : H dx = none) (ne : dx ≠ q) (hp : (upd (upd H dx (.own q)) q (.ins C dx [])) p = none) (sx : SameX q (upd (upd (upd H dx (.own q)) q (.ins C dx [])) p o) H') : Same H H' := fun b u e => by
  refine sx b u (ne_of_none e hq) ?_
  have h1 : (upd (upd H dx (.own q)) q (.ins C dx [])) b = some u := by
    rw [upd_ne (ne_of_none e hq), upd_ne (ne_of_none e hd)]
    exact e
  rw [upd_ne (ne_of_none h1 hp)]
  exact h1
theorem made_at {H : Hp} {q dx C p : Addr} {o : HO} (hp : (upd (upd H dx (.own q)) q (.ins C dx [])) p = none) : (upd (upd (upd H dx (.own q)) q (.ins C dx [])) p o) q = some (.ins C dx []) := by
  have h1 : (upd (upd H dx (.own q)) q (.ins C dx [])) q = some (.ins C dx []) := upd_same
  rw [upd_ne (ne_of_none h1 hp)]
  exact h1
section
variable {K : PySem.W.Frag} {H : Hp} {Q : VK} {E : XK} {CN CK DP gK C : Addr} {d : Bool} {u : Value} {x : Str} {cs : List Str}
theorem mk_path {q dx : Addr} (hq : H q = none) (hd : H dx = none) (ne : dx ≠ q) (kc : KCls K C) (so : SupAt K C DP "__init__" gK) (con : Con K C "DIRECTED" (.bl d) u) (wx : wd x = true) (n3 : cs.length ≤ 3) (dif : difV (.str "a" :: .str "b" :: cs.map V.str) = true) (c12 : ∀ y ∈ cs, y.length ≤ 12)
    (k : ∀ H', Same H H' → PathI H' q C dx x cs d [] (pathT d x cs none none) → Q .non H') :
    saPath K CN CK DP gK (.ref q :: .str x :: cs.map V.str) [] (upd (upd H dx (.own q)) q (.ins C dx [])) Q E := by
  have line : 1000 ≤ sizeLine := by decide
  have x12 : x.length ≤ 12 := by
    unfold wd at wx
    simp only [Bool.and_eq_true, decide_eq_true_eq] at wx
    exact wx.1.1.1.1.2
  refine ⟨_, _, _, rfl, rfl, by rw [List.length_map]; omega, fun p hp => ⟨q, dx, C, p, .str x, cs.map V.str, d, u, rfl, made_at hp, upd_same, kc, so, con, .str x, by show x.length ≤ 1000; omega, by rw [List.length_map]; omega, fun y hy => ?_, .inr (.inr ⟨x, cs, rfl, rfl, wx, ?_, c12, fun H' sx pi => k H' (made_same hq hd ne hp sx) pi⟩)⟩⟩
  · obtain ⟨z, hz, rfl⟩ := List.mem_map.mp hy
    exact ⟨.str _, Nat.le_trans (c12 z hz) (by decide)⟩
  · rw [dif, List.length_map, decide_eq_false (show ¬ 3 < cs.length by omega)]
    rfl
abbrev saJoi (K : PySem.W.Frag) (D CK DP DJ gK gP : Addr) : SpA := fun vs kv H Q E => ∃ a b rest, vs = a :: b :: rest ∧ okJ kv ∧ rest.length ≤ sizeLine ∧ ∀ p, H p = none → spJoiB K D CK DP DJ gK gP (a :: b :: gJ kv ++ [V.ref p]) (upd H p (.tup rest)) Q E
theorem made_up {q dx p : Addr} {o : HO} (hq : H q = none) (hd : H dx = none) (hp : (upd (upd H dx (.own q)) q (.ins C dx [])) p = none) : Same H (upd (upd (upd H dx (.own q)) q (.ins C dx [])) p o) := fun b u e => by
  have h1 : (upd (upd H dx (.own q)) q (.ins C dx [])) b = some u := by
    rw [upd_ne (ne_of_none e hq), upd_ne (ne_of_none e hd)]
    exact e
  rw [upd_ne (ne_of_none h1 hp)]
  exact h1
theorem gJ_two (kv : List (Str × V)) (r s : V) (h : kv = [(("row" : Str), r), (("side" : Str), s)] ∨ kv = [(("side" : Str), s), (("row" : Str), r)]) : gJ kv = [r, s] := by
  rcases h with rfl | rfl <;> rfl
theorem mk_joi {q dx : Addr} (hq : H q = none) (hd : H dx = none) (ne : dx ≠ q) {D DJ gP : Addr} {r s : V} {a b : Option Bool} {kv : List (Str × V)} (hkv : kv = [(("row" : Str), r), (("side" : Str), s)] ∨ kv = [(("side" : Str), s), (("row" : Str), r)])
    (kc : KCls K C) (so : SupAt K C DP "__init__" gK) (soJ : SupAt K C DJ "__init__" gP) (con : Con K C "DIRECTED" (.bl d) u) (wx : wd x = true) (n3 : cs.length ≤ 3) (dif : difV (.str "a" :: .str "b" :: cs.map V.str) = true) (c12 : ∀ y ∈ cs, y.length ≤ 12)
    (ra : RVal D H r a) (rb : RVal D H s b)
    (k : ∀ H' rq a' b', Same H H' → a'.map Prod.fst = a → b'.map Prod.fst = b → PathI H' q C dx x cs d [("_rules", .ref rq)] (pathT d x cs a' b') → Ruls D H' rq a' b' → Q .non H') :
    saJoi K D CK DP DJ gK gP (.ref q :: .str x :: cs.map V.str) kv (upd (upd H dx (.own q)) q (.ins C dx [])) Q E := by
  have line : 1000 ≤ sizeLine := by decide
  refine ⟨_, _, _, rfl, .inl ⟨r, s, hkv⟩, by rw [List.length_map]; omega, fun p hp => ?_⟩
  rw [gJ_two kv r s hkv]
  have up := made_up (C := C) (o := .tup (cs.map V.str)) hq hd hp
  exact ⟨q, dx, C, p, x, cs, r, s, d, u, rfl, made_at hp, upd_same, kc, so, soJ, con, wx, n3, dif, c12, .inl ⟨a, b, ra.same up, rb.same up, fun H' rq a' b' sx e1 e2 pi ru => k H' rq a' b' (made_same hq hd ne hp sx) e1 e2 pi ru⟩⟩
abbrev saPin (K : PySem.W.Frag) (CN CK DI gK sd : Addr) : SpA := fun vs kv H Q E => ∃ a b rest, vs = a :: b :: rest ∧ okP kv ∧ rest.length ≤ sizeLine ∧ ∀ p o, H p = none → o.dict = none → o.cls = .type "tuple" → spPinB K CN CK DI gK (a :: b :: gP sd kv ++ [V.ref p]) (upd H p (.frz o (.tup rest))) Q E
theorem mk_pin {q dx : Addr} (hq : H q = none) (hd : H dx = none) (ne : dx ≠ q) {DI sd ga : Addr} {pins : List Str} {gs : List V} {os : List (Option (List Str))} (kc : KCls K C) (so : SupAt K C DI "__init__" gK) (wx : wd x = true) (n1 : 1 ≤ pins.length) (n6 : pins.length ≤ 6) (dif : difV (pins.map V.str) = true) (c12 : ∀ z ∈ pins, z.length ≤ 12)
    (gr : Grs K H ga gs os) (n10 : gs.length ≤ 10) (n40 : (texts os).length ≤ 40) (ok : grpB os pins = true) (sh : ∀ z ∈ texts os, z.length ≤ 1000)
    (k : ∀ H', Same H H' → PinI K H' q C dx x pins (gsOf pins os) → Q .non H') :
    saPin K CN CK DI gK sd (.ref q :: .str x :: pins.map V.str) [(("swaps" : Str), .ref ga)] (upd (upd H dx (.own q)) q (.ins C dx [])) Q E := by
  have line : 1000 ≤ sizeLine := by decide
  have x12 : x.length ≤ 12 := by
    unfold wd at wx
    simp only [Bool.and_eq_true, decide_eq_true_eq] at wx
    exact wx.1.1.1.1.2
  refine ⟨_, _, _, rfl, .inr ⟨_, rfl⟩, by rw [List.length_map]; omega, fun p o hp od oc => ?_⟩
  have up := made_up (C := C) (o := .frz o (.tup (pins.map V.str))) hq hd hp
  refine ⟨q, dx, C, p, .str x, .ref ga, pins.map V.str, o, rfl, made_at hp, upd_same, od, oc, kc, so, .str x, by show x.length ≤ 1000; omega, by rw [List.length_map]; exact n1, by rw [List.length_map]; exact n6, fun y hy => ?_, .inr (.inr ⟨x, pins, rfl, rfl, wx, dif, c12, .inr ⟨ga, gs, os, rfl, gr.same up, n10, n40, sh, .inr ⟨ok, fun H' sx pi => k H' (made_same hq hd ne hp sx) pi⟩⟩⟩)⟩
  obtain ⟨z, hz, rfl⟩ := List.mem_map.mp hy
  exact ⟨.str _, Nat.le_trans (c12 z hz) (by decide)⟩
end
end R5
end

-- L5y
section
set_option Elab.async false
set_option linter.all false
set_option maxRecDepth 100000
set_option exponentiation.threshold 10000
namespace R5
open PySem L2 OwnOps OwnNe G1 StX SupX GenFor
/-! making kinds that are refused -/
section
variable {K : PySem.W.Frag} {H : Hp} {Q : VK} {E : XK} {CN CK DP DI DJ D gK gP C q dx sd : Addr} {d : Bool} {u : Value} {v : V} {rest : List V}
theorem wd_shr {x : Str} (wx : wd x = true) : x.length ≤ 1000 := by
  unfold wd at wx
  simp only [Bool.and_eq_true, decide_eq_true_eq] at wx
  have := wx.1.1.1.1.2
  omega
theorem pin_name (hq : H q = none) (hd : H dx = none) (ne : dx ≠ q) (kc : KCls K C) (so : SupAt K C DI "__init__" gK) (av : Av H v) (sh : Shr v) (nw : wdV v = false) (n1 : 1 ≤ rest.length) (n6 : rest.length ≤ 6) (its : ∀ y ∈ rest, Av H y ∧ Shr y)
    (k : ∀ e H', Same H H' → H' e = some (xd v) → E (.ref CN) (some e) H') : saPin K CN CK DI gK sd (.ref q :: v :: rest) [] (upd (upd H dx (.own q)) q (.ins C dx [])) Q E := by
  have line : 1000 ≤ sizeLine := by decide
  refine ⟨_, _, _, rfl, .inl rfl, by omega, fun p o hp od oc => ?_⟩
  have up := made_up (C := C) (o := .frz o (.tup rest)) hq hd hp
  exact ⟨q, dx, C, p, v, _, rest, o, rfl, made_at hp, upd_same, od, oc, kc, so, av.same up, sh, n1, n6, fun y hy => ⟨(its y hy).1.same up, (its y hy).2⟩, .inl ⟨nw, fun e H' sx he => k e H' (made_same hq hd ne hp sx) he⟩⟩
theorem pin_pins {x : Str} (hq : H q = none) (hd : H dx = none) (ne : dx ≠ q) (kc : KCls K C) (so : SupAt K C DI "__init__" gK) (wx : wd x = true) (n1 : 1 ≤ rest.length) (n6 : rest.length ≤ 6) (its : ∀ y ∈ rest, Av H y ∧ Shr y) (nd : difV rest = false)
    (k : ∀ e pa H', Same H H' → SqT K H' pa rest → H' e = some (xd (.ref pa)) → E (.ref CK) (some e) H') : saPin K CN CK DI gK sd (.ref q :: .str x :: rest) [] (upd (upd H dx (.own q)) q (.ins C dx [])) Q E := by
  have line : 1000 ≤ sizeLine := by decide
  refine ⟨_, _, _, rfl, .inl rfl, by omega, fun p o hp od oc => ?_⟩
  have up := made_up (C := C) (o := .frz o (.tup rest)) hq hd hp
  have pq : p ≠ q := fun z => by rw [z, upd_same] at hp; cases hp
  exact ⟨q, dx, C, p, .str x, _, rest, o, rfl, made_at hp, upd_same, od, oc, kc, so, .str x, wd_shr wx, n1, n6, fun y hy => ⟨(its y hy).1.same up, (its y hy).2⟩, .inr (.inl ⟨wx, nd, fun e H' sx he => k e p H' (made_same hq hd ne hp sx) (.inl (.inr ⟨o, sx _ _ pq upd_same⟩)) he⟩)⟩
theorem pin_swaps {x : Str} {pins : List Str} {sv : V} (hq : H q = none) (hd : H dx = none) (ne : dx ≠ q) (kc : KCls K C) (so : SupAt K C DI "__init__" gK) (wx : wd x = true) (n1 : 1 ≤ pins.length) (n6 : pins.length ≤ 6) (dif : difV (pins.map V.str) = true) (c12 : ∀ z ∈ pins, z.length ≤ 12)
    (bad : (Av H sv ∧ ∀ a xs, sv = .ref a → H a ≠ some (.tup xs)) ∨ ∃ a gs os, sv = .ref a ∧ Grs K H a gs os ∧ gs.length ≤ 10 ∧ (texts os).length ≤ 40 ∧ (∀ z ∈ texts os, z.length ≤ 1000) ∧ grpB os pins = false)
    (k : ∀ e H', Same H H' → H' e = some (xd sv) → E (.ref CK) (some e) H') : saPin K CN CK DI gK sd (.ref q :: .str x :: pins.map V.str) [(("swaps" : Str), sv)] (upd (upd H dx (.own q)) q (.ins C dx [])) Q E := by
  have line : 1000 ≤ sizeLine := by decide
  refine ⟨_, _, _, rfl, .inr ⟨_, rfl⟩, by rw [List.length_map]; omega, fun p o hp od oc => ?_⟩
  have up := made_up (C := C) (o := .frz o (.tup (pins.map V.str))) hq hd hp
  refine ⟨q, dx, C, p, .str x, sv, pins.map V.str, o, rfl, made_at hp, upd_same, od, oc, kc, so, .str x, wd_shr wx, by rw [List.length_map]; exact n1, by rw [List.length_map]; exact n6, fun y hy => ?_, .inr (.inr ⟨x, pins, rfl, rfl, wx, dif, c12, ?_⟩)⟩
  · obtain ⟨z, hz, rfl⟩ := List.mem_map.mp hy
    exact ⟨.str _, Nat.le_trans (c12 z hz) (by decide)⟩
  · rcases bad with ⟨av, nt⟩ | ⟨a, gs, os, rfl, gr, n10, n40, sh, nb⟩
    · refine .inl ⟨av.same up, fun a xs e h => ?_, fun e H' sx he => k e H' (made_same hq hd ne hp sx) he⟩
      subst e
      cases av with
      | lst e =>
        have := up _ _ e
        rw [h] at this
        cases this
      | tup e => exact nt _ _ rfl e
    · exact .inr ⟨a, gs, os, rfl, gr.same up, n10, n40, sh, .inl ⟨nb, fun e H' sx he => k e H' (made_same hq hd ne hp sx) he⟩⟩
theorem path_name (hq : H q = none) (hd : H dx = none) (ne : dx ≠ q) (kc : KCls K C) (so : SupAt K C DP "__init__" gK) (con : Con K C "DIRECTED" (.bl d) u) (av : Av H v) (sh : Shr v) (nw : wdV v = false) (n6 : rest.length ≤ 6) (its : ∀ y ∈ rest, Av H y ∧ Shr y)
    (k : ∀ e H', Same H H' → H' e = some (xd v) → E (.ref CN) (some e) H') : saPath K CN CK DP gK (.ref q :: v :: rest) [] (upd (upd H dx (.own q)) q (.ins C dx [])) Q E := by
  have line : 1000 ≤ sizeLine := by decide
  refine ⟨_, _, _, rfl, rfl, by omega, fun p hp => ?_⟩
  have up := made_up (C := C) (o := .tup rest) hq hd hp
  exact ⟨q, dx, C, p, v, rest, d, u, rfl, made_at hp, upd_same, kc, so, con, av.same up, sh, n6, fun y hy => ⟨(its y hy).1.same up, (its y hy).2⟩, .inl ⟨nw, fun e H' sx he => k e H' (made_same hq hd ne hp sx) he⟩⟩
theorem path_ctl {x : Str} (hq : H q = none) (hd : H dx = none) (ne : dx ≠ q) (kc : KCls K C) (so : SupAt K C DP "__init__" gK) (con : Con K C "DIRECTED" (.bl d) u) (wx : wd x = true) (n6 : rest.length ≤ 6) (its : ∀ y ∈ rest, Av H y ∧ Shr y)
    (bad : (decide (3 < rest.length) || !difV (.str "a" :: .str "b" :: rest)) = true) (k : ∀ e ca H', Same H H' → H' ca = some (.tup rest) → H' e = some (xd (.ref ca)) → E (.ref CK) (some e) H') : saPath K CN CK DP gK (.ref q :: .str x :: rest) [] (upd (upd H dx (.own q)) q (.ins C dx [])) Q E := by
  have line : 1000 ≤ sizeLine := by decide
  refine ⟨_, _, _, rfl, rfl, by omega, fun p hp => ?_⟩
  have up := made_up (C := C) (o := .tup rest) hq hd hp
  have pq : p ≠ q := fun z => by rw [z, upd_same] at hp; cases hp
  exact ⟨q, dx, C, p, .str x, rest, d, u, rfl, made_at hp, upd_same, kc, so, con, .str x, wd_shr wx, n6, fun y hy => ⟨(its y hy).1.same up, (its y hy).2⟩, .inr (.inl ⟨wx, bad, fun e H' sx he => k e p H' (made_same hq hd ne hp sx) (sx _ _ pq upd_same) he⟩)⟩
theorem joi_row {x : Str} {cs : List Str} {r s : V} (hq : H q = none) (hd : H dx = none) (ne : dx ≠ q) (kc : KCls K C) (so : SupAt K C DP "__init__" gK) (soJ : SupAt K C DJ "__init__" gP) (con : Con K C "DIRECTED" (.bl d) u) (wx : wd x = true) (n3 : cs.length ≤ 3)
    (dif : difV (.str "a" :: .str "b" :: cs.map V.str) = true) (c12 : ∀ y ∈ cs, y.length ≤ 12) (nn : r ≠ .non) (nw : NoWd H r) (k : ∀ e H', Same H H' → H' e = some (xd r) → E (.ref CK) (some e) H') :
    saJoi K D CK DP DJ gK gP (.ref q :: .str x :: cs.map V.str) [(("row" : Str), r), (("side" : Str), s)] (upd (upd H dx (.own q)) q (.ins C dx [])) Q E := by
  have line : 1000 ≤ sizeLine := by decide
  refine ⟨_, _, _, rfl, .inl ⟨r, s, .inl rfl⟩, by rw [List.length_map]; omega, fun p hp => ?_⟩
  rw [gJ_two _ r s (.inl rfl)]
  have up := made_up (C := C) (o := .tup (cs.map V.str)) hq hd hp
  exact ⟨q, dx, C, p, x, cs, r, s, d, u, rfl, made_at hp, upd_same, kc, so, soJ, con, wx, n3, dif, c12, .inr (.inl ⟨nn, ⟨nw.1.same up, nw.2⟩, fun e H' sx he => k e H' (made_same hq hd ne hp sx) he⟩)⟩
theorem joi_side {x : Str} {cs : List Str} {r s : V} {a : Option Bool} (hq : H q = none) (hd : H dx = none) (ne : dx ≠ q) (kc : KCls K C) (so : SupAt K C DP "__init__" gK) (soJ : SupAt K C DJ "__init__" gP) (con : Con K C "DIRECTED" (.bl d) u) (wx : wd x = true) (n3 : cs.length ≤ 3)
    (dif : difV (.str "a" :: .str "b" :: cs.map V.str) = true) (c12 : ∀ y ∈ cs, y.length ≤ 12) (ra : RVal D H r a) (nn : s ≠ .non) (nw : NoWd H s) (k : ∀ e H', Same H H' → H' e = some (xd s) → E (.ref CK) (some e) H') :
    saJoi K D CK DP DJ gK gP (.ref q :: .str x :: cs.map V.str) [(("row" : Str), r), (("side" : Str), s)] (upd (upd H dx (.own q)) q (.ins C dx [])) Q E := by
  have line : 1000 ≤ sizeLine := by decide
  refine ⟨_, _, _, rfl, .inl ⟨r, s, .inl rfl⟩, by rw [List.length_map]; omega, fun p hp => ?_⟩
  rw [gJ_two _ r s (.inl rfl)]
  have up := made_up (C := C) (o := .tup (cs.map V.str)) hq hd hp
  exact ⟨q, dx, C, p, x, cs, r, s, d, u, rfl, made_at hp, upd_same, kc, so, soJ, con, wx, n3, dif, c12, .inr (.inr ⟨a, ra.same up, nn, ⟨nw.1.same up, nw.2⟩, fun e H' sx he => k e H' (made_same hq hd ne hp sx) he⟩)⟩
end
end R5
end

-- L5r
section
set_option Elab.async false
set_option linter.all false
set_option maxRecDepth 100000
set_option exponentiation.threshold 10000
namespace R5
open PySem L2 OwnOps OwnNe G1 StX SupX
/-! is_name, are_names, is_net_map -/
abbrev sNm : Stmt := top 7
abbrev sNms : Stmt := top 9
abbrev sNetM : Stmt := top 10
structure Nums2 (mg : Str → Option Value) : Prop where
  words : ∃ t, mg "NAME_WORDS" = some (.int 64 t)
def nm (x : Str) : Bool := if 47 ∈ x.cps.toList then decide ((Txt.split x "/").length ≤ 64) && (Txt.split x "/").all wd else wd x
def nmV : V → Bool
  | .str x => nm x
  | _ => false
def shB (x : Str) : Bool := decide (x.length ≤ 1000) && decide ((Txt.split x "/").length ≤ 1000) && (Txt.split x "/").all fun y => decide (y.length ≤ 1000)
def ShN : V → Prop
  | .str x => shB x = true
  | _ => True
theorem slash : ("/" : Str) = ⟨#[47]⟩ := by decide +kernel
theorem all_map {α β : Type} (f : α → β) (g : β → Bool) : ∀ l : List α, (l.map f).all g = l.all fun x => g (f x)
  | [] => rfl
  | a :: r => by rw [List.map_cons, List.all_cons, List.all_cons, all_map f g r]
section
variable {P : Program} {w : World} {K : PySem.W.Frag} {mg : Str → Option Value} {base : Heap}
def spName : Sp := fun vs H Q _ => ∃ v, vs = [v] ∧ Av H v ∧ ShN v ∧ ∀ H', Same H H' → Q (.bl (nmV v)) H'
theorem ok_name {f : Addr} {fd : FuncData} (F : Fun K "is_name" "is_name" sNm f fd) (T : Bi mg) (N : Nums2 mg) (GW : Glb P w K mg base "is_word" 1 ["value"] spWord) : FnOk P w K mg base (L2.CX P w) 2 f fd ["value"] spName := by
  obtain ⟨_, _, mW, kW, GW, bW⟩ := GW.ex
  obtain ⟨t64, n64⟩ := N.words
  have sc : FnScope ["value", "words", "word"] ["value"] (defScope sNm) := ⟨rfl, rfl, rfl, by decide +kernel, rfl, by decide +kernel, by decide +kernel⟩
  have hN := sc.nd
  refine F.okX sc (fun vs H Q E h => ?_) (fun cdv A outer s H vs Q E hr h => ?_)
  · obtain ⟨x, rfl, _⟩ := h
    rfl
  · obtain ⟨v, rfl, av, sh, fin⟩ := h
    refine ⟨_, pss_cons (ps_if (pt_not (pt_val (pe_callB call_isi (by rfl) T.isi (by decide +kernel) (pa_cons (pv 0) (pa_cons (pe_bltn (v := .ty "str") (by rfl) T.str (by decide +kernel) rfl) pa_nil))))) (pss_one (ps_ret pe_bl)) pss_nil)
      (pss_cons (ps_if (pt_cmpR op_notIn_sign pe_str (pv 0) (by rfl)) (pss_one (ps_ret (pe_call GW (hr.mono (by decide)) (by rfl) mW kW bW .nil passL (pa_cons (pv 0) pa_nil)))) pss_nil)
      (pss_cons (ps_set (i := 1) hN rfl (Or.inl rfl) (pe_split (pv 0) pe_str))
      (pss_one (ps_ret (pe_and (pe_cmpR op_le (pe_callB call_len_seq (by rfl) T.len PySem.boot_len (pa_cons (pv 1) pa_nil)) (pe_glob (v := .int 64) (by rfl) n64 ⟨_, rfl⟩) (nomark _))
        (pe_one (pe_callB (cr_all rfl) (by rfl) T.all (by decide +kernel) (pa_cons (pe_lc (own := [("word", 2)]) (g := gName 2) (tt := tYes) (te := tCall spWord [] E0 (tCons (tVar 2) tNil)) rfl hN (pi_list (pv 1)) (blkOk_by (N := ["value", "words", "word"]) (sc := defScope sNm) (by decide +kernel)) (fun _ _ _ _ _ => pg_name (i := 2) hN rfl (Or.inl rfl)) (fun _ _ _ _ _ => pts_nil)
          (fun _ _ _ _ _ => pe_call GW (hr.mono (by decide)) (by rfl) mW kW bW .nil passL (pa_cons (pv 2) pa_nil))) pa_nil)))))))), ?_⟩
    cases av with
    | non => exact ⟨_, rfl, _, _, _, _, _, rfl, .ty _, .base .non, kit_ty (r := false) (by decide +kernel), _, rfl, if_pos' rfl (fin _ (Same.refl _))⟩
    | int i => exact ⟨_, rfl, _, _, _, _, _, rfl, .ty _, .base (.int i), kit_ty (r := false) (by decide +kernel), _, rfl, if_pos' rfl (fin _ (Same.refl _))⟩
    | bl b => exact ⟨_, rfl, _, _, _, _, _, rfl, .ty _, .base (.bl b), kit_ty (r := false) (by decide +kernel), _, rfl, if_pos' rfl (fin _ (Same.refl _))⟩
    | lst e => exact ⟨_, rfl, _, _, _, _, _, rfl, .ty _, .base (.lst e), kit_ty (r := false) (by decide +kernel), _, rfl, if_pos' rfl (fin _ (Same.refl _))⟩
    | tup e => exact ⟨_, rfl, _, _, _, _, _, rfl, .ty _, .base (.tup e), kit_ty (r := false) (by decide +kernel), _, rfl, if_pos' rfl (fin _ (Same.refl _))⟩
    | str x =>
    have sh : shB x = true := sh
    unfold shB at sh
    simp only [Bool.and_eq_true, decide_eq_true_eq, List.all_eq_true] at sh
    obtain ⟨⟨x1000, l1000⟩, w1000⟩ := sh
    have line : 1002 ≤ sizeLine := by decide
    refine ⟨_, rfl, _, _, _, _, _, rfl, .ty _, .base (.str _), kit_ty (r := true) (by decide +kernel), _, rfl, if_neg' rfl ?_⟩
    refine ⟨_, rfl, 47, x, by rw [slash], rfl, _, rfl, ?_⟩
    dsimp only
    have fin : ∀ H', Same H H' → Q (.bl (nm x)) H' := fin
    by_cases hs : 47 ∈ x.cps.toList
    · refine if_neg' (by rw [decide_eq_true hs]; rfl) ?_
      unfold nm at fin
      rw [if_pos hs] at fin
      refine ⟨_, rfl, ⟨_, rfl⟩, x, "/", rfl, rfl, by decide +kernel, by omega, fun l nl => ?_⟩
      have sl : Same H (upd H l (.lst ((Txt.split x "/").map V.str))) := same_upd nl
      have hl : (upd H l (.lst ((Txt.split x "/").map V.str))) l = some (.lst ((Txt.split x "/").map V.str)) := upd_same
      generalize upd H l (.lst ((Txt.split x "/").map V.str)) = H1 at sl hl
      generalize Txt.split x "/" = ws at fin l1000 w1000 sl hl
      refine ⟨_, rfl, l, _, rfl, .inl (SqL.of hl), _, _, rfl, rfl, _, rfl, ?_⟩
      dsimp only
      have e64 : decide (((ws.map V.str).length : Int) ≤ 64) = decide (ws.length ≤ 64) := by
        rw [List.length_map]
        exact decide_eq_decide.mpr ⟨fun h => by omega, fun h => by omega⟩
      rw [e64]
      cases hc : decide (ws.length ≤ 64) with
      | false =>
        rw [hc] at fin
        exact if_neg' rfl (fin H1 sl)
      | true =>
      rw [hc] at fin
      refine if_pos' rfl ⟨_, rfl, l, rfl, ⟨_, SqL.of hl⟩, fun D hD => lc_it (walk_list (xs := ws.map V.str) (a := l) (K := K)) (fun i G => Same H1 G ∧ ∃ at_, G D = some (.lst at_) ∧ at_ = ((ws.map V.str).take i).map fun v => V.bl (wdV v)) ⟨same_upd hD, [], upd_same, rfl⟩ (fun i G hi g => g.1.seq (SqL.of hl)) (fun i y G G' hi g yy => ?_) (fun G g => ?_)⟩
      · obtain ⟨rfl, hx⟩ := yy
        obtain ⟨sm, at_, hD2, rfl⟩ := g
        refine ⟨rfl, _, rfl, ?_⟩
        obtain ⟨z, hz, rfl⟩ := List.mem_map.mp (List.mem_of_getElem? hx)
        rw [List.length_map] at hi
        exact ⟨.str z, rfl, .str z, w1000 z hz, _, hD2, by rw [List.length_map, List.length_take]; exact small1000 (by omega), same_put sm hD, _, upd_same, by rw [take_succ_at hx, List.map_append]; rfl⟩
      · obtain ⟨sm, at_, hD2, rfl⟩ := g
        rw [List.take_length] at hD2
        have e0 : (ws.map V.str).map (fun v => V.bl (wdV v)) = (ws.map wd).map V.bl := by rw [List.map_map, List.map_map]; rfl
        rw [e0] at hD2
        have ea : ((ws.map wd).all id) = ws.all wd := by rw [List.all_map]; rfl
        refine ⟨D, ws.map wd, rfl, SqL.of hD2, ?_⟩
        rw [ea]
        exact fin G (sl.trans sm)
    · refine if_pos' (by rw [decide_eq_false hs]; rfl) ?_
      unfold nm at fin
      rw [if_neg hs] at fin
      exact ⟨_, rfl, .str x, rfl, .str x, x1000, fin H (Same.refl _)⟩
def namesB (xs : List V) (n : Int) : Bool := decide ((xs.length : Int) = n) && xs.all nmV
def spNames : Sp := fun vs H Q _ => ∃ a xs n, vs = [.ref a, .int n] ∧ H a = some (.tup xs) ∧ xs.length ≤ 100 ∧ (∀ x ∈ xs, Av H x ∧ ShN x) ∧ ∀ H', Same H H' → Q (.bl (namesB xs n)) H'
theorem ok_names {f : Addr} {fd : FuncData} (F : Fun K "are_names" "are_names" sNms f fd) (T : Bi mg) (GN : Glb P w K mg base "is_name" 2 ["value"] spName) : FnOk P w K mg base (L2.CX P w) 3 f fd ["values", "many"] spNames := by
  obtain ⟨_, _, mW, kW, GW, bW⟩ := GN.ex
  have sc : FnScope ["values", "many", "value"] ["values", "many"] (defScope sNms) := ⟨rfl, rfl, rfl, by decide +kernel, rfl, by decide +kernel, by decide +kernel⟩
  have hN := sc.nd
  refine F.okX sc (fun vs H Q E h => ?_) (fun cdv A outer s H vs Q E hr h => ?_)
  · obtain ⟨a, xs, n, rfl, _⟩ := h
    rfl
  · obtain ⟨a, xs, n, rfl, ha, few, av, fin⟩ := h
    refine ⟨_, pss_cons (ps_if (PW.pt (pw_or (pt_not (pt_val (pe_callB call_isiT (by rfl) T.isi (by decide +kernel) (pa_cons (pv 0) (pa_cons (pe_tup (pa_cons (pe_bltn (v := .ty "list") (by rfl) T.list (by decide +kernel) rfl) (pa_cons (pe_bltn (v := .ty "tuple") (by rfl) T.tuple (by decide +kernel) rfl) pa_nil))) pa_nil)))))
        (pw_or1 (pt_cmpR op_ne (pe_callB call_len_seq (by rfl) T.len PySem.boot_len (pa_cons (pv 0) pa_nil)) (pv 1) (nomark _))))) (pss_one (ps_ret pe_bl)) pss_nil)
      (pss_one (ps_ret (pe_callB (cr_all rfl) (by rfl) T.all (by decide +kernel) (pa_cons (pe_lc (own := [("value", 2)]) (g := gName 2) (tt := tYes) (te := tCall spName [] E0 (tCons (tVar 2) tNil)) rfl hN (pi_tup (pv 0)) (blkOk_by (N := ["values", "many", "value"]) (sc := defScope sNms) (by decide +kernel)) (fun _ _ _ _ _ => pg_name (i := 2) hN rfl (Or.inl rfl)) (fun _ _ _ _ _ => pts_nil)
          (fun _ _ _ _ _ => pe_call GW (hr.mono (by decide)) (by rfl) mW kW bW .nil passL (pa_cons (pv 2) pa_nil))) pa_nil)))), ?_⟩
    refine ⟨_, rfl, (by show 2 ≤ sizeLine; decide), fun tp ht => ?_⟩
    have s1 : Same H (upd H tp (.tup [.ty "list", .ty "tuple"])) := same_upd ht
    have h1 : (upd H tp (.tup [.ty "list", .ty "tuple"])) tp = some (.tup [.ty "list", .ty "tuple"]) := upd_same
    generalize upd H tp (.tup [.ty "list", .ty "tuple"]) = H1 at s1 h1 ⊢
    have ha1 := s1 _ _ ha
    refine ⟨.ref a, tp, [.ty "list", .ty "tuple"], _, _, true, rfl, h1, .cons (.ty _) (.cons (.ty _) .nil), .base (.tup ha1), kitAny_cons (b := false) (kit_ty (by decide +kernel)) (fun _ => kitAny_cons (b := true) (kit_ty (by decide +kernel)) (fun h => nomatch h) fun _ => rfl) (fun h => nomatch h), _, rfl, ?_⟩
    refine if_neg' rfl ⟨_, rfl, a, xs, rfl, .inr (.inl (.inl ha1)), _, rfl, rfl, _, rfl, ?_⟩
    dsimp only
    have fin : ∀ H', Same H1 H' → Q (.bl (namesB xs n)) H' := fun H' s => fin H' (s1.trans s)
    unfold namesB at fin
    by_cases hl : (xs.length : Int) = n
    · rw [decide_eq_true hl, Bool.true_and] at fin
      refine if_neg' (by rw [hl, decide_eq_true rfl]; rfl) ?_
      refine ⟨_, rfl, a, rfl, ⟨xs, .inl (.inl ha1)⟩, fun D hD => lc_it (walk_tup (xs := xs) (a := a) (K := K)) (fun i G => Same H1 G ∧ ∃ at_, G D = some (.lst at_) ∧ at_ = (xs.take i).map fun v => V.bl (nmV v)) ⟨same_upd hD, [], upd_same, rfl⟩ (fun i G hi g => .inl (.inl (g.1 _ _ ha1))) (fun i x G G' hi g y => ?_) (fun G g => ?_)⟩
      · obtain ⟨rfl, hx⟩ := y
        obtain ⟨sm, at_, hD2, rfl⟩ := g
        refine ⟨rfl, _, rfl, ?_⟩
        obtain ⟨ax, sx⟩ := av x (List.mem_of_getElem? hx)
        refine ⟨x, rfl, ax.same (s1.trans sm), sx, fun G2 s2 => ⟨_, s2 _ _ hD2, by rw [List.length_map, List.length_take]; exact small1000 (by omega), same_put (sm.trans s2) hD, _, upd_same, by rw [take_succ_at hx, List.map_append]; rfl⟩⟩
      · obtain ⟨sm, at_, hD2, rfl⟩ := g
        rw [List.take_length] at hD2
        have e0 : xs.map (fun v => V.bl (nmV v)) = (xs.map nmV).map V.bl := by rw [List.map_map]; rfl
        rw [e0] at hD2
        have ea : ((xs.map nmV).all id) = xs.all nmV := by rw [List.all_map]; rfl
        refine ⟨D, xs.map nmV, rfl, SqL.of hD2, ?_⟩
        rw [ea]
        exact fin G sm
    · rw [decide_eq_false hl, Bool.false_and] at fin
      exact if_pos' (by rw [decide_eq_false (fun z => hl (V.int.inj z))]; rfl) (fin H1 (Same.refl _))
def spNetM : Sp := fun vs H Q _ => ∃ v, vs = [v] ∧ ((Av H v ∧ Q (.bl false) H) ∨ (∃ d kvs, v = .ref d ∧ H d = some (.dK kvs) ∧ kvs.length ≤ 100 ∧ (∀ e ∈ kvs, Av H e.2 ∧ ShN e.2) ∧ ∀ H', Same H H' → Q (.bl (kvs.all fun e => nmV e.2)) H'))
theorem Av.lock {H : Hp} {v : V} {d : Addr} {kvs : List (Key × V)} {u : HO} (h : Av H v) (hd : H d = some (.dK kvs)) : Av (upd H d u) v := by
  have ne : ∀ {a : Addr} {o : HO}, H a = some o → (∀ k, o ≠ .dK k) → (upd H d u) a = some o := fun {a o} e n => by
    rw [upd_ne (fun z => by rw [z, hd] at e; exact n _ (Option.some.inj e).symm)]
    exact e
  cases h with
  | str x => exact .str x
  | non => exact .non
  | int i => exact .int i
  | bl b => exact .bl b
  | lst e => exact .lst (ne e fun k z => by cases z)
  | tup e => exact .tup (ne e fun k z => by cases z)
theorem ok_netm {f : Addr} {fd : FuncData} (F : Fun K "is_net_map" "is_net_map" sNetM f fd) (T : Bi mg) (GN : Glb P w K mg base "is_name" 2 ["value"] spName) : FnOk P w K mg base (L2.CX P w) 3 f fd ["nets"] spNetM := by
  obtain ⟨_, _, mW, kW, GW, bW⟩ := GN.ex
  have sc : FnScope ["nets", "net"] ["nets"] (defScope sNetM) := ⟨rfl, rfl, rfl, by decide +kernel, rfl, by decide +kernel, by decide +kernel⟩
  have hN := sc.nd
  refine F.okX sc (fun vs H Q E h => ?_) (fun cdv A outer s H vs Q E hr h => ?_)
  · obtain ⟨x, rfl, _⟩ := h
    rfl
  · obtain ⟨v, rfl, ⟨av, fin⟩ | ⟨d, kvs, rfl, hd, few, av, fin⟩⟩ := h
    · refine ⟨_, pss_one (ps_ret (pe_and (pe_callB call_isi (by rfl) T.isi (by decide +kernel) (pa_cons (pv 0) (pa_cons (pe_bltn (v := .ty "dict") (by rfl) T.dict (by decide +kernel) rfl) pa_nil)))
        (pe_one (pe_callB (cr_all rfl) (by rfl) T.all (by decide +kernel) (pa_cons (pe_lc (own := [("net", 1)]) (g := gName 1) (tt := tYes) (te := tCall spName [] E0 (tCons (tVar 1) tNil)) rfl hN (pi_values (pv 0)) (blkOk_by (N := ["nets", "net"]) (sc := defScope sNetM) (by decide +kernel)) (fun _ _ _ _ _ => pg_name (i := 1) hN rfl (Or.inl rfl)) (fun _ _ _ _ _ => pts_nil)
          (fun _ _ _ _ _ => pe_call GW (hr.mono (by decide)) (by rfl) mW kW bW .nil passL (pa_cons (pv 1) pa_nil))) pa_nil))))), ?_⟩
      cases av with
      | non => exact ⟨_, rfl, _, _, _, _, _, rfl, .ty _, .base .non, kit_ty (r := false) (by decide +kernel), _, rfl, if_neg' rfl fin⟩
      | int i => exact ⟨_, rfl, _, _, _, _, _, rfl, .ty _, .base (.int i), kit_ty (r := false) (by decide +kernel), _, rfl, if_neg' rfl fin⟩
      | bl b => exact ⟨_, rfl, _, _, _, _, _, rfl, .ty _, .base (.bl b), kit_ty (r := false) (by decide +kernel), _, rfl, if_neg' rfl fin⟩
      | lst e => exact ⟨_, rfl, _, _, _, _, _, rfl, .ty _, .base (.lst e), kit_ty (r := false) (by decide +kernel), _, rfl, if_neg' rfl fin⟩
      | tup e => exact ⟨_, rfl, _, _, _, _, _, rfl, .ty _, .base (.tup e), kit_ty (r := false) (by decide +kernel), _, rfl, if_neg' rfl fin⟩
      | str x => exact ⟨_, rfl, _, _, _, _, _, rfl, .ty _, .base (.str x), kit_ty (r := false) (by decide +kernel), _, rfl, if_neg' rfl fin⟩
    · refine ⟨_, pss_one (ps_ret (pe_lock (pe_and (pe_callB call_isi (by rfl) T.isi (by decide +kernel) (pa_cons (pv 0) (pa_cons (pe_bltn (v := .ty "dict") (by rfl) T.dict (by decide +kernel) rfl) pa_nil)))
        (pe_one (pe_callB (cr_all rfl) (by rfl) T.all (by decide +kernel) (pa_cons (pe_lc (own := [("net", 1)]) (g := gName 1) (tt := tYes) (te := tCall spName [] E0 (tCons (tVar 1) tNil)) rfl hN (pi_values (pv 0)) (blkOk_by (N := ["nets", "net"]) (sc := defScope sNetM) (by decide +kernel)) (fun _ _ _ _ _ => pg_name (i := 1) hN rfl (Or.inl rfl)) (fun _ _ _ _ _ => pts_nil)
          (fun _ _ _ _ _ => pe_call GW (hr.mono (by decide)) (by rfl) mW kW bW .nil passL (pa_cons (pv 1) pa_nil))) pa_nil)))))), ?_⟩
      refine ⟨d, .dK kvs, hd, True.intro, fun od => ?_⟩
      have hd1 : (upd H d (.frz od (.dK kvs))) d = some (.frz od (.dK kvs)) := upd_same
      have av1 : ∀ e ∈ kvs, Av (upd H d (.frz od (.dK kvs))) e.2 := fun e he => (av e he).1.lock hd
      have back : ∀ G, Same (upd H d (.frz od (.dK kvs))) G → Same H (upd G d (.dK kvs)) := fun G s b u e => by
        by_cases hb : b = d
        · rw [hb] at e ⊢
          rw [upd_same, ← e, hd]
        · rw [upd_ne hb]
          exact s _ _ (by rw [upd_ne hb]; exact e)
      generalize upd H d (.frz od (.dK kvs)) = H1 at hd1 av1 back ⊢
      refine ⟨_, rfl, _, _, _, _, _, rfl, .ty _, .fDict hd1, kit_ty (r := true) (by decide +kernel), _, rfl, if_pos' rfl ?_⟩
      refine ⟨_, rfl, d, od, kvs, rfl, hd1, fun D hD => lc_it (walk_values (kvs := kvs)) (fun i G => Same H1 G ∧ ∃ at_, G D = some (.lst at_) ∧ at_ = (kvs.take i).map fun e => V.bl (nmV e.2)) ⟨same_upd hD, [], upd_same, rfl⟩ (fun i G hi g => g.1 _ _ hd1) (fun i x G G' hi g y => ?_) (fun G g => ?_)⟩
      · obtain ⟨rfl, k, hx⟩ := y
        obtain ⟨sm, at_, hD2, rfl⟩ := g
        refine ⟨rfl, _, rfl, ?_⟩
        have hm := List.mem_of_getElem? hx
        exact ⟨x, rfl, (av1 _ hm).same sm, (av _ hm).2, fun G2 s2 => ⟨_, s2 _ _ hD2, by rw [List.length_map, List.length_take]; exact small1000 (by omega), same_put (sm.trans s2) hD, _, upd_same, by rw [take_succ_at hx, List.map_append]; rfl⟩⟩
      · obtain ⟨sm, at_, hD2, rfl⟩ := g
        rw [List.take_length] at hD2
        have e0 : kvs.map (fun e => V.bl (nmV e.2)) = (kvs.map fun e => nmV e.2).map V.bl := by rw [List.map_map]; rfl
        rw [e0] at hD2
        have ea : ((kvs.map fun e => nmV e.2).all id) = kvs.all fun e => nmV e.2 := by rw [List.all_map]; rfl
        refine ⟨D, kvs.map fun e => nmV e.2, rfl, SqL.of hD2, ?_⟩
        rw [ea]
        exact ⟨sm _ _ hd1, fin _ (back G sm)⟩
end
end R5
end

-- GenS1
section
set_option Elab.async false
set_option linter.all false
set_option maxRecDepth 100000
set_option maxHeartbeats 1000000
/-! a generator def whose body is one for that hands an expression out; the heap may grow between two items. -/
namespace GenS
open PySem PySem.Spec PyProof.Rows L2 GenW GenFor
/-- the consumer takes v into its list at D, and turns its names at C -/
structure Took (C D : Addr) (v : Value) (s s' : Shared) : Prop where
  woke : Woke C D s s'
  list : ∀ us : Array Value, s.heap.PlainList D us → s'.heap.PlainList D (us.push v)
def YS (sB : Shared) (C D a : Addr) (g : Nat) : Protocol := fun _ s₀ v s1 kap =>
  s1.os = sB.os ∧ AllBare s1.gens ∧ s1.heap.NoLimit ∧ s1.heap.IsGen a g ∧ s1.heap.get? C = s₀.heap.get? C ∧ s1.heap.get? D = s₀.heap.get? D ∧ ∀ s', Took C D v s1 s' → kap (.send .none) s'
def FS (P : Program) (w : World) (outer : List Env) (H : Hp) (sB : Shared) (C D : Addr) (cont : List V → Hp → Prop) : Nat → Shared → Shared → Prop := fun _ s₀ s1 =>
  s1.os = sB.os ∧ AllBare s1.gens ∧ s1.heap.get? C = s₀.heap.get? C ∧ s1.heap.get? D = s₀.heap.get? D ∧ ∃ G ys us, Un (frs outer) [] H G sB.heap s1.heap ∧ HOk P w G s1.heap ∧ G C = none ∧ G D = none ∧ s1.heap.PlainList D us ∧ Vals ys us.toList ∧ cont ys G
def RS (P : Program) (w : World) (outer : List Env) (H : Hp) (sB : Shared) (C D : Addr) (cont : List V → Hp → Prop) : GenEnd := fun n s₀ r s1 =>
  ((r = .ok (.ret .none) ∨ r = .ok .next) ∧ FS P w outer H sB C D cont n s₀ s1) ∨ ∃ e, r = .error e ∧ False
/-- what the loop keeps -/
structure LoopS (te : TE) (σ0 : L2.St) (j n : Nat) (cont : List V → Hp → Prop) (J : It) (GI : Nat → Hp → List V → Prop) : Prop where
  step : ∀ i G ys, i < n → GI i G ys → J.go i G ∧ ∀ x G', J.yld i G x G' → te (σ0.set j (some x)) G' fun y G2 => GI (i + 1) G2 (ys ++ [y])
  last : ∀ G ys, GI n G ys → J.stop n G ∧ cont ys G
section
variable {X : Cx} {A : Around} {R : GenEnd} {C D a it : Addr} {g j n : Nat} {sB : Shared} {fs : List Frame} {tgt e : Expr} {yp ep : Pos} {fp : List Addr} {tn : Nat → Heap → Prop} {te : TE} {σ0 : L2.St} {cont : List V → Hp → Prop} {J : It} {GI : Nat → Hp → List V → Prop}
theorem seg_loopS (hc : X.calm = true) (hxe : ∀ x s', X.xe x s' → False) (F : Far X C D) (hg : PG X tgt (gName j)) (he : PE X e te) (T : Turn X.prog X.w X.K tgt J fp it tn) (L : LoopS te σ0 j n cont J GI)
    (hgen : ∀ (pins : List (Addr × Obj)) (σ : L2.St) (H : Hp) (s : Shared), Inv X pins σ H s → s.heap.IsGen a g) (hos : ∀ (pins : List (Addr × Obj)) (σ : L2.St) (H : Hp) (s : Shared), Inv X pins σ H s → s.os = sB.os)
    (hov : A.over (.forLoop tgt (.ref it) [.Expr (.Yield (some e) yp) ep] [] X.env) fs = X.A) (hsp : splitAtGen fs = none) (hgu : fs.any Frame.guarded = false) (hco : X.env.scope.isCoroutine = false) (hin : interactive X.env = false)
    (hend : ∀ (σ : L2.St) (G : Hp) (ys : List V) (us : Array Value) (s₀ s1 : Shared), Two X C D σ G s₀ s1 → s₀.heap.PlainList D us → Vals ys us.toList → cont ys G → Seg (model X.prog X.w) A R (YS sB C D a g) 0 s₀ (.block [] X.env) (leafOf (.ok .next)) fs s1) :
    ∀ (r i : Nat) (o : Option V) (H : Hp) (ys : List V) (us : Array Value) (s₀ s : Shared), i + r = n → (∀ b ∈ fp, ∀ o1 o2, FpOk X [(C, o1), (D, o2)] H b) → GI i H ys → s₀.heap.PlainList D us → Vals ys us.toList → Two X C D (σ0.set j o) H s₀ s → tn i s.heap →
      Seg (model X.prog X.w) A R (YS sB C D a g) r s₀ (.forLoop tgt (.ref it) [.Expr (.Yield (some e) yp) ep] [] X.env) ((model X.prog X.w).den (.forLoop tgt (.ref it) [.Expr (.Yield (some e) yp) ep] [] X.env)) fs s := by
  intro r
  induction r with
  | zero =>
    intro i o H ys us s₀ s hi hf hG hl rv hT ht
    have ei : i = n := by omega
    subst ei
    refine seg_forLoop ?_
    rw [hov]
    obtain ⟨oC, oD, e1, e2, I⟩ := hT
    obtain ⟨hs, hcont⟩ := L.last _ _ hG
    refine wpAny_mono (T.done X rfl rfl rfl hc i [(C, oC), (D, oD)] s _ H (fun _ _ => False) I (fun b hb => hf b hb _ _) ht hs) (fun r s1 ⟨er, I1⟩ => ?_) fun _ _ h => h.elim
    subst er
    refine seg_again rfl ?_
    exact hend _ H ys us s₀ s1 ⟨oC, oD, e1, e2, I1⟩ hl rv hcont
  | succ r ih =>
    intro i o H ys us s₀ s hi hf hG hl rv hT ht
    refine seg_forLoop ?_
    rw [hov]
    obtain ⟨oC, oD, e1, e2, I⟩ := hT
    have lt : i < n := by omega
    obtain ⟨hgo, hstep⟩ := L.step i H ys lt hG
    refine wpAny_mono (T.item X rfl rfl rfl hc i [(C, oC), (D, oD)] s _ H (fun _ _ => False) I (fun b hb => hf b hb _ _) ht hgo) (fun r1 s1 ⟨u, er, h1⟩ => ?_) fun _ _ h => h.elim
    subst er
    refine wpAny_mono h1 (fun _ s2 h2 => ?_) fun _ _ h => h.elim
    obtain ⟨x, H', I2, ru, hy, ht2, hn2⟩ := h2
    have I2' := I2.pinned (fun b hb => ⟨hn2 b hb, (hf b hb oC oD).2⟩) (T.obj _ _ ht2)
    refine wpAny_mono (hg.run _ s2 _ H' x u (fun σ' H2 => σ' = (σ0.set j o).set j (some x) ∧ H2 = H') I2' ru ⟨rfl, rfl⟩) (fun _ s3 h3 => ?_) fun x s' h => (hxe x s' h).elim
    obtain ⟨σ3, H3, I3, eσ, eH3⟩ := h3
    rw [List.set_set] at eσ
    subst eσ eH3
    refine seg_execs_cons ?_
    refine seg_Expr_Yield hsp rfl hgu ?_ hco hin
    rw [hov]
    refine wpAny_mono (he.run _ s3 _ H3 _ I3 (hstep x _ hy)) (fun v s4 h4 => ?_) fun x s' h => (hxe x s' h).elim
    obtain ⟨y, H4, I4, rv4, hG4⟩ := h4
    intro kap hk
    have I5 := I4.unpinned
    have pC := I5.pin (C, oC) (List.mem_append_right _ List.mem_cons_self)
    have pD := I5.pin (D, oD) (List.mem_append_right _ (List.mem_cons_of_mem _ List.mem_cons_self))
    have eD : s4.heap.get? D = s₀.heap.get? D := pD.1.trans e2.symm
    refine ⟨hos _ _ _ _ I5, I5.bare, I5.nolimit, hgen _ _ _ _ I5, pC.1.trans e1.symm, eD, fun s' z => hk .none s' ?_⟩
    refine seg_execs_nil ?_
    refine seg_again rfl ?_
    have pinned : ∀ b ∈ fp, ∀ ob, s2.heap.get? b = some ob → s4.heap.get? b = some ob ∧ H4 b = none := fun b hb ob e =>
      let q := I4.pin (b, ob) (List.mem_append_right _ (List.mem_append_right _ (mem_pinsAt hb e)))
      ⟨q.1, q.2.1⟩
    have hl4 : s4.heap.PlainList D us := by
      obtain ⟨k, e⟩ := hl
      exact ⟨k, eD.trans e⟩
    refine ih (i + 1) (some x) H4 (ys ++ [y]) (us.push v) s' s' (by omega) (fun b hb o1 o2 => ?_) hG4 (z.list us hl4) ?_ ((show Two X C D _ H4 s₀ s4 from ⟨oC, oD, e1, e2, I5⟩).woken F z.woke) ?_
    · obtain ⟨ob, eo, _⟩ := T.obj _ _ ht2 b hb
      exact ⟨(pinned b hb ob eo).2, (hf b hb o1 o2).2⟩
    · rw [Array.toList_push]
      exact rv.append (.cons rv4 .nil)
    · refine T.keep _ _ _ ht2 fun b hb o e => ?_
      obtain ⟨n1, n2⟩ := fp_ne (hf b hb oC oD)
      exact z.woke.keep b o n1 n2 (pinned b hb o e).1
end
end GenS
end

-- GenS2
section
set_option Elab.async false
set_option linter.all false
set_option maxRecDepth 100000
set_option maxHeartbeats 1000000
/-! what a call of such a generator def gives. -/
namespace GenS
open PySem PySem.Spec PyProof.Rows L2 GenW GenFor
/-- a generator that has not begun, and will hand out n items -/
def GMadeS (P : Program) (w : World) (k : Nat) (outer : List Env) (H : Hp) (s : Shared) (n : Nat) (cont : List V → Hp → Prop) (u : Value) (s' : Shared) : Prop :=
  ∃ (a : Addr) (g : Nat) (c : Code), u = .ref a ∧ s.heap.objs.size ≤ a ∧ a < s'.heap.objs.size ∧ s'.heap.IsGen a g ∧ s'.gens[g]? = some (.fresh c) ∧ s'.os = s.os ∧ AllBare s'.gens ∧ s'.heap.NoLimit ∧ (∀ b o, s.heap.get? b = some o → s'.heap.get? b = some o) ∧
    ∀ (A : Around) (C D : Addr) (s2 : Shared), Room k A → A.frames = some outer → s'.heap.objs.size ≤ C → s'.heap.objs.size ≤ D → (∀ b o, s'.heap.get? b = some o → s2.heap.get? b = some o) → (∃ o, s2.heap.get? C = some o ∧ ∀ v, o.data ≠ .cell v) → s2.heap.PlainList D #[] →
      s2.os = s.os → AllBare s2.gens → Seg (model P w) A (RS P w outer H s C D cont) (YS s C D a g) n s2 c ((model P w).den c) [] s2
abbrev SpS := List V → Hp → Nat → (List V → Hp → Prop) → Prop
def GFnS (P : Program) (w : World) (K : PySem.W.Frag) (mg : Str → Option Value) (base : Heap) (k : Nat) (f : Addr) (fd : FuncData) (ps : List Str) (sp : SpS) : Prop :=
  ∀ (A : Around) (outer : List Env) (s : Shared) (H : Hp) (args : Args) (us : List Value) (vs : List V) (n : Nat) (cont : List V → Hp → Prop), Room k A → Env0 P w K mg base A outer s H → BindsTo s fd args (ps.zip us) → Vals vs us → sp vs H n cont →
    codeAny (model P w) A (.call (.ref f) args) (fun r s' => match r with | .ok (.ret u) => GMadeS P w k outer H s n cont u s' | _ => False) s
theorem genS_of {P : Program} {w : World} {K : PySem.W.Frag} {mg : Str → Option Value} {base : Heap} {k : Nat} {f : Addr} {name qual : Str} {params : Arguments} {scope : Scope} {dV kV doc pm cdv ct oc : Value} {an od : Option Addr}
    {osl : Array (Option Value)} {N ps : List Str} {sp : SpS} {tgt iter e : Expr} {yp ep fp : Pos} {j : Nat}
    (lk : K.lookup f = some ⟨oc, od, .func (PySem.W.fnOf name qual params [.For tgt iter [.Expr (.Yield (some e) yp) ep] [] fp] scope dV kV doc pm an cdv ct), osl⟩) (hcd : PySem.W.codeIn K cdv qual = true) (S : GScope N ps scope)
    (len : ∀ vs H n cont, sp vs H n cont → vs.length = ps.length) (hjN : j < N.length) (hs : ∀ (env : Env) (x : Value), foldedSetIterable iter env x = pure x) (hin : ∀ (L f' : Addr), interactive (envOfC qual scope L f' cdv) = false)
    (hbody : ∀ (A : Around) (outer : List Env) (s : Shared) (H : Hp) (vs : List V) (n : Nat) (cont : List V → Hp → Prop) (pn : List (Addr × Obj)), Room k (A.deeper (envOfC qual scope s.heap.objs.size f cdv)) → sp vs H n cont →
      ∃ wi te, PI (gX P w K mg base N qual scope f cdv A outer s H pn) tgt iter wi ∧ PG (gX P w K mg base N qual scope f cdv A outer s H pn) tgt (gName j) ∧ PE (gX P w K mg base N qual scope f cdv A outer s H pn) e te ∧
        wi (start N vs) H (fun J H' => ∃ GI, GI 0 H' [] ∧ LoopS te (start N vs) j n cont J GI)) :
    GFnS P w K mg base (k + 1) f (PySem.W.fnOf name qual params [.For tgt iter [.Expr (.Yield (some e) yp) ep] [] fp] scope dV kV doc pm an cdv ct) ps sp := by
  intro A outer s H args us vs n cont hr e0 hb r hsp
  have hl := len _ _ _ _ hsp
  have KX : K.In s.heap := e0.mod.kin.keeps fun b o e => (e0.bs b o e).1
  have lim : s.heap.NoLimit := e0.mod.nolimit.keeps fun b o e => (e0.bs b o e).1
  refine codeAny_call_generator hr.depth (KX _ _ lk) rfl S.co S.gen rfl (PySem.W.codeRec_of KX hcd) (hb _ _ _ _ ?_)
  refine wpAny_newFunctionEnv_cells S.kind (fun y hy => ?_) fun env he s1 x => ?_
  · rcases S.par y.1 (List.of_mem_zip hy).1 with q | q
    · exact .inl q
    · exact .inr ⟨q, PySem.W.cellsFrom_some _ _ _ (.inl q)⟩
  subst he
  refine ⟨lim.keeps x.toInCall.keep, ?_⟩
  have lim1 : s1.heap.NoLimit := lim.keeps x.toInCall.keep
  obtain ⟨h1, tk, es1, hk1⟩ := x.done
  have os1 : s1.os = s.os := by rw [es1]
  have gen1 : s1.gens = s.gens := by rw [es1]
  have lt1 : s.heap.objs.size < s1.heap.objs.size := x.toInCall.ns.lt
  have kp1 : ∀ b o, s.heap.get? b = some o → s1.heap.get? b = some o := x.toInCall.keep
  have main : ∀ (go : Obj) (nm qn : Value) (tk2 : Nat), go.cls = .type "generator" → go.data = .fields #[.int s1.gens.size 0, nm, qn] → go.slots = #[] → (∀ h : Heap, (h.push go).get? h.objs.size = some go) →
      GMadeS P w (k + 1) outer H s n cont (.ref s1.heap.objs.size) { s1 with gens := s1.gens.push (.fresh (.func [.For tgt iter [.Expr (.Yield (some e) yp) ep] [] fp] (envOfC qual scope s.heap.objs.size f cdv))), toks := tk2, heap := s1.heap.push go } := by
    intro go nm qn tk2 hgc hgd0 hgs hgp
    have hgen : ∀ h : Heap, h.get? s1.heap.objs.size = some go → h.IsGen s1.heap.objs.size s1.gens.size := fun h e => ⟨go, nm, qn, e, hgc, hgd0, hgs⟩
    have hpushed : (s1.heap.push go).get? s1.heap.objs.size = some go := hgp _
    refine ⟨s1.heap.objs.size, s1.gens.size, _, rfl, Nat.le_of_lt lt1, ?_, hgen _ hpushed, Array.getElem?_push_size .., os1, AllBare.push (by rw [gen1]; exact e0.bare) rfl, lim1.keeps fun b o e => Heap.get?_push_of_some _ e, fun b o e => Heap.get?_push_of_some _ (kp1 b o e), ?_⟩
    · show _ < (s1.heap.push _).objs.size
      rw [Heap.size_push]; exact Nat.lt_succ_self _
    intro Aw C D s2 hrw hfr hC hD hk2 hCo hDl hos hba
    have hDo : ∃ o, s2.heap.get? D = some o ∧ ∀ v, o.data ≠ .cell v := by
      obtain ⟨kk, e⟩ := hDl
      exact ⟨_, e, fun v z => by cases z⟩
    have e0w : Env0 P w K mg base Aw outer s H := ⟨hfr, e0.mod, e0.bs, e0.bsz, e0.funs, e0.frf, e0.hok, e0.bare⟩
    obtain ⟨wi, te, hi, hg, he, hw⟩ := hbody Aw outer s H vs n cont [(s1.heap.objs.size, go)] (hrw.deeper _) hsp
    have I1 : Inv (gcxOf P w K mg base N qual scope f cdv Aw outer s H (fun _ _ _ => False) []) [] (start N vs) H s1 := inv_startG S hrw.hd e0w hl r x
    have kp2 : ∀ b o, s1.heap.get? b = some o → s2.heap.get? b = some o := fun b o e => hk2 b o (Heap.get?_push_of_some _ e)
    have I2 : Inv (gcxOf P w K mg base N qual scope f cdv Aw outer s H (fun _ _ _ => False) []) [] (start N vs) H s2 :=
      I1.call' (ch := []) (hos.trans os1.symm) (Un.kept kp2) (I1.hok.kept kp2) hba fun b z => by simp at z
    have above : ∀ {b : Addr}, (s1.heap.push go).objs.size ≤ b → s1.heap.objs.size < b := fun h => by rw [Heap.size_push] at h; exact h
    have hC1 := above hC
    have hD1 := above hD
    obtain ⟨oC, eC, nC⟩ := hCo
    obtain ⟨oD, eD, nD⟩ := hDo
    have young : ∀ b, s1.heap.objs.size ≤ b → H b = none ∧ b ≠ s.heap.objs.size ∧ b ∉ frs outer ∧ s.heap.objs.size ≤ b ∧ ∀ y c, (cellsFrom (s.heap.objs.size + 1) scope.names []).lookup y = some c → c ≠ b := fun b hb => by
      refine ⟨I1.hok.fresh hb, Nat.ne_of_gt (Nat.lt_of_lt_of_le lt1 hb), I1.nofs hb, Nat.le_trans (Nat.le_of_lt lt1) hb, fun y c e z => ?_⟩
      obtain ⟨v, ob, ho, _⟩ := I1.cell y c e
      have := Heap.lt_size ho
      rw [z] at this
      exact absurd (Nat.lt_of_lt_of_le this hb) (Nat.lt_irrefl _)
    obtain ⟨a1, a2, a3, a4, a5⟩ := young _ (Nat.le_refl _)
    obtain ⟨c1, c2, c3, c4, c5⟩ := young C (Nat.le_of_lt hC1)
    obtain ⟨d1, d2, d3, d4, d5⟩ := young D (Nat.le_of_lt hD1)
    have hT : Two (gX P w K mg base N qual scope f cdv Aw outer s H [(s1.heap.objs.size, go)]) C D (start N vs) H s2 s2 := by
      refine ⟨oC, oD, eC, eD, (Inv.pinnedG I2 fun p hp => ?_).wish _⟩
      rcases List.mem_append.mp hp with z | z
      · rw [List.mem_singleton.mp z]
        exact ⟨hk2 _ go hpushed, a1, a2, a3, fun v q => by rw [hgd0] at q; cases q⟩
      rcases List.mem_cons.mp z with z | z
      · rw [z]; exact ⟨eC, c1, c2, c3, nC⟩
      · rw [List.mem_singleton.mp z]; exact ⟨eD, d1, d2, d3, nD⟩
    have far : Far (gX P w K mg base N qual scope f cdv Aw outer s H [(s1.heap.objs.size, go)]) C D :=
      ⟨⟨c4, c2, c5⟩, ⟨d4, d2, d5⟩, fun p hp => by
        rw [List.mem_singleton.mp hp]
        exact ⟨Nat.ne_of_lt hC1, Nat.ne_of_lt hD1⟩⟩
    obtain ⟨oC', oD', eC', eD', I3⟩ := id hT
    refine seg_func ?_
    refine seg_execs_cons ?_
    refine seg_For (hs _) ?_
    rw [over_func]
    refine wpAny_mono (hi.run [(C, oC'), (D, oD')] s2 _ H _ I3 hw) (fun v s3 h3 => ?_) fun _ _ h => h.elim
    refine wpAny_mono h3 (fun itv s4 h4 => ?_) fun _ _ h => h.elim
    obtain ⟨it, fpa, tn, J, H4, eit, I4, T, st4, f4, GI, g0, L⟩ := h4
    subst eit
    intro p
    have ll : j < (start N vs).length := by have := I4.len; exact this ▸ hjN
    have e0s : (start N vs).set j ((start N vs)[j]) = start N vs := List.set_getElem_self _
    refine seg_loopS (X := gX P w K mg base N qual scope f cdv Aw outer s H [(s1.heap.objs.size, go)]) (j := j) rfl (fun _ _ h => h) far hg he T L (fun pins σ H5 s5 I5 => hgen _ (I5.pin (s1.heap.objs.size, go) (List.mem_append_left _ (List.mem_singleton.mpr rfl))).1) (fun pins σ H5 s5 I5 => I5.os)
      ((over_loop rfl rfl).trans over_func) rfl rfl S.co (hin _ _) (fun σ G ys us s₀ s5 h5 hl5 rv5 hc5 => ?_) n 0 ((start N vs)[j]) H4 [] #[] s2 s4 (Nat.zero_add _) (fun b hb o1 o2 => fp_swap (f4 b hb)) g0 hDl .nil (by rw [e0s]; exact ⟨oC', oD', eC', eD', I4⟩) st4
    refine seg_leaf (.ok .next) ?_
    show Seg _ _ _ _ _ _ _ (leafOf (.ok (.ret .none))) _ _
    obtain ⟨q1, q2, q3, q4⟩ := h5.at
    obtain ⟨_, _, _, _, I5⟩ := h5
    refine seg_end (.ok (.ret .none)) (.inl ⟨.inl rfl, I5.os, I5.bare, q1, q2, G, ys, us, I5.base, I5.hok, q3, q4, ?_, rv5, hc5⟩)
    obtain ⟨kk, e⟩ := hl5
    exact ⟨kk, q2.trans e⟩
  exact main _ _ _ _ rfl rfl rfl fun h => Heap.get?_push_size _ rfl
end GenS
end

-- GenS3
section
set_option Elab.async false
set_option linter.all false
set_option maxRecDepth 100000
set_option maxHeartbeats 1000000
/-! the consumer: [x for x in g], g such a generator. -/
namespace GenS
open PySem PySem.Spec PyProof.Rows L2 GenW GenFor
section
variable {P : Program} {w : World} {A : Around} {outer : List Env} {H : Hp} {sB : Shared} {C D a : Addr} {g N : Nat} {cont : List V → Hp → Prop} {x : Str} {q p pos : Pos} {scope : Scope} {iter : Expr} {ce : Env} {R : Result → Shared → Prop}
/-- between two turns -/
def TurnsS (P : Program) (w : World) (A : Around) (outer : List Env) (H : Hp) (sB : Shared) (C D a : Addr) (g N : Nat) (cont : List V → Hp → Prop) (n : Nat) (s : Shared) : Prop :=
  ∃ (us : List Value) (m : Str → Option Value), us.length + n = N ∧ s.heap.IsGen a g ∧ s.heap.NoLimit ∧ (∃ gs, s.gens[g]? = some gs ∧ gs.Goes (model P w) A.in1 (RS P w outer H sB C D cont) (YS sB C D a g) n (.send .none) (s.setGen g .running)) ∧
    s.heap.PlainList D us.toArray ∧ s.heap.Ns C m
theorem comp_genS (hh : A.handled = none) (hd : A.depth < recursionLimit) (hl : ce.locals = C) (hk : ce.scope.kind = .function) (hx : ce.kindOf x = some .local) (hp : (ce.scope.kind == .class || (ce.scope.kind == .module && ce.locals != ce.globals)) = false) (hdb : (x == ("__debug__" : Str)) = false)
    (nCD : C ≠ D) (nCa : C ≠ a) (nDa : D ≠ a) (nCs : C ≠ cStatics) (nDs : D ≠ cStatics) (hsz : N ≤ sizeLine)
    (done : ∀ s' us m G ys, s'.os = sB.os → AllBare s'.gens → Un (frs outer) [] H G sB.heap s'.heap → HOk P w G s'.heap → G C = none → G D = none → s'.heap.PlainList D us → Vals ys us.toList → ys.length ≤ sizeLine → cont ys G → s'.heap.Ns C m → R (.ok .next) s')
    (n : Nat) {s : Shared} (h : TurnsS P w A outer H sB C D a g N cont n s) :
    codeAny (model P w) A (.compLoop (.ListComp (.Name x q) [⟨.Name x p, iter, [], 0⟩] scope pos) 0 (.ref a) (.ref D) ce) R s := by
  refine compLoop_any (fun n s => TurnsS P w A outer H sB C D a g N cont n s) ?_ n h
  rintro n s ⟨us, m, hi, hg, hlim, ⟨gs, hgs, hgo⟩, hD, hns⟩
  have hgl : g < s.gens.size := (Array.getElem?_eq_some_iff.mp hgs).1
  refine wpAny_gsz (n := g + 1) hgl (next_genG hh hlim hd hg hgs (F := FS P w outer H sB C D cont) (Er := fun _ _ => False) (Y := YS sB C D a g) hgo (fun v s₁ gs' hbare hv => ?_) (fun s₁ hF h' hkp => ?_) fun e s₁ he => he.elim)
  · intro hsz'
    obtain ⟨hos, hba, hlm, hge, hC, hDq, hk'⟩ := hv
    have eC : s₁.heap.get? C = s.heap.get? C := hC
    have eD : s₁.heap.get? D = s.heap.get? D := hDq
    have hsz1 : g < s₁.gens.size := by
      have q : (s₁.setGen g gs').gens.size = s₁.gens.size := setGen_size _ _ _
      have hsz'' : g + 1 ≤ (s₁.setGen g gs').gens.size := hsz'
      omega
    have hns1 : s₁.heap.Ns C m := hns.at' fun o e => eC.trans e
    have hD1 : s₁.heap.PlainList D us.toArray := by
      obtain ⟨k, e⟩ := hD
      exact ⟨k, eD.trans e⟩
    refine wpAny_of_eq (rfl : letOwnedTupleGo (.Name x p) (.ref a) v = pure ()) ?_
    refine wpAny_assign_Name (wpAny_storeName_local (m := m) hx (by rw [hl]; exact hns1) (fun h₂ hn₂ hs₂ => ?_) hp)
    refine wpAny_tests_nil ?_
    rw [if_pos rfl]
    refine wpAny_Name (wpAny_loadName_local (v := v) hk hx hn₂ (if_pos rfl) ?_) hdb
    have nDl : D ≠ ce.locals := by rw [hl]; exact Ne.symm nCD
    have hD2 : h₂.PlainList D us.toArray := by
      obtain ⟨k, e⟩ := hD1
      exact ⟨k, hs₂.extBut D _ nDl e⟩
    refine wpAny_list_append_plain (hsz := by rw [List.size_toArray]; omega) hD2 fun h₅ hl₅ hs₅ => ?_
    have keep : ∀ b o, b ≠ C → b ≠ D → s₁.heap.get? b = some o → h₅.get? b = some o := fun b o n1 n2 e => hs₅.extBut b o n2 (hs₂.extBut b o (by rw [hl]; exact n1) e)
    have hns5 : h₅.Ns C (fun x_1 => if x_1 = x then some v else m x_1) := by
      rw [hl] at hn₂
      exact hn₂.at' fun o e => hs₅.extBut C o nCD e
    have wk : ∀ (t : Nat), Took C D v s₁ ({ s₁.setGen g gs' with heap := h₅, toks := t }.setGen g .running) := fun t => by
      refine ⟨⟨rfl, allBare_setGen (allBare_setGen hba hbare) rfl, keep, ?_, ?_⟩, fun us' h' => ?_⟩
      · obtain ⟨ob, es, ep, ho, hd, _⟩ := hns5
        exact ⟨ob, ho, fun v e => by rw [hd] at e; cases e⟩
      · obtain ⟨k, e⟩ := hl₅
        exact ⟨_, e, fun v z => by cases z⟩
      · obtain ⟨k1, e1⟩ := hD1
        obtain ⟨k2, e2⟩ := h'
        rw [e1] at e2
        cases e2
        exact hl₅
    cases n with
    | zero => exact (hk' _ (wk 0)).elim
    | succ n =>
      refine ⟨n, Nat.lt_succ_self _, us ++ [v], _, by rw [List.length_append]; show us.length + 1 + n = N; omega, (let ⟨o, nm, qn, ho, r⟩ := hge; ⟨o, nm, qn, keep a o (Ne.symm nCa) (Ne.symm nDa) ho, r⟩), ?_, ⟨gs', setGen_at hsz1, hk' _ (wk _)⟩, ?_, hns5⟩
      · obtain ⟨mc, hnc, hnn⟩ := hlm
        exact ⟨mc, hnc.at' fun o e => keep _ o (Ne.symm nCs) (Ne.symm nDs) e, hnn⟩
      · have e : us.toArray.push v = (us ++ [v]).toArray := by simp
        rw [← e]
        exact hl₅
  · intro _
    obtain ⟨os1, ba1, hC, hDq, G, ys, us1, un, hok, nC, nD, hl1, rv, hcont⟩ := hF
    have e1 : us1 = us.toArray := by
      obtain ⟨k1, e1⟩ := hl1
      obtain ⟨k2, e2⟩ := hD
      have e3 : s₁.heap.get? D = s.heap.get? D := hDq
      rw [e3, e2] at e1
      cases e1
      rfl
    have hlen : ys.length ≤ sizeLine := by
      have := rv.length
      rw [e1] at this
      have : ys.length = us.length := this
      omega
    refine done _ us1 m G ys os1 (allBare_setGen ba1 rfl) (un.trans (Un.kept hkp)) (hok.kept hkp) nC nD ?_ rv hlen hcont ?_
    · obtain ⟨k, e⟩ := hl1
      exact ⟨k, hkp _ _ e⟩
    · exact hns.at' fun o e => hkp _ _ (hC.trans e)
end
abbrev TGenS := L2.St → Hp → Nat → (List V → Hp → Prop) → Prop
structure PGenS (X : Cx) (k : Nat) (e : Expr) (tg : TGenS) : Prop where
  run : ∀ (pins : List (Addr × Obj)) (s : Shared) (σ : L2.St) (H : Hp) (n : Nat) (cont : List V → Hp → Prop), Inv X pins σ H s → tg σ H n cont → wpAny (model X.prog X.w) X.A (eval e X.env)
    (fun u s' => ∃ H1 sc, Inv X pins σ H1 sc ∧ GMadeS X.prog X.w k X.stack H1 sc n cont u s') X.xe s
def tMethS (S : Addr → Prop) (m : Str) (sp : SpS) (ta : TE) : TGenS := fun σ H n cont => ta σ H fun x H1 => ∃ a C dx fs, x = .ref a ∧ H1 a = some (.ins C dx fs) ∧ S C ∧ fs.lookup m = none ∧ sp [x] H1 n cont
section
variable {X : Cx} {k : Nat} {f : Addr} {fd : FuncData} {ps : List Str} {sp : SpS} {o : Expr} {m : Str} {apos pos pos' : Pos} {ta : TE} {S : Addr → Prop}
/-- o.m(), of whatever class of ours -/
theorem pgenS_meth0 {pl : Sem Bool} (he : PE X o ta) (c : ∀ C, S C → Cls X.K C ∧ Meth X.K C m f) (F : GFnS X.prog X.w X.K X.mg X.base k f fd ps sp) (len : ∀ vs H n cont, sp vs H n cont → vs.length = ps.length) (hr : Room k X.A) (hb : Binds X.K fd ps [])
    (ht : eval (.Call (.Attribute o m apos) [] [] pos') X.env = (do
      let ov ← eval o X.env
      standAt apos.atName
      let (f, first) ← holding [ov] (getMethod ov m pl)
      callWith pos' f first (backTo pos' (starEach [] X.env)) (backToKw pos' (keywordEach [] X.env))) := by rfl) :
    PGenS X k (.Call (.Attribute o m apos) [] [] pos') (tMethS S m sp ta) := by
  constructor
  intro pins s σ H n cont I h
  refine PySem.W.methodCall_KW (pl := pl) (thn (he.run pins s σ H _ I h) fun u s1 ⟨x, H1, I1, rx, a, C, dx, fs, ex, ea, hS, l, hsp⟩ => ?_) ht
  subst ex
  obtain rfl : u = Value.ref a := rx
  have hm := (c C hS).2
  refine getmeth_ok I1 ea (c C hS).1 hm l ?_
  refine PySem.W.callWith_K0 (first := [.ref a]) I1.kIn hm.kp ?_
  have hl2 : ([Value.ref a] ++ []).length = ps.length := len _ _ _ _ hsp
  refine wpAny_call (codeAny_mono (F X.A X.stack s1 H1 ⟨[.ref a], []⟩ ([Value.ref a] ++ []) [V.ref a] n cont hr I1.env0 (hb s1 [Value.ref a] I1.kIn hl2) (show Vals [V.ref a] ([Value.ref a] ++ []) from .cons rfl .nil) hsp) fun r s' q => ?_)
  cases r with
  | error e => exact False.elim q
  | ok fl =>
    cases fl with
    | ret u => exact ⟨H1, s1, I1, q⟩
    | next => exact False.elim q
    | brk => exact False.elim q
    | cont => exact False.elim q
def tLcS (tg : TGenS) : TE := fun σ H Q => ∃ n, n ≤ sizeLine ∧ tg σ H n fun ys G => ∀ p, G p = none → Q (.ref p) (upd G p (.lst ys))
theorem pe_lcS {iter : Expr} {tg : TGenS} {x : Str} {q p : Pos} {scope : Scope} {own : List (Str × Nat)} (h : PGenS X k iter tg) (hc : X.calm = true) (hr : Room (k + 1) X.A) (ok : BlkOk X.N X.env.scope scope own)
    (hx : ∀ (cl : List (Str × Addr)) (C : Addr), (compEnvC scope cl C X.env).kindOf x = some .local) (hdb : (x == ("__debug__" : Str)) = false := by decide) (hs : ∀ x, foldedSetIterable iter X.env x = pure x := by intro _; rfl) :
    PE X (.ListComp (.Name x q) [⟨.Name x p, iter, [], 0⟩] scope pos) (tLcS tg) := by
  constructor
  intro pins s σ H Q I hq
  obtain ⟨n, hsz, hq⟩ := hq
  rw [eval_ListComp]
  have hfree : ∀ y ∈ scope.names, y.2 = .free → ∃ c, X.env.cells.lookup y.1 = some c := fun y hy e => by
    rcases ok.free y hy e with k | k
    · exact I.ok.has _ (.inl k)
    · exact I.ok.has _ (.inr k)
  refine wpAny_comprehension_free (use := none) rfl hs (closure_ok hfree) ok.kind (fun y hy e => by rw [ok.uniq y hy, e])
    (thn (h.run pins s σ H n _ I hq) fun u s1 ⟨H1, sc, I1, G⟩ => ?_)
  obtain ⟨a, g, c, rfl, ha1, ha2, hgen, hfresh, os, ba, lim, kp, seg⟩ := G
  refine wpAny_pyIter_gen hgen ?_
  refine wpAny_newObj_type (newEnv_comp ?_) (by show 0 ≤ sizeLine; decide)
  generalize hD : s1.heap.objs.size = D
  generalize hs3 : ({ s1 with heap := s1.heap.push { cls := .type "list", data := .seq ([] : List Value).toArray } } : Shared) = s3
  show codeAny _ _ (.compStart (.ListComp (.Name x q) [⟨.Name x p, iter, [], 0⟩] scope pos) 0 (.ref a) (.ref D) (compEnvC scope (cellsFrom (s3.heap.objs.size + 1) scope.names (cloFrom X.env.cells scope.names [])) s3.heap.objs.size X.env)) (compPost (model X.prog X.w) X.A X.xe none (EP X pins σ Q) (.ref D) s3.heap.objs.size) { s3 with heap := pushCells (s3.heap.push { cls := .type "dict", data := .dict #[] }) scope.names }
  have hxe := hx (cellsFrom (s3.heap.objs.size + 1) scope.names (cloFrom X.env.cells scope.names [])) s3.heap.objs.size
  have kce : (compEnvC scope (cellsFrom (s3.heap.objs.size + 1) scope.names (cloFrom X.env.cells scope.names [])) s3.heap.objs.size X.env).scope.kind = .function := ok.kind
  generalize hce : compEnvC scope (cellsFrom (s3.heap.objs.size + 1) scope.names (cloFrom X.env.cells scope.names [])) s3.heap.objs.size X.env = ce at hxe kce ⊢
  have cL : ce.locals = s3.heap.objs.size := by subst hce; rfl
  have h3 : s3.heap = s1.heap.push { cls := .type "list", data := .seq ([] : List Value).toArray } := by rw [← hs3]
  have g3 : s3.gens = s1.gens := by rw [← hs3]
  have o3 : s3.os = s1.os := by rw [← hs3]
  have szC : s3.heap.objs.size = D + 1 := by rw [h3, Heap.size_push, hD]
  generalize hC : s3.heap.objs.size = C at cL szC ⊢
  have k3 : ∀ b o, s1.heap.get? b = some o → s3.heap.get? b = some o := fun b o e => by rw [h3]; exact Heap.get?_push_of_some _ e
  have k4 : ∀ b o, s3.heap.get? b = some o → (pushCells (s3.heap.push { cls := .type "dict", data := .dict #[] }) scope.names).get? b = some o := fun b o e => pushCells_keeps _ _ _ _ (Heap.get?_push_of_some _ e)
  have eC : (pushCells (s3.heap.push { cls := .type "dict", data := .dict #[] }) scope.names).get? C = some { cls := .type "dict", data := .dict #[] } := by
    rw [← hC]
    exact pushCells_keeps _ _ _ _ (Heap.get?_push_size _ rfl)
  have eD3 : s3.heap.get? D = some { cls := .type "list", data := .seq ([] : List Value).toArray } := by
    rw [h3, ← hD]
    exact Heap.get?_push_size _ rfl
  have eD := k4 _ _ eD3
  have kp4 : ∀ b o, s1.heap.get? b = some o → (pushCells (s3.heap.push { cls := .type "dict", data := .dict #[] }) scope.names).get? b = some o := fun b o e => k4 b o (k3 b o e)
  have aD : a < D := by rw [← hD]; exact ha2
  have stat : cStatics < D := by
    obtain ⟨mc, hns, _⟩ := id lim
    rw [← hD]
    exact hns.lt
  have scD : sc.heap.objs.size ≤ D := by rw [← hD]; exact Nat.le_trans ha1 (Nat.le_of_lt ha2)
  have DC : D < C := by rw [szC]; exact Nat.lt_succ_self _
  have aC : a < C := Nat.lt_trans aD DC
  have tC : cStatics < C := Nat.lt_trans stat DC
  generalize hs4 : ({ s3 with heap := pushCells (s3.heap.push { cls := .type "dict", data := .dict #[] }) scope.names } : Shared) = s4
  have h4 : s4.heap = pushCells (s3.heap.push { cls := .type "dict", data := .dict #[] }) scope.names := by rw [← hs4]
  have g4 : s4.gens = s1.gens := by rw [← hs4]; exact g3
  have o4 : s4.os = sc.os := by rw [← hs4]; exact o3.trans os
  rw [← h4] at eC eD kp4
  have ns4 : s4.heap.Ns C (fun _ => none) := ⟨_, _, _, eC, rfl, (fun e he => by simp at he), fun _ => rfl⟩
  have start : TurnsS X.prog X.w X.A X.stack H1 sc C D a g n (fun ys G => ∀ p, G p = none → Q (.ref p) (upd G p (.lst ys))) n s4 := by
    refine ⟨[], _, Nat.zero_add _, hgen.keeps kp4, lim.keeps kp4, ⟨.fresh c, by rw [g4]; exact hfresh, rfl, ?_⟩, ⟨_, eD⟩, ns4⟩
    exact seg X.A.in1 C D (s4.setGen g .running) hr.in1 I1.ok.frames (by rw [hD, szC]; exact Nat.le_succ _) (Nat.le_of_eq hD) (fun b o e => kp4 b o e) ⟨_, eC, fun v z => by cases z⟩ ⟨_, eD⟩ o4 (allBare_setGen (by rw [g4]; exact ba) rfl)
  have loop : codeAny (model X.prog X.w) X.A (.compLoop (.ListComp (.Name x q) [⟨.Name x p, iter, [], 0⟩] scope pos) 0 (.ref a) (.ref D) ce) (compPost (model X.prog X.w) X.A X.xe none (EP X pins σ Q) (.ref D) C) s4 := by
    refine comp_genS (I1.ok.hd hc) hr.depth cL kce hxe (by rw [kce]; rfl) hdb (Nat.ne_of_gt DC) (Nat.ne_of_gt aC) (Nat.ne_of_gt aD) (Nat.ne_of_gt tC) (Nat.ne_of_gt stat) hsz (fun s' us m G ys os' ba' un hok nC nD hl rv hlen hQ hns => ?_) n start
    obtain ⟨kk, hl⟩ := hl
    have I5 : Inv X pins σ (upd G D (.lst ys)) s' := I1.drained (ex := []) scD hlen hl rv .nil os' ba' un hok nD
    have fC : FpOk X pins (upd G D (.lst ys)) C := I1.fpOk (Nat.le_trans scD (Nat.le_of_lt DC)) (by rw [upd_ne (Nat.ne_of_gt DC)]; exact nC)
    obtain ⟨f0, f1, f2, f3, f4, f5⟩ := fC
    exact ⟨m, hns, fun h'' sb => ⟨.ref D, _, I5.turned (t' := s'.toks) (fun b o hb e => (sb.2 b hb).trans e) f0 f1 f3 f4 f5, rfl, hQ D nD⟩⟩
  exact codeAny_compStart_list loop (wpAny_pyIter_gen (hgen.keeps kp4) loop)
end
end GenS
end

-- ZipM
section
set_option Elab.async false
set_option maxRecDepth 100000
/-! zip of a list and a tuple, for the hand layer -/
namespace ZipM
open PySem PySem.Spec PyProof.Rows L2
open Sem (wp)
/-- the list at a and the tuple at b, side by side, in new pairs -/
def ItZ (K : PySem.W.Frag) (a b : Addr) : It :=
  ⟨fun i H => ∃ (xs ys : List V) (x y : V), (SqL K H a xs ∧ SqT K H b ys) ∧ xs[i]? = some x ∧ ys[i]? = some y,
   fun i H v H' => ∃ T x y, (v = .ref T ∧ H T = none ∧ H' = upd H T (.tup [x, y])) ∧ (∀ xs, SqL K H a xs → xs[i]? = some x) ∧ ∀ ys, SqT K H b ys → ys[i]? = some y,
   fun i H => ∃ xs ys : List V, (SqL K H a xs ∧ SqT K H b ys) ∧ (xs.length ≤ i ∨ ys.length ≤ i)⟩
/-- the cells of such a zip, apart -/
structure Apt (z TI TO i1 i2 a b : Addr) : Prop where
  s2 : ZipSep2 z TI TO i1 i2 [i1, a] [i2, b]
  a1 : a ≠ i1
  b2 : b ≠ i2
theorem apt (n a b : Nat) (ha : a < n) (hb : b < n) : Apt (n + 4) (n + 2) (n + 3) n (n + 1) a b := by
  have ne : ∀ x y : Nat, x < y ∨ y < x → x ≠ y := fun x y h e => by omega
  refine ⟨⟨ne _ _ (by omega), ne _ _ (by omega), ne _ _ (by omega), ne _ _ (by omega), List.mem_cons_self, ?_, ?_, ne _ _ (by omega), List.mem_cons_self, ?_, ?_, ?_, ?_⟩, ne _ _ (by omega), ne _ _ (by omega)⟩
  all_goals
    intro h
    rcases List.mem_cons.mp h with h | h
    · exact ne _ _ (by omega) h
    · exact ne _ _ (by omega) (List.mem_singleton.mp h)
/-- an iterator that has come to its end -/
theorem doneL {P : Program} {w : World} {A : Around} (hh : A.handled = none) (it l : Addr) (items : Array Value) (i : Nat) (le : items.size ≤ i) :
    Draws P w A it [it, l] i (fun _ _ => True) (fun j h => j = i ∧ h.IsListIter it l i ∧ h.IsList l items) where
  live := fun j h q => let ⟨o, ho, _⟩ := q.2.1; ⟨o, ho⟩
  frame := fun j h h' q k => ⟨q.1, q.2.1.at fun o e => k it (by simp) o e, q.2.2.at fun o e => k l (by simp) o e⟩
  item := fun j s Q E lt q => absurd q.1 (Nat.ne_of_lt lt)
  done := fun s Q E q h => wpAny_nextOf_list_end hh q.2.1 q.2.2 (by simp; omega) h
theorem doneT {P : Program} {w : World} {A : Around} (hh : A.handled = none) (it l : Addr) (items : Array Value) (i : Nat) (le : items.size ≤ i) :
    Draws P w A it [it, l] i (fun _ _ => True) (fun j h => j = i ∧ h.IsTupleIter it l i ∧ h.IsTuple l items) where
  live := fun j h q => let ⟨o, ho, _⟩ := q.2.1; ⟨o, ho⟩
  frame := fun j h h' q k => ⟨q.1, q.2.1.at fun o e => k it (by simp) o e, q.2.2.at fun o e => k l (by simp) o e⟩
  item := fun j s Q E lt q => absurd q.1 (Nat.ne_of_lt lt)
  done := fun s Q E q h => wpAny_nextOf_tuple_end hh q.2.1 q.2.2 (by simp; omega) h

theorem turnZ {P : Program} {w : World} {K : PySem.W.Frag} {elts : List Expr} {kk : Nat} {tpos : Pos} {a b z TI TO i1 i2 : Addr} (D : Apt z TI TO i1 i2 a b) :
    Turn P w K (.Tuple elts kk tpos) (ItZ K a b) [z, TI, TO, i1, i2] z (fun i h => (IsZip h z TI TO .none ∧ IsTupOf2 h TI (.ref i1) (.ref i2) ∧ ∃ x y, IsTupOf2 h TO x y) ∧ h.IsListIter i1 a i ∧ h.IsTupleIter i2 b i) where
  mem := List.mem_cons_self
  obj := by
    rintro i h ⟨⟨hz, hTI, x, y, hTO⟩, ⟨o1, e1, c1, d1⟩, o2, e2, c2, d2⟩ c hc
    simp only [List.mem_cons, List.not_mem_nil, or_false] at hc
    rcases hc with rfl | rfl | rfl | rfl | rfl
    · exact ⟨_, hz, fun v q => nomatch q⟩
    · exact ⟨_, hTI, fun v q => nomatch q⟩
    · exact ⟨_, hTO, fun v q => nomatch q⟩
    · exact ⟨o1, e1, fun v q => (by rw [d1] at q; cases q)⟩
    · exact ⟨o2, e2, fun v q => (by rw [d2] at q; cases q)⟩
  keep := by
    rintro i h h' ⟨⟨hz, hTI, x, y, hTO⟩, h1, h2⟩ k
    exact ⟨⟨k z (by simp) _ hz, k TI (by simp) _ hTI, x, y, k TO (by simp) _ hTO⟩, h1.at (fun o q => k i1 (by simp) o q), h2.at fun o q => k i2 (by simp) o q⟩
  item := by
    intro X hP hw hK hc i pins s σ H E I hf st hg
    subst hP hw hK
    obtain ⟨⟨hz, hTI, x0, y0, hTO⟩, h1, h2⟩ := st
    obtain ⟨xs, ys, x, y, ⟨qx, qy⟩, hx, hy⟩ := hg
    obtain ⟨its, rv, p1, _⟩ := I.list qx
    obtain ⟨its2, rv2, p2, _⟩ := I.tuple qy
    obtain ⟨u, hu, ru⟩ := rv.get hx
    obtain ⟨u2, hu2, ru2⟩ := rv2.get hy
    have lt1 : i < its.toArray.size := by simpa using (List.getElem?_eq_some_iff.mp hu).1
    have lt2 : i < its2.toArray.size := by simpa using (List.getElem?_eq_some_iff.mp hu2).1
    have hzl : z < s.heap.objs.size := Heap.lt_size hz
    refine wpAny_pyNext_zipD2_item D.s2 (Draws.list (A := X.A.in1) (I.ok.hd hc) i1 a D.a1 its.toArray) (Draws.tuple (A := X.A.in1) (I.ok.hd hc) i2 b D.b2 its2.toArray) hz hTI hTO ⟨h1, p1.isList⟩ ⟨h2, p2⟩ lt1 lt2 fun v1 v2 h' tk e1 e2 z' TO' st1 st2 hT hsz hk => ?_
    obtain rfl : v1 = u := Option.some.inj ((show its[i]? = some v1 by simpa using e1).symm.trans hu)
    obtain rfl : v2 = u2 := Option.some.inj ((show its2[i]? = some v2 by simpa using e2).symm.trans hu2)
    refine ⟨_, rfl, wpAny_letOwnedTupleGo_zip (s := { s with heap := h', toks := tk }) z' fun h'' z'' sb => ?_⟩
    have hT2 := (sb.2 _ (Nat.ne_of_gt hzl)).trans hT
    have new : ObjOk X.prog X.w (upd H s.heap.objs.size (.tup [x, y])) h'' s.heap.objs.size (.tup [x, y]) := ⟨(by show 2 ≤ sizeLine; decide), [v1, v2], .cons ru (.cons ru2 .nil), _, hT2, rfl, _, rfl⟩
    have I1 := I.turnedNew (t' := tk) (ch := [z, TI, TO, i1, i2]) (h' := h'') (fun c o hb q => (sb.2 c fun e => hb (by simp [e])).trans (hk c o (fun e => hb (by simp [e])) (fun e => hb (by simp [e])) (fun e => hb (by simp [e])) (fun e => hb (by simp [e])) q)) hf (Nat.le_refl _) new
    refine ⟨.ref s.heap.objs.size, _, I1, rfl, ⟨_, x, y, ⟨rfl, I.hok.fresh (Nat.le_refl _), rfl⟩, fun l hl => (by rw [I.list_inj hl qx]; exact hx), fun l hl => by rw [I.tuple_inj hl qy]; exact hy⟩, ⟨⟨z'', ?_, v1, v2, ?_⟩, ?_, ?_⟩, fun c hcm => ?_⟩
    · exact (sb.2 _ D.s2.TIz).trans (hk _ _ D.s2.TIz D.s2.TITO D.s2.TIi1 D.s2.TIi2 hTI)
    · exact (sb.2 _ D.s2.TOz).trans TO'
    · exact st1.1.at fun o q => (sb.2 _ (Ne.symm D.s2.zi1)).trans q
    · exact st2.1.at fun o q => (sb.2 _ (Ne.symm D.s2.zi2)).trans q
    · have lt : c < s.heap.objs.size := by
        obtain ⟨o1, e1, _⟩ := h1
        obtain ⟨o2, e2, _⟩ := h2
        simp only [List.mem_cons, List.not_mem_nil, or_false] at hcm
        rcases hcm with rfl | rfl | rfl | rfl | rfl
        · exact hzl
        · exact Heap.lt_size hTI
        · exact Heap.lt_size hTO
        · exact Heap.lt_size e1
        · exact Heap.lt_size e2
      rw [upd_ne (Nat.ne_of_lt lt)]
      exact (hf c hcm).1
  done := by
    intro X hP hw hK hc i pins s σ H E I hf st hg
    subst hP hw hK
    obtain ⟨⟨hz, hTI, x0, y0, hTO⟩, h1, h2⟩ := st
    obtain ⟨xs, ys, ⟨qx, qy⟩, hend⟩ := hg
    obtain ⟨its, rv, p1, _⟩ := I.list qx
    obtain ⟨its2, rv2, p2, _⟩ := I.tuple qy
    have l1 := rv.length
    have l2 := rv2.length
    have fin : ∀ h' tk, (∀ c o, c ≠ z → c ≠ TO → c ≠ i1 → c ≠ i2 → s.heap.get? c = some o → h'.get? c = some o) → (none : Option Value) = none ∧ Inv X pins σ H { s with heap := h', toks := tk } := fun h' tk hk =>
      ⟨rfl, I.turnedL (t' := tk) (ch := [z, TI, TO, i1, i2]) (fun c o hb q => hk c o (fun e => hb (by simp [e])) (fun e => hb (by simp [e])) (fun e => hb (by simp [e])) (fun e => hb (by simp [e])) q) hf⟩
    by_cases c1 : its.toArray.size ≤ i
    · by_cases c2 : its2.toArray.size ≤ i
      · exact wpAny_pyNext_zipD2_end D.s2 (doneL (A := X.A.in1) (I.ok.hd hc) i1 a its.toArray i c1) (doneT (A := X.A.in1) (I.ok.hd hc) i2 b its2.toArray i c2) hz hTI hTO ⟨rfl, h1, p1.isList⟩ ⟨rfl, h2, p2⟩ (Nat.le_refl _) (Nat.le_refl _) (.inl rfl) fin
      · exact wpAny_pyNext_zipD2_end D.s2 (doneL (A := X.A.in1) (I.ok.hd hc) i1 a its.toArray i c1) (Draws.tuple (A := X.A.in1) (I.ok.hd hc) i2 b D.b2 its2.toArray) hz hTI hTO ⟨rfl, h1, p1.isList⟩ ⟨h2, p2⟩ (Nat.le_refl _) (by omega) (.inl rfl) fin
    · have c2 : its2.toArray.size ≤ i := by
        simp only [List.size_toArray] at c1 ⊢
        omega
      exact wpAny_pyNext_zipD2_end D.s2 (Draws.list (A := X.A.in1) (I.ok.hd hc) i1 a D.a1 its.toArray) (doneT (A := X.A.in1) (I.ok.hd hc) i2 b its2.toArray i c2) hz hTI hTO ⟨h1, p1.isList⟩ ⟨rfl, h2, p2⟩ (by omega) (Nat.le_refl _) (.inr rfl) fin
  self := fun A i s Q E st h => wpAny_pyIter_zip st.1.1 h
def iZipM (K : PySem.W.Frag) (ta : TA) : TI := fun σ H R => ta σ H fun vs H1 => ∃ a b xs ys, vs = [.ref a, .ref b] ∧ SqL K H1 a xs ∧ SqT K H1 b ys ∧ R (ItZ K a b) H1
theorem pi_zipM {X : Cx} {e e2 : Expr} {ta : TA} {p pos tpos : Pos} {elts : List Expr} {kk : Nat} (hg : Gl X "zip") (hm : X.mg "zip" = none) (ha : PA X [e, e2] ta) (hs : starEach [e, e2] X.env = (false, eval e X.env) :: starEach [e2] X.env := by rfl)
    (hpl : (backTo pos (starEach [e2] X.env)).any (·.1) = false := by rfl) : PI X (.Tuple elts kk tpos) (.Call (.Name "zip" p) [e, e2] [] pos) (iZipM X.K ta) := by
  constructor
  intro pins s σ H R I h
  refine Call_ (ld_blt I hg hm PyProof.Rows.boot_zip (PyProof.Rows.callWith_type1 (thn (ha.run pos pins s σ H _ I h) fun us s1 ⟨vs, H1, I1, r1, a, b, xs, ys, ex, qx, qy, q⟩ => ?_) hs hpl))
  subst ex
  rcases r1 with _ | ⟨r, rr⟩
  rcases rr with _ | ⟨r', rr⟩
  cases rr
  cases r
  cases r'
  obtain ⟨its, rv, p1, _⟩ := I1.list qx
  obtain ⟨its2, rv2, p2, _⟩ := I1.tuple qy
  obtain ⟨o2, ho2, _⟩ := id p2
  refine zip_begins2 (begins_list a its.toArray) (begins_tuple b its2.toArray) p1.isList p2 fun h' hz hTI hTO g1 g2 hsz hk => wpAny_pyIter_zip hz ?_
  refine ⟨s1.heap.objs.size + 4, [s1.heap.objs.size + 4, s1.heap.objs.size + 2, s1.heap.objs.size + 3, s1.heap.objs.size, s1.heap.objs.size + 1], _, _, H1, rfl, I1.kept (t' := s1.toks) hk, turnZ (apt s1.heap.objs.size a b p1.lt (Heap.lt_size ho2)), ⟨⟨hz, hTI, _, _, hTO⟩, ⟨_, g1, rfl, rfl⟩, _, g2, rfl, rfl⟩, fun c hcm => ?_, q⟩
  have le : s1.heap.objs.size ≤ c := by
    simp only [List.mem_cons, List.not_mem_nil, or_false] at hcm
    have ge : ∀ n m : Nat, n ≤ n + m := fun n m => Nat.le_add_right n m
    rcases hcm with rfl | rfl | rfl | rfl | rfl
    · exact ge _ _
    · exact ge _ _
    · exact ge _ _
    · exact Nat.le_refl _
    · exact ge _ _
  exact I1.fpOk le (I1.hok.fresh le)
theorem walk_zipM {K : PySem.W.Frag} {a b : Addr} {xs ys : List V} {n : Nat} (hn : n = xs.length) (hm : n = ys.length) : Walk (ItZ K a b) n (fun H => SqL K H a xs ∧ SqT K H b ys) (YPair (fun i => xs[i]?) (fun i => ys[i]?)) := by
  refine ⟨fun i _ hi q => ⟨xs, ys, xs[i]'(by omega), ys[i]'(by omega), q, List.getElem?_eq_getElem _, List.getElem?_eq_getElem _⟩, fun _ q => ⟨xs, ys, q, by omega⟩, fun i H v H' _ q y => ?_⟩
  obtain ⟨T, x, y, ⟨h1, h2, h3⟩, h4, h5⟩ := y
  exact ⟨T, x, y, h1, h2, h3, h4 xs q.1, h5 ys q.2⟩
end ZipM
end

-- ZipN
section
set_option Elab.async false
set_option linter.all false
set_option maxRecDepth 100000
set_option maxHeartbeats 1000000
/-! zip of two tuples with a plain name as target: the pair that was handed out may still be there. -/
namespace ZipN
open PySem PySem.Spec PyProof.Rows L2 Builtin.SmallTypes
open Sem (wp)
/-- a zip that may have a pair out -/
def ZF (h : Heap) (z TI TO : Addr) (f0 : Value) (f : Bool) : Prop :=
  h.get? z = some { cls := .type "zip", dict := none, data := .fields #[f0, .bool f, .bool false, .ref TI, .ref TO], slots := #[] }
def Out (f0 : Value) : Prop := f0 = .none ∨ ∃ T : Addr, f0 = rawInt T
section
variable {prog : Program} {w : World} {A : Around} {E : Value → Shared → Prop} {s : Shared} {z TI TO i1 i2 : Addr} {fp1 fp2 : List Addr} {n1 n2 i : Nat} {P1 P2 : Nat → Value → Prop} {St1 St2 : Nat → Heap → Prop} {a1 a2 f0 : Value} {f : Bool}
theorem own_free {Q : Bool → Shared → Prop} (hz : ZF s.heap z TI TO f0 f) (ad : Out f0) (h1 : Q true s) (h0 : ∀ h' g0, ZF h' z TI TO g0 true → Out g0 → Heap.SameBut z s.heap h' → Q false { s with heap := h' }) :
    wpAny (model prog w) A (ownedTupleIsFree (.ref z)) Q E s := by
  have hz' := hz
  unfold ZF at hz'
  rcases ad with rfl | ⟨T, rfl⟩
  · unfold ownedTupleIsFree
    exact wpAny_bind (wpAny_field hz' rfl (x := Value.none) rfl (wpAny_pure h1))
  · cases hT : s.heap.get? T with
    | some oT => exact wpAny_tupleHeld_zip (f := f) hz' hT fun h' a b => h0 h' (rawInt T) a (.inr ⟨T, rfl⟩) b
    | none =>
      unfold ownedTupleIsFree
      refine wpAny_bind (wpAny_field hz' rfl (x := rawInt T) rfl ?_)
      show wpAny _ _ (loadIfAlive ((T : Int).toNat) >>= _) _ _ _
      rw [Int.toNat_natCast]
      have al : ∀ {Q : Option Obj → Shared → Prop}, Q none s → wpAny (model prog w) A (loadIfAlive T) Q E s := fun {Q} hq => by
        have hq' : Q (s.heap.get? T) s := by rw [hT]; exact hq
        exact fun _ _ _ => hq'
      refine wpAny_bind (al ?_)
      exact wpAny_pure h1
/-- what a turn of it gives -/
abbrev Got (P1 P2 : Nat → Value → Prop) (St1 St2 : Nat → Heap → Prop) (z TI TO i1 i2 : Addr) (i : Nat) (s : Shared) (x1 x2 : Value) (h' : Heap) : Prop :=
  (∃ g0 g, ZF h' z TI TO g0 g ∧ Out g0) ∧ (∃ y1 y2, IsTupOf2 h' TO y1 y2) ∧ P1 i x1 ∧ P2 i x2 ∧ St1 (i + 1) h' ∧ St2 (i + 1) h' ∧ IsTupOf2 h' s.heap.objs.size x1 x2 ∧ h'.objs.size = s.heap.objs.size + 1 ∧
    ∀ c o, c ≠ z → c ≠ TO → c ≠ i1 → c ≠ i2 → s.heap.get? c = some o → h'.get? c = some o
theorem item_N {Q : Value → Shared → Prop} (S : ZipSep2 z TI TO i1 i2 fp1 fp2) (D1 : Draws prog w A i1 fp1 n1 P1 St1) (D2 : Draws prog w A i2 fp2 n2 P2 St2) (hz : ZF s.heap z TI TO f0 f) (ad : Out f0)
    (hTI : IsTupOf2 s.heap TI (.ref i1) (.ref i2)) (hTO : IsTupOf2 s.heap TO a1 a2) (st1 : St1 i s.heap) (st2 : St2 i s.heap) (l1 : i < n1) (l2 : i < n2)
    (hQ : ∀ x1 x2 h' tk, Got P1 P2 St1 St2 z TI TO i1 i2 i s x1 x2 h' → Q (.ref s.heap.objs.size) { s with heap := h', toks := tk }) :
    wpAny (model prog w) A (Builtin.«zip.__next__» ⟨[.ref z], []⟩) (fun fin s' => ∃ v, fin = .done (.ret v) ∧ Q v s') E s := by
  obtain ⟨hp, gens, dr, tk0, os⟩ := s
  have hz' := hz
  unfold ZF at hz'
  show wpAny _ _ (field (.ref z) 2 >>= _) _ _ _
  refine wpAny_bind (wpAny_field hz' rfl (x := Value.bool false) rfl ?_)
  show wpAny _ _ (field (.ref z) 3 >>= _) _ _ _
  refine wpAny_bind (wpAny_field hz' rfl (x := Value.ref TI) rfl ?_)
  refine wpAny_bind (wpAny_seqItems hTI rfl ?_)
  show wpAny _ _ (ownedTupleIsFree (.ref z) >>= _) _ _ _
  refine wpAny_bind (own_free hz ad ?_ fun h1 g0 hz1 ad1 hs1 => ?_)
  · simp only [if_true]
    refine wpAny_bind (wpAny_rule ?_)
    refine wpAny_bind (wpAny_field hz' rfl (x := Value.ref TO) rfl ?_)
    refine wpAny_bind (wpAny_setField_rec hz' (by simp) fun p0 zz0 s0 => ?_)
    replace zz0 : ZF p0 z TI TO .ellipsis f := zz0
    replace s0 : Heap.SameBut z hp p0 := s0
    refine wpAny_bind ?_
    simp only [List.zipIdx_cons, List.zipIdx_nil, List.forIn_cons, List.forIn_nil]
    refine wpAny_bind (wpAny_bind (wpAny_onRaise ?_))
    show wpAny _ _ (nextOf (.ref i1) >>= _) _ _ ⟨p0, gens, dr, tk0, os⟩
    refine wpAny_bind (D1.item i _ _ _ l1 (D1.over st1 s0 S.zf1) fun x1 p1 tk1 hx1 sn1 s1 => wpAny_pure ?_)
    replace s1 : Heap.SameBut i1 p0 p1 := s1
    have u1 : IsTupOf2 p1 TO a1 a2 := s1.extBut _ _ S.Ti1 (s0.extBut _ _ S.TOz hTO)
    refine wpAny_bind (wpAny_seqItems (s := ⟨p1, gens, dr, tk1, os⟩) u1 rfl ?_)
    refine wpAny_bind (updateSeq_IsTupOf2 (s := ⟨p1, gens, dr, tk1, os⟩) u1 fun p2 u2 s2 => ?_)
    replace u2 : IsTupOf2 p2 TO x1 a2 := u2
    replace s2 : Heap.SameBut TO p1 p2 := s2
    refine wpAny_bind (wpAny_letGo (wpAny_pure ?_))
    refine wpAny_bind (wpAny_bind (wpAny_onRaise ?_))
    show wpAny _ _ (nextOf (.ref i2) >>= _) _ _ ⟨p2, gens, dr, tk1, os⟩
    refine wpAny_bind (D2.item i _ _ _ l2 (D2.over (D2.over (D2.over st2 s0 S.zf2) s1 S.sep1_2) s2 S.Tf2) fun x2 p3 tk2 hx2 sn2 s3 => wpAny_pure ?_)
    replace s3 : Heap.SameBut i2 p2 p3 := s3
    have u3 : IsTupOf2 p3 TO x1 a2 := s3.extBut _ _ S.Ti2 u2
    refine wpAny_bind (wpAny_seqItems (s := ⟨p3, gens, dr, tk2, os⟩) u3 rfl ?_)
    refine wpAny_bind (updateSeq_IsTupOf2 (s := ⟨p3, gens, dr, tk2, os⟩) u3 fun p4 u4 s4 => ?_)
    replace u4 : IsTupOf2 p4 TO x1 x2 := u4
    replace s4 : Heap.SameBut TO p3 p4 := s4
    refine wpAny_bind (wpAny_letGo (wpAny_pure (wpAny_pure ?_)))
    refine wpAny_bind (wpAny_seqItems (s := ⟨p4, gens, dr, tk2, os⟩) u4 rfl ?_)
    refine wpAny_bind (wpAny_newTuple ?_)
    have sz : p4.objs.size = hp.objs.size := by rw [s4.1, s3.1, s2.1, s1.1, s0.1]
    have zz4 : ZF p4 z TI TO .ellipsis f := s4.extBut _ _ S.TOz.symm (s3.extBut _ _ S.zi2 (s2.extBut _ _ S.TOz.symm (s1.extBut _ _ S.zi1 zz0)))
    have kk : ∀ c o, c ≠ z → c ≠ TO → c ≠ i1 → c ≠ i2 → hp.get? c = some o → p4.get? c = some o := fun c o cz cT c1 c2 e =>
      s4.extBut _ _ cT (s3.extBut _ _ c2 (s2.extBut _ _ cT (s1.extBut _ _ c1 (s0.extBut _ _ cz e))))
    have j1 : St1 (i + 1) p4 := D1.over (D1.over (D1.over sn1 s2 S.Tf1) s3 S.sep2_1) s4 S.Tf1
    have j2 : St2 (i + 1) p4 := D2.over sn2 s4 S.Tf2
    have zl : z < p4.objs.size := Heap.lt_size zz4
    show wpAny _ _ (ownedTupleHandOut (.ref z) (.ref p4.objs.size) >>= _) _ _ ⟨p4.push { cls := .type "tuple", data := .seq #[x1, x2] }, gens, dr, tk2, os⟩
    refine wpAny_bind ?_
    unfold ownedTupleHandOut
    have zz5 : ZF (p4.push { cls := .type "tuple", data := .seq #[x1, x2] }) z TI TO .ellipsis f := Heap.get?_push_of_some _ zz4
    refine wpAny_bind (wpAny_setField_rec zz5 (by simp) fun p6 zz6 s6 => ?_)
    refine wpAny_setField_rec zz6 (by simp) fun p7 zz7 s7 => ?_
    replace zz7 : ZF p7 z TI TO (rawInt p4.objs.size) false := zz7
    replace s6 : Heap.SameBut z (p4.push { cls := .type "tuple", data := .seq #[x1, x2] }) p6 := s6
    replace s7 : Heap.SameBut z p6 p7 := s7
    have up : ∀ c o, c ≠ z → p4.get? c = some o → p7.get? c = some o := fun c o c1 e => s7.extBut _ _ c1 (s6.extBut _ _ c1 (Heap.get?_push_of_some _ e))
    have t7 : IsTupOf2 p7 p4.objs.size x1 x2 := s7.extBut _ _ (Nat.ne_of_gt zl) (s6.extBut _ _ (Nat.ne_of_gt zl) (Heap.get?_push_size _ rfl))
    have sz7 : p7.objs.size = p4.objs.size + 1 := by rw [s7.1, s6.1, Heap.size_push]
    rw [sz] at zz7 t7 sz7
    refine wpAny_pure ⟨_, rfl, ?_⟩
    show Q (.ref p4.objs.size) ⟨p7, gens, dr, tk2, os⟩
    rw [sz]
    exact hQ x1 x2 p7 tk2 ⟨⟨_, _, zz7, .inr ⟨_, rfl⟩⟩, ⟨_, _, up _ _ S.TOz u4⟩, hx1, hx2, D1.frame _ _ _ j1 fun b hb o e => up b o (fun q => S.zf1 (q ▸ hb)) e, D2.frame _ _ _ j2 fun b hb o e => up b o (fun q => S.zf2 (q ▸ hb)) e, t7, sz7, fun c o cz cT c1 c2 e => up c o cz (kk c o cz cT c1 c2 e)⟩
  · simp only [Bool.false_eq_true, if_false]
    replace hs1 : Heap.SameBut z hp h1 := hs1
    refine wpAny_bind ?_
    rw [← Array.forIn_toList]
    simp only [List.forIn_cons, List.forIn_nil]
    refine wpAny_bind (wpAny_bind (wpAny_holding ?_))
    show wpAny _ _ (nextOf (.ref i1) >>= _) _ _ ⟨h1, gens, dr, tk0, os⟩
    refine wpAny_bind (D1.item i _ _ _ l1 (D1.over st1 hs1 S.zf1) fun x1 p1 tk1 hx1 sn1 s1 => wpAny_pure ?_)
    replace s1 : Heap.SameBut i1 h1 p1 := s1
    refine wpAny_pure ?_
    refine wpAny_bind (wpAny_bind (wpAny_holding ?_))
    show wpAny _ _ (nextOf (.ref i2) >>= _) _ _ ⟨p1, gens, dr, tk1, os⟩
    refine wpAny_bind (D2.item i _ _ _ l2 (D2.over (D2.over st2 hs1 S.zf2) s1 S.sep1_2) fun x2 p2 tk2 hx2 sn2 s2 => wpAny_pure ?_)
    replace s2 : Heap.SameBut i2 p1 p2 := s2
    refine wpAny_pure (wpAny_pure ?_)
    show wpAny _ _ (newTuple [x1, x2] >>= _) _ _ _
    refine wpAny_bind (wpAny_newTuple ?_)
    have sz : p2.objs.size = hp.objs.size := by rw [s2.1, s1.1, hs1.1]
    have zz2 : ZF p2 z TI TO g0 true := s2.extBut _ _ S.zi2 (s1.extBut _ _ S.zi1 hz1)
    have kk : ∀ c o, c ≠ z → c ≠ TO → c ≠ i1 → c ≠ i2 → hp.get? c = some o → p2.get? c = some o := fun c o cz _ c1 c2 e => s2.extBut _ _ c2 (s1.extBut _ _ c1 (hs1.extBut _ _ cz e))
    have j1 : St1 (i + 1) p2 := D1.over sn1 s2 S.sep2_1
    have t3 : IsTupOf2 (p2.push { cls := .type "tuple", data := .seq #[x1, x2] }) p2.objs.size x1 x2 := Heap.get?_push_size _ rfl
    have sz3 : (p2.push { cls := .type "tuple", data := .seq #[x1, x2] }).objs.size = p2.objs.size + 1 := Heap.size_push ..
    have up : ∀ c o, p2.get? c = some o → (p2.push { cls := .type "tuple", data := .seq #[x1, x2] }).get? c = some o := fun c o e => Heap.get?_push_of_some _ e
    refine wpAny_pure ⟨_, rfl, ?_⟩
    show Q (.ref p2.objs.size) ⟨p2.push { cls := .type "tuple", data := .seq #[x1, x2] }, gens, dr, tk2, os⟩
    rw [sz] at t3 sz3 ⊢
    exact hQ x1 x2 _ tk2 ⟨⟨_, _, up _ _ zz2, ad1⟩, ⟨_, _, up _ _ (s2.extBut _ _ S.Ti2 (s1.extBut _ _ S.Ti1 (hs1.extBut _ _ S.TOz hTO)))⟩, hx1, hx2, D1.frame _ _ _ j1 fun b hb o e => up b o e, D2.frame _ _ _ sn2 fun b hb o e => up b o e, t3, sz3, fun c o cz cT c1 c2 e => up c o (kk c o cz cT c1 c2 e)⟩
theorem end_N {Q : Fin → Shared → Prop} (S : ZipSep2 z TI TO i1 i2 fp1 fp2) (D1 : Draws prog w A i1 fp1 i P1 St1) (hz : ZF s.heap z TI TO f0 f) (ad : Out f0) (hTI : IsTupOf2 s.heap TI (.ref i1) (.ref i2)) (st1 : St1 i s.heap)
    (hE : ∀ h' tk e, (∀ c o, c ≠ z → c ≠ TO → c ≠ i1 → c ≠ i2 → s.heap.get? c = some o → h'.get? c = some o) → (∃ o, h'.get? e = some o ∧ o.cls = .type "StopIteration") → E (.ref e) { s with heap := h', toks := tk }) :
    wpAny (model prog w) A (Builtin.«zip.__next__» ⟨[.ref z], []⟩) Q E s := by
  obtain ⟨hp, gens, dr, tk0, os⟩ := s
  have hz' := hz
  unfold ZF at hz'
  show wpAny _ _ (field (.ref z) 2 >>= _) _ _ _
  refine wpAny_bind (wpAny_field hz' rfl (x := Value.bool false) rfl ?_)
  show wpAny _ _ (field (.ref z) 3 >>= _) _ _ _
  refine wpAny_bind (wpAny_field hz' rfl (x := Value.ref TI) rfl ?_)
  refine wpAny_bind (wpAny_seqItems hTI rfl ?_)
  show wpAny _ _ (ownedTupleIsFree (.ref z) >>= _) _ _ _
  refine wpAny_bind (own_free hz ad ?_ fun h1 g0 hz1 ad1 hs1 => ?_)
  · simp only [if_true]
    refine wpAny_bind (wpAny_rule ?_)
    refine wpAny_bind (wpAny_field hz' rfl (x := Value.ref TO) rfl ?_)
    refine wpAny_bind (wpAny_setField_rec hz' (by simp) fun p0 zz0 s0 => ?_)
    replace zz0 : ZF p0 z TI TO .ellipsis f := zz0
    replace s0 : Heap.SameBut z hp p0 := s0
    refine wpAny_bind ?_
    simp only [List.zipIdx_cons, List.zipIdx_nil, List.forIn_cons, List.forIn_nil]
    refine wpAny_bind (wpAny_bind (wpAny_onRaise ?_))
    show wpAny _ _ (nextOf (.ref i1) >>= _) _ _ ⟨p0, gens, dr, tk0, os⟩
    refine wpAny_bind (D1.done ⟨p0, gens, dr, tk0, os⟩ _ _ (D1.over st1 s0 S.zf1) fun q e hq he => ?_)
    replace hq : Heap.ExtBut i1 p0 q := hq
    obtain ⟨oe, hoe, hce⟩ := he
    replace hoe : q.get? e = some oe := hoe
    have zq : ZF q z TI TO .ellipsis f := hq _ _ S.zi1 zz0
    have hez : e ≠ z := fun x => by subst x; unfold ZF at zq; rw [zq] at hoe; cases hoe; simp at hce
    refine wpAny_setField_rec (s := ⟨q, gens, dr, tk0, os⟩) zq (by simp) fun q' _ hq' => ?_
    replace hq' : Heap.SameBut z q q' := hq'
    exact hE q' tk0 e (fun c o cz cT c1 c2 x => hq'.extBut _ _ cz (hq _ _ c1 (s0.extBut _ _ cz x))) ⟨oe, hq'.extBut _ _ hez hoe, hce⟩
  · simp only [Bool.false_eq_true, if_false]
    replace hs1 : Heap.SameBut z hp h1 := hs1
    refine wpAny_bind ?_
    rw [← Array.forIn_toList]
    simp only [List.forIn_cons, List.forIn_nil]
    refine wpAny_bind (wpAny_bind (wpAny_holding ?_))
    show wpAny _ _ (nextOf (.ref i1) >>= _) _ _ ⟨h1, gens, dr, tk0, os⟩
    refine wpAny_bind (D1.done ⟨h1, gens, dr, tk0, os⟩ _ _ (D1.over st1 hs1 S.zf1) fun q e hq he => ?_)
    exact hE q tk0 e (fun c o cz cT c1 c2 x => hq _ _ c1 (hs1.extBut _ _ cz x)) he
theorem next_N {Q : Option Value → Shared → Prop} (S : ZipSep2 z TI TO i1 i2 fp1 fp2) (D1 : Draws prog w A.in1 i1 fp1 n1 P1 St1) (D2 : Draws prog w A.in1 i2 fp2 n2 P2 St2) (hz : ZF s.heap z TI TO f0 f) (ad : Out f0)
    (hTI : IsTupOf2 s.heap TI (.ref i1) (.ref i2)) (hTO : IsTupOf2 s.heap TO a1 a2) (st1 : St1 i s.heap) (st2 : St2 i s.heap) (l1 : i < n1) (l2 : i < n2)
    (hQ : ∀ x1 x2 h' tk, Got P1 P2 St1 St2 z TI TO i1 i2 i s x1 x2 h' → Q (some (.ref s.heap.objs.size)) { s with heap := h', toks := tk }) : wpAny (model prog w) A (pyNext (.ref z)) Q E s := by
  have hT : s.TypeIs (.ref z) "zip" := ⟨_, hz, rfl⟩
  unfold pyNext
  exact wpAny_bind (wpAny_attempt (wpAny_callSpecial?_slot (name := Str.ofString "__next__") hT F.slot_zip_next
    (wpAny_call_entry F.slot_zip_next hT F.entry_zip_next (item_N S D1 D2 hz ad hTI hTO st1 st2 l1 l2 fun x1 x2 h' tk g => wpAny_pure (hQ x1 x2 h' tk g)) (F.args_zip_next_1 _))))
theorem stop_N {Q : Option Value → Shared → Prop} (S : ZipSep2 z TI TO i1 i2 fp1 fp2) (D1 : Draws prog w A.in1 i1 fp1 i P1 St1) (hz : ZF s.heap z TI TO f0 f) (ad : Out f0) (hTI : IsTupOf2 s.heap TI (.ref i1) (.ref i2)) (st1 : St1 i s.heap)
    (hQ : ∀ h' tk, (∀ c o, c ≠ z → c ≠ TO → c ≠ i1 → c ≠ i2 → s.heap.get? c = some o → h'.get? c = some o) → Q none { s with heap := h', toks := tk }) : wpAny (model prog w) A (pyNext (.ref z)) Q E s := by
  have hT : s.TypeIs (.ref z) "zip" := ⟨_, hz, rfl⟩
  unfold pyNext
  refine wpAny_bind (wpAny_attempt (wpAny_callSpecial?_slot (name := Str.ofString "__next__") hT F.slot_zip_next
    (wpAny_call_entry F.slot_zip_next hT F.entry_zip_next (end_N S D1 hz ad hTI st1 fun h' tk e hk he => ?_) (F.args_zip_next_1 _))))
  obtain ⟨o, ho, hc⟩ := he
  exact wpAny_bind (wpAny_isInstance (T := "StopIteration") (b := true) ⟨o, ho, hc⟩ isSubtype_stop (wpAny_pure (hQ _ _ hk)))
end
/-- the tuples at a and b, side by side, in new pairs -/
def ItN (K : PySem.W.Frag) (a b : Addr) : It :=
  ⟨fun i H => ∃ (xs ys : List V) (x y : V), (SqT K H a xs ∧ SqT K H b ys) ∧ xs[i]? = some x ∧ ys[i]? = some y,
   fun i H v H' => ∃ T x y, (v = .ref T ∧ H T = none ∧ H' = upd H T (.tup [x, y])) ∧ (∀ xs, SqT K H a xs → xs[i]? = some x) ∧ ∀ ys, SqT K H b ys → ys[i]? = some y,
   fun i H => ∃ xs : List V, SqT K H a xs ∧ xs.length = i⟩
theorem turnN {P : Program} {w : World} {K : PySem.W.Frag} {y : Str} {tpos : Pos} {a b z TI TO i1 i2 : Addr} (D : ZipM.Apt z TI TO i1 i2 a b) :
    Turn P w K (.Name y tpos) (ItN K a b) [z, TI, TO, i1, i2] z (fun i h => ((∃ f0 f, ZF h z TI TO f0 f ∧ Out f0) ∧ IsTupOf2 h TI (.ref i1) (.ref i2) ∧ ∃ x y, IsTupOf2 h TO x y) ∧ h.IsTupleIter i1 a i ∧ h.IsTupleIter i2 b i) where
  mem := List.mem_cons_self
  obj := by
    rintro i h ⟨⟨⟨f0, f, hz, _⟩, hTI, x, y, hTO⟩, ⟨o1, e1, c1, d1⟩, o2, e2, c2, d2⟩ c hc
    simp only [List.mem_cons, List.not_mem_nil, or_false] at hc
    rcases hc with rfl | rfl | rfl | rfl | rfl
    · exact ⟨_, hz, fun v q => nomatch q⟩
    · exact ⟨_, hTI, fun v q => nomatch q⟩
    · exact ⟨_, hTO, fun v q => nomatch q⟩
    · exact ⟨o1, e1, fun v q => (by rw [d1] at q; cases q)⟩
    · exact ⟨o2, e2, fun v q => (by rw [d2] at q; cases q)⟩
  keep := by
    rintro i h h' ⟨⟨⟨f0, f, hz, ad⟩, hTI, x, y, hTO⟩, h1, h2⟩ k
    exact ⟨⟨⟨f0, f, k z (by simp) _ hz, ad⟩, k TI (by simp) _ hTI, x, y, k TO (by simp) _ hTO⟩, h1.at (fun o q => k i1 (by simp) o q), h2.at fun o q => k i2 (by simp) o q⟩
  item := by
    intro X hP hw hK hc i pins s σ H E I hf st hg
    subst hP hw hK
    obtain ⟨⟨⟨f0, f, hz, ad⟩, hTI, x0, y0, hTO⟩, h1, h2⟩ := st
    obtain ⟨xs, ys, x, y, ⟨qx, qy⟩, hx, hy⟩ := hg
    obtain ⟨its, rv, p1, _⟩ := I.tuple qx
    obtain ⟨its2, rv2, p2, _⟩ := I.tuple qy
    obtain ⟨u, hu, ru⟩ := rv.get hx
    obtain ⟨u2, hu2, ru2⟩ := rv2.get hy
    have lt1 : i < its.toArray.size := by simpa using (List.getElem?_eq_some_iff.mp hu).1
    have lt2 : i < its2.toArray.size := by simpa using (List.getElem?_eq_some_iff.mp hu2).1
    have hzl : z < s.heap.objs.size := Heap.lt_size hz
    refine next_N D.s2 (Draws.tuple (A := X.A.in1) (I.ok.hd hc) i1 a D.a1 its.toArray) (Draws.tuple (A := X.A.in1) (I.ok.hd hc) i2 b D.b2 its2.toArray) hz ad hTI hTO ⟨h1, p1⟩ ⟨h2, p2⟩ lt1 lt2 fun v1 v2 h' tk g => ?_
    obtain ⟨z', TO', e1, e2, st1, st2, hT, hsz, hk⟩ := g
    obtain rfl : v1 = u := Option.some.inj ((show its[i]? = some v1 by simpa using e1).symm.trans hu)
    obtain rfl : v2 = u2 := Option.some.inj ((show its2[i]? = some v2 by simpa using e2).symm.trans hu2)
    refine ⟨_, rfl, wpAny_pure ?_⟩
    have new : ObjOk X.prog X.w (upd H s.heap.objs.size (.tup [x, y])) h' s.heap.objs.size (.tup [x, y]) := ⟨(by show 2 ≤ sizeLine; decide), [v1, v2], .cons ru (.cons ru2 .nil), _, hT, rfl, _, rfl⟩
    have I1 := I.turnedNew (t' := tk) (ch := [z, TI, TO, i1, i2]) (h' := h') (fun c o hb q => hk c o (fun e => hb (by simp [e])) (fun e => hb (by simp [e])) (fun e => hb (by simp [e])) (fun e => hb (by simp [e])) q) hf (Nat.le_refl _) new
    refine ⟨.ref s.heap.objs.size, _, I1, rfl, ⟨_, x, y, ⟨rfl, I.hok.fresh (Nat.le_refl _), rfl⟩, fun l hl => (by rw [I.tuple_inj hl qx]; exact hx), fun l hl => by rw [I.tuple_inj hl qy]; exact hy⟩, ⟨⟨z', ?_, TO'⟩, st1.1, st2.1⟩, fun c hcm => ?_⟩
    · exact hk _ _ D.s2.TIz D.s2.TITO D.s2.TIi1 D.s2.TIi2 hTI
    · have lt : c < s.heap.objs.size := by
        obtain ⟨o1, e1, _⟩ := h1
        obtain ⟨o2, e2, _⟩ := h2
        simp only [List.mem_cons, List.not_mem_nil, or_false] at hcm
        rcases hcm with rfl | rfl | rfl | rfl | rfl
        · exact hzl
        · exact Heap.lt_size hTI
        · exact Heap.lt_size hTO
        · exact Heap.lt_size e1
        · exact Heap.lt_size e2
      rw [upd_ne (Nat.ne_of_lt lt)]
      exact (hf c hcm).1
  done := by
    intro X hP hw hK hc i pins s σ H E I hf st hg
    subst hP hw hK
    obtain ⟨⟨⟨f0, f, hz, ad⟩, hTI, x0, y0, hTO⟩, h1, h2⟩ := st
    obtain ⟨xs, qx, hend⟩ := hg
    obtain ⟨its, rv, p1, _⟩ := I.tuple qx
    have l1 := rv.length
    subst hend
    exact stop_N D.s2 (ZipM.doneT (A := X.A.in1) (I.ok.hd hc) i1 a its.toArray xs.length (by simp [l1])) hz ad hTI ⟨rfl, h1, p1⟩ fun h' tk hk =>
      ⟨rfl, I.turnedL (t' := tk) (ch := [z, TI, TO, i1, i2]) (fun c o hb q => hk c o (fun e => hb (by simp [e])) (fun e => hb (by simp [e])) (fun e => hb (by simp [e])) (fun e => hb (by simp [e])) q) hf⟩
  self := fun A i s Q E st h => by
    obtain ⟨⟨⟨f0, f, hz, _⟩, _⟩, _⟩ := st
    have hT : s.TypeIs (.ref z) "zip" := ⟨_, hz, rfl⟩
    refine wpAny_pyIter_slot hT F.slot_zip_iter (wpAny_call_entry F.slot_zip_iter hT F.entry_zip_iter ?_ (F.args_zip_iter_1 _))
    exact wpAny_pure ⟨.ref z, rfl, "zip", _, hT, F.slot_zip_next.lookup, h⟩
def iZipN (K : PySem.W.Frag) (ta : TA) : TI := fun σ H R => ta σ H fun vs H1 => ∃ a b xs ys, vs = [.ref a, .ref b] ∧ SqT K H1 a xs ∧ SqT K H1 b ys ∧ R (ItN K a b) H1
theorem pi_zipN {X : Cx} {e e2 : Expr} {ta : TA} {p pos tpos : Pos} {y : Str} (hg : Gl X "zip") (hm : X.mg "zip" = none) (ha : PA X [e, e2] ta) (hs : starEach [e, e2] X.env = (false, eval e X.env) :: starEach [e2] X.env := by rfl)
    (hpl : (backTo pos (starEach [e2] X.env)).any (·.1) = false := by rfl) : PI X (.Name y tpos) (.Call (.Name "zip" p) [e, e2] [] pos) (iZipN X.K ta) := by
  constructor
  intro pins s σ H R I h
  refine Call_ (ld_blt I hg hm PyProof.Rows.boot_zip (PyProof.Rows.callWith_type1 (thn (ha.run pos pins s σ H _ I h) fun us s1 ⟨vs, H1, I1, r1, a, b, xs, ys, ex, qx, qy, q⟩ => ?_) hs hpl))
  subst ex
  rcases r1 with _ | ⟨r, rr⟩
  rcases rr with _ | ⟨r', rr⟩
  cases rr
  cases r
  cases r'
  obtain ⟨its, rv, p1, _⟩ := I1.tuple qx
  obtain ⟨its2, rv2, p2, _⟩ := I1.tuple qy
  obtain ⟨o1, ho1, _⟩ := id p1
  obtain ⟨o2, ho2, _⟩ := id p2
  refine zip_begins2 (begins_tuple a its.toArray) (begins_tuple b its2.toArray) p1 p2 fun h' hz hTI hTO g1 g2 hsz hk => wpAny_pyIter_zip hz ?_
  refine ⟨s1.heap.objs.size + 4, [s1.heap.objs.size + 4, s1.heap.objs.size + 2, s1.heap.objs.size + 3, s1.heap.objs.size, s1.heap.objs.size + 1], _, _, H1, rfl, I1.kept (t' := s1.toks) hk, turnN (ZipM.apt s1.heap.objs.size a b (Heap.lt_size ho1) (Heap.lt_size ho2)), ⟨⟨⟨_, _, hz, .inl rfl⟩, hTI, _, _, hTO⟩, ⟨_, g1, rfl, rfl⟩, _, g2, rfl, rfl⟩, fun c hcm => ?_, q⟩
  have le : s1.heap.objs.size ≤ c := by
    simp only [List.mem_cons, List.not_mem_nil, or_false] at hcm
    have ge : ∀ n m : Nat, n ≤ n + m := fun n m => Nat.le_add_right n m
    rcases hcm with rfl | rfl | rfl | rfl | rfl
    · exact ge _ _
    · exact ge _ _
    · exact ge _ _
    · exact Nat.le_refl _
    · exact ge _ _
  exact I1.fpOk le (I1.hok.fresh le)
end ZipN
end

-- OwnInv
section
set_option Elab.async false
set_option linter.all false
set_option maxRecDepth 100000
/-! own ~x and len(x). -/
namespace OwnOps
open PySem L2
section
variable {X : Cx} {CX : CXT} {C g f : Addr} {k : Nat} {fd : FuncData} {ps : List Str} {sp : Sp} {E : XK}
theorem inv_own (hs : PySem.W.findIn X.K (.ref C) "__invert__" = some (some (.ref g))) (hf : PySem.W.isFn X.K (.ref g) = true) (F : FnOk X.prog X.w X.K X.mg X.base CX k g fd ps sp) (hr : Room k X.A) (hb : Binds X.K fd ps []) (hx : Passes CX X E) :
    UnR X (unaryOp .Invert) (rOwn1 C sp E fun _ => True) := by
  intro pins s σ H x v Q I rx ⟨a, dx, fs, e, ha, q⟩
  subst e
  cases (show v = Value.ref a from rx)
  obtain ⟨od, J⟩ := inst_at I ha
  obtain ⟨m, hF⟩ := I.fr
  refine PySem.W.ksp_inv hF I.ok.mod.kin J hs hf (wpAny_mono (run_any (us := [.ref a]) (vs := [.ref a]) F hr I.env0 hb hx I (.cons rfl .nil) q) (fun w s' ⟨z', H', I', rz, _, qz⟩ => ⟨z', H', I', rz, qz⟩) fun _ _ e => e)
/-- len(x) by x's own def -/
def rLenO (C : Addr) (sp : Sp) (E : XK) : List V → Hp → VK → Prop := fun xs H Q => ∃ a dx fs, xs = [.ref a] ∧ H a = some (.ins C dx fs) ∧ sp [.ref a] H (fun v H' => ∃ n : Int, v = .int n ∧ 0 ≤ n ∧ n < 2 ^ 63 ∧ Q (.int n) H') E
theorem call_lenO (hs : PySem.W.findIn X.K (.ref C) "__len__" = some (some (.ref g))) (hf : PySem.W.isFn X.K (.ref g) = true) (F : FnOk X.prog X.w X.K X.mg X.base CX k g fd ps sp) (hr : Room (k + 1) X.A) (hb : Binds X.K fd ps []) (hx : Passes CX X E) :
    CallR X (.builtin "len") (rLenO C sp E) := by
  intro pins s σ H xs us Q I rx ⟨a, dx, fs, e, ha, q⟩
  subst e
  obtain ⟨u, rfl, ru⟩ := vals1 rx
  cases (show u = Value.ref a from ru)
  obtain ⟨od, J⟩ := inst_at I ha
  obtain ⟨m, hF⟩ := I.fr
  refine PySem.W.len_K hF I.ok.mod.kin J hs hf (wpAny_mono (run_any (us := [.ref a]) (vs := [.ref a]) F hr.in1 I.env0.in1 hb hx I (.cons rfl .nil) q) (fun w s' ⟨z', H', I', rz, n, e, n0, n1, qz⟩ => ?_) fun _ _ e => e)
  subst e
  obtain ⟨t, rfl⟩ := rz
  exact ⟨⟨n0, n1⟩, .int n, H', I'.tok _, ⟨_, rfl⟩, qz⟩
end
end OwnOps
end

-- OwnItem
section
set_option Elab.async false
set_option linter.all false
set_option maxRecDepth 100000
/-! own x[i] and x[i] = v. -/
namespace OwnOps
open PySem PyProof.Rows L2
section
variable {X : Cx} {CX : CXT} {C g : Addr} {k : Nat} {fd : FuncData} {ps : List Str} {sp : Sp} {E : XK} {o i : Expr} {to ti : TE} {pos : Pos}
def tItemO (C : Addr) (sp : Sp) (E : XK) (to ti : TE) : TE := fun σ H Q => to σ H fun x H1 => ti σ H1 fun y H2 => ∃ a dx fs, x = .ref a ∧ H2 a = some (.ins C dx fs) ∧ sp [.ref a, y] H2 Q E
theorem pe_itemO (hs : PySem.W.findIn X.K (.ref C) "__getitem__" = some (some (.ref g))) (hf : PySem.W.isFn X.K (.ref g) = true) (hi : PySem.W.fnIn X.K g = true) (F : FnOk X.prog X.w X.K X.mg X.base CX k g fd ps sp) (hr : Room (k + 1) X.A) (hb : Binds X.K fd ps []) (hx : Passes CX X E)
    (ho : PE X o to) (he : PE X i ti) (hsl : ∀ ov iv, subscripted i true ov iv = runValue (.builtin "lifetime.subscript" ⟨[ov, iv], []⟩) := by intro _ _; rfl) : PE X (.Subscript o i pos) (tItemO C sp E to ti) := by
  refine ⟨fun pins s σ H Q I h => ?_⟩
  refine Subscript_ (thn (ho.run pins s σ H _ I h) fun u s1 ⟨x, H1, I1, rx, q1⟩ => thn (he.run pins s1 σ H1 _ I1 q1) fun iv s2 ⟨y, H2, I2, ry, a, dx, fs, ex, ha, q2⟩ => ?_)
  subst ex
  cases (show u = Value.ref a from rx)
  obtain ⟨od, J⟩ := inst_at I2 ha
  obtain ⟨m, hF⟩ := I2.fr
  refine PySem.W.sub_K hF I2.ok.mod.kin J hs hi hf (run_any (us := [.ref a, iv]) (vs := [.ref a, y]) F hr.in1 I2.env0.in1 hb hx I2 (.cons rfl (.cons ry .nil)) q2) (hsl _ _)
def sItemO (C : Addr) (sp : Sp) (E : XK) : TSet := fun o i v H Q => ∃ a dx fs, o = .ref a ∧ H a = some (.ins C dx fs) ∧ sp [.ref a, i, v] H (fun _ H' => Q H') E
theorem pset_O (hq : PySem.W.noSeq X.K C = true) (hs : PySem.W.findIn X.K (.ref C) "__setitem__" = some (some (.ref g))) (hf : PySem.W.isFn X.K (.ref g) = true) (F : FnOk X.prog X.w X.K X.mg X.base CX k g fd ps sp) (hr : Room k X.A) (hb : Binds X.K fd ps []) (hx : Passes CX X E) :
    PSet X (sItemO C sp E) := by
  intro pins s σ H o i v ov iv u Q I ro ri rv ⟨a, dx, fs, e, ha, q⟩
  subst e
  cases (show ov = Value.ref a from ro)
  obtain ⟨od, J⟩ := inst_at I ha
  obtain ⟨m, hF⟩ := I.fr
  refine PySem.W.ksp_setItem hF I.ok.mod.kin J hq hs hf (wpAny_mono (run_any (us := [.ref a, iv, u]) (vs := [.ref a, i, v]) F hr I.env0 hb hx I (.cons rfl (.cons ri (.cons rv .nil))) q) (fun w s' ⟨z', H', I', rz, qz⟩ => ⟨H', I', qz⟩) fun _ _ e => e)
end
end OwnOps
end

-- KeyErr
section
set_option Elab.async false
set_option linter.all false
set_option maxRecDepth 100000
set_option maxHeartbeats 2000000
/-! An own error class over KeyError: it is made by LookupError's __new__, so its line of classes is longer than that one's. -/
namespace PySem
namespace Giv
open PySem.W PySem.Calls PyProof.Rows PySem.HandSPX Builtin Builtin.ObjectAttr
abbrev keT : List Value := [.type "KeyError", .type "LookupError", .type "Exception", .type "BaseException", .type "object"]
theorem ke_pass (self : Value) : refuseLoop self "__setattr__" keT = pure () := by
  kernel_rfl
section
variable {M : Model} {A : Around} {E : Value → Shared → Prop} {hp : Heap} {gs : Array GenState} {dw : Drawn} {tk : Nat} {ot : OsState}
variable {n1 n2 : Str} {D N : Addr} {bl ln l0 : List Value} {hs : Bool} {sn : List Str} {su : List Value} {ab : Bool} {co : Option Bool} {dd : Option Addr} {j0 j1 j2 j3 j5 : Option Value} {B nw ini : String}
/-- what the class's line of classes is asked -/
structure Line (B : String) (ln : List Value) : Prop where
  own : ln.contains (.type B) = true
  att : ln.contains (.type "AttributeError") = false
  nam : ln.contains (.type "NameError") = false
theorem Line.own' (z : Line B ln) : (Value.ref D :: ln).contains (.type B) = true := by rw [List.contains_cons, z.own, Bool.or_true]
theorem Line.att' (z : Line B ln) : (Value.ref D :: ln).contains (.type "AttributeError") = false := by rw [List.contains_cons, z.att] <;> rfl
theorem Line.nam' (z : Line B ln) : (Value.ref D :: ln).contains (.type "NameError") = false := by rw [List.contains_cons, z.nam] <;> rfl
abbrev clsO (n1 n2 : Str) (D N : Addr) (bl ln : List Value) (hs : Bool) (sn : List Str) (su : List Value) (ab : Bool) (co : Option Bool) (dd : Option Addr) (j0 j1 j2 j3 j5 : Option Value) (nw : String) : Obj := excClassObj n1 n2 D N bl ln hs sn su ab co dd j0 j1 j2 j3 j5 nw
theorem asks_new (Z : ExcBaseFacts B nw ini l0) (z : Line B ln) {more : List Value} {Q : Unit → Shared → Prop} (at_ : hp.get? D = some (clsO n1 n2 D N bl ln hs sn su ab co dd j0 j1 j2 j3 j5 nw)) (q : Q () ⟨hp, gs, dw, tk, ot⟩) :
    wpAny M A (checkBuiltinCall nw ⟨.ref D :: more, []⟩) Q E ⟨hp, gs, dw, tk, ot⟩ := by
  have y := z.own' (D := D)
  have st := Z.noStar
  simp only [checkBuiltinCall, Z.newKind, Z.newSplit, Z.newRow]
  repeat (first
    | refine wpAny_loadPart_at at_ ?_
    | (refine wpAny_isSubtype_exc at_ ?_; rw [y])
    | refine wpAny_staticBase_exc at_ ?_
    | refine wpAny_madeBy_exc at_ ?_
    | simp only [bne_self_eq_false, Bool.false_eq_true, if_false]
    | wp_step)
  exact q
end
section
variable {prog : Program} {w : World} {A : Around} {E : Value → Shared → Prop} {R : Result → Shared → Prop} {hp : Heap} {gs : Array GenState} {dw : Drawn} {tk : Nat} {ot : OsState}
variable {n1 n2 : Str} {D N : Addr} {bl ln l0 : List Value} {hs : Bool} {sn : List Str} {su : List Value} {ab : Bool} {co : Option Bool} {dd : Option Addr} {j0 j1 j2 j3 j5 : Option Value} {B nw ini : String}
theorem runs_new (Z : ExcBaseFacts B nw ini l0) (z : Line B ln) {more : List Value} (at_ : hp.get? D = some (clsO n1 n2 D N bl ln hs sn su ab co dd j0 j1 j2 j3 j5 nw)) (few : more.length ≤ sizeLine)
    (q : R (.ok (.ret (.ref (hp.objs.size + 1)))) ⟨(hp.push (W.kdv_tup more)).push (excO D hp.objs.size), gs, dw, tk, ot⟩) :
    codeAny (model prog w) A (.builtin nw ⟨.ref D :: more, []⟩) R ⟨hp, gs, dw, tk, ot⟩ := by
  have e0 := Z.ends
  have y0 := z.own' (D := D)
  have y1 := z.att' (D := D)
  have y2 := z.nam' (D := D)
  refine codeAny_builtinAt Z.entry ?_
  unfold Builtin.«BaseException.__new__»
  refine wpAt_bind ?_
  show wpAt _ _ _ (stack >>= _) _ _ _
  refine wpAt_bind (wpAt_stack fun _ _ => wpAt_of_wpAny ?_)
  wp_walk
  refine wpAt_of_wpAny ?_
  rw [Z.owner]
  repeat (first
    | with_reducible refine wpAny_madeHere_exc Z.canon at_ ?_
    | with_reducible refine wpAny_loadPart_at at_ ?_
    | (with_reducible refine wpAny_isSubtype_exc at_ ?_
       first | rw [y0] | rw [y1] | rw [y2])
    | wp_step)
  show R _ _
  rw [Heap.size_push]
  exact q
theorem makes (Z : ExcBaseFacts B nw ini l0) (z : Line B ln) {more : List Value} {fi : Addr} {Q : Fin → Shared → Prop} (at_ : hp.get? D = some (clsO n1 n2 D N bl ln hs sn su ab co dd j0 j1 j2 j3 j5 nw)) (few : more.length ≤ sizeLine)
    (li : W.Looks (model prog w) hp (typeLookup (.ref D) "__init__") (some (.ref fi))) (lb : ∀ x, W.Looks (model prog w) hp (bindSpecial (.ref fi) x) (.ref fi, [x]))
    (q : codeAny (model prog w) A (.call (.ref fi) ⟨.ref (hp.objs.size + 1) :: more, []⟩)
      (fun r s' => match r with
        | .ok (.ret v) => v = .none ∧ Q (.done (.ret (.ref (hp.objs.size + 1)))) s'
        | .ok _ => False
        | .error e => E e s') ⟨(hp.push (W.kdv_tup more)).push (excO D hp.objs.size), gs, dw, tk, ot⟩) :
    wpAny (model prog w) A (Builtin.«type.__call__» ⟨.ref D :: more, []⟩) Q E ⟨hp, gs, dw, tk, ot⟩ := by
  repeat (first
    | with_reducible refine wpAny_loadPart_at at_ ?_
    | with_reducible refine wpAny_madeBy_exc at_ ?_
    | wp_step)
  refine codeAny_call_builtin_code (Code.quiet_builtin _ Z.quiet) (asks_new Z z at_ (runs_new Z z at_ few ?_))
  show wpAny _ _ _ _ _ _
  have old : ∀ b o, hp.get? b = some o → ((hp.push (W.kdv_tup more)).push (excO D hp.objs.size)).get? b = some o := fun b o e => Heap.get?_push_of_some _ (Heap.get?_push_of_some _ e)
  have at2 := old _ _ at_
  have new : ((hp.push (W.kdv_tup more)).push (excO D hp.objs.size)).get? (hp.objs.size + 1) = some (excO D hp.objs.size) := by heap_get
  have self : (Value.ref D :: ln).contains (.ref D) = true := by simp
  have l1 := li.keeps old
  have l2 := (lb (.ref (hp.objs.size + 1))).keeps old
  unfold isInstance
  repeat (first
    | with_reducible refine wpAny_loadPart_at new ?_
    | (with_reducible refine wpAny_isSubtype_exc at2 ?_; rw [self])
    | wp_step)
  show wpAny _ _ (typeLookup (.ref D) _) _ _ _
  refine l1.at ?_
  refine wpAny_holding (wpAny_bind (l2.at ?_))
  refine wpAny_bind (wpAny_call (codeAny_mono q fun r s' x => ?_))
  rcases r with e | (v | _ | _ | _) <;> first | exact x | exact x.elim | skip
  obtain ⟨rfl, x⟩ := x
  first | exact wpAny_pure (wpAny_pure x) | (wp_walk; exact x)
theorem called (Z : ExcBaseFacts B nw ini l0) (z : Line B ln) {more : List Value} {fi : Addr} (at_ : hp.get? D = some (clsO n1 n2 D N bl ln hs sn su ab co dd j0 j1 j2 j3 j5 nw)) (few : more.length ≤ sizeLine)
    (li : W.Looks (model prog w) hp (typeLookup (.ref D) "__init__") (some (.ref fi))) (lb : ∀ x, W.Looks (model prog w) hp (bindSpecial (.ref fi) x) (.ref fi, [x]))
    (q : codeAny (model prog w) (A.under (.builtin "type.__call__" ⟨.ref D :: more, []⟩)) (.call (.ref fi) ⟨.ref (hp.objs.size + 1) :: more, []⟩) (W.InitBack (hp.objs.size + 1) R)
      ⟨(hp.push (W.kdv_tup more)).push (excO D hp.objs.size), gs, dw, tk, ot⟩) :
    codeAny (model prog w) A (.call (.ref D) ⟨more, []⟩) R ⟨hp, gs, dw, tk, ot⟩ := by
  have a1 := tc_lookup
  have a2 := tc_bind (.ref D)
  have ty : (⟨hp, gs, dw, tk, ot⟩ : Shared).TypeIs (.ref D) "type" := ⟨_, at_, rfl⟩
  refine codeAny_of_tree ?_
  show wpAny _ _ (callAny (.ref D) _) _ _ _
  repeat (any_goals (first
    | assumption
    | with_reducible refine wpAny_loadPart_at at_ ?_
    | wp_step))
  refine ⟨rfl, ?_⟩
  refine codeAny_call_builtin_at (Code.quiet_builtin _ (by decide +kernel)) entry_typeCall ?_
  refine wpAny_check_type_call_sub at_ (makes Z z at_ few li lb ?_)
  refine codeAny_mono q fun r s' x => ?_
  rcases r with e | (v | _ | _ | _) <;> exact x
end
end Giv
end PySem
end

-- KeyErr2
section
set_option Elab.async false
set_option linter.all false
set_option maxRecDepth 100000
set_option maxHeartbeats 2000000
namespace PySem
namespace Giv
open PySem.W PySem.Calls PyProof.Rows PySem.HandSPX Builtin Builtin.ObjectAttr
theorem line_of {B : String} {bt bm : List Value} (h : tailIs bt bm = true) (z : Line B bt) : Line B bm := ⟨(tail_has _ _ h).trans z.own, (tail_has _ _ h).trans z.att, (tail_has _ _ h).trans z.nam⟩
/-- a class of errors whose line ends with bt, made by newId -/
structure BaseL (newId : String) (bt : List Value) : Prop where
  base : ∃ B ini l0, ExcBaseFacts B newId ini l0 ∧ Line B bt
  pass : ∀ self, refuseLoop self "__setattr__" bt = pure ()
  obj : bt.contains (.type "object") = true
theorem ke_L : BaseL "LookupError.__new__" keT := ⟨⟨_, _, _, F.excBase_LookupError, ⟨by decide +kernel, by decide +kernel, by decide +kernel⟩⟩, ke_pass, by decide +kernel⟩
section
variable {prog : Program} {w : World} {A : Around} {E : Value → Shared → Prop} {R : Result → Shared → Prop} {s : Shared} {K : Frag} {mg : Str → Option Value} {C fI : Addr} {cn qn : Str} {newId : String} {bt : List Value}
theorem giv_initL (Z : BaseL newId bt) (T : ErrTxt K mg cn qn newId bt C fI) {x t0 : Addr} {v : Value} (X : K.In s.heap) (hlim : s.heap.NoLimit) (hx : s.heap.get? x = some (excO C t0)) (hroom : A.depth < recursionLimit)
    (hq : ∀ h' tk dx, GivEnd s.heap h' x C dx t0 v → R (.ok (.ret .none)) { s with heap := h', toks := tk }) :
    codeAny (model prog w) A (.call (.ref fI) ⟨[.ref x, v], []⟩) R s := by
  obtain ⟨oc, od, doc, pm, an, cdv, ct, osl, p1, p2, q1, q2, q3, q4, ho, hcd⟩ := T.fn
  obtain ⟨nm, q, N, bs, bm, sn, sub, ab, col, dd, k0, k1, k2, k3, k5, hC, hbm⟩ := T.cls
  have hcl : clsIn K C = some { name := nm, bases := bs, mro := .ref C :: bm, ns := N, qualname := q, hasDict := true, slotNames := sn, subclasses := sub, abstract := ab, collection := col, hasDel := false } := by unfold clsIn; rw [hC] <;> rfl
  refine Att.call_fn (binds := [("self", .ref x), ("given", v)]) X hlim ho hcd hroom (BindsTo.of_eq (by first | rfl | with_unfolding_all rfl)) (by first | rfl | decide | with_unfolding_all rfl) (fun s₁ IC => ?_) rfl rfl rfl
  obtain ⟨h₁, tk₁, rfl⟩ := IC.toInCall.same
  have k : ∀ b o, s.heap.get? b = some o → h₁.get? b = some o := IC.toInCall.keep
  have hn := IC.toInCall.ns
  have X₁ : K.In h₁ := X.keeps k
  have hx₁ := k _ _ hx
  show wpAny _ _ (execs _ _) _ _ _
  refine wpAny_execs_cons (plainObj_wpAny_Assign_Attribute ?_)
  refine ldG (v := v) hn (by first | rfl | with_unfolding_all rfl | kernel_rfl) (ldG (v := .ref x) hn (by first | rfl | with_unfolding_all rfl | kernel_rfl) ?_)
  refine set_plain X₁ (ox := excO C t0) (od := none) ⟨hx₁, rfl, rfl, trivial⟩ T.sa ?_
  refine osa_giv Z.pass Z.obj X₁ hx₁ hcl rfl hbm rfl T.noN (fun h₃ tk₃ dx k₃ dn dne hx₃ hn₃ => ?_)
  show wpAny _ _ (execs _ _) _ _ _
  have z : s.heap.objs.size < h₁.objs.size := hn.lt
  exact wpAny_execs_nil (hq h₃ tk₃ dx ⟨fun b o hb e => k₃ b o hb (k b o e), hx₃, Nat.le_of_lt (Nat.lt_of_lt_of_le z dn), dne, hn₃⟩)
theorem giv_madeL (Z : BaseL newId bt) (T : ErrTxt K mg cn qn newId bt C fI) {v : Value} (X : K.In s.heap) (hlim : s.heap.NoLimit) (hroom : A.depth + 1 < recursionLimit)
    (hq : ∀ h' tk e d, GivMade s.heap h' e C d v → R (.ok (.ret (.ref e))) { s with heap := h', toks := tk }) :
    codeAny (model prog w) A (.call (.ref C) ⟨[v], []⟩) R s := by
  obtain ⟨nm, q, N, bs, bm, sn, sub, ab, col, dd, k0, k1, k2, k3, k5, hC, hbm⟩ := T.cls
  obtain ⟨B, ini, l0, ZF, ZL⟩ := Z.base
  obtain ⟨hp, g, dr, tk, os⟩ := s
  have k : ∀ b o, hp.get? b = some o → ((hp.push (kdv_tup [v])).push (excO C hp.objs.size)).get? b = some o := fun b o e => Heap.get?_push_of_some _ (Heap.get?_push_of_some _ e)
  have hget : ((hp.push (kdv_tup [v])).push (excO C hp.objs.size)).get? (hp.objs.size + 1) = some (excO C hp.objs.size) := by heap_get
  refine called ZF (line_of hbm ZL) (X _ _ hC) (one_fits v) (looks_findIn X T.iC) (fun self => bind_fn X self T.tC) ?_
  refine giv_initL (s := ⟨(hp.push (kdv_tup [v])).push (excO C hp.objs.size), g, dr, tk, os⟩) Z T (X.keeps k) (hlim.keeps k) hget ?_ fun h' tk' dx ⟨k', hx, dn, dne, hns⟩ => ?_
  · show A.depth + 1 < recursionLimit
    exact hroom
  · have old : ∀ b o, hp.get? b = some o → h'.get? b = some o := fun b o e => k' b o (Nat.ne_of_lt (Nat.lt_succ_of_lt (Heap.lt_size e))) (k b o e)
    have z : hp.objs.size + 1 + 1 ≤ dx := by
      first
        | (simpa only [Heap.size_push] using dn)
        | exact dn
        | (have q := dn; rw [Heap.size_push, Heap.size_push] at q; exact q)
    exact ⟨rfl, hq h' tk' (hp.objs.size + 1) dx ⟨old, Nat.le_succ _, ⟨_, _, hx, rfl, rfl, rfl, rfl⟩, Nat.le_trans (Nat.le_trans (Nat.le_succ _) (Nat.le_succ _)) z, dne, hns⟩⟩
end
end Giv
end PySem
namespace L2
open PySem PySem.Spec PyProof.Rows
section
variable {X : Cx} {C fI : Addr} {cn qn : Str} {newId : String} {bt : List Value}
theorem pmk_givL {a : Expr} {ta : TA} {p pos : Pos} {k : Nat} (Z : PySem.Giv.BaseL newId bt) (T : PySem.Giv.ErrTxt X.K X.mg cn qn newId bt C fI) (hr : Room k X.A) (ha : PA X [a] ta) (hg : Gl X cn) (hdb : (cn == ("__debug__" : Str)) = false)
    (he : starEach (a :: []) X.env = (false, eval a X.env) :: starEach [] X.env := by rfl) (hpl : (backTo pos (starEach [] X.env)).any (·.1) = false := by rfl) :
    PMk X (.Call (.Name cn p) [a] [] pos) (tMkGiv C ta) := by
  intro pins s σ H Q I h
  refine wpAny_Call_Name_kw (ld_glob I hg T.gC ?_ hdb)
  refine PySem.W.callWith_K (h₀ := X.base) I.ok.mod.kin T.kC (thn (ha.run pos pins s σ H _ I h) fun us s1 hh => ?_) he hpl
  obtain ⟨vs, H1, I1, r1, v, ev, q1⟩ := hh
  subst ev
  refine ⟨I1.kIn, ?_⟩
  cases r1 with
  | cons rv rn =>
    rename_i v' us'
    cases rn
    show wpAny _ _ (call (.ref C) [v']) _ _ _
    have hlim := I1.nolimit
    obtain ⟨hp, g, dr, tk, os⟩ := s1
    refine wpAny_call (PySem.Giv.giv_madeL Z T I1.kIn hlim (by have := hr.dp; omega) fun h' tk' e d M => ?_)
    show MkP X pins σ Q (.ref e) ⟨h', g, dr, tk', os⟩
    obtain ⟨oe, fv, hoe, hc, hd, hdat, h1⟩ := M.obj
    have hns := M.ns
    obtain ⟨G', g1, g2⟩ := restrict h' fun b => decide (b ≠ e)
    have gk : ∀ b, b ≠ e → G'.get? b = h'.get? b := fun b hb => g1 b (decide_eq_true hb)
    have ge : G'.get? e = none := g2 e (by simp)
    have old : ∀ b o, hp.get? b = some o → G'.get? b = some o := fun b o q => (gk b (Nat.ne_of_lt (Nat.lt_of_lt_of_le (Heap.lt_size q) M.new))).trans (M.keep b o q)
    have ob : ObjOk X.prog X.w (upd H1 d (.xd [(("given" : Str), v)])) G' d (.xd [(("given" : Str), v)]) :=
      ⟨_, hns.at (fun o q => (gk d M.dne).trans q), fun f => relO_giv rv f⟩
    have J : L2.Inv X pins σ (upd H1 d (.xd [(("given" : Str), v)])) ⟨G', g, dr, tk', os⟩ := I1.laid (t' := tk') old M.dbig ob
    refine ⟨e, oe, fv, ⟨G', g, dr, tk', os⟩, _, .ref C, some d, rfl, J, fun b o q => ?_, ge, hoe, ⟨hc, hd⟩, hdat, h1, ?_, rfl, I1.bare, raises_own T.exC T.tyC, q1 d (I1.hok.fresh M.dbig)⟩
    · by_cases hb : b = e
      · have q' : G'.get? b = some o := q
        rw [hb, ge] at q'; cases q'
      · exact (gk b hb).symm.trans q
    · rw [upd_ne (Ne.symm M.dne)]
      exact I1.hok.fresh M.new
theorem ps_raiseL {a : Expr} {ta : TA} {W : WX} {p pos pos2 : Pos} {k : Nat} (hc : X.calm = true) (Z : PySem.Giv.BaseL newId bt) (T : PySem.Giv.ErrTxt X.K X.mg cn qn newId bt C fI) (hr : Room k X.A) (tk : Takes X W) (ha : PA X [a] ta) (hg : Gl X cn) (hdb : (cn == ("__debug__" : Str)) = false := by decide)
    (he : starEach (a :: []) X.env = (false, eval a X.env) :: starEach [] X.env := by rfl) (hpl : (backTo pos (starEach [] X.env)).any (·.1) = false := by rfl) :
    PS X (.Raise (some (.Call (.Name cn p) [a] [] pos)) none pos2) (tRaiseGiv C W ta) := ps_raise hc tk (pmk_givL Z T hr ha hg hdb he hpl)
end
end L2
end

-- L5s
section
set_option Elab.async false
set_option linter.all false
set_option maxRecDepth 100000
set_option exponentiation.threshold 10000
namespace SupX
open PySem PySem.Spec PyProof.Rows L2 StX
section
variable {X : Cx} {CX : CXT} {k : Nat} {f C : Addr} {sp : Sp} {E : XK} {x : Str} {e : Expr} {es : List Expr} {t : TA} {p pos : Pos}
/-- C(e, .., *y) -/
theorem pe_makeS (M : Mk X.K C f) (F : FnR X.prog X.w X.K X.mg X.base CX k f sp) (hr : Room (k + 1) X.A) (hg : Gl X x) (hm : X.mg x = some (.ref C)) (hx : Passes CX X E) (ha : PA X (e :: es) t) (hd : (x == ("__debug__" : Str)) = false := by decide)
    (he : starEach (e :: es) X.env = (false, eval e X.env) :: starEach es X.env := by rfl) (hst : (backTo pos (starEach es X.env)).any (·.1) = true := by rfl) : PE X (.Call (.Name x p) (e :: es) [] pos) (tMakeR C sp E t) := by
  refine ⟨fun pins s σ H Q I h => ?_⟩
  refine wpAny_Call_Name_kw (ld_glob I hg hm ?_ hd)
  refine PySem.W.callWith_S2 (h₀ := X.base) I.ok.mod.kin M.kp (thn (ha.run pos pins s σ H _ I h) fun us s1 ⟨vs, H1, I1, r, q⟩ => ⟨I1.kIn, ?_⟩) he hst
  exact run_makeR M F hr hx I1 r q
end
theorem bind_star3 {B : List Value → Sem (List (Str × Value))} {p1 p2 p3 pv : Str} (h0 : ∀ a b c, B [a, b, c] = (newTuple [] >>= fun t => pure [(p1, a), (p2, b), (p3, c), (pv, t)])) (h1 : ∀ a b c r rs, B (a :: b :: c :: r :: rs) = (newTuple (r :: rs) >>= fun t => pure [(p1, a), (p2, b), (p3, c), (pv, t)])) :
    ∀ us rest : List Value, us.length = [p1, p2, p3].length → B (us ++ rest) = (newTuple rest >>= fun t => pure ([p1, p2, p3].zip us ++ [(pv, t)]))
  | [a, b, c], [], _ => h0 a b c
  | [a, b, c], r :: rs, _ => h1 a b c r rs
end SupX
namespace R5
open PySem L2 OwnOps OwnNe G1 StX SupX
abbrev sPa (j : Nat) : Stmt := inClass (top 43) j
abbrev sFit : Stmt := top 44
/-- its own == is that of kinds -/
structure KEqC (K : PySem.W.Frag) (DK C : Addr) : Prop where
  eq : PySem.W.findIn K (.ref C) "__eq__" = PySem.W.findIn K (.ref DK) "__eq__"
  ne : PySem.W.findIn K (.ref C) "__ne__" = some (some (.builtin "object.__ne__"))
  nf : PySem.W.notFirst K C (.ref C) = true
  hm : PySem.W.mroIn K C (.type "object") = some true
/-- a kind, by its line and its pins -/
structure KV (K : PySem.W.Frag) (DK tp tg : Addr) (H : Hp) (kp : Addr) (l : Str) (pins : List Str) : Prop where
  ex : ∃ C dx fs pa, H kp = some (.ins C dx fs) ∧ KndC K DK tp tg C ∧ fs.lookup ("_line" : Str) = some (.str l) ∧ fs.lookup ("pins" : Str) = some (.ref pa) ∧ SqT K H pa (pins.map V.str)
  ok : ∀ y ∈ pins, PyData.strOk y = true
  ce : ∀ C dx fs, H kp = some (.ins C dx fs) → KEqC K DK C
section
variable {K : PySem.W.Frag} {DK tp tg CR CP p dx kp vp np : Addr} {H H' : Hp} {l : Str} {pins ns : List Str} {t b : Int}
theorem KV.same (h : KV K DK tp tg H kp l pins) (s : Same H H') : KV K DK tp tg H' kp l pins := let ⟨C, dx, fs, pa, h1, h2, h3, h4, h5⟩ := h.ex; ⟨⟨C, dx, fs, pa, s _ _ h1, h2, h3, h4, Same.tupS s h5⟩, h.ok, fun C2 d2 f2 e => by rw [s _ _ h1] at e; cases e; exact h.ce _ _ _ h1⟩
theorem KV.ki (h : KV K DK tp tg H kp l pins) : KndI K DK tp tg H kp l := let ⟨C, dx, fs, pa, h1, h2, h3, h4, h5⟩ := h.ex; ⟨C, dx, fs, h1, h2, h3⟩
theorem tupX {C dx a : Addr} {fs : List (Str × V)} {xs : List V} (hp : H p = some (.ins C dx fs)) (s : SameX p H H') (h : SqT K H a xs) : SqT K H' a xs := by
  have ne : ∀ o, H a = some o → (∀ C dx fs, o ≠ .ins C dx fs) → H' a = some o := fun o e n => s _ _ (fun z => by rw [z, hp] at e; exact n _ _ _ (Option.some.inj e).symm) e
  rcases h with (h | ⟨o, h⟩) | h
  · exact .inl (.inl (ne _ h fun _ _ _ z => by cases z))
  · exact .inl (.inr ⟨o, ne _ h fun _ _ _ z => by cases z⟩)
  · exact .inr h
def pf (kp vp np : V) : List (Str × V) := [("kind", kp), ("_value", vp), ("_nets", np)]
theorem pf_k (a b c : V) : (pf a b c).lookup ("kind" : Str) = some a := by kernel_rfl
theorem pf_v (a b c : V) : (pf a b c).lookup ("_value" : Str) = some b := by kernel_rfl
theorem pf_n (a b c : V) : (pf a b c).lookup ("_nets" : Str) = some c := by kernel_rfl
theorem pf_line (a b c : V) : (pf a b c).lookup ("_line" : Str) = none := by kernel_rfl
theorem pf_top (a b c : V) : (pf a b c).lookup ("top" : Str) = none := by kernel_rfl
theorem pf_none (a b c : V) {m : Str} (h1 : ¬ m = "kind") (h2 : ¬ m = "_value") (h3 : ¬ m = "_nets") : (pf a b c).lookup m = none := by
  unfold pf
  simp only [List.lookup_cons, beq_eq_false_iff_ne.mpr h1, beq_eq_false_iff_ne.mpr h2, beq_eq_false_iff_ne.mpr h3, List.lookup_nil]
theorem pf_put (a b c : V) : putF "_nets" c (putF "_value" b (putF "kind" a [])) = pf a b c := by kernel_rfl
theorem pf_pv (a b c v : V) : putF "_value" v (pf a b c) = pf a v c := by kernel_rfl
theorem pf_pn (a b c v : V) : putF "_nets" v (pf a b c) = pf a b v := by kernel_rfl
theorem pf_len (a b c : V) : (pf a b c).length < 1000 := by show 3 < 1000; decide
/-- a part -/
structure PartI (K : PySem.W.Frag) (DK tp tg CR CP : Addr) (H : Hp) (p dx kp : Addr) (l : Str) (pins : List Str) (t b : Int) (ns : List Str) : Prop where
  ex : ∃ vp np, H p = some (.ins CP dx (pf (.ref kp) (.ref vp) (.ref np))) ∧ KV K DK tp tg H kp l pins ∧ R5r.Rat CR H vp t b ∧ R5r.Vb t b ∧ SqT K H np (ns.map V.str) ∧ ns.length = pins.length ∧ ns.length ≤ 100 ∧ ∀ y ∈ ns, nm y = true ∧ shB y = true
theorem PartI.same (h : PartI K DK tp tg CR CP H p dx kp l pins t b ns) (s : Same H H') : PartI K DK tp tg CR CP H' p dx kp l pins t b ns :=
  let ⟨vp, np, h1, h2, h3, h4, h5, h6⟩ := h.ex; ⟨vp, np, s _ _ h1, h2.same s, h3.same s, h4, Same.tupS s h5, h6⟩
theorem KV.sx {C dx : Addr} {fs : List (Str × V)} (h : KV K DK tp tg H kp l pins) (hp : H p = some (.ins C dx fs)) (nl : fs.lookup ("_line" : Str) = none) (s : SameX p H H') : KV K DK tp tg H' kp l pins := by
  obtain ⟨C', dx', fs', pa, h1, h2, h3, h4, h5⟩ := h.ex
  have ne : kp ≠ p := fun z => by
    rw [z, hp] at h1
    cases h1
    rw [nl] at h3
    cases h3
  exact ⟨⟨C', dx', fs', pa, s _ _ ne h1, h2, h3, h4, tupX hp s h5⟩, h.ok, fun C2 d2 f2 e => by rw [s _ _ ne h1] at e; cases e; exact h.ce _ _ _ h1⟩
theorem rat_sx {C dx : Addr} {fs : List (Str × V)} (h : R5r.Rat CR H vp t b) (hp : H p = some (.ins C dx fs)) (nl : fs.lookup ("top" : Str) = none) (s : SameX p H H') : R5r.Rat CR H' vp t b := by
  obtain ⟨d, e⟩ := h
  refine ⟨d, s _ _ (fun z => ?_) e⟩
  rw [z, hp] at e
  cases e
  rw [R5r.flds_top] at nl
  cases nl
end
/-- what the class of parts has -/
structure PTx (K : PySem.W.Frag) (mg : Str → Option Value) (DK CP CKd fKd CNm fNm CIP fIP CUn fUn : Addr) : Prop where
  cl : Cls K CP
  n1 : NoAttr K CP "kind"
  n2 : NoAttr K CP "_value"
  n3 : NoAttr K CP "_nets"
  gP : mg "Part" = some (.ref CP)
  ha : PySem.W.findIn K (.ref CP) "__class__" = some (some (.builtin "object.__class__"))
  hm : PySem.W.mroIn K CP (.type "object") = some true
  kPP : PySem.W.kitOne K (.ref CP) (.ref CP) = some true
  kPK : PySem.W.kitOne K (.ref CP) (.ref DK) = some false
  kiP : PySem.W.kitOne K (.type "int") (.ref CP) = some false
  knK : PySem.W.kitOne K (.type "NoneType") (.ref DK) = some false
  kiK : PySem.W.kitOne K (.type "int") (.ref DK) = some false
  eK : PySem.Giv.ErrTxt K mg "InvalidKind" "InvalidKind.__init__" "ValueError.__new__" veT CKd fKd
  eN : PySem.Giv.ErrTxt K mg "InvalidName" "InvalidName.__init__" "ValueError.__new__" veT CNm fNm
  eP : PySem.Giv.ErrTxt K mg "InvalidPins" "InvalidPins.__init__" "ValueError.__new__" veT CIP fIP
  eU : PySem.Giv.ErrTxt K mg "UnknownName" "UnknownName.__init__" "LookupError.__new__" PySem.Giv.keT CUn fUn
section
variable {P : Program} {w : World} {K : PySem.W.Frag} {mg : Str → Option Value} {base : Heap} {DK tp tg CR CP CKd fKd CNm fNm CIP fIP CUn fUn CNP : Addr}
def spFit (K : PySem.W.Frag) (DK tp tg CIP : Addr) : Sp := fun vs H Q E => ∃ kp a xs l pins, vs = [.ref kp, .ref a] ∧ KV K DK tp tg H kp l pins ∧ H a = some (.tup xs) ∧ xs.length ≤ 100 ∧ (∀ x ∈ xs, Av H x ∧ ShN x) ∧
  ((namesB xs pins.length = true ∧ ∀ H', Same H H' → Q (.ref a) H') ∨ (namesB xs pins.length = false ∧ ∀ d H', Same H H' → H' d = some (xd (.ref a)) → E (.ref CIP) (some d) H'))
theorem ok_fit {f : Addr} {fd : FuncData} (F : Fun K "_fitting" "_fitting" sFit f fd) (T : Bi mg) (U : PTx K mg DK CP CKd fKd CNm fNm CIP fIP CUn fUn) (GN : Glb P w K mg base "are_names" 3 ["values", "many"] spNames) :
    FnOk P w K mg base (L2.CX P w) 4 f fd ["kind", "nets"] (spFit K DK tp tg CIP) := by
  obtain ⟨_, _, mW, kW, GW, bW⟩ := GN.ex
  have sc : FnScope ["kind", "nets"] ["kind", "nets"] (defScope sFit) := ⟨rfl, rfl, rfl, by decide +kernel, rfl, by decide +kernel, by decide +kernel⟩
  refine F.okX sc (fun vs H Q E h => ?_) (fun cdv A outer s H vs Q E hr h => ?_)
  · obtain ⟨kp, a, xs, l, pins, rfl, _⟩ := h
    rfl
  · obtain ⟨kp, a, xs, l, pins, rfl, kv, ha, few, av, h⟩ := h
    obtain ⟨C, dx, fs, pa, hk, kc, k3, k4, k5⟩ := id kv.ex
    refine ⟨_, pss_cons (ps_if (pt_not (pt_val (pe_call GW (hr.mono (by decide)) (by rfl) mW kW bW .nil passL (pa_cons (pv 1) (pa_cons (pe_callB call_len_seq (by rfl) T.len PySem.boot_len (pa_cons (pe_fld (pv 0) rfl) pa_nil)) pa_nil)))))
        (pss_one (ps_raiseGiv rfl PySem.Giv.ok_VE U.eP hr (takes_of rfl rfl rfl rfl) (pa_cons (pv 1) pa_nil) (by rfl))) pss_nil)
      (pss_one (ps_ret (pe_tupleOf (by rfl) T.tuple (pv 1)))), ?_⟩
    refine ⟨_, rfl, _, rfl, kp, C, dx, fs, _, rfl, hk, kc.kc.cl, kc.kc.n2, k4, pa, _, rfl, .inr k5, a, xs, _, rfl, ha, few, av, fun H1 s1 => ⟨_, rfl, ?_⟩⟩
    rw [List.length_map]
    rcases h with ⟨g, k⟩ | ⟨g, k⟩
    · refine if_neg' (by rw [g]; rfl) ⟨_, rfl, .inr ⟨a, xs, rfl, .inl (.inl (s1 _ _ ha)), k H1 s1⟩⟩
    · exact if_pos' (by rw [g]; rfl) ⟨_, rfl, _, rfl, fun d hd => k d _ (s1.trans (same_upd hd)) upd_same⟩
end
end R5
end

-- L5t
section
set_option Elab.async false
set_option linter.all false
set_option maxRecDepth 100000
set_option exponentiation.threshold 10000
namespace R5
open PySem L2 OwnOps OwnNe G1 StX SupX
inductive NoK (CP : Addr) (H : Hp) : V → Prop
  | non : NoK CP H .non
  | str (x : Str) : NoK CP H (.str x)
  | int (i : Int) : NoK CP H (.int i)
  | ins {a dx : Addr} {fs : List (Str × V)} (e : H a = some (.ins CP dx fs)) : NoK CP H (.ref a)
theorem NoK.same {CP : Addr} {H H' : Hp} {v : V} (h : NoK CP H v) (s : Same H H') : NoK CP H' v := by
  cases h with
  | non => exact .non
  | str x => exact .str x
  | int i => exact .int i
  | ins e => exact .ins (s _ _ e)
section
variable {P : Program} {w : World} {K : PySem.W.Frag} {mg : Str → Option Value} {base : Heap} {DK tp tg CR CP CKd fKd CNm fNm CIP fIP CUn fUn CNP : Addr}
/-- making a part, as the body meets it -/
def spPIB (K : PySem.W.Frag) (DK tp tg CR CP CKd CNP CIP : Addr) : Sp := fun vs H Q E => ∃ p dx vk vv ta xs, vs = [.ref p, vk, vv, .ref ta] ∧ H p = some (.ins CP dx []) ∧ H ta = some (.tup xs) ∧ xs.length ≤ 100 ∧ (∀ x ∈ xs, Av H x ∧ ShN x) ∧
  ((NoK CP H vk ∧ ∀ d H', SameX p H H' → H' d = some (xd vk) → E (.ref CKd) (some d) H') ∨
   ∃ kp l pins, vk = .ref kp ∧ KV K DK tp tg H kp l pins ∧
    ((R5r.NoV CR H vv ∧ ∀ d H', SameX p H H' → H' d = some (xd vv) → E (.ref CNP) (some d) H') ∨
     ∃ t b, R5r.Vp CR H vv t b ∧
      ((namesB xs pins.length = false ∧ ∀ d H', SameX p H H' → H' ta = some (.tup xs) → H' d = some (xd (.ref ta)) → E (.ref CIP) (some d) H') ∨
       (∃ ns, xs = ns.map V.str ∧ namesB xs pins.length = true ∧ ∀ H', SameX p H H' → PartI K DK tp tg CR CP H' p dx kp l pins t b ns → Q .non H'))))
abbrev spPart (K : PySem.W.Frag) (DK tp tg CR CP CKd CNP CIP : Addr) : Sp := fun vs H Q E => ∃ ws rest, vs = ws ++ rest ∧ ws.length = (["self", "kind", "value"] : List Str).length ∧ rest.length ≤ sizeLine ∧ ∀ p, H p = Option.none → spPIB K DK tp tg CR CP CKd CNP CIP (ws ++ [V.ref p]) (upd H p (.tup rest)) Q E
theorem av_put {p C dx : Addr} {fs : List (Str × V)} {H : Hp} {v : V} {u : HO} (h : Av H v) (hp : H p = some (.ins C dx fs)) : Av (upd H p u) v := by
  have ne : ∀ {a : Addr} {o : HO}, H a = some o → (∀ C d f, o ≠ .ins C d f) → (upd H p u) a = some o := fun {a o} e n => by
    rw [upd_ne (fun z => by rw [z, hp] at e; exact n _ _ _ (Option.some.inj e).symm)]
    exact e
  cases h with
  | str x => exact .str x
  | non => exact .non
  | int i => exact .int i
  | bl b => exact .bl b
  | lst e => exact .lst (ne e fun _ _ _ z => by cases z)
  | tup e => exact .tup (ne e fun _ _ _ z => by cases z)
theorem num_put {p C dx : Addr} {fs : List (Str × V)} {H : Hp} {v : V} {t b : Int} {u : HO} (h : R5r.Num CR H v t b) (hp : H p = some (.ins C dx fs)) (nl : fs.lookup ("top" : Str) = none) : R5r.Num CR (upd H p u) v t b := by
  rcases h with ⟨q, rfl, r⟩ | ⟨rfl, rfl⟩
  · exact .inl ⟨q, rfl, rat_sx r hp nl SameX.upd⟩
  · exact .inr ⟨rfl, rfl⟩
theorem nov_put {p C dx : Addr} {fs : List (Str × V)} {H : Hp} {v : V} {u : HO} (h : R5r.NoV CR H v) (hp : H p = some (.ins C dx fs)) (nl : fs.lookup ("top" : Str) = none) : R5r.NoV CR (upd H p u) v := by
  rcases h with h | ⟨t, b, h, l⟩
  · have ne : ∀ {a : Addr} {o : HO}, H a = some o → (∀ C d f, o ≠ .ins C d f) → (upd H p u) a = some o := fun {a o} e n => by
      rw [upd_ne (fun z => by rw [z, hp] at e; exact n _ _ _ (Option.some.inj e).symm)]
      exact e
    left
    cases h with
    | bl b => exact .bl b
    | non => exact .non
    | str x => exact .str x
    | lst e => exact .lst (ne e fun _ _ _ z => by cases z)
    | tup e => exact .tup (ne e fun _ _ _ z => by cases z)
  · exact .inr ⟨t, b, num_put h hp nl, l⟩
theorem ok_pi {f : Addr} {fd : FuncData} (F : Fun K "__init__" "Part.__init__" (sPa 0) f fd) (T : Bi mg) (U : PTx K mg DK CP CKd fKd CNm fNm CIP fIP CUn fUn) (UK : KndT K mg DK) (GV : Glb P w K mg base "value_of" 5 ["value"] (R5r.spVal CR CNP)) (GF : Glb P w K mg base "_fitting" 4 ["kind", "nets"] (spFit K DK tp tg CIP)) :
    FnR P w K mg base (L2.CX P w) 6 f (spPart K DK tp tg CR CP CKd CNP CIP) := by
  obtain ⟨_, _, mV, kV, GV, bV⟩ := GV.ex
  obtain ⟨_, _, mF, kF, GF, bF⟩ := GF.ex
  obtain ⟨oc, od, kVv, doc, pm, an, cdv, ct, osl, rfl, lk, hcd⟩ := F.ex
  have sc : FnScope ["self", "kind", "value", "nets"] ((["self", "kind", "value"] : List Str) ++ [("nets" : Str)]) (defScope (sPa 0)) := ⟨rfl, rfl, rfl, by decide +kernel, rfl, by decide +kernel, by decide +kernel⟩
  refine fn_star (CX := L2.CX P w) (P := P) (w := w) (mg := mg) (base := base) (k := 5) (ps := ["self", "kind", "value"]) (pv := "nets") (sp := spPIB K DK tp tg CR CP CKd CNP CIP) lk hcd sc cxUp
    (bind_star3 (p1 := "self") (p2 := "kind") (p3 := "value") (pv := "nets") (B := fun us => bindArgs (PySem.W.fnOf "__init__" "Part.__init__" (defArgs (sPa 0)) (defBody (sPa 0)) (defScope (sPa 0)) .none kVv doc pm an cdv ct) ⟨us, []⟩) (fun _ _ _ => rfl) (fun _ _ _ _ _ => rfl)) (fun A outer s H vs Q E hr h => ?_)
  obtain ⟨p, dx, vk, vv, ta, xs, rfl, hp, hta, few, av, h⟩ := h
  have pE : Passes (L2.CX P w) (cxOf (L2.CX P w) P w K mg base ["self", "kind", "value", "nets"] "Part.__init__" (defScope (sPa 0)) f cdv A outer s H E) E := passes_call (takes_of rfl rfl rfl rfl) (fun _ _ _ _ h => h)
  refine ⟨_, pss_cons (ps_if (pt_not (pt_val (pe_callB call_isi (by rfl) T.isi (by decide +kernel) (pa_cons (pv 1) (pa_cons (pe_glob (v := .ref DK) (by rfl) UK.gK rfl) pa_nil))))) (pss_one (ps_raiseGiv rfl PySem.Giv.ok_VE U.eK hr (takes_of rfl rfl rfl rfl) (pa_cons (pv 1) pa_nil) (by rfl))) pss_nil)
    (pss_cons (ps_fld (pv 0) (pv 1) rfl)
    (pss_cons (ps_fld (pv 0) (pe_call (E := E) GV (hr.mono (by decide)) (by rfl) mV kV bV .nil pE (pa_cons (pv 2) pa_nil)) rfl)
    (pss_one (ps_fld (pv 0) (pe_call (E := E) GF (hr.mono (by decide)) (by rfl) mF kF bF .nil pE (pa_cons (pv 1) (pa_cons (pv 3) pa_nil))) rfl)))), ?_⟩
  rcases h with ⟨nk, k⟩ | ⟨kp, l, pins, rfl, kv, h⟩
  · have fin : ∀ d, H d = none → E (.ref CKd) (some d) (upd H d (xd vk)) := fun d hd => k d _ (SameX.of (same_upd hd)) upd_same
    cases nk with
    | non => exact ⟨_, rfl, _, _, _, _, _, rfl, .own DK, .base .non, U.knK, _, rfl, if_pos' rfl ⟨_, rfl, _, rfl, fin⟩⟩
    | str x => exact ⟨_, rfl, _, _, _, _, _, rfl, .own DK, .base (.str x), UK.ksK, _, rfl, if_pos' rfl ⟨_, rfl, _, rfl, fin⟩⟩
    | int i => exact ⟨_, rfl, _, _, _, _, _, rfl, .own DK, .base (.int i), U.kiK, _, rfl, if_pos' rfl ⟨_, rfl, _, rfl, fin⟩⟩
    | ins e => exact ⟨_, rfl, _, _, _, _, _, rfl, .own DK, .base (.ins e U.cl U.ha UK.hn UK.htk U.hm), U.kPK, _, rfl, if_pos' rfl ⟨_, rfl, _, rfl, fin⟩⟩
  · obtain ⟨C, dk, fs, pa, hk, kc, k3, k4, k5⟩ := id kv.ex
    refine ⟨_, rfl, _, _, _, _, _, rfl, .own DK, .base (.ins hk kc.kc.cl kc.ha UK.hn UK.htk kc.hm), kc.kK, _, rfl, if_neg' rfl ?_⟩
    refine ⟨_, rfl, _, rfl, p, CP, dx, _, rfl, hp, U.cl, U.n1, (by show 0 < 1000; decide), ?_⟩
    have x0 : SameX p H (upd H p (.ins CP dx (putF "kind" (.ref kp) []))) := SameX.upd
    have hp0 : (upd H p (.ins CP dx (putF "kind" (.ref kp) []))) p = some (.ins CP dx (putF "kind" (.ref kp) [])) := upd_same
    have kv0 := kv.sx hp rfl x0
    have hta0 := x0 _ _ (fun z => by rw [z, hp] at hta; cases hta) hta
    have av0 : ∀ x ∈ xs, Av (upd H p (.ins CP dx (putF "kind" (.ref kp) []))) x ∧ ShN x := fun x hx => ⟨av_put (av x hx).1 hp, (av x hx).2⟩
    rcases h with ⟨nv, k⟩ | ⟨t, b, ⟨nu, vb⟩, h⟩
    · have nv0 := nov_put (u := .ins CP dx (putF "kind" (.ref kp) [])) nv hp rfl
      exact ⟨_, rfl, vv, rfl, .inr ⟨nv0, fun d H' s hd => k d H' (x0.trans (SameX.of s)) hd⟩⟩
    · have nu0 := num_put (u := .ins CP dx (putF "kind" (.ref kp) [])) nu hp rfl
      generalize upd H p (.ins CP dx (putF "kind" (.ref kp) [])) = H0 at x0 hp0 kv0 hta0 av0 nu0 ⊢
      refine ⟨_, rfl, vv, rfl, .inl ⟨t, b, ⟨nu0, vb⟩, fun r H1 s1 rr => ?_⟩⟩
      have hp1 := s1 _ _ hp0
      refine ⟨_, rfl, p, CP, dx, _, rfl, hp1, U.cl, U.n2, (by show 1 < 1000; decide), ?_⟩
      have x2 : SameX p H1 (upd H1 p (.ins CP dx (putF "_value" (.ref r) (putF "kind" (.ref kp) [])))) := SameX.upd
      have hp2 : (upd H1 p (.ins CP dx (putF "_value" (.ref r) (putF "kind" (.ref kp) [])))) p = some (.ins CP dx (putF "_value" (.ref r) (putF "kind" (.ref kp) []))) := upd_same
      have kv2 := (kv0.same s1).sx hp1 (by kernel_rfl) x2
      have hta2 := x2 _ _ (fun z => by have q := s1 _ _ hta0; rw [z, hp1] at q; cases q) (s1 _ _ hta0)
      have rr2 := rat_sx rr hp1 (by kernel_rfl) x2
      have av2 : ∀ x ∈ xs, Av (upd H1 p (.ins CP dx (putF "_value" (.ref r) (putF "kind" (.ref kp) [])))) x ∧ ShN x := fun x hx => ⟨av_put ((av0 x hx).1.same s1) hp1, (av x hx).2⟩
      have X2 := x0.trans ((SameX.of s1).trans x2)
      generalize upd H1 p (.ins CP dx (putF "_value" (.ref r) (putF "kind" (.ref kp) []))) = H2 at x2 hp2 kv2 hta2 rr2 av2 X2 ⊢
      rcases h with ⟨g, k⟩ | ⟨ns, rfl, g, k⟩
      · exact ⟨_, rfl, _, rfl, kp, ta, xs, l, pins, rfl, kv2, hta2, few, av2, .inr ⟨g, fun d H' s hd => k d H' (X2.trans (SameX.of s)) (s _ _ hta2) hd⟩⟩
      · refine ⟨_, rfl, _, rfl, kp, ta, _, l, pins, rfl, kv2, hta2, few, av2, .inl ⟨g, fun H3 s3 => ?_⟩⟩
        have hp3 := s3 _ _ hp2
        refine ⟨_, rfl, p, CP, dx, _, rfl, hp3, U.cl, U.n3, (by show 2 < 1000; decide), ?_⟩
        have x4 : SameX p H3 (upd H3 p (.ins CP dx (putF "_nets" (.ref ta) (putF "_value" (.ref r) (putF "kind" (.ref kp) []))))) := SameX.upd
        have ln : ns.length = pins.length := by
          unfold namesB at g
          rw [Bool.and_eq_true, decide_eq_true_eq, List.length_map] at g
          omega
        have gd : ∀ y ∈ ns, nm y = true ∧ shB y = true := fun y hy => by
          unfold namesB at g
          rw [Bool.and_eq_true, List.all_eq_true] at g
          exact ⟨g.2 (.str y) (List.mem_map_of_mem hy), (av (.str y) (List.mem_map_of_mem hy)).2⟩
        refine k _ (X2.trans ((SameX.of s3).trans x4)) ⟨r, ta, ?_, (kv2.same s3).sx hp3 (by kernel_rfl) x4, rat_sx (rr2.same s3) hp3 (by kernel_rfl) x4, vb, tupX hp3 x4 (.inl (.inl (s3 _ _ hta2))), ln, by rw [List.length_map] at few; exact few, gd⟩
        rw [pf_put, upd_same]
end
end R5
end

-- L5u
section
set_option Elab.async false
set_option linter.all false
set_option maxRecDepth 100000
set_option exponentiation.threshold 10000
namespace R5
open PySem L2 OwnOps OwnNe G1 StX SupX EnumT
theorem walk_en {K : PySem.W.Frag} {a : Addr} {xs : List V} : Walk (ItE K a) xs.length (fun H => SqT K H a xs) (YPair (fun i => some (.int (i : Nat))) (fun i => xs[i]?)) := by
  refine ⟨fun i _ hi q => ⟨xs, xs[i], q, by simp [hi]⟩, fun _ q => ⟨xs, q, Nat.le_refl _⟩, fun i H v H' _ q y => ?_⟩
  obtain ⟨T, x, h1, h2, h3, h4⟩ := y
  exact ⟨T, .int (i : Nat), x, h1, h2, h3, rfl, h4 xs q⟩
/-- pin number i of the part, or none of them -/
def PinAt (pins : List Str) (v : V) (i : Nat) : Prop := ∃ y, v = .str y ∧ pins[i]? = some y ∧ ∀ j, j < i → pins[j]? ≠ some y
def NoPin (K : PySem.W.Frag) (H : Hp) (pins : List Str) (v : V) : Prop := ∃ e, Dp K H v e ∧ SeqAt.shaped e = true ∧ ∀ y ∈ pins, PyData.eqv (.str y) e = false
mutual
theorem dp_same {K : PySem.W.Frag} {H H' : Hp} (s : Same H H') : ∀ {v : V} {d : PyData}, Dp K H v d → Dp K H' v d
  | _, _, .non => .non
  | _, _, .bl b => .bl b
  | _, _, .int i => .int i
  | _, _, .str x => .str x
  | _, _, .lst h t => .lst (s.seq h) (dpa_same s t)
  | _, _, .tup h t => .tup (Same.tupS s h) (dpa_same s t)
theorem dpa_same {K : PySem.W.Frag} {H H' : Hp} (s : Same H H') : ∀ {vs : List V} {ds : List PyData}, DpAll K H vs ds → DpAll K H' vs ds
  | _, _, .nil => .nil
  | _, _, .cons h t => .cons (dp_same s h) (dpa_same s t)
end
theorem NoPin.same {K : PySem.W.Frag} {H H' : Hp} {pins : List Str} {v : V} (h : NoPin K H pins v) (s : Same H H') : NoPin K H' pins v := let ⟨e, a, b, c⟩ := h; ⟨e, dp_same s a, b, c⟩
theorem shp_str {y : Str} (h : PyData.strOk y = true) : SeqAt.shaped (.str y) = true := by
  unfold SeqAt.shaped
  simp only [PyData.canLay0, h, PyData.depth]
  rfl
section
variable {P : Program} {w : World} {K : PySem.W.Frag} {mg : Str → Option Value} {base : Heap} {DK tp tg CR CP CKd fKd CNm fNm CIP fIP CUn fUn CNP : Addr}
def spFld (CP : Addr) (fld : Str) : Sp := fun vs H Q _ => ∃ a dx fs v, vs = [.ref a] ∧ H a = some (.ins CP dx fs) ∧ fs.lookup fld = some v ∧ Q v H
theorem ok_gv {f : Addr} {fd : FuncData} (F : Fun K "value" "Part.value" (sPa 1) f fd) (U : PTx K mg DK CP CKd fKd CNm fNm CIP fIP CUn fUn) : FnOk P w K mg base (L2.CX P w) 1 f fd ["self"] (spFld CP "_value") := by
  have sc : FnScope ["self"] ["self"] (defScope (sPa 1)) := ⟨rfl, rfl, rfl, by decide +kernel, rfl, by decide +kernel, by decide +kernel⟩
  refine F.okX sc (fun vs H Q E h => ?_) (fun cdv A outer s H vs Q E hr h => ?_)
  · obtain ⟨a, dx, fs, v, rfl, _⟩ := h
    rfl
  · obtain ⟨a, dx, fs, v, rfl, ha, hl, k⟩ := h
    exact ⟨_, pss_one (ps_ret (pe_fld (pv 0) rfl)), _, rfl, a, CP, dx, fs, _, rfl, ha, U.cl, U.n2, hl, k⟩
theorem ok_gn {f : Addr} {fd : FuncData} (F : Fun K "nets" "Part.nets" (sPa 3) f fd) (U : PTx K mg DK CP CKd fKd CNm fNm CIP fIP CUn fUn) : FnOk P w K mg base (L2.CX P w) 1 f fd ["self"] (spFld CP "_nets") := by
  have sc : FnScope ["self"] ["self"] (defScope (sPa 3)) := ⟨rfl, rfl, rfl, by decide +kernel, rfl, by decide +kernel, by decide +kernel⟩
  refine F.okX sc (fun vs H Q E h => ?_) (fun cdv A outer s H vs Q E hr h => ?_)
  · obtain ⟨a, dx, fs, v, rfl, _⟩ := h
    rfl
  · obtain ⟨a, dx, fs, v, rfl, ha, hl, k⟩ := h
    exact ⟨_, pss_one (ps_ret (pe_fld (pv 0) rfl)), _, rfl, a, CP, dx, fs, _, rfl, ha, U.cl, U.n3, hl, k⟩
def spSV (K : PySem.W.Frag) (DK tp tg CR CP CNP : Addr) : Sp := fun vs H Q E => ∃ p dx kp l pins t b ns v, vs = [.ref p, v] ∧ PartI K DK tp tg CR CP H p dx kp l pins t b ns ∧
  ((R5r.NoV CR H v ∧ ∀ d H', Same H H' → H' d = some (xd v) → E (.ref CNP) (some d) H') ∨ ∃ t' b', R5r.Vp CR H v t' b' ∧ ∀ H', SameX p H H' → PartI K DK tp tg CR CP H' p dx kp l pins t' b' ns → Q .non H')
theorem ok_sv {f : Addr} {fd : FuncData} (F : Fun K "set_value" "Part.set_value" (sPa 5) f fd) (U : PTx K mg DK CP CKd fKd CNm fNm CIP fIP CUn fUn) (GV : Glb P w K mg base "value_of" 5 ["value"] (R5r.spVal CR CNP)) : FnOk P w K mg base (L2.CX P w) 6 f fd ["self", "value"] (spSV K DK tp tg CR CP CNP) := by
  obtain ⟨_, _, mV, kV, GV, bV⟩ := GV.ex
  have sc : FnScope ["self", "value"] ["self", "value"] (defScope (sPa 5)) := ⟨rfl, rfl, rfl, by decide +kernel, rfl, by decide +kernel, by decide +kernel⟩
  refine F.okX sc (fun vs H Q E h => ?_) (fun cdv A outer s H vs Q E hr h => ?_)
  · obtain ⟨p, dx, kp, l, pins, t, b, ns, v, rfl, _⟩ := h
    rfl
  · obtain ⟨p, dx, kp, l, pins, t, b, ns, v, rfl, pi, h⟩ := h
    have pE : Passes (L2.CX P w) (cxOf (L2.CX P w) P w K mg base ["self", "value"] "Part.set_value" (defScope (sPa 5)) f cdv A outer s H E) E := passes_call (takes_of rfl rfl rfl rfl) (fun _ _ _ _ h => h)
    refine ⟨_, pss_one (ps_fld (pv 0) (pe_call (E := E) GV hr (by rfl) mV kV bV .nil pE (pa_cons (pv 1) pa_nil)) rfl), ?_⟩
    rcases h with ⟨nv, k⟩ | ⟨t', b', vp, k⟩
    · exact ⟨_, rfl, v, rfl, .inr ⟨nv, fun d H' s hd => k d H' s hd⟩⟩
    · refine ⟨_, rfl, v, rfl, .inl ⟨t', b', vp, fun r H1 s1 rr => ?_⟩⟩
      obtain ⟨vp0, np, h1, h2, h3, h4, h5, h6⟩ := (pi.same s1).ex
      refine ⟨_, rfl, p, CP, dx, _, rfl, h1, U.cl, U.n2, pf_len _ _ _, ?_⟩
      rw [pf_pv]
      have x2 : SameX p H1 (upd H1 p (.ins CP dx (pf (.ref kp) (.ref r) (.ref np)))) := SameX.upd
      exact k _ ((SameX.of s1).trans x2) ⟨r, np, upd_same, h2.sx h1 (pf_line _ _ _) x2, rat_sx rr h1 (pf_top _ _ _) x2, vp.2, tupX h1 x2 h5, h6⟩
/-! ### the places of pins -/
def spIdx (K : PySem.W.Frag) (DK tp tg CR CP CUn : Addr) : Sp := fun vs H Q E => ∃ p dx kp l pins t b ns v, vs = [.ref p, v] ∧ PartI K DK tp tg CR CP H p dx kp l pins t b ns ∧
  ((∃ i, PinAt pins v i ∧ ∀ H', Same H H' → Q (.int (i : Nat)) H') ∨ (NoPin K H pins v ∧ ∀ d H', Same H H' → H' d = some (xd v) → E (.ref CUn) (some d) H'))
theorem ok_idx {f : Addr} {fd : FuncData} (F : Fun K "_index_of" "Part._index_of" (sPa 15) f fd) (T : Bi mg) (U : PTx K mg DK CP CKd fKd CNm fNm CIP fIP CUn fUn) : FnOk P w K mg base (L2.CX P w) 2 f fd ["self", "pin"] (spIdx K DK tp tg CR CP CUn) := by
  have sc : FnScope ["self", "pin", "place", "name"] ["self", "pin"] (defScope (sPa 15)) := ⟨rfl, rfl, rfl, by decide +kernel, rfl, by decide +kernel, by decide +kernel⟩
  have hN := sc.nd
  refine F.okX sc (fun vs H Q E h => ?_) (fun cdv A outer s H vs Q E hr h => ?_)
  · obtain ⟨p, dx, kp, l, pins, t, b, ns, v, rfl, _⟩ := h
    rfl
  · obtain ⟨p, dx, kp, l, pins, t, b, ns, v, rfl, pi, h⟩ := h
    refine ⟨_, pss_cons (ps_for passOwn rfl (pi_enumT (by rfl) T.enum (pa_cons (pe_fld (pe_fld (pv 0) rfl) rfl) pa_nil)) (pg_two (i := 2) (j := 3) rfl hN rfl (Or.inl rfl) rfl (Or.inl rfl)) (pss_one (ps_if (pt_cmpR (op_eqD hr.units) (pv 3) (pv 1) (nomark _)) (pss_one (ps_ret (pv 2))) pss_nil)))
      (pss_one (ps_raiseL rfl PySem.Giv.ke_L U.eU hr (takes_of rfl rfl rfl rfl) (pa_cons (pv 1) pa_nil) (by rfl))), ?_⟩
    obtain ⟨vp0, np, h1, h2, h3, h4, h5, h6⟩ := id pi.ex
    obtain ⟨C, dk, fs, pa, k1, kc, k3, k4, k5⟩ := id h2.ex
    refine ⟨_, rfl, p, CP, dx, _, _, rfl, h1, U.cl, U.n1, pf_k _ _ _, kp, C, dk, fs, _, rfl, k1, kc.kc.cl, kc.kc.n2, k4, pa, _, rfl, k5, ?_⟩
    have shy : ∀ y ∈ pins, SeqAt.shaped (.str y) = true := fun y hy => shp_str (h2.ok y hy)
    refine for_it (walk_en (K := K) (a := pa) (xs := pins.map V.str)) (fun i σ G => (∃ v2 v3, σ = [some (.ref p), some v, v2, v3]) ∧ Same H G ∧ ∀ j, PinAt pins v j → i ≤ j) ⟨⟨_, _, rfl⟩, Same.refl H, fun j _ => Nat.zero_le _⟩ (fun i σ G _ g => Same.tupS g.2.1 k5) (fun i x σ G G' hi g y => ?_) (fun σ G g => ?_)
    · obtain ⟨⟨v2, v3, rfl⟩, sm, min⟩ := g
      obtain ⟨Tp, a, z, rfl, nT, rfl, ea, ez⟩ := y
      cases ea
      rw [List.length_map] at hi
      dsimp only at ez
      rw [List.getElem?_map, List.getElem?_eq_getElem hi] at ez
      cases ez
      have sT := sm.trans (same_upd (o := .tup [.int (i : Nat), .str pins[i]]) nT)
      refine ⟨Tp, _, rfl, .inl (.inl upd_same), rfl, _, _, rfl, _, _, rfl, rfl, ?_⟩
      have hm : pins[i] ∈ pins := List.getElem_mem hi
      rcases h with ⟨n, ⟨y, rfl, hy, hf⟩, k⟩ | ⟨⟨e, d1, d2, d3⟩, k⟩
      · have hy2 : y ∈ pins := List.mem_of_getElem? hy
        refine ⟨_, rfl, _, rfl, .str pins[i], .str y, .str _, .str _, shy _ hm, shy _ hy2, _, rfl, ?_⟩
        have ev : PyData.eqv (.str pins[i]) (.str y) = decide (pins[i] = y) := by
          simp only [PyData.eqv]
          rw [Bool.eq_iff_iff, beq_iff_eq, decide_eq_true_eq]
        rw [ev]
        have le := min n ⟨y, rfl, hy, hf⟩
        by_cases e : pins[i] = y
        · refine if_pos' (decide_eq_true e) ⟨_, rfl, ?_⟩
          have en : i = n := by
            by_cases lt : i < n
            · exact absurd (by rw [List.getElem?_eq_getElem hi, e]) (hf i lt)
            · omega
          subst en
          exact k _ sT
        · refine if_neg' (decide_eq_false e) ⟨⟨_, _, rfl⟩, sT, fun j pj => ?_⟩
          have lj := min j pj
          by_cases ej : i = j
          · obtain ⟨y', e1, e2, _⟩ := pj
            cases e1
            rw [← ej, List.getElem?_eq_getElem hi] at e2
            exact absurd (Option.some.inj e2) e
          · omega
      · refine ⟨_, rfl, _, rfl, .str pins[i], e, .str _, dp_same sT d1, shy _ hm, d2, _, rfl, ?_⟩
        refine if_neg' (d3 _ hm) ⟨⟨_, _, rfl⟩, sT, fun j pj => ?_⟩
        have lj := min j pj
        by_cases ej : i = j
        · obtain ⟨y', e1, e2, _⟩ := pj
          subst e1
          cases d1
          have hm' : y' ∈ pins := List.mem_of_getElem? e2
          have := d3 y' hm'
          simp only [PyData.eqv, beq_self_eq_true] at this
          cases this
        · omega
    · obtain ⟨⟨v2, v3, rfl⟩, sm, min⟩ := g
      rcases h with ⟨n, pa', k⟩ | ⟨_, k⟩
      · exfalso
        have le := min n pa'
        obtain ⟨y, e1, e2, _⟩ := pa'
        have := (List.getElem?_eq_some_iff.mp e2).1
        rw [List.length_map] at le
        omega
      · exact ⟨_, rfl, _, rfl, fun d hd => k d _ (sm.trans (same_upd hd)) upd_same⟩
end
end R5
end

-- L5v
section
set_option Elab.async false
set_option linter.all false
set_option maxRecDepth 100000
set_option exponentiation.threshold 10000
namespace R5
open PySem L2 OwnOps OwnNe G1 StX SupX EnumT
theorem sl_ok {K : PySem.W.Frag} {H : Hp} {Q : VK} {a : Addr} {xs : List V} {lo hi : Option Int} (h : SqT K H a xs) (k : ∀ q H', Same H H' → SqT K H' q (cutV xs lo hi) → Q (.ref q) H') : rSlA K (.ref a) lo hi H Q := by
  refine ⟨a, xs, rfl, h, fun z => k a H (Same.refl _) ?_, fun _ p np => k p _ (same_upd np) (SqT.of upd_same)⟩
  have e : cutV xs lo hi = xs := by
    unfold cutV
    rw [z.1, z.2]
    simp
  rw [e]
  exact h
theorem cat_ok {K : PySem.W.Frag} {H : Hp} {Q : VK} {a b : Addr} {xs ys : List V} (ha : SqT K H a xs) (hb : SqT K H b ys) (sz : xs.length + ys.length ≤ sizeLine) (k : ∀ q H', Same H H' → SqT K H' q (xs ++ ys) → Q (.ref q) H') : rCatA K (.ref a) (.ref b) H Q := by
  refine ⟨a, b, xs, ys, rfl, rfl, ha, hb, sz, fun z => k b H (Same.refl _) ?_, fun _ z => k a H (Same.refl _) ?_, fun _ _ p np => k p _ (same_upd np) (SqT.of upd_same)⟩
  · rw [z, List.nil_append]; exact hb
  · rw [z, List.append_nil]; exact ha
theorem cut_lo {xs : List V} {i : Nat} (h : i ≤ xs.length) : cutV xs none (some (i : Int)) = xs.take i := by
  unfold cutV
  rw [HT.sIx_none, HT.sIx_nat, Nat.min_eq_left h, List.drop_zero, Nat.sub_zero]
theorem cut_hi {xs : List V} {i : Nat} (h : i ≤ xs.length) : cutV xs (some (i : Int)) none = xs.drop i := by
  unfold cutV
  rw [HT.sIx_none, HT.sIx_nat, Nat.min_eq_left h, List.take_of_length_le (by rw [List.length_drop]; omega)]
section
variable {P : Program} {w : World} {K : PySem.W.Frag} {mg : Str → Option Value} {base : Heap} {DK tp tg CR CP CKd fKd CNm fNm CIP fIP CUn fUn CNP : Addr}
def spGI (K : PySem.W.Frag) (DK tp tg CR CP CUn : Addr) : Sp := fun vs H Q E => ∃ p dx kp l pins t b ns v, vs = [.ref p, v] ∧ PartI K DK tp tg CR CP H p dx kp l pins t b ns ∧
  ((∃ i y, PinAt pins v i ∧ ns[i]? = some y ∧ ∀ H', Same H H' → Q (.str y) H') ∨ (NoPin K H pins v ∧ ∀ d H', Same H H' → H' d = some (xd v) → E (.ref CUn) (some d) H'))
theorem ok_gi {f : Addr} {fd : FuncData} (F : Fun K "__getitem__" "Part.__getitem__" (sPa 10) f fd) (T : Bi mg) (U : PTx K mg DK CP CKd fKd CNm fNm CIP fIP CUn fUn) (OI : R5r.Dun P w K mg base CP "_index_of" 2 ["self", "pin"] (spIdx K DK tp tg CR CP CUn)) : FnOk P w K mg base (L2.CX P w) 3 f fd ["self", "at"] (spGI K DK tp tg CR CP CUn) := by
  obtain ⟨_, _, oa, of, ok, Go, bo⟩ := OI.ex
  have sc : FnScope ["self", "at"] ["self", "at"] (defScope (sPa 10)) := ⟨rfl, rfl, rfl, by decide +kernel, rfl, by decide +kernel, by decide +kernel⟩
  refine F.okX sc (fun vs H Q E h => ?_) (fun cdv A outer s H vs Q E hr h => ?_)
  · obtain ⟨p, dx, kp, l, pins, t, b, ns, v, rfl, _⟩ := h
    rfl
  · obtain ⟨p, dx, kp, l, pins, t, b, ns, v, rfl, pi, h⟩ := h
    have pE : Passes (L2.CX P w) (cxOf (L2.CX P w) P w K mg base ["self", "at"] "Part.__getitem__" (defScope (sPa 10)) f cdv A outer s H E) E := passes_call (takes_of rfl rfl rfl rfl) (fun _ _ _ _ h => h)
    refine ⟨_, pss_one (ps_ret (pe_ix ix_tup (pe_fld (pv 0) rfl) (pe_meth (E := E) (pv 0) U.cl ⟨oa, of, ok⟩ Go hr bo .nil pE (pa_cons (pv 1) pa_nil)) (fun _ _ => rfl))), ?_⟩
    obtain ⟨vp0, np, h1, h2, h3, h4, h5, h6, h7⟩ := id pi.ex
    refine ⟨_, rfl, p, CP, dx, _, _, rfl, h1, U.cl, U.n3, pf_n _ _ _, _, rfl, p, dx, _, rfl, h1, pf_none _ _ _ (by decide +kernel) (by decide +kernel) (by decide +kernel), _, rfl, p, dx, kp, l, pins, t, b, ns, v, rfl, pi, ?_⟩
    rcases h with ⟨i, y, pa, hy, k⟩ | ⟨np', k⟩
    · exact .inl ⟨i, pa, fun H1 s1 => ⟨np, _, (i : Nat), .str y, rfl, rfl, Same.tupS s1 h5, at_of rfl (by rw [List.getElem?_map, hy]; rfl), k H1 s1⟩⟩
    · exact .inr ⟨np', fun d H' s1 hd => k d H' s1 hd⟩
def spSI (K : PySem.W.Frag) (DK tp tg CR CP CUn CNm : Addr) : Sp := fun vs H Q E => ∃ p dx kp l pins t b ns v wv, vs = [.ref p, v, wv] ∧ PartI K DK tp tg CR CP H p dx kp l pins t b ns ∧
  ((NoPin K H pins v ∧ ∀ d H', Same H H' → H' d = some (xd v) → E (.ref CUn) (some d) H') ∨
   ∃ i, PinAt pins v i ∧ Av H wv ∧ ShN wv ∧ ((nmV wv = false ∧ ∀ d H', Same H H' → H' d = some (xd wv) → E (.ref CNm) (some d) H') ∨
     ∃ y, wv = .str y ∧ nm y = true ∧ ∀ H', SameX p H H' → PartI K DK tp tg CR CP H' p dx kp l pins t b (ns.set i y) → Q .non H'))
theorem ok_si {f : Addr} {fd : FuncData} (F : Fun K "__setitem__" "Part.__setitem__" (sPa 11) f fd) (T : Bi mg) (U : PTx K mg DK CP CKd fKd CNm fNm CIP fIP CUn fUn) (GN : Glb P w K mg base "is_name" 2 ["value"] spName) (OI : R5r.Dun P w K mg base CP "_index_of" 2 ["self", "pin"] (spIdx K DK tp tg CR CP CUn)) :
    FnOk P w K mg base (L2.CX P w) 4 f fd ["self", "at", "worth"] (spSI K DK tp tg CR CP CUn CNm) := by
  obtain ⟨_, _, oa, of, ok, Go, bo⟩ := OI.ex
  obtain ⟨_, _, mN, kN, GN, bN⟩ := GN.ex
  have sc : FnScope ["self", "at", "worth", "index"] ["self", "at", "worth"] (defScope (sPa 11)) := ⟨rfl, rfl, rfl, by decide +kernel, rfl, by decide +kernel, by decide +kernel⟩
  have hN := sc.nd
  refine F.okX sc (fun vs H Q E h => ?_) (fun cdv A outer s H vs Q E hr h => ?_)
  · obtain ⟨p, dx, kp, l, pins, t, b, ns, v, wv, rfl, _⟩ := h
    rfl
  · obtain ⟨p, dx, kp, l, pins, t, b, ns, v, wv, rfl, pi, h⟩ := h
    have pE : Passes (L2.CX P w) (cxOf (L2.CX P w) P w K mg base ["self", "at", "worth", "index"] "Part.__setitem__" (defScope (sPa 11)) f cdv A outer s H E) E := passes_call (takes_of rfl rfl rfl rfl) (fun _ _ _ _ h => h)
    refine ⟨_, pss_cons (ps_set (i := 3) hN rfl (Or.inl rfl) (pe_meth (E := E) (pv 0) U.cl ⟨oa, of, ok⟩ Go (hr.mono (by decide)) bo .nil pE (pa_cons (pv 1) pa_nil)))
      (pss_cons (ps_if (pt_not (pt_val (pe_call GN (hr.mono (by decide)) (by rfl) mN kN bN .nil passL (pa_cons (pv 2) pa_nil)))) (pss_one (ps_raiseGiv rfl PySem.Giv.ok_VE U.eN hr (takes_of rfl rfl rfl rfl) (pa_cons (pv 2) pa_nil) (by rfl))) pss_nil)
      (pss_one (ps_fld (pv 0) (pe_op op_catA (pe_op op_catA (pe_slice sl_tupA (pe_fld (pv 0) rfl) po_none (po_some (pv 3))) (pe_tup (pa_cons (pv 2) pa_nil))) (pe_slice sl_tupA (pe_fld (pv 0) rfl) (po_some (pe_op op_add (pv 3) pe_int)) po_none)) rfl))), ?_⟩
    obtain ⟨vp0, np, h1, h2, h3, h4, h5, ln, few, gd⟩ := id pi.ex
    refine ⟨_, rfl, p, dx, _, rfl, h1, pf_none _ _ _ (by decide +kernel) (by decide +kernel) (by decide +kernel), _, rfl, p, dx, kp, l, pins, t, b, ns, v, rfl, pi, ?_⟩
    rcases h with ⟨np', k⟩ | ⟨i, pa, av, sh, h⟩
    · exact .inr ⟨np', fun d H' s1 hd => k d H' s1 hd⟩
    · refine .inl ⟨i, pa, fun H1 s1 => ?_⟩
      refine ⟨_, rfl, wv, rfl, av.same s1, sh, fun H2 s2 => ⟨_, rfl, ?_⟩⟩
      have S2 := s1.trans s2
      rcases h with ⟨g, k⟩ | ⟨y, rfl, g, k⟩
      · exact if_pos' (by rw [g]; rfl) ⟨_, rfl, _, rfl, fun d hd => k d _ (S2.trans (same_upd hd)) upd_same⟩
      · refine if_neg' (by rw [show nmV (.str y) = nm y from rfl, g]; rfl) ?_
        have il : i < ns.length := by
          obtain ⟨z, _, hz, _⟩ := pa
          have := (List.getElem?_eq_some_iff.mp hz).1
          omega
        have line : 1000 ≤ sizeLine := by decide
        have ix : (i : Nat) ≤ (ns.map V.str).length := by rw [List.length_map]; omega
        have ix1 : i + 1 ≤ (ns.map V.str).length := by rw [List.length_map]; omega
        have hp2 := S2 _ _ h1
        refine ⟨_, rfl, p, CP, dx, _, _, rfl, hp2, U.cl, U.n3, pf_n _ _ _, _, rfl, ?_⟩
        refine ⟨_, rfl, sl_ok (Same.tupS S2 h5) fun q1 H3 s3 e1 => ?_⟩
        rw [cut_lo ix] at e1
        refine ⟨_, rfl, by show 1 ≤ sizeLine; omega, fun q2 n2 => ?_⟩
        have s4 : Same H3 (upd H3 q2 (.tup [.str y])) := same_upd n2
        have e2 : SqT K (upd H3 q2 (.tup [.str y])) q2 [.str y] := SqT.of upd_same
        generalize upd H3 q2 (.tup [.str y]) = H4 at s4 e2 ⊢
        refine cat_ok (Same.tupS s4 e1) e2 (by rw [List.length_take, List.length_map]; simp only [List.length_cons, List.length_nil]; omega) fun q3 H5 s5 e3 => ?_
        have S5 := S2.trans (s3.trans (s4.trans s5))
        refine ⟨_, rfl, p, CP, dx, _, _, rfl, S5 _ _ h1, U.cl, U.n3, pf_n _ _ _, _, rfl, _, _, rfl, rfl, _, rfl, ?_⟩
        dsimp only [tNoPart]
        rw [show ((i : Int) + 1) = ((i + 1 : Nat) : Int) by omega]
        refine sl_ok (Same.tupS S5 h5) fun q4 H6 s6 e4 => ?_
        have e4 : SqT K H6 q4 ((ns.map V.str).drop (i + 1)) := by rw [← cut_hi ix1]; exact e4
        refine cat_ok (Same.tupS s6 e3) e4 (by rw [List.length_append, List.length_take, List.length_drop, List.length_map]; simp only [List.length_cons, List.length_nil]; omega) fun q5 H7 s7 e5 => ?_
        have S7 := S5.trans (s6.trans s7)
        have hp7 := S7 _ _ h1
        refine ⟨_, rfl, p, CP, dx, _, rfl, hp7, U.cl, U.n3, pf_len _ _ _, ?_⟩
        rw [pf_pn]
        have x8 : SameX p H7 (upd H7 p (.ins CP dx (pf (.ref kp) (.ref vp0) (.ref q5)))) := SameX.upd
        have e6 : (ns.map V.str).take i ++ [.str y] ++ (ns.map V.str).drop (i + 1) = (ns.set i y).map V.str := by
          rw [List.set_eq_take_append_cons_drop, if_pos il, List.map_append, List.map_cons, List.map_take, List.map_drop, List.append_assoc]
          rfl
        rw [e6] at e5
        refine k _ ((SameX.of S7).trans x8) ⟨vp0, q5, upd_same, (h2.same S7).sx hp7 (pf_line _ _ _) x8, rat_sx (h3.same S7) hp7 (pf_top _ _ _) x8, h4, tupX hp7 x8 e5, by rw [List.length_set]; exact ln, by rw [List.length_set]; exact few, fun z hz => ?_⟩
        rcases List.mem_or_eq_of_mem_set hz with hz | rfl
        · exact gd z hz
        · exact ⟨g, sh⟩
def spLen (K : PySem.W.Frag) (DK tp tg CR CP : Addr) : Sp := fun vs H Q _ => ∃ p dx kp l pins t b ns, vs = [.ref p] ∧ PartI K DK tp tg CR CP H p dx kp l pins t b ns ∧ Q (.int (ns.length : Nat)) H
theorem ok_len {f : Addr} {fd : FuncData} (F : Fun K "__len__" "Part.__len__" (sPa 13) f fd) (T : Bi mg) (U : PTx K mg DK CP CKd fKd CNm fNm CIP fIP CUn fUn) : FnOk P w K mg base (L2.CX P w) 1 f fd ["self"] (spLen K DK tp tg CR CP) := by
  have sc : FnScope ["self"] ["self"] (defScope (sPa 13)) := ⟨rfl, rfl, rfl, by decide +kernel, rfl, by decide +kernel, by decide +kernel⟩
  refine F.okX sc (fun vs H Q E h => ?_) (fun cdv A outer s H vs Q E hr h => ?_)
  · obtain ⟨p, dx, kp, l, pins, t, b, ns, rfl, _⟩ := h
    rfl
  · obtain ⟨p, dx, kp, l, pins, t, b, ns, rfl, pi, k⟩ := h
    obtain ⟨vp0, np, h1, h2, h3, h4, h5, h6⟩ := id pi.ex
    refine ⟨_, pss_one (ps_ret (pe_callB call_len_seq (by rfl) T.len PySem.boot_len (pa_cons (pe_fld (pv 0) rfl) pa_nil))), ?_⟩
    refine ⟨_, rfl, p, CP, dx, _, _, rfl, h1, U.cl, U.n3, pf_n _ _ _, np, _, rfl, .inr h5, ?_⟩
    rw [List.length_map]
    exact k
end
end R5
end

-- L5p2
section
set_option Elab.async false
set_option linter.all false
set_option maxRecDepth 100000
set_option exponentiation.threshold 10000
namespace SupX
open PySem PySem.Spec PyProof.Rows L2 OwnOps OwnNe
/-- x op y, both of one class of S -/
def rSame (S : Addr → Prop) (sp : Sp) (E : XK) : R2 := fun x y H Q => ∃ a b C dx dy fs gs, (x = .ref a ∧ y = .ref b ∧ H a = some (.ins C dx fs) ∧ H b = some (.ins C dy gs) ∧ S C) ∧ sp [x, y] H Q E
section
variable {X : Cx} {CX : CXT} {k : Nat} {f : Addr} {m : Str} {fd : FuncData} {ps : List Str} {sp : Sp} {E : XK} {S : Addr → Prop}
theorem cmp_same {op : CmpOp} (hop : ∀ a b, compareOp op a b = richCompare op a b) (hs : ∀ C, S C → PySem.W.findIn X.K (.ref C) (cmpInfo op).2.1 = some (some (.ref f)) ∧ PySem.W.notFirst X.K C (.ref C) = true) (hf : PySem.W.isFn X.K (.ref f) = true)
    (F : FnOk X.prog X.w X.K X.mg X.base CX k f fd ps sp) (hr : Room k X.A) (hb : Binds X.K fd ps []) (hx : Passes CX X E) : OpR X (compareOp op) (rSame S sp E) := by
  intro pins s σ H x y v u Q I rx ry h
  obtain ⟨a, b, C, dx, dy, fs, gs, ⟨rfl, rfl, ha, hbb, hS⟩, q⟩ := h
  exact cmp_own (C := C) hop (hs C hS).1 hf F hr hb hx (R := RIns C) (fun I h r => looks_ins (hs C hS).2 I h r) pins s σ H (.ref a) (.ref b) v u Q I rx ry ⟨a, dx, fs, rfl, ha, ⟨b, dy, gs, rfl, hbb⟩, q⟩
def rSameN (S : Addr → Prop) (sp : Sp) (E : XK) : R2 := fun x y H Q => ∃ a b C dx dy fs gs, (x = .ref a ∧ y = .ref b ∧ H a = some (.ins C dx fs) ∧ H b = some (.ins C dy gs) ∧ S C) ∧ sp [x, y] H (fun v H' => ∃ r, v = .bl r ∧ Q (.bl (!r)) H') E
theorem ne_same (hs : ∀ C, S C → PySem.W.mroIn X.K C (.type "object") = some true ∧ PySem.W.findIn X.K (.ref C) "__ne__" = some (some (.builtin "object.__ne__")) ∧ PySem.W.findIn X.K (.ref C) "__eq__" = some (some (.ref f)) ∧ PySem.W.notFirst X.K C (.ref C) = true) (hf : PySem.W.isFn X.K (.ref f) = true)
    (F : FnOk X.prog X.w X.K X.mg X.base CX k f fd ps sp) (hr : Room (k + 1) X.A) (hb : Binds X.K fd ps []) (hx : Passes CX X E) : OpR X (compareOp .NotEq) (rSameN S sp E) := by
  intro pins s σ H x y v u Q I rx ry h
  obtain ⟨a, b, C, dx, dy, fs, gs, ⟨rfl, rfl, ha, hbb, hS⟩, q⟩ := h
  obtain ⟨h1, h2, h3, h4⟩ := hs C hS
  exact op_neOwn (C := C) h1 h2 h3 hf F hr hb hx (R := RIns C) (fun I h r => looks_ins h4 I h r) pins s σ H (.ref a) (.ref b) v u Q I rx ry ⟨a, dx, fs, rfl, ha, ⟨b, dy, gs, rfl, hbb⟩, q⟩
end
end SupX
namespace R5
open PySem L2 OwnOps OwnNe G1 StX SupX EnumT
section
variable {P : Program} {w : World} {K : PySem.W.Frag} {mg : Str → Option Value} {base : Heap} {DK tp tg CR CP CKd fKd CNm fNm CIP fIP CUn fUn CNP fI : Addr} {H : Hp} {Q : VK} {E : XK}
/-! ### making parts, as the callers read it -/
theorem ins_new {q dx C : Addr} : (upd (upd H dx (.own q)) q (.ins C dx [])) q = some (.ins C dx []) := upd_same
theorem names_ok {ns : List Str} {n : Nat} (ln : ns.length = n) (gd : ∀ y ∈ ns, nm y = true ∧ shB y = true) : namesB (ns.map V.str) n = true := by
  unfold namesB
  rw [Bool.and_eq_true, decide_eq_true_eq, List.length_map, List.all_eq_true]
  refine ⟨by omega, fun x hx => ?_⟩
  obtain ⟨y, hy, rfl⟩ := List.mem_map.mp hx
  exact (gd y hy).1
theorem mk_part {q dx kp : Addr} {l : Str} {pins ns : List Str} {vv : V} {t b : Int} {rest : List V} (hq : H q = none) (hd : H dx = none) (ne : dx ≠ q) (kv : KV K DK tp tg H kp l pins) (vp : R5r.Vp CR H vv t b) (er : rest = ns.map V.str) (ln : ns.length = pins.length) (few : ns.length ≤ 100)
    (gd : ∀ y ∈ ns, nm y = true ∧ shB y = true) (k : ∀ H', Same H H' → PartI K DK tp tg CR CP H' q dx kp l pins t b ns → Q .non H') : spPart K DK tp tg CR CP CKd CNP CIP (.ref q :: .ref kp :: vv :: rest) (upd (upd H dx (.own q)) q (.ins CP dx [])) Q E := by
  subst er
  have line : 1000 ≤ sizeLine := by decide
  refine ⟨[.ref q, .ref kp, vv], ns.map V.str, rfl, rfl, by rw [List.length_map]; omega, fun p hp => ?_⟩
  have up := made_up (C := CP) (o := .tup (ns.map V.str)) hq hd hp
  refine ⟨q, dx, .ref kp, vv, p, ns.map V.str, rfl, made_at hp, upd_same, by rw [List.length_map]; exact few, fun x hx => ?_, .inr ⟨kp, l, pins, rfl, kv.same up, .inr ⟨t, b, vp.same up, .inr ⟨ns, rfl, names_ok ln gd, fun H' sx pi => k H' (made_same hq hd ne hp sx) pi⟩⟩⟩⟩
  obtain ⟨y, hy, rfl⟩ := List.mem_map.mp hx
  exact ⟨.str y, (gd y hy).2⟩
theorem mk_noK {q dx : Addr} {vk vv : V} {rest : List V} (hq : H q = none) (hd : H dx = none) (ne : dx ≠ q) (nk : NoK CP H vk) (few : rest.length ≤ 100) (av : ∀ x ∈ rest, Av H x ∧ ShN x) (k : ∀ d H', Same H H' → H' d = some (xd vk) → E (.ref CKd) (some d) H') :
    spPart K DK tp tg CR CP CKd CNP CIP (.ref q :: vk :: vv :: rest) (upd (upd H dx (.own q)) q (.ins CP dx [])) Q E := by
  have line : 1000 ≤ sizeLine := by decide
  refine ⟨[.ref q, vk, vv], rest, rfl, rfl, by omega, fun p hp => ?_⟩
  have up := made_up (C := CP) (o := .tup rest) hq hd hp
  exact ⟨q, dx, vk, vv, p, rest, rfl, made_at hp, upd_same, few, fun x hx => ⟨(av x hx).1.same up, (av x hx).2⟩, .inl ⟨nk.same up, fun d H' sx hd' => k d H' (made_same hq hd ne hp sx) hd'⟩⟩
theorem mk_noV {q dx kp : Addr} {l : Str} {pins : List Str} {vv : V} {rest : List V} (hq : H q = none) (hd : H dx = none) (ne : dx ≠ q) (kv : KV K DK tp tg H kp l pins) (nv : R5r.NoV CR H vv) (few : rest.length ≤ 100) (av : ∀ x ∈ rest, Av H x ∧ ShN x)
    (k : ∀ d H', Same H H' → H' d = some (xd vv) → E (.ref CNP) (some d) H') : spPart K DK tp tg CR CP CKd CNP CIP (.ref q :: .ref kp :: vv :: rest) (upd (upd H dx (.own q)) q (.ins CP dx [])) Q E := by
  have line : 1000 ≤ sizeLine := by decide
  refine ⟨[.ref q, .ref kp, vv], rest, rfl, rfl, by omega, fun p hp => ?_⟩
  have up := made_up (C := CP) (o := .tup rest) hq hd hp
  exact ⟨q, dx, .ref kp, vv, p, rest, rfl, made_at hp, upd_same, few, fun x hx => ⟨(av x hx).1.same up, (av x hx).2⟩, .inr ⟨kp, l, pins, rfl, kv.same up, .inl ⟨nv.same up, fun d H' sx hd' => k d H' (made_same hq hd ne hp sx) hd'⟩⟩⟩
theorem mk_noN {q dx kp : Addr} {l : Str} {pins : List Str} {vv : V} {t b : Int} {rest : List V} (hq : H q = none) (hd : H dx = none) (ne : dx ≠ q) (kv : KV K DK tp tg H kp l pins) (vp : R5r.Vp CR H vv t b) (few : rest.length ≤ 100) (av : ∀ x ∈ rest, Av H x ∧ ShN x) (g : namesB rest pins.length = false)
    (k : ∀ d ta H', Same H H' → H' ta = some (.tup rest) → H' d = some (xd (.ref ta)) → E (.ref CIP) (some d) H') : spPart K DK tp tg CR CP CKd CNP CIP (.ref q :: .ref kp :: vv :: rest) (upd (upd H dx (.own q)) q (.ins CP dx [])) Q E := by
  have line : 1000 ≤ sizeLine := by decide
  refine ⟨[.ref q, .ref kp, vv], rest, rfl, rfl, by omega, fun p hp => ?_⟩
  have up := made_up (C := CP) (o := .tup rest) hq hd hp
  exact ⟨q, dx, .ref kp, vv, p, rest, rfl, made_at hp, upd_same, few, fun x hx => ⟨(av x hx).1.same up, (av x hx).2⟩, .inr ⟨kp, l, pins, rfl, kv.same up, .inr ⟨t, b, vp.same up, .inl ⟨g, fun d H' sx ht hd' => k d p H' (made_same hq hd ne hp sx) ht hd'⟩⟩⟩⟩
/-! ### set_nets -/
def spSNB (K : PySem.W.Frag) (DK tp tg CR CP CIP : Addr) : Sp := fun vs H Q E => ∃ p dx kp l pins t b ns ta xs, vs = [.ref p, .ref ta] ∧ PartI K DK tp tg CR CP H p dx kp l pins t b ns ∧ H ta = some (.tup xs) ∧ xs.length ≤ 100 ∧ (∀ x ∈ xs, Av H x ∧ ShN x) ∧
  ((namesB xs pins.length = false ∧ ∀ d H', Same H H' → H' d = some (xd (.ref ta)) → E (.ref CIP) (some d) H') ∨ ∃ ms, xs = ms.map V.str ∧ namesB xs pins.length = true ∧ ∀ H', SameX p H H' → PartI K DK tp tg CR CP H' p dx kp l pins t b ms → Q .non H')
abbrev spSN (K : PySem.W.Frag) (DK tp tg CR CP CIP : Addr) : Sp := fun vs H Q E => ∃ ws rest, vs = ws ++ rest ∧ ws.length = (["self"] : List Str).length ∧ rest.length ≤ sizeLine ∧ ∀ p, H p = Option.none → spSNB K DK tp tg CR CP CIP (ws ++ [V.ref p]) (upd H p (.tup rest)) Q E
theorem ok_sn {f : Addr} {fd : FuncData} (F : Fun K "set_nets" "Part.set_nets" (sPa 6) f fd) (U : PTx K mg DK CP CKd fKd CNm fNm CIP fIP CUn fUn) (GF : Glb P w K mg base "_fitting" 4 ["kind", "nets"] (spFit K DK tp tg CIP)) : FnR P w K mg base (L2.CX P w) 5 f (spSN K DK tp tg CR CP CIP) := by
  obtain ⟨_, _, mF, kF, GF, bF⟩ := GF.ex
  obtain ⟨oc, od, kVv, doc, pm, an, cdv, ct, osl, rfl, lk, hcd⟩ := F.ex
  have sc : FnScope ["self", "nets"] ((["self"] : List Str) ++ [("nets" : Str)]) (defScope (sPa 6)) := ⟨rfl, rfl, rfl, by decide +kernel, rfl, by decide +kernel, by decide +kernel⟩
  refine fn_star (CX := L2.CX P w) (P := P) (w := w) (mg := mg) (base := base) (k := 4) (ps := ["self"]) (pv := "nets") (sp := spSNB K DK tp tg CR CP CIP) lk hcd sc cxUp
    (bind_star1 (p1 := "self") (pv := "nets") (B := fun us => bindArgs (PySem.W.fnOf "set_nets" "Part.set_nets" (defArgs (sPa 6)) (defBody (sPa 6)) (defScope (sPa 6)) .none kVv doc pm an cdv ct) ⟨us, []⟩) (fun _ => rfl) (fun _ _ _ => rfl)) (fun A outer s H vs Q E hr h => ?_)
  obtain ⟨p, dx, kp, l, pins, t, b, ns, ta, xs, rfl, pi, hta, few, av, h⟩ := h
  have pE : Passes (L2.CX P w) (cxOf (L2.CX P w) P w K mg base ["self", "nets"] "Part.set_nets" (defScope (sPa 6)) f cdv A outer s H E) E := passes_call (takes_of rfl rfl rfl rfl) (fun _ _ _ _ h => h)
  refine ⟨_, pss_one (ps_fld (pv 0) (pe_call (E := E) GF hr (by rfl) mF kF bF .nil pE (pa_cons (pe_fld (pv 0) rfl) (pa_cons (pv 1) pa_nil))) rfl), ?_⟩
  obtain ⟨vp0, np, h1, h2, h3, h4, h5, ln, few0, gd0⟩ := id pi.ex
  refine ⟨_, rfl, p, CP, dx, _, _, rfl, h1, U.cl, U.n1, pf_k _ _ _, _, rfl, kp, ta, xs, l, pins, rfl, h2, hta, few, av, ?_⟩
  rcases h with ⟨g, k⟩ | ⟨ms, rfl, g, k⟩
  · exact .inr ⟨g, fun d H' s hd => k d H' s hd⟩
  · refine .inl ⟨g, fun H1 s1 => ?_⟩
    have hp1 := s1 _ _ h1
    refine ⟨_, rfl, p, CP, dx, _, rfl, hp1, U.cl, U.n3, pf_len _ _ _, ?_⟩
    rw [pf_pn]
    have x2 : SameX p H1 (upd H1 p (.ins CP dx (pf (.ref kp) (.ref vp0) (.ref ta)))) := SameX.upd
    unfold namesB at g
    rw [Bool.and_eq_true, decide_eq_true_eq, List.length_map, List.all_eq_true] at g
    rw [List.length_map] at few
    exact k _ ((SameX.of s1).trans x2) ⟨vp0, ta, upd_same, (h2.same s1).sx hp1 (pf_line _ _ _) x2, rat_sx (h3.same s1) hp1 (pf_top _ _ _) x2, h4, tupX hp1 x2 (.inl (.inl (s1 _ _ hta))), by omega, few, fun y hy => ⟨g.2 (.str y) (List.mem_map_of_mem hy), (av (.str y) (List.mem_map_of_mem hy)).2⟩⟩
/-! ### copied -/
def spCop (K : PySem.W.Frag) (DK tp tg CR CP : Addr) : Sp := fun vs H Q _ => ∃ p dx kp l pins t b ns, vs = [.ref p] ∧ PartI K DK tp tg CR CP H p dx kp l pins t b ns ∧ ∀ q dq H', Same H H' → H q = none → PartI K DK tp tg CR CP H' q dq kp l pins t b ns → Q (.ref q) H'
theorem ok_cop {f : Addr} {fd : FuncData} (F : Fun K "copied" "Part.copied" (sPa 8) f fd) (U : PTx K mg DK CP CKd fKd CNm fNm CIP fIP CUn fUn) (M : Mk K CP fI) (FI : FnR P w K mg base (L2.CX P w) 6 fI (spPart K DK tp tg CR CP CKd CNP CIP)) : FnOk P w K mg base (L2.CX P w) 8 f fd ["self"] (spCop K DK tp tg CR CP) := by
  have sc : FnScope ["self"] ["self"] (defScope (sPa 8)) := ⟨rfl, rfl, rfl, by decide +kernel, rfl, by decide +kernel, by decide +kernel⟩
  refine F.okX sc (fun vs H Q E h => ?_) (fun cdv A outer s H vs Q E hr h => ?_)
  · obtain ⟨p, dx, kp, l, pins, t, b, ns, rfl, _⟩ := h
    rfl
  · obtain ⟨p, dx, kp, l, pins, t, b, ns, rfl, pi, k⟩ := h
    obtain ⟨vp0, np, h1, h2, h3, h4, h5, ln, few, gd⟩ := id pi.ex
    refine ⟨_, pss_one (ps_ret (pe_makeS (E := E0) M FI hr (by rfl) U.gP passL (pa_cons (pe_fld (pv 0) rfl) (pa_cons (pe_fld (pv 0) rfl) (pa_star (pe_fld (pv 0) rfl) pa_nil))))), ?_⟩
    refine ⟨_, rfl, p, CP, dx, _, _, rfl, h1, U.cl, U.n1, pf_k _ _ _, _, rfl, p, CP, dx, _, _, rfl, h1, U.cl, U.n2, pf_v _ _ _, _, rfl, p, CP, dx, _, _, rfl, h1, U.cl, U.n3, pf_n _ _ _, np, _, rfl, .inl h5, fun q dq hq hd ne => ?_⟩
    exact mk_part hq hd ne h2 ⟨.inl ⟨vp0, rfl, h3⟩, h4⟩ (List.append_nil _) ln few gd fun H' s pi' => ⟨rfl, k q dq H' s hq pi'⟩
/-! ### == of parts -/
def spPEq (K : PySem.W.Frag) (DK tp tg CR CP : Addr) : Sp := fun vs H Q _ => ∃ p dx kp l pins t b ns v, vs = [.ref p, v] ∧ PartI K DK tp tg CR CP H p dx kp l pins t b ns ∧
  ((∃ q dq t' b' ns', v = .ref q ∧ PartI K DK tp tg CR CP H q dq kp l pins t' b' ns' ∧ (∀ y ∈ ns, PyData.strOk y = true) ∧ (∀ y ∈ ns', PyData.strOk y = true) ∧ Q (.bl ((decide (t = t') && decide (b = b')) && decide (ns = ns'))) H) ∨ (((∃ i, v = .int i) ∨ ∃ kp' C dk fs, v = .ref kp' ∧ H kp' = some (.ins C dk fs) ∧ KndC K DK tp tg C ∧ PySem.W.kitOne K (.ref C) (.ref CP) = some false) ∧ Q (.bl false) H))
theorem eqv_strs : ∀ {xs ys : List Str}, PyData.eqvAll (xs.map PyData.str) (ys.map PyData.str) = decide (xs = ys)
  | [], [] => rfl
  | [], y :: ys => rfl
  | x :: xs, [] => rfl
  | x :: xs, y :: ys => by
    rw [List.map_cons, List.map_cons, PyData.eqvAll, eqv_strs]
    simp only [PyData.eqv]
    rw [Bool.eq_iff_iff, Bool.and_eq_true, beq_iff_eq, decide_eq_true_eq, decide_eq_true_eq, List.cons.injEq]
theorem dp_strs {K : PySem.W.Frag} {H : Hp} : ∀ xs : List Str, DpAll K H (xs.map V.str) (xs.map PyData.str)
  | [] => .nil
  | x :: r => .cons (.str x) (dp_strs r)
theorem lay_strs : ∀ {xs : List Str}, (∀ y ∈ xs, PyData.strOk y = true) → PyData.canLayAll0 (xs.map PyData.str) = true ∧ PyData.depthAll (xs.map PyData.str) ≤ 0
  | [], _ => ⟨by simp [PyData.canLayAll0], by simp [PyData.depthAll]⟩
  | x :: xs, h => by
    obtain ⟨h1, h2⟩ := lay_strs (xs := xs) fun y hy => h y (List.mem_cons_of_mem _ hy)
    refine ⟨?_, ?_⟩
    · simp only [List.map_cons, PyData.canLayAll0, PyData.canLay0, h x List.mem_cons_self, h1, Bool.and_self]
    · simp only [List.map_cons, PyData.depthAll, PyData.depth]
      omega
theorem shp_strsT {xs : List Str} (h : ∀ y ∈ xs, PyData.strOk y = true) : SeqAt.shaped (.tuple (xs.map PyData.str)) = true := by
  obtain ⟨h1, h2⟩ := lay_strs h
  unfold SeqAt.shaped
  rw [Bool.and_eq_true, decide_eq_true_eq]
  refine ⟨by simp only [PyData.canLay0, h1], ?_⟩
  simp only [PyData.depth]
  omega
theorem ok_peq {f ke : Addr} {fd ked : FuncData} (F : Fun K "__eq__" "Part.__eq__" (sPa 14) f fd) (T : Bi mg) (U : PTx K mg DK CP CKd fKd CNm fNm CIP fIP CUn fUn) (UK : KndT K mg DK) (eDK : PySem.W.findIn K (.ref DK) "__eq__" = some (some (.ref ke))) (kef : PySem.W.isFn K (.ref ke) = true)
    (GE : FnOk P w K mg base (L2.CX P w) 3 ke ked ["self", "other"] (spKEq K DK tp tg)) (bE : L2.Binds K ked ["self", "other"] []) (Z : R5r.Tys K CR) (RD : R5r.Dun P w K mg base CR (cmpInfo .Eq).2.1 2 ["self", "other"] (R5r.spEq CR false)) :
    FnOk P w K mg base (L2.CX P w) 5 f fd ["self", "other"] (spPEq K DK tp tg CR CP) := by
  obtain ⟨_, _, ga, gf, _, GD, gb⟩ := RD.ex
  have sc : FnScope ["self", "other"] ["self", "other"] (defScope (sPa 14)) := ⟨rfl, rfl, rfl, by decide +kernel, rfl, by decide +kernel, by decide +kernel⟩
  refine F.okX sc (fun vs H Q E h => ?_) (fun cdv A outer s H vs Q E hr h => ?_)
  · obtain ⟨p, dx, kp, l, pins, t, b, ns, v, rfl, _⟩ := h
    rfl
  · obtain ⟨p, dx, kp, l, pins, t, b, ns, v, rfl, pi, h⟩ := h
    obtain ⟨vp0, np, h1, h2, h3, h4, h5, ln, few, gd⟩ := id pi.ex
    refine ⟨_, pss_cons (ps_if (pt_not (pt_val (pe_callB call_isi (by rfl) T.isi (by decide +kernel) (pa_cons (pv 1) (pa_cons (pe_glob (v := .ref CP) (by rfl) U.gP rfl) pa_nil))))) (pss_one (ps_ret pe_bl)) pss_nil)
      (pss_one (ps_ret (pe_and (pe_cmpR (op := .Eq) (cmp_same (S := KEqC K DK) (E := E0) (fun _ _ => rfl) (fun C h => ⟨h.eq.trans eDK, h.nf⟩) kef GE (hr.mono (by decide)) bE passL) (pe_fld (pv 0) rfl) (pe_fld (pv 1) rfl) (nomark _))
        (pe_and (pe_cmpR (op := .Eq) (cmp_own (C := CR) (E := E0) (R := R5r.RAny CR) (fun _ _ => rfl) ga gf GD (hr.mono (by decide)) gb passL (R5r.looks_any Z)) (pe_fld (pv 0) rfl) (pe_fld (pv 1) rfl) (nomark _))
        (pe_one (pe_cmpR (op_eqD hr.units) (pe_fld (pv 0) rfl) (pe_fld (pv 1) rfl) (nomark _))))))), ?_⟩
    rcases h with ⟨q, dq, t', b', ns', rfl, pq, sk, sk', k⟩ | ⟨⟨i, rfl⟩ | ⟨kp', C, dk, fs, rfl, k1, kc, kP⟩, k⟩
    · obtain ⟨vq, nq, q1, q2, q3, q4, q5, q6⟩ := id pq.ex
      refine ⟨_, rfl, _, _, _, _, _, rfl, .own CP, .base (.ins q1 U.cl U.ha UK.hn UK.htk U.hm), U.kPP, _, rfl, if_neg' rfl ?_⟩
      obtain ⟨C, dk, fs, pa, k1, kc, k3, k4, k5⟩ := id h2.ex
      refine ⟨_, rfl, p, CP, dx, _, _, rfl, h1, U.cl, U.n1, pf_k _ _ _, _, rfl, q, CP, dq, _, _, rfl, q1, U.cl, U.n1, pf_k _ _ _, kp, kp, C, dk, dk, fs, fs, ⟨rfl, rfl, k1, k1, h2.ce _ _ _ k1⟩, kp, l, _, rfl, h2.ki, .inl ⟨kp, l, rfl, h2.ki, _, rfl, ?_⟩⟩
      rw [decide_eq_true (rfl : l = l)]
      obtain ⟨dv, hv⟩ := id h3
      obtain ⟨dw, hw⟩ := id q3
      refine if_pos' rfl ⟨_, rfl, p, CP, dx, _, _, rfl, h1, U.cl, U.n2, pf_v _ _ _, _, rfl, q, CP, dq, _, _, rfl, q1, U.cl, U.n2, pf_v _ _ _, vp0, dv, _, rfl, hv, .inl ⟨vq, dw, _, rfl, hw⟩, vp0, _, t, b, rfl, h3, .inl ⟨vq, t', b', rfl, q3, _, rfl, ?_⟩⟩
      simp only [Bool.bne_false]
      cases hc : (decide (t = t') && decide (b = b')) with
      | false =>
        rw [hc] at k
        exact if_neg' rfl k
      | true =>
        rw [hc] at k
        refine if_pos' rfl ⟨_, rfl, p, CP, dx, _, _, rfl, h1, U.cl, U.n3, pf_n _ _ _, _, rfl, q, CP, dq, _, _, rfl, q1, U.cl, U.n3, pf_n _ _ _, .tuple (ns.map PyData.str), .tuple (ns'.map PyData.str), .tup h5 (dp_strs ns), .tup q5 (dp_strs ns'), shp_strsT sk, shp_strsT sk', ?_⟩
        rw [PyData.eqv, eqv_strs]
        exact k
    · exact ⟨_, rfl, _, _, _, _, _, rfl, .own CP, .base (.int i), U.kiP, _, rfl, if_pos' rfl k⟩
    · exact ⟨_, rfl, _, _, _, _, _, rfl, .own CP, .base (.ins k1 kc.kc.cl kc.ha UK.hn UK.htk kc.hm), kP, _, rfl, if_pos' rfl k⟩
end
end R5
end

-- L5p3
section
set_option Elab.async false
set_option linter.all false
set_option maxRecDepth 100000
set_option exponentiation.threshold 10000
namespace R5
open PySem L2 OwnOps OwnNe G1 StX SupX EnumT GenFor GenS
section
variable {P : Program} {w : World} {K : PySem.W.Frag} {mg : Str → Option Value} {base : Heap} {DK tp tg CR CP CKd fKd CNm fNm CIP fIP CUn fUn CNP fI : Addr} {H : Hp} {Q : VK} {E : XK}
/-! ### seats() -/
def seatsC (ns : List (Str × Str)) (H : Hp) (cont : List V → Hp → Prop) : Prop := ∀ (ts : List Addr) G, Same H G → ts.length = ns.length → (∀ (i : Nat) (a : Addr) (x : Str × Str), ts[i]? = some a → ns[i]? = some x → G a = some (.tup [.str x.1, .str x.2])) → cont (ts.map V.ref) G
def spSeats (K : PySem.W.Frag) (DK tp tg CR CP : Addr) : SpS := fun vs H n cont => ∃ p dx kp l pins t b ns, vs = [.ref p] ∧ PartI K DK tp tg CR CP H p dx kp l pins t b ns ∧ n = pins.length ∧ seatsC (pins.zip ns) H cont
theorem ok_seats {f : Addr} {fd : FuncData} (F : Fun K "seats" "Part.seats" (sPa 7) f fd) (T : Bi mg) (U : PTx K mg DK CP CKd fKd CNm fNm CIP fIP CUn fUn) : GFnS P w K mg base 1 f fd ["self"] (spSeats K DK tp tg CR CP) := by
  obtain ⟨oc, od, kV, doc, pm, an, cdv, ct, osl, rfl, lk, hcd⟩ := F.ex
  have S : GScope ["self", "seat"] ["self"] (defScope (sPa 7)) := ⟨rfl, rfl, rfl, by decide +kernel, rfl, by decide +kernel, by decide +kernel⟩
  refine genS_of (k := 0) (N := ["self", "seat"]) (j := 1) lk hcd S (fun vs H n cont h => ?_) (by decide) (fun _ _ => rfl) (fun _ _ => rfl) (fun A outer s H vs n cont pn hr h => ?_)
  · obtain ⟨p, dx, kp, l, pins, t, b, ns, rfl, _⟩ := h
    rfl
  · obtain ⟨p, dx, kp, l, pins, t, b, ns, rfl, pi, rfl, k⟩ := h
    obtain ⟨vp0, np, h1, h2, h3, h4, h5, ln, few, gd⟩ := id pi.ex
    obtain ⟨C, dk, fs, pa, k1, kc, k3, k4, k5⟩ := id h2.ex
    refine ⟨_, _, ZipN.pi_zipN (by rfl) T.zip (pa_cons (pe_fld (pe_fld (pv 0) rfl) rfl) (pa_cons (pe_fld (pv 0) rfl) pa_nil)), pg_name (i := 1) S.nd rfl (Or.inl rfl), pv 1, ?_⟩
    refine ⟨_, rfl, p, CP, dx, _, _, rfl, h1, U.cl, U.n1, pf_k _ _ _, kp, C, dk, fs, _, rfl, k1, kc.kc.cl, kc.kc.n2, k4, _, rfl, p, CP, dx, _, _, rfl, h1, U.cl, U.n3, pf_n _ _ _, pa, np, _, _, rfl, k5, h5, ?_⟩
    refine ⟨fun i G ys => ∃ ts : List Addr, ys = ts.map V.ref ∧ ts.length = i ∧ Same H G ∧ ∀ (j : Nat) (a : Addr) (x : Str × Str), ts[j]? = some a → (pins.zip ns)[j]? = some x → G a = some (.tup [.str x.1, .str x.2]), ⟨[], rfl, rfl, Same.refl _, fun j a x h => by cases h⟩, ⟨fun i G ys hi g => ?_, fun G ys g => ?_⟩⟩
    · obtain ⟨ts, rfl, lt, sm, tt⟩ := g
      have hx : (pins.map V.str)[i]? = some (.str (pins[i]'hi)) := by rw [List.getElem?_map, List.getElem?_eq_getElem hi]; rfl
      have hy : (ns.map V.str)[i]? = some (.str (ns[i]'(by omega))) := by rw [List.getElem?_map, List.getElem?_eq_getElem (by omega)]; rfl
      refine ⟨⟨_, _, _, _, ⟨Same.tupS sm k5, Same.tupS sm h5⟩, hx, hy⟩, fun x G' y => ?_⟩
      obtain ⟨T', a, b', ⟨rfl, nT, rfl⟩, ea, eb⟩ := y
      have ea := ea _ (Same.tupS sm k5)
      have eb := eb _ (Same.tupS sm h5)
      rw [hx] at ea
      rw [hy] at eb
      cases ea
      cases eb
      refine ⟨_, rfl, ts ++ [T'], by rw [List.map_append]; rfl, by rw [List.length_append, lt]; rfl, sm.trans (same_upd nT), fun j c z hj hz => ?_⟩
      by_cases lj : j < ts.length
      · rw [List.getElem?_append_left lj] at hj
        exact same_upd nT _ _ (tt j c z hj hz)
      · have ej : j = i := by
          have := (List.getElem?_eq_some_iff.mp hj).1
          rw [List.length_append] at this
          have : j < ts.length + 1 := this
          omega
        subst ej
        rw [List.getElem?_append_right (by omega), lt, Nat.sub_self] at hj
        cases hj
        rw [List.getElem?_zip_eq_some] at hz
        obtain ⟨z1, z2⟩ := hz
        rw [List.getElem?_eq_getElem hi] at z1
        rw [List.getElem?_eq_getElem (by omega)] at z2
        rw [upd_same, Option.some.inj z1, Option.some.inj z2]
    · obtain ⟨ts, rfl, lt, sm, tt⟩ := g
      refine ⟨⟨_, Same.tupS sm k5, by rw [List.length_map]⟩, k ts G sm (by rw [List.length_zip]; omega) tt⟩
/-! ### moved -/
def spMov (K : PySem.W.Frag) (DK tp tg CR CP CIP : Addr) : Sp := fun vs H Q E => ∃ p dx kp l pins t b ns v, vs = [.ref p, v] ∧ PartI K DK tp tg CR CP H p dx kp l pins t b ns ∧
  (((Av H v ∨ ∃ d kvs, v = .ref d ∧ H d = some (.dK kvs) ∧ kvs.length ≤ 100 ∧ (∀ e ∈ kvs, Av H e.2 ∧ ShN e.2) ∧ (kvs.all fun e => nmV e.2) = false) ∧ ∀ d H', Same H H' → H' d = some (xd v) → E (.ref CIP) (some d) H') ∨
   ∃ d kvs m, v = .ref d ∧ H d = some (.dK kvs) ∧ kvs.length ≤ 100 ∧ (∀ e ∈ kvs, Av H e.2 ∧ ShN e.2) ∧ (kvs.all fun e => nmV e.2) = true ∧ (∀ y ∈ ns, (valV kvs (.inr y)).getD (.str y) = .str (m y) ∧ nm (m y) = true ∧ shB (m y) = true) ∧
     ∀ q dq H', Same H H' → H q = none → PartI K DK tp tg CR CP H' q dq kp l pins t b (ns.map m) → Q (.ref q) H')
theorem ok_mov {f : Addr} {fd : FuncData} (F : Fun K "moved" "Part.moved" (sPa 9) f fd) (U : PTx K mg DK CP CKd fKd CNm fNm CIP fIP CUn fUn) (GM : Glb P w K mg base "is_net_map" 3 ["nets"] spNetM) (M : Mk K CP fI) (FI : FnR P w K mg base (L2.CX P w) 6 fI (spPart K DK tp tg CR CP CKd CNP CIP)) :
    FnOk P w K mg base (L2.CX P w) 8 f fd ["self", "nets"] (spMov K DK tp tg CR CP CIP) := by
  obtain ⟨_, _, mN, kN, GN, bN⟩ := GM.ex
  have sc : FnScope ["self", "nets", "places", "net"] ["self", "nets"] (defScope (sPa 9)) := ⟨rfl, rfl, rfl, by decide +kernel, rfl, by decide +kernel, by decide +kernel⟩
  have hN := sc.nd
  refine F.okX sc (fun vs H Q E h => ?_) (fun cdv A outer s H vs Q E hr h => ?_)
  · obtain ⟨p, dx, kp, l, pins, t, b, ns, v, rfl, _⟩ := h
    rfl
  · obtain ⟨p, dx, kp, l, pins, t, b, ns, v, rfl, pi, h⟩ := h
    obtain ⟨vp0, np, h1, h2, h3, h4, h5, ln, few, gd⟩ := id pi.ex
    have hu := Nat.lt_of_le_of_lt (Nat.add_le_add_left (by decide : 1 ≤ 64) _) hr.units
    refine ⟨_, pss_cons (ps_if (pt_not (pt_val (pe_call GN (hr.mono (by decide)) (by rfl) mN kN bN .nil passL (pa_cons (pv 1) pa_nil)))) (pss_one (ps_raiseGiv rfl PySem.Giv.ok_VE U.eP hr (takes_of rfl rfl rfl rfl) (pa_cons (pv 1) pa_nil) (by rfl))) pss_nil)
      (pss_cons (ps_setLc (i := 2) (own := [("net", 3)]) (g := gName 3) (tt := tYes) (te := tDGet2 (tVar 1) (tVar 3) (tVar 3)) rfl hN rfl rfl rfl (pi_tup (pe_fld (pv 0) rfl)) (blkOk_by (N := ["self", "nets", "places", "net"]) (sc := defScope (sPa 9)) (by decide +kernel)) (fun _ _ _ _ _ => pg_name (i := 3) hN rfl (Or.inl rfl)) (fun _ _ _ _ _ => pts_nil) (fun _ _ _ _ _ => pe_dget2 hu (pv 1) (pv 3) (pv 3) ⟨rfl, rfl, rfl, rfl⟩))
      (pss_one (ps_ret (pe_makeS (E := E0) M FI hr (by rfl) U.gP passL (pa_cons (pe_fld (pv 0) rfl) (pa_cons (pe_fld (pv 0) rfl) (pa_star (pv 2) pa_nil))))))), ?_⟩
    rcases h with ⟨bad, k⟩ | ⟨d, kvs, m, rfl, hd, f100, av, ok, hm, k⟩
    · rcases bad with av | ⟨d, kvs, rfl, hd, f100, av, ng⟩
      · exact ⟨_, rfl, v, rfl, .inl ⟨av, _, rfl, if_pos' rfl ⟨_, rfl, _, rfl, fun d hd => k d _ (same_upd hd) upd_same⟩⟩⟩
      · exact ⟨_, rfl, _, rfl, .inr ⟨d, kvs, rfl, hd, f100, av, fun H1 s1 => ⟨_, rfl, if_pos' (by rw [ng]; rfl) ⟨_, rfl, _, rfl, fun d hd => k d _ (s1.trans (same_upd hd)) upd_same⟩⟩⟩⟩
    · refine ⟨_, rfl, _, rfl, .inr ⟨d, kvs, rfl, hd, f100, av, fun H1 s1 => ⟨_, rfl, if_neg' (by rw [ok]; rfl) ?_⟩⟩⟩
      refine ⟨_, rfl, p, CP, dx, _, _, rfl, s1 _ _ h1, U.cl, U.n3, pf_n _ _ _, np, rfl, ⟨_, Same.tupS s1 h5⟩, fun D nD => ?_⟩
      refine lc_it (walk_tup (K := K) (a := np) (xs := ns.map V.str)) (fun i G => Same H1 G ∧ G D = some (.lst (((ns.take i).map m).map V.str))) ⟨same_upd nD, upd_same⟩ (fun i G _ g => Same.tupS (s1.trans g.1) h5) (fun i x G G' hi g y => ?_) (fun G g => ?_)
      · obtain ⟨rfl, hx⟩ := y
        obtain ⟨sm, hD⟩ := g
        rw [List.getElem?_map] at hx
        obtain ⟨z, hz, rfl⟩ := Option.map_eq_some_iff.mp hx
        have S2 := s1.trans sm
        obtain ⟨e1, e2, e3⟩ := hm z (List.mem_of_getElem? hz)
        refine ⟨rfl, yes_go (iteT ⟨_, rfl, d, rfl, .inl ⟨kvs, .inl (S2 _ _ hd)⟩, _, rfl, _, rfl, _, (show DGet G' d (.str z) (valV kvs (Sum.inr z)) from DGet.k (k := Sum.inr z) (S2 _ _ hd)), _, hD, ?_, same_put sm nD, ?_⟩)⟩
        · rw [List.length_map, List.length_map, List.length_take]
          exact small1000 (by omega)
        · rw [upd_same, take_succ_at hz, List.map_append, List.map_append]
          rw [e1]
          rfl
      · obtain ⟨sm, hD⟩ := g
        rw [List.length_map, List.take_length] at hD
        have S2 := s1.trans sm
        refine ⟨_, rfl, p, CP, dx, _, _, rfl, S2 _ _ h1, U.cl, U.n1, pf_k _ _ _, _, rfl, p, CP, dx, _, _, rfl, S2 _ _ h1, U.cl, U.n2, pf_v _ _ _, _, rfl, D, _, rfl, .inr (SqL.of hD), fun q dq hq hdq ne => ?_⟩
        refine mk_part hq hdq ne (h2.same S2) ⟨.inl ⟨vp0, rfl, h3.same S2⟩, h4⟩ (List.append_nil _) (by rw [List.length_map]; exact ln) (by rw [List.length_map]; exact few) (fun y hy => ?_) fun H' s pi' => ⟨rfl, k q dq H' (S2.trans s) (Same.none S2 hq) pi'⟩
        obtain ⟨z, hz, rfl⟩ := List.mem_map.mp hy
        exact (hm z hz).2
end
end R5
end

-- L51
section
set_option Elab.async false
set_option linter.all false
set_option maxRecDepth 100000
set_option exponentiation.threshold 10000
namespace R5
open PySem L2 OwnOps OwnNe G1 StX SupX GenFor
abbrev sLKs : Stmt := top 48
structure PCl (K : PySem.W.Frag) (mg : Str → Option Value) (nm : Str) (C fI DP gK : Addr) (d : Bool) : Prop where
  g : mg nm = some (.ref C)
  mks : Mk K C fI
  kc : KCls K C
  so : SupAt K C DP "__init__" gK
  con : ∃ u, Con K C "DIRECTED" (.bl d) u
/-- a class of kinds -/
structure KCl (K : PySem.W.Frag) (DK tp tg CP C : Addr) : Prop where
  kn : KndC K DK tp tg C
  ke : KEqC K DK C
  kP : PySem.W.kitOne K (.ref C) (.ref CP) = some false
  nF : PySem.W.notFirst K CP (.ref C) = true
/-- a kind of the law's -/
structure KL (K : PySem.W.Frag) (DK tp tg CP : Addr) (H : Hp) (kp : Addr) (pins : List Str) : Prop where
  v : ∃ l, KV K DK tp tg H kp l pins
  c : ∃ C dk fs, H kp = some (.ins C dk fs) ∧ KndC K DK tp tg C ∧ PySem.W.kitOne K (.ref C) (.ref CP) = some false ∧ PySem.W.notFirst K CP (.ref C) = true
def kPins : List (List Str) := [["a", "b"], ["a", "b"], ["a", "b", "g"], ["a", "b"], ["a", "b", "g"], ["p", "q", "o"], ["m"]]
section
variable {K : PySem.W.Frag} {DK tp tg CP : Addr} {H H' : Hp} {kp : Addr} {pins : List Str}
theorem KL.same (h : KL K DK tp tg CP H kp pins) (s : Same H H') : KL K DK tp tg CP H' kp pins := ⟨let ⟨l, h⟩ := h.v; ⟨l, h.same s⟩, let ⟨C, dk, fs, a, b, c⟩ := h.c; ⟨C, dk, fs, s _ _ a, b, c⟩⟩
theorem kl_path {q C dx : Addr} {x line : Str} {cs : List Str} {d : Bool} {r : List (Str × V)} (c : KCl K DK tp tg CP C) (h : PathI H q C dx x cs d r line) (ok : ∀ y ∈ ("a" : Str) :: "b" :: cs, PyData.strOk y = true) : KL K DK tp tg CP H q ("a" :: "b" :: cs) := by
  obtain ⟨pa, ca, oa, h1, h2, h3, h4⟩ := h.ex
  refine ⟨⟨line, ⟨C, dx, _, pa, h1, c.kn, kf_line' .., kf_pins' .., SqT.of h2⟩, ok, fun C2 d2 f2 e => ?_⟩, C, dx, _, h1, c.kn, c.kP, c.nF⟩
  rw [h1] at e
  cases e
  exact c.ke
theorem kl_pin {q C dx : Addr} {x : Str} {pins : List Str} {gss : List (List Str)} (c : KCl K DK tp tg CP C) (h : PinI K H q C dx x pins gss) (ok : ∀ y ∈ pins, PyData.strOk y = true) : KL K DK tp tg CP H q pins := by
  obtain ⟨pa, ca, oa, ga, h1, h2, h3, h4⟩ := h.ex
  refine ⟨⟨_, ⟨C, dx, _, pa, h1, c.kn, kf_line' .., kf_pins' .., h2⟩, ok, fun C2 d2 f2 e => ?_⟩, C, dx, _, h1, c.kn, c.kP, c.nF⟩
  rw [h1] at e
  cases e
  exact c.ke
/-- the first n kinds, in a list -/
structure Kst (K : PySem.W.Frag) (DK tp tg CP : Addr) (H : Hp) (a : Addr) (ks : List Addr) (n : Nat) : Prop where
  at_ : H a = some (.lst (ks.map V.ref))
  len : ks.length = n
  it : ∀ (i : Nat) kp, ks[i]? = some kp → KL K DK tp tg CP H kp (kPins.getD i [])
theorem Kst.same {a : Addr} {ks : List Addr} {n : Nat} (h : Kst K DK tp tg CP H a ks n) (s : Same H H') : Kst K DK tp tg CP H' a ks n := ⟨s _ _ h.at_, h.len, fun i kp e => (h.it i kp e).same s⟩
theorem Kst.add {a p : Addr} {ks : List Addr} {n : Nat} (h : Kst K DK tp tg CP H a ks n) (np : H p = none) (ms : List Addr) (hm : ∀ (i : Nat) kp, ms[i]? = some kp → KL K DK tp tg CP H kp (kPins.getD (n + i) [])) :
    Kst K DK tp tg CP (upd H p (.lst (ks.map V.ref ++ ms.map V.ref))) p (ks ++ ms) (n + ms.length) := by
  refine ⟨by rw [upd_same, List.map_append], by rw [List.length_append, h.len], fun i kp e => ?_⟩
  refine KL.same ?_ (same_upd np)
  by_cases lt : i < ks.length
  · rw [List.getElem?_append_left lt] at e
    exact h.it i kp e
  · rw [List.getElem?_append_right (by omega)] at e
    have := hm _ _ e
    rw [h.len] at this lt
    rw [show n + (i - n) = i by omega] at this
    exact this
end
theorem one_it {α : Type} {R : Nat → α → Prop} {a : α} (h : R 0 a) : ∀ (i : Nat) x, [a][i]? = some x → R i x
  | 0, x, e => by cases e; exact h
theorem two_it {α : Type} {R : Nat → α → Prop} {a b : α} (h0 : R 0 a) (h1 : R 1 b) : ∀ (i : Nat) x, [a, b][i]? = some x → R i x
  | 0, x, e => by cases e; exact h0
  | 1, x, e => by cases e; exact h1
theorem three_it {α : Type} {R : Nat → α → Prop} {a b c : α} (h0 : R 0 a) (h1 : R 1 b) (h2 : R 2 c) : ∀ (i : Nat) x, [a, b, c][i]? = some x → R i x
  | 0, x, e => by cases e; exact h0
  | 1, x, e => by cases e; exact h1
  | 2, x, e => by cases e; exact h2
theorem mk_joi1 {K : PySem.W.Frag} {H : Hp} {Q : VK} {E : XK} {CK DP gK C : Addr} {d : Bool} {u : Value} {x : Str} {cs : List Str} {q dx : Addr} (hq : H q = none) (hd : H dx = none) (ne : dx ≠ q) {D DJ gP : Addr} {s : V} {b : Option Bool}
    (kc : KCls K C) (so : SupAt K C DP "__init__" gK) (soJ : SupAt K C DJ "__init__" gP) (con : Con K C "DIRECTED" (.bl d) u) (wx : wd x = true) (n3 : cs.length ≤ 3) (dif : difV (.str "a" :: .str "b" :: cs.map V.str) = true) (c12 : ∀ y ∈ cs, y.length ≤ 12)
    (rb : RVal D H s b)
    (k : ∀ H' rq a' b', Same H H' → PathI H' q C dx x cs d [("_rules", .ref rq)] (pathT d x cs a' b') → Q .non H') :
    saJoi K D CK DP DJ gK gP (.ref q :: .str x :: cs.map V.str) [(("side" : Str), s)] (upd (upd H dx (.own q)) q (.ins C dx [])) Q E := by
  have line : 1000 ≤ sizeLine := by decide
  refine ⟨_, _, _, rfl, .inr ⟨s, rfl⟩, by rw [List.length_map]; omega, fun p hp => ?_⟩
  rw [show gJ [(("side" : Str), s)] = [.non, s] from rfl]
  have up := made_up (C := C) (o := .tup (cs.map V.str)) hq hd hp
  exact ⟨q, dx, C, p, x, cs, .non, s, d, u, rfl, made_at hp, upd_same, kc, so, soJ, con, wx, n3, dif, c12, .inl ⟨none, b, .non, rb.same up, fun H' rq a' b' sx e1 e2 pi ru => k H' rq a' b' (made_same hq hd ne hp sx) pi⟩⟩
theorem mk_pin0 {K : PySem.W.Frag} {H : Hp} {Q : VK} {E : XK} {CN CK gK C DI sd q dx : Addr} {x : Str} (hq : H q = none) (hd : H dx = none) (ne : dx ≠ q) {pins : List Str} (kc : KCls K C) (so : SupAt K C DI "__init__" gK) (wx : wd x = true) (n1 : 1 ≤ pins.length) (n6 : pins.length ≤ 6) (dif : difV (pins.map V.str) = true) (c12 : ∀ z ∈ pins, z.length ≤ 12)
    (hsd : ∀ H : Hp, SqT K H sd []) (ok : grpB [] pins = true) (k : ∀ H', Same H H' → PinI K H' q C dx x pins (gsOf pins []) → Q .non H') :
    saPin K CN CK DI gK sd (.ref q :: .str x :: pins.map V.str) [] (upd (upd H dx (.own q)) q (.ins C dx [])) Q E := by
  have line : 1000 ≤ sizeLine := by decide
  have x12 : x.length ≤ 12 := by
    unfold wd at wx
    simp only [Bool.and_eq_true, decide_eq_true_eq] at wx
    exact wx.1.1.1.1.2
  refine ⟨_, _, _, rfl, .inl rfl, by rw [List.length_map]; omega, fun p o hp od oc => ?_⟩
  have up := made_up (C := C) (o := .frz o (.tup (pins.map V.str))) hq hd hp
  refine ⟨q, dx, C, p, .str x, .ref sd, pins.map V.str, o, rfl, made_at hp, upd_same, od, oc, kc, so, .str x, by show x.length ≤ 1000; omega, by rw [List.length_map]; exact n1, by rw [List.length_map]; exact n6, fun y hy => ?_, .inr (.inr ⟨x, pins, rfl, rfl, wx, dif, c12, .inr ⟨sd, [], [], rfl, ⟨hsd _, rfl, fun i v h => by cases h⟩, by decide, by decide, fun z h => (by cases h), .inr ⟨ok, fun H' sx pi => k H' (made_same hq hd ne hp sx) pi⟩⟩⟩)⟩
  obtain ⟨z, hz, rfl⟩ := List.mem_map.mp hy
  exact ⟨.str _, Nat.le_trans (c12 z hz) (by decide)⟩
theorem d0 : difV (.str "a" :: .str "b" :: ([] : List Str).map V.str) = true := by decide +kernel
theorem d1 : difV (.str "a" :: .str "b" :: (["g"] : List Str).map V.str) = true := by decide +kernel
theorem t0 : ∀ y ∈ ([] : List Str), y.length ≤ 12 := by decide +kernel
theorem t1 : ∀ y ∈ (["g"] : List Str), y.length ≤ 12 := by decide +kernel
theorem o0 : ∀ y ∈ ("a" : Str) :: "b" :: ([] : List Str), PyData.strOk y = true := by decide +kernel
theorem o1 : ∀ y ∈ ("a" : Str) :: "b" :: (["g"] : List Str), PyData.strOk y = true := by decide +kernel
theorem o3 : ∀ y ∈ (["p", "q", "o"] : List Str), PyData.strOk y = true := by decide +kernel
theorem o4 : ∀ y ∈ (["m"] : List Str), PyData.strOk y = true := by decide +kernel
section
variable {P : Program} {w : World} {K : PySem.W.Frag} {mg : Str → Option Value} {base : Heap} {DK tp tg CP D CK CN DP DI DJ gK gP sd C0 CD CJ CDJ CI fP fD fJ fDJ fI : Addr}
def spLKs (K : PySem.W.Frag) (DK tp tg CP : Addr) : Sp := fun vs H Q _ => vs = [] ∧ ∀ a ks H', Same H H' → Kst K DK tp tg CP H' a ks 7 → Q (.ref a) H'
set_option maxHeartbeats 4000000 in
theorem ok_lks {f : Addr} {fd : FuncData} (F : Fun K "_law_kinds" "_law_kinds" sLKs f fd)
    (c0 : PCl K mg "PathKind" C0 fP DP gK false) (cD : PCl K mg "DirectedKind" CD fD DP gK true) (cJ : PCl K mg "JoiningKind" CJ fJ DP gK false) (jJ : SupAt K CJ DJ "__init__" gP) (cDJ : PCl K mg "DirectedJoiningKind" CDJ fDJ DP gK true) (jDJ : SupAt K CDJ DJ "__init__" gP)
    (gI : mg "PinKind" = some (.ref CI)) (MI : Mk K CI fI) (kcI : KCls K CI) (soI : SupAt K CI DI "__init__" gK)
    (q0 : KCl K DK tp tg CP C0) (qD : KCl K DK tp tg CP CD) (qJ : KCl K DK tp tg CP CJ) (qDJ : KCl K DK tp tg CP CDJ) (qI : KCl K DK tp tg CP CI) (hsd : ∀ H : Hp, SqT K H sd [])
    (FI : FnA P w K mg base (L2.CX P w) 6 fI (saPin K CN CK DI gK sd)) (FP : FnA P w K mg base (L2.CX P w) 5 fP (saPath K CN CK DP gK)) (FD : FnA P w K mg base (L2.CX P w) 5 fD (saPath K CN CK DP gK))
    (FJ : FnA P w K mg base (L2.CX P w) 7 fJ (saJoi K D CK DP DJ gK gP)) (FDJ : FnA P w K mg base (L2.CX P w) 7 fDJ (saJoi K D CK DP DJ gK gP)) :
    FnOk P w K mg base (L2.CX P w) 9 f fd [] (spLKs K DK tp tg CP) := by
  have sc : FnScope ["_law_found"] [] (defScope sLKs) := ⟨rfl, rfl, rfl, by decide +kernel, rfl, by decide +kernel, by decide +kernel⟩
  have hN := sc.nd
  refine F.okX sc (fun vs H Q E h => ?_) (fun cdv A outer s H vs Q E hr h => ?_)
  · obtain ⟨rfl, _⟩ := h
    rfl
  · obtain ⟨rfl, fin⟩ := h
    refine ⟨_, pss_cons (ps_set (i := 0) hN rfl (Or.inl rfl) (pe_lst (pa_cons (SupX.pe_makeA (ks := ["row", "side"]) (E := E0) cJ.mks FJ (hr.mono (by decide)) (by rfl) cJ.g passL (pa_cons pe_str pa_nil) (pk_cons pe_str (pk_cons pe_str pk_nil))) pa_nil)))
      (pss_cons (ps_set (i := 0) hN rfl (Or.inl rfl) (pe_op op_cat (pv 0) (pe_lst (pa_cons (SupX.pe_makeA (ks := ["row", "side"]) (E := E0) cJ.mks FJ (hr.mono (by decide)) (by rfl) cJ.g passL (pa_cons pe_str pa_nil) (pk_cons pe_str (pk_cons pe_str pk_nil))) pa_nil))))
      (pss_cons (ps_set (i := 0) hN rfl (Or.inl rfl) (pe_op op_cat (pv 0) (pe_lst (pa_cons (SupX.pe_makeA0 (E := E0) c0.mks FP (hr.mono (by decide)) (by rfl) c0.g passL (pa_cons pe_str (pa_cons pe_str pa_nil))) (pa_cons (SupX.pe_makeA0 (E := E0) cD.mks FD (hr.mono (by decide)) (by rfl) cD.g passL (pa_cons pe_str pa_nil))
          (pa_cons (SupX.pe_makeA (ks := ["side"]) (E := E0) cDJ.mks FDJ (hr.mono (by decide)) (by rfl) cDJ.g passL (pa_cons pe_str (pa_cons pe_str pa_nil)) (pk_cons pe_str pk_nil)) pa_nil))))))
      (pss_one (ps_ret (pe_op op_cat (pv 0) (pe_lst (pa_cons (SupX.pe_makeA (ks := ["swaps"]) (E := E0) MI FI (hr.mono (by decide)) (by rfl) gI passL (pa_cons pe_str (pa_cons pe_str (pa_cons pe_str (pa_cons pe_str pa_nil)))) (pk_cons (pe_tup (pa_cons (pe_tup (pa_cons pe_str (pa_cons pe_str pa_nil))) pa_nil)) pk_nil))
          (pa_cons (SupX.pe_makeA0 (E := E0) MI FI (hr.mono (by decide)) (by rfl) gI passL (pa_cons pe_str (pa_cons pe_str pa_nil))) pa_nil)))))))), ?_⟩
    have line : 1000 ≤ sizeLine := by decide
    obtain ⟨u0, con0⟩ := c0.con
    obtain ⟨uD, conD⟩ := cD.con
    obtain ⟨uJ, conJ⟩ := cJ.con
    obtain ⟨uDJ, conDJ⟩ := cDJ.con
    -- res
    refine ⟨rfl, fun a1 b1 ha1 hb1 ne1 => mk_joi (x := "res") (cs := []) (a := some true) (b := some false) ha1 hb1 ne1 (.inl rfl) cJ.kc cJ.so jJ conJ (by decide +kernel) (by decide) d0 t0 (.word true) (.word false) fun H1 rq1 _ _ s1 _ _ pi1 ru1 => ⟨rfl, (by show 1 ≤ sizeLine; omega), fun p1 np1 => ?_⟩⟩
    have k1 : Kst K DK tp tg CP (upd H1 p1 (.lst [.ref a1])) p1 [a1] 1 := ⟨upd_same, rfl, one_it ((kl_path qJ pi1 o0).same (same_upd np1))⟩
    have S1 := s1.trans (same_upd (o := .lst [.ref a1]) np1)
    generalize upd H1 p1 (.lst [.ref a1]) = G1 at k1 S1 ⊢
    -- cap
    refine ⟨_, rfl, rfl, fun a2 b2 ha2 hb2 ne2 => mk_joi (x := "cap") (cs := []) (a := some false) (b := some true) ha2 hb2 ne2 (.inl rfl) cJ.kc cJ.so jJ conJ (by decide +kernel) (by decide) d0 t0 (.word false) (.word true) fun H2 rq2 _ _ s2 _ _ pi2 ru2 => ⟨rfl, (by show 1 ≤ sizeLine; omega), fun p2 np2 => ?_⟩⟩
    have m2 : (upd H2 p2 (.lst [.ref a2])) p2 = some (.lst (([a2] : List Addr).map V.ref)) := upd_same
    have k2 := (k1.same s2).same (same_upd (o := .lst [.ref a2]) np2)
    have l2 := (kl_path qJ pi2 o0).same (same_upd (o := .lst [.ref a2]) np2)
    have S2 := S1.trans (s2.trans (same_upd (o := .lst [.ref a2]) np2))
    generalize upd H2 p2 (.lst [.ref a2]) = G2 at m2 k2 l2 S2 ⊢
    refine ⟨p1, p2, _, _, rfl, rfl, k2.at_, m2, (by show 1 + 1 ≤ sizeLine; omega), fun p3 np3 => ?_⟩
    have k3 := k2.add np3 [a2] (one_it l2)
    have S3 := S2.trans (same_upd (o := .lst (([a1] : List Addr).map V.ref ++ ([a2] : List Addr).map V.ref)) np3)
    generalize upd G2 p3 (.lst (([a1] : List Addr).map V.ref ++ ([a2] : List Addr).map V.ref)) = G3 at k3 S3 ⊢
    -- sw, dio, tr
    refine ⟨_, rfl, rfl, fun a4 b4 ha4 hb4 ne4 => mk_path (x := "sw") (cs := ["g"]) ha4 hb4 ne4 c0.kc c0.so con0 (by decide +kernel) (by decide) d1 t1 fun H4 s4 pi4 => ⟨rfl, ?_⟩⟩
    refine ⟨rfl, fun a5 b5 ha5 hb5 ne5 => mk_path (x := "dio") (cs := []) ha5 hb5 ne5 cD.kc cD.so conD (by decide +kernel) (by decide) d0 t0 fun H5 s5 pi5 => ⟨rfl, ?_⟩⟩
    refine ⟨rfl, fun a6 b6 ha6 hb6 ne6 => mk_joi1 (x := "tr") (cs := ["g"]) (b := some true) ha6 hb6 ne6 cDJ.kc cDJ.so jDJ conDJ (by decide +kernel) (by decide) d1 t1 (.word true) fun H6 rq6 _ _ s6 pi6 => ⟨rfl, (by show 3 ≤ sizeLine; omega), fun p6 np6 => ?_⟩⟩
    have s46 := s4.trans (s5.trans s6)
    have m6 : (upd H6 p6 (.lst [.ref a4, .ref a5, .ref a6])) p6 = some (.lst (([a4, a5, a6] : List Addr).map V.ref)) := upd_same
    have u6 : Same H6 (upd H6 p6 (.lst [.ref a4, .ref a5, .ref a6])) := same_upd np6
    have k6 := (k3.same s46).same u6
    have l4 := (kl_path q0 pi4 o1).same (s5.trans (s6.trans u6))
    have l5 := (kl_path qD pi5 o0).same (s6.trans u6)
    have l6 := (kl_path qDJ pi6 o1).same u6
    have S6 := S3.trans (s46.trans u6)
    generalize upd H6 p6 (.lst [.ref a4, .ref a5, .ref a6]) = G6 at m6 k6 l4 l5 l6 S6 u6 ⊢
    refine ⟨p3, p6, _, _, rfl, rfl, k6.at_, m6, (by show 2 + 3 ≤ sizeLine; omega), fun p7 np7 => ?_⟩
    have k7 := k6.add np7 [a4, a5, a6] (three_it l4 l5 l6)
    have S7 := S6.trans (same_upd (o := .lst ((([a1] ++ [a2]) : List Addr).map V.ref ++ ([a4, a5, a6] : List Addr).map V.ref)) np7)
    generalize upd G6 p7 (.lst ((([a1] ++ [a2]) : List Addr).map V.ref ++ ([a4, a5, a6] : List Addr).map V.ref)) = G7 at k7 S7 ⊢
    -- amp, tap
    refine ⟨_, rfl, (by show 2 ≤ sizeLine; omega), fun t1 nt1 => ⟨(by show 1 ≤ sizeLine; omega), fun t2 nt2 => ⟨rfl, fun a8 b8 ha8 hb8 ne8 => ?_⟩⟩⟩
    have sA : Same G7 (upd G7 t1 (.tup [.str "p", .str "q"])) := same_upd nt1
    have eA : (upd G7 t1 (.tup [.str "p", .str "q"])) t1 = some (.tup [.str "p", .str "q"]) := upd_same
    generalize upd G7 t1 (.tup [.str "p", .str "q"]) = GA at sA eA nt2 ha8 hb8 ⊢
    have sB : Same GA (upd GA t2 (.tup [.ref t1])) := same_upd nt2
    have eB : (upd GA t2 (.tup [.ref t1])) t2 = some (.tup [.ref t1]) := upd_same
    generalize upd GA t2 (.tup [.ref t1]) = GB at sB eB ha8 hb8 ⊢
    have gr : Grs K GB t2 [.ref t1] [some ["p", "q"]] := ⟨SqT.of eB, rfl, one_it ⟨some ["p", "q"], rfl, .tup (sB _ _ eA)⟩⟩
    refine mk_pin (x := "amp") (pins := ["p", "q", "o"]) ha8 hb8 ne8 kcI soI (by decide +kernel) (by decide) (by decide) (by decide +kernel) (by decide +kernel) gr (by show 1 ≤ 10; decide) (by decide +kernel) (by decide +kernel) (by decide +kernel) fun H8 s8 pi8 => ⟨rfl, ?_⟩
    refine ⟨rfl, fun a9 b9 ha9 hb9 ne9 => mk_pin0 (x := "tap") (pins := ["m"]) ha9 hb9 ne9 kcI soI (by decide +kernel) (by decide) (by decide) (by decide +kernel) (by decide +kernel) hsd (by decide +kernel) fun H9 s9 pi9 => ⟨rfl, (by show 2 ≤ sizeLine; omega), fun p9 np9 => ?_⟩⟩
    have m9 : (upd H9 p9 (.lst [.ref a8, .ref a9])) p9 = some (.lst (([a8, a9] : List Addr).map V.ref)) := upd_same
    have u9 : Same H9 (upd H9 p9 (.lst [.ref a8, .ref a9])) := same_upd np9
    have k9 := (k7.same (sA.trans (sB.trans (s8.trans s9)))).same u9
    have l8 := (kl_pin qI pi8 o3).same (s9.trans u9)
    have l9 := (kl_pin qI pi9 o4).same u9
    have S9 := S7.trans ((sA.trans (sB.trans (s8.trans s9))).trans u9)
    generalize upd H9 p9 (.lst [.ref a8, .ref a9]) = G9 at m9 k9 l8 l9 S9 u9 ⊢
    refine ⟨p7, p9, _, _, rfl, rfl, k9.at_, m9, (by show 5 + 2 ≤ sizeLine; omega), fun pA npA => ?_⟩
    exact fin pA _ _ (S9.trans (same_upd npA)) (k9.add npA [a8, a9] (two_it l8 l9))
end
end R5
end

-- L52
section
set_option Elab.async false
set_option linter.all false
set_option maxRecDepth 100000
set_option exponentiation.threshold 10000
namespace R5
open PySem L2 OwnOps OwnNe G1 StX SupX GenFor TryAs
abbrev sLPt : Stmt := top 49
abbrev sLErr : Stmt := top 50
abbrev NEr : List Str := ["_law_way", "_law_one", "_law_other", "_law_found", "e"]
theorem set5 {t : L2.St} (h : t.length = 5) (v : Option V) : (t.set 4 v)[4]? = some v := by
  rw [List.getElem?_set_self (by omega)]
def EN (n : Nat) (W : WX) : XK := fun cls d H' => ∀ t : L2.St, t.length = n → W cls d t H'
theorem pass_n {X : Cx} {W : WX} {n : Nat} (hn : X.N.length = n) (tk : Takes X W) : Passes (L2.CX X.prog X.w) X (EN n W) := by
  subst hn
  exact pass_all tk
/-- a new list of xs is handed back -/
def Gets (H : Hp) (Q : VK) (xs : List V) : Prop := ∀ r H', Same H H' → H' r = some (.lst xs) → Q (.ref r) H'
/-- .. of a word and a new tuple -/
def GetsT (H : Hp) (Q : VK) (ts : List V) : Prop := ∀ r t H', Same H H' → H' t = some (.tup ts) → H' r = some (.lst [.str "pins", .ref t]) → Q (.ref r) H'
theorem three_of : ∀ {ns : List Str}, 1 ≤ ns.length → ns.length ≤ 3 → (∃ x, ns = [x]) ∨ (∃ x y, ns = [x, y]) ∨ ∃ x y z, ns = [x, y, z]
  | [], h, _ => absurd h (by decide)
  | [x], _, _ => .inl ⟨x, rfl⟩
  | [x, y], _, _ => .inr (.inl ⟨x, y, rfl⟩)
  | [x, y, z], _, _ => .inr (.inr ⟨x, y, z, rfl⟩)
  | _ :: _ :: _ :: _ :: r, _, h => absurd h (by simp only [List.length_cons]; omega)
structure ZX (K : PySem.W.Frag) (CKd CNm CIP CNP CUn : Addr) : Prop where
  NK : PySem.W.exmOne K (.ref CNm) (.ref CKd) = some false
  PK : PySem.W.exmOne K (.ref CIP) (.ref CKd) = some false
  PN : PySem.W.exmOne K (.ref CIP) (.ref CNm) = some false
  VK : PySem.W.exmOne K (.ref CNP) (.ref CKd) = some false
  VN : PySem.W.exmOne K (.ref CNP) (.ref CNm) = some false
  VP : PySem.W.exmOne K (.ref CNP) (.ref CIP) = some false
  UK : PySem.W.exmOne K (.ref CUn) (.ref CKd) = some false
  UN : PySem.W.exmOne K (.ref CUn) (.ref CNm) = some false
  UP : PySem.W.exmOne K (.ref CUn) (.ref CIP) = some false
  UV : PySem.W.exmOne K (.ref CUn) (.ref CNP) = some false
/-- own [] of parts -/
structure OwnIt (K : PySem.W.Frag) (CP g s : Addr) : Prop where
  g1 : PySem.W.findIn K (.ref CP) "__getitem__" = some (some (.ref g))
  g2 : PySem.W.isFn K (.ref g) = true
  g3 : PySem.W.fnIn K g = true
  s0 : PySem.W.noSeq K CP = true
  s1 : PySem.W.findIn K (.ref CP) "__setitem__" = some (some (.ref s))
  s2 : PySem.W.isFn K (.ref s) = true
section
variable {P : Program} {w : World} {K : PySem.W.Frag} {mg : Str → Option Value} {base : Heap} {DK tp tg CR CP CKd fKd CNm fNm CIP fIP CUn fUn CNP fNP fI gi si sn : Addr}
def spLPt (K : PySem.W.Frag) (DK tp tg CR CP : Addr) : Sp := fun vs H Q _ => ∃ kp vv na l pins t b ns, vs = [.ref kp, vv, .ref na] ∧ KV K DK tp tg H kp l pins ∧ R5r.Vp CR H vv t b ∧ SqL K H na (ns.map V.str) ∧ ns.length = pins.length ∧ 1 ≤ ns.length ∧ ns.length ≤ 3 ∧ (∀ y ∈ ns, nm y = true ∧ shB y = true) ∧
  ∀ q dq H', Same H H' → H q = none → PartI K DK tp tg CR CP H' q dq kp l pins t b ns → Q (.ref q) H'
set_option maxHeartbeats 2000000 in
theorem ok_lpt {f : Addr} {fd : FuncData} (F : Fun K "_law_part" "_law_part" sLPt f fd) (T : Bi mg) (U : PTx K mg DK CP CKd fKd CNm fNm CIP fIP CUn fUn) (M : Mk K CP fI) (FI : FnR P w K mg base (L2.CX P w) 6 fI (spPart K DK tp tg CR CP CKd CNP CIP)) :
    FnOk P w K mg base (L2.CX P w) 8 f fd ["_law_kind", "_law_value", "_law_nets"] (spLPt K DK tp tg CR CP) := by
  have sc : FnScope ["_law_kind", "_law_value", "_law_nets"] ["_law_kind", "_law_value", "_law_nets"] (defScope sLPt) := ⟨rfl, rfl, rfl, by decide +kernel, rfl, by decide +kernel, by decide +kernel⟩
  refine F.okX sc (fun vs H Q E h => ?_) (fun cdv A outer s H vs Q E hr h => ?_)
  · obtain ⟨kp, vv, na, l, pins, t, b, ns, rfl, _⟩ := h
    rfl
  · obtain ⟨kp, vv, na, l, pins, t, b, ns, rfl, kv, vp, hS, ln, n1, n3, gd, k⟩ := h
    refine ⟨_, pss_cons (ps_if (pt_cmpR op_eq (pe_callB call_len_seq (by rfl) T.len PySem.boot_len (pa_cons (pv 2) pa_nil)) pe_int (nomark _)) (pss_one (ps_ret (pe_makeR (E := E0) M FI hr (by rfl) U.gP passL (pa_cons (pv 0) (pa_cons (pv 1) (pa_cons (pe_ix ix_list (pv 2) pe_int (fun _ _ => rfl)) pa_nil)))))) pss_nil)
      (pss_cons (ps_if (pt_cmpR op_eq (pe_callB call_len_seq (by rfl) T.len PySem.boot_len (pa_cons (pv 2) pa_nil)) pe_int (nomark _)) (pss_one (ps_ret (pe_makeR (E := E0) M FI hr (by rfl) U.gP passL (pa_cons (pv 0) (pa_cons (pv 1) (pa_cons (pe_ix ix_list (pv 2) pe_int (fun _ _ => rfl)) (pa_cons (pe_ix ix_list (pv 2) pe_int (fun _ _ => rfl)) pa_nil))))))) pss_nil)
      (pss_one (ps_ret (pe_makeR (E := E0) M FI hr (by rfl) U.gP passL (pa_cons (pv 0) (pa_cons (pv 1) (pa_cons (pe_ix ix_list (pv 2) pe_int (fun _ _ => rfl)) (pa_cons (pe_ix ix_list (pv 2) pe_int (fun _ _ => rfl)) (pa_cons (pe_ix ix_list (pv 2) pe_int (fun _ _ => rfl)) pa_nil))))))))), ?_⟩
    have line : 1000 ≤ sizeLine := by decide
    have wN : ∀ {i j : Int}, i ≠ j → decide (V.int i = V.int j) = false := fun h => decide_eq_false fun z => h (V.int.inj z)
    have fin : ∀ rest, rest = ns.map V.str → ∀ q dq, H q = none → H dq = none → dq ≠ q → spPart K DK tp tg CR CP CKd CNP CIP (.ref q :: .ref kp :: vv :: rest) (upd (upd H dq (.own q)) q (.ins CP dq [])) (fun v H2 => v = .non ∧ Q (.ref q) H2) E0 := fun rest er q dq hq hd ne =>
      mk_part hq hd ne kv vp er ln (by omega) gd fun H' s pi => ⟨rfl, k q dq H' s hq pi⟩
    rcases three_of n1 n3 with ⟨x, rfl⟩ | ⟨x, y, rfl⟩ | ⟨x, y, z, rfl⟩
    · exact ⟨_, rfl, na, _, rfl, .inl hS, rfl, _, rfl, if_pos' (decide_eq_true rfl) ⟨_, rfl, _, rfl, _, rfl, na, _, 0, .str x, rfl, rfl, hS, at_of rfl rfl, fin _ rfl⟩⟩
    · exact ⟨_, rfl, na, _, rfl, .inl hS, rfl, _, rfl, if_neg' (wN (by show ((2 : Nat) : Int) ≠ 1; decide)) ⟨_, rfl, na, _, rfl, .inl hS, rfl, _, rfl, if_pos' (decide_eq_true rfl) ⟨_, rfl, _, rfl, _, rfl, na, _, 0, .str x, rfl, rfl, hS, at_of rfl rfl, _, rfl, na, _, 1, .str y, rfl, rfl, hS, at_of (j := 1) rfl rfl, fin _ rfl⟩⟩⟩
    · exact ⟨_, rfl, na, _, rfl, .inl hS, rfl, _, rfl, if_neg' (wN (by show ((3 : Nat) : Int) ≠ 1; decide)) ⟨_, rfl, na, _, rfl, .inl hS, rfl, _, rfl, if_neg' (wN (by show ((3 : Nat) : Int) ≠ 2; decide)) ⟨_, rfl, _, rfl, _, rfl, na, _, 0, .str x, rfl, rfl, hS, at_of rfl rfl, _, rfl, na, _, 1, .str y, rfl, rfl, hS, at_of (j := 1) rfl rfl, _, rfl, na, _, 2, .str z, rfl, rfl, hS, at_of (j := 2) rfl rfl, fin _ rfl⟩⟩⟩
/-- what makes a wrong map of nets -/
def BadM (H : Hp) (v : V) : Prop := Av H v ∨ ∃ d kvs, v = .ref d ∧ H d = some (.dK kvs) ∧ kvs.length ≤ 100 ∧ (∀ e ∈ kvs, Av H e.2 ∧ ShN e.2) ∧ (kvs.all fun e => nmV e.2) = false
def spLErr (K : PySem.W.Frag) (DK tp tg CR CP : Addr) : Sp := fun vs H Q _ => ∃ (way : Int) (one other : V), vs = [.int way, one, other] ∧ (
  ((way = 0 ∧ NoK CP H one) ∧ Gets H Q [.str "kind", one]) ∨
  ((way = 0 ∧ (∃ kp l pins, one = .ref kp ∧ KV K DK tp tg H kp l pins) ∧ R5r.NoV CR H other) ∧ Gets H Q [.str "value", other]) ∨
  ((way = 0 ∧ (∃ kp l pins t b, one = .ref kp ∧ KV K DK tp tg H kp l pins ∧ R5r.Vp CR H other t b ∧ namesB [.str "x"] pins.length = false)) ∧ GetsT H Q [.str "x"]) ∨
  ((way = 1 ∧ (∃ p dx kp l pins t b ns, one = .ref p ∧ PartI K DK tp tg CR CP H p dx kp l pins t b ns) ∧ R5r.NoV CR H other) ∧ Gets H Q [.str "value", other]) ∨
  (∃ a v0 v1, (way = 2 ∧ other = .ref a ∧ H a = some (.tup [v0, v1]) ∧ (Av H v0 ∧ ShN v0) ∧ (Av H v1 ∧ ShN v1) ∧ ∃ p dx kp l pins t b ns, one = .ref p ∧ PartI K DK tp tg CR CP H p dx kp l pins t b ns ∧ namesB [v0, v1] pins.length = false) ∧ GetsT H Q [v0, v1]) ∨
  ((way = 3 ∧ ∃ p dx kp l pins t b ns, one = .ref p ∧ PartI K DK tp tg CR CP H p dx kp l pins t b ns ∧ NoPin K H pins other) ∧ Gets H Q [.str "unknown", other]) ∨
  (∃ a v0 v1, (way = 4 ∧ other = .ref a ∧ H a = some (.tup [v0, v1]) ∧ ∃ p dx kp l pins t b ns, one = .ref p ∧ PartI K DK tp tg CR CP H p dx kp l pins t b ns ∧ NoPin K H pins v0) ∧ Gets H Q [.str "unknown", v0]) ∨
  (∃ a v0 v1, (way = 4 ∧ other = .ref a ∧ H a = some (.tup [v0, v1]) ∧ (Av H v1 ∧ ShN v1 ∧ nmV v1 = false) ∧ ∃ p dx kp l pins t b ns i, one = .ref p ∧ PartI K DK tp tg CR CP H p dx kp l pins t b ns ∧ PinAt pins v0 i) ∧ Gets H Q [.str "name", v1]) ∨
  ((way = 5 ∧ (∃ p dx kp l pins t b ns, one = .ref p ∧ PartI K DK tp tg CR CP H p dx kp l pins t b ns) ∧ BadM H other) ∧ Gets H Q [.str "pins", other]))
theorem sh_x : ShN (.str "x") := by show shB "x" = true; decide +kernel
set_option maxHeartbeats 4000000 in
theorem ok_lerr {f : Addr} {fd gid sid : FuncData} (F : Fun K "_law_error" "_law_error" sLErr f fd) (U : PTx K mg DK CP CKd fKd CNm fNm CIP fIP CUn fUn) (eV : PySem.Giv.ErrTxt K mg "NotPositive" "NotPositive.__init__" "ValueError.__new__" veT CNP fNP) (Z : ZX K CKd CNm CIP CNP CUn)
    (M : Mk K CP fI) (FI : FnR P w K mg base (L2.CX P w) 6 fI (spPart K DK tp tg CR CP CKd CNP CIP)) (OV : R5r.Dun P w K mg base CP "set_value" 6 ["self", "value"] (spSV K DK tp tg CR CP CNP)) (mSN : Meth K CP "set_nets" sn) (FSN : FnR P w K mg base (L2.CX P w) 5 sn (spSN K DK tp tg CR CP CIP))
    (I : OwnIt K CP gi si) (GI : FnOk P w K mg base (L2.CX P w) 3 gi gid ["self", "at"] (spGI K DK tp tg CR CP CUn)) (bGI : L2.Binds K gid ["self", "at"] []) (GS : FnOk P w K mg base (L2.CX P w) 4 si sid ["self", "at", "worth"] (spSI K DK tp tg CR CP CUn CNm)) (bGS : L2.Binds K sid ["self", "at", "worth"] [])
    (OM : R5r.Dun P w K mg base CP "moved" 8 ["self", "nets"] (spMov K DK tp tg CR CP CIP)) :
    FnOk P w K mg base (L2.CX P w) 10 f fd ["_law_way", "_law_one", "_law_other"] (spLErr K DK tp tg CR CP) := by
  obtain ⟨_, _, va, vf, vk, GV, vb⟩ := OV.ex
  obtain ⟨_, _, ma, mf, mk, GM, mb⟩ := OM.ex
  have sc : FnScope NEr ["_law_way", "_law_one", "_law_other"] (defScope sLErr) := ⟨rfl, rfl, rfl, by decide +kernel, rfl, by decide +kernel, by decide +kernel⟩
  have hN := sc.nd
  refine F.okX sc (fun vs H Q E h => ?_) (fun cdv A outer s H vs Q E hr h => ?_)
  · obtain ⟨way, one, other, rfl, h⟩ := h
    rfl
  · obtain ⟨way, one, other, rfl, h⟩ := h
    refine ⟨_, pss_cons (ps_try_all rfl rfl sc.nd (takes_of rfl rfl rfl rfl) (fun W pn xe tk _ => (pss_one (ps_if (pt_cmpR op_eq (pv 0) pe_int (nomark _))
          (pss_one (ps_expr (pe_makeR (CX := L2.CX P w) (E := EN 5 W) M FI (hr.mono (by decide)) (by rfl) U.gP (pass_n rfl tk) (pa_cons (pv 1) (pa_cons (pv 2) (pa_cons pe_str pa_nil))))))
          (pss_one (ps_if (pt_cmpR op_eq (pv 0) pe_int (nomark _))
          (pss_one (ps_expr (pe_meth (CX := L2.CX P w) (E := EN 5 W) (pv 1) U.cl ⟨va, vf, vk⟩ GV (hr.mono (by decide)) vb .nil (pass_n rfl tk) (pa_cons (pv 2) pa_nil))))
          (pss_one (ps_if (pt_cmpR op_eq (pv 0) pe_int (nomark _))
          (pss_one (ps_expr (pe_methR (CX := L2.CX P w) (E := EN 5 W) (pv 1) U.cl mSN FSN (hr.mono (by decide)) (pass_n rfl tk) (pa_cons (pe_ix (show IxR _ (rIxT K) from ix_tup) (pv 2) pe_int (fun _ _ => rfl)) (pa_cons (pe_ix (show IxR _ (rIxT K) from ix_tup) (pv 2) pe_int (fun _ _ => rfl)) pa_nil)))))
          (pss_one (ps_if (pt_cmpR op_eq (pv 0) pe_int (nomark _))
          (pss_one (ps_set (i := 3) hN rfl (Or.inl rfl) (pe_itemO (CX := L2.CX P w) (C := CP) (E := EN 5 W) I.g1 I.g2 I.g3 GI (hr.mono (by decide)) bGI (pass_n rfl tk) (pv 1) (pv 2))))
          (pss_one (ps_if (pt_cmpR op_eq (pv 0) pe_int (nomark _))
          (pss_one (ps_asg (pe_ix (show IxR _ (rIxT K) from ix_tup) (pv 2) pe_int (fun _ _ => rfl)) (pg_sub (pv 1) (pe_ix (show IxR _ (rIxT K) from ix_tup) (pv 2) pe_int (fun _ _ => rfl)) (pset_O (CX := L2.CX P w) (C := CP) (E := EN 5 W) I.s0 I.s1 I.s2 GS (hr.mono (by decide)) bGS (pass_n rfl tk)))))
          (pss_one (ps_expr (pe_meth (CX := L2.CX P w) (E := EN 5 W) (pv 1) U.cl ⟨ma, mf, mk⟩ GM (hr.mono (by decide)) mb .nil (pass_n rfl tk) (pa_cons (pv 2) pa_nil)))))))))))))))
        (Clauses.cons (i := 4) rfl rfl ⟨rfl, by decide, .inl U.eK.gC⟩ (fun a oe cls d pn hz hf => pss_one (ps_ret (pe_lst (pa_cons pe_str (pa_cons (pe_byGiv U.eK hz hf (pv 4)) pa_nil)))))
        (Clauses.cons (i := 4) rfl rfl ⟨rfl, by decide, .inl U.eN.gC⟩ (fun a oe cls d pn hz hf => pss_one (ps_ret (pe_lst (pa_cons pe_str (pa_cons (pe_byGiv U.eN hz hf (pv 4)) pa_nil)))))
        (Clauses.cons (i := 4) rfl rfl ⟨rfl, by decide, .inl U.eP.gC⟩ (fun a oe cls d pn hz hf => pss_one (ps_ret (pe_lst (pa_cons pe_str (pa_cons (pe_byGiv U.eP hz hf (pv 4)) pa_nil)))))
        (Clauses.cons (i := 4) rfl rfl ⟨rfl, by decide, .inl eV.gC⟩ (fun a oe cls d pn hz hf => pss_one (ps_ret (pe_lst (pa_cons pe_str (pa_cons (pe_byGiv eV hz hf (pv 4)) pa_nil)))))
        (Clauses.cons (i := 4) rfl rfl ⟨rfl, by decide, .inl U.eU.gC⟩ (fun a oe cls d pn hz hf => pss_one (ps_ret (pe_lst (pa_cons pe_str (pa_cons (pe_byGiv U.eU hz hf (pv 4)) pa_nil)))))
        Clauses.nil))))))
      (pss_one (ps_ret (pe_lst (pa_cons pe_str pa_nil)))), ?_⟩
    have two : (2 : Nat) ≤ sizeLine := by decide
    have wN : ∀ {i j : Int}, i ≠ j → decide (V.int i = V.int j) = false := fun h => decide_eq_false fun z => h (V.int.inj z)
    have avx : ∀ x ∈ [V.str "x"], Av H x ∧ ShN x := fun x hx => by rw [List.mem_singleton.mp hx]; exact ⟨.str _, sh_x⟩
    have l1 : [V.str "x"].length ≤ 100 := by decide
    have fn : ∀ {m : Str} {a b c : V}, (¬ m = "kind" ∧ ¬ m = "_value" ∧ ¬ m = "_nets") → (pf a b c).lookup m = none := fun h => pf_none _ _ _ h.1 h.2.1 h.2.2
    rcases h with ⟨⟨rfl, nk⟩, k⟩ | ⟨⟨rfl, ⟨kp, l, pins, rfl, kv⟩, nv⟩, k⟩ | ⟨⟨rfl, kp, l, pins, t, b, rfl, kv, vp, g⟩, k⟩ | ⟨⟨rfl, ⟨p, dx, kp, l, pins, t, b, ns, rfl, pi⟩, nv⟩, k⟩ | ⟨a, v0, v1, ⟨rfl, rfl, ha, av0, av1, p, dx, kp, l, pins, t, b, ns, rfl, pi, g⟩, k⟩ | ⟨⟨rfl, p, dx, kp, l, pins, t, b, ns, rfl, pi, np⟩, k⟩ | ⟨a, v0, v1, ⟨rfl, rfl, ha, p, dx, kp, l, pins, t, b, ns, rfl, pi, np⟩, k⟩ | ⟨a, v0, v1, ⟨rfl, rfl, ha, ⟨av, sh, ng⟩, p, dx, kp, l, pins, t, b, ns, i, rfl, pi, pa⟩, k⟩ | ⟨⟨rfl, ⟨p, dx, kp, l, pins, t, b, ns, rfl, pi⟩, bad⟩, k⟩
    · exact ⟨_, rfl, rfl, _, rfl, if_pos' (decide_eq_true rfl) ⟨_, rfl, _, rfl, fun q dx hq hd ne => mk_noK hq hd ne nk l1 avx (fun d H1 sm hd t0 ht => ⟨true, U.eK.te, fun _ a ha => ⟨_, set5 ht _, rfl, rfl, d, _, rfl, hd, two, fun r nr => k r _ (sm.trans (same_upd nr)) upd_same⟩, fun z => nomatch z⟩)⟩⟩
    · exact ⟨_, rfl, rfl, _, rfl, if_pos' (decide_eq_true rfl) ⟨_, rfl, _, rfl, fun q dx hq hd ne => mk_noV hq hd ne kv nv l1 avx (fun d H1 sm hd t0 ht => ⟨false, Z.VK, (fun z => nomatch z), fun _ => ⟨false, Z.VN, (fun z => nomatch z), fun _ => ⟨false, Z.VP, (fun z => nomatch z), fun _ => ⟨true, eV.te, fun _ a ha => ⟨_, set5 ht _, rfl, rfl, d, _, rfl, hd, two, fun r nr => k r _ (sm.trans (same_upd nr)) upd_same⟩, fun z => nomatch z⟩⟩⟩⟩)⟩⟩
    · exact ⟨_, rfl, rfl, _, rfl, if_pos' (decide_eq_true rfl) ⟨_, rfl, _, rfl, fun q dx hq hd ne => mk_noN hq hd ne kv vp l1 avx g (fun d ta H1 sm hta hd t0 ht => ⟨false, Z.PK, (fun z => nomatch z), fun _ => ⟨false, Z.PN, (fun z => nomatch z), fun _ => ⟨true, U.eP.te, fun _ a ha => ⟨_, set5 ht _, rfl, rfl, d, _, rfl, hd, two, fun r nr => k r ta _ (sm.trans (same_upd nr)) (same_upd nr _ _ hta) upd_same⟩, fun z => nomatch z⟩⟩⟩)⟩⟩
    · obtain ⟨vp0, np0, h1, _⟩ := id pi.ex
      exact ⟨_, rfl, rfl, _, rfl, if_neg' (wN (by decide)) ⟨_, rfl, rfl, _, rfl, if_pos' (decide_eq_true rfl) ⟨_, rfl, p, dx, _, rfl, h1, (fn ⟨by decide +kernel, by decide +kernel, by decide +kernel⟩), _, rfl, p, dx, kp, l, pins, t, b, ns, other, rfl, pi, .inl ⟨nv, fun d H1 sm hd t0 ht => ⟨false, Z.VK, (fun z => nomatch z), fun _ => ⟨false, Z.VN, (fun z => nomatch z), fun _ => ⟨false, Z.VP, (fun z => nomatch z), fun _ => ⟨true, eV.te, fun _ a ha => ⟨_, set5 ht _, rfl, rfl, d, _, rfl, hd, two, fun r nr => k r _ (sm.trans (same_upd nr)) upd_same⟩, fun z => nomatch z⟩⟩⟩⟩⟩⟩⟩⟩
    · obtain ⟨vp0, np0, h1, _⟩ := id pi.ex
      exact ⟨_, rfl, rfl, _, rfl, if_neg' (wN (by decide)) ⟨_, rfl, rfl, _, rfl, if_neg' (wN (by decide)) ⟨_, rfl, rfl, _, rfl, if_pos' (decide_eq_true rfl) ⟨_, rfl, p, dx, _, rfl, h1, (fn ⟨by decide +kernel, by decide +kernel, by decide +kernel⟩), _, rfl, a, _, 0, v0, rfl, rfl, SqT.of ha, at_of (j := 0) rfl rfl, _, rfl, a, _, 1, v1, rfl, rfl, SqT.of ha, at_of (j := 1) rfl rfl, [.ref p], [v0, v1], rfl, rfl, two, fun ta nta => ⟨p, dx, kp, l, pins, t, b, ns, ta, [v0, v1], rfl, pi.same (same_upd nta), upd_same, (by show 2 ≤ 100; decide), (fun x hx => by rcases List.mem_cons.mp hx with rfl | hx; exact ⟨av0.1.same (same_upd nta), av0.2⟩; rw [List.mem_singleton.mp hx]; exact ⟨av1.1.same (same_upd nta), av1.2⟩), .inl ⟨g, fun d H1 sm hd t0 ht => ⟨false, Z.PK, (fun z => nomatch z), fun _ => ⟨false, Z.PN, (fun z => nomatch z), fun _ => ⟨true, U.eP.te, fun _ a ha => ⟨_, set5 ht _, rfl, rfl, d, _, rfl, hd, two, fun r nr => k r ta _ (((same_upd nta).trans sm).trans (same_upd nr)) (same_upd nr _ _ (sm _ _ upd_same)) upd_same⟩, fun z => nomatch z⟩⟩⟩⟩⟩⟩⟩⟩⟩
    · obtain ⟨vp0, np0, h1, _⟩ := id pi.ex
      exact ⟨_, rfl, rfl, _, rfl, if_neg' (wN (by decide)) ⟨_, rfl, rfl, _, rfl, if_neg' (wN (by decide)) ⟨_, rfl, rfl, _, rfl, if_neg' (wN (by decide)) ⟨_, rfl, rfl, _, rfl, if_pos' (decide_eq_true rfl) ⟨_, rfl, _, rfl, p, dx, _, rfl, h1, p, dx, kp, l, pins, t, b, ns, other, rfl, pi, .inr ⟨np, fun d H1 sm hd t0 ht => ⟨false, Z.UK, (fun z => nomatch z), fun _ => ⟨false, Z.UN, (fun z => nomatch z), fun _ => ⟨false, Z.UP, (fun z => nomatch z), fun _ => ⟨false, Z.UV, (fun z => nomatch z), fun _ => ⟨true, U.eU.te, fun _ a ha => ⟨_, set5 ht _, rfl, rfl, d, _, rfl, hd, two, fun r nr => k r _ (sm.trans (same_upd nr)) upd_same⟩, fun z => nomatch z⟩⟩⟩⟩⟩⟩⟩⟩⟩⟩⟩
    · obtain ⟨vp0, np0, h1, _⟩ := id pi.ex
      exact ⟨_, rfl, rfl, _, rfl, if_neg' (wN (by decide)) ⟨_, rfl, rfl, _, rfl, if_neg' (wN (by decide)) ⟨_, rfl, rfl, _, rfl, if_neg' (wN (by decide)) ⟨_, rfl, rfl, _, rfl, if_neg' (wN (by decide)) ⟨_, rfl, rfl, _, rfl, if_pos' (decide_eq_true rfl) ⟨_, rfl, a, _, 1, v1, rfl, rfl, SqT.of ha, at_of (j := 1) rfl rfl, _, rfl, _, rfl, a, _, 0, v0, rfl, rfl, SqT.of ha, at_of (j := 0) rfl rfl, p, dx, _, rfl, h1, p, dx, kp, l, pins, t, b, ns, v0, v1, rfl, pi, .inl ⟨np, fun d H1 sm hd t0 ht => ⟨false, Z.UK, (fun z => nomatch z), fun _ => ⟨false, Z.UN, (fun z => nomatch z), fun _ => ⟨false, Z.UP, (fun z => nomatch z), fun _ => ⟨false, Z.UV, (fun z => nomatch z), fun _ => ⟨true, U.eU.te, fun _ a ha => ⟨_, set5 ht _, rfl, rfl, d, _, rfl, hd, two, fun r nr => k r _ (sm.trans (same_upd nr)) upd_same⟩, fun z => nomatch z⟩⟩⟩⟩⟩⟩⟩⟩⟩⟩⟩⟩
    · obtain ⟨vp0, np0, h1, _⟩ := id pi.ex
      exact ⟨_, rfl, rfl, _, rfl, if_neg' (wN (by decide)) ⟨_, rfl, rfl, _, rfl, if_neg' (wN (by decide)) ⟨_, rfl, rfl, _, rfl, if_neg' (wN (by decide)) ⟨_, rfl, rfl, _, rfl, if_neg' (wN (by decide)) ⟨_, rfl, rfl, _, rfl, if_pos' (decide_eq_true rfl) ⟨_, rfl, a, _, 1, v1, rfl, rfl, SqT.of ha, at_of (j := 1) rfl rfl, _, rfl, _, rfl, a, _, 0, v0, rfl, rfl, SqT.of ha, at_of (j := 0) rfl rfl, p, dx, _, rfl, h1, p, dx, kp, l, pins, t, b, ns, v0, v1, rfl, pi, .inr ⟨i, pa, av, sh, .inl ⟨ng, fun d H1 sm hd t0 ht => ⟨false, Z.NK, (fun z => nomatch z), fun _ => ⟨true, U.eN.te, fun _ a ha => ⟨_, set5 ht _, rfl, rfl, d, _, rfl, hd, two, fun r nr => k r _ (sm.trans (same_upd nr)) upd_same⟩, fun z => nomatch z⟩⟩⟩⟩⟩⟩⟩⟩⟩⟩
    · obtain ⟨vp0, np0, h1, _⟩ := id pi.ex
      exact ⟨_, rfl, rfl, _, rfl, if_neg' (wN (by decide)) ⟨_, rfl, rfl, _, rfl, if_neg' (wN (by decide)) ⟨_, rfl, rfl, _, rfl, if_neg' (wN (by decide)) ⟨_, rfl, rfl, _, rfl, if_neg' (wN (by decide)) ⟨_, rfl, rfl, _, rfl, if_neg' (wN (by decide)) ⟨_, rfl, p, dx, _, rfl, h1, (fn ⟨by decide +kernel, by decide +kernel, by decide +kernel⟩), _, rfl, p, dx, kp, l, pins, t, b, ns, other, rfl, pi, .inl ⟨bad, fun d H1 sm hd t0 ht => ⟨false, Z.PK, (fun z => nomatch z), fun _ => ⟨false, Z.PN, (fun z => nomatch z), fun _ => ⟨true, U.eP.te, fun _ a ha => ⟨_, set5 ht _, rfl, rfl, d, _, rfl, hd, two, fun r nr => k r _ (sm.trans (same_upd nr)) upd_same⟩, fun z => nomatch z⟩⟩⟩⟩⟩⟩⟩⟩⟩⟩
end
end R5
end

-- ZipY
section
set_option Elab.async false
set_option maxRecDepth 100000
/-! zip of a tuple and a list, for the hand layer -/
namespace ZipY
open PySem PySem.Spec PyProof.Rows L2
open Sem (wp)
/-- the tuple at a and the list at b, side by side, in new pairs -/
def ItY (K : PySem.W.Frag) (a b : Addr) : It :=
  ⟨fun i H => ∃ (xs ys : List V) (x y : V), (SqT K H a xs ∧ SqL K H b ys) ∧ xs[i]? = some x ∧ ys[i]? = some y,
   fun i H v H' => ∃ T x y, (v = .ref T ∧ H T = none ∧ H' = upd H T (.tup [x, y])) ∧ (∀ xs, SqT K H a xs → xs[i]? = some x) ∧ ∀ ys, SqL K H b ys → ys[i]? = some y,
   fun i H => ∃ xs ys : List V, (SqT K H a xs ∧ SqL K H b ys) ∧ (xs.length ≤ i ∨ ys.length ≤ i)⟩
theorem turnY {P : Program} {w : World} {K : PySem.W.Frag} {elts : List Expr} {kk : Nat} {tpos : Pos} {a b z TI TO i1 i2 : Addr} (D : ZipM.Apt z TI TO i1 i2 a b) :
    Turn P w K (.Tuple elts kk tpos) (ItY K a b) [z, TI, TO, i1, i2] z (fun i h => (IsZip h z TI TO .none ∧ IsTupOf2 h TI (.ref i1) (.ref i2) ∧ ∃ x y, IsTupOf2 h TO x y) ∧ h.IsTupleIter i1 a i ∧ h.IsListIter i2 b i) where
  mem := List.mem_cons_self
  obj := by
    rintro i h ⟨⟨hz, hTI, x, y, hTO⟩, ⟨o1, e1, c1, d1⟩, o2, e2, c2, d2⟩ c hc
    simp only [List.mem_cons, List.not_mem_nil, or_false] at hc
    rcases hc with rfl | rfl | rfl | rfl | rfl
    · exact ⟨_, hz, fun v q => nomatch q⟩
    · exact ⟨_, hTI, fun v q => nomatch q⟩
    · exact ⟨_, hTO, fun v q => nomatch q⟩
    · exact ⟨o1, e1, fun v q => (by rw [d1] at q; cases q)⟩
    · exact ⟨o2, e2, fun v q => (by rw [d2] at q; cases q)⟩
  keep := by
    rintro i h h' ⟨⟨hz, hTI, x, y, hTO⟩, h1, h2⟩ k
    exact ⟨⟨k z (by simp) _ hz, k TI (by simp) _ hTI, x, y, k TO (by simp) _ hTO⟩, h1.at (fun o q => k i1 (by simp) o q), h2.at fun o q => k i2 (by simp) o q⟩
  item := by
    intro X hP hw hK hc i pins s σ H E I hf st hg
    subst hP hw hK
    obtain ⟨⟨hz, hTI, x0, y0, hTO⟩, h1, h2⟩ := st
    obtain ⟨xs, ys, x, y, ⟨qx, qy⟩, hx, hy⟩ := hg
    obtain ⟨its, rv, p1, _⟩ := I.tuple qx
    obtain ⟨its2, rv2, p2, _⟩ := I.list qy
    obtain ⟨u, hu, ru⟩ := rv.get hx
    obtain ⟨u2, hu2, ru2⟩ := rv2.get hy
    have lt1 : i < its.toArray.size := by simpa using (List.getElem?_eq_some_iff.mp hu).1
    have lt2 : i < its2.toArray.size := by simpa using (List.getElem?_eq_some_iff.mp hu2).1
    have hzl : z < s.heap.objs.size := Heap.lt_size hz
    refine wpAny_pyNext_zipD2_item D.s2 (Draws.tuple (A := X.A.in1) (I.ok.hd hc) i1 a D.a1 its.toArray) (Draws.list (A := X.A.in1) (I.ok.hd hc) i2 b D.b2 its2.toArray) hz hTI hTO ⟨h1, p1⟩ ⟨h2, p2.isList⟩ lt1 lt2 fun v1 v2 h' tk e1 e2 z' TO' st1 st2 hT hsz hk => ?_
    obtain rfl : v1 = u := Option.some.inj ((show its[i]? = some v1 by simpa using e1).symm.trans hu)
    obtain rfl : v2 = u2 := Option.some.inj ((show its2[i]? = some v2 by simpa using e2).symm.trans hu2)
    refine ⟨_, rfl, wpAny_letOwnedTupleGo_zip (s := { s with heap := h', toks := tk }) z' fun h'' z'' sb => ?_⟩
    have hT2 := (sb.2 _ (Nat.ne_of_gt hzl)).trans hT
    have new : ObjOk X.prog X.w (upd H s.heap.objs.size (.tup [x, y])) h'' s.heap.objs.size (.tup [x, y]) := ⟨(by show 2 ≤ sizeLine; decide), [v1, v2], .cons ru (.cons ru2 .nil), _, hT2, rfl, _, rfl⟩
    have I1 := I.turnedNew (t' := tk) (ch := [z, TI, TO, i1, i2]) (h' := h'') (fun c o hb q => (sb.2 c fun e => hb (by simp [e])).trans (hk c o (fun e => hb (by simp [e])) (fun e => hb (by simp [e])) (fun e => hb (by simp [e])) (fun e => hb (by simp [e])) q)) hf (Nat.le_refl _) new
    refine ⟨.ref s.heap.objs.size, _, I1, rfl, ⟨_, x, y, ⟨rfl, I.hok.fresh (Nat.le_refl _), rfl⟩, fun l hl => (by rw [I.tuple_inj hl qx]; exact hx), fun l hl => by rw [I.list_inj hl qy]; exact hy⟩, ⟨⟨z'', ?_, v1, v2, ?_⟩, ?_, ?_⟩, fun c hcm => ?_⟩
    · exact (sb.2 _ D.s2.TIz).trans (hk _ _ D.s2.TIz D.s2.TITO D.s2.TIi1 D.s2.TIi2 hTI)
    · exact (sb.2 _ D.s2.TOz).trans TO'
    · exact st1.1.at fun o q => (sb.2 _ (Ne.symm D.s2.zi1)).trans q
    · exact st2.1.at fun o q => (sb.2 _ (Ne.symm D.s2.zi2)).trans q
    · have lt : c < s.heap.objs.size := by
        obtain ⟨o1, e1, _⟩ := h1
        obtain ⟨o2, e2, _⟩ := h2
        simp only [List.mem_cons, List.not_mem_nil, or_false] at hcm
        rcases hcm with rfl | rfl | rfl | rfl | rfl
        · exact hzl
        · exact Heap.lt_size hTI
        · exact Heap.lt_size hTO
        · exact Heap.lt_size e1
        · exact Heap.lt_size e2
      rw [upd_ne (Nat.ne_of_lt lt)]
      exact (hf c hcm).1
  done := by
    intro X hP hw hK hc i pins s σ H E I hf st hg
    subst hP hw hK
    obtain ⟨⟨hz, hTI, x0, y0, hTO⟩, h1, h2⟩ := st
    obtain ⟨xs, ys, ⟨qx, qy⟩, hend⟩ := hg
    obtain ⟨its, rv, p1, _⟩ := I.tuple qx
    obtain ⟨its2, rv2, p2, _⟩ := I.list qy
    have l1 := rv.length
    have l2 := rv2.length
    have fin : ∀ h' tk, (∀ c o, c ≠ z → c ≠ TO → c ≠ i1 → c ≠ i2 → s.heap.get? c = some o → h'.get? c = some o) → (none : Option Value) = none ∧ Inv X pins σ H { s with heap := h', toks := tk } := fun h' tk hk =>
      ⟨rfl, I.turnedL (t' := tk) (ch := [z, TI, TO, i1, i2]) (fun c o hb q => hk c o (fun e => hb (by simp [e])) (fun e => hb (by simp [e])) (fun e => hb (by simp [e])) (fun e => hb (by simp [e])) q) hf⟩
    by_cases c1 : its.toArray.size ≤ i
    · by_cases c2 : its2.toArray.size ≤ i
      · exact wpAny_pyNext_zipD2_end D.s2 (ZipM.doneT (A := X.A.in1) (I.ok.hd hc) i1 a its.toArray i c1) (ZipM.doneL (A := X.A.in1) (I.ok.hd hc) i2 b its2.toArray i c2) hz hTI hTO ⟨rfl, h1, p1⟩ ⟨rfl, h2, p2.isList⟩ (Nat.le_refl _) (Nat.le_refl _) (.inl rfl) fin
      · exact wpAny_pyNext_zipD2_end D.s2 (ZipM.doneT (A := X.A.in1) (I.ok.hd hc) i1 a its.toArray i c1) (Draws.list (A := X.A.in1) (I.ok.hd hc) i2 b D.b2 its2.toArray) hz hTI hTO ⟨rfl, h1, p1⟩ ⟨h2, p2.isList⟩ (Nat.le_refl _) (by omega) (.inl rfl) fin
    · have c2 : its2.toArray.size ≤ i := by
        simp only [List.size_toArray] at c1 ⊢
        omega
      exact wpAny_pyNext_zipD2_end D.s2 (Draws.tuple (A := X.A.in1) (I.ok.hd hc) i1 a D.a1 its.toArray) (ZipM.doneL (A := X.A.in1) (I.ok.hd hc) i2 b its2.toArray i c2) hz hTI hTO ⟨h1, p1⟩ ⟨rfl, h2, p2.isList⟩ (by omega) (Nat.le_refl _) (.inr rfl) fin
  self := fun A i s Q E st h => wpAny_pyIter_zip st.1.1 h
def iZipY (K : PySem.W.Frag) (ta : TA) : TI := fun σ H R => ta σ H fun vs H1 => ∃ a b xs ys, vs = [.ref a, .ref b] ∧ SqT K H1 a xs ∧ SqL K H1 b ys ∧ R (ItY K a b) H1
theorem pi_zipY {X : Cx} {e e2 : Expr} {ta : TA} {p pos tpos : Pos} {elts : List Expr} {kk : Nat} (hg : Gl X "zip") (hm : X.mg "zip" = none) (ha : PA X [e, e2] ta) (hs : starEach [e, e2] X.env = (false, eval e X.env) :: starEach [e2] X.env := by rfl)
    (hpl : (backTo pos (starEach [e2] X.env)).any (·.1) = false := by rfl) : PI X (.Tuple elts kk tpos) (.Call (.Name "zip" p) [e, e2] [] pos) (iZipY X.K ta) := by
  constructor
  intro pins s σ H R I h
  refine Call_ (ld_blt I hg hm PyProof.Rows.boot_zip (PyProof.Rows.callWith_type1 (thn (ha.run pos pins s σ H _ I h) fun us s1 ⟨vs, H1, I1, r1, a, b, xs, ys, ex, qx, qy, q⟩ => ?_) hs hpl))
  subst ex
  rcases r1 with _ | ⟨r, rr⟩
  rcases rr with _ | ⟨r', rr⟩
  cases rr
  cases r
  cases r'
  obtain ⟨its, rv, p1, _⟩ := I1.tuple qx
  obtain ⟨its2, rv2, p2, _⟩ := I1.list qy
  obtain ⟨o2, ho2, _⟩ := id p1
  refine zip_begins2 (begins_tuple a its.toArray) (begins_list b its2.toArray) p1 p2.isList fun h' hz hTI hTO g1 g2 hsz hk => wpAny_pyIter_zip hz ?_
  refine ⟨s1.heap.objs.size + 4, [s1.heap.objs.size + 4, s1.heap.objs.size + 2, s1.heap.objs.size + 3, s1.heap.objs.size, s1.heap.objs.size + 1], _, _, H1, rfl, I1.kept (t' := s1.toks) hk, turnY (ZipM.apt s1.heap.objs.size a b (Heap.lt_size ho2) p2.lt), ⟨⟨hz, hTI, _, _, hTO⟩, ⟨_, g1, rfl, rfl⟩, _, g2, rfl, rfl⟩, fun c hcm => ?_, q⟩
  have le : s1.heap.objs.size ≤ c := by
    simp only [List.mem_cons, List.not_mem_nil, or_false] at hcm
    have ge : ∀ n m : Nat, n ≤ n + m := fun n m => Nat.le_add_right n m
    rcases hcm with rfl | rfl | rfl | rfl | rfl
    · exact ge _ _
    · exact ge _ _
    · exact ge _ _
    · exact Nat.le_refl _
    · exact ge _ _
  exact I1.fpOk le (I1.hok.fresh le)
theorem walk_zipY {K : PySem.W.Frag} {a b : Addr} {xs ys : List V} {n : Nat} (hn : n = xs.length) (hm : n = ys.length) : Walk (ItY K a b) n (fun H => SqT K H a xs ∧ SqL K H b ys) (YPair (fun i => xs[i]?) (fun i => ys[i]?)) := by
  refine ⟨fun i _ hi q => ⟨xs, ys, xs[i]'(by omega), ys[i]'(by omega), q, List.getElem?_eq_getElem _, List.getElem?_eq_getElem _⟩, fun _ q => ⟨xs, ys, q, by omega⟩, fun i H v H' _ q y => ?_⟩
  obtain ⟨T, x, y, ⟨h1, h2, h3⟩, h4, h5⟩ := y
  exact ⟨T, x, y, h1, h2, h3, h4 xs q.1, h5 ys q.2⟩
end ZipY
end

-- L53a
section
set_option Elab.async false
set_option linter.all false
set_option maxRecDepth 100000
set_option exponentiation.threshold 10000
namespace R5
open PySem L2 OwnOps OwnNe G1 StX SupX GenFor TryAs
theorem shpD {d : PyData} (h1 : d.canLay0 = true) (h2 : d.depth ≤ 64) : SeqAt.shaped d = true := by
  show (d.canLay0 && decide (d.depth ≤ 64)) = true
  rw [Bool.and_eq_true]
  exact ⟨h1, decide_eq_true h2⟩
def LyN (n : Nat) (d : PyData) : Prop := d.canLay0 = true ∧ d.depth ≤ n
def LyA (n : Nat) (ds : List PyData) : Prop := PyData.canLayAll0 ds = true ∧ PyData.depthAll ds ≤ n
theorem LyA.nil {n : Nat} : LyA n [] := ⟨by simp [PyData.canLayAll0], by simp [PyData.depthAll]⟩
theorem LyA.cons {n : Nat} {d : PyData} {ds : List PyData} (h : LyN n d) (t : LyA n ds) : LyA n (d :: ds) := by
  refine ⟨?_, ?_⟩
  · simp only [PyData.canLayAll0, h.1, t.1, Bool.and_self]
  · have h1 := h.2
    have h2 := t.2
    simp only [PyData.depthAll]
    omega
theorem LyN.lst {n : Nat} {ds : List PyData} (h : LyA n ds) : LyN (n + 1) (.list ds) := by
  refine ⟨by simp only [PyData.canLay0, h.1], ?_⟩
  have h1 := h.2
  simp only [PyData.depth]
  omega
theorem LyN.tup {n : Nat} {ds : List PyData} (h : LyA n ds) : LyN (n + 1) (.tuple ds) := by
  refine ⟨by simp only [PyData.canLay0, h.1], ?_⟩
  have h1 := h.2
  simp only [PyData.depth]
  omega
theorem LyN.mono {n m : Nat} {d : PyData} (h : LyN n d) (le : n ≤ m) : LyN m d := ⟨h.1, Nat.le_trans h.2 le⟩
theorem LyN.str {n : Nat} {x : Str} (h : PyData.strOk x = true) : LyN n (.str x) := ⟨by simp only [PyData.canLay0, h], by simp [PyData.depth]⟩
theorem LyN.shp {n : Nat} {d : PyData} (h : LyN n d) (le : n ≤ 64) : SeqAt.shaped d = true := R5.shpD h.1 (Nat.le_trans h.2 le)
theorem LyN.ne {n : Nat} {d : PyData} (h : LyN n d) : (!PyData.eqv d d) = false := by rw [SeqAt.eqv_refl d h.1]; rfl

theorem LyA.strs {n : Nat} : ∀ {xs : List Str}, (∀ y ∈ xs, PyData.strOk y = true) → LyA n (xs.map PyData.str)
  | [], _ => .nil
  | x :: xs, h => .cons (.str (h x List.mem_cons_self)) (LyA.strs fun y hy => h y (List.mem_cons_of_mem _ hy))
def rowD (x : Str × Str) : PyData := .tuple [.str x.1, .str x.2]
theorem LyA.rows {n : Nat} : ∀ {zs : List (Str × Str)}, (∀ x ∈ zs, PyData.strOk x.1 = true ∧ PyData.strOk x.2 = true) → LyA (n + 1) (zs.map rowD)
  | [], _ => .nil
  | x :: zs, h => .cons (.tup (.cons (.str (h x List.mem_cons_self).1) (.cons (.str (h x List.mem_cons_self).2) .nil))) (LyA.rows fun y hy => h y (List.mem_cons_of_mem _ hy))
/-- tuples of two texts -/
def TRow (H : Hp) (ts : List Addr) (zs : List (Str × Str)) : Prop := ∀ (j : Nat) (a : Addr) (x : Str × Str), ts[j]? = some a → zs[j]? = some x → H a = some (.tup [.str x.1, .str x.2])
theorem TRow.same {H H' : Hp} {ts : List Addr} {zs : List (Str × Str)} (h : TRow H ts zs) (s : Same H H') : TRow H' ts zs := fun j a x h1 h2 => s _ _ (h j a x h1 h2)
theorem dp_rows {K : PySem.W.Frag} {H : Hp} : ∀ {ts : List Addr} {zs : List (Str × Str)}, TRow H ts zs → ts.length = zs.length → DpAll K H (ts.map V.ref) (zs.map rowD)
  | [], [], _, _ => .nil
  | t :: ts, z :: zs, h, l => .cons (.tup (SqT.of (h 0 t z rfl rfl)) (.cons (.str _) (.cons (.str _) .nil))) (dp_rows (fun j a x h1 h2 => h (j + 1) a x h1 h2) (by simpa using l))
theorem TRow.add {H : Hp} {ts : List Addr} {zs : List (Str × Str)} {T : Addr} {i : Nat} {x : Str × Str} (h : TRow H ts zs) (lt : ts.length = i) (nT : H T = none) (hx : zs[i]? = some x) : TRow (upd H T (.tup [.str x.1, .str x.2])) (ts ++ [T]) zs := fun j a z hj hz => by
  by_cases lj : j < ts.length
  · rw [List.getElem?_append_left lj] at hj
    exact same_upd nT _ _ (h j a z hj hz)
  · have ej : j = i := by
      have := (List.getElem?_eq_some_iff.mp hj).1
      rw [List.length_append] at this
      have : j < ts.length + 1 := this
      omega
    subst ej
    rw [List.getElem?_append_right (by omega), lt, Nat.sub_self] at hj
    cases hj
    rw [hx] at hz
    cases hz
    exact upd_same
end R5
end

-- L53
section
set_option Elab.async false
set_option linter.all false
set_option maxRecDepth 100000
set_option exponentiation.threshold 10000
namespace R5
open PySem L2 OwnOps OwnNe G1 StX SupX GenFor TryAs GenS
abbrev sLIs : Stmt := top 51
abbrev NIs : List Str := ["_law_part_here", "_law_kind", "_law_value", "_law_nets", "_law_rows", "_law_pin", "_law_net", "_law_one"]
/-- own len, == and properties of parts -/
structure PMe (K : PySem.W.Frag) (CP gv gn gl ge pv pn : Addr) : Prop where
  vp : PropOf K CP "value" pv gv
  np : PropOf K CP "nets" pn gn
  l1 : PySem.W.findIn K (.ref CP) "__len__" = some (some (.ref gl))
  l2 : PySem.W.isFn K (.ref gl) = true
  e1 : PySem.W.findIn K (.ref CP) "__eq__" = some (some (.ref ge))
  e2 : PySem.W.isFn K (.ref ge) = true
  nf : PySem.W.notFirst K CP (.ref CP) = true
section
variable {P : Program} {w : World} {K : PySem.W.Frag} {mg : Str → Option Value} {base : Heap} {DK tp tg CR CP CKd fKd CNm fNm CIP fIP CUn fUn CNP fNP fI gi si sn gv gn gl ge pv_ pn_ ke gs CI fCI CZ fCZ : Addr}
def spLIs (K : PySem.W.Frag) (DK tp tg CR CP : Addr) : Sp := fun vs H Q _ => ∃ p dx kp vv na l pins t b ns, vs = [.ref p, .ref kp, vv, .ref na] ∧ PartI K DK tp tg CR CP H p dx kp l pins t b ns ∧ R5r.Vp CR H vv t b ∧ SqL K H na (ns.map V.str) ∧ 1 ≤ ns.length ∧ ns.length ≤ 3 ∧ (∀ y ∈ ns, PyData.strOk y = true) ∧ (∀ i y, pins[i]? = some y → PinAt pins (.str y) i) ∧ ∀ H', Same H H' → Q (.bl true) H'
set_option maxHeartbeats 4000000 in
theorem ok_lis {f : Addr} {fd gvd gnd gld ged gid ked gsd : FuncData} (F : Fun K "_law_is" "_law_is" sLIs f fd) (T : Bi mg) (U : PTx K mg DK CP CKd fKd CNm fNm CIP fIP CUn fUn) (UK : KndT K mg DK) (eDK : PySem.W.findIn K (.ref DK) "__eq__" = some (some (.ref ke))) (kef : PySem.W.isFn K (.ref ke) = true)
    (GE : FnOk P w K mg base (L2.CX P w) 3 ke ked ["self", "other"] (spKEq K DK tp tg)) (bE : L2.Binds K ked ["self", "other"] []) (TR : R5r.Txt K mg CR CI fCI CZ fCZ) (Z : R5r.Tys K CR) (RN : R5r.Dun P w K mg base CR (cmpInfo .NotEq).2.1 3 ["self", "other"] (R5r.spEq CR true))
    (X : PMe K CP gv gn gl ge pv_ pn_) (GVl : FnOk P w K mg base (L2.CX P w) 1 gv gvd ["self"] (spFld CP "_value")) (bVl : L2.Binds K gvd ["self"] []) (GNt : FnOk P w K mg base (L2.CX P w) 1 gn gnd ["self"] (spFld CP "_nets")) (bNt : L2.Binds K gnd ["self"] [])
    (GLn : FnOk P w K mg base (L2.CX P w) 1 gl gld ["self"] (spLen K DK tp tg CR CP)) (bLn : L2.Binds K gld ["self"] []) (GPE : FnOk P w K mg base (L2.CX P w) 5 ge ged ["self", "other"] (spPEq K DK tp tg CR CP)) (bPE : L2.Binds K ged ["self", "other"] [])
    (I : OwnIt K CP gi si) (GI : FnOk P w K mg base (L2.CX P w) 3 gi gid ["self", "at"] (spGI K DK tp tg CR CP CUn)) (bGI : L2.Binds K gid ["self", "at"] []) (mS : Meth K CP "seats" gs) (GSt : GFnS P w K mg base 1 gs gsd ["self"] (spSeats K DK tp tg CR CP)) (bSt : L2.Binds K gsd ["self"] [])
    (GP : Glb P w K mg base "_law_part" 8 ["_law_kind", "_law_value", "_law_nets"] (spLPt K DK tp tg CR CP)) :
    FnOk P w K mg base (L2.CX P w) 9 f fd ["_law_part_here", "_law_kind", "_law_value", "_law_nets"] (spLIs K DK tp tg CR CP) := by
  obtain ⟨_, _, ra, rf, _, GRN, rb⟩ := RN.ex
  obtain ⟨_, _, mP, kP, GP, bP⟩ := GP.ex
  have sc : FnScope NIs ["_law_part_here", "_law_kind", "_law_value", "_law_nets"] (defScope sLIs) := ⟨rfl, rfl, rfl, by decide +kernel, rfl, by decide +kernel, by decide +kernel⟩
  have hN := sc.nd
  refine F.okX sc (fun vs H Q E h => ?_) (fun cdv A outer s H vs Q E hr h => ?_)
  · obtain ⟨p, dx, kp, vv, na, l, pins, t, b, ns, rfl, _⟩ := h
    rfl
  · obtain ⟨p, dx, kp, vv, na, l, pins, t, b, ns, rfl, pi, vp, hS, n1, n3, sk, pat, fin⟩ := h
    have cP : ∀ C, C = CP → Cls K C ∧ PropOf K C "value" pv_ gv := fun C h => by subst h; exact ⟨U.cl, X.vp⟩
    have cN : ∀ C, C = CP → Cls K C ∧ PropOf K C "nets" pn_ gn := fun C h => by subst h; exact ⟨U.cl, X.np⟩
    refine ⟨_, pss_cons (ps_setLc (i := 4) (own := [("_law_pin", 5), ("_law_net", 6)]) (g := gTup K 2 (gCons (gName 5) (gCons (gName 6) gNil))) (tt := tYes) (te := tTup (tCons (tVar 5) (tCons (tVar 6) tNil))) rfl hN rfl rfl rfl (ZipY.pi_zipY (by rfl) T.zip (pa_cons (pe_fld (pv 1) rfl) (pa_cons (pv 3) pa_nil)))
          (blkOk_by (N := NIs) (sc := defScope sLIs) (by decide +kernel)) (fun _ _ _ _ _ => pg_two (i := 5) (j := 6) rfl hN rfl (Or.inl rfl) rfl (Or.inl rfl)) (fun _ _ _ _ _ => pts_nil) (fun _ _ _ _ _ => pe_tup (pa_cons (pv 5) (pa_cons (pv 6) pa_nil))))
      (pss_cons (ps_if (PW.pt (pw_or (pt_cmpR (op := .NotEq) (ne_same (S := KEqC K DK) (E := E0) (fun C h => ⟨h.hm, h.ne, h.eq.trans eDK, h.nf⟩) kef GE (hr.mono (by decide)) bE passL) (pe_fld (pv 0) rfl) (pv 1) (nomark _))
          (pw_or1 (pt_cmpR (op := .NotEq) (cmp_own (C := CR) (E := E0) (R := R5r.RAny CR) (fun _ _ => rfl) ra rf GRN (hr.mono (by decide)) rb passL (R5r.looks_any Z)) (pe_propC (S := fun C => C = CP) (E := E0) (pv 0) cP GVl (hr.mono (by decide)) bVl passL rfl) (pv 2) (nomark _))))) (pss_one (ps_ret pe_bl)) pss_nil)
      (pss_cons (ps_if (PW.pt (pw_or (pt_cmpR (op_neD hr.units) (pe_propC (S := fun C => C = CP) (E := E0) (pv 0) cN GNt (hr.mono (by decide)) bNt passL rfl) (pe_tupleOf (by rfl) T.tuple (pv 3)) (nomark _))
          (pw_or1 (pt_cmpR op_ne (pe_callB (call_lenO (C := CP) (E := E0) X.l1 X.l2 GLn (hr.mono (by decide)) bLn passL) (by rfl) T.len PySem.boot_len (pa_cons (pv 0) pa_nil)) (pe_callB call_len_seq (by rfl) T.len PySem.boot_len (pa_cons (pv 3) pa_nil)) (nomark _))))) (pss_one (ps_ret pe_bl)) pss_nil)
      (pss_cons (ps_if (PW.pt (pw_or (pt_cmpR (op_neD hr.units) (pe_lcS (own := [("_law_one", 7)]) (pgenS_meth0 (S := fun C => C = CP) (pv 0) (fun C h => by subst h; exact ⟨U.cl, mS⟩) GSt (fun vs H n cont h => by obtain ⟨_, _, _, _, _, _, _, _, rfl, _⟩ := h; rfl) (hr.mono (by decide)) bSt) rfl (hr.mono (by decide)) (blkOk_by (N := NIs) (sc := defScope sLIs) (by decide +kernel)) (fun _ _ => rfl)) (pv 4) (nomark _))
          (pw_or1 (pt_cmpR (op_neD hr.units) (pe_lc (own := [("_law_pin", 5)]) (g := gName 5) (tt := tYes) (te := tItemO CP (spGI K DK tp tg CR CP CUn) E0 (tVar 0) (tVar 5)) rfl hN (pi_tup (pe_fld (pv 1) rfl)) (blkOk_by (N := NIs) (sc := defScope sLIs) (by decide +kernel)) (fun _ _ _ _ _ => pg_name (i := 5) hN rfl (Or.inl rfl)) (fun _ _ _ _ _ => pts_nil)
            (fun _ _ _ _ _ => pe_itemO (C := CP) (E := E0) I.g1 I.g2 I.g3 GI (hr.mono (by decide)) bGI passL (pv 0) (pv 5))) (pe_callTy call_list_of (by rfl) T.list (by decide +kernel) (pa_cons (pv 3) pa_nil)) (nomark _))))) (pss_one (ps_ret pe_bl)) pss_nil)
      (pss_one (ps_ret (pe_and (pe_cmpR (op := .Eq) (cmp_own (C := CP) (E := E0) (R := RIns CP) (fun _ _ => rfl) X.e1 X.e2 GPE (hr.mono (by decide)) bPE passL (looks_ins X.nf)) (pv 0) (pe_call GP (hr.mono (by decide)) (by rfl) mP kP bP .nil passL (pa_cons (pv 1) (pa_cons (pv 2) (pa_cons (pv 3) pa_nil)))) (nomark _))
        (pe_one (pe_callB call_isi (by rfl) T.isi (by decide +kernel) (pa_cons (pe_propC (S := fun C => C = CP) (E := E0) (pv 0) cP GVl (hr.mono (by decide)) bVl passL rfl) (pa_cons (pe_glob (v := .ref CR) (by rfl) TR.gC rfl) pa_nil)))))))))), ?_⟩
    have line : 1000 ≤ sizeLine := by decide
    obtain ⟨vp0, np, h1, h2, h3, h4, h5, ln, few, gd⟩ := id pi.ex
    obtain ⟨C, dk, fs, pa, k1, kc, k3, k4, k5⟩ := id h2.ex
    obtain ⟨dv, hv⟩ := id h3
    have skp : ∀ x ∈ pins.zip ns, PyData.strOk x.1 = true ∧ PyData.strOk x.2 = true := fun x hx => ⟨h2.ok _ (List.of_mem_zip hx).1, sk _ (List.of_mem_zip hx).2⟩
    have zl : (pins.zip ns).length = ns.length := by rw [List.length_zip]; omega
    have lyR : LyN 3 (.list ((pins.zip ns).map rowD)) := .lst (LyA.rows skp)
    have lyT : LyN 1 (.tuple (ns.map PyData.str)) := .tup (LyA.strs sk)
    have lyL : LyN 1 (.list (ns.map PyData.str)) := .lst (LyA.strs sk)
    refine ⟨_, rfl, kp, C, dk, fs, _, rfl, k1, kc.kc.cl, kc.kc.n2, k4, _, rfl, pa, na, _, _, rfl, k5, hS, fun D nD => ?_⟩
    refine lc_it (ZipY.walk_zipY (K := K) (a := pa) (b := na) (xs := pins.map V.str) (ys := ns.map V.str) (n := ns.length) (by rw [List.length_map]; exact ln) (by rw [List.length_map])) (fun i G => Same H G ∧ ∃ ts : List Addr, G D = some (.lst (ts.map V.ref)) ∧ ts.length = i ∧ TRow G ts (pins.zip ns)) ⟨same_upd nD, [], upd_same, rfl, fun j a x h => by cases h⟩ (fun i G _ g => ⟨Same.tupS g.1 k5, g.1.seq hS⟩) (fun i v G G' hi g y => ?_) (fun G1 g => ?_)
    · obtain ⟨T0, x, y', rfl, nT, rfl, hu, hv'⟩ := y
      obtain ⟨sm, ts, hD, lt, tt⟩ := g
      have hu : (pins.map V.str)[i]? = some x := hu
      have hv' : (ns.map V.str)[i]? = some y' := hv'
      rw [List.getElem?_map] at hu hv'
      obtain ⟨z1, hz1, rfl⟩ := Option.map_eq_some_iff.mp hu
      obtain ⟨z2, hz2, rfl⟩ := Option.map_eq_some_iff.mp hv'
      have hz : (pins.zip ns)[i]? = some (z1, z2) := by rw [List.getElem?_zip_eq_some]; exact ⟨hz1, hz2⟩
      have sT := same_upd (o := .tup [V.str z1, V.str z2]) nT
      have e0 : (upd G T0 (.tup [V.str z1, V.str z2])) T0 = some (.tup [V.str z1, V.str z2]) := upd_same
      have hD1 := sT _ _ hD
      have tt1 := tt.same sT
      have sm1 := sm.trans sT
      generalize upd G T0 (.tup [V.str z1, V.str z2]) = G2 at e0 hD1 tt1 sm1 ⊢
      refine ⟨T0, _, rfl, SqT.of e0, rfl, _, _, rfl, _, _, rfl, rfl, rfl, yes_go (iteT ⟨_, rfl, _, rfl, (by show 2 ≤ sizeLine; omega), fun q nq => ?_⟩)⟩
      have sq := same_upd (o := .tup [V.str z1, V.str z2]) nq
      have tt2 := tt1.add lt nq hz
      have hD2 := sq _ _ hD1
      refine ⟨_, hD2, by rw [List.length_map, lt]; exact small1000 (by omega), same_put (sm1.trans sq) nD, ts ++ [q], by rw [upd_same, List.map_append]; rfl, by rw [List.length_append, lt]; rfl, fun j a x h1 h2 => ?_⟩
      have e := tt2 j a x h1 h2
      rw [upd_ne (fun z => by rw [z, hD2] at e; cases e)]
      exact e
    · obtain ⟨S1, ts, hD, lt, tt⟩ := g
      have hp1 := S1 _ _ h1
      have hk1 := S1 _ _ k1
      have key : ∀ G, Same H G → R5r.RAny CR vv G ∧ ∀ (Qk : VK) (Ek : XK), Qk (.bl false) G → R5r.spEq CR true [.ref vp0, vv] G Qk Ek := fun G s => by
        rcases vp.1 with ⟨q, rfl, dq, hq⟩ | ⟨rfl, rfl⟩
        · refine ⟨.inl ⟨q, dq, _, rfl, s _ _ hq⟩, fun Qk Ek h => ⟨vp0, _, t, b, rfl, h3.same s, .inl ⟨q, t, b, rfl, ⟨dq, s _ _ hq⟩, ?_⟩⟩⟩
          rw [decide_eq_true (rfl : t = t), decide_eq_true (rfl : b = b)]
          exact h
        · refine ⟨.inr (.inl ⟨_, rfl⟩), fun Qk Ek h => ⟨vp0, _, t, 1, rfl, h3.same s, .inr (.inl ⟨t, rfl, ?_⟩)⟩⟩
          rw [decide_eq_true (rfl : t = t), decide_eq_true (rfl : (1 : Int) = 1)]
          exact h
      refine ⟨_, rfl, p, CP, dx, _, _, rfl, hp1, U.cl, U.n1, pf_k _ _ _, _, rfl, kp, kp, C, dk, dk, fs, fs, ⟨rfl, rfl, hk1, hk1, h2.ce _ _ _ k1⟩, kp, l, _, rfl, (h2.same S1).ki, .inl ⟨kp, l, rfl, (h2.same S1).ki, _, rfl, _, rfl, if_neg' (by rw [decide_eq_true (rfl : l = l)]; rfl) ?_⟩⟩
      refine ⟨_, rfl, p, CP, dx, _, rfl, hp1, rfl, p, dx, _, _, rfl, hp1, pf_v _ _ _, _, rfl, vp0, dv, _, rfl, S1 _ _ hv, (key _ S1).1, (key _ S1).2 _ _ ⟨_, rfl, if_neg' rfl ?_⟩⟩
      refine ⟨_, rfl, p, CP, dx, _, rfl, hp1, rfl, p, dx, _, _, rfl, hp1, pf_n _ _ _, _, rfl, .inl ⟨na, _, rfl, S1.seq hS, fun q1 nq1 => ?_⟩⟩
      have S2 := S1.trans (same_upd (o := .tup (ns.map V.str)) nq1)
      have eq1 : (upd G1 q1 (.tup (ns.map V.str))) q1 = some (.tup (ns.map V.str)) := upd_same
      have hD2 := same_upd (o := .tup (ns.map V.str)) nq1 _ _ hD
      have tt2 := tt.same (same_upd (o := .tup (ns.map V.str)) nq1)
      generalize upd G1 q1 (.tup (ns.map V.str)) = G2 at S2 eq1 hD2 tt2 ⊢
      have hp2 := S2 _ _ h1
      refine ⟨.tuple (ns.map PyData.str), .tuple (ns.map PyData.str), .tup (Same.tupS S2 h5) (dp_strs ns), .tup (SqT.of eq1) (dp_strs ns), lyT.shp (by decide), lyT.shp (by decide), _, rfl, if_neg' lyT.ne ?_⟩
      refine ⟨_, rfl, p, dx, _, rfl, hp2, p, dx, kp, l, pins, t, b, ns, rfl, pi.same S2, _, rfl, by omega, by omega, _, rfl, na, _, rfl, .inl (S2.seq hS), rfl, _, rfl, if_neg' (by rw [List.length_map, decide_eq_true rfl]; rfl) ?_⟩
      refine ⟨pins.length, by omega, _, rfl, p, CP, dx, _, rfl, hp2, rfl, pf_none _ _ _ (by decide +kernel) (by decide +kernel) (by decide +kernel), p, dx, kp, l, pins, t, b, ns, rfl, pi.same S2, rfl, fun ts3 G3 s3 lt3 tt3 D3 nD3 => ?_⟩
      have s4 : Same G3 (upd G3 D3 (.lst (ts3.map V.ref))) := same_upd nD3
      have e4 : (upd G3 D3 (.lst (ts3.map V.ref))) D3 = some (.lst (ts3.map V.ref)) := upd_same
      have tt4 : TRow (upd G3 D3 (.lst (ts3.map V.ref))) ts3 (pins.zip ns) := TRow.same (show TRow G3 ts3 (pins.zip ns) from fun j a x h1 h2 => tt3 j a x h1 h2) s4
      generalize upd G3 D3 (.lst (ts3.map V.ref)) = G4 at s4 e4 tt4 ⊢
      have s24 := s3.trans s4
      have S4 := S2.trans s24
      have hp4 := S4 _ _ h1
      refine ⟨_, rfl, .list ((pins.zip ns).map rowD), .list ((pins.zip ns).map rowD), .lst (SqL.of e4) (dp_rows tt4 lt3), .lst (SqL.of (s24 _ _ hD2)) (dp_rows (tt2.same s24) (lt.trans zl.symm)), lyR.shp (by decide), lyR.shp (by decide), _, rfl, if_neg' lyR.ne ?_⟩
      refine ⟨_, rfl, kp, C, dk, fs, _, rfl, S4 _ _ k1, kc.kc.cl, kc.kc.n2, k4, pa, rfl, ⟨_, Same.tupS S4 k5⟩, fun D5 nD5 => ?_⟩
      refine lc_it (walk_tup (K := K) (a := pa) (xs := pins.map V.str)) (fun i G => Same G4 G ∧ G D5 = some (.lst ((ns.take i).map V.str))) ⟨same_upd nD5, upd_same⟩ (fun i G _ g => Same.tupS (S4.trans g.1) k5) (fun i v G G' hi g y => ?_) (fun G5 g => ?_)
      · obtain ⟨rfl, hx⟩ := y
        obtain ⟨sm, hD5⟩ := g
        rw [List.getElem?_map] at hx
        obtain ⟨z, hz, rfl⟩ := Option.map_eq_some_iff.mp hx
        rw [List.length_map] at hi
        have hn : ns[i]? = some (ns[i]'(by omega)) := List.getElem?_eq_getElem _
        have Sg := S4.trans sm
        refine ⟨rfl, yes_go (iteT ⟨_, rfl, _, rfl, p, dx, _, rfl, Sg _ _ h1, p, dx, kp, l, pins, t, b, ns, _, rfl, pi.same Sg, .inl ⟨i, _, pat i z hz, hn, fun G6 s6 => ⟨_, s6 _ _ hD5, ?_, same_put (sm.trans s6) nD5, ?_⟩⟩⟩)⟩
        · rw [List.length_map, List.length_take]
          exact small1000 (by omega)
        · rw [upd_same, take_succ_at hn, List.map_append]
          rfl
      · obtain ⟨sm, hD5⟩ := g
        rw [List.length_map, ← ln, List.take_length] at hD5
        have S5 := S4.trans sm
        refine ⟨_, rfl, na, _, rfl, .inl (S5.seq hS), fun q6 nq6 => ?_⟩
        have s6 : Same G5 (upd G5 q6 (.lst (ns.map V.str))) := same_upd nq6
        have e6 : (upd G5 q6 (.lst (ns.map V.str))) q6 = some (.lst (ns.map V.str)) := upd_same
        generalize upd G5 q6 (.lst (ns.map V.str)) = G6 at s6 e6 ⊢
        have S6 := S5.trans s6
        refine ⟨.list (ns.map PyData.str), .list (ns.map PyData.str), .lst (SqL.of (s6 _ _ hD5)) (dp_strs ns), .lst (SqL.of e6) (dp_strs ns), lyL.shp (by decide), lyL.shp (by decide), _, rfl, if_neg' lyL.ne ?_⟩
        refine ⟨_, rfl, _, rfl, _, rfl, _, rfl, kp, vv, na, l, pins, t, b, ns, rfl, h2.same S6, vp.same S6, S6.seq hS, ln, n1, n3, gd, fun q7 dq7 G7 s7 hq7 pq7 => ?_⟩
        have S7 := S6.trans s7
        obtain ⟨vq, nq, hq1, _⟩ := id pq7.ex
        refine ⟨p, dx, _, rfl, S7 _ _ h1, ⟨q7, dq7, _, rfl, hq1⟩, p, dx, kp, l, pins, t, b, ns, _, rfl, pi.same S7, .inl ⟨q7, dq7, t, b, ns, rfl, pq7, sk, sk, _, rfl, if_pos' (by rw [decide_eq_true (rfl : t = t), decide_eq_true (rfl : b = b), decide_eq_true (rfl : ns = ns)]; rfl) ?_⟩⟩
        exact ⟨_, rfl, p, CP, dx, _, rfl, S7 _ _ h1, rfl, p, dx, _, _, rfl, S7 _ _ h1, pf_v _ _ _, _, _, _, _, _, rfl, .own CR, .base (.ins (S7 _ _ hv) TR.cl TR.ha TR.hn TR.htk TR.hm), TR.kCC, fin G7 S7⟩
end
end R5
end

-- L54
section
set_option Elab.async false
set_option linter.all false
set_option maxRecDepth 100000
set_option exponentiation.threshold 10000
namespace R5
open PySem L2 OwnOps OwnNe G1 StX SupX GenFor TryAs GenS
abbrev sLSR : Stmt := top 52
abbrev NSR : List Str := ["_law_draws_here", "_law_part_here", "_law_kind", "_law_value", "_law_nets", "_law_at", "_law_net", "_law_bad"]
abbrev DA : Eqv := fun x y H => DFlat x y H ∨ DSame x y H
theorem mon_DA : Mon DA := mon_flat.or mon_same
theorem eqG_DA {X : Cx} : EqG X 0 DA := eqG_flat.or eqG_same
theorem da_av {H : Hp} {v : V} (h : Av H v) : DA v v H := by
  cases h with
  | str x => exact .inl ⟨rfl, rfl, by simp [eqV]⟩
  | non => exact .inl ⟨rfl, rfl, by simp [eqV]⟩
  | int i => exact .inl ⟨rfl, rfl, by simp [eqV]⟩
  | bl b => exact .inl ⟨rfl, rfl, by simp [eqV]⟩
  | lst e => exact .inr ⟨rfl, _, rfl⟩
  | tup e => exact .inr ⟨rfl, _, rfl⟩
theorem ne_word {G : Hp} {Q : VK} {r q : Addr} {wd v : V} {s : Str} (hw : wd = .str s) (h1 : G r = some (.lst [wd, v])) (h2 : G q = some (.lst [wd, v])) (da : DA v v G) (k : ∀ H', Same G H' → Q (.bl false) H') : rNeG DA (.ref r) (.ref q) G Q := by
  subst hw
  exact ⟨⟨r, q, _, _, rfl, rfl, h1, h2, .cons (.inl ⟨rfl, rfl, by simp [eqV]⟩) (.cons da .nil)⟩, fun H' e => k H' e⟩
/-- all stands but at l and p; draws stand at l -/
structure S2 (l p : Addr) (H G : Hp) : Prop where
  sx : ∀ b u, b ≠ l → b ≠ p → H b = some u → G b = some u
  at_ : ∃ x y : Int, G l = some (.lst [.int x, .int y])
section
variable {l p : Addr} {H G G' : Hp}
theorem S2.same (s : S2 l p H G) (e : Same G G') : S2 l p H G' := ⟨fun b u n1 n2 h => e _ _ (s.sx b u n1 n2 h), let ⟨x, y, h⟩ := s.at_; ⟨x, y, e _ _ h⟩⟩
theorem S2.draw (s : S2 l p H G) {x y : Int} : S2 l p H (upd G l (.lst [.int x, .int y])) := ⟨fun b u n1 n2 h => by rw [upd_ne n1]; exact s.sx b u n1 n2 h, x, y, upd_same⟩
theorem S2.put (s : S2 l p H G) (e : SameX p G G') {C dx : Addr} {fs : List (Str × V)} (hp : G p = some (.ins C dx fs)) : S2 l p H G' := by
  refine ⟨fun b u n1 n2 h => e _ _ n2 (s.sx b u n1 n2 h), ?_⟩
  obtain ⟨x, y, h⟩ := s.at_
  exact ⟨x, y, e _ _ (fun z => by rw [z, hp] at h; cases h) h⟩
end
section
variable {K : PySem.W.Frag} {DK tp tg CR CP l p dx kp a : Addr} {H : Hp} {ll : Str} {pins ns : List Str} {t b : Int} {zs : List V} {o : HO}
theorem sqT_draw {xs : List V} (hl : H l = some (.lst zs)) (h : SqT K H a xs) : SqT K (upd H l o) a xs := by
  have ne : ∀ u, H a = some u → (∀ z, u ≠ .lst z) → (upd H l o) a = some u := fun u e n => by
    rw [upd_ne (fun z => by rw [z, hl] at e; exact n _ (Option.some.inj e).symm)]
    exact e
  rcases h with (h | ⟨w, h⟩) | h
  · exact .inl (.inl (ne _ h fun z e => by cases e))
  · exact .inl (.inr ⟨w, ne _ h fun z e => by cases e⟩)
  · exact .inr h
theorem ins_draw {C d : Addr} {fs : List (Str × V)} (hl : H l = some (.lst zs)) (h : H a = some (.ins C d fs)) : (upd H l o) a = some (.ins C d fs) := by
  rw [upd_ne (fun z => by rw [z, hl] at h; cases h)]
  exact h
theorem KV.draw (h : KV K DK tp tg H kp ll pins) (hl : H l = some (.lst zs)) : KV K DK tp tg (upd H l o) kp ll pins := by
  obtain ⟨C, dk, fs, pa, h1, h2, h3, h4, h5⟩ := h.ex
  exact ⟨⟨C, dk, fs, pa, ins_draw hl h1, h2, h3, h4, sqT_draw hl h5⟩, h.ok, fun C2 d2 f2 e => by rw [ins_draw hl h1] at e; cases e; exact h.ce _ _ _ h1⟩
theorem PartI.draw (h : PartI K DK tp tg CR CP H p dx kp ll pins t b ns) (hl : H l = some (.lst zs)) : PartI K DK tp tg CR CP (upd H l o) p dx kp ll pins t b ns := by
  obtain ⟨vp, np, h1, h2, ⟨dv, h3⟩, h4, h5, h6⟩ := h.ex
  exact ⟨vp, np, ins_draw hl h1, h2.draw hl, ⟨dv, ins_draw hl h3⟩, h4, sqT_draw hl h5, h6⟩
theorem num_draw {v : V} (h : R5r.Num CR H v t b) (hl : H l = some (.lst zs)) : R5r.Num CR (upd H l o) v t b := by
  rcases h with ⟨q, rfl, dq, r⟩ | h
  · exact .inl ⟨q, rfl, dq, ins_draw hl r⟩
  · exact .inr h
end
theorem sql_put {C dx p : Addr} {fs : List (Str × V)} {a : Addr} {xs : List V} {H H' : Hp} (hp : H p = some (.ins C dx fs)) (s : SameX p H H') (h : H a = some (.lst xs)) : H' a = some (.lst xs) := s _ _ (fun z => by rw [z, hp] at h; cases h) h
theorem num_sx {CR p C dx : Addr} {fs : List (Str × V)} {H H' : Hp} {v : V} {t b : Int} (h : R5r.Num CR H v t b) (hp : H p = some (.ins C dx fs)) (nl : fs.lookup ("top" : Str) = none) (s : SameX p H H') : R5r.Num CR H' v t b := by
  rcases h with ⟨q, rfl, r⟩ | h
  · exact .inl ⟨q, rfl, rat_sx r hp nl s⟩
  · exact .inr h
theorem no_strs {zs : List Str} (x y : Int) : (HO.lst (zs.map V.str)) ≠ .lst [.int x, .int y] := fun e => by
  cases zs with
  | nil => cases e
  | cons z r => injection e with e; injection e with e1 e2; cases e1
def net4 : List Str := ["x", "y9", "a/b", "abcdefghijkl"]
theorem net4_ok : ∀ z ∈ net4, nm z = true ∧ shB z = true ∧ PyData.strOk z = true := by decide +kernel
/-- a text or None -/
def Sc (v : V) : Prop := (∃ x, v = .str x ∧ (shB x && PyData.strOk x) = true) ∨ v = .non
def scD : V → PyData
  | .str x => .str x
  | _ => .none
theorem Sc.all {K : PySem.W.Frag} {v : V} (h : Sc v) (H : Hp) : (Av H v ∧ ShN v) ∧ Dp K H v (scD v) ∧ LyN 0 (scD v) := by
  rcases h with ⟨x, rfl, h⟩ | rfl
  · rw [Bool.and_eq_true] at h
    exact ⟨⟨.str x, h.1⟩, .str x, .str h.2⟩
  · exact ⟨⟨.non, trivial⟩, .non, by decide, by decide⟩
theorem sc_s {x : Str} (h : (shB x && PyData.strOk x) = true) : Sc (.str x) := .inl ⟨x, rfl, h⟩
theorem pins_ne {K : PySem.W.Frag} {G : Hp} {Q : VK} {r q T U : Addr} {v0 v1 : V} (h0 : Sc v0) (h1 : Sc v1) (hr : G r = some (.lst [.str "pins", .ref T])) (hT : G T = some (.tup [v0, v1])) (hq : G q = some (.lst [.str "pins", .ref U])) (hU : G U = some (.tup [v0, v1])) (k : Q (.bl false) G) : rNeD K (.ref r) (.ref q) G Q := by
  obtain ⟨_, d0, l0⟩ := h0.all (K := K) G
  obtain ⟨_, d1, l1⟩ := h1.all (K := K) G
  have ly : LyN 2 (.list [.str "pins", .tuple [scD v0, scD v1]]) := .lst (.cons (.str (by decide +kernel)) (.cons (.tup (.cons l0 (.cons l1 .nil))) .nil))
  refine ⟨_, _, .lst (SqL.of hr) (.cons (.str _) (.cons (.tup (SqT.of hT) (.cons d0 (.cons d1 .nil))) .nil)), .lst (SqL.of hq) (.cons (.str _) (.cons (.tup (SqT.of hU) (.cons d0 (.cons d1 .nil))) .nil)), ly.shp (by decide), ly.shp (by decide), ?_⟩
  rw [ly.ne]
  exact k
/-- the three values that a part is given -/
def Three (t b : Int) : Prop := (t = 7 ∧ b = 1) ∨ (t = 1 ∧ b = 3) ∨ (t = 10 ^ 40 ∧ b = 1)
theorem pin_at {pins : List Str} (nd : pins.Nodup) {i : Nat} {y : Str} (h : pins[i]? = some y) : PinAt pins (.str y) i := by
  refine ⟨y, rfl, h, fun j lt e => ?_⟩
  obtain ⟨l1, e1⟩ := List.getElem?_eq_some_iff.mp h
  obtain ⟨l2, e2⟩ := List.getElem?_eq_some_iff.mp e
  exact (List.pairwise_iff_getElem.mp (List.nodup_iff_pairwise_ne.mp nd)) j i l2 l1 lt (e2.trans e1.symm)
theorem kp_nd : ∀ pins ∈ kPins, pins.Nodup := by decide +kernel
theorem kp_len : ∀ pins ∈ kPins, 1 ≤ pins.length ∧ pins.length ≤ 3 := by decide +kernel
theorem kp_no : ∀ pins ∈ kPins, ∀ y ∈ pins, ∀ z ∈ (["", "z", "aa"] : List Str), PyData.eqv (.str y) (.str z) = false := by decide +kernel
theorem no_pin {K : PySem.W.Frag} {H : Hp} {pins : List Str} (kp : pins ∈ kPins) {v : V} (h : v = .non ∨ v = .int 0 ∨ (∃ z ∈ (["", "z", "aa"] : List Str), v = .str z) ∨ ∃ a, v = .ref a ∧ H a = some (.lst [.str "m"])) : NoPin K H pins v := by
  rcases h with rfl | rfl | ⟨z, hz, rfl⟩ | ⟨a, rfl, ha⟩
  · exact ⟨.none, .non, by decide, fun y _ => by simp only [PyData.eqv]⟩
  · exact ⟨.int 0, .int 0, by decide, fun y _ => by simp only [PyData.eqv]⟩
  · exact ⟨.str z, .str z, shp_str (by revert z; decide +kernel), fun y hy => kp_no pins kp y hy z hz⟩
  · exact ⟨.list [.str "m"], .lst (SqL.of ha) (.cons (.str _) .nil), by decide +kernel, fun y _ => by simp only [PyData.eqv]⟩
section
variable {P : Program} {w : World} {K : PySem.W.Frag} {mg : Str → Option Value} {base : Heap} {DK tp tg CR CP CKd fKd CNm fNm CIP fIP CUn fUn CNP fNP fI gi si sn CI fCI CZ fCZ : Addr}
def spLSR (K : PySem.W.Frag) (DK tp tg CR CP : Addr) : Sp := fun vs H Q _ => ∃ l p dx kp vv na ll pins t b ns, vs = [.ref l, .ref p, .ref kp, vv, .ref na] ∧ (∃ x y : Int, H l = some (.lst [.int x, .int y])) ∧ PartI K DK tp tg CR CP H p dx kp ll pins t b ns ∧ pins ∈ kPins ∧ H na = some (.lst (ns.map V.str)) ∧ (∀ y ∈ ns, PyData.strOk y = true) ∧
  ∀ H' t' b' ms, S2 l p H H' → PartI K DK tp tg CR CP H' p dx kp ll pins t' b' ms → Three t' b' → (∀ y ∈ ms, PyData.strOk y = true) → Q (.bl true) H'
set_option maxHeartbeats 8000000 in
theorem ok_lsr {f : Addr} {fd sid : FuncData} (F : Fun K "_law_set_right" "_law_set_right" sLSR f fd) (T : Bi mg) (U : PTx K mg DK CP CKd fKd CNm fNm CIP fIP CUn fUn) (TR : R5r.Txt K mg CR CI fCI CZ fCZ) (M : R5r.Mak P w K mg base CR CI CZ)
    (OV : R5r.Dun P w K mg base CP "set_value" 6 ["self", "value"] (spSV K DK tp tg CR CP CNP)) (mSN : Meth K CP "set_nets" sn) (FSN : FnR P w K mg base (L2.CX P w) 5 sn (spSN K DK tp tg CR CP CIP))
    (I : OwnIt K CP gi si) (GS : FnOk P w K mg base (L2.CX P w) 4 si sid ["self", "at", "worth"] (spSI K DK tp tg CR CP CUn CNm)) (bGS : L2.Binds K sid ["self", "at", "worth"] [])
    (GDr : Glb P w K mg base "_law_draw" 1 ["_law_draws_here", "_law_upto"] spDraw) (GEr : Glb P w K mg base "_law_error" 10 ["_law_way", "_law_one", "_law_other"] (spLErr K DK tp tg CR CP)) (GI_ : Glb P w K mg base "_law_is" 9 ["_law_part_here", "_law_kind", "_law_value", "_law_nets"] (spLIs K DK tp tg CR CP)) :
    FnOk P w K mg base (L2.CX P w) 11 f fd ["_law_draws_here", "_law_part_here", "_law_kind", "_law_value", "_law_nets"] (spLSR K DK tp tg CR CP) := by
  obtain ⟨_, _, va, vf, vk, GV, vb⟩ := OV.ex
  obtain ⟨_, _, mD, kD, GD, bD⟩ := GDr.ex
  obtain ⟨_, _, mE, kE, GE, bE⟩ := GEr.ex
  obtain ⟨_, _, mI, kI, GIs, bI⟩ := GI_.ex
  obtain ⟨_, _, ds, mk, GI, b3, d2, b2⟩ := M.ex
  have sc : FnScope NSR ["_law_draws_here", "_law_part_here", "_law_kind", "_law_value", "_law_nets"] (defScope sLSR) := ⟨rfl, rfl, rfl, by decide +kernel, rfl, by decide +kernel, by decide +kernel⟩
  have hN := sc.nd
  refine F.okX sc (fun vs H Q E h => ?_) (fun cdv A outer s H vs Q E hr h => ?_)
  · obtain ⟨l, p, dx, kp, vv, na, ll, pins, t, b, ns, rfl, _⟩ := h
    rfl
  · obtain ⟨l, p, dx, kp, vv, na, ll, pins, t, b, ns, rfl, ⟨x0, y0, hl⟩, pi, hkp, hS, sk, fin⟩ := h
    refine ⟨_, (pss_cons (ps_set (i := 5) hN rfl (Or.inl rfl) (pe_call GD (hr.mono (by decide)) (by rfl) mD kD bD .nil passL (pa_cons (pv 0) (pa_cons (pe_callB call_len_seq (by rfl) T.len PySem.boot_len (pa_cons (pv 4) pa_nil)) pa_nil))))
      (pss_cons (ps_set (i := 6) hN rfl (Or.inl rfl) (pe_ix ix_list (pe_lst (pa_cons pe_str (pa_cons pe_str (pa_cons pe_str (pa_cons pe_str pa_nil))))) (pe_call GD (hr.mono (by decide)) (by rfl) mD kD bD .nil passL (pa_cons (pv 0) (pa_cons pe_int pa_nil))) (fun _ _ => rfl)))
      (pss_cons (ps_asg (pv 6) (pg_sub (pv 1) (pe_ix ix_tup (pe_fld (pv 2) rfl) (pv 5) (fun _ _ => rfl)) (pset_O (CX := L2.CX P w) (C := CP) (E := E0) I.s0 I.s1 I.s2 GS (hr.mono (by decide)) bGS passL)))
      (pss_cons (ps_set (i := 4) hN rfl (Or.inl rfl) (pe_op op_cat (pe_op op_cat (pe_slice sl_list (pv 4) po_none (po_some (pv 5))) (pe_lst (pa_cons (pv 6) pa_nil))) (pe_slice sl_list (pv 4) (po_some (pe_op op_add (pv 5) pe_int)) po_none)))
      (pss_cons (ps_set (i := 3) hN rfl (Or.inl rfl) (pe_ix ix_list (pe_lst (pa_cons pe_int (pa_cons (pe_make mk GI (hr.mono (by decide)) (by rfl) TR.gC b3 .nil passL (pa_cons pe_int (pa_cons pe_int pa_nil))) (pa_cons (pe_op op_pow pe_int pe_int) pa_nil)))) (pe_call GD (hr.mono (by decide)) (by rfl) mD kD bD .nil passL (pa_cons (pv 0) (pa_cons pe_int pa_nil))) (fun _ _ => rfl)))
      (pss_cons (ps_expr (pe_meth (CX := L2.CX P w) (E := E0) (pv 1) U.cl ⟨va, vf, vk⟩ GV (hr.mono (by decide)) vb .nil passL (pa_cons (pv 3) pa_nil)))
      (pss_cons (ps_if (pt_not (pt_val (pe_call GIs (hr.mono (by decide)) (by rfl) mI kI bI .nil passL (pa_cons (pv 1) (pa_cons (pv 2) (pa_cons (pv 3) (pa_cons (pv 4) pa_nil))))))) (pss_one (ps_ret pe_bl)) pss_nil)
      (pss_cons (ps_for passOwn rfl (pi_list (pe_lst (pa_cons pe_int (pa_cons (pe_un un_neg pe_int) (pa_cons (pe_make mk GI (hr.mono (by decide)) (by rfl) TR.gC b2 d2 passL (pa_cons pe_int pa_nil)) (pa_cons pe_non (pa_cons pe_str (pa_cons pe_bl (pa_cons (pe_lst (pa_cons pe_int pa_nil)) pa_nil))))))))) (pg_name (i := 7) hN rfl (Or.inl rfl)) (pss_one (ps_if (pt_cmpR (op_neG (n := 0) mon_DA eqG_DA (hr.mono (by decide))) (pe_call GE (hr.mono (by decide)) (by rfl) mE kE bE .nil passL (pa_cons pe_int (pa_cons (pv 1) (pa_cons (pv 7) pa_nil)))) (pe_lst (pa_cons pe_str (pa_cons (pv 7) pa_nil))) (nomark _)) (pss_one (ps_ret pe_bl)) pss_nil)))
      (pss_cons (ps_for passOwn rfl (pi_list (pe_lst (pa_cons pe_non (pa_cons pe_str (pa_cons pe_str (pa_cons pe_int (pa_cons (pe_lst (pa_cons pe_str pa_nil)) (pa_cons pe_str pa_nil)))))))) (pg_name (i := 7) hN rfl (Or.inl rfl)) (pss_cons (ps_if (pt_cmpR (op_neG (n := 0) mon_DA eqG_DA (hr.mono (by decide))) (pe_call GE (hr.mono (by decide)) (by rfl) mE kE bE .nil passL (pa_cons pe_int (pa_cons (pv 1) (pa_cons (pv 7) pa_nil)))) (pe_lst (pa_cons pe_str (pa_cons (pv 7) pa_nil))) (nomark _)) (pss_one (ps_ret pe_bl)) pss_nil)
      (pss_one (ps_if (pt_cmpR (op_neG (n := 0) mon_DA eqG_DA (hr.mono (by decide))) (pe_call GE (hr.mono (by decide)) (by rfl) mE kE bE .nil passL (pa_cons pe_int (pa_cons (pv 1) (pa_cons (pe_tup (pa_cons (pv 7) (pa_cons pe_non pa_nil))) pa_nil)))) (pe_lst (pa_cons pe_str (pa_cons (pv 7) pa_nil))) (nomark _)) (pss_one (ps_ret pe_bl)) pss_nil))))
      (pss_cons (ps_for passOwn rfl (pi_list (pe_lst (pa_cons pe_non (pa_cons pe_str (pa_cons pe_str (pa_cons pe_str (pa_cons pe_str (pa_cons pe_int (pa_cons (pe_lst (pa_cons pe_str pa_nil)) (pa_cons pe_str pa_nil)))))))))) (pg_name (i := 7) hN rfl (Or.inl rfl)) (pss_one (ps_if (pt_cmpR (op_neG (n := 0) mon_DA eqG_DA (hr.mono (by decide))) (pe_call GE (hr.mono (by decide)) (by rfl) mE kE bE .nil passL (pa_cons pe_int (pa_cons (pv 1) (pa_cons (pe_tup (pa_cons (pe_ix ix_tup (pe_fld (pv 2) rfl) (pv 5) (fun _ _ => rfl)) (pa_cons (pv 7) pa_nil))) pa_nil)))) (pe_lst (pa_cons pe_str (pa_cons (pv 7) pa_nil))) (nomark _)) (pss_one (ps_ret pe_bl)) pss_nil)))
      (pss_cons (ps_if (pt_cmpR op_eq (pe_callB call_len_seq (by rfl) T.len PySem.boot_len (pa_cons (pv 4) pa_nil)) pe_int (nomark _)) (pss_cons (ps_for passOwn rfl (pi_list (pe_lst (pa_cons (pe_tup (pa_cons pe_str (pa_cons pe_non pa_nil))) (pa_cons (pe_tup (pa_cons pe_str (pa_cons pe_str pa_nil))) (pa_cons (pe_tup (pa_cons pe_str (pa_cons pe_str pa_nil))) pa_nil))))) (pg_name (i := 7) hN rfl (Or.inl rfl)) (pss_one (ps_if (pt_cmpR (op_neD hr.units) (pe_call GE (hr.mono (by decide)) (by rfl) mE kE bE .nil passL (pa_cons pe_int (pa_cons (pv 1) (pa_cons (pv 7) pa_nil)))) (pe_lst (pa_cons pe_str (pa_cons (pv 7) pa_nil))) (nomark _)) (pss_one (ps_ret pe_bl)) pss_nil)))
      (pss_cons (ps_expr (pe_methR (CX := L2.CX P w) (E := E0) (pv 1) U.cl mSN FSN (hr.mono (by decide)) passL (pa_cons pe_str (pa_cons pe_str pa_nil))))
      (pss_one (ps_set (i := 4) hN rfl (Or.inl rfl) (pe_lst (pa_cons pe_str (pa_cons pe_str pa_nil))))))) (pss_one (ps_if (pt_cmpR (op_neD hr.units) (pe_call GE (hr.mono (by decide)) (by rfl) mE kE bE .nil passL (pa_cons pe_int (pa_cons (pv 1) (pa_cons (pe_tup (pa_cons pe_str (pa_cons pe_str pa_nil))) pa_nil)))) (pe_lst (pa_cons pe_str (pa_cons (pe_tup (pa_cons pe_str (pa_cons pe_str pa_nil))) pa_nil))) (nomark _)) (pss_one (ps_ret pe_bl)) pss_nil)))
      (pss_one (ps_ret (pe_call GIs (hr.mono (by decide)) (by rfl) mI kI bI .nil passL (pa_cons (pv 1) (pa_cons (pv 2) (pa_cons (pv 3) (pa_cons (pv 4) pa_nil)))))))))))))))))), ?_⟩
    have line : 1000 ≤ sizeLine := by decide
    have nd := kp_nd pins hkp
    obtain ⟨p1, p3⟩ := kp_len pins hkp
    have pat : ∀ i y, pins[i]? = some y → PinAt pins (.str y) i := fun i y h => pin_at nd h
    obtain ⟨vp0, np0, h1, h2, h3, h4, h5, ln, few, gd⟩ := id pi.ex
    have nl : na ≠ l := fun z => by rw [z, hl] at hS; exact no_strs _ _ (Option.some.inj hS).symm
    -- the place
    refine ⟨_, rfl, _, rfl, na, _, rfl, .inl (SqL.of hS), l, _, x0, y0, rfl, by rw [List.length_map]; omega, by rw [List.length_map]; omega, hl, fun d x1 y1 d0 d1 => ?_⟩
    obtain ⟨i, rfl⟩ := Int.eq_ofNat_of_zero_le d0
    have il : i < ns.length := by rw [List.length_map] at d1; omega
    have S1 : S2 l p H (upd H l (.lst [.int x1, .int y1])) := ⟨fun b u n1 n2 h => by rw [upd_ne n1]; exact h, x1, y1, upd_same⟩
    have hl1 : (upd H l (.lst [.int x1, .int y1])) l = some (.lst [.int x1, .int y1]) := upd_same
    have pi1 := pi.draw (o := .lst [.int x1, .int y1]) hl
    have hS1 : (upd H l (.lst [.int x1, .int y1])) na = some (.lst (ns.map V.str)) := by rw [upd_ne nl]; exact hS
    generalize upd H l (.lst [.int x1, .int y1]) = H1 at S1 hl1 pi1 hS1 ⊢
    -- the net
    refine ⟨by show 4 ≤ sizeLine; omega, fun q1 nq1 => ?_⟩
    have s1 := same_upd (o := .lst [.str "x", .str "y9", .str "a/b", .str "abcdefghijkl"]) nq1
    have e1 : (upd H1 q1 (.lst [.str "x", .str "y9", .str "a/b", .str "abcdefghijkl"])) q1 = some (.lst (net4.map V.str)) := upd_same
    have S1 := S1.same s1
    have hl1 := s1 _ _ hl1
    have pi1 := pi1.same s1
    have hS1 := s1 _ _ hS1
    generalize upd H1 q1 (.lst [.str "x", .str "y9", .str "a/b", .str "abcdefghijkl"]) = H2 at S1 hl1 pi1 hS1 e1 ⊢
    have nq : q1 ≠ l := fun z => by rw [z, hl1] at e1; exact no_strs _ _ (Option.some.inj e1).symm
    refine ⟨_, rfl, l, 4, x1, y1, rfl, by decide, by decide, hl1, fun d2 x2 y2 d20 d21 => ?_⟩
    obtain ⟨j, rfl⟩ := Int.eq_ofNat_of_zero_le d20
    have jl : j < net4.length := by show j < 4; omega
    obtain ⟨nok, shok, stok⟩ := net4_ok _ (List.getElem_mem jl)
    have hz : net4[j]? = some net4[j] := List.getElem?_eq_getElem jl
    generalize net4[j] = net at nok shok stok hz
    have e1 : (upd H2 l (.lst [.int x2, .int y2])) q1 = some (.lst (net4.map V.str)) := by rw [upd_ne nq]; exact e1
    have S2' := S1.draw (x := x2) (y := y2)
    have pi2 := pi1.draw (o := .lst [.int x2, .int y2]) hl1
    have hl2 : (upd H2 l (.lst [.int x2, .int y2])) l = some (.lst [.int x2, .int y2]) := upd_same
    have hS2 : (upd H2 l (.lst [.int x2, .int y2])) na = some (.lst (ns.map V.str)) := by rw [upd_ne nl]; exact hS1
    generalize upd H2 l (.lst [.int x2, .int y2]) = H3 at S2' hl2 pi2 hS2 e1 ⊢
    refine ⟨q1, _, (j : Nat), .str net, rfl, rfl, SqL.of e1, at_of rfl (by rw [List.getElem?_map, hz]; rfl), ?_⟩
    -- the pin is set
    obtain ⟨vp2, np2, g1, g2, g3, g4, g5, _⟩ := id pi2.ex
    obtain ⟨C, dk, fs, pa, k1, kc, k3, k4, k5⟩ := id g2.ex
    have ip : i < pins.length := by omega
    have hpin : pins[i]? = some pins[i] := List.getElem?_eq_getElem ip
    refine ⟨_, rfl, _, rfl, _, rfl, kp, C, dk, fs, _, rfl, k1, kc.kc.cl, kc.kc.n2, k4, _, rfl, pa, _, (i : Nat), .str pins[i], rfl, rfl, k5, at_of rfl (by rw [List.getElem?_map, hpin]; rfl), p, dx, _, rfl, g1, p, dx, kp, ll, pins, t, b, ns, _, _, rfl, pi2, .inr ⟨i, pat i _ hpin, .str _, shok, .inr ⟨net, rfl, nok, fun H4 x4 pi4 => ?_⟩⟩⟩
    have S4 := S2'.put x4 g1
    have hS4 := sql_put g1 x4 hS2
    have sk4 : ∀ y ∈ ns.set i net, PyData.strOk y = true := fun y hy => by
      rcases List.mem_or_eq_of_mem_set hy with h | rfl
      · exact sk y h
      · exact stok
    have l4 : (ns.set i net).length = ns.length := List.length_set
    -- the nets
    refine ⟨_, rfl, _, rfl, _, rfl, na, _, rfl, SqL.of hS4, fun q5 nq5 => ⟨_, rfl, by show 1 ≤ sizeLine; omega, fun q6 nq6 => ?_⟩⟩
    rw [cut_lo (by rw [List.length_map]; omega)] at nq6 ⊢
    have s5 := same_upd (o := .lst ((ns.map V.str).take i)) nq5
    have e5 : (upd H4 q5 (.lst ((ns.map V.str).take i))) q5 = some (.lst ((ns.map V.str).take i)) := upd_same
    generalize upd H4 q5 (.lst ((ns.map V.str).take i)) = H5 at s5 e5 nq6 ⊢
    have s6 := same_upd (o := .lst [.str net]) nq6
    have e6 : (upd H5 q6 (.lst [.str net])) q6 = some (.lst [.str net]) := upd_same
    have e56 := s6 _ _ e5
    have s46 := s5.trans s6
    generalize upd H5 q6 (.lst [.str net]) = H6 at s46 e6 e56 ⊢
    refine ⟨q5, q6, _, _, rfl, rfl, e56, e6, by rw [List.length_take, List.length_map]; simp only [List.length_cons, List.length_nil]; omega, fun q7 nq7 => ?_⟩
    have s7 := same_upd (o := .lst ((ns.map V.str).take i ++ [.str net])) nq7
    have e7 : (upd H6 q7 (.lst ((ns.map V.str).take i ++ [.str net]))) q7 = some (.lst ((ns.map V.str).take i ++ [.str net])) := upd_same
    have s47 := s46.trans s7
    generalize upd H6 q7 (.lst ((ns.map V.str).take i ++ [.str net])) = H7 at s47 e7 ⊢
    refine ⟨_, rfl, _, rfl, _, _, rfl, rfl, _, rfl, na, _, rfl, SqL.of (s47 _ _ hS4), fun q8 nq8 => ?_⟩
    have ec : cutV (ns.map V.str) (some ((i : Int) + 1)) none = (ns.map V.str).drop (i + 1) := by
      rw [show ((i : Int) + 1) = ((i + 1 : Nat) : Int) by omega]
      exact cut_hi (by rw [List.length_map]; omega)
    have s8 := same_upd (o := .lst (cutV (ns.map V.str) (some ((i : Int) + 1)) none)) nq8
    have e8 : (upd H7 q8 (.lst (cutV (ns.map V.str) (some ((i : Int) + 1)) none))) q8 = some (.lst ((ns.map V.str).drop (i + 1))) := by rw [upd_same, ec]
    have e78 := s8 _ _ e7
    have s48 := s47.trans s8
    generalize upd H7 q8 (.lst (cutV (ns.map V.str) (some ((i : Int) + 1)) none)) = H8 at s48 e8 e78 ⊢
    refine ⟨q7, q8, _, _, rfl, rfl, e78, e8, by rw [List.length_append, List.length_take, List.length_drop, List.length_map]; simp only [List.length_cons, List.length_nil]; omega, fun na9 nq9 => ?_⟩
    have ee : (ns.map V.str).take i ++ [.str net] ++ (ns.map V.str).drop (i + 1) = (ns.set i net).map V.str := by
      rw [List.set_eq_take_append_cons_drop, if_pos il, List.map_append, List.map_cons, List.map_take, List.map_drop, List.append_assoc]
      rfl
    rw [ee]
    have s9 := same_upd (o := .lst ((ns.set i net).map V.str)) nq9
    have e9 : (upd H8 na9 (.lst ((ns.set i net).map V.str))) na9 = some (.lst ((ns.set i net).map V.str)) := upd_same
    have s49 := s48.trans s9
    generalize upd H8 na9 (.lst ((ns.set i net).map V.str)) = H9 at s49 e9 ⊢
    have S9 := S4.same s49
    have pi9 := pi4.same s49
    generalize ns.set i net = ms at e9 pi9 sk4 l4
    -- the value
    intro r0 dr0 hr0n hdr0 ner0
    refine R5r.mkR_at (t := 1) (b := 3) hr0n hdr0 (by decide) (show (3 : Int).natAbs < 2 ^ 5000 by exact Nat.lt_of_lt_of_le (by decide : 3 < 2 ^ 2) (Nat.pow_le_pow_right (by decide) (by decide))) fun G0 t0 rr => ⟨rfl, ?_⟩
    refine ⟨_, _, rfl, rfl, ⟨by decide, by decide, by decide +kernel⟩, by show 3 ≤ sizeLine; omega, fun q10 nq10 => ?_⟩
    obtain ⟨o10, ho10⟩ : ∃ o, o = HO.lst [V.int 7, .ref r0, (fun (i j : Int) => V.int (i ^ j.toNat)) 10 40] := ⟨_, rfl⟩
    rw [← ho10]
    have ho' : o10 = .lst [.int 7, .ref r0, .int (10 ^ 40)] := ho10
    clear ho10
    have s10 := same_upd (o := o10) nq10
    have e10 : (upd G0 q10 o10) q10 = some (.lst [.int 7, .ref r0, .int (10 ^ 40)]) := by rw [upd_same, ho']
    have t10 := t0.trans s10
    have rr10 := rr.same s10
    have pi10 := pi9.same t10
    have e9' := t10 _ _ e9
    have S10 := S9.same t10
    have key : ∀ k, k < 3 → ∃ v t' b', [V.int 7, .ref r0, .int (10 ^ 40)][k]? = some v ∧ (∀ G, R5r.Rat CR G r0 (RatM.nt 1 3) (RatM.nb 1 3) → R5r.Vp CR G v t' b') ∧ Three t' b' := fun k hk => by
      match k, hk with
      | 0, _ => exact ⟨_, 7, 1, rfl, fun G _ => ⟨.inr ⟨rfl, rfl⟩, ⟨by decide, by decide, Nat.one_lt_two_pow (by decide), by decide +kernel, by decide +kernel⟩⟩, .inl ⟨rfl, rfl⟩⟩
      | 1, _ => exact ⟨_, 1, 3, rfl, fun G r => ⟨.inl ⟨r0, rfl, by rw [show RatM.nt 1 3 = 1 by decide +kernel, show RatM.nb 1 3 = 3 by decide +kernel] at r; exact r⟩, ⟨by decide, by decide, Nat.lt_of_lt_of_le (by decide : 3 < 2 ^ 2) (Nat.pow_le_pow_right (by decide) (by decide)), by decide +kernel, by decide +kernel⟩⟩, .inr (.inl ⟨rfl, rfl⟩)⟩
      | 2, _ => exact ⟨_, 10 ^ 40, 1, rfl, fun G _ => ⟨.inr ⟨rfl, rfl⟩, ⟨by decide, by decide, Nat.one_lt_two_pow (by decide), by decide +kernel, by decide +kernel⟩⟩, .inr (.inr ⟨rfl, rfl⟩)⟩
    generalize upd G0 q10 o10 = G1 at s10 e10 t10 rr10 pi10 e9' S10 ⊢
    obtain ⟨x3, y3, hl3⟩ := S10.at_
    have nq10l : q10 ≠ l := fun z => by rw [z, hl3] at e10; cases e10
    have na9l : na9 ≠ l := fun z => by rw [z, hl3] at e9'; exact no_strs _ _ (Option.some.inj e9').symm
    refine ⟨_, rfl, l, 3, x3, y3, rfl, by decide, by decide, hl3, fun d3 x4 y4 d30 d31 => ?_⟩
    obtain ⟨k, rfl⟩ := Int.eq_ofNat_of_zero_le d30
    obtain ⟨v, t', b', hv, hvp, h3t⟩ := key k (by omega)
    have S11 := S10.draw (x := x4) (y := y4)
    have pi11 := pi10.draw (o := .lst [.int x4, .int y4]) hl3
    have e11 : (upd G1 l (.lst [.int x4, .int y4])) na9 = some (.lst (ms.map V.str)) := by rw [upd_ne na9l]; exact e9'
    have e10' : (upd G1 l (.lst [.int x4, .int y4])) q10 = some (.lst [.int 7, .ref r0, .int (10 ^ 40)]) := by rw [upd_ne nq10l]; exact e10
    obtain ⟨dr, hr0⟩ := rr10
    have vp11 := hvp (upd G1 l (.lst [.int x4, .int y4])) ⟨dr, ins_draw hl3 hr0⟩
    generalize upd G1 l (.lst [.int x4, .int y4]) = G2 at S11 pi11 e11 e10' vp11 ⊢
    refine ⟨q10, _, (k : Nat), v, rfl, rfl, SqL.of e10', at_of rfl hv, ?_⟩
    obtain ⟨vp3, np3, g1', _⟩ := id pi11.ex
    refine ⟨_, rfl, p, dx, _, rfl, g1', pf_none _ _ _ (by decide +kernel) (by decide +kernel) (by decide +kernel), _, rfl, p, dx, kp, ll, pins, t, b, ms, v, rfl, pi11, .inr ⟨t', b', vp11, fun G3 x12 pi12 => ?_⟩⟩
    have S12 := S11.put x12 g1'
    have e12 := sql_put g1' x12 e11
    have vp12 : R5r.Vp CR G3 v t' b' := ⟨num_sx vp11.1 g1' (pf_top _ _ _) x12, vp11.2⟩
    have m1 : 1 ≤ ms.length := by omega
    have m3 : ms.length ≤ 3 := by omega
    refine ⟨_, rfl, _, rfl, _, rfl, _, rfl, p, dx, kp, v, na9, ll, pins, t', b', ms, rfl, pi12, vp12, SqL.of e12, m1, m3, sk4, pat, fun G4 s13 => ⟨_, rfl, if_neg' rfl ?_⟩⟩
    have S13 := S12.same s13
    have pi13 := pi12.same s13
    have e13 := s13 _ _ e12
    have vp13 := vp12.same s13
    clear x12 S11 pi11 e11 e10' vp11 pi12 S12 e12 vp12 hvp
    have ref2 : ∀ {w : Str} {v : V} {G G' : Hp} {Q' : VK}, DA v v G → Same G G' → (∀ H', Same G' H' → Q' (.bl false) H') → ∀ r q, G' r = some (.lst [.str w, v]) → G' q = some (.lst [.str w, v]) → rNeG DA (.ref r) (.ref q) G' Q' := fun da s k r q h1 h2 => ne_word rfl h1 h2 (mon_DA _ _ _ _ s da) k
    -- wrong values
    refine ⟨_, rfl, fun r1 dr1 hr1n hdr1 ner1 => R5r.mkR_at (t := 0) (b := 1) hr1n hdr1 (by decide) (Nat.one_lt_two_pow (by decide)) fun G5 s14 rr1 => ⟨rfl, by show 1 ≤ sizeLine; omega, fun L0 nL0 => ⟨by show 7 ≤ sizeLine; omega, fun L1 nL1 => ⟨_, rfl, ⟨_, SqL.of upd_same⟩, ?_⟩⟩⟩⟩
    have s15 := same_upd (o := .lst [.int 1]) nL0
    have e15 : (upd G5 L0 (.lst [.int 1])) L0 = some (.lst [.int 1]) := upd_same
    generalize upd G5 L0 (.lst [.int 1]) = G6 at s15 e15 nL1 ⊢
    have s16 := same_upd (o := .lst [.int 0, .int (-1), .ref r1, .non, .str "1", .bl true, .ref L0]) nL1
    have eL1 : (upd G6 L1 (.lst [.int 0, .int (-1), .ref r1, .non, .str "1", .bl true, .ref L0])) L1 = some (.lst [.int 0, .int (-1), .ref r1, .non, .str "1", .bl true, .ref L0]) := upd_same
    have e16 := s16 _ _ e15
    have rr16 := rr1.same (s15.trans s16)
    have S17 := S13.same (s14.trans (s15.trans s16))
    have pi17 := pi13.same (s14.trans (s15.trans s16))
    have e17 := (s14.trans (s15.trans s16)) _ _ e13
    have vp17 := vp13.same (s14.trans (s15.trans s16))
    generalize upd G6 L1 (.lst [.int 0, .int (-1), .ref r1, .non, .str "1", .bl true, .ref L0]) = G7 at eL1 e16 rr16 S17 pi17 e17 vp17 ⊢
    have its : ∀ w ∈ ([.int 0, .int (-1), .ref r1, .non, .str "1", .bl true, .ref L0] : List V), R5r.NoV CR G7 w ∧ DA w w G7 := fun w hw => by
      simp only [List.mem_cons, List.not_mem_nil, or_false] at hw
      rcases hw with rfl | rfl | rfl | rfl | rfl | rfl | rfl
      · exact ⟨.inr ⟨0, 1, .inr ⟨rfl, rfl⟩, by decide⟩, da_av (.int _)⟩
      · exact ⟨.inr ⟨-1, 1, .inr ⟨rfl, rfl⟩, by decide⟩, da_av (.int _)⟩
      · exact ⟨.inr ⟨_, _, .inl ⟨r1, rfl, rr16⟩, by rw [(RatM.nt_one 0).1]; exact Int.le_refl _⟩, .inr ⟨rfl, _, rfl⟩⟩
      · exact ⟨.inl .non, da_av .non⟩
      · exact ⟨.inl (.str _), da_av (.str _)⟩
      · exact ⟨.inl (.bl _), da_av (.bl _)⟩
      · exact ⟨.inl (.lst e16), .inr ⟨rfl, _, rfl⟩⟩
    refine for_it (walk_list (K := K) (a := L1) (xs := [.int 0, .int (-1), .ref r1, .non, .str "1", .bl true, .ref L0])) (fun n σ G => (∃ o, σ = [some (.ref l), some (.ref p), some (.ref kp), some v, some (.ref na9), some (.int (i : Nat)), some (.str net), o]) ∧ Same G7 G) ⟨⟨_, rfl⟩, Same.refl _⟩ (fun n σ G _ g => SqL.of (g.2 _ _ eL1)) (fun n w σ G G' hi g y => ?_) (fun σ G g => ?_)
    · obtain ⟨rfl, hx⟩ := y
      obtain ⟨⟨o, rfl⟩, sg⟩ := g
      obtain ⟨nv, da⟩ := its w (List.mem_of_getElem? hx)
      refine ⟨_, rfl, _, rfl, 1, _, w, rfl, .inr (.inr (.inr (.inl ⟨⟨rfl, ⟨p, dx, kp, ll, pins, t', b', ms, rfl, pi17.same sg⟩, nv.same sg⟩, fun r Ga sa hra => ⟨_, rfl, by show 2 ≤ sizeLine; omega, fun q nq => ?_⟩⟩)))⟩
      have sq := same_upd (o := .lst [.str "value", w]) nq
      exact ref2 da (sg.trans (sa.trans sq)) (fun G' s' => ⟨_, rfl, if_neg' rfl ⟨⟨_, rfl⟩, sg.trans (sa.trans (sq.trans s'))⟩⟩) _ _ (sq _ _ hra) upd_same
    · obtain ⟨⟨o1, rfl⟩, s18⟩ := g
      have S18 := S17.same s18
      have pi18 := pi17.same s18
      have e18 := s18 _ _ e17
      have vp18 := vp17.same s18
      clear its S17 pi17 e17 vp17 eL1 e16 rr16
      -- unknown pins
      refine ⟨by show 1 ≤ sizeLine; omega, fun L2 nL2 => ⟨by show 6 ≤ sizeLine; omega, fun L3 nL3 => ⟨_, rfl, ⟨_, SqL.of upd_same⟩, ?_⟩⟩⟩
      have s19 := same_upd (o := .lst [.str "m"]) nL2
      have e19 : (upd G L2 (.lst [.str "m"])) L2 = some (.lst [.str "m"]) := upd_same
      generalize upd G L2 (.lst [.str "m"]) = G8 at s19 e19 nL3 ⊢
      have s20 := same_upd (o := .lst [.non, .str "", .str "z", .int 0, .ref L2, .str "aa"]) nL3
      have eL3 : (upd G8 L3 (.lst [.non, .str "", .str "z", .int 0, .ref L2, .str "aa"])) L3 = some (.lst [.non, .str "", .str "z", .int 0, .ref L2, .str "aa"]) := upd_same
      have e20 := s20 _ _ e19
      have S21 := S18.same (s19.trans s20)
      have pi21 := pi18.same (s19.trans s20)
      have e21 := (s19.trans s20) _ _ e18
      have vp21 := vp18.same (s19.trans s20)
      generalize upd G8 L3 (.lst [.non, .str "", .str "z", .int 0, .ref L2, .str "aa"]) = G9 at eL3 e20 S21 pi21 e21 vp21 ⊢
      have its : ∀ w ∈ ([.non, .str "", .str "z", .int 0, .ref L2, .str "aa"] : List V), NoPin K G9 pins w ∧ DA w w G9 := fun w hw => by
        simp only [List.mem_cons, List.not_mem_nil, or_false] at hw
        rcases hw with rfl | rfl | rfl | rfl | rfl | rfl
        · exact ⟨no_pin hkp (.inl rfl), da_av .non⟩
        · exact ⟨no_pin hkp (.inr (.inr (.inl ⟨_, by decide +kernel, rfl⟩))), da_av (.str _)⟩
        · exact ⟨no_pin hkp (.inr (.inr (.inl ⟨_, by decide +kernel, rfl⟩))), da_av (.str _)⟩
        · exact ⟨no_pin hkp (.inr (.inl rfl)), da_av (.int _)⟩
        · exact ⟨no_pin hkp (.inr (.inr (.inr ⟨_, rfl, e20⟩))), .inr ⟨rfl, _, rfl⟩⟩
        · exact ⟨no_pin hkp (.inr (.inr (.inl ⟨_, by decide +kernel, rfl⟩))), da_av (.str _)⟩
      refine for_it (walk_list (K := K) (a := L3) (xs := [.non, .str "", .str "z", .int 0, .ref L2, .str "aa"])) (fun n σ G => (∃ o, σ = [some (.ref l), some (.ref p), some (.ref kp), some v, some (.ref na9), some (.int (i : Nat)), some (.str net), o]) ∧ Same G9 G) ⟨⟨_, rfl⟩, Same.refl _⟩ (fun n σ G _ g => SqL.of (g.2 _ _ eL3)) (fun n w σ G G' hi g y => ?_) (fun σ G g => ?_)
      · obtain ⟨rfl, hx⟩ := y
        obtain ⟨⟨o, rfl⟩, sg⟩ := g
        obtain ⟨np, da⟩ := its w (List.mem_of_getElem? hx)
        refine ⟨_, rfl, _, rfl, 3, _, w, rfl, .inr (.inr (.inr (.inr (.inr (.inl ⟨⟨rfl, p, dx, kp, ll, pins, t', b', ms, rfl, pi21.same sg, np.same sg⟩, fun r Ga sa hra => ⟨_, rfl, by show 2 ≤ sizeLine; omega, fun q nq => ?_⟩⟩)))))⟩
        have sq := same_upd (o := .lst [.str "unknown", w]) nq
        refine ref2 da (sg.trans (sa.trans sq)) (fun G' s' => ⟨_, rfl, if_neg' rfl ?_⟩) _ _ (sq _ _ hra) upd_same
        have sg2 := sg.trans (sa.trans (sq.trans s'))
        refine ⟨_, rfl, _, rfl, by show 2 ≤ sizeLine; omega, fun T nT => ?_⟩
        have sT := same_upd (o := .tup [w, .non]) nT
        refine ⟨4, _, .ref T, rfl, .inr (.inr (.inr (.inr (.inr (.inr (.inl ⟨T, w, .non, ⟨rfl, rfl, upd_same, p, dx, kp, ll, pins, t', b', ms, rfl, pi21.same (sg2.trans sT), np.same (sg2.trans sT)⟩, fun r2 Gb sb hrb => ⟨_, rfl, by show 2 ≤ sizeLine; omega, fun q2 nq2 => ?_⟩⟩))))))⟩
        have sq2 := same_upd (o := .lst [.str "unknown", w]) nq2
        exact ref2 da (sg2.trans (sT.trans (sb.trans sq2))) (fun G'' s'' => ⟨_, rfl, if_neg' rfl ⟨⟨_, rfl⟩, sg2.trans (sT.trans (sb.trans (sq2.trans s'')))⟩⟩) _ _ (sq2 _ _ hrb) upd_same
      · obtain ⟨⟨o2, rfl⟩, s22⟩ := g
        have S22 := S21.same s22
        have pi22 := pi21.same s22
        have e22 := s22 _ _ e21
        have vp22 := vp21.same s22
        clear its S21 pi21 e21 vp21 eL3 e20
        -- wrong names
        refine ⟨by show 1 ≤ sizeLine; omega, fun L4 nL4 => ⟨by show 8 ≤ sizeLine; omega, fun L5 nL5 => ⟨_, rfl, ⟨_, SqL.of upd_same⟩, ?_⟩⟩⟩
        have s23 := same_upd (o := .lst [.str "x"]) nL4
        have e23 : (upd G L4 (.lst [.str "x"])) L4 = some (.lst [.str "x"]) := upd_same
        generalize upd G L4 (.lst [.str "x"]) = Ga at s23 e23 nL5 ⊢
        have s24 := same_upd (o := .lst [.non, .str "", .str "A", .str "a//b", .str "abcdefghijklm", .int 3, .ref L4, .str "a "]) nL5
        have eL5 : (upd Ga L5 (.lst [.non, .str "", .str "A", .str "a//b", .str "abcdefghijklm", .int 3, .ref L4, .str "a "])) L5 = some (.lst [.non, .str "", .str "A", .str "a//b", .str "abcdefghijklm", .int 3, .ref L4, .str "a "]) := upd_same
        have e24 := s24 _ _ e23
        have S25 := S22.same (s23.trans s24)
        have pi25 := pi22.same (s23.trans s24)
        have e25 := (s23.trans s24) _ _ e22
        have vp25 := vp22.same (s23.trans s24)
        generalize upd Ga L5 (.lst [.non, .str "", .str "A", .str "a//b", .str "abcdefghijklm", .int 3, .ref L4, .str "a "]) = Gb at eL5 e24 S25 pi25 e25 vp25 ⊢
        have its : ∀ w ∈ ([.non, .str "", .str "A", .str "a//b", .str "abcdefghijklm", .int 3, .ref L4, .str "a "] : List V), (Av Gb w ∧ ShN w ∧ nmV w = false) ∧ DA w w Gb := fun w hw => by
          simp only [List.mem_cons, List.not_mem_nil, or_false] at hw
          have st : ∀ z ∈ (["", "A", "a//b", "abcdefghijklm", "a "] : List Str), shB z = true ∧ nm z = false := by decide +kernel
          have sok : ∀ z ∈ (["", "A", "a//b", "abcdefghijklm", "a "] : List Str), (Av Gb (.str z) ∧ ShN (.str z) ∧ nmV (.str z) = false) ∧ DA (.str z) (.str z) Gb := fun z hz => ⟨⟨.str _, (st z hz).1, (st z hz).2⟩, da_av (H := Gb) (.str _)⟩
          rcases hw with rfl | rfl | rfl | rfl | rfl | rfl | rfl | rfl
          · exact ⟨⟨.non, trivial, rfl⟩, da_av (H := Gb) .non⟩
          · exact sok _ (by decide +kernel)
          · exact sok _ (by decide +kernel)
          · exact sok _ (by decide +kernel)
          · exact sok _ (by decide +kernel)
          · exact ⟨⟨.int 3, trivial, rfl⟩, da_av (H := Gb) (.int _)⟩
          · exact ⟨⟨.lst e24, trivial, rfl⟩, .inr ⟨rfl, _, rfl⟩⟩
          · exact sok _ (by decide +kernel)
        refine for_it (walk_list (K := K) (a := L5) (xs := [.non, .str "", .str "A", .str "a//b", .str "abcdefghijklm", .int 3, .ref L4, .str "a "])) (fun n σ G => (∃ o, σ = [some (.ref l), some (.ref p), some (.ref kp), some v, some (.ref na9), some (.int (i : Nat)), some (.str net), o]) ∧ Same Gb G) ⟨⟨_, rfl⟩, Same.refl _⟩ (fun n σ G _ g => SqL.of (g.2 _ _ eL5)) (fun n w σ G G' hi g y => ?_) (fun σ G g => ?_)
        · obtain ⟨rfl, hx⟩ := y
          obtain ⟨⟨o, rfl⟩, sg⟩ := g
          obtain ⟨⟨av, sh, ng⟩, da⟩ := its w (List.mem_of_getElem? hx)
          have pig := pi25.same sg
          obtain ⟨vpx, npx, z1, z2, z3, z4, z5, _⟩ := id pig.ex
          obtain ⟨C', dk', fs', pa', w1, wc, w3, w4, w5⟩ := id z2.ex
          refine ⟨_, rfl, _, rfl, kp, C', dk', fs', _, rfl, w1, wc.kc.cl, wc.kc.n2, w4, _, rfl, pa', _, (i : Nat), .str pins[i], rfl, rfl, w5, at_of rfl (by rw [List.getElem?_map, hpin]; rfl), _, rfl, by show 2 ≤ sizeLine; omega, fun T nT => ?_⟩
          have sT := same_upd (o := .tup [.str pins[i], w]) nT
          refine ⟨4, _, .ref T, rfl, .inr (.inr (.inr (.inr (.inr (.inr (.inr (.inl ⟨T, .str pins[i], w, ⟨rfl, rfl, upd_same, ⟨(av.same sg).same sT, sh, ng⟩, p, dx, kp, ll, pins, t', b', ms, i, rfl, pig.same sT, pat i _ hpin⟩, fun r2 Gc sb hrb => ⟨_, rfl, by show 2 ≤ sizeLine; omega, fun q2 nq2 => ?_⟩⟩)))))))⟩
          have sq2 := same_upd (o := .lst [.str "name", w]) nq2
          exact ref2 da (sg.trans (sT.trans (sb.trans sq2))) (fun G'' s'' => ⟨_, rfl, if_neg' rfl ⟨⟨_, rfl⟩, sg.trans (sT.trans (sb.trans (sq2.trans s'')))⟩⟩) _ _ (sq2 _ _ hrb) upd_same
        · obtain ⟨⟨o3, rfl⟩, s26⟩ := g
          have S26 := S25.same s26
          have pi26 := pi25.same s26
          have e26 := s26 _ _ e25
          have vp26 := vp25.same s26
          clear its S25 pi25 e25 vp25 eL5 e24
          refine ⟨_, rfl, na9, _, rfl, .inl (SqL.of e26), rfl, _, rfl, ?_⟩
          by_cases hm : ms.length = 2
          · refine if_pos' (by rw [List.length_map, hm]; rfl) ?_
            have pl : pins.length = 2 := by omega
            refine ⟨by show 2 ≤ sizeLine; omega, fun T1 nT1 => ⟨by show 2 ≤ sizeLine; omega, fun T2 nT2 => ⟨by show 2 ≤ sizeLine; omega, fun T3 nT3 => ⟨by show 3 ≤ sizeLine; omega, fun L6 nL6 => ⟨_, rfl, ⟨_, SqL.of upd_same⟩, ?_⟩⟩⟩⟩⟩
            have u1 := same_upd (o := .tup [.str "x", .non]) nT1
            have f1 : (upd G T1 (.tup [.str "x", .non])) T1 = some (.tup [.str "x", .non]) := upd_same
            generalize upd G T1 (.tup [.str "x", .non]) = Ga at u1 f1 nT2 nT3 nL6 ⊢
            have u2 := same_upd (o := .tup [.str "", .str "x"]) nT2
            have f2 : (upd Ga T2 (.tup [.str "", .str "x"])) T2 = some (.tup [.str "", .str "x"]) := upd_same
            generalize upd Ga T2 (.tup [.str "", .str "x"]) = Gc at u2 f2 nT3 nL6 ⊢
            have u3 := same_upd (o := .tup [.str "x", .str "a/"]) nT3
            have f3 : (upd Gc T3 (.tup [.str "x", .str "a/"])) T3 = some (.tup [.str "x", .str "a/"]) := upd_same
            generalize upd Gc T3 (.tup [.str "x", .str "a/"]) = Gd at u3 f3 nL6 ⊢
            have u4 := same_upd (o := .lst [.ref T1, .ref T2, .ref T3]) nL6
            have eL6 : (upd Gd L6 (.lst [.ref T1, .ref T2, .ref T3])) L6 = some (.lst [.ref T1, .ref T2, .ref T3]) := upd_same
            have f1' := (u2.trans (u3.trans u4)) _ _ f1
            have f2' := (u3.trans u4) _ _ f2
            have f3' := u4 _ _ f3
            have ua := u1.trans (u2.trans (u3.trans u4))
            have S27 := S26.same ua
            have pi27 := pi26.same ua
            have vp27 := vp26.same ua
            generalize upd Gd L6 (.lst [.ref T1, .ref T2, .ref T3]) = Ge at eL6 f1' f2' f3' S27 pi27 vp27 ⊢
            have its : ∀ w ∈ ([.ref T1, .ref T2, .ref T3] : List V), ∃ a v0 v1, w = .ref a ∧ Ge a = some (.tup [v0, v1]) ∧ Sc v0 ∧ Sc v1 ∧ namesB [v0, v1] pins.length = false := fun w hw => by
              rw [pl]
              simp only [List.mem_cons, List.not_mem_nil, or_false] at hw
              rcases hw with rfl | rfl | rfl
              · exact ⟨T1, _, _, rfl, f1', sc_s (by decide +kernel), .inr rfl, by decide +kernel⟩
              · exact ⟨T2, _, _, rfl, f2', sc_s (by decide +kernel), sc_s (by decide +kernel), by decide +kernel⟩
              · exact ⟨T3, _, _, rfl, f3', sc_s (by decide +kernel), sc_s (by decide +kernel), by decide +kernel⟩
            refine for_it (walk_list (K := K) (a := L6) (xs := [.ref T1, .ref T2, .ref T3])) (fun n σ G => (∃ o, σ = [some (.ref l), some (.ref p), some (.ref kp), some v, some (.ref na9), some (.int (i : Nat)), some (.str net), o]) ∧ Same Ge G) ⟨⟨_, rfl⟩, Same.refl _⟩ (fun n σ G _ g => SqL.of (g.2 _ _ eL6)) (fun n w σ G G' hi g y => ?_) (fun σ G g => ?_)
            · obtain ⟨rfl, hx⟩ := y
              obtain ⟨⟨o, rfl⟩, sg⟩ := g
              obtain ⟨a, v0, v1, rfl, ha, sc0, sc1, ng⟩ := its w (List.mem_of_getElem? hx)
              refine ⟨_, rfl, _, rfl, 2, _, .ref a, rfl, .inr (.inr (.inr (.inr (.inl ⟨a, v0, v1, ⟨rfl, rfl, sg _ _ ha, (sc0.all (K := K) _).1, (sc1.all (K := K) _).1, p, dx, kp, ll, pins, t', b', ms, rfl, pi27.same sg, ng⟩, fun r T4 Gf sa hT4 hra => ⟨_, rfl, by show 2 ≤ sizeLine; omega, fun q nq => ?_⟩⟩))))⟩
              have sq := same_upd (o := .lst [.str "pins", .ref a]) nq
              have sg2 := sg.trans (sa.trans sq)
              exact pins_ne sc0 sc1 (sq _ _ hra) (sq _ _ hT4) upd_same (sg2 _ _ ha) ⟨_, rfl, if_neg' rfl ⟨⟨_, rfl⟩, sg2⟩⟩
            · obtain ⟨⟨o4, rfl⟩, s28⟩ := g
              have S28 := S27.same s28
              have pi28 := pi27.same s28
              have vp28 := vp27.same s28
              obtain ⟨vpx, npx, z1, _⟩ := id pi28.ex
              have guv : namesB ((["u", "v"] : List Str).map V.str) pins.length = true := by rw [pl]; decide +kernel
              refine ⟨_, rfl, p, dx, _, rfl, z1, pf_none _ _ _ (by decide +kernel) (by decide +kernel) (by decide +kernel), [.ref p], [.str "u", .str "v"], rfl, rfl, by show 2 ≤ sizeLine; omega, fun ta nta => ⟨p, dx, kp, ll, pins, t', b', ms, ta, _, rfl, pi28.same (same_upd nta), upd_same, by show 2 ≤ 100; decide, fun x hx => ?_, .inr ⟨["u", "v"], rfl, guv, fun G6 x29 pi29 => ?_⟩⟩⟩
              · simp only [List.mem_cons, List.not_mem_nil, or_false] at hx
                have so : ∀ z ∈ (["u", "v"] : List Str), shB z = true := by decide +kernel
                rcases hx with rfl | rfl
                · exact ⟨.str _, so _ (by decide +kernel)⟩
                · exact ⟨.str _, so _ (by decide +kernel)⟩
              · have z1' := same_upd (o := .tup [.str "u", .str "v"]) nta _ _ z1
                have S29 := (S28.same (same_upd (o := .tup [.str "u", .str "v"]) nta)).put x29 z1'
                have vp29 : R5r.Vp CR G6 v t' b' := ⟨num_sx (vp28.same (same_upd (o := .tup [.str "u", .str "v"]) nta)).1 z1' (pf_top _ _ _) x29, vp28.2⟩
                refine ⟨by show 2 ≤ sizeLine; omega, fun q7 nq7 => ?_⟩
                have s30 := same_upd (o := .lst [.str "u", .str "v"]) nq7
                have skuv : ∀ y ∈ (["u", "v"] : List Str), PyData.strOk y = true := by decide +kernel
                exact ⟨_, rfl, _, rfl, _, rfl, _, rfl, p, dx, kp, v, q7, ll, pins, t', b', ["u", "v"], rfl, pi29.same s30, vp29.same s30, SqL.of (upd_same (o := .lst ((["u", "v"] : List Str).map V.str))), by decide, by decide, skuv, pat, fun G7 s31 => fin G7 t' b' _ ((S29.same s30).same s31) ((pi29.same s30).same s31) h3t skuv⟩
          · refine if_neg' (by rw [List.length_map]; exact decide_eq_false fun z => hm (by have := V.int.inj z; omega)) ?_
            refine ⟨_, rfl, by show 2 ≤ sizeLine; omega, fun T nT => ?_⟩
            have sT := same_upd (o := .tup [.str "x", .str "y"]) nT
            have eT : (upd G T (.tup [.str "x", .str "y"])) T = some (.tup [.str "x", .str "y"]) := upd_same
            have S27 := S26.same sT
            have pi27 := pi26.same sT
            have vp27 := vp26.same sT
            have e27 := sT _ _ e26
            generalize upd G T (.tup [.str "x", .str "y"]) = Ga at eT S27 pi27 vp27 e27 ⊢
            have scx : Sc (.str "x") := sc_s (by decide +kernel)
            have scy : Sc (.str "y") := sc_s (by decide +kernel)
            have ng : namesB [.str "x", .str "y"] pins.length = false := by
              unfold namesB
              rw [decide_eq_false (show ¬ (([V.str "x", .str "y"].length : Int) = pins.length) from fun z => hm (by have : (2 : Int) = pins.length := z; omega))]
              rfl
            refine ⟨2, _, .ref T, rfl, .inr (.inr (.inr (.inr (.inl ⟨T, .str "x", .str "y", ⟨rfl, rfl, eT, (scx.all (K := K) _).1, (scy.all (K := K) _).1, p, dx, kp, ll, pins, t', b', ms, rfl, pi27, ng⟩, fun r T4 Gf sa hT4 hra => ⟨by show 2 ≤ sizeLine; omega, fun T5 nT5 => ⟨by show 2 ≤ sizeLine; omega, fun q nq => ?_⟩⟩⟩))))⟩
            have s5' := same_upd (o := .tup [.str "x", .str "y"]) nT5
            have e5' : (upd Gf T5 (.tup [.str "x", .str "y"])) T5 = some (.tup [.str "x", .str "y"]) := upd_same
            have hT5 := s5' _ _ hT4
            have hra5 := s5' _ _ hra
            have sa5 := sa.trans s5'
            generalize upd Gf T5 (.tup [.str "x", .str "y"]) = Gg at e5' hT5 hra5 sa5 nq ⊢
            have sq := same_upd (o := .lst [.str "pins", .ref T5]) nq
            have sg2 := sa5.trans sq
            refine pins_ne scx scy (sq _ _ hra5) (sq _ _ hT5) upd_same (sq _ _ e5') ⟨_, rfl, if_neg' rfl ?_⟩
            exact ⟨_, rfl, _, rfl, _, rfl, _, rfl, p, dx, kp, v, na9, ll, pins, t', b', ms, rfl, pi27.same sg2, vp27.same sg2, SqL.of (sg2 _ _ e27), m1, m3, sk4, pat, fun G7 s31 => fin G7 t' b' _ ((S27.same sg2).same s31) ((pi27.same sg2).same s31) h3t sk4⟩
end
end R5
end

-- L55
section
set_option Elab.async false
set_option linter.all false
set_option maxRecDepth 100000
set_option exponentiation.threshold 10000
namespace R5
open PySem L2 OwnOps OwnNe G1 StX SupX GenFor TryAs GenS
abbrev sLaw : Stmt := top 53
abbrev NLw : List Str := ["_law_script", "_law_kinds_here", "_law_bad", "_law_k", "_law_draws_here", "_law_kind", "_law_value", "_law_nets", "_law_pin", "_law_part_here", "_law_copy", "_law_twin", "_law_moved", "_law_due", "_law_net"]
/-- what a part is compared with -/
def RQ (K : PySem.W.Frag) (CP : Addr) : V → Hp → Prop := fun y H => RIns CP y H ∨ (∃ i, y = .int i) ∨ ∃ kp C dk fs, y = .ref kp ∧ H kp = some (.ins C dk fs) ∧ PySem.W.notFirst K CP (.ref C) = true
theorem looks_Q {X : Cx} {CP : Addr} (hi : PySem.W.notFirst X.K CP (.type "int") = true) (hs : PySem.W.notFirst X.K CP (.ref CP) = true) {y : V} {H : Hp} {u : Value} {pins : List (Addr × Obj)} {σ : L2.St} {s : Shared} (I : L2.Inv X pins σ H s) (h : RQ X.K CP y H) (ry : RelV y u) :
    ∃ tb, PySem.W.Looks (model X.prog X.w) s.heap (typeOf u) tb ∧ PySem.W.notFirst X.K CP tb = true := by
  rcases h with h | ⟨i, rfl⟩ | ⟨kp, C, dk, fs, rfl, hk, hn⟩
  · exact looks_ins hs I h ry
  · obtain ⟨t, rfl⟩ := (show ∃ t, u = Value.int i t from ry)
    exact ⟨_, PySem.W.Looks.of_pure rfl, hi⟩
  · cases (show u = Value.ref kp from ry)
    obtain ⟨od, J⟩ := inst_at I hk
    exact ⟨_, J.type, hn⟩
/-- the three values of the law's parts -/
def Two (t b : Int) : Prop := (t = 1 ∧ b = 1) ∨ (t = 2 ∧ b = 1) ∨ (t = 3 ∧ b = 2)
theorem two_three {t b t' b' : Int} (h : Two t b) (h' : Three t' b') : (decide (t' = t) && decide (b' = b)) = false := by
  rcases h with ⟨rfl, rfl⟩ | ⟨rfl, rfl⟩ | ⟨rfl, rfl⟩ <;> rcases h' with ⟨rfl, rfl⟩ | ⟨rfl, rfl⟩ | ⟨rfl, rfl⟩ <;> decide +kernel
theorem two_nine {t b : Int} (h : Two t b) : (decide (t = 9) && decide (b = 1)) = false := by
  rcases h with ⟨rfl, rfl⟩ | ⟨rfl, rfl⟩ | ⟨rfl, rfl⟩ <;> decide +kernel
def n3 : List Str := ["n0", "n1", "n2"]
def mv (y : Str) : Str := if y = "n0" then "n1" else if y = "n1" then "n0" else y
theorem n3_ok : ∀ z ∈ n3, nm z = true ∧ shB z = true ∧ PyData.strOk z = true ∧ mv z ∈ n3 := by decide +kernel
theorem n3_ix : ∀ z ∈ n3, ∃ j, j < 3 ∧ (n3.map V.str)[j]? = some (.str z) ∧ (∀ k, k < j → ∀ w, (n3.map V.str)[k]? = some w → eqV w (.str z) = false) ∧ ([V.str "n1", .str "n0", .str "n2"] : List V)[j]? = some (.str (mv z)) := by
  intro z hz
  simp only [n3, List.mem_cons, List.not_mem_nil, or_false] at hz
  rcases hz with rfl | rfl | rfl
  · exact ⟨0, by decide, rfl, fun k hk => absurd hk (by omega), by decide +kernel⟩
  · refine ⟨1, by decide, rfl, fun k hk w hw => ?_, by decide +kernel⟩
    obtain rfl : k = 0 := by omega
    cases hw
    decide +kernel
  · refine ⟨2, by decide, rfl, fun k hk w hw => ?_, by decide +kernel⟩
    match k, hk, hw with
    | 0, _, hw => cases hw; decide +kernel
    | 1, _, hw => cases hw; decide +kernel
def kvM : List (Key × V) := mergeK [] [(.inr "n0", .str "n1"), (.inr "n1", .str "n0"), (.inr "zz", .str "n2")]
theorem kvM_ok : kvM.length ≤ 100 ∧ (∀ e ∈ kvM, ∃ z ∈ n3, e.2 = .str z) ∧ (kvM.all fun e => nmV e.2) = true := by
  refine ⟨by decide +kernel, ?_, by decide +kernel⟩
  intro e he
  have : kvM = [(.inr "n0", .str "n1"), (.inr "n1", .str "n0"), (.inr "zz", .str "n2")] := by kernel_rfl
  rw [this] at he
  simp only [List.mem_cons, List.not_mem_nil, or_false] at he
  rcases he with rfl | rfl | rfl
  · exact ⟨"n1", by decide +kernel, rfl⟩
  · exact ⟨"n0", by decide +kernel, rfl⟩
  · exact ⟨"n2", by decide +kernel, rfl⟩
theorem kvM_at : ∀ z ∈ n3, (valV kvM (.inr z)).getD (.str z) = .str (mv z) := by
  intro z hz
  simp only [n3, List.mem_cons, List.not_mem_nil, or_false] at hz
  rcases hz with rfl | rfl | rfl <;> decide +kernel
section
variable {K : PySem.W.Frag} {DK tp tg CR CP l p dx kp c dc : Addr} {H G : Hp} {ll : Str} {pins ns : List Str} {t b : Int} {fs : List (Str × V)} {v : V} {zs : List V} {C d : Addr}
theorem S2.of1 (s : S2 l l H G) (nl : H l = none) : Same H G := fun b u e => s.sx b u (ne_of_none e nl) (ne_of_none e nl) e
theorem S2.ofN (s : S2 l p G H) {G0 : Hp} (e : Same G0 G) (nl : G0 l = none) (np : G0 p = none) : Same G0 H := fun b u h => s.sx b u (ne_of_none h nl) (ne_of_none h np) (e b u h)
theorem sq2 {a : Addr} {xs : List V} (s : S2 l p H G) (hl : H l = some (.lst zs)) (hp : H p = some (.ins C d fs)) (h : SqT K H a xs) : SqT K G a xs := by
  have ne : ∀ u, H a = some u → (∀ z, u ≠ .lst z) → (∀ C d f, u ≠ .ins C d f) → G a = some u := fun u e n m => s.sx a u (fun z => by rw [z, hl] at e; exact n _ (Option.some.inj e).symm) (fun z => by rw [z, hp] at e; exact m _ _ _ (Option.some.inj e).symm) e
  rcases h with (h | ⟨w, h⟩) | h
  · exact .inl (.inl (ne _ h (fun z e => by cases e) fun _ _ _ e => by cases e))
  · exact .inl (.inr ⟨w, ne _ h (fun z e => by cases e) fun _ _ _ e => by cases e⟩)
  · exact .inr h
theorem ins2 {a C' d' : Addr} {f' : List (Str × V)} (s : S2 l p H G) (hl : H l = some (.lst zs)) (np : a ≠ p) (h : H a = some (.ins C' d' f')) : G a = some (.ins C' d' f') := s.sx a _ (fun z => by rw [z, hl] at h; cases h) np h
theorem PartI.s2 (h : PartI K DK tp tg CR CP H c dc kp ll pins t b ns) (s : S2 l p H G) (hl : H l = some (.lst zs)) (hp : H p = some (.ins C d fs)) (nline : fs.lookup ("_line" : Str) = none) (ntop : fs.lookup ("top" : Str) = none) (np : c ≠ p) : PartI K DK tp tg CR CP G c dc kp ll pins t b ns := by
  obtain ⟨vp, nn, h1, h2, ⟨dv, h3⟩, h4, h5, h6⟩ := h.ex
  obtain ⟨C', dk, f', pa, k1, k2, k3, k4, k5⟩ := h2.ex
  have nk : kp ≠ p := fun z => by
    rw [z, hp] at k1
    cases k1
    rw [nline] at k3
    cases k3
  have nv : vp ≠ p := fun z => by
    rw [z, hp] at h3
    cases h3
    rw [R5r.flds_top] at ntop
    cases ntop
  have gk := ins2 s hl nk k1
  exact ⟨vp, nn, ins2 s hl np h1, ⟨⟨C', dk, f', pa, gk, k2, k3, k4, sq2 s hl hp k5⟩, h2.ok, fun C2 d2 f2 e => by rw [gk] at e; cases e; exact h2.ce _ _ _ k1⟩, ⟨dv, ins2 s hl nv h3⟩, h4, sq2 s hl hp h5, h6⟩
theorem num_s2 (h : R5r.Num CR H v t b) (s : S2 l p H G) (hl : H l = some (.lst zs)) (hp : H p = some (.ins C d fs)) (ntop : fs.lookup ("top" : Str) = none) : R5r.Num CR G v t b := by
  rcases h with ⟨q, rfl, dq, r⟩ | h
  · refine .inl ⟨q, rfl, dq, ins2 s hl (fun z => ?_) r⟩
    rw [z, hp] at r
    cases r
    rw [R5r.flds_top] at ntop
    cases ntop
  · exact .inr h
end
theorem pins_ne1 {K : PySem.W.Frag} {G : Hp} {Q : VK} {r q T U : Addr} {v0 : V} (h0 : Sc v0) (hr : G r = some (.lst [.str "pins", .ref T])) (hT : G T = some (.tup [v0])) (hq : G q = some (.lst [.str "pins", .ref U])) (hU : G U = some (.tup [v0])) (k : Q (.bl false) G) : rNeD K (.ref r) (.ref q) G Q := by
  obtain ⟨_, d0, l0⟩ := h0.all (K := K) G
  have ly : LyN 2 (.list [.str "pins", .tuple [scD v0]]) := .lst (.cons (.str (by decide +kernel)) (.cons (.tup (.cons l0 .nil)) .nil))
  refine ⟨_, _, .lst (SqL.of hr) (.cons (.str _) (.cons (.tup (SqT.of hT) (.cons d0 .nil)) .nil)), .lst (SqL.of hq) (.cons (.str _) (.cons (.tup (SqT.of hU) (.cons d0 .nil)) .nil)), ly.shp (by decide), ly.shp (by decide), ?_⟩
  rw [ly.ne]
  exact k
abbrev teDue (K : PySem.W.Frag) : TE := tOp (rIxL K) (tLst (tCons (tC (.str "n1")) (tCons (tC (.str "n0")) (tCons (tC (.str "n2")) tNil)))) (tBM K "list" (rIndex K) (tLst (tCons (tC (.str "n0")) (tCons (tC (.str "n1")) (tCons (tC (.str "n2")) tNil)))) (tCons (tVar 14) tNil))
section
variable {P : Program} {w : World} {K : PySem.W.Frag} {mg : Str → Option Value} {base : Heap} {DK tp tg CR CP CKd fKd CNm fNm CIP fIP CUn fUn CNP fI gv gn gl ge pv_ pn_ CI fCI CZ fCZ : Addr}
def spLaw (K : PySem.W.Frag) : Sp := fun vs H Q _ => ∃ (a : Addr) (ns : List Int), vs = [.ref a] ∧ SqL K H a (ns.map V.int) ∧ ∀ H', Same H H' → Q (.bl true) H'
set_option maxHeartbeats 8000000 in
theorem ok_law {f : Addr} {fd ged : FuncData} (F : Fun K "law" "law" sLaw f fd) (T : Bi mg) (U : PTx K mg DK CP CKd fKd CNm fNm CIP fIP CUn fUn) (TR : R5r.Txt K mg CR CI fCI CZ fCZ) (M : R5r.Mak P w K mg base CR CI CZ) (X : PMe K CP gv gn gl ge pv_ pn_)
    (MP : Mk K CP fI) (FP : FnR P w K mg base (L2.CX P w) 6 fI (spPart K DK tp tg CR CP CKd CNP CIP)) (GPE : FnOk P w K mg base (L2.CX P w) 5 ge ged ["self", "other"] (spPEq K DK tp tg CR CP)) (bPE : L2.Binds K ged ["self", "other"] []) (nfi : PySem.W.notFirst K CP (.type "int") = true)
    (pne : PySem.W.findIn K (.ref CP) "__ne__" = some (some (.builtin "object.__ne__"))) (OC : R5r.Dun P w K mg base CP "copied" 8 ["self"] (spCop K DK tp tg CR CP)) (OM : R5r.Dun P w K mg base CP "moved" 8 ["self", "nets"] (spMov K DK tp tg CR CP CIP))
    (G1 : Glb P w K mg base "_law_kinds" 9 [] (spLKs K DK tp tg CP)) (G2 : Glb P w K mg base "_law_error" 10 ["_law_way", "_law_one", "_law_other"] (spLErr K DK tp tg CR CP)) (G3 : Glb P w K mg base "_law_draws" 1 ["_law_script", "_law_k"] (spDraws K)) (G4 : Glb P w K mg base "_law_draw" 1 ["_law_draws_here", "_law_upto"] spDraw)
    (G5 : Glb P w K mg base "_law_part" 8 ["_law_kind", "_law_value", "_law_nets"] (spLPt K DK tp tg CR CP)) (G6 : Glb P w K mg base "_law_is" 9 ["_law_part_here", "_law_kind", "_law_value", "_law_nets"] (spLIs K DK tp tg CR CP)) (G7 : Glb P w K mg base "_law_set_right" 11 ["_law_draws_here", "_law_part_here", "_law_kind", "_law_value", "_law_nets"] (spLSR K DK tp tg CR CP)) :
    FnOk P w K mg base (L2.CX P w) 12 f fd ["_law_script"] (spLaw K) := by
  obtain ⟨_, _, mK, kK, GK, bK⟩ := G1.ex
  obtain ⟨_, _, mE, kE, GE, bE⟩ := G2.ex
  obtain ⟨_, _, mDs, kDs, GDs, bDs⟩ := G3.ex
  obtain ⟨_, _, mD, kD, GD, bD⟩ := G4.ex
  obtain ⟨_, _, mP, kP, GP, bP⟩ := G5.ex
  obtain ⟨_, _, mI, kI, GI, bI⟩ := G6.ex
  obtain ⟨_, _, mS, kS, GS, bS⟩ := G7.ex
  obtain ⟨_, _, ca, cf, ck, GC, cb⟩ := OC.ex
  obtain ⟨_, _, ma, mf, mk2, GM, mb⟩ := OM.ex
  obtain ⟨_, _, ds, mk, GR, b3, d2, b2⟩ := M.ex
  have sc : FnScope NLw ["_law_script"] (defScope sLaw) := ⟨rfl, rfl, rfl, by decide +kernel, rfl, by decide +kernel, by decide +kernel⟩
  have hN := sc.nd
  refine F.okX sc (fun vs H Q E h => ?_) (fun cdv A outer s H vs Q E hr h => ?_)
  · obtain ⟨a, ns, rfl, _⟩ := h
    rfl
  · obtain ⟨a, ns, rfl, hS, fin⟩ := h
    refine ⟨_, (pss_cons (ps_set (i := 1) hN rfl (Or.inl rfl) (pe_call0 GK (hr.mono (by decide)) (by rfl) mK kK bK .nil passL))
      (pss_cons (ps_for passOwn rfl (pi_list (pe_lst (pa_cons pe_non (pa_cons pe_str (pa_cons pe_int (pa_cons (pe_makeR (E := E0) MP FP (hr.mono (by decide)) (by rfl) U.gP passL (pa_cons (pe_ix ix_list (pv 1) pe_int (fun _ _ => rfl)) (pa_cons pe_int (pa_cons pe_str pa_nil)))) pa_nil)))))) (pg_name (i := 2) hN rfl (Or.inl rfl)) (pss_one (ps_if (pt_cmpR (op_neG (n := 0) mon_DA eqG_DA (hr.mono (by decide))) (pe_call GE (hr.mono (by decide)) (by rfl) mE kE bE .nil passL (pa_cons pe_int (pa_cons (pv 2) (pa_cons pe_int pa_nil)))) (pe_lst (pa_cons pe_str (pa_cons (pv 2) pa_nil))) (nomark _)) (pss_one (ps_ret pe_bl)) pss_nil)))
      (pss_cons (ps_if (PW.pt (pw_or (pt_cmpR (op_neG (n := 0) mon_DA eqG_DA (hr.mono (by decide))) (pe_call GE (hr.mono (by decide)) (by rfl) mE kE bE .nil passL (pa_cons pe_int (pa_cons (pe_ix ix_list (pv 1) pe_int (fun _ _ => rfl)) (pa_cons pe_int pa_nil)))) (pe_lst (pa_cons pe_str (pa_cons pe_int pa_nil))) (nomark _)) (pw_or1 (pt_cmpR (op_neD hr.units) (pe_call GE (hr.mono (by decide)) (by rfl) mE kE bE .nil passL (pa_cons pe_int (pa_cons (pe_ix ix_list (pv 1) pe_int (fun _ _ => rfl)) (pa_cons pe_int pa_nil)))) (pe_lst (pa_cons pe_str (pa_cons (pe_tup (pa_cons pe_str pa_nil)) pa_nil))) (nomark _))))) (pss_one (ps_ret pe_bl)) pss_nil)
      (pss_cons (ps_for passOwn rfl (pi_range1 rfl T.range (pa_cons (pe_callB (call_max2 rfl) (by rfl) T.max (by decide +kernel) (pa_cons pe_int (pa_cons (pe_callB (call_min2 rfl) (by rfl) T.min (by decide +kernel) (pa_cons pe_int (pa_cons (pe_callB call_len_seq (by rfl) T.len PySem.boot_len (pa_cons (pv 0) pa_nil)) pa_nil))) pa_nil))) pa_nil)) (pg_name (i := 3) hN rfl (Or.inl rfl)) (pss_cons (ps_set (i := 4) hN rfl (Or.inr rfl) (pe_call GDs (hr.mono (by decide)) (by rfl) mDs kDs bDs .nil passL (pa_cons (pv 0) (pa_cons (pv 3) pa_nil))))
      (pss_cons (ps_set (i := 5) hN rfl (Or.inl rfl) (pe_ix ix_list (pv 1) (pe_call GD (hr.mono (by decide)) (by rfl) mD kD bD .nil passL (pa_cons (pv 4) (pa_cons pe_int pa_nil))) (fun _ _ => rfl)))
      (pss_cons (ps_set (i := 6) hN rfl (Or.inl rfl) (pe_ix ix_list (pe_lst (pa_cons pe_int (pa_cons pe_int (pa_cons (pe_make mk GR (hr.mono (by decide)) (by rfl) TR.gC b3 .nil passL (pa_cons pe_int (pa_cons pe_int pa_nil))) pa_nil)))) (pe_call GD (hr.mono (by decide)) (by rfl) mD kD bD .nil passL (pa_cons (pv 4) (pa_cons pe_int pa_nil))) (fun _ _ => rfl)))
      (pss_cons (ps_setLc (i := 7) (own := [("_law_pin", 8)]) (g := gName 8) (tt := tYes) (te := tOp (rIxL K) (tLst (tCons (tC (.str "n0")) (tCons (tC (.str "n1")) (tCons (tC (.str "n2")) tNil)))) (tCall spDraw [] E0 (tCons (tVar 4) (tCons (tC (.int 3)) tNil)))) rfl hN rfl rfl rfl (pi_tup (pe_fld (pv 5) rfl)) (blkOk_by (N := NLw) (sc := defScope sLaw) (by decide +kernel)) (fun _ _ _ _ _ => pg_name (i := 8) hN rfl (Or.inl rfl)) (fun _ _ _ _ _ => pts_nil) (fun _ _ _ _ _ => pe_ix (show IxR _ (rIxL K) from ix_list) (pe_lst (pa_cons pe_str (pa_cons pe_str (pa_cons pe_str pa_nil)))) (pe_call GD (hr.mono (by decide)) (by rfl) mD kD bD .nil passL (pa_cons (pv 4) (pa_cons pe_int pa_nil))) (fun _ _ => rfl)))
      (pss_cons (ps_set (i := 9) hN rfl (Or.inl rfl) (pe_call GP (hr.mono (by decide)) (by rfl) mP kP bP .nil passL (pa_cons (pv 5) (pa_cons (pv 6) (pa_cons (pv 7) pa_nil)))))
      (pss_cons (ps_par (i := 10) (j := 11) rfl hN rfl rfl (by decide) rfl rfl (pa_cons (pe_meth0 (E := E0) (pv 9) U.cl ⟨ca, cf, ck⟩ GC (hr.mono (by decide)) cb .nil passL) (pa_cons (pe_call GP (hr.mono (by decide)) (by rfl) mP kP bP .nil passL (pa_cons (pv 5) (pa_cons (pv 6) (pa_cons (pv 7) pa_nil)))) pa_nil)) (by rfl))
      (pss_cons (ps_set (i := 12) hN rfl (Or.inl rfl) (pe_meth (E := E0) (pv 9) U.cl ⟨ma, mf, mk2⟩ GM (hr.mono (by decide)) mb .nil passL (pa_cons (pe_disp (pps_cons pe_str pe_str (pps_cons pe_str pe_str (pps_cons pe_str pe_str pps_nil))) (by rfl) rfl (by simp) (by decide)) pa_nil)))
      (pss_cons (ps_setLc (i := 13) (own := [("_law_net", 14)]) (g := gName 14) (tt := tYes) (te := teDue K) rfl hN rfl rfl rfl (pi_list (pv 7)) (blkOk_by (N := NLw) (sc := defScope sLaw) (by decide +kernel)) (fun _ _ _ _ _ => pg_name (i := 14) hN rfl (Or.inl rfl)) (fun _ _ _ _ _ => pts_nil) (fun _ _ _ _ _ => pe_ix (show IxR _ (rIxL K) from ix_list) (pe_lst (pa_cons pe_str (pa_cons pe_str (pa_cons pe_str pa_nil)))) (pe_bm PySem.F.plainAttrs_list PySem.F.slot_list_index PySem.F.type_list_index (show MtR _ "list.index" (rIndex K) from mt_index) (pe_lst (pa_cons pe_str (pa_cons pe_str (pa_cons pe_str pa_nil)))) (pa_cons (pv 14) pa_nil)) (fun _ _ => rfl)))
      (pss_cons (ps_if (PW.pt (pw_or (pt_not (pt_val (pe_call GI (hr.mono (by decide)) (by rfl) mI kI bI .nil passL (pa_cons (pv 9) (pa_cons (pv 5) (pa_cons (pv 6) (pa_cons (pv 7) pa_nil))))))) (pw_or1 (pt_not (pt_val (pe_call GI (hr.mono (by decide)) (by rfl) mI kI bI .nil passL (pa_cons (pv 12) (pa_cons (pv 5) (pa_cons (pv 6) (pa_cons (pv 13) pa_nil)))))))))) (pss_one (ps_ret pe_bl)) pss_nil)
      (pss_cons (ps_for passOwn rfl (pi_list (pe_lst (pa_cons pe_non (pa_cons (pe_lst pa_nil) (pa_cons pe_str (pa_cons (pe_disp (pps_cons pe_str pe_str pps_nil) (by rfl) rfl (by simp) (by decide)) (pa_cons (pe_disp (pps_cons pe_str pe_non pps_nil) (by rfl) rfl (by simp) (by decide)) pa_nil))))))) (pg_name (i := 2) hN rfl (Or.inl rfl)) (pss_one (ps_if (pt_cmpR (op_neG (n := 0) mon_DA eqG_DA (hr.mono (by decide))) (pe_call GE (hr.mono (by decide)) (by rfl) mE kE bE .nil passL (pa_cons pe_int (pa_cons (pv 9) (pa_cons (pv 2) pa_nil)))) (pe_lst (pa_cons pe_str (pa_cons (pv 2) pa_nil))) (nomark _)) (pss_one (ps_ret pe_bl)) pss_nil)))
      (pss_cons (ps_if (pt_not (pt_val (pe_call GS (hr.mono (by decide)) (by rfl) mS kS bS .nil passL (pa_cons (pv 4) (pa_cons (pv 9) (pa_cons (pv 5) (pa_cons (pv 6) (pa_cons (pv 7) pa_nil)))))))) (pss_one (ps_ret pe_bl)) pss_nil)
      (pss_cons (ps_if (PW.pt (pw_or (pt_cmpR (op := .NotEq) (op_neOwn (C := CP) (E := E0) (R := RQ K CP) U.hm pne X.e1 X.e2 GPE (hr.mono (by decide)) bPE passL (looks_Q nfi X.nf)) (pv 10) (pv 11) (nomark _)) (pw_or1 (pt_not (pt_val (pe_call GI (hr.mono (by decide)) (by rfl) mI kI bI .nil passL (pa_cons (pv 10) (pa_cons (pv 5) (pa_cons (pv 6) (pa_cons (pv 7) pa_nil)))))))))) (pss_one (ps_ret pe_bl)) pss_nil)
      (pss_one (ps_if (PW.pt (pw_or (pt_cmpR (op := .Eq) (cmp_own (C := CP) (E := E0) (R := RQ K CP) (fun _ _ => rfl) X.e1 X.e2 GPE (hr.mono (by decide)) bPE passL (looks_Q nfi X.nf)) (pv 9) (pv 10) (nomark _)) (pw_or (pt_cmpR (op := .Eq) (cmp_own (C := CP) (E := E0) (R := RQ K CP) (fun _ _ => rfl) X.e1 X.e2 GPE (hr.mono (by decide)) bPE passL (looks_Q nfi X.nf)) (pv 9) pe_int (nomark _)) (pw_or (pt_cmpR (op := .Eq) (cmp_own (C := CP) (E := E0) (R := RQ K CP) (fun _ _ => rfl) X.e1 X.e2 GPE (hr.mono (by decide)) bPE passL (looks_Q nfi X.nf)) (pv 10) (pv 5) (nomark _)) (pw_or1 (pt_cmpR (op := .Eq) (cmp_own (C := CP) (E := E0) (R := RQ K CP) (fun _ _ => rfl) X.e1 X.e2 GPE (hr.mono (by decide)) bPE passL (looks_Q nfi X.nf)) (pv 10) (pe_call GP (hr.mono (by decide)) (by rfl) mP kP bP .nil passL (pa_cons (pv 5) (pa_cons pe_int (pa_cons (pv 7) pa_nil)))) (nomark _))))))) (pss_one (ps_ret pe_bl)) pss_nil)))))))))))))))
      (pss_one (ps_ret pe_bl)))))), ?_⟩
    have line : 1000 ≤ sizeLine := by decide
    have ref2 : ∀ {w : Str} {v : V} {G G' : Hp} {Q' : VK}, DA v v G → Same G G' → (∀ H', Same G' H' → Q' (.bl false) H') → ∀ r q, G' r = some (.lst [.str w, v]) → G' q = some (.lst [.str w, v]) → rNeG DA (.ref r) (.ref q) G' Q' := fun da s k r q h1 h2 => ne_word rfl h1 h2 (mon_DA _ _ _ _ s da) k
    have vI : ∀ (G : Hp) (z : Int), (z = 1 ∨ z = 9) → R5r.Vp CR G (.int z) z 1 := fun G z hz => ⟨.inr ⟨rfl, rfl⟩, ⟨by decide, by omega, Nat.one_lt_two_pow (by decide), (RatM.nt_one z).1, (RatM.nt_one z).2⟩⟩
    refine ⟨rfl, fun ka ks G0 s0 kst => ?_⟩
    have kat : ∀ i, i < 7 → ∃ kp, ks[i]? = some kp ∧ KL K DK tp tg CP G0 kp (kPins.getD i []) := fun i hi => ⟨ks[i]'(by rw [kst.len]; exact hi), List.getElem?_eq_getElem _, kst.it i _ (List.getElem?_eq_getElem _)⟩
    have kix : ∀ {i : Nat} {kp : Addr}, ks[i]? = some kp → (ks.map V.ref)[i]? = some (V.ref kp) := fun h => by rw [List.getElem?_map, h]; rfl
    obtain ⟨k6, hk6, kl6⟩ := kat 6 (by decide)
    obtain ⟨l6, kv6⟩ := kl6.v
    obtain ⟨k0, hk0, kl0⟩ := kat 0 (by decide)
    obtain ⟨l0, kv0⟩ := kl0.v
    have gx : ∀ y ∈ (["x"] : List Str), nm y = true ∧ shB y = true := by decide +kernel
    have scx : Sc (.str "x") := sc_s (by decide +kernel)
    -- no kinds
    refine ⟨_, rfl, ka, _, 6, .ref k6, rfl, rfl, SqL.of kst.at_, at_of (j := 6) rfl (kix hk6), fun pq dq hpq hdq neq => mk_part (rest := [.str "x"]) (ns := ["x"]) hpq hdq neq kv6 (vI _ 1 (.inl rfl)) rfl rfl (by decide) gx fun G1 s1 pi1 => ⟨rfl, by show 4 ≤ sizeLine; omega, fun L1 nL1 => ⟨_, rfl, ⟨_, SqL.of upd_same⟩, ?_⟩⟩⟩
    have s2 := same_upd (o := .lst [.non, .str "res", .int 5, .ref pq]) nL1
    have eL1 : (upd G1 L1 (.lst [.non, .str "res", .int 5, .ref pq])) L1 = some (.lst [.non, .str "res", .int 5, .ref pq]) := upd_same
    have pi2 := pi1.same s2
    have S2' := s0.trans (s1.trans s2)
    have kst2 := kst.same (s1.trans s2)
    have kv02 := kv0.same (s1.trans s2)
    generalize upd G1 L1 (.lst [.non, .str "res", .int 5, .ref pq]) = G2 at s2 eL1 pi2 S2' kst2 kv02 ⊢
    have its : ∀ w ∈ ([.non, .str "res", .int 5, .ref pq] : List V), NoK CP G2 w ∧ DA w w G2 := fun w hw => by
      obtain ⟨vpx, npx, z1, _⟩ := id pi2.ex
      simp only [List.mem_cons, List.not_mem_nil, or_false] at hw
      rcases hw with rfl | rfl | rfl | rfl
      · exact ⟨.non, da_av (H := G2) .non⟩
      · exact ⟨.str _, da_av (H := G2) (.str _)⟩
      · exact ⟨.int _, da_av (H := G2) (.int _)⟩
      · exact ⟨.ins z1, .inr ⟨rfl, _, rfl⟩⟩
    refine for_it (walk_list (K := K) (a := L1) (xs := [.non, .str "res", .int 5, .ref pq])) (fun n σ G => (∃ o, σ = [some (.ref a), some (.ref ka), o, none, none, none, none, none, none, none, none, none, none, none, none]) ∧ Same G2 G) ⟨⟨_, rfl⟩, Same.refl _⟩ (fun n σ G _ g => SqL.of (g.2 _ _ eL1)) (fun n w σ G G' hi g y => ?_) (fun σ G g => ?_)
    · obtain ⟨rfl, hx⟩ := y
      obtain ⟨⟨o, rfl⟩, sg⟩ := g
      obtain ⟨nk, da⟩ := its w (List.mem_of_getElem? hx)
      refine ⟨_, rfl, 0, w, .int 0, rfl, .inl ⟨⟨rfl, nk.same sg⟩, fun r Ga sa hra => ⟨_, rfl, by show 2 ≤ sizeLine; omega, fun q nq => ?_⟩⟩⟩
      have sq := same_upd (o := .lst [.str "kind", w]) nq
      exact ref2 da (sg.trans (sa.trans sq)) (fun G' s' => ⟨_, rfl, if_neg' rfl ⟨⟨_, rfl⟩, sg.trans (sa.trans (sq.trans s'))⟩⟩) _ _ (sq _ _ hra) upd_same
    · obtain ⟨⟨o0, rfl⟩, s3⟩ := g
      have S3 := S2'.trans s3
      have kst3 := kst2.same s3
      have kv03 := kv02.same s3
      clear its eL1 pi2
      -- the first kind
      refine ⟨_, rfl, ka, _, 0, .ref k0, rfl, rfl, SqL.of kst3.at_, at_of (j := 0) rfl (kix hk0), 0, .ref k0, .int 0, rfl, .inr (.inl ⟨⟨rfl, ⟨k0, l0, _, rfl, kv03⟩, .inr ⟨0, 1, .inr ⟨rfl, rfl⟩, by decide⟩⟩, fun r Ga sa hra => ⟨by show 2 ≤ sizeLine; omega, fun q nq => ?_⟩⟩)⟩
      have sq := same_upd (o := .lst [.str "value", .int 0]) nq
      refine ref2 (w := "value") (v := .int 0) (da_av (H := G) (.int 0)) (sa.trans sq) (fun G4 s4' => ⟨_, rfl, if_neg' rfl ?_⟩) _ _ (sq _ _ hra) upd_same
      have s4 := sa.trans (sq.trans s4')
      have kst4 := kst3.same s4
      have kv04 := kv03.same s4
      refine ⟨_, rfl, ka, _, 0, .ref k0, rfl, rfl, SqL.of kst4.at_, at_of (j := 0) rfl (kix hk0), 0, .ref k0, .int 1, rfl, .inr (.inr (.inl ⟨⟨rfl, k0, l0, _, 1, 1, rfl, kv04, vI _ 1 (.inl rfl), by decide +kernel⟩, fun r T Gb sb hT hrb => ⟨by show 1 ≤ sizeLine; omega, fun U1 nU1 => ⟨by show 2 ≤ sizeLine; omega, fun q5 nq5 => ?_⟩⟩⟩))⟩
      have s5 := same_upd (o := .tup [.str "x"]) nU1
      have e5 : (upd Gb U1 (.tup [.str "x"])) U1 = some (.tup [.str "x"]) := upd_same
      have hT5 := s5 _ _ hT
      have hr5 := s5 _ _ hrb
      have sb5 := sb.trans s5
      generalize upd Gb U1 (.tup [.str "x"]) = Gc at e5 hT5 hr5 sb5 nq5 ⊢
      have s6 := same_upd (o := .lst [.str "pins", .ref U1]) nq5
      refine pins_ne1 scx (s6 _ _ hr5) (s6 _ _ hT5) upd_same (s6 _ _ e5) ⟨_, rfl, if_neg' rfl ?_⟩
      have s46 := s4.trans (sb5.trans s6)
      have S6 := S3.trans s46
      have kst6 := kst3.same s46
      generalize upd Gc q5 (.lst [.str "pins", .ref U1]) = G6 at S6 kst6 ⊢
      clear s6 s46 kst4 kv04 s4 sb5 e5 hT5 hr5
      refine ⟨_, rfl, a, _, rfl, .inl (S6.seq hS), _, _, rfl, _, _, rfl, _, rfl, ?_, ?_, for_range (fun j σ G => (∃ v2 v3 v4 v5 v6 v7 v8 v9 v10 v11 v12 v13 v14, σ = [some (.ref a), some (.ref ka), v2, v3, v4, v5, v6, v7, v8, v9, v10, v11, v12, v13, v14]) ∧ Same G6 G) ⟨⟨_, _, _, _, _, _, _, _, _, _, _, _, _, rfl⟩, Same.refl _⟩ (fun j σ G hj ⟨⟨v2, v3, v4, v5, v6, v7, v8, v9, v10, v11, v12, v13, v14, e⟩, sG⟩ => ?_) (fun σ G ⟨⟨_, _, _, _, _, _, _, _, _, _, _, _, _, e⟩, sG⟩ => ?_)⟩
      · split <;> split <;> omega
      · split <;> split <;> omega
      · subst e
        refine ⟨_, rfl, _, rfl, a, ns, _, rfl, (S6.trans sG).seq hS, fun l x0 y0 G7 s7 hl nl => ?_⟩
        have W7 : S2 l l G G7 := ⟨fun b u _ _ e => s7 _ _ e, _, _, hl⟩
        have kstG := kst6.same sG
        have kst7 := kstG.same s7
        -- the kind
        refine ⟨_, rfl, _, rfl, l, 7, x0, y0, rfl, by decide, by decide, hl, fun d x1 y1 d0 d1 => ?_⟩
        obtain ⟨i, rfl⟩ := Int.eq_ofNat_of_zero_le d0
        have W8 := W7.draw (x := x1) (y := y1)
        have hl8 : (upd G7 l (.lst [.int x1, .int y1])) l = some (.lst [.int x1, .int y1]) := upd_same
        generalize upd G7 l (.lst [.int x1, .int y1]) = G8 at W8 hl8 ⊢
        have kst8 := kstG.same (W8.of1 nl)
        obtain ⟨kp, hkp, klG⟩ := (show ∃ kp, ks[i]? = some kp ∧ KL K DK tp tg CP G kp (kPins.getD i []) from ⟨ks[i]'(by rw [kst.len]; omega), List.getElem?_eq_getElem _, kstG.it i _ (List.getElem?_eq_getElem _)⟩)
        have hpm : kPins.getD i [] ∈ kPins := by
          rw [List.getD_eq_getElem?_getD, List.getElem?_eq_getElem (show i < kPins.length by show i < 7; omega)]
          exact List.getElem_mem _
        generalize kPins.getD i [] = pins at klG hpm
        obtain ⟨p1, p3⟩ := kp_len pins hpm
        have nd := kp_nd pins hpm
        have pat : ∀ i y, pins[i]? = some y → PinAt pins (.str y) i := fun i y h => pin_at nd h
        obtain ⟨ll, kvG⟩ := klG.v
        obtain ⟨Ck, dkk, fsk, hkc, kcn, kcP, kcF⟩ := klG.c
        refine ⟨ka, _, (i : Nat), .ref kp, rfl, rfl, SqL.of kst8.at_, at_of rfl (kix hkp), ?_⟩
        -- the value
        intro r0 dr0 hr0n hdr0 ner0
        refine R5r.mkR_at (t := 3) (b := 2) hr0n hdr0 (by decide) (show (2 : Int).natAbs < 2 ^ 5000 by exact Nat.lt_of_lt_of_le (by decide : 2 < 2 ^ 2) (Nat.pow_le_pow_right (by decide) (by decide))) fun G9 s9 rr => ⟨rfl, by show 3 ≤ sizeLine; omega, fun q1 nq1 => ?_⟩
        have s10 := same_upd (o := .lst [.int 1, .int 2, .ref r0]) nq1
        have e10 : (upd G9 q1 (.lst [.int 1, .int 2, .ref r0])) q1 = some (.lst [.int 1, .int 2, .ref r0]) := upd_same
        have rr10 := rr.same s10
        have W10 := W8.same (s9.trans s10)
        have hl10 := (s9.trans s10) _ _ hl8
        generalize upd G9 q1 (.lst [.int 1, .int 2, .ref r0]) = G10 at e10 rr10 W10 hl10 ⊢
        have key : ∀ k, k < 3 → ∃ v t b, [V.int 1, .int 2, .ref r0][k]? = some v ∧ (∀ G, R5r.Rat CR G r0 (RatM.nt 3 2) (RatM.nb 3 2) → R5r.Vp CR G v t b) ∧ Two t b := fun k hk => by
          match k, hk with
          | 0, _ => exact ⟨_, 1, 1, rfl, fun G _ => ⟨.inr ⟨rfl, rfl⟩, ⟨by decide, by decide, Nat.one_lt_two_pow (by decide), by decide +kernel, by decide +kernel⟩⟩, .inl ⟨rfl, rfl⟩⟩
          | 1, _ => exact ⟨_, 2, 1, rfl, fun G _ => ⟨.inr ⟨rfl, rfl⟩, ⟨by decide, by decide, Nat.one_lt_two_pow (by decide), by decide +kernel, by decide +kernel⟩⟩, .inr (.inl ⟨rfl, rfl⟩)⟩
          | 2, _ => exact ⟨_, 3, 2, rfl, fun G r => ⟨.inl ⟨r0, rfl, by rw [show RatM.nt 3 2 = 3 by decide +kernel, show RatM.nb 3 2 = 2 by decide +kernel] at r; exact r⟩, ⟨by decide, by decide, Nat.lt_of_lt_of_le (by decide : 2 < 2 ^ 2) (Nat.pow_le_pow_right (by decide) (by decide)), by decide +kernel, by decide +kernel⟩⟩, .inr (.inr ⟨rfl, rfl⟩)⟩
        refine ⟨_, rfl, l, 3, x1, y1, rfl, by decide, by decide, hl10, fun d3 x2 y2 d30 d31 => ?_⟩
        obtain ⟨k, rfl⟩ := Int.eq_ofNat_of_zero_le d30
        obtain ⟨v, t, b, hv, hvp, two⟩ := key k (by omega)
        have nq1l : q1 ≠ l := fun z => by rw [z, hl10] at e10; cases e10
        obtain ⟨drr, hrr⟩ := rr10
        have W11 := W10.draw (x := x2) (y := y2)
        have hl11 : (upd G10 l (.lst [.int x2, .int y2])) l = some (.lst [.int x2, .int y2]) := upd_same
        have e11 : (upd G10 l (.lst [.int x2, .int y2])) q1 = some (.lst [.int 1, .int 2, .ref r0]) := by rw [upd_ne nq1l]; exact e10
        have vp11 := hvp (upd G10 l (.lst [.int x2, .int y2])) ⟨drr, ins_draw hl10 hrr⟩
        generalize upd G10 l (.lst [.int x2, .int y2]) = G11 at W11 hl11 e11 vp11 ⊢
        refine ⟨q1, _, (k : Nat), v, rfl, rfl, SqL.of e11, at_of rfl hv, ?_⟩
        -- the nets
        have kv11 := kvG.same (W11.of1 nl)
        obtain ⟨C, dk, fs, pa, k1, kc, k3, k4, k5⟩ := id kv11.ex
        refine ⟨_, rfl, kp, C, dk, fs, _, rfl, k1, kc.kc.cl, kc.kc.n2, k4, pa, rfl, ⟨_, k5⟩, fun D nD => ?_⟩
        have nDl : D ≠ l := fun z => by rw [z, hl11] at nD; cases nD
        have draws : ∀ {Ga Gb : Hp}, S2 l l Ga Gb → ∃ x y : Int, Gb l = some (.lst [.int x, .int y]) := fun s => s.at_
        have vdraw : ∀ {Ga Gb : Hp}, (∃ zs, Ga l = some (.lst zs)) → S2 l l Ga Gb → R5r.Vp CR Ga v t b → R5r.Vp CR Gb v t b := fun ⟨zs, h⟩ s vp => ⟨by
          rcases vp.1 with ⟨q, e, dq, hq⟩ | e
          · exact .inl ⟨q, e, dq, s.sx q _ (fun z => by rw [z, h] at hq; cases hq) (fun z => by rw [z, h] at hq; cases hq) hq⟩
          · exact .inr e, vp.2⟩
        refine lc_it (walk_tup (K := K) (a := pa) (xs := pins.map V.str)) (fun n Gz => S2 l l G11 Gz ∧ ∃ zs : List Str, Gz D = some (.lst (zs.map V.str)) ∧ zs.length = n ∧ ∀ z ∈ zs, z ∈ n3) ⟨⟨fun b u _ _ e => by rw [upd_ne (ne_of_none e nD)]; exact e, x2, y2, by rw [upd_ne (Ne.symm nDl)]; exact hl11⟩, [], upd_same, rfl, fun z h => by cases h⟩ (fun n Gz _ g => ?_) (fun n w Gz G' hi g y => ?_) (fun G12 g => ?_)
        · have e : SqT K G11 pa (pins.map V.str) := k5
          have ne : ∀ u, G11 pa = some u → (∀ z, u ≠ .lst z) → Gz pa = some u := fun u h n => g.1.sx pa u (fun z => by rw [z, hl11] at h; exact n _ (Option.some.inj h).symm) (fun z => by rw [z, hl11] at h; exact n _ (Option.some.inj h).symm) h
          rcases e with (h | ⟨w, h⟩) | h
          · exact .inl (.inl (ne _ h fun z e => by cases e))
          · exact .inl (.inr ⟨w, ne _ h fun z e => by cases e⟩)
          · exact .inr h
        · obtain ⟨rfl, hx⟩ := y
          obtain ⟨Wz, zs, hD, lz, inz⟩ := g
          obtain ⟨xz, yz, hlz⟩ := Wz.at_
          refine ⟨rfl, yes_go (iteT ⟨by show 3 ≤ sizeLine; omega, fun q nq => ⟨_, rfl, l, 3, xz, yz, rfl, by decide, by decide, same_upd nq _ _ hlz, fun d4 x5 y5 d40 d41 => ?_⟩⟩)⟩
          obtain ⟨k4', rfl⟩ := Int.eq_ofNat_of_zero_le d40
          have kl4 : k4' < n3.length := by show k4' < 3; omega
          have eq : (upd G' q (.lst [.str "n0", .str "n1", .str "n2"])) q = some (.lst (n3.map V.str)) := upd_same
          have sq := same_upd (o := .lst [.str "n0", .str "n1", .str "n2"]) nq
          have hlq := sq _ _ hlz
          have Wq := Wz.same sq
          have hDq := sq _ _ hD
          generalize upd G' q (.lst [.str "n0", .str "n1", .str "n2"]) = Gq at eq hlq Wq hDq ⊢
          have nql : q ≠ l := fun z => by rw [z, hlq] at eq; exact no_strs _ _ (Option.some.inj eq).symm
          refine ⟨q, _, (k4' : Nat), .str n3[k4'], rfl, rfl, SqL.of (show (upd Gq l (.lst [.int x5, .int y5])) q = some (.lst (n3.map V.str)) by rw [upd_ne nql]; exact eq), at_of rfl (by rw [List.getElem?_map, List.getElem?_eq_getElem kl4]; rfl), (zs.map V.str), by rw [upd_ne nDl]; exact hDq, by rw [List.length_map, lz]; exact small1000 (by rw [List.length_map] at hi; omega), ⟨fun b u n1 n2 e => ?_, x5, y5, by rw [upd_ne (Ne.symm nDl)]; exact upd_same⟩, zs ++ [n3[k4']], by rw [upd_same, List.map_append]; rfl, by rw [List.length_append, lz]; rfl, fun z hz => ?_⟩
          · rw [upd_ne (ne_of_none e nD), upd_ne n1]
            exact Wq.sx b u n1 n2 e
          · rcases List.mem_append.mp hz with h | h
            · exact inz z h
            · rw [List.mem_singleton.mp h]; exact List.getElem_mem _
        · obtain ⟨W12', zs, hD, lz, inz⟩ := g
          rw [List.length_map] at lz
          have zok : ∀ z ∈ zs, nm z = true ∧ shB z = true := fun z hz => ⟨(n3_ok z (inz z hz)).1, (n3_ok z (inz z hz)).2.1⟩
          have zsk : ∀ z ∈ zs, PyData.strOk z = true := fun z hz => (n3_ok z (inz z hz)).2.2.1
          have W12 : S2 l l G G12 := ⟨fun b u n1 n2 e => W12'.sx b u n1 n2 (W11.sx b u n1 n2 e), W12'.at_⟩
          have sG12 := W12.of1 nl
          have vp12 := vdraw ⟨_, hl11⟩ W12' vp11
          have kv12 := kvG.same sG12
          obtain ⟨x6, y6, hl12⟩ := W12.at_
          clear W12' vp11 e11 k1 k5 kv11 hl11 vdraw draws hvp
          -- the part
          refine ⟨_, rfl, _, rfl, _, rfl, kp, v, D, ll, pins, t, b, zs, rfl, kv12, vp12, SqL.of hD, lz, by omega, by omega, zok, fun p dx G13 s13 hpn pi13 => ?_⟩
          have vp13 := vp12.same s13
          have hD13 := s13 _ _ hD
          have hl13 := s13 _ _ hl12
          have kv13 := kv12.same s13
          obtain ⟨vpa, npa, z13, _⟩ := id pi13.ex
          have noL : ∀ {m : Str} {a b c : V}, (¬ m = "kind" ∧ ¬ m = "_value" ∧ ¬ m = "_nets") → (pf a b c).lookup m = none := fun h => pf_none _ _ _ h.1 h.2.1 h.2.2
          -- copy and twin
          refine ⟨_, rfl, p, dx, _, rfl, z13, noL ⟨by decide +kernel, by decide +kernel, by decide +kernel⟩, p, dx, kp, ll, pins, t, b, zs, rfl, pi13, fun c dc G14 s14 hcn pc14 => ?_⟩
          refine ⟨_, rfl, _, rfl, _, rfl, kp, v, D, ll, pins, t, b, zs, rfl, kv13.same s14, vp13.same s14, SqL.of (s14 _ _ hD13), lz, by omega, by omega, zok, fun tw dtw G15 s15 htwn pt15 => ⟨_, _, rfl, ?_⟩⟩
          have ncp : c ≠ p := fun z => by rw [z, z13] at hcn; cases hcn
          have ntp : tw ≠ p := fun z => by rw [z, s14 _ _ z13] at htwn; cases htwn
          have s1315 := s14.trans s15
          have pi15 := pi13.same s1315
          have pc15 := pc14.same s15
          have z15 := s1315 _ _ z13
          -- moved
          refine ⟨_, rfl, p, dx, _, rfl, z15, noL ⟨by decide +kernel, by decide +kernel, by decide +kernel⟩, fun dd ndd => ⟨upd_same, [(.inr "n0", .str "n1"), (.inr "n1", .str "n0"), (.inr "zz", .str "n2")], rfl, by decide, ?_⟩⟩
          have eD : upd (upd G15 dd (.dK [])) dd (.dK (mergeK [] [(.inr "n0", .str "n1"), (.inr "n1", .str "n0"), (.inr "zz", .str "n2")])) = upd G15 dd (.dK kvM) := by
            funext x
            unfold upd kvM
            split <;> rfl
          rw [eD]
          have s16 := same_upd (o := .dK kvM) ndd
          have e16 : (upd G15 dd (.dK kvM)) dd = some (.dK kvM) := upd_same
          generalize upd G15 dd (.dK kvM) = G16 at s16 e16 ⊢
          have pi16 := pi15.same s16
          refine ⟨p, dx, kp, ll, pins, t, b, zs, .ref dd, rfl, pi16, .inr ⟨dd, kvM, mv, rfl, e16, kvM_ok.1, fun e he => ?_, kvM_ok.2.2, fun z hz => ⟨kvM_at z (inz z hz), (n3_ok _ (n3_ok z (inz z hz)).2.2.2).1, (n3_ok _ (n3_ok z (inz z hz)).2.2.2).2.1⟩, fun mq dmq G17 s17 hmn pm17 => ?_⟩⟩
          · obtain ⟨z, hz, ez⟩ := kvM_ok.2.1 e he
            rw [ez]
            exact ⟨.str _, (n3_ok z hz).2.1⟩
          have s1317 := s1315.trans (s16.trans s17)
          have pi17 := pi13.same s1317
          have pc17 := pc15.same (s16.trans s17)
          have pt17 := pt15.same (s16.trans s17)
          have hD17 := s1317 _ _ hD13
          have nmp : mq ≠ p := fun z => by rw [z, s16 _ _ z15] at hmn; cases hmn
          -- due
          refine ⟨_, rfl, D, rfl, ⟨_, SqL.of hD17⟩, fun D2 nD2 => ?_⟩
          refine lc_it (walk_list (K := K) (a := D) (xs := zs.map V.str)) (fun n Gz => Same G17 Gz ∧ Gz D2 = some (.lst (((zs.take n).map mv).map V.str))) ⟨same_upd nD2, upd_same⟩ (fun n Gz _ g => SqL.of (g.1 _ _ hD17)) (fun n w Gz G' hi g y => ?_) (fun G18 g => ?_)
          · obtain ⟨rfl, hx⟩ := y
            obtain ⟨sz, hDz⟩ := g
            rw [List.getElem?_map] at hx
            obtain ⟨z, hz, rfl⟩ := Option.map_eq_some_iff.mp hx
            obtain ⟨j1, j3, a1, a2, a3⟩ := n3_ix z (inz z (List.mem_of_getElem? hz))
            refine ⟨rfl, yes_go (iteT ⟨by show 3 ≤ sizeLine; omega, fun u1 nu1 => ⟨by show 3 ≤ sizeLine; omega, fun u2 nu2 => ?_⟩⟩)⟩
            have w1 := same_upd (o := .lst [.str "n1", .str "n0", .str "n2"]) nu1
            have f1 : (upd G' u1 (.lst [.str "n1", .str "n0", .str "n2"])) u1 = some (.lst [.str "n1", .str "n0", .str "n2"]) := upd_same
            generalize upd G' u1 (.lst [.str "n1", .str "n0", .str "n2"]) = Gu at w1 f1 nu2 ⊢
            have w2 := same_upd (o := .lst [.str "n0", .str "n1", .str "n2"]) nu2
            have f2 : (upd Gu u2 (.lst [.str "n0", .str "n1", .str "n2"])) u2 = some (.lst (n3.map V.str)) := upd_same
            have f1' := w2 _ _ f1
            have hDu := (w1.trans w2) _ _ hDz
            have szu := sz.trans (w1.trans w2)
            generalize upd Gu u2 (.lst [.str "n0", .str "n1", .str "n2"]) = Gv at f2 f1' hDu szu ⊢
            refine ⟨.inl ⟨rfl, _, SqL.of f2⟩, _, rfl, u2, _, _, j1, _, rfl, rfl, SqL.of f2, rfl, by decide +kernel, a1, by simp [eqV], fun m z' h e => a2 m h z' e, u1, _, _, _, rfl, rfl, SqL.of f1', at_of rfl a3, _, hDu, ?_, same_put szu nD2, ?_⟩
            · rw [List.length_map, List.length_map, List.length_take]
              exact small1000 (by omega)
            · rw [upd_same, take_succ_at hz, List.map_append, List.map_append]
              rfl
          · obtain ⟨s18, hD2⟩ := g
            rw [List.length_map, List.take_length] at hD2
            have pi18 := pi17.same s18
            have pm18 := pm17.same s18
            have s1318 := s1317.trans s18
            have vp18 := vp13.same s1318
            have hD18 := s18 _ _ hD17
            have mvk : ∀ z ∈ zs.map mv, PyData.strOk z = true := fun z hz => by
              obtain ⟨y, hy, rfl⟩ := List.mem_map.mp hz
              exact (n3_ok _ (n3_ok y (inz y hy)).2.2.2).2.2.1
            -- both are as told
            refine ⟨_, rfl, _, rfl, _, rfl, _, rfl, p, dx, kp, v, D, ll, pins, t, b, zs, rfl, pi18, vp18, SqL.of hD18, by omega, by omega, zsk, pat, fun G19 s19 => ⟨_, rfl, if_neg' rfl ?_⟩⟩
            refine ⟨_, rfl, _, rfl, _, rfl, _, rfl, mq, dmq, kp, v, D2, ll, pins, t, b, zs.map mv, rfl, pm18.same s19, vp18.same s19, SqL.of (s19 _ _ hD2), by rw [List.length_map]; omega, by rw [List.length_map]; omega, mvk, pat, fun G20 s20 => ⟨_, rfl, if_neg' rfl ?_⟩⟩
            have s1320 := s1318.trans (s19.trans s20)
            have s1720 := s18.trans (s19.trans s20)
            have pi20 := pi18.same (s19.trans s20)
            have pc20 := pc17.same s1720
            have pt20 := pt17.same s1720
            have hD20 := (s19.trans s20) _ _ hD18
            have vp20 := vp18.same (s19.trans s20)
            have hl20 := s1320 _ _ hl13
            have z20 := s1320 _ _ z13
            have sG20 : Same G G20 := (sG12.trans s13).trans s1320
            clear pm18 pm17 hD2 s18 s19 s20 pi18 vp18 hD18 pi17 pc17 pt17 hD17 s17 s1317 pi16 e16 s16 pi15 pc15 pt15 s1315 s1318 s1720
            -- wrong maps
            refine ⟨by show 0 ≤ sizeLine; omega, fun L2 nL2 => ?_⟩
            have t1 := same_upd (o := .lst []) nL2
            have b1 : (upd G20 L2 (.lst [])) L2 = some (.lst []) := upd_same
            generalize upd G20 L2 (.lst []) = Ga at t1 b1 ⊢
            intro d1' nd1
            refine ⟨upd_same, [(.inr "n0", .str "")], rfl, by decide, ?_⟩
            rw [upd_upd]
            have t2 := same_upd (o := .dK (mergeK [] [(.inr "n0", .str "")])) nd1
            have b2 : (upd Ga d1' (.dK (mergeK [] [(.inr "n0", .str "")]))) d1' = some (.dK [(.inr "n0", .str "")]) := upd_same
            generalize upd Ga d1' (.dK (mergeK [] [(.inr "n0", .str "")])) = Gb at t2 b2 ⊢
            intro d2' nd2
            refine ⟨upd_same, [(.inr "n0", .non)], rfl, by decide, ?_⟩
            rw [upd_upd]
            have t3 := same_upd (o := .dK (mergeK [] [(.inr "n0", .non)])) nd2
            have b3' : (upd Gb d2' (.dK (mergeK [] [(.inr "n0", .non)]))) d2' = some (.dK [(.inr "n0", .non)]) := upd_same
            generalize upd Gb d2' (.dK (mergeK [] [(.inr "n0", .non)])) = Gc at t3 b3' ⊢
            refine ⟨by show 5 ≤ sizeLine; omega, fun L3 nL3 => ⟨_, rfl, ⟨_, SqL.of upd_same⟩, ?_⟩⟩
            have t4 := same_upd (o := .lst [.non, .ref L2, .str "n0", .ref d1', .ref d2']) nL3
            have eL3 : (upd Gc L3 (.lst [.non, .ref L2, .str "n0", .ref d1', .ref d2'])) L3 = some (.lst [.non, .ref L2, .str "n0", .ref d1', .ref d2']) := upd_same
            have c1 := (t2.trans (t3.trans t4)) _ _ b1
            have c2 := (t3.trans t4) _ _ b2
            have c3 := t4 _ _ b3'
            have ta := t1.trans (t2.trans (t3.trans t4))
            have pi21 := pi20.same ta
            generalize upd Gc L3 (.lst [.non, .ref L2, .str "n0", .ref d1', .ref d2']) = G21 at eL3 c1 c2 c3 ta pi21 ⊢
            have she : shB "" = true := by decide +kernel
            have its : ∀ w ∈ ([.non, .ref L2, .str "n0", .ref d1', .ref d2'] : List V), BadM G21 w ∧ DA w w G21 := fun w hw => by
              simp only [List.mem_cons, List.not_mem_nil, or_false] at hw
              rcases hw with rfl | rfl | rfl | rfl | rfl
              · exact ⟨.inl .non, da_av (H := G21) .non⟩
              · exact ⟨.inl (.lst c1), .inr ⟨rfl, _, rfl⟩⟩
              · exact ⟨.inl (.str _), da_av (H := G21) (.str _)⟩
              · exact ⟨.inr ⟨d1', _, rfl, c2, by decide, fun e he => by rw [List.mem_singleton.mp he]; exact ⟨.str _, she⟩, by decide +kernel⟩, .inr ⟨rfl, _, rfl⟩⟩
              · exact ⟨.inr ⟨d2', _, rfl, c3, by decide, fun e he => by rw [List.mem_singleton.mp he]; exact ⟨.non, trivial⟩, by decide +kernel⟩, .inr ⟨rfl, _, rfl⟩⟩
            refine for_it (walk_list (K := K) (a := L3) (xs := [.non, .ref L2, .str "n0", .ref d1', .ref d2'])) (fun n σ Gz => (∃ o o3 o8 o14, σ = [some (.ref a), some (.ref ka), o, o3, some (.ref l), some (.ref kp), some v, some (.ref D), o8, some (.ref p), some (.ref c), some (.ref tw), some (.ref mq), some (.ref D2), o14]) ∧ Same G21 Gz) ⟨⟨_, _, _, _, rfl⟩, Same.refl _⟩ (fun n σ Gz _ g => SqL.of (g.2 _ _ eL3)) (fun n w σ Gz G' hi g y => ?_) (fun σ Gz g => ?_)
            · obtain ⟨rfl, hx⟩ := y
              obtain ⟨⟨o, o3, o8, o14, rfl⟩, sg⟩ := g
              obtain ⟨bm, da⟩ := its w (List.mem_of_getElem? hx)
              have bmg : BadM G' w := by
                rcases bm with av | ⟨d, kvs, e, hd, h1, h2, h3⟩
                · exact .inl (av.same sg)
                · exact .inr ⟨d, kvs, e, sg _ _ hd, h1, fun x hx => ⟨(h2 x hx).1.same sg, (h2 x hx).2⟩, h3⟩
              refine ⟨_, rfl, _, rfl, 5, .ref p, w, rfl, .inr (.inr (.inr (.inr (.inr (.inr (.inr (.inr ⟨⟨rfl, ⟨p, dx, kp, ll, pins, t, b, zs, rfl, pi21.same sg⟩, bmg⟩, fun r Gd sa hra => ⟨_, rfl, by show 2 ≤ sizeLine; omega, fun q nq => ?_⟩⟩)))))))⟩
              have sq := same_upd (o := .lst [.str "pins", w]) nq
              exact ref2 da (sg.trans (sa.trans sq)) (fun G'' s' => ⟨_, rfl, if_neg' rfl ⟨⟨_, _, _, _, rfl⟩, sg.trans (sa.trans (sq.trans s'))⟩⟩) _ _ (sq _ _ hra) upd_same
            · obtain ⟨⟨o, o3, o8, o14, rfl⟩, sz⟩ := g
              have s2022 := ta.trans sz
              have pi22 := pi20.same s2022
              have pc22 := pc20.same s2022
              have pt22 := pt20.same s2022
              have hD22 := s2022 _ _ hD20
              have vp22 := vp20.same s2022
              have hl22 := s2022 _ _ hl20
              have z22 := s2022 _ _ z20
              have sG22 := sG20.trans s2022
              clear its eL3 c1 c2 c3 ta pi21 t1 b1 t2 b2 t3 b3' t4
              -- set anew
              refine ⟨_, rfl, _, rfl, _, rfl, _, rfl, _, rfl, l, p, dx, kp, v, D, ll, pins, t, b, zs, rfl, ⟨_, _, hl22⟩, pi22, hpm, hD22, zsk, fun G23 t' b' ms W23 pi23 three msk => ⟨_, rfl, if_neg' rfl ?_⟩⟩
              have pc23 := pc22.s2 W23 hl22 z22 (pf_line _ _ _) (pf_top _ _ _) ncp
              have pt23 := pt22.s2 W23 hl22 z22 (pf_line _ _ _) (pf_top _ _ _) ntp
              have vp23 : R5r.Vp CR G23 v t b := ⟨num_s2 vp22.1 W23 hl22 z22 (pf_top _ _ _), vp22.2⟩
              have hD23 : G23 D = some (.lst (zs.map V.str)) := W23.sx D _ (fun z => by rw [z, hl22] at hD22; exact no_strs _ _ (Option.some.inj hD22).symm) (fun z => by rw [z, z22] at hD22; cases hD22) hD22
              have sG23 : Same G G23 := W23.ofN sG22 nl (Same.none (sG12.trans (Same.refl _)) hpn)
              obtain ⟨vpc, npc, zc, _⟩ := id pc23.ex
              obtain ⟨vpt, npt, zt, _⟩ := id pt23.ex
              obtain ⟨vpp, npp, zp, _⟩ := id pi23.ex
              -- the copy is as its twin
              refine ⟨_, rfl, _, rfl, c, dc, _, rfl, zc, .inl ⟨tw, dtw, _, rfl, zt⟩, c, dc, kp, ll, pins, t, b, zs, .ref tw, rfl, pc23, .inl ⟨tw, dtw, t, b, zs, rfl, pt23, zsk, zsk, _, rfl, _, rfl, if_neg' (by rw [decide_eq_true (rfl : t = t), decide_eq_true (rfl : b = b), decide_eq_true (rfl : zs = zs)]; rfl) ?_⟩⟩
              refine ⟨_, rfl, _, rfl, _, rfl, _, rfl, c, dc, kp, v, D, ll, pins, t, b, zs, rfl, pc23, vp23, SqL.of hD23, by omega, by omega, zsk, pat, fun G24 s24 => ⟨_, rfl, if_neg' rfl ?_⟩⟩
              have zc24 := s24 _ _ zc
              have zp24 := s24 _ _ zp
              have pc24 := pc23.same s24
              have pi24 := pi23.same s24
              have hk24 := (sG23.trans s24) _ _ hkc
              -- nothing else is as it
              refine ⟨_, rfl, _, rfl, p, dx, _, rfl, zp24, .inl ⟨c, dc, _, rfl, zc24⟩, p, dx, kp, ll, pins, t', b', ms, .ref c, rfl, pi24, .inl ⟨c, dc, t, b, zs, rfl, pc24, msk, zsk, _, rfl, if_neg' (by rw [two_three two three]; rfl) ?_⟩⟩
              refine ⟨_, rfl, p, dx, _, rfl, zp24, .inr (.inl ⟨_, rfl⟩), p, dx, kp, ll, pins, t', b', ms, _, rfl, pi24, .inr ⟨.inl ⟨_, rfl⟩, _, rfl, if_neg' rfl ?_⟩⟩
              refine ⟨_, rfl, _, rfl, c, dc, _, rfl, zc24, .inr (.inr ⟨kp, Ck, dkk, fsk, rfl, hk24, kcF⟩), c, dc, kp, ll, pins, t, b, zs, _, rfl, pc24, .inr ⟨.inr ⟨kp, Ck, dkk, fsk, rfl, hk24, kcn, kcP⟩, _, rfl, if_neg' rfl ?_⟩⟩
              refine ⟨_, rfl, _, rfl, _, rfl, kp, .int 9, D, ll, pins, 9, 1, zs, rfl, kvG.same (sG23.trans s24), vI _ 9 (.inr rfl), SqL.of (s24 _ _ hD23), lz, by omega, by omega, zok, fun pz dz G25 s25 hz pz25 => ?_⟩
              obtain ⟨vpz, npz, zz, _⟩ := id pz25.ex
              refine ⟨c, dc, _, rfl, s25 _ _ zc24, .inl ⟨pz, dz, _, rfl, zz⟩, c, dc, kp, ll, pins, t, b, zs, .ref pz, rfl, pc24.same s25, .inl ⟨pz, dz, 9, 1, zs, rfl, pz25, zsk, zsk, _, rfl, if_neg' (by rw [two_nine two]; rfl) ?_⟩⟩
              exact ⟨⟨_, _, _, _, _, _, _, _, _, _, _, _, _, rfl⟩, sG.trans ((sG23.trans s24).trans s25)⟩
      · exact fin _ (S6.trans sG)
end
end R5
end

-- L59
section
set_option Elab.async false
set_option linter.all false
set_option maxRecDepth 100000
set_option maxHeartbeats 0
namespace R5
open PySem PySem.Spec PyProof.Rows L2 He HdB HdS OwnOps SupX OwnNe G1 StX GenFor GenS
section
variable {P : Program} {w : World} {K : PySem.W.Frag} {mg : Str → Option Value} {base : Heap} {CX : CXT} {k : Nat} {f : Addr} {fd : FuncData} {ps : List Str} {sp : Sp}
theorem fnR_of (F : FnOk P w K mg base CX k f fd ps sp) (hb : L2.Binds K fd ps []) : FnR P w K mg base CX k f sp := fun A outer s H us vs Q E hr e0 r hs => by
  have KX : K.In s.heap := e0.mod.kin.keeps fun b o e => (e0.bs b o e).1
  have len : (us ++ []).length = ps.length := by
    rw [List.append_nil]
    exact r.length.symm.trans (F.len _ _ _ _ hs)
  have b := hb s us KX len
  rw [List.append_nil] at b
  exact F.run A outer s H ⟨us, []⟩ us vs Q E hr e0 b r hs
theorem KB.kc {C DK tp gE CP f gK DX : Addr} {d : Bool} (b : KB K C DK tp gE CP f gK DX d) : KCls K C := ⟨⟨b.pg, b.hd, b.po, b.sa⟩, b.n1, b.n2, b.n3, b.n4, b.n5, b.n6, b.n7, b.n8⟩
theorem KB.mk_ {C DK tp gE CP f gK DX : Addr} {d : Bool} (b : KB K C DK tp gE CP f gK DX d) : Mk K C f := ⟨b.mks, b.ini, b.fi, b.kp⟩
theorem con_of {C : Addr} {d : Bool} (e : PySem.W.findIn K (.ref C) "DIRECTED" = some (some (.bool d))) (ht : PySem.W.specialIn K (.bool true) "__get__" = some none) (hf : PySem.W.specialIn K (.bool false) "__get__" = some none) : ∃ u, Con K C "DIRECTED" (.bl d) u :=
  ⟨.bool d, e, rfl, by cases d <;> assumption, by decide +kernel⟩
theorem glbD {x : Str} {st : Stmt} {h : Heap} (X : K.In h) (G : h.Ns mainGlobals mg) (e : PySem.W.nsIn K mainGlobals x = some (some (.ref f))) (F : ∃ fd, Fun K x x st f fd) (ok : ∀ fd, Fun K x x st f fd → FnOk P w K mg base (L2.CX P w) k f fd ps sp)
    (b : ∀ fd, Fun K x x st f fd → L2.Binds K fd ps []) : Glb P w K mg base x k ps sp :=
  let ⟨fd, F⟩ := F
  ⟨f, fd, PySem.W.mg_of X G e, F.kp, ok fd F, b fd F⟩
theorem dunD {C : Addr} {nm x q : Str} {st : Stmt} (hn : nm = x) (e : PySem.W.findIn K (.ref C) x = some (some (.ref f)) ∧ PySem.W.isFn K (.ref f) = true ∧ PySem.W.keepIn K (.ref f) = true) (F : ∃ fd, Fun K x q st f fd) (ok : ∀ fd, Fun K x q st f fd → FnOk P w K mg base (L2.CX P w) k f fd ps sp)
    (b : ∀ fd, Fun K x q st f fd → L2.Binds K fd ps []) : R5r.Dun P w K mg base C nm k ps sp := by
  subst hn
  obtain ⟨fd, F⟩ := F
  exact ⟨f, fd, e.1, e.2.1, e.2.2, ok fd F, b fd F⟩
theorem empty_tup {a : Addr} (h : (match K.lookup a with | some ⟨.type "tuple", _, .seq its _, _⟩ => its.size == 0 | _ => false) = true) (H : Hp) : SqT K H a [] := by
  cases q : K.lookup a with
  | none => rw [q] at h; cases h
  | some ob =>
    obtain ⟨cl, dd, dt, sl⟩ := ob
    rw [q] at h
    split at h
    · rename_i its n sl2 e
      cases e
      have hz : its.size = 0 := beq_iff_eq.mp h
      have he : its = #[] := Array.eq_empty_of_size_eq_zero hz
      subst he
      exact .inr ⟨_, #[], _, q, rfl, rfl, Nat.zero_le _, .nil⟩
    · cases h
end
set_option maxHeartbeats 0 in
theorem ends {w : World} {K : PySem.W.Frag} {h : Heap} {mg : Str → Option Value} {fa : Addr} (X : K.In h) (G : h.Ns mainGlobals mg) (hfa : mg "law" = some (.ref fa)) (c : SaysS ck fn sn pn K) :
    ∃ fd : FuncData, (∀ (s : Shared) (v : Value), BindsTo s fd ⟨[v], []⟩ [("_law_script", v)]) ∧ ∀ base : Heap, K.In base → base.Ns mainGlobals mg → FnGd.FnG (PySem.Challenge.rw_wishedwires_k05_parts_kept).prog w K mg base (L2.CX (PySem.Challenge.rw_wishedwires_k05_parts_kept).prog w) 12 fa fd ["_law_script"] (spLaw K) := by
  have e := hfa.symm.trans (PySem.W.mg_of X G (c.b.isP 126 (p := Fc126)))
  cases e
  obtain ⟨fdL, FL⟩ : ∃ fd, Fun K "law" "law" sLaw (gaX K "law") fd := funOf (c.b.def_ 21)
  refine ⟨fdL, fun s v => ?_, fun base KX KG => ?_⟩
  · obtain ⟨oc, od, kV, doc, pm, an, cdv, ct, osl, rfl, _, _⟩ := FL.ex
    exact .of_eq rfl
  have T : Bi mg := { isi := PySem.W.mg_none_of KX KG (c.b.isP 127 (p := Fc127)), int := PySem.W.mg_none_of KX KG (c.b.isP 128 (p := Fc128)), str := PySem.W.mg_none_of KX KG (c.b.isP 129 (p := Fc129)), len := PySem.W.mg_none_of KX KG (c.b.isP 130 (p := Fc130)), all := PySem.W.mg_none_of KX KG (c.b.isP 131 (p := Fc131)), set := PySem.W.mg_none_of KX KG (c.b.isP 132 (p := Fc132)), tuple := PySem.W.mg_none_of KX KG (c.b.isP 133 (p := Fc133)), list := PySem.W.mg_none_of KX KG (c.b.isP 134 (p := Fc134)), dict := PySem.W.mg_none_of KX KG (c.b.isP 135 (p := Fc135)), min := PySem.W.mg_none_of KX KG (c.b.isP 136 (p := Fc136)), max := PySem.W.mg_none_of KX KG (c.b.isP 137 (p := Fc137)), range := PySem.W.mg_none_of KX KG (c.b.isP 138 (p := Fc138)), enum := PySem.W.mg_none_of KX KG (c.b.isP 139 (p := Fc139)), zip := PySem.W.mg_none_of KX KG (c.b.isP 140 (p := Fc140)), sorted := PySem.W.mg_none_of KX KG (c.b.isP 141 (p := Fc141)), sup := PySem.W.mg_none_of KX KG (c.b.isP 142 (p := Fc142)) }
  have Nm : Nums mg := ⟨int_ok KX KG (c.b.isP 40 (p := Fc40)), int_ok KX KG (c.b.isP 41 (p := Fc41)), int_ok KX KG (c.b.isP 42 (p := Fc42))⟩
  have Nm2 : Nums2 mg := ⟨int_ok KX KG (c.b.isP 43 (p := Fc43))⟩
  have eK := ErrB.txt (c.b.isP 88 (p := Fc88)) (c.b.def_ 38) mg (PySem.W.mg_of KX KG (c.b.isP 88 (p := Fc88)).here)
  have eN := ErrB.txt (c.b.isP 89 (p := Fc89)) (c.b.def_ 39) mg (PySem.W.mg_of KX KG (c.b.isP 89 (p := Fc89)).here)
  have eP := ErrB.txt (c.b.isP 90 (p := Fc90)) (c.b.def_ 40) mg (PySem.W.mg_of KX KG (c.b.isP 90 (p := Fc90)).here)
  have eV := ErrB.txt (c.b.isP 91 (p := Fc91)) (c.b.def_ 41) mg (PySem.W.mg_of KX KG (c.b.isP 91 (p := Fc91)).here)
  have eU := ErrB.txt (c.b.isP 93 (p := Fc93)) (c.b.def_ 43) mg (PySem.W.mg_of KX KG (c.b.isP 93 (p := Fc93)).here)
  have eI := ErrB.txt (c.b.isP 92 (p := Fc92)) (c.b.def_ 42) mg (PySem.W.mg_of KX KG (c.b.isP 92 (p := Fc92)).here)
  have eZ := ErrB.txt (c.b.isP 94 (p := Fc94)) (c.b.def_ 44) mg (PySem.W.mg_of KX KG (c.b.isP 94 (p := Fc94)).here)
  have U : RTxt K mg (gaX K "ValueRule") (gaX K "InvalidKind") _ := { cl := (c.b.isP 33 (p := Fc33)), nW := (c.b.isP 34 (p := Fc34)), gD := PySem.W.mg_of KX KG (c.b.isP 13 (p := Fc13)), eK := eK, ha := (c.b.isP 35 (p := Fc35)), hn := (c.b.isP 19 (p := Fc19)), htk := (c.b.isP 20 (p := Fc20)), hm := (c.b.isP 36 (p := Fc36)), kDD := (c.b.isP 37 (p := Fc37)), ksD := (c.b.isP 38 (p := Fc38)) "str" (by simp) }
  have TR : R5r.Txt K mg (gaX K "Ratio") (gaX K "InvalidNumber") _ (gaX K "NoDivision") _ := { cl := (c.b.isP 45 (p := Fc45)), nT := (c.b.isP 46 (p := Fc46)), nB := (c.b.isP 47 (p := Fc47)), gC := (PySem.W.mg_of KX KG (c.b.isP 14 (p := Fc14))), eI := eI, eZ := eZ, ha := (c.b.isP 48 (p := Fc48)), hn := (c.b.isP 19 (p := Fc19)), htk := (c.b.isP 20 (p := Fc20)), hm := (c.b.isP 49 (p := Fc49)), kCC := (c.b.isP 54 (p := Fc54)), kCi := (c.b.isP 55 (p := Fc55)), kiC := (c.b.isP 53 (p := Fc53)) "int" (by simp), kbC := (c.b.isP 53 (p := Fc53)) "bool" (by simp), knC := (c.b.isP 53 (p := Fc53)) "NoneType" (by simp), ksC := (c.b.isP 53 (p := Fc53)) "str" (by simp), klC := (c.b.isP 53 (p := Fc53)) "list" (by simp), ktC := (c.b.isP 53 (p := Fc53)) "tuple" (by simp), isi := PySem.W.mg_none_of KX KG (c.b.isP 127 (p := Fc127)), int := PySem.W.mg_none_of KX KG (c.b.isP 128 (p := Fc128)), bool := PySem.W.mg_none_of KX KG (c.b.isP 143 (p := Fc143)), abs := PySem.W.mg_none_of KX KG (c.b.isP 144 (p := Fc144)), str := PySem.W.mg_none_of KX KG (c.b.isP 129 (p := Fc129)), repr := PySem.W.mg_none_of KX KG (c.b.isP 145 (p := Fc145)), gcd := (PySem.W.mg_of KX KG (c.b.isP 58 (p := Fc58))) }
  have ZR : R5r.Tys K (gaX K "Ratio") := ⟨(c.b.isP 51 (p := Fc51)), (c.b.isP 52 (p := Fc52)), (c.b.isP 56 (p := Fc56)) "int" (by simp), (c.b.isP 56 (p := Fc56)) "bool" (by simp), (c.b.isP 56 (p := Fc56)) "NoneType" (by simp), (c.b.isP 56 (p := Fc56)) "str" (by simp), (c.b.isP 56 (p := Fc56)) "list" (by simp), (c.b.isP 56 (p := Fc56)) "tuple" (by simp), (c.b.isP 57 (p := Fc57))⟩
  have GWh : Glb (PySem.Challenge.rw_wishedwires_k05_parts_kept).prog w K mg base "is_whole" 1 ["value"] (R5r.spWhole (gaX K "Ratio")) := glbD (st := top 5) KX KG (c.b.isP 105 (p := Fc105)) (funOf (c.b.def_ 0)) (fun fd F => R5r.ok_whole F TR) (fun fd F => F.binds (ps := ["value"]) fun _ _ _ _ _ _ us hl => match us, hl with | [_], _ => rfl)
  obtain ⟨fdRi, FRi⟩ : ∃ fd, R5r.InitD K (maX K "Ratio" "__init__") fd := (c.b.def_ 45)
  obtain ⟨rm1, rm2, rm3, rm4⟩ := (c.b.isP 50 (p := Fc50))
  have MR : R5r.Mak (PySem.Challenge.rw_wishedwires_k05_parts_kept).prog w K mg base (gaX K "Ratio") (gaX K "InvalidNumber") (gaX K "NoDivision") := by
    obtain ⟨fW, fdW, mW, kW, okW, bW⟩ := GWh.ex
    obtain ⟨ds3, v3, b3⟩ := FRi.binds1 (ps := ["self", "top", "bottom"]) 3 1 (by simp) rfl fun _ _ _ _ _ _ _ us its hu hi => match us, its, hu, hi with | [_, _, _], [_], _, _ => ⟨_, rfl, rfl⟩
    obtain ⟨ds2, v2, b2⟩ := FRi.binds1 (ps := ["self", "top", "bottom"]) 2 0 (by simp) rfl fun _ _ _ _ _ _ _ us its hu hi => match us, its, hu, hi with | [_, _], [_], _, _ => ⟨_, rfl, rfl⟩
    cases v3
    exact ⟨_, fdRi, ds2, ⟨rm1, rm3, rm4, rm2⟩, R5r.ok_init FRi TR okW mW kW bW, b3, v2, b2⟩
  have EQr : R5r.Dun (PySem.Challenge.rw_wishedwires_k05_parts_kept).prog w K mg base (gaX K "Ratio") (cmpInfo .Eq).2.1 2 ["self", "other"] (R5r.spEq (gaX K "Ratio") false) := dunD (st := R5r.sRat 11) rfl (c.b.isP 59 (p := Fc59)) (funOf (c.b.def_ 25)) (fun fd F => R5r.ok_eq F TR GWh) (fun fd F => F.binds (ps := ["self", "other"]) fun _ _ _ _ _ _ us hl => match us, hl with | [_, _], _ => rfl)
  have NEr : R5r.Dun (PySem.Challenge.rw_wishedwires_k05_parts_kept).prog w K mg base (gaX K "Ratio") (cmpInfo .NotEq).2.1 3 ["self", "other"] (R5r.spEq (gaX K "Ratio") true) := dunD (st := R5r.sRat 12) rfl (c.b.isP 60 (p := Fc60)) (funOf (c.b.def_ 26)) (fun fd F => R5r.ok_ne F ZR EQr) (fun fd F => F.binds (ps := ["self", "other"]) fun _ _ _ _ _ _ us hl => match us, hl with | [_, _], _ => rfl)
  have GV : Glb (PySem.Challenge.rw_wishedwires_k05_parts_kept).prog w K mg base "value_of" 5 ["value"] (R5r.spVal (gaX K "Ratio") (gaX K "NotPositive")) := glbD (st := top 22) KX KG (c.b.isP 111 (p := Fc111)) (funOf (c.b.def_ 6)) (fun fd F => R5r.ok_val F TR MR eV GWh) (fun fd F => F.binds (ps := ["value"]) fun _ _ _ _ _ _ us hl => match us, hl with | [_], _ => rfl)
  have GW : Glb (PySem.Challenge.rw_wishedwires_k05_parts_kept).prog w K mg base "is_word" 1 ["value"] (spWord) := glbD (st := top 6) KX KG (c.b.isP 106 (p := Fc106)) (funOf (c.b.def_ 1)) (fun fd F => ok_word F T Nm) (fun fd F => F.binds (ps := ["value"]) fun _ _ _ _ _ _ us hl => match us, hl with | [_], _ => rfl)
  have GNa : Glb (PySem.Challenge.rw_wishedwires_k05_parts_kept).prog w K mg base "is_name" 2 ["value"] (spName) := glbD (st := top 7) KX KG (c.b.isP 107 (p := Fc107)) (funOf (c.b.def_ 2)) (fun fd F => ok_name F T Nm2 GW) (fun fd F => F.binds (ps := ["value"]) fun _ _ _ _ _ _ us hl => match us, hl with | [_], _ => rfl)
  have GNs : Glb (PySem.Challenge.rw_wishedwires_k05_parts_kept).prog w K mg base "are_names" 3 ["values", "many"] (spNames) := glbD (st := top 9) KX KG (c.b.isP 109 (p := Fc109)) (funOf (c.b.def_ 4)) (fun fd F => ok_names F T GNa) (fun fd F => F.binds (ps := ["values", "many"]) fun _ _ _ _ _ _ us hl => match us, hl with | [_, _], _ => rfl)
  have GNm : Glb (PySem.Challenge.rw_wishedwires_k05_parts_kept).prog w K mg base "is_net_map" 3 ["nets"] (spNetM) := glbD (st := top 10) KX KG (c.b.isP 110 (p := Fc110)) (funOf (c.b.def_ 5)) (fun fd F => ok_netm F T GNa) (fun fd F => F.binds (ps := ["nets"]) fun _ _ _ _ _ _ us hl => match us, hl with | [_], _ => rfl)
  have GDi : Glb (PySem.Challenge.rw_wishedwires_k05_parts_kept).prog w K mg base "are_different_words" 2 ["values"] (spDiff K) := glbD (st := top 8) KX KG (c.b.isP 108 (p := Fc108)) (funOf (c.b.def_ 3)) (fun fd F => ok_diff F T GW) (fun fd F => F.binds (ps := ["values"]) fun _ _ _ _ _ _ us hl => match us, hl with | [_], _ => rfl)
  have GWr : Glb (PySem.Challenge.rw_wishedwires_k05_parts_kept).prog w K mg base "_worded" 1 ["words", "tail"] (spWrd K) := glbD (st := top 41) KX KG (c.b.isP 117 (p := Fc117)) (funOf (c.b.def_ 12)) (fun fd F => ok_wrd F) (fun fd F => F.binds (ps := ["words", "tail"]) fun _ _ _ _ _ _ us hl => match us, hl with | [_, _], _ => rfl)
  have GPl : Glb (PySem.Challenge.rw_wishedwires_k05_parts_kept).prog w K mg base "_path_line" 2 ["kind", "rules"] (spPL K (gaX K "ValueRule")) := glbD (st := top 40) KX KG (c.b.isP 116 (p := Fc116)) (funOf (c.b.def_ 11)) (fun fd F => ok_pl F T U GWr) (fun fd F => F.binds (ps := ["kind", "rules"]) fun _ _ _ _ _ _ us hl => match us, hl with | [_, _], _ => rfl)
  obtain ⟨fdK, FK⟩ : ∃ fd, Fun K "__init__" "Kind.__init__" (sKi 1) (maX K "Kind" "__init__") fd := funOf (c.b.def_ 23)
  have okK : FnOk (PySem.Challenge.rw_wishedwires_k05_parts_kept).prog w K mg base (L2.CX (PySem.Challenge.rw_wishedwires_k05_parts_kept).prog w) 3 (maX K "Kind" "__init__") fdK ["self", "name"] (spKI K (gaX K "InvalidName")) := ok_ki FK eN GW
  have GKR := fnR_of okK (FK.binds (ps := ["self", "name"]) fun _ _ _ _ _ _ us hl => match us, hl with | [_, _], _ => rfl)
  obtain ⟨fdV, FV⟩ : ∃ fd, Fun K "__init__" "ValueRule.__init__" (sVR 0) (maX K "ValueRule" "__init__") fd := funOf (c.b.def_ 22)
  have okV : FnOk (PySem.Challenge.rw_wishedwires_k05_parts_kept).prog w K mg base (L2.CX (PySem.Challenge.rw_wishedwires_k05_parts_kept).prog w) 4 (maX K "ValueRule" "__init__") fdV ["self", "word"] (spVI (gaX K "ValueRule") (gaX K "InvalidKind")) := ok_vi FV U
  have bV := (FV.binds (ps := ["self", "word"]) fun _ _ _ _ _ _ us hl => match us, hl with | [_, _], _ => rfl)
  obtain ⟨vm1, vm2, vm3, vm4⟩ := (c.b.isP 39 (p := Fc39))
  have mkV : Mk K (gaX K "ValueRule") (maX K "ValueRule" "__init__") := ⟨vm1, vm3, vm4, vm2⟩
  have GAs : Glb (PySem.Challenge.rw_wishedwires_k05_parts_kept).prog w K mg base "_as_rule" 6 ["value"] (spAsR (gaX K "ValueRule") (gaX K "InvalidKind")) := glbD (st := top 36) KX KG (c.b.isP 112 (p := Fc112)) (funOf (c.b.def_ 7)) (fun fd F => ok_asr F T U ⟨_, _, mkV, okV, bV⟩ (c.b.isP 38 (p := Fc38))) (fun fd F => F.binds (ps := ["value"]) fun _ _ _ _ _ _ us hl => match us, hl with | [_], _ => rfl)
  have GGr : Glb (PySem.Challenge.rw_wishedwires_k05_parts_kept).prog w K mg base "_are_groups" 3 ["swaps", "pins"] (spGrp K) := glbD (st := top 37) KX KG (c.b.isP 113 (p := Fc113)) (funOf (c.b.def_ 8)) (fun fd F => ok_grp F T GDi) (fun fd F => F.binds (ps := ["swaps", "pins"]) fun _ _ _ _ _ _ us hl => match us, hl with | [_, _], _ => rfl)
  have GMa : Glb (PySem.Challenge.rw_wishedwires_k05_parts_kept).prog w K mg base "_mates" 3 ["pin", "pins", "groups"] (spMat K) := glbD (st := top 38) KX KG (c.b.isP 114 (p := Fc114)) (funOf (c.b.def_ 9)) (fun fd F => ok_mat F T) (fun fd F => F.binds (ps := ["pin", "pins", "groups"]) fun _ _ _ _ _ _ us hl => match us, hl with | [_, _, _], _ => rfl)
  have GOr : Glb (PySem.Challenge.rw_wishedwires_k05_parts_kept).prog w K mg base "_orders" 3 ["choices"] (spOrd) := glbD (st := top 39) KX KG (c.b.isP 115 (p := Fc115)) (funOf (c.b.def_ 10)) (fun fd F => ok_ord F T) (fun fd F => F.binds (ps := ["choices"]) fun _ _ _ _ _ _ us hl => match us, hl with | [_], _ => rfl)
  have SG : SupG K (PySem.Challenge.rw_wishedwires_k05_parts_kept).prog := ⟨(c.b.isP 28 (p := Fc28)), (c.b.isP 29 (p := Fc29)), by kernel_rfl⟩
  have SDI : SDef K (PySem.Challenge.rw_wishedwires_k05_parts_kept).prog "PinKind.__init__" (sPin 0) [(("swaps" : Str), V.ref (kwAd K (maX K "PinKind" "__init__") "swaps"))] (maX K "PinKind" "__init__") (gaX K "PinKind") := by
    obtain ⟨oc, od, kV, doc, pm, an, cda, ct, cc, osl, l1, l2, l3, ⟨cl, od2, vs, sl, file, tf, e1, e2, e3⟩, l5⟩ := c.sdef 0
    exact ⟨⟨oc, od, kV, doc, pm, an, cda, ct, cc, osl, l1, l2, l3, ⟨cl, od2, vs, sl, file, tf, e1, e2, beq_iff_eq.mpr e3.symm⟩, l5⟩, (c.b.isP 30 (p := Fc30))⟩
  have SDP : SDef K (PySem.Challenge.rw_wishedwires_k05_parts_kept).prog "PathKind.__init__" (sPath 0) [] (maX K "PathKind" "__init__") (gaX K "PathKind") := by
    obtain ⟨oc, od, kV, doc, pm, an, cda, ct, cc, osl, l1, l2, l3, ⟨cl, od2, vs, sl, file, tf, e1, e2, e3⟩, l5⟩ := c.sdef 1
    exact ⟨⟨oc, od, kV, doc, pm, an, cda, ct, cc, osl, l1, l2, l3, ⟨cl, od2, vs, sl, file, tf, e1, e2, beq_iff_eq.mpr e3.symm⟩, l5⟩, (c.b.isP 31 (p := Fc31))⟩
  have SDJ : SDef K (PySem.Challenge.rw_wishedwires_k05_parts_kept).prog "JoiningKind.__init__" (sJoi 0) [(("row" : Str), V.non), (("side" : Str), V.non)] (maX K "JoiningKind" "__init__") (gaX K "JoiningKind") := by
    obtain ⟨oc, od, kV, doc, pm, an, cda, ct, cc, osl, l1, l2, l3, ⟨cl, od2, vs, sl, file, tf, e1, e2, e3⟩, l5⟩ := c.sdef 2
    exact ⟨⟨oc, od, kV, doc, pm, an, cda, ct, cc, osl, l1, l2, l3, ⟨cl, od2, vs, sl, file, tf, e1, e2, beq_iff_eq.mpr e3.symm⟩, l5⟩, (c.b.isP 32 (p := Fc32))⟩
  obtain ⟨tK1, tK2⟩ := (c.b.isP 26 (p := Fc26))
  obtain ⟨tP1, tP2⟩ := (c.b.isP 27 (p := Fc27))
  have FPa : FnA (PySem.Challenge.rw_wishedwires_k05_parts_kept).prog w K mg base (L2.CX (PySem.Challenge.rw_wishedwires_k05_parts_kept).prog w) 5 (maX K "PathKind" "__init__") (saPath K (gaX K "InvalidName") (gaX K "InvalidKind") (gaX K "PathKind") (maX K "Kind" "__init__")) := ok_path SDP SG T Nm U GKR tK1 tK2 GDi GPl
  have FPR := (ok_path SDP SG T Nm U GKR tK1 tK2 GDi GPl).pos
  have FJo : FnA (PySem.Challenge.rw_wishedwires_k05_parts_kept).prog w K mg base (L2.CX (PySem.Challenge.rw_wishedwires_k05_parts_kept).prog w) 7 (maX K "JoiningKind" "__init__") (saJoi K (gaX K "ValueRule") (gaX K "InvalidKind") (gaX K "PathKind") (gaX K "JoiningKind") (maX K "Kind" "__init__") (maX K "PathKind" "__init__")) := ok_joi SDJ SG T U (FPR.imp fun vs H Q E ⟨a, b, rest, e1, e2, e3⟩ => ⟨a, b, rest, e1, rfl, e2, e3⟩) tP1 tP2 GAs GPl
  have FIn : FnA (PySem.Challenge.rw_wishedwires_k05_parts_kept).prog w K mg base (L2.CX (PySem.Challenge.rw_wishedwires_k05_parts_kept).prog w) 6 (maX K "PinKind" "__init__") (saPin K (gaX K "InvalidName") (gaX K "InvalidKind") (gaX K "PinKind") (maX K "Kind" "__init__") (kwAd K (maX K "PinKind" "__init__") "swaps")) := ok_pin SDI SG T Nm U GKR tK1 tK2 GDi GGr GMa GOr GWr
  have pr : ∀ C, PySem.W.findIn K (.ref C) "text" = some (some (.ref (maX K "Kind" "text"))) → PropOf K C "text" (maX K "Kind" "text") (pgX K "Kind" "text") := fun C e => ⟨e, (c.b.isP 16 (p := Fc16)), (c.b.isP 17 (p := Fc17)), recB_ok (c.b.isP 18 (p := Fc18))⟩
  obtain ⟨fdT, FT⟩ : ∃ fd, Fun K "text" "Kind.text" (sKi 4) (pgX K "Kind" "text") fd := funOf (c.pdef 0)
  have okT : FnOk (PySem.Challenge.rw_wishedwires_k05_parts_kept).prog w K mg base (L2.CX (PySem.Challenge.rw_wishedwires_k05_parts_kept).prog w) 1 (pgX K "Kind" "text") fdT ["self"] (spText K (gaX K "Kind") (maX K "Kind" "text") (pgX K "Kind" "text")) := ok_text FT
  have bT := (FT.binds (ps := ["self"]) fun _ _ _ _ _ _ us hl => match us, hl with | [_], _ => rfl)
  have KT : KndT K mg (gaX K "Kind") := ⟨PySem.W.mg_of KX KG (c.b.isP 12 (p := Fc12)), (c.b.isP 19 (p := Fc19)), (c.b.isP 20 (p := Fc20)), (c.b.isP 21 (p := Fc21)) "str" (by simp)⟩
  obtain ⟨fdE, FE⟩ : ∃ fd, Fun K "__eq__" "Kind.__eq__" (sKi 5) (maX K "Kind" "__eq__") fd := funOf (c.b.def_ 24)
  have okE : FnOk (PySem.Challenge.rw_wishedwires_k05_parts_kept).prog w K mg base (L2.CX (PySem.Challenge.rw_wishedwires_k05_parts_kept).prog w) 3 (maX K "Kind" "__eq__") fdE ["self", "other"] (spKEq K (gaX K "Kind") (maX K "Kind" "text") (pgX K "Kind" "text")) := ok_keq (ft := (pgX K "Kind" "text")) FE T KT okT bT
  have bE := (FE.binds (ps := ["self", "other"]) fun _ _ _ _ _ _ us hl => match us, hl with | [_, _], _ => rfl)
  have b0 := (c.b.isP 0 (p := Fc0))
  have kn0 : KndC K (gaX K "Kind") (maX K "Kind" "text") (pgX K "Kind" "text") (gaX K "PinKind") := ⟨b0.kc, pr _ b0.tx, b0.ha, b0.hm, b0.kK⟩
  have co0 := con_of b0.co (c.b.isP 22 (p := Fc22)) (c.b.isP 23 (p := Fc23))
  have q0 : KCl K (gaX K "Kind") (maX K "Kind" "text") (pgX K "Kind" "text") (gaX K "Part") (gaX K "PinKind") := ⟨kn0, ⟨b0.eq.trans (c.b.isP 25 (p := Fc25)).symm, b0.ne, b0.nf, b0.hm⟩, b0.kP, b0.nP⟩
  have b1 := (c.b.isP 2 (p := Fc2))
  have kn1 : KndC K (gaX K "Kind") (maX K "Kind" "text") (pgX K "Kind" "text") (gaX K "PathKind") := ⟨b1.kc, pr _ b1.tx, b1.ha, b1.hm, b1.kK⟩
  have co1 := con_of b1.co (c.b.isP 22 (p := Fc22)) (c.b.isP 23 (p := Fc23))
  have q1 : KCl K (gaX K "Kind") (maX K "Kind" "text") (pgX K "Kind" "text") (gaX K "Part") (gaX K "PathKind") := ⟨kn1, ⟨b1.eq.trans (c.b.isP 25 (p := Fc25)).symm, b1.ne, b1.nf, b1.hm⟩, b1.kP, b1.nP⟩
  have b2 := (c.b.isP 4 (p := Fc4))
  have kn2 : KndC K (gaX K "Kind") (maX K "Kind" "text") (pgX K "Kind" "text") (gaX K "DirectedKind") := ⟨b2.kc, pr _ b2.tx, b2.ha, b2.hm, b2.kK⟩
  have co2 := con_of b2.co (c.b.isP 22 (p := Fc22)) (c.b.isP 23 (p := Fc23))
  have q2 : KCl K (gaX K "Kind") (maX K "Kind" "text") (pgX K "Kind" "text") (gaX K "Part") (gaX K "DirectedKind") := ⟨kn2, ⟨b2.eq.trans (c.b.isP 25 (p := Fc25)).symm, b2.ne, b2.nf, b2.hm⟩, b2.kP, b2.nP⟩
  have b3 := (c.b.isP 6 (p := Fc6))
  have kn3 : KndC K (gaX K "Kind") (maX K "Kind" "text") (pgX K "Kind" "text") (gaX K "JoiningKind") := ⟨b3.kc, pr _ b3.tx, b3.ha, b3.hm, b3.kK⟩
  have co3 := con_of b3.co (c.b.isP 22 (p := Fc22)) (c.b.isP 23 (p := Fc23))
  have q3 : KCl K (gaX K "Kind") (maX K "Kind" "text") (pgX K "Kind" "text") (gaX K "Part") (gaX K "JoiningKind") := ⟨kn3, ⟨b3.eq.trans (c.b.isP 25 (p := Fc25)).symm, b3.ne, b3.nf, b3.hm⟩, b3.kP, b3.nP⟩
  have b4 := (c.b.isP 8 (p := Fc8))
  have kn4 : KndC K (gaX K "Kind") (maX K "Kind" "text") (pgX K "Kind" "text") (gaX K "DirectedJoiningKind") := ⟨b4.kc, pr _ b4.tx, b4.ha, b4.hm, b4.kK⟩
  have co4 := con_of b4.co (c.b.isP 22 (p := Fc22)) (c.b.isP 23 (p := Fc23))
  have q4 : KCl K (gaX K "Kind") (maX K "Kind" "text") (pgX K "Kind" "text") (gaX K "Part") (gaX K "DirectedJoiningKind") := ⟨kn4, ⟨b4.eq.trans (c.b.isP 25 (p := Fc25)).symm, b4.ne, b4.nf, b4.hm⟩, b4.kP, b4.nP⟩
  have c1 : PCl K mg "PathKind" (gaX K "PathKind") (maX K "PathKind" "__init__") (gaX K "PathKind") (maX K "Kind" "__init__") false := ⟨PySem.W.mg_of KX KG (c.b.isP 3 (p := Fc3)), b1.mk_, b1.kc, b1.so, co1⟩
  have c2 : PCl K mg "DirectedKind" (gaX K "DirectedKind") (maX K "PathKind" "__init__") (gaX K "PathKind") (maX K "Kind" "__init__") true := ⟨PySem.W.mg_of KX KG (c.b.isP 5 (p := Fc5)), b2.mk_, b2.kc, b2.so, co2⟩
  have c3 : PCl K mg "JoiningKind" (gaX K "JoiningKind") (maX K "JoiningKind" "__init__") (gaX K "PathKind") (maX K "Kind" "__init__") false := ⟨PySem.W.mg_of KX KG (c.b.isP 7 (p := Fc7)), b3.mk_, b3.kc, b3.so, co3⟩
  have c4 : PCl K mg "DirectedJoiningKind" (gaX K "DirectedJoiningKind") (maX K "JoiningKind" "__init__") (gaX K "PathKind") (maX K "Kind" "__init__") true := ⟨PySem.W.mg_of KX KG (c.b.isP 9 (p := Fc9)), b4.mk_, b4.kc, b4.so, co4⟩
  have UP : PTx K mg (gaX K "Kind") (gaX K "Part") (gaX K "InvalidKind") _ (gaX K "InvalidName") _ (gaX K "InvalidPins") _ (gaX K "UnknownName") _ := { cl := (c.b.isP 61 (p := Fc61)), n1 := (c.b.isP 62 (p := Fc62)), n2 := (c.b.isP 63 (p := Fc63)), n3 := (c.b.isP 64 (p := Fc64)), gP := (PySem.W.mg_of KX KG (c.b.isP 15 (p := Fc15))), ha := (c.b.isP 65 (p := Fc65)), hm := (c.b.isP 66 (p := Fc66)), kPP := (c.b.isP 67 (p := Fc67)), kPK := (c.b.isP 68 (p := Fc68)), kiP := (c.b.isP 69 (p := Fc69)), knK := (c.b.isP 21 (p := Fc21)) "NoneType" (by simp), kiK := (c.b.isP 21 (p := Fc21)) "int" (by simp), eK := eK, eN := eN, eP := eP, eU := eU }
  have GFi : Glb (PySem.Challenge.rw_wishedwires_k05_parts_kept).prog w K mg base "_fitting" 4 ["kind", "nets"] (spFit K (gaX K "Kind") (maX K "Kind" "text") (pgX K "Kind" "text") (gaX K "InvalidPins")) := glbD (st := top 44) KX KG (c.b.isP 118 (p := Fc118)) (funOf (c.b.def_ 13)) (fun fd F => ok_fit F T UP GNs) (fun fd F => F.binds (ps := ["kind", "nets"]) fun _ _ _ _ _ _ us hl => match us, hl with | [_, _], _ => rfl)
  obtain ⟨fdPi, FPi⟩ : ∃ fd, Fun K "__init__" "Part.__init__" (sPa 0) (maX K "Part" "__init__") fd := funOf (c.b.def_ 27)
  obtain ⟨pm1, pm2, pm3, pm4⟩ := (c.b.isP 70 (p := Fc70))
  have MP : Mk K (gaX K "Part") (maX K "Part" "__init__") := ⟨pm1, pm3, pm4, pm2⟩
  have FPI : FnR (PySem.Challenge.rw_wishedwires_k05_parts_kept).prog w K mg base (L2.CX (PySem.Challenge.rw_wishedwires_k05_parts_kept).prog w) 6 (maX K "Part" "__init__") (spPart K (gaX K "Kind") (maX K "Kind" "text") (pgX K "Kind" "text") (gaX K "Ratio") (gaX K "Part") (gaX K "InvalidKind") (gaX K "NotPositive") (gaX K "InvalidPins")) := ok_pi FPi T UP KT GV GFi
  obtain ⟨fdVa, FVa⟩ : ∃ fd, Fun K "value" "Part.value" (sPa 1) (pgX K "Part" "value") fd := funOf (c.pdef 1)
  have okVa : FnOk (PySem.Challenge.rw_wishedwires_k05_parts_kept).prog w K mg base (L2.CX (PySem.Challenge.rw_wishedwires_k05_parts_kept).prog w) 1 (pgX K "Part" "value") fdVa ["self"] (spFld (gaX K "Part") "_value") := ok_gv FVa UP
  have bVa := (FVa.binds (ps := ["self"]) fun _ _ _ _ _ _ us hl => match us, hl with | [_], _ => rfl)
  obtain ⟨fdNe, FNe⟩ : ∃ fd, Fun K "nets" "Part.nets" (sPa 3) (pgX K "Part" "nets") fd := funOf (c.pdef 2)
  have okNe : FnOk (PySem.Challenge.rw_wishedwires_k05_parts_kept).prog w K mg base (L2.CX (PySem.Challenge.rw_wishedwires_k05_parts_kept).prog w) 1 (pgX K "Part" "nets") fdNe ["self"] (spFld (gaX K "Part") "_nets") := ok_gn FNe UP
  have bNe := (FNe.binds (ps := ["self"]) fun _ _ _ _ _ _ us hl => match us, hl with | [_], _ => rfl)
  have OSV : R5r.Dun (PySem.Challenge.rw_wishedwires_k05_parts_kept).prog w K mg base (gaX K "Part") "set_value" 6 ["self", "value"] (spSV K (gaX K "Kind") (maX K "Kind" "text") (pgX K "Kind" "text") (gaX K "Ratio") (gaX K "Part") (gaX K "NotPositive")) := dunD (st := sPa 5) rfl (c.b.isP 82 (p := Fc82)) (funOf (c.b.def_ 28)) (fun fd F => ok_sv F UP GV) (fun fd F => F.binds (ps := ["self", "value"]) fun _ _ _ _ _ _ us hl => match us, hl with | [_, _], _ => rfl)
  have OIX : R5r.Dun (PySem.Challenge.rw_wishedwires_k05_parts_kept).prog w K mg base (gaX K "Part") "_index_of" 2 ["self", "pin"] (spIdx K (gaX K "Kind") (maX K "Kind" "text") (pgX K "Kind" "text") (gaX K "Ratio") (gaX K "Part") (gaX K "UnknownName")) := dunD (st := sPa 15) rfl (c.b.isP 87 (p := Fc87)) (funOf (c.b.def_ 37)) (fun fd F => ok_idx F T UP) (fun fd F => F.binds (ps := ["self", "pin"]) fun _ _ _ _ _ _ us hl => match us, hl with | [_, _], _ => rfl)
  have OCO : R5r.Dun (PySem.Challenge.rw_wishedwires_k05_parts_kept).prog w K mg base (gaX K "Part") "copied" 8 ["self"] (spCop K (gaX K "Kind") (maX K "Kind" "text") (pgX K "Kind" "text") (gaX K "Ratio") (gaX K "Part")) := dunD (st := sPa 8) rfl (c.b.isP 85 (p := Fc85)) (funOf (c.b.def_ 31)) (fun fd F => ok_cop F UP MP FPI) (fun fd F => F.binds (ps := ["self"]) fun _ _ _ _ _ _ us hl => match us, hl with | [_], _ => rfl)
  have OMO : R5r.Dun (PySem.Challenge.rw_wishedwires_k05_parts_kept).prog w K mg base (gaX K "Part") "moved" 8 ["self", "nets"] (spMov K (gaX K "Kind") (maX K "Kind" "text") (pgX K "Kind" "text") (gaX K "Ratio") (gaX K "Part") (gaX K "InvalidPins")) := dunD (st := sPa 9) rfl (c.b.isP 86 (p := Fc86)) (funOf (c.b.def_ 32)) (fun fd F => ok_mov F UP GNm MP FPI) (fun fd F => F.binds (ps := ["self", "nets"]) fun _ _ _ _ _ _ us hl => match us, hl with | [_, _], _ => rfl)
  obtain ⟨fdSn, FSn⟩ : ∃ fd, Fun K "set_nets" "Part.set_nets" (sPa 6) (maX K "Part" "set_nets") fd := funOf (c.b.def_ 29)
  have FSN : FnR (PySem.Challenge.rw_wishedwires_k05_parts_kept).prog w K mg base (L2.CX (PySem.Challenge.rw_wishedwires_k05_parts_kept).prog w) 5 (maX K "Part" "set_nets") (spSN K (gaX K "Kind") (maX K "Kind" "text") (pgX K "Kind" "text") (gaX K "Ratio") (gaX K "Part") (gaX K "InvalidPins")) := ok_sn FSn UP GFi
  have mSN : Meth K (gaX K "Part") "set_nets" (maX K "Part" "set_nets") := ⟨(c.b.isP 83 (p := Fc83)).1, (c.b.isP 83 (p := Fc83)).2.1, (c.b.isP 83 (p := Fc83)).2.2⟩
  obtain ⟨fdSe, FSe⟩ : ∃ fd, Fun K "seats" "Part.seats" (sPa 7) (maX K "Part" "seats") fd := funOf (c.b.def_ 30)
  have okSe : GFnS (PySem.Challenge.rw_wishedwires_k05_parts_kept).prog w K mg base 1 (maX K "Part" "seats") fdSe ["self"] (spSeats K (gaX K "Kind") (maX K "Kind" "text") (pgX K "Kind" "text") (gaX K "Ratio") (gaX K "Part")) := ok_seats FSe T UP
  have bSe := (FSe.binds (ps := ["self"]) fun _ _ _ _ _ _ us hl => match us, hl with | [_], _ => rfl)
  have mSe : Meth K (gaX K "Part") "seats" (maX K "Part" "seats") := ⟨(c.b.isP 84 (p := Fc84)).1, (c.b.isP 84 (p := Fc84)).2.1, (c.b.isP 84 (p := Fc84)).2.2⟩
  obtain ⟨fdGi, FGi⟩ : ∃ fd, Fun K "__getitem__" "Part.__getitem__" (sPa 10) (maX K "Part" "__getitem__") fd := funOf (c.b.def_ 33)
  have okGi : FnOk (PySem.Challenge.rw_wishedwires_k05_parts_kept).prog w K mg base (L2.CX (PySem.Challenge.rw_wishedwires_k05_parts_kept).prog w) 3 (maX K "Part" "__getitem__") fdGi ["self", "at"] (spGI K (gaX K "Kind") (maX K "Kind" "text") (pgX K "Kind" "text") (gaX K "Ratio") (gaX K "Part") (gaX K "UnknownName")) := ok_gi FGi T UP OIX
  have bGi := (FGi.binds (ps := ["self", "at"]) fun _ _ _ _ _ _ us hl => match us, hl with | [_, _], _ => rfl)
  obtain ⟨fdSi, FSi⟩ : ∃ fd, Fun K "__setitem__" "Part.__setitem__" (sPa 11) (maX K "Part" "__setitem__") fd := funOf (c.b.def_ 34)
  have okSi : FnOk (PySem.Challenge.rw_wishedwires_k05_parts_kept).prog w K mg base (L2.CX (PySem.Challenge.rw_wishedwires_k05_parts_kept).prog w) 4 (maX K "Part" "__setitem__") fdSi ["self", "at", "worth"] (spSI K (gaX K "Kind") (maX K "Kind" "text") (pgX K "Kind" "text") (gaX K "Ratio") (gaX K "Part") (gaX K "UnknownName") (gaX K "InvalidName")) := ok_si FSi T UP GNa OIX
  have bSi := (FSi.binds (ps := ["self", "at", "worth"]) fun _ _ _ _ _ _ us hl => match us, hl with | [_, _, _], _ => rfl)
  obtain ⟨fdLn, FLn⟩ : ∃ fd, Fun K "__len__" "Part.__len__" (sPa 13) (maX K "Part" "__len__") fd := funOf (c.b.def_ 35)
  have okLn : FnOk (PySem.Challenge.rw_wishedwires_k05_parts_kept).prog w K mg base (L2.CX (PySem.Challenge.rw_wishedwires_k05_parts_kept).prog w) 1 (maX K "Part" "__len__") fdLn ["self"] (spLen K (gaX K "Kind") (maX K "Kind" "text") (pgX K "Kind" "text") (gaX K "Ratio") (gaX K "Part")) := ok_len FLn T UP
  have bLn := (FLn.binds (ps := ["self"]) fun _ _ _ _ _ _ us hl => match us, hl with | [_], _ => rfl)
  obtain ⟨fdPq, FPq⟩ : ∃ fd, Fun K "__eq__" "Part.__eq__" (sPa 14) (maX K "Part" "__eq__") fd := funOf (c.b.def_ 36)
  have okPq : FnOk (PySem.Challenge.rw_wishedwires_k05_parts_kept).prog w K mg base (L2.CX (PySem.Challenge.rw_wishedwires_k05_parts_kept).prog w) 5 (maX K "Part" "__eq__") fdPq ["self", "other"] (spPEq K (gaX K "Kind") (maX K "Kind" "text") (pgX K "Kind" "text") (gaX K "Ratio") (gaX K "Part")) := ok_peq FPq T UP KT (c.b.isP 25 (p := Fc25)) (c.b.isP 24 (p := Fc24)) okE bE ZR EQr
  have bPq := (FPq.binds (ps := ["self", "other"]) fun _ _ _ _ _ _ us hl => match us, hl with | [_, _], _ => rfl)
  have OI : OwnIt K (gaX K "Part") (maX K "Part" "__getitem__") (maX K "Part" "__setitem__") := ⟨(c.b.isP 71 (p := Fc71)).1, (c.b.isP 71 (p := Fc71)).2.1, (c.b.isP 71 (p := Fc71)).2.2, (c.b.isP 72 (p := Fc72)).1, (c.b.isP 72 (p := Fc72)).2.1, (c.b.isP 72 (p := Fc72)).2.2⟩
  have XM : PMe K (gaX K "Part") (pgX K "Part" "value") (pgX K "Part" "nets") (maX K "Part" "__len__") (maX K "Part" "__eq__") (maX K "Part" "value") (maX K "Part" "nets") := ⟨⟨(c.b.isP 78 (p := Fc78)).1, (c.b.isP 78 (p := Fc78)).2.1, (c.b.isP 78 (p := Fc78)).2.2, recB_ok (c.b.isP 79 (p := Fc79))⟩, ⟨(c.b.isP 80 (p := Fc80)).1, (c.b.isP 80 (p := Fc80)).2.1, (c.b.isP 80 (p := Fc80)).2.2, recB_ok (c.b.isP 81 (p := Fc81))⟩, (c.b.isP 73 (p := Fc73)).1, (c.b.isP 73 (p := Fc73)).2, (c.b.isP 74 (p := Fc74)).1, (c.b.isP 74 (p := Fc74)).2, (c.b.isP 76 (p := Fc76))⟩
  have Z : ZX K (gaX K "InvalidKind") (gaX K "InvalidName") (gaX K "InvalidPins") (gaX K "NotPositive") (gaX K "UnknownName") := ⟨(c.b.isP 95 (p := Fc95)), (c.b.isP 96 (p := Fc96)), (c.b.isP 97 (p := Fc97)), (c.b.isP 98 (p := Fc98)), (c.b.isP 99 (p := Fc99)), (c.b.isP 100 (p := Fc100)), (c.b.isP 101 (p := Fc101)), (c.b.isP 102 (p := Fc102)), (c.b.isP 103 (p := Fc103)), (c.b.isP 104 (p := Fc104))⟩
  have GDs : Glb (PySem.Challenge.rw_wishedwires_k05_parts_kept).prog w K mg base "_law_draws" 1 ["_law_script", "_law_k"] (spDraws K) := glbD (st := top 46) KX KG (c.b.isP 119 (p := Fc119)) (funOf (c.b.def_ 14)) (fun fd F => ok_draws F T) (fun fd F => F.binds (ps := ["_law_script", "_law_k"]) fun _ _ _ _ _ _ us hl => match us, hl with | [_, _], _ => rfl)
  have GDr : Glb (PySem.Challenge.rw_wishedwires_k05_parts_kept).prog w K mg base "_law_draw" 1 ["_law_draws_here", "_law_upto"] (spDraw) := glbD (st := top 47) KX KG (c.b.isP 120 (p := Fc120)) (funOf (c.b.def_ 15)) (fun fd F => ok_draw F T) (fun fd F => F.binds (ps := ["_law_draws_here", "_law_upto"]) fun _ _ _ _ _ _ us hl => match us, hl with | [_, _], _ => rfl)
  have GLk : Glb (PySem.Challenge.rw_wishedwires_k05_parts_kept).prog w K mg base "_law_kinds" 9 [] (spLKs K (gaX K "Kind") (maX K "Kind" "text") (pgX K "Kind" "text") (gaX K "Part")) := glbD (st := top 48) KX KG (c.b.isP 121 (p := Fc121)) (funOf (c.b.def_ 16)) (fun fd F => ok_lks F c1 c2 c3 (c.b.isP 10 (p := Fc10)) c4 (c.b.isP 11 (p := Fc11)) (PySem.W.mg_of KX KG (c.b.isP 1 (p := Fc1))) b0.mk_ b0.kc b0.so q1 q2 q3 q4 q0 (empty_tup (c.b.isP 44 (p := Fc44))) FIn FPa FPa FJo FJo) (fun fd F => F.binds (ps := []) fun _ _ _ _ _ _ us hl => match us, hl with | [], _ => rfl)
  have GLp : Glb (PySem.Challenge.rw_wishedwires_k05_parts_kept).prog w K mg base "_law_part" 8 ["_law_kind", "_law_value", "_law_nets"] (spLPt K (gaX K "Kind") (maX K "Kind" "text") (pgX K "Kind" "text") (gaX K "Ratio") (gaX K "Part")) := glbD (st := top 49) KX KG (c.b.isP 122 (p := Fc122)) (funOf (c.b.def_ 17)) (fun fd F => ok_lpt F T UP MP FPI) (fun fd F => F.binds (ps := ["_law_kind", "_law_value", "_law_nets"]) fun _ _ _ _ _ _ us hl => match us, hl with | [_, _, _], _ => rfl)
  have GLe : Glb (PySem.Challenge.rw_wishedwires_k05_parts_kept).prog w K mg base "_law_error" 10 ["_law_way", "_law_one", "_law_other"] (spLErr K (gaX K "Kind") (maX K "Kind" "text") (pgX K "Kind" "text") (gaX K "Ratio") (gaX K "Part")) := glbD (st := top 50) KX KG (c.b.isP 123 (p := Fc123)) (funOf (c.b.def_ 18)) (fun fd F => ok_lerr F UP eV Z MP FPI OSV mSN FSN OI okGi bGi okSi bSi OMO) (fun fd F => F.binds (ps := ["_law_way", "_law_one", "_law_other"]) fun _ _ _ _ _ _ us hl => match us, hl with | [_, _, _], _ => rfl)
  have GLi : Glb (PySem.Challenge.rw_wishedwires_k05_parts_kept).prog w K mg base "_law_is" 9 ["_law_part_here", "_law_kind", "_law_value", "_law_nets"] (spLIs K (gaX K "Kind") (maX K "Kind" "text") (pgX K "Kind" "text") (gaX K "Ratio") (gaX K "Part")) := glbD (st := top 51) KX KG (c.b.isP 124 (p := Fc124)) (funOf (c.b.def_ 19)) (fun fd F => ok_lis F T UP KT (c.b.isP 25 (p := Fc25)) (c.b.isP 24 (p := Fc24)) okE bE TR ZR NEr XM okVa bVa okNe bNe okLn bLn okPq bPq OI okGi bGi mSe okSe bSe GLp) (fun fd F => F.binds (ps := ["_law_part_here", "_law_kind", "_law_value", "_law_nets"]) fun _ _ _ _ _ _ us hl => match us, hl with | [_, _, _, _], _ => rfl)
  have GLs : Glb (PySem.Challenge.rw_wishedwires_k05_parts_kept).prog w K mg base "_law_set_right" 11 ["_law_draws_here", "_law_part_here", "_law_kind", "_law_value", "_law_nets"] (spLSR K (gaX K "Kind") (maX K "Kind" "text") (pgX K "Kind" "text") (gaX K "Ratio") (gaX K "Part")) := glbD (st := top 52) KX KG (c.b.isP 125 (p := Fc125)) (funOf (c.b.def_ 20)) (fun fd F => ok_lsr F T UP TR MR OSV mSN FSN OI okSi bSi GDr GLe GLi) (fun fd F => F.binds (ps := ["_law_draws_here", "_law_part_here", "_law_kind", "_law_value", "_law_nets"]) fun _ _ _ _ _ _ us hl => match us, hl with | [_, _, _, _, _], _ => rfl)
  exact FnGd.FnG.of (ok_law FL T UP TR MR XM MP FPI okPq bPq (c.b.isP 77 (p := Fc77)) (c.b.isP 75 (p := Fc75)) OCO OMO GLk GLe GDs GDr GLp GLi GLs)
end R5
end

-- L5end
section
set_option Elab.async false
set_option linter.all false
open PySem PySem.W PyProof.Rows
set_option maxRecDepth 100000 in
set_option maxHeartbeats 0 in
theorem PySem.Challenge.cw_wishedwires_k05_parts_kept_holds : PySem.Challenge.rw_wishedwires_k05_parts_kept.Holds := by
  w_on; o_law
  refine HdI.head_imp (r := PySem.W.OpenLaw.row PySem.Challenge.rw_wishedwires_k05_parts_kept) (q := PySem.W.view (PySem.W.OpenLaw.row PySem.Challenge.rw_wishedwires_k05_parts_kept).prog [53]) (H := R5.hk) (ob := R5.ob) (M1 := 3000) (M := 20000) (loose := R5.names) (d := HandSHeadRun.topDef (PySem.W.OpenLaw.row PySem.Challenge.rw_wishedwires_k05_parts_kept).prog 53) (kwd := []) R5.ob_eq
    R5.run (by kernel_rfl) (by kernel_rfl) (by kernel_rfl) (by rfl) (by first | assumption | decide +kernel) (by decide +kernel) ⟨rfl, rfl, rfl, rfl, rfl, by decide +kernel⟩ ?hw ?hc
  case hw => w_witness2
  case hc =>
    refine HdB.walk_ofB (n := 63) (k := 12) (x := "_law_script") (CX := fun w => L2.CX (PySem.Challenge.rw_wishedwires_k05_parts_kept).prog w) rfl (by decide) (by kernel_rfl) ⟨rfl, by decide, by decide⟩ ?F fun w H s e s' z => ?g
    case F =>
      intro w mg fa h Y G hmg
      obtain ⟨K, KX, c⟩ := Y
      have hfa : mg ("law" : PySem.Str) = some (.ref fa) := by
        have e : (HandSHeadRun.topDef (OpenLaw.row PySem.Challenge.rw_wishedwires_k05_parts_kept).prog 53).name = ("law" : PySem.Str) := by kernel_rfl
        rw [← e]
        exact hmg
      obtain ⟨fd, hb, hF⟩ := R5.ends (w := w) KX G hfa c
      exact ⟨K, fd, R5.spLaw K, KX, hb, fun H a ns hl _ hS => ⟨a, ns, rfl, hS, fun _ _ => rfl⟩, hF⟩
    case g =>
      obtain ⟨_, _, _, _, _, _, _, _, _, _, _, _, z⟩ := z
      exact z
end
