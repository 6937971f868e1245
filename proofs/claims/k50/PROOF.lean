import PyProof.Rows.All
import Wide.All
import OpenK.AllK
import Wide.FinOn
import HandS.ForExc
import KE.KOpsOwn
import KE.KCallOwn
import HandS.OwnEq
import KE.KExcInit
import HandS.ExcOwn
import HandS.TryMany
import PyProof.NeKinds
import HandS.ExcValue
import HandS.IsInst
import KE.KExcIs
import HandS.Comp
import HandS.DictComp
import HandS.ListItems
import HandS.Strs
import HandS.Zip
import PyProof.TupleIter
import PyProof.WalksMore
import KE.KSuper
import HandS.Star
import HandS.Nested
import HandS.ForMost
import HandS.Wide
import HandS.Defaults
import HandS.FStr
import HandS.Flow
import HandS.StrMore
import HandS.MapJoin
import HandS.Head0
import HandS.Head1
import HandS.Head2
import HandS.HeadHook1
import HandS.HeadHook2
import HandS.Words
import HandS.Gcd
import HandS.Walk
import HandS.MethStar
import HandS.Conv
import HandS.TupAny
import HandS.Iter
import KE.GoesEnum
import HandS.GenList
import HandS.GenCall
import PyProof.PlainList
import PyProof.GenQ
import HandS.GenOver
import KE.SortKeyHeap
import HandS.SortKw
import HandS.RaiseMore
import HandS.Property
import HandS.ClsMeth
import HandS.DeepEq
import PySem.Challenge.RW_wishedwires_k50_ways_of_singles
-- OwnOps
section
set_option Elab.async false
set_option linter.all false
set_option maxRecDepth 100000
/-! Operators of own classes, as rules over values: by this text's own hand. -/
namespace OwnOps
open PySem L2

section
variable {X : Cx} {pins : List (Addr × Obj)} {σ : St} {H : Hp} {s : Shared} {a b C dx dy g : Addr} {fs fs' : List (Str × V)}

theorem inst_at (I : Inv X pins σ H s) (e : H a = some (.ins C dx fs)) : ∃ od, PySem.W.InstAt s.heap a (PySem.W.instObj C dx) C (some od) := by
  obtain ⟨mA, O, _⟩ := ins_get I.hok e
  obtain ⟨od, J, _⟩ := O.look
  exact ⟨od, J⟩

theorem back_of {Q : Value → Shared → Prop} {s' : Shared} {v : V} {u : Value} (r : RelV v u) (q : Q u s') : PySem.W.CmpBack Q u s' := by
  cases v with
  | non => cases (show u = Value.none from r); exact q
  | bl b => cases (show u = Value.bool b from r); exact q
  | int i => obtain ⟨t, rfl⟩ := (show ∃ t, u = Value.int i t from r); exact q
  | str y => obtain ⟨t, rfl⟩ := (show ∃ t, u = Value.str y t from r); exact q
  | byt y => obtain ⟨t, rfl⟩ := (show ∃ t, u = Value.bytes y t from r); exact q
  | flt y => obtain ⟨t, rfl⟩ := (show ∃ t, u = Value.float y t from r); exact q
  | ref c => cases (show u = Value.ref c from r); exact q
  | ty n => cases (show u = Value.type n from r); exact q

variable {CX : CXT} {k : Nat} {fd : FuncData} {ps : List Str} {sp : Sp} {E : XK} {A : Around}

/-- a def's call wherever the builtins around it stand -/
theorem run_any {Q : VK} {us : List Value} {vs : List V} (F : FnOk X.prog X.w X.K X.mg X.base CX k g fd ps sp) (hr : Room k A) (e0 : Env0 X.prog X.w X.K X.mg X.base A X.stack s H)
    (hb : Binds X.K fd ps []) (hx : Passes CX X E) (I : Inv X pins σ H s) (r : Vals vs us) (h : sp vs H Q E) :
    wpAny (model X.prog X.w) A (call (.ref g) us) (EP X pins σ Q) X.xe s := by
  have hl : (us ++ []).length = ps.length := by rw [List.append_nil, ← r.length]; exact F.len _ _ _ _ h
  have hb' := hb s us I.kIn hl
  rw [List.append_nil] at hb'
  refine wpAny_call (codeAny_mono (F.run A X.stack s H ⟨us, []⟩ us vs Q E hr e0 hb' r h) fun res s' hq => ?_)
  cases res with
  | error e => exact hx pins σ H s e s' I hq
  | ok fl =>
    cases fl with
    | ret u => exact I.after hq
    | next => exact False.elim hq
    | brk => exact False.elim hq
    | cont => exact False.elim hq
end

/-- what an own class says of a two-place operator: its def, of this class -/
structure Op2 (K : PySem.W.Frag) (C g : Addr) (nm : String) : Prop where
  at_ : PySem.W.findIn K (.ref C) (PySem.dunder nm) = some (some (.ref g))
  rf : ∃ rc, PySem.W.findIn K (.ref C) (PySem.dunderR nm) = some rc ∧ (rc = none ∨ ∃ q : Addr, rc = some (.ref q))
  fn : PySem.W.isFn K (.ref g) = true
  first : PySem.W.selfFirst K C = true
/-- what is known of a built-in type beside the class at C, for the operator -/
structure Ty2 (K : PySem.W.Frag) (C : Addr) (nm T : String) : Prop where
  lf : ∃ fo, PySem.W.findIn K (.type T) (PySem.dunder nm) = some fo
  rt : ∃ ro, PySem.W.findIn K (.type T) (PySem.dunderR nm) = some ro
  sub : PySem.W.subIn K (.type T) (.ref C) = some false

/-- the reading of x op y by x's own def -/
def rOwn2 (C : Addr) (R : V → Hp → Prop) (sp : Sp) (E : XK) : R2 := fun x y H Q => ∃ a dx fs, x = .ref a ∧ H a = some (.ins C dx fs) ∧ R y H ∧ sp [x, y] H Q E
def RIns (C : Addr) : V → Hp → Prop := fun y H => ∃ b dy fs, y = .ref b ∧ H b = some (.ins C dy fs)
def RInt : V → Hp → Prop := fun y _ => ∃ i, y = .int i

section
variable {X : Cx} {CX : CXT} {C g : Addr} {k : Nat} {fd : FuncData} {ps : List Str} {sp : Sp} {E : XK} {op : Operator} {T : String}

/-- x op y, both of the class at C -/
theorem op_ins (O : Op2 X.K C g op.info.2) (F : FnOk X.prog X.w X.K X.mg X.base CX k g fd ps sp) (hr : Room k X.A) (hb : Binds X.K fd ps []) (hx : Passes CX X E) :
    OpR X (binaryOp op) (rOwn2 C (RIns C) sp E) := by
  intro pins s σ H x y v u Q I rx ry h
  obtain ⟨a, dx, fs, rfl, ha, ⟨b, dy, fs', rfl, hb'⟩, q⟩ := h
  cases (show v = Value.ref a from rx)
  cases (show u = Value.ref b from ry)
  obtain ⟨od, J⟩ := inst_at I ha
  obtain ⟨od', J'⟩ := inst_at I hb'
  obtain ⟨m, hF⟩ := I.fr
  refine PySem.W.binop_K hF I.ok.mod.kin J J'.type O.first O.at_ O.fn ?_
  refine wpAny_mono (run_any (us := [.ref a, .ref b]) (vs := [.ref a, .ref b]) F hr I.env0 hb hx I (.cons rfl (.cons rfl .nil)) q) (fun w s' z => ?_) fun _ _ e => e
  obtain ⟨z', H', I', rz, qz⟩ := id z
  exact back_of rz z

/-- x op y, y of a built-in type that tells its type at once -/
theorem op_val (O : Op2 X.K C g op.info.2) (Y : Ty2 X.K C op.info.2 T) (F : FnOk X.prog X.w X.K X.mg X.base CX k g fd ps sp) (hr : Room k X.A) (hb : Binds X.K fd ps []) (hx : Passes CX X E)
    {R : V → Hp → Prop} (hR : ∀ {y : V} {H : Hp} {u : Value}, R y H → RelV y u → typeOf u = pure (.type T)) :
    OpR X (binaryOp op) (rOwn2 C R sp E) := by
  intro pins s σ H x y v u Q I rx ry h
  obtain ⟨a, dx, fs, rfl, ha, hy, q⟩ := h
  cases (show v = Value.ref a from rx)
  obtain ⟨od, J⟩ := inst_at I ha
  obtain ⟨m, hF⟩ := I.fr
  obtain ⟨fo, hfo⟩ := Y.lf
  obtain ⟨ro, hro⟩ := Y.rt
  obtain ⟨rc, hrc, hp⟩ := O.rf
  refine PySem.W.ksp_binT hF I.ok.mod.kin J (hR hy ry) O.first O.at_ O.fn hrc hp hfo hro Y.sub ?_
  refine wpAny_mono (run_any (us := [.ref a, u]) (vs := [.ref a, y]) F hr I.env0 hb hx I (.cons rfl (.cons ry .nil)) q) (fun w s' z => ?_) fun _ _ e => e
  obtain ⟨z', H', I', rz, qz⟩ := id z
  exact back_of rz z
end
end OwnOps
end

-- OwnOps2
section
set_option Elab.async false
set_option linter.all false
set_option maxRecDepth 100000
namespace OwnOps
open PySem L2

section
variable {prog : Program} {w : World} {A : Around} {E : Value → Shared → Prop} {s : Shared} {K : PySem.W.Frag} {y C f g : Addr} {oy : Obj} {od : Option Obj} {u : Value} {T : String}

/-- u op y by y's reflected def: u's own type has no slot for it, or declines -/
theorem refl_K {op : Operator} {left : Bool} {Q : Value → Shared → Prop} (Y : K.In s.heap) (I : PySem.W.InstAt s.heap y oy C od)
    (ht : PySem.W.Looks (model prog w) s.heap (typeOf u) (.type T)) (hc : PySem.W.selfFirst K C = true)
    (hs : PySem.W.findIn K (.ref C) (PySem.dunder op.info.2) = some (some (.ref f))) (hr : PySem.W.findIn K (.ref C) (PySem.dunderR op.info.2) = some (some (.ref g)))
    (hg : PySem.W.isFn K (.ref g) = true) (hl : PySem.W.Looks (model prog w) s.heap (fillsNumberSlot (.type T) op.info.2) left)
    (hsub : PySem.W.subIn K (.ref C) (.type T) = some false)
    (hd : left = true → ∀ {Q : Option Value → Shared → Prop}, Q none s → wpAny (model prog w) A (tryMethod u (PySem.dunder op.info.2) (.ref y)) Q E s)
    (h : wpAny (model prog w) A (call (.ref g) [.ref y, u]) (PySem.W.CmpBack Q) E s) : wpAny (model prog w) A (binaryOp op u (.ref y)) Q E s := by
  obtain ⟨cd, rest, hcd, hm⟩ := PySem.W.ksp_first hc
  rcases hi : op.info with ⟨sym, nm⟩
  rw [hi] at hs hr hl hd
  dsimp only at hs hr hl hd
  have one := PySem.W.ksp_try Y I hr hg h
  obtain ⟨hh, gg, d, tt, os⟩ := s
  have L1 : PySem.W.Looks (model prog w) hh (typeOf (.ref y)) (.ref C) := I.type
  have L3 : PySem.W.Looks (model prog w) hh (fillsNumberSlot (.ref C) nm) true := PySem.W.fills_K Y hcd hm hs
  have L5 : PySem.W.Looks (model prog w) hh (isSubtype (.ref C) (.type T)) false := PySem.W.looks_subIn Y hsub
  have L7 : PySem.W.Looks (model prog w) hh (numberSlotInPython (.type T) nm) false := PySem.W.Looks.of_pure rfl
  have hne : (Value.type T == Value.ref C) = false := Bool.eq_false_iff.mpr fun q => by cases beq_iff_eq.mp q
  simp only [binaryOp, hi]
  refine wpAny_holding (wpAny_bind ?_)
  unfold binaryOp1
  refine wpAny_bind (ht.at (wpAny_bind (L1.at (wpAny_bind (hl.at ?_)))))
  simp only [hne, Bool.false_eq_true, if_false]
  cases left with
  | false =>
    ksp_lk
    refine wpAny_mono one (fun r s' hr' => ?_) fun _ _ e => e
    obtain ⟨v, rfl, hq⟩ := hr'
    ksp_lk
    exact hq
  | true =>
    ksp_lk
    refine hd rfl ?_
    ksp_lk
    refine wpAny_mono one (fun r s' hr' => ?_) fun _ _ e => e
    obtain ⟨v, rfl, hq⟩ := hr'
    ksp_lk
    exact hq
end
end OwnOps
end

-- OwnOps3
section
set_option Elab.async false
set_option linter.all false
set_option maxRecDepth 100000
namespace OwnOps
open PySem L2

section
variable {prog : Program} {w : World} {A : Around} {E : Value → Shared → Prop} {s : Shared} {K : PySem.W.Frag} {y C f g : Addr} {oy : Obj} {od : Option Obj} {n : Int} {t : Tok}
open MeetsSeq MeetsSeq2 MeetsSeq3 SeqRoads2 AutoSeq1
theorem int_call_add {Q : Value → Shared → Prop} (hy : s.heap.get? y = some oy) (hp : oy.data = .plain) (h : Q .notImplemented s) :
    wpAny (model prog w) A (call (.builtin "int.__add__") [.int n t, .ref y]) Q E s := by
  refine GQ.call_here F.slot_int_add (typeIs_int s n t) F.entry_int_add (F.args_int_add_2 _ _) ?_
  obtain ⟨c, dd, dt, sl⟩ := oy
  cases hp
  obtain ⟨hh, gg, d, tt, os⟩ := s
  wp_walk using wpAny_loadPart' hy
  exact h
theorem int_call_sub {Q : Value → Shared → Prop} (hy : s.heap.get? y = some oy) (hp : oy.data = .plain) (h : Q .notImplemented s) :
    wpAny (model prog w) A (call (.builtin "int.__sub__") [.int n t, .ref y]) Q E s := by
  refine GQ.call_here F.slot_int_sub (typeIs_int s n t) F.entry_int_sub (F.args_int_sub_2 _ _) ?_
  obtain ⟨c, dd, dt, sl⟩ := oy
  cases hp
  obtain ⟨hh, gg, d, tt, os⟩ := s
  wp_walk using wpAny_loadPart' hy
  exact h
theorem int_call_mul {Q : Value → Shared → Prop} (hy : s.heap.get? y = some oy) (hp : oy.data = .plain) (h : Q .notImplemented s) :
    wpAny (model prog w) A (call (.builtin "int.__mul__") [.int n t, .ref y]) Q E s := by
  refine GQ.call_here F.slot_int_mul (typeIs_int s n t) F.entry_int_mul (F.args_int_mul_2 _ _) ?_
  obtain ⟨c, dd, dt, sl⟩ := oy
  cases hp
  obtain ⟨hh, gg, d, tt, os⟩ := s
  wp_walk using wpAny_loadPart' hy
  exact h
theorem bool_call_mul {k : Bool} {Q : Value → Shared → Prop} (hy : s.heap.get? y = some oy) (hp : oy.data = .plain) (h : Q .notImplemented s) :
    wpAny (model prog w) A (call (.builtin "int.__mul__") [.bool k, .ref y]) Q E s := by
  refine GQ.call_here F.slot_bool_mul (typeIs_bool s k) F.entry_int_mul (F.args_int_mul_2 _ _) ?_
  obtain ⟨c, dd, dt, sl⟩ := oy
  cases hp
  obtain ⟨hh, gg, d, tt, os⟩ := s
  wp_walk using wpAny_loadPart' hy
  exact h
/-- how an int meets an instance of no built-in kind -/
theorem int_cmp_eq {Q : Value → Shared → Prop} (hy : s.heap.get? y = some oy) (hp : oy.data = .plain) (h : Q .notImplemented s) :
    wpAny (model prog w) A (call (.builtin "int.__eq__") [.int n t, .ref y]) Q E s := by
  refine GQ.call_here F.slot_int_eq (typeIs_int s n t) F.entry_int_eq (F.args_int_eq_2 _ _) ?_
  obtain ⟨c, dd, dt, sl⟩ := oy
  cases hp
  obtain ⟨hh, gg, d, tt, os⟩ := s
  wp_walk using wpAny_loadPart' hy
  exact h
theorem int_cmp_ne {Q : Value → Shared → Prop} (hy : s.heap.get? y = some oy) (hp : oy.data = .plain) (h : Q .notImplemented s) :
    wpAny (model prog w) A (call (.builtin "int.__ne__") [.int n t, .ref y]) Q E s := by
  refine GQ.call_here F.slot_int_ne (typeIs_int s n t) F.entry_int_ne (F.args_int_ne_2 _ _) ?_
  obtain ⟨c, dd, dt, sl⟩ := oy
  cases hp
  obtain ⟨hh, gg, d, tt, os⟩ := s
  wp_walk using wpAny_loadPart' hy
  exact h
theorem int_cmp_lt {Q : Value → Shared → Prop} (hy : s.heap.get? y = some oy) (hp : oy.data = .plain) (h : Q .notImplemented s) :
    wpAny (model prog w) A (call (.builtin "int.__lt__") [.int n t, .ref y]) Q E s := by
  refine GQ.call_here F.slot_int_lt (typeIs_int s n t) F.entry_int_lt (F.args_int_lt_2 _ _) ?_
  obtain ⟨c, dd, dt, sl⟩ := oy
  cases hp
  obtain ⟨hh, gg, d, tt, os⟩ := s
  wp_walk using wpAny_loadPart' hy
  exact h
theorem int_cmp_le {Q : Value → Shared → Prop} (hy : s.heap.get? y = some oy) (hp : oy.data = .plain) (h : Q .notImplemented s) :
    wpAny (model prog w) A (call (.builtin "int.__le__") [.int n t, .ref y]) Q E s := by
  refine GQ.call_here F.slot_int_le (typeIs_int s n t) F.entry_int_le (F.args_int_le_2 _ _) ?_
  obtain ⟨c, dd, dt, sl⟩ := oy
  cases hp
  obtain ⟨hh, gg, d, tt, os⟩ := s
  wp_walk using wpAny_loadPart' hy
  exact h
theorem int_cmp_gt {Q : Value → Shared → Prop} (hy : s.heap.get? y = some oy) (hp : oy.data = .plain) (h : Q .notImplemented s) :
    wpAny (model prog w) A (call (.builtin "int.__gt__") [.int n t, .ref y]) Q E s := by
  refine GQ.call_here F.slot_int_gt (typeIs_int s n t) F.entry_int_gt (F.args_int_gt_2 _ _) ?_
  obtain ⟨c, dd, dt, sl⟩ := oy
  cases hp
  obtain ⟨hh, gg, d, tt, os⟩ := s
  wp_walk using wpAny_loadPart' hy
  exact h
theorem int_cmp_ge {Q : Value → Shared → Prop} (hy : s.heap.get? y = some oy) (hp : oy.data = .plain) (h : Q .notImplemented s) :
    wpAny (model prog w) A (call (.builtin "int.__ge__") [.int n t, .ref y]) Q E s := by
  refine GQ.call_here F.slot_int_ge (typeIs_int s n t) F.entry_int_ge (F.args_int_ge_2 _ _) ?_
  obtain ⟨c, dd, dt, sl⟩ := oy
  cases hp
  obtain ⟨hh, gg, d, tt, os⟩ := s
  wp_walk using wpAny_loadPart' hy
  exact h
end
/-- int op instance, declined -/
def IntDec (op : CmpOp) : Prop := ∀ {prog : Program} {w : World} {A : Around} {E : Value → Shared → Prop} {s : Shared} {y : Addr} {oy : Obj} {n : Int} {t : Tok} {Q : Option Value → Shared → Prop}, s.heap.get? y = some oy → oy.data = .plain → Q none s →
  wpAny (model prog w) A (tryCompare (.int n t) (cmpInfo op).2.1 (.ref y)) Q E s
theorem dec_eq : IntDec .Eq := fun hy hp h => wpAny_tryCompare_declines (typeIs_int _ _ _) F.slot_int_eq (int_cmp_eq hy hp ⟨rfl, h⟩)
theorem dec_ne : IntDec .NotEq := fun hy hp h => wpAny_tryCompare_declines (typeIs_int _ _ _) F.slot_int_ne (int_cmp_ne hy hp ⟨rfl, h⟩)
theorem dec_lt : IntDec .Lt := fun hy hp h => wpAny_tryCompare_declines (typeIs_int _ _ _) F.slot_int_lt (int_cmp_lt hy hp ⟨rfl, h⟩)
theorem dec_le : IntDec .LtE := fun hy hp h => wpAny_tryCompare_declines (typeIs_int _ _ _) F.slot_int_le (int_cmp_le hy hp ⟨rfl, h⟩)
theorem dec_gt : IntDec .Gt := fun hy hp h => wpAny_tryCompare_declines (typeIs_int _ _ _) F.slot_int_gt (int_cmp_gt hy hp ⟨rfl, h⟩)
theorem dec_ge : IntDec .GtE := fun hy hp h => wpAny_tryCompare_declines (typeIs_int _ _ _) F.slot_int_ge (int_cmp_ge hy hp ⟨rfl, h⟩)
def IntDecB (op : Operator) : Prop := ∀ {prog : Program} {w : World} {A : Around} {E : Value → Shared → Prop} {s : Shared} {y : Addr} {oy : Obj} {n : Int} {t : Tok} {Q : Option Value → Shared → Prop}, s.heap.get? y = some oy → oy.data = .plain → Q none s →
  wpAny (model prog w) A (tryMethod (.int n t) (PySem.dunder op.info.2) (.ref y)) Q E s
theorem dec_add : IntDecB .Add := by
  intro prog w A E s y oy n t Q hy hp h
  show wpAny (model prog w) A (tryMethod (.int n t) (PySem.dunder "add") (.ref y)) Q E s
  have hc : wpAny (model prog w) A (call (.builtin "int.__add__") [.int n t, .ref y]) (fun v s' => v = .notImplemented ∧ Q none s') E s := int_call_add hy hp ⟨rfl, h⟩
  exact wpAny_tryMethod_declines (name := PySem.dunder "add") (id := "int.__add__") (typeIs_int s n t) F.slot_int_add hc
theorem dec_sub : IntDecB .Sub := by
  intro prog w A E s y oy n t Q hy hp h
  show wpAny (model prog w) A (tryMethod (.int n t) (PySem.dunder "sub") (.ref y)) Q E s
  have hc : wpAny (model prog w) A (call (.builtin "int.__sub__") [.int n t, .ref y]) (fun v s' => v = .notImplemented ∧ Q none s') E s := int_call_sub hy hp ⟨rfl, h⟩
  exact wpAny_tryMethod_declines (name := PySem.dunder "sub") (id := "int.__sub__") (typeIs_int s n t) F.slot_int_sub hc
theorem dec_mul : IntDecB .Mult := by
  intro prog w A E s y oy n t Q hy hp h
  show wpAny (model prog w) A (tryMethod (.int n t) (PySem.dunder "mul") (.ref y)) Q E s
  have hc : wpAny (model prog w) A (call (.builtin "int.__mul__") [.int n t, .ref y]) (fun v s' => v = .notImplemented ∧ Q none s') E s := int_call_mul hy hp ⟨rfl, h⟩
  exact wpAny_tryMethod_declines (name := PySem.dunder "mul") (id := "int.__mul__") (typeIs_int s n t) F.slot_int_mul hc

section
variable {prog : Program} {w : World} {A : Around} {E : Value → Shared → Prop} {s : Shared} {K : PySem.W.Frag} {y C f g : Addr} {oy : Obj} {od : Option Obj} {n : Int} {t : Tok}
/-- n op y by y's def for the comparison turned round -/
theorem cmp_refl {op : CmpOp} {Q : Value → Shared → Prop} (hu : A.units < cLine) (Y : K.In s.heap) (I : PySem.W.InstAt s.heap y oy C od) (hp : oy.data = .plain) (dec : IntDec op)
    (hsub : PySem.W.subIn K (.ref C) (.type "int") = some false) (hr : PySem.W.findIn K (.ref C) (cmpInfo op).2.2 = some (some (.ref g))) (hg : PySem.W.isFn K (.ref g) = true)
    (h : wpAny (model prog w) A (call (.ref g) [.ref y, .int n t]) (PySem.W.CmpBack Q) E s) : wpAny (model prog w) A (richCompare op (.int n t) (.ref y)) Q E s := by
  have one : wpAny (model prog w) A (tryCompare (.ref y) (cmpInfo op).2.2 (.int n t)) (fun r s' => ∃ v, r = some v ∧ Q v s') E s := by
    unfold tryCompare
    refine wpAny_bind (PySem.W.ifBound_K Y I hr hg (wpAny_mono h (fun v s' hv => ?_) fun _ _ e => e))
    cases v <;> first | exact hv.elim | exact wpAny_pure ⟨_, rfl, hv⟩
  have h1 : oneThing? op (.int n t) (.ref y) = none := rfl
  have hne : (Value.type "int" != Value.ref C) = true := rfl
  unfold richCompare
  simp only [h1]
  refine wpAny_holding (wpAny_bind (wpAny_cRoomFor hu ?_))
  refine wpAny_bind ((PySem.W.Looks.of_pure rfl : PySem.W.Looks (model prog w) s.heap (typeOf (.int n t)) (.type "int")).here (wpAny_bind (I.type.here ?_)))
  rw [hne]
  simp only [if_true]
  refine wpAny_bind ((PySem.W.looks_subIn Y hsub).here ?_)
  simp only [Bool.false_eq_true, if_false]
  refine wpAny_bind (dec I.at_ hp ?_)
  simp only [Bool.not_false, if_true]
  refine wpAny_bind (wpAny_mono one (fun r s' z => ?_) fun _ _ e => e)
  obtain ⟨v, rfl, hq⟩ := z
  exact wpAny_pure hq
end
end OwnOps
end

-- OwnOps4
section
set_option Elab.async false
set_option linter.all false
set_option maxRecDepth 100000
namespace OwnOps
open PySem L2

section
variable {X : Cx} {CX : CXT} {C g f : Addr} {k : Nat} {fd : FuncData} {ps : List Str} {sp : Sp} {E : XK} {op : Operator} {T : String}

/-- the reading of n op y by y's def -/
def rRef2 (C : Addr) (sp : Sp) (E : XK) : R2 := fun x y H Q => ∃ (i : Int) (b dy : Addr) (fs : List (Str × V)), x = .int i ∧ y = .ref b ∧ H b = some (.ins C dy fs) ∧ sp [y, x] H Q E

theorem op_refl {nm : String} (hnm : op.info.2 = nm) (O : Op2 X.K C f nm) (hrf : PySem.W.findIn X.K (.ref C) (PySem.dunderR nm) = some (some (.ref g))) (hg : PySem.W.isFn X.K (.ref g) = true) (hl : fillsNumberSlot (.type "int") nm = pure true)
    (hsub : PySem.W.subIn X.K (.ref C) (.type "int") = some false) (dec : IntDecB op)
    (F : FnOk X.prog X.w X.K X.mg X.base CX k g fd ps sp) (hr : Room k X.A) (hb : Binds X.K fd ps []) (hx : Passes CX X E) : OpR X (binaryOp op) (rRef2 C sp E) := by
  subst hnm
  intro pins s σ H x y v u Q I rx ry h
  obtain ⟨i, b, dy, fs, rfl, rfl, hb', q⟩ := h
  obtain ⟨t, rfl⟩ := (show ∃ t, v = Value.int i t from rx)
  cases (show u = Value.ref b from ry)
  obtain ⟨od, J⟩ := inst_at I hb'
  refine refl_K I.kIn J (PySem.W.Looks.of_pure rfl) O.first O.at_ hrf hg (PySem.W.Looks.of_pure hl) hsub (fun _ Q' q' => dec J.at_ rfl q') ?_
  refine wpAny_mono (run_any (us := [.ref b, .int i t]) (vs := [.ref b, .int i]) F hr I.env0 hb hx I (.cons rfl (.cons ⟨t, rfl⟩ .nil)) q) (fun w s' z => ?_) fun _ _ e => e
  obtain ⟨z', H', I', rz, qz⟩ := id z
  exact back_of rz z

/-- x op y (a comparison), x of the class at C -/
theorem cmp_own {op : CmpOp} (hop : ∀ a b, compareOp op a b = richCompare op a b) (hs : PySem.W.findIn X.K (.ref C) (cmpInfo op).2.1 = some (some (.ref g))) (hf : PySem.W.isFn X.K (.ref g) = true)
    (F : FnOk X.prog X.w X.K X.mg X.base CX k g fd ps sp) (hr : Room k X.A) (hb : Binds X.K fd ps []) (hx : Passes CX X E)
    {R : V → Hp → Prop} (hR : ∀ {y : V} {H : Hp} {u : Value} {pins : List (Addr × Obj)} {σ : St} {s : Shared}, L2.Inv X pins σ H s → R y H → RelV y u → ∃ tb, PySem.W.Looks (model X.prog X.w) s.heap (typeOf u) tb ∧ PySem.W.notFirst X.K C tb = true) :
    OpR X (compareOp op) (rOwn2 C R sp E) := by
  intro pins s σ H x y v u Q I rx ry h
  obtain ⟨a, dx, fs, rfl, ha, hy, q⟩ := h
  cases (show v = Value.ref a from rx)
  obtain ⟨od, J⟩ := inst_at I ha
  obtain ⟨m, hF⟩ := I.fr
  obtain ⟨tb, ht, hn⟩ := hR I hy ry
  rw [hop]
  refine PySem.W.cmp_K (op := op) hr.units0 hF I.ok.mod.kin J ht hn hs hf ?_
  refine wpAny_mono (run_any (us := [.ref a, u]) (vs := [.ref a, y]) F hr I.env0 hb hx I (.cons rfl (.cons ry .nil)) q) (fun w s' z => ?_) fun _ _ e => e
  obtain ⟨z', H', I', rz, qz⟩ := id z
  exact back_of rz z
theorem looks_ins (hsame : PySem.W.notFirst X.K C (.ref C) = true) {y : V} {H : Hp} {u : Value} {pins : List (Addr × Obj)} {σ : St} {s : Shared} (I : L2.Inv X pins σ H s) (h : RIns C y H) (ry : RelV y u) :
    ∃ tb, PySem.W.Looks (model X.prog X.w) s.heap (typeOf u) tb ∧ PySem.W.notFirst X.K C tb = true := by
  obtain ⟨b, dy, fs, rfl, hb⟩ := h
  cases (show u = Value.ref b from ry)
  obtain ⟨od, J⟩ := inst_at I hb
  exact ⟨_, J.type, hsame⟩
theorem looks_int (hi : PySem.W.notFirst X.K C (.type "int") = true) {y : V} {H : Hp} {u : Value} {pins : List (Addr × Obj)} {σ : St} {s : Shared} (I : L2.Inv X pins σ H s) (h : RInt y H) (ry : RelV y u) :
    ∃ tb, PySem.W.Looks (model X.prog X.w) s.heap (typeOf u) tb ∧ PySem.W.notFirst X.K C tb = true := by
  obtain ⟨i, rfl⟩ := h
  obtain ⟨t, rfl⟩ := (show ∃ t, u = Value.int i t from ry)
  exact ⟨_, PySem.W.Looks.of_pure rfl, hi⟩

theorem cmp_refl2 {op : CmpOp} (hop : ∀ a b, compareOp op a b = richCompare op a b) (dec : IntDec op) (hs : PySem.W.findIn X.K (.ref C) (cmpInfo op).2.2 = some (some (.ref g))) (hf : PySem.W.isFn X.K (.ref g) = true)
    (hsub : PySem.W.subIn X.K (.ref C) (.type "int") = some false)
    (F : FnOk X.prog X.w X.K X.mg X.base CX k g fd ps sp) (hr : Room k X.A) (hb : Binds X.K fd ps []) (hx : Passes CX X E) : OpR X (compareOp op) (rRef2 C sp E) := by
  intro pins s σ H x y v u Q I rx ry h
  obtain ⟨i, b, dy, fs, rfl, rfl, hb', q⟩ := h
  obtain ⟨t, rfl⟩ := (show ∃ t, v = Value.int i t from rx)
  cases (show u = Value.ref b from ry)
  obtain ⟨od, J⟩ := inst_at I hb'
  rw [hop]
  refine cmp_refl hr.units0 I.kIn J rfl dec hsub hs hf ?_
  refine wpAny_mono (run_any (us := [.ref b, .int i t]) (vs := [.ref b, .int i]) F hr I.env0 hb hx I (.cons rfl (.cons ⟨t, rfl⟩ .nil)) q) (fun w s' z => ?_) fun _ _ e => e
  obtain ⟨z', H', I', rz, qz⟩ := id z
  exact back_of rz z

/-- one-place: what x's own def hands back -/
def rOwn1 (C : Addr) (sp : Sp) (E : XK) (R : V → Prop) : V → Hp → VK → Prop := fun x H Q => ∃ a dx fs, x = .ref a ∧ H a = some (.ins C dx fs) ∧ sp [x] H (fun z H' => R z ∧ Q z H') E
theorem neg_own (hs : PySem.W.findIn X.K (.ref C) "__neg__" = some (some (.ref g))) (hf : PySem.W.isFn X.K (.ref g) = true)
    (F : FnOk X.prog X.w X.K X.mg X.base CX k g fd ps sp) (hr : Room k X.A) (hb : Binds X.K fd ps []) (hx : Passes CX X E) : UnR X (unaryOp .USub) (rOwn1 C sp E fun _ => True) := by
  intro pins s σ H x v Q I rx h
  obtain ⟨a, dx, fs, rfl, ha, q⟩ := h
  cases (show v = Value.ref a from rx)
  obtain ⟨od, J⟩ := inst_at I ha
  obtain ⟨m, hF⟩ := I.fr
  refine PySem.W.ksp_neg hF I.ok.mod.kin J hs hf ?_
  refine wpAny_mono (run_any (us := [.ref a]) (vs := [.ref a]) F hr I.env0 hb hx I (.cons rfl .nil) q) (fun w s' z => ?_) fun _ _ e => e
  obtain ⟨z', H', I', rz, _, qz⟩ := z
  exact ⟨z', H', I', rz, qz⟩

open Builtin in
theorem abs_K {prog : Program} {w : World} {A : Around} {E : Value → Shared → Prop} {s : Shared} {K : PySem.W.Frag} {x C f : Addr} {ox : Obj} {od : Option Obj} {Q : Value → Shared → Prop} (Y : K.In s.heap) (I : PySem.W.InstAt s.heap x ox C od)
    (hs : PySem.W.findIn K (.ref C) "__abs__" = some (some (.ref f))) (hf : PySem.W.isFn K (.ref f) = true)
    (h : wpAny (model prog w) A.in1 (call (.ref f) [.ref x]) Q E s) : wpAny (model prog w) A (call (.builtin "abs") [.ref x]) Q E s := by
  refine Calls.call_function_entry PyProof.Rows.kind_abs PyProof.Rows.plain_abs PyProof.Rows.entry_abs (PyProof.Rows.args_abs _) ?_
  unfold Builtin.«abs»
  refine wpAny_bind (m := oneArg "abs" _) (wpAny_pure ?_)
  refine wpAny_bind (m := callSpecial? (.ref x) (Str.ofString "__abs__")) (PySem.W.special_fn Y I hs (beq_iff_eq.mp hf) (wpAny_mono h (fun r s' z => ?_) fun _ _ e => e))
  exact wpAny_pure ⟨_, rfl, z⟩

theorem room2 {k : Nat} {A : Around} (r : Room (k + 2) A) : Room k A.in1.in1 := (Room.in1 (r.in1))

theorem call_absO (hs : PySem.W.findIn X.K (.ref C) "__abs__" = some (some (.ref g))) (hf : PySem.W.isFn X.K (.ref g) = true)
    (F : FnOk X.prog X.w X.K X.mg X.base CX k g fd ps sp) (hr : Room (k + 1) X.A) (hb : Binds X.K fd ps []) (hx : Passes CX X E) : CallR X (.builtin "abs") (fun xs H Q => ∃ x, xs = [x] ∧ rOwn1 C sp E (fun _ => True) x H Q) := by
  intro pins s σ H xs us Q I rx h
  obtain ⟨x, rfl, a, dx, fs, rfl, ha, q⟩ := h
  obtain ⟨u, rfl, ru⟩ := vals1 rx
  cases (show u = Value.ref a from ru)
  obtain ⟨od, J⟩ := inst_at I ha
  refine abs_K I.kIn J hs hf ?_
  refine wpAny_mono (run_any (us := [.ref a]) (vs := [.ref a]) F hr.in1 I.env0.in1 hb hx I (.cons rfl .nil) q) (fun w s' z => ?_) fun _ _ e => e
  obtain ⟨z', H', I', rz, _, qz⟩ := z
  exact ⟨z', H', I', rz, qz⟩

def IsStr : V → Prop := fun z => ∃ y, z = .str y
theorem strback {Q : Value → Shared → Prop} {z : V} {u : Value} {s' : Shared} (hz : IsStr z) (r : RelV z u) (q : Q u s') : PySem.W.StrBack Q u s' := by
  obtain ⟨y, rfl⟩ := hz
  obtain ⟨t, rfl⟩ := (show ∃ t, u = Value.str y t from r)
  exact q
theorem call_reprO (hs : PySem.W.findIn X.K (.ref C) "__repr__" = some (some (.ref g))) (hf : PySem.W.isFn X.K (.ref g) = true)
    (F : FnOk X.prog X.w X.K X.mg X.base CX k g fd ps sp) (hr : Room (k + 1) X.A) (hb : Binds X.K fd ps []) (hx : Passes CX X E) : CallR X (.builtin "repr") (fun xs H Q => ∃ x, xs = [x] ∧ rOwn1 C sp E IsStr x H Q) := by
  intro pins s σ H xs us Q I rx h
  obtain ⟨x, rfl, a, dx, fs, rfl, ha, q⟩ := h
  obtain ⟨u, rfl, ru⟩ := vals1 rx
  cases (show u = Value.ref a from ru)
  obtain ⟨od, J⟩ := inst_at I ha
  obtain ⟨m, hF⟩ := I.fr
  refine PySem.W.repr_K hr.in1.units0 hF I.ok.mod.kin J hs hf ?_
  refine wpAny_mono (run_any (us := [.ref a]) (vs := [.ref a]) F hr.in1 I.env0.in1 hb hx I (.cons rfl .nil) q) (fun w s' z => ?_) fun _ _ e => e
  obtain ⟨z', H', I', rz, hz, qz⟩ := z
  exact strback hz rz ⟨z', H', I', rz, qz⟩
theorem call_strO (hs : PySem.W.findIn X.K (.ref C) "__str__" = some (some (.ref g))) (hf : PySem.W.isFn X.K (.ref g) = true)
    (F : FnOk X.prog X.w X.K X.mg X.base CX k g fd ps sp) (hr : Room (k + 2) X.A) (hb : Binds X.K fd ps []) (hx : Passes CX X E) : CallR X (.type "str") (fun xs H Q => ∃ x, xs = [x] ∧ rOwn1 C sp E IsStr x H Q) := by
  intro pins s σ H xs us Q I rx h
  obtain ⟨x, rfl, a, dx, fs, rfl, ha, q⟩ := h
  obtain ⟨u, rfl, ru⟩ := vals1 rx
  cases (show u = Value.ref a from ru)
  obtain ⟨od, J⟩ := inst_at I ha
  refine PySem.W.kso_call (room2 hr).units0 I.kIn J hs hf ?_
  refine wpAny_mono (run_any (us := [.ref a]) (vs := [.ref a]) F (room2 hr) I.env0.in1.in1 hb hx I (.cons rfl .nil) q) (fun w s' z => ?_) fun _ _ e => e
  obtain ⟨z', H', I', rz, hz, qz⟩ := z
  exact strback hz rz ⟨z', H', I', rz, qz⟩

open Builtin in
theorem bool_K {prog : Program} {w : World} {A : Around} {E : Value → Shared → Prop} {s : Shared} {K : PySem.W.Frag} {x C f : Addr} {ox : Obj} {od : Option Obj} {Q : Value → Shared → Prop} {m : Str → Option Value} {h₀ : Heap} {L : Addr} (F : PyProof.Rows.Fr h₀ L s.heap m) (Y : K.In h₀) (I : PySem.W.InstAt s.heap x ox C od)
    (hs : PySem.W.findIn K (.ref C) "__bool__" = some (some (.ref f))) (hf : PySem.W.isFn K (.ref f) = true)
    (h : wpAny (model prog w) A.in1.in1 (call (.ref f) [.ref x]) (PySem.W.BoolBack fun b s' => Q (.bool b) s') E s) : wpAny (model prog w) A (call (.type "bool") [.ref x]) Q E s := by
  refine callType_codes (T := "bool") (Bi := Builtin.«object.__init__») (Q₁ := fun r s₁ => ∃ y, r = .bool y ∧ Q r s₁) PySem.F.called_bool (PySem.F.typeCall_bool_1 _) PySem.F.entry_object_init ?_ ?_
  · refine codeAny_of_tree ?_
    show wpAny _ A.in1.in1 (do checkBuiltinCall "bool.__new__" ⟨[.type "bool", .ref x], []⟩; again (.builtin "bool.__new__" ⟨[.type "bool", .ref x], []⟩)) _ _ s
    refine wpAny_bind (wpAny_of_eq (PySem.F.newCall_bool_1 _) (wpAny_pure ⟨plainId_quiet (by decide +kernel) _, codeAny_builtin PySem.F.entry_bool_new ?_⟩))
    rw [Around.under_plainId (by decide +kernel) _]
    have key : wpAny (model prog w) A.in1.in1 (truthy (.ref x)) (fun b s₁ => Q (.bool b) s₁) E s := PySem.W.truthy_K F Y I hs hf h
    have f1 := PySem.F.conv_sub_bool
    obtain ⟨hp, gg, d, tk, os⟩ := s
    repeat (any_goals (first | assumption | (with_reducible refine wpAny_bind (wpAny_mono key (fun b s1 z => ?_) fun _ _ e => e)) | wp_step))
    all_goals first | exact ⟨_, rfl, z⟩ | exact ⟨_, rfl, _, rfl, z⟩ | skip
  · rintro obj s₁ ⟨y, rfl, hq⟩
    exact ⟨typeIs_bool _ _, PySem.F.args_object_init_2 _ _, object_init_meets PySem.F.called_bool.init.lookup PySem.F.called_bool.made (by decide) prog w A.in1 _ s₁ ⟨typeIs_bool _ _, rfl, hq⟩⟩
end
end OwnOps
end

-- GivErr
section
set_option Elab.async false
set_option linter.all false
set_option maxRecDepth 100000
set_option maxHeartbeats 2000000
/-! An own error class, over any of three built-in ones, that keeps its one argument in the field `given`. -/
namespace PySem
namespace Giv
open PySem.W PySem.Calls PyProof.Rows PySem.HandSPX Builtin Builtin.ObjectAttr
/-- own classes, then the given tail -/
def tailIs (bt : List Value) : List Value → Bool
  | .ref _ :: r => tailIs bt r
  | l => l == bt
theorem tail_cases (bt : List Value) : ∀ l : List Value, tailIs bt l = true → (∃ c r, l = .ref c :: r ∧ tailIs bt r = true) ∨ l = bt := fun l e => by
  cases l with
  | nil => exact .inr (beq_iff_eq.mp e)
  | cons a r => cases a <;> first | exact .inl ⟨_, _, rfl, e⟩ | exact .inr (beq_iff_eq.mp e)
theorem tail_pass {bt : List Value} (hb : ∀ self, refuseLoop self "__setattr__" bt = pure ()) (self : Value) : ∀ l : List Value, tailIs bt l = true → refuseLoop self "__setattr__" l = pure () := fun l => by
  induction l with
  | nil => intro e; rcases tail_cases bt _ e with ⟨_, _, q, _⟩ | q; cases q; rw [q]; exact hb self
  | cons a r ih =>
    intro e
    rcases tail_cases bt (a :: r) e with ⟨c, r', q, h⟩ | q
    · cases q; rw [refuseLoop_ref]; exact ih h
    · rw [q]; exact hb self
theorem tail_has {bt : List Value} (Y : String) : ∀ l : List Value, tailIs bt l = true → l.contains (.type Y) = bt.contains (.type Y) := fun l => by
  induction l with
  | nil => intro e; rcases tail_cases bt _ e with ⟨_, _, q, _⟩ | q; cases q; rw [q]
  | cons a r ih =>
    intro e
    rcases tail_cases bt (a :: r) e with ⟨c, r', q, h⟩ | q
    · cases q; rw [List.contains_cons, ih h]; rfl
    · rw [q]
/-- what is used of the built-in base -/
structure BaseOk (B newId initId : String) (bt : List Value) : Prop where
  facts : ExcBaseFacts B newId initId bt
  pass : ∀ self, refuseLoop self "__setattr__" bt = pure ()
  obj : bt.contains (.type "object") = true
theorem ok_VE : BaseOk "ValueError" "ValueError.__new__" "ValueError.__init__" [.type "ValueError", .type "Exception", .type "BaseException", .type "object"] :=
  ⟨F.excBase_ValueError, fun self => F.store_ValueError.passes self, by decide +kernel⟩
theorem ok_ZD : BaseOk "ZeroDivisionError" "ZeroDivisionError.__new__" "ZeroDivisionError.__init__" [.type "ZeroDivisionError", .type "ArithmeticError", .type "Exception", .type "BaseException", .type "object"] :=
  ⟨F.excBase_ZeroDivisionError, fun self => F.store_ZeroDivisionError.passes self, by decide +kernel⟩

section
variable {prog : Program} {w : World} {A : Around} {E : Value → Shared → Prop} {R : Result → Shared → Prop} {hp : Heap} {g : Array GenState} {d : Drawn} {t : Nat} {os : OsState}
/-- self.name = v on a new exception -/
theorem osa_giv {K : W.Frag} {name : Str} {tk : Tok} {v : Value} {x C : Addr} {fv : Array Value} {cd : ClassData} {bt bm : List Value} (hb : ∀ self, refuseLoop self "__setattr__" bt = pure ()) (hbo : bt.contains (.type "object") = true)
    (Y : K.In hp) (hx : hp.get? x = some { cls := .ref C, data := .fields fv }) (hcd : W.clsIn K C = some cd) (hm : cd.mro = .ref C :: bm) (htl : tailIs bt bm = true) (hh : cd.hasDict = true) (hno : W.findIn K (.ref C) name = some none)
    (fin : ∀ h' tk' dx, (∀ b o, b ≠ x → hp.get? b = some o → h'.get? b = some o) → hp.objs.size ≤ dx → dx ≠ x → h'.get? x = some { cls := .ref C, dict := some dx, data := .fields fv } →
      h'.Ns1 dx (fun y => if y = name then some v else none) → R (.ok (.ret .none)) ⟨h', g, d, tk', os⟩) :
    codeAny (model prog w) A (.call (.builtin "object.__setattr__") ⟨[.ref x, .str name tk, v], []⟩) R ⟨hp, g, d, t, os⟩ := by
  have J : W.InstAt hp x { cls := .ref C, data := .fields fv } C none := ⟨hx, rfl, rfl, trivial⟩
  have SO := F.store_object
  have htail : tailIs bt cd.mro = true := by rw [hm]; exact htl
  have hob2 : cd.mro.contains (.type "object") = true := by rw [tail_has "object" _ htail]; exact hbo
  have hemp : cd.mro.isEmpty = false := by rw [hm]; rfl
  have apart : x ≠ hp.objs.size := Nat.ne_of_lt (Heap.lt_size hx)
  have Lsub : W.Looks (model prog w) hp (isInstance (.ref x) (.type "object")) true :=
    J.type.andThen (W.looks_mroIn Y (by unfold W.mroIn; rw [hcd, Option.bind_some, if_neg (by rw [hemp]; decide), hob2]))
  refine codeAny_call_builtin SO.slot.plain SO.entry (@W.check_slot (model prog w) _ _ ⟨hp, g, d, t, os⟩ "object.__setattr__" "object" "__setattr__" (.ref x)
    [.str name tk, v] [] _ SO.kind SO.split Lsub (SO.args (.ref x) (.str name tk) v) ?_)
  have Lmro : W.Looks (model prog w) hp (mroOf (.ref C)) cd.mro := (W.looks_clsIn Y hcd).andThen .now
  have Lno : W.Looks (model prog w) hp (storeTaker? none) none := .now
  have Lcd : W.Looks (model prog w) hp (classData C) cd := W.looks_clsIn Y hcd
  rw [W.osa_eq, refuse_eq]
  refine wpAny_bind (wpAny_bind (J.type.at (wpAny_bind (Lmro.at ?_))))
  rw [tail_pass hb _ _ htail]
  refine wpAny_pure (wpAny_bind (J.type.at (wpAny_bind ((W.looks_findIn Y hno).at (wpAny_bind (Lno.at ?_))))))
  show wpAny _ _ (storeInOwnDict (.ref x) (.ref C) (.str name tk) name v false) _ _ _
  obtain ⟨c1, c2, c3, c4, c5, c6, c7, c8, c9, c10, c11⟩ := cd
  dsimp only at hh
  subst hh
  unfold storeInOwnDict ownDictForStores
  repeat (first | (with_reducible refine store_in_new ?_ ?_) | (with_reducible refine wpAny_loadPart_at hx ?_) | (with_reducible refine Lcd.at ?_) | wp_step)
  · exact ⟨_, #[], _, (Heap.get?_update_ne _ _ _ _ apart.symm).trans (Heap.get?_push_at rfl rfl), rfl, fun e he => absurd he (by simp), fun _ => rfl⟩
  · intro h' tk' hn' hs
    have hx1 : (hp.push { cls := .type "dict", data := .dict #[] }).get? x = some { cls := .ref C, data := .fields fv } := Heap.get?_push_of_some _ hx
    refine fin h' tk' hp.objs.size (fun b o hb ho => ?_) (Nat.le_refl _) apart.symm ?_ hn'
    · exact (hs.2 b (Nat.ne_of_lt (Heap.lt_size ho))).trans ((Heap.get?_update_ne _ _ _ _ hb).trans (Heap.get?_push_of_some _ ho))
    · exact (hs.2 x apart).trans (Heap.get?_update_self _ hx1 rfl)
end

/-! ### the text of __init__ -/
def gA (p1 p2 : Pos) : Arguments := { posonlyargs := [], args := [{ arg := "self", annotation := none, pos := p1 }, { arg := "given", annotation := none, pos := p2 }], vararg := none, kwonlyargs := [], kw_defaults := [], kwarg := none, defaults := [] }
def gB (q1 q2 q3 q4 : Pos) : List Stmt := [.Assign [.Attribute (.Name "self" q1) "given" q2] (.Name "given" q3) q4]
def gS : Scope := { kind := .function, names := [(PySem.Str.ofString "self", .local), (PySem.Str.ofString "given", .local)], isGenerator := false, isCoroutine := false, more := [] }
/-- what the written part says of the class called cn, at C, and of its __init__, at fI -/
structure ErrTxt (K : Frag) (mg : Str → Option Value) (cn qn : Str) (newId : String) (bt : List Value) (C fI : Addr) : Prop where
  gC : mg cn = some (.ref C)
  cls : ∃ nm q N bs bm sn sub ab col dd k0 k1 k2 k3 k5, K.lookup C = some (excClassObj nm q C N bs bm true sn sub ab col dd k0 k1 k2 k3 k5 newId) ∧ tailIs bt bm = true
  sa : findIn K (.ref C) "__setattr__" = some (some (.builtin "object.__setattr__"))
  ga : findIn K (.ref C) "__getattribute__" = some (some (.builtin "BaseException.__getattribute__"))
  gg : findIn K (.ref C) "__getattr__" = some none
  noN : findIn K (.ref C) "given" = some none
  iC : findIn K (.ref C) "__init__" = some (some (.ref fI))
  tC : typeIn K (.ref fI) = some (.type "function")
  kC : keepIn K (.ref C) = true
  exC : subIn K (.ref C) (.type "BaseException") = some true
  tyC : typeIn K (.ref C) = some (.type "type")
  hdC : hasDictIn K C = true
  te : exmOne K (.ref C) (.ref C) = some true
  fn : ∃ (oc : Value) (od : Option Addr) (doc pm : Value) (an : Option Addr) (cdv ct : Value) (osl : Array (Option Value)) (p1 p2 q1 q2 q3 q4 : Pos),
    K.lookup fI = some ⟨oc, od, .func (fnOf "__init__" qn (gA p1 p2) (gB q1 q2 q3 q4) gS .none .none doc pm an cdv ct), osl⟩ ∧ codeIn K cdv qn = true
theorem one_fits (v : Value) : [v].length ≤ sizeLine := by
  rw [sizeLine_eq]
  exact (by decide : 1 ≤ 16777216)
theorem ldG {M : Model} {s : Shared} {name : Str} {scope : Scope} {L a : Addr} {cd : Value} {m : Str → Option Value} {x : Str} {pos : Pos} {v : Value} {Q : Value → Shared → Prop} {A : Around} {E : Value → Shared → Prop} (hn : s.heap.Ns L m) (hv : m x = some v) (h : Q v s)
    (hk : scope.kind = .function := by rfl) (hl : (envOfC name scope L a cd).kindOf x = some .local := by rfl) (hd : (x == ("__debug__" : Str)) = false := by decide) :
    wpAny M A (eval (.Name x pos) (envOfC name scope L a cd)) Q E s := wpAny_Name (wpAny_loadName_local hk hl hn hv h) hd
/-- what __init__ leaves -/
structure GivEnd (h h' : Heap) (x C dx t1 : Addr) (v : Value) : Prop where
  keep : ∀ b o, b ≠ x → h.get? b = some o → h'.get? b = some o
  obj : h'.get? x = some { cls := .ref C, dict := some dx, data := .fields #[.ref t1, .none, .none, .none, .bool false, .none] }
  dbig : h.objs.size ≤ dx
  dne : dx ≠ x
  ns : h'.Ns1 dx (fun y => if y = "given" then some v else none)
/-- a made one -/
structure GivMade (h h' : Heap) (e C d : Addr) (v : Value) : Prop where
  keep : ∀ b o, h.get? b = some o → h'.get? b = some o
  new : h.objs.size ≤ e
  obj : ∃ oe vs, h'.get? e = some oe ∧ oe.cls = .ref C ∧ oe.dict = some d ∧ oe.data = .fields vs ∧ vs[1]? = some .none
  dbig : h.objs.size ≤ d
  dne : d ≠ e
  ns : h'.Ns1 d (fun y => if y = "given" then some v else none)
section
variable {prog : Program} {w : World} {A : Around} {E : Value → Shared → Prop} {R : Result → Shared → Prop} {s : Shared} {K : Frag} {mg : Str → Option Value} {C fI : Addr} {cn qn : Str} {B newId initId : String} {bt : List Value}
theorem giv_init (Z : BaseOk B newId initId bt) (T : ErrTxt K mg cn qn newId bt C fI) {x t0 : Addr} {v : Value} (X : K.In s.heap) (hlim : s.heap.NoLimit) (hx : s.heap.get? x = some (excO C t0)) (hroom : A.depth < recursionLimit)
    (hq : ∀ h' tk dx, GivEnd s.heap h' x C dx t0 v → R (.ok (.ret .none)) { s with heap := h', toks := tk }) :
    codeAny (model prog w) A (.call (.ref fI) ⟨[.ref x, v], []⟩) R s := by
  obtain ⟨oc, od, doc, pm, an, cdv, ct, osl, p1, p2, q1, q2, q3, q4, ho, hcd⟩ := T.fn
  obtain ⟨nm, q, N, bs, bm, sn, sub, ab, col, dd, k0, k1, k2, k3, k5, hC, hbm⟩ := T.cls
  have hcl : clsIn K C = some { name := nm, bases := bs, mro := .ref C :: bm, ns := N, qualname := q, hasDict := true, slotNames := sn, subclasses := sub, abstract := ab, collection := col, hasDel := false } := by unfold clsIn; rw [hC] <;> rfl
  refine Att.call_fn (binds := [("self", .ref x), ("given", v)]) X hlim ho hcd hroom (BindsTo.of_eq (by first | rfl | with_unfolding_all rfl)) (by first | rfl | decide | with_unfolding_all rfl) (fun s₁ IC => ?_) rfl rfl rfl
  obtain ⟨h₁, tk₁, rfl⟩ := IC.toInCall.same
  have k : ∀ b o, s.heap.get? b = some o → h₁.get? b = some o := IC.toInCall.keep
  have hn := IC.toInCall.ns
  have X₁ : K.In h₁ := X.keeps k
  have hx₁ := k _ _ hx
  show wpAny _ _ (execs _ _) _ _ _
  refine wpAny_execs_cons (plainObj_wpAny_Assign_Attribute ?_)
  refine ldG (v := v) hn (by first | rfl | with_unfolding_all rfl | kernel_rfl) (ldG (v := .ref x) hn (by first | rfl | with_unfolding_all rfl | kernel_rfl) ?_)
  refine set_plain X₁ (ox := excO C t0) (od := none) ⟨hx₁, rfl, rfl, trivial⟩ T.sa ?_
  refine osa_giv Z.pass Z.obj X₁ hx₁ hcl rfl hbm rfl T.noN (fun h₃ tk₃ dx k₃ dn dne hx₃ hn₃ => ?_)
  show wpAny _ _ (execs _ _) _ _ _
  have z : s.heap.objs.size < h₁.objs.size := hn.lt
  exact wpAny_execs_nil (hq h₃ tk₃ dx ⟨fun b o hb e => k₃ b o hb (k b o e), hx₃, Nat.le_of_lt (Nat.lt_of_lt_of_le z dn), dne, hn₃⟩)
theorem giv_made (Z : BaseOk B newId initId bt) (T : ErrTxt K mg cn qn newId bt C fI) {v : Value} (X : K.In s.heap) (hlim : s.heap.NoLimit) (hroom : A.depth + 1 < recursionLimit)
    (hq : ∀ h' tk e d, GivMade s.heap h' e C d v → R (.ok (.ret (.ref e))) { s with heap := h', toks := tk }) :
    codeAny (model prog w) A (.call (.ref C) ⟨[v], []⟩) R s := by
  obtain ⟨nm, q, N, bs, bm, sn, sub, ab, col, dd, k0, k1, k2, k3, k5, hC, hbm⟩ := T.cls
  obtain ⟨hp, g, dr, tk, os⟩ := s
  have k : ∀ b o, hp.get? b = some o → ((hp.push (kdv_tup [v])).push (excO C hp.objs.size)).get? b = some o := fun b o e => Heap.get?_push_of_some _ (Heap.get?_push_of_some _ e)
  have hget : ((hp.push (kdv_tup [v])).push (excO C hp.objs.size)).get? (hp.objs.size + 1) = some (excO C hp.objs.size) := by heap_get
  refine call_own Z.facts (fun X => tail_has X bm hbm) (X _ _ hC) (looks_findIn X T.iC) (fun self => bind_fn X self T.tC) (one_fits v) ?_
  refine giv_init (s := ⟨(hp.push (kdv_tup [v])).push (excO C hp.objs.size), g, dr, tk, os⟩) Z T (X.keeps k) (hlim.keeps k) hget ?_ fun h' tk' dx ⟨k', hx, dn, dne, hns⟩ => ?_
  · show A.depth + 1 < recursionLimit
    exact hroom
  · have old : ∀ b o, hp.get? b = some o → h'.get? b = some o := fun b o e => k' b o (Nat.ne_of_lt (Nat.lt_succ_of_lt (Heap.lt_size e))) (k b o e)
    have z : hp.objs.size + 1 + 1 ≤ dx := by
      first
        | (simpa only [Heap.size_push] using dn)
        | exact dn
        | (have q := dn; rw [Heap.size_push, Heap.size_push] at q; exact q)
    exact ⟨rfl, hq h' tk' (hp.objs.size + 1) dx ⟨old, Nat.le_succ _, ⟨_, _, hx, rfl, rfl, rfl, rfl⟩, Nat.le_trans (Nat.le_trans (Nat.le_succ _) (Nat.le_succ _)) z, dne, hns⟩⟩
end
end Giv
end PySem
end

-- GivErr2
section
set_option Elab.async false
set_option linter.all false
set_option maxRecDepth 100000
set_option maxHeartbeats 2000000
namespace L2
open PySem PySem.Spec PyProof.Rows
theorem relO_giv {v : V} {v' : Value} (r : RelV v v') (f : Str) : RelO (List.lookup f [(("given" : Str), v)]) (if f = "given" then some v' else none) := by
  by_cases hw : f = "given"
  · subst hw
    rw [if_pos rfl]
    have q : List.lookup ("given" : Str) [(("given" : Str), v)] = some v := by simp [List.lookup]
    rw [q]
    exact r
  · rw [if_neg hw]
    have qw : (f == ("given" : Str)) = false := by simpa using hw
    have q2 : List.lookup f [(("given" : Str), v)] = none := by simp [List.lookup, qw]
    rw [q2]
    trivial
section
variable {X : Cx} {C fI : Addr} {cn qn : Str} {B newId initId : String} {bt : List Value}
/-- Err(e) -/
def tMkGiv (C : Addr) (ta : TA) : L2.St → Hp → XK → Prop := fun σ H Q => ta σ H fun vs H1 => ∃ v, vs = [v] ∧ ∀ d, H1 d = none → Q (.ref C) (some d) (upd H1 d (.xd [(("given" : Str), v)]))
theorem pmk_giv {a : Expr} {ta : TA} {p pos : Pos} {k : Nat} (Z : PySem.Giv.BaseOk B newId initId bt) (T : PySem.Giv.ErrTxt X.K X.mg cn qn newId bt C fI) (hr : Room k X.A) (ha : PA X [a] ta) (hg : Gl X cn) (hdb : (cn == ("__debug__" : Str)) = false)
    (he : starEach (a :: []) X.env = (false, eval a X.env) :: starEach [] X.env := by rfl) (hpl : (backTo pos (starEach [] X.env)).any (·.1) = false := by rfl) :
    PMk X (.Call (.Name cn p) [a] [] pos) (tMkGiv C ta) := by
  intro pins s σ H Q I h
  refine wpAny_Call_Name_kw (ld_glob I hg T.gC ?_ hdb)
  refine PySem.W.callWith_K (h₀ := X.base) I.ok.mod.kin T.kC (thn (ha.run pos pins s σ H _ I h) fun us s1 hh => ?_) he hpl
  obtain ⟨vs, H1, I1, r1, v, ev, q1⟩ := hh
  subst ev
  refine ⟨I1.kIn, ?_⟩
  cases r1 with
  | cons rv rn =>
    rename_i v' us'
    cases rn
    show wpAny _ _ (call (.ref C) [v']) _ _ _
    have hlim := I1.nolimit
    obtain ⟨hp, g, dr, tk, os⟩ := s1
    refine wpAny_call (PySem.Giv.giv_made Z T I1.kIn hlim (by have := hr.dp; omega) fun h' tk' e d M => ?_)
    show MkP X pins σ Q (.ref e) ⟨h', g, dr, tk', os⟩
    obtain ⟨oe, fv, hoe, hc, hd, hdat, h1⟩ := M.obj
    have hns := M.ns
    obtain ⟨G', g1, g2⟩ := restrict h' fun b => decide (b ≠ e)
    have gk : ∀ b, b ≠ e → G'.get? b = h'.get? b := fun b hb => g1 b (decide_eq_true hb)
    have ge : G'.get? e = none := g2 e (by simp)
    have old : ∀ b o, hp.get? b = some o → G'.get? b = some o := fun b o q => (gk b (Nat.ne_of_lt (Nat.lt_of_lt_of_le (Heap.lt_size q) M.new))).trans (M.keep b o q)
    have ob : ObjOk X.prog X.w (upd H1 d (.xd [(("given" : Str), v)])) G' d (.xd [(("given" : Str), v)]) :=
      ⟨_, hns.at (fun o q => (gk d M.dne).trans q), fun f => relO_giv rv f⟩
    have J : L2.Inv X pins σ (upd H1 d (.xd [(("given" : Str), v)])) ⟨G', g, dr, tk', os⟩ := I1.laid (t' := tk') old M.dbig ob
    refine ⟨e, oe, fv, ⟨G', g, dr, tk', os⟩, _, .ref C, some d, rfl, J, fun b o q => ?_, ge, hoe, ⟨hc, hd⟩, hdat, h1, ?_, rfl, I1.bare, raises_own T.exC T.tyC, q1 d (I1.hok.fresh M.dbig)⟩
    · by_cases hb : b = e
      · have q' : G'.get? b = some o := q
        rw [hb, ge] at q'; cases q'
      · exact (gk b hb).symm.trans q
    · rw [upd_ne (Ne.symm M.dne)]
      exact I1.hok.fresh M.new
/-- raise Err(e) -/
def tRaiseGiv (C : Addr) (W : WX) (ta : TA) : TS := fun _ σ H => tMkGiv C ta σ H fun cls d H' => W cls d σ H'
theorem ps_raiseGiv {a : Expr} {ta : TA} {W : WX} {p pos pos2 : Pos} {k : Nat} (hc : X.calm = true) (Z : PySem.Giv.BaseOk B newId initId bt) (T : PySem.Giv.ErrTxt X.K X.mg cn qn newId bt C fI) (hr : Room k X.A) (tk : Takes X W) (ha : PA X [a] ta) (hg : Gl X cn) (hdb : (cn == ("__debug__" : Str)) = false := by decide)
    (he : starEach (a :: []) X.env = (false, eval a X.env) :: starEach [] X.env := by rfl) (hpl : (backTo pos (starEach [] X.env)).any (·.1) = false := by rfl) :
    PS X (.Raise (some (.Call (.Name cn p) [a] [] pos)) none pos2) (tRaiseGiv C W ta) := ps_raise hc tk (pmk_giv Z T hr ha hg hdb he hpl)
/-- err.given, err the exception that the suite holds (at a; its class cls, its dict d) -/
def tByGiv (C : Addr) (a : Addr) (cls : Value) (d : Option Addr) (te : TE) : TE := fun σ H Q => te σ H fun x H1 => x = .ref a ∧ cls = .ref C ∧ ∃ (dd : Addr) (v : V), d = some dd ∧ H1 dd = some (.xd [(("given" : Str), v)]) ∧ Q v H1
theorem pe_byGiv {a : Addr} {oe : Obj} {cls : Value} {d : Option Addr} {pn : List (Addr × Obj)} {e : Expr} {te : TE} {pos : Pos} (T : PySem.Giv.ErrTxt X.K X.mg cn qn newId bt C fI) (hz : Zc cls d oe) (hf : ∃ vs, oe.data = .fields vs) (he : PE (X.suite a ((a, oe) :: pn)) e te)
    (hb : attributeBase e "given" X.env (eval e X.env) = eval e X.env := by rfl) :
    PE (X.suite a ((a, oe) :: pn)) (.Attribute e "given" pos) (tByGiv C a cls d te) := by
  refine ⟨fun pins s σ H Q I h => ?_⟩
  refine attr_of hb (thn (he.run pins s σ H _ I h) fun u s1 hh => ?_)
  obtain ⟨x, H1, I1, rx, ex, ec, dd, v, ed, ea, q⟩ := hh
  subst ex
  obtain rfl : u = Value.ref a := rx
  subst ec
  subst ed
  obtain ⟨ha, _⟩ := I1.pin (a, oe) (List.mem_append_left _ List.mem_cons_self)
  obtain ⟨vs, hd⟩ := hf
  have hx : ObjOk X.prog X.w H1 s1.heap dd (.xd [(("given" : Str), v)]) := I1.hok dd _ ea
  obtain ⟨mA, hns, hr⟩ := hx
  obtain ⟨od, ho, hl⟩ := lookIn_ns hns
  have l : List.lookup ("given" : Str) [(("given" : Str), v)] = some v := by simp [List.lookup]
  obtain ⟨u, hu, ru⟩ := RelO.some_of (v := v) (o := mA "given") (by rw [← l]; exact hr "given")
  have J : PySem.W.InstAt s1.heap a oe C (some od) := ⟨ha, hz.1, by unfold PySem.W.notCls; rw [hd] <;> rfl, by rw [hz.2]; exact ho⟩
  exact HandSPX.exc_get I1.kIn J T.ga T.gg T.exC (PySem.W.findObj_own T.hdC T.noN rfl (by rw [hl, hu])) (handed_of ru) ⟨v, H1, I1.tok _, ru, q⟩
end
end L2
end

-- TryAs
section
set_option Elab.async false
set_option linter.all false
set_option maxRecDepth 100000
/-! try: with several clauses «except X as n». -/
namespace TryAs
open PySem L2
/-- the ends of a clause's suite: slot i is emptied on every way out -/
def endsAs (D : Ends) (i : Nat) : Ends where
  nx := fun t K => D.nx (t.set i none) K
  rt := D.rt
  bk := fun t K => D.bk (t.set i none) K
  ct := fun t K => D.ct (t.set i none) K
abbrev Cl := Value × Nat × (Addr → Value → Option Addr → TS)
def wAll (K : PySem.W.Frag) (Wout : WX) (D : Ends) : List Cl → WX
  | [] => Wout
  | (c, i, ts) :: r => fun cls d σ H => ∃ b, PySem.W.exmOne K cls c = some b ∧
      (b = true → ∀ a, H a = none → ts a cls d (endsAs D i) (σ.set i (some (.ref a))) H) ∧ (b = false → wAll K Wout D r cls d σ H)
inductive Clauses (X : Cx) : List ExceptHandler → List Cl → Prop
  | nil : Clauses X [] []
  | cons {x n : Str} {c : Value} {i : Nat} {ts : Addr → Value → Option Addr → TS} {fst : Stmt} {suite : List Stmt} {np hpos : Pos} {hds : List ExceptHandler} {l : List Cl}
      (at_ : X.N[i]? = some n) (loc : X.env.kindOf n = some .local) (nam : Names X x c)
      (run : ∀ (a : Addr) (oe : Obj) (cls : Value) (d : Option Addr) (pn : List (Addr × Obj)), Zc cls d oe → (∃ vs, oe.data = .fields vs) → PSs (X.suite a ((a, oe) :: pn)) (fst :: suite) (ts a cls d))
      (more : Clauses X hds l) : Clauses X (.ExceptHandler (some (.Name x np)) (some n) (fst :: suite) hpos :: hds) ((c, i, ts) :: l)
section
variable {X : Cx} {body : List Stmt} {hd0 : ExceptHandler} {hds : List ExceptHandler} {l : List Cl} {pos : Pos} {tb : WX → TS} {Wout : WX}
theorem ps_try_all (stk : X.stack = X.env :: X.outer) (frm : X.env.frame = some X.env.locals) (nod : X.N.Nodup) (tk : Takes X Wout)
    (hb : ∀ (W : WX) (pn : List (Addr × Obj)) (xe : Value → Shared → Prop), Takes (X.tr pn xe) W → PassesOwn (model X.prog X.w) X.A X.env xe → PSs (X.tr pn xe) body (tb W))
    (cl : Clauses X (hd0 :: hds) l) : PS X (.Try body (hd0 :: hds) [] [] pos) (fun D σ H => tb (wAll X.K Wout D l) D σ H) := by
  constructor
  intro pins s σ H D I h
  have okX := I.ok
  have frs2 : X.A.frames = some (X.env :: X.outer) := by rw [okX.frames, stk]
  refine wpAny_Try_except ?_
  refine wpAny_mono ((hb (wAll X.K Wout D l) (X.pn ++ pins)
    (fun e s₁ => wpAny (model X.prog X.w) X.A (noteFrame e X.env)
      (fun _ s₂ => wpAny (model X.prog X.w) X.A (setFlight e none)
        (fun _ s₃ => wpAny (model X.prog X.w) X.A (handleBy e X.env (hd0 :: hds)) (SP X pins D) X.xe s₃) X.xe s₂) X.xe s₁)
    (fun u s' xx => ?_) PassesOwn.looking).run [] s σ H D (I.toTry _) h) (fun f s1 hsp => ?_) (fun e s1 he => he)
  · obtain ⟨a, B, sI, pins1, σ1, H1, cls, d, rfl, J0, nb, up, sky, na, os, ag, w⟩ := xx
    have J1 : L2.Inv X pins σ1 H1 sI := J0.ofTry okX
    have sky1 : Sky B (X.env :: X.outer) a (Zc cls d) X.env.locals s'.heap := by rw [← stk]; exact sky
    show wpAny (model X.prog X.w) X.A (noteFrame (.ref a) X.env) _ _ _
    refine Sky.land Zc.steady frs2 frm sky1 fun h3 fl3 up3 => ?_
    have J3 : L2.Inv X pins σ1 H1 { s' with heap := h3 } := J1.landed nb fl3.1 (up.trans up3) os ag
    obtain ⟨oe3, vs3, he3, hz3, hd3⟩ := fl3.there
    have apart : a ∉ frs (X.env :: X.outer) := fun hm => by
      obtain ⟨_, o', e', hnf⟩ := fl3.2.2.1.mem hm
      have q : some o' = some oe3 := e'.symm.trans he3
      cases q
      exact hnf _ hd3
    have notL : a ≠ X.env.locals := fun z => apart (List.mem_filterMap.mpr ⟨X.env, List.mem_cons_self, by rw [frm, z]⟩)
    have notF : a ∉ X.fs := fun hm => by
      obtain ⟨e, he, q⟩ := List.mem_filterMap.mp hm
      exact apart (List.mem_filterMap.mpr ⟨e, List.mem_cons_of_mem _ he, q⟩)
    have S3 := J3.suite he3 hd3 na notL notF
    have go : ∀ {hs2 : List ExceptHandler} {l2 : List Cl}, Clauses X hs2 l2 → wAll X.K Wout D l2 cls d σ1 H1 →
        wpAny (model X.prog X.w) X.A (handleBy (.ref a) X.env hs2) (SP X pins D) X.xe { s' with heap := h3 } := by
      intro hs2 l2 hk
      induction hk with
      | nil =>
        intro w
        refine wpAny_handleBy_nil ?_
        obtain ⟨k1, k2, k3, oe, vs, T, oT, ts', he, hz, hd, h1, hr⟩ := id fl3
        unfold PySem.passOn
        refine wpAny_bind (wpAny_field he hd h1 ?_)
        have tn : ¬ ((Value.ref T == Value.none) = true) := by simp
        rw [if_neg tn]
        have fin : wpAny (model X.prog X.w) X.A (setFlight (.ref a) X.env.frame) (fun _ s4 => wpAny (model X.prog X.w) X.A (throw (.ref a) : Sem Flow) (SP X pins D) X.xe s4) X.xe { s' with heap := h3 } := by
          rw [frm]
          refine HandSPX.setFlight_upZ fl3 fun h4 hh4 up4 => wpAny_throw (tk _ _ ?_)
          exact ⟨a, B, sI, pins, σ1, H1, cls, d, rfl, J1, nb, (up.trans up3).trans up4, .inr (.inr (by rw [stk]; exact hh4)), na, os, ag, w⟩
        first | exact (wpAny_bind (wpAny_pure (wpAny_bind fin))) | exact (wpAny_bind fin)
      | @cons x n c i ts fst suite np hpos hs3 l3 at_ loc nam run more ih =>
        intro w
        obtain ⟨b, hb1, yes, no⟩ := w
        have slot : Loc X.env.scope n := .inl loc
        refine wpAny_handleBy_cons (codeAny_handlers_test ?_) (by intro q; cases q)
        have Lty : PySem.W.Looks (model X.prog X.w) h3 (typeOf (.ref a)) cls := fun A Q E s k q => wpAny_typeOf_ref (k _ _ he3) (by rw [hz3.1]; exact q)
        have Lex := PySem.W.exm_one (M := model X.prog X.w) (J3.kIn) Lty hb1
        have tst : ∀ {Q : Value → Shared → Prop} {E : Value → Shared → Prop}, Q c { s' with heap := h3 } → wpAny (model X.prog X.w) (X.A.mark (some (.ref a))) (eval (.Name x np) X.env) Q E { s' with heap := h3 } := fun {Q E} q => by
          obtain ⟨hg, ndb, hm | ⟨hm, hv, nn⟩⟩ := nam
          · exact (ld_glob (X := X.suite a ((a, oe3) :: (X.pn ++ pins))) S3 hg hm q ndb)
          · exact (ld_blt (X := X.suite a ((a, oe3) :: (X.pn ++ pins))) S3 hg hm hv q nn ndb)
        refine tst (Lex.here ?_)
        cases b with
        | true =>
          refine codeAny_handlers_suite_as ?_
          refine HandSPX.lands_againZ fl3 fun h4 fl4 up4 => ?_
          have J4 : L2.Inv X pins σ1 H1 { s' with heap := h4 } := J1.landed nb fl4.1 ((up.trans up3).trans up4) os ag
          obtain ⟨oe4, vs4, he4, hz4, hd4⟩ := fl4.there
          have S4 := J4.suite he4 hd4 na notL notF
          refine store_ok (X := X.suite a ((a, oe4) :: (X.pn ++ pins))) (v := .ref a) S4 nod at_ slot rfl (fun s5 S5 => ?_) (.inr loc)
          refine wpAny_mono ((run a oe4 cls d (X.pn ++ pins) hz4 ⟨_, hd4⟩).run [] s5 _ H1 _ S5 (yes rfl a na)) (fun f s6 hsp => ?_) (fun _ _ z => False.elim z)
          have wipe : ∀ {t6 : L2.St} {K6 : Hp} {Q : Shared → Prop}, L2.Inv (X.suite a ((a, oe4) :: (X.pn ++ pins))) [] t6 K6 s6 → (∀ s7, L2.Inv X pins (t6.set i none) K6 s7 → Q s7) →
              wpAny (model X.prog X.w) X.A (do bindName X.env n .none; unbindBehindTheSuite X.env n hpos) (fun _ s7 => Q s7) X.xe s6 := fun {t6 K6 Q} S6 hq => gone_ok (S6.unsuite okX) nod at_ loc hq
          cases f with
          | next =>
            obtain ⟨t6, K6, S6, q6⟩ := hsp
            exact (wipe S6 fun s7 J7 => ⟨_, _, J7, q6⟩)
          | brk =>
            obtain ⟨t6, K6, S6, q6⟩ := hsp
            exact (wipe S6 fun s7 J7 => ⟨_, _, J7, q6⟩)
          | cont =>
            obtain ⟨t6, K6, S6, q6⟩ := hsp
            exact (wipe S6 fun s7 J7 => ⟨_, _, J7, q6⟩)
          | ret u =>
            obtain ⟨v6, t6, K6, S6, r6, q6⟩ := hsp
            exact (wipe S6 fun s7 J7 => ⟨_, _, _, J7, r6, q6⟩)
        | false =>
          show wpAny _ X.A (handleBy (.ref a) X.env hs3) _ _ _
          exact ih (no rfl)
    exact go cl w
  · cases f with
    | next =>
      obtain ⟨t1, K1, J1, q⟩ := hsp
      exact wpAny_execs_nil ⟨t1, K1, J1.ofTry okX, q⟩
    | brk =>
      obtain ⟨t1, K1, J1, q⟩ := hsp
      exact ⟨t1, K1, J1.ofTry okX, q⟩
    | cont =>
      obtain ⟨t1, K1, J1, q⟩ := hsp
      exact ⟨t1, K1, J1.ofTry okX, q⟩
    | ret u =>
      obtain ⟨v1, t1, K1, J1, r, q⟩ := hsp
      exact ⟨v1, t1, K1, J1.ofTry okX, r, q⟩
/-- an exception of a callee, wished for at every state of the slots that fits -/
def EAll (X : Cx) (W : WX) : XK := fun cls d H' => ∀ t : L2.St, t.length = X.N.length → W cls d t H'
theorem pass_all {W : WX} (tk : Takes X W) : Passes (L2.CX X.prog X.w) X (EAll X W) := fun _ _ _ _ _ _ I c =>
  tk _ _ (XE.of_call I (fun _ _ _ z => z _ I.len) c)
end
end TryAs
end

-- OwnOps5
section
set_option Elab.async false
set_option linter.all false
set_option maxRecDepth 100000
namespace OwnOps
open PySem L2

section
variable {prog : Program} {w : World} {A : Around} {E : Value → Shared → Prop} {s : Shared} {K : PySem.W.Frag} {x C g : Addr} {ox : Obj} {od : Option Obj} {u : Value} {T : String}
/-- x op u by x's own def, u of a built-in type that is told by a look -/
theorem left_K {op : Operator} {fo ro rc : Option Value} {Q : Value → Shared → Prop} (Y : K.In s.heap) (I : PySem.W.InstAt s.heap x ox C od)
    (ht : PySem.W.Looks (model prog w) s.heap (typeOf u) (.type T)) (hc : PySem.W.selfFirst K C = true)
    (hs : PySem.W.findIn K (.ref C) (PySem.dunder op.info.2) = some (some (.ref g))) (hg : PySem.W.isFn K (.ref g) = true)
    (hrc : PySem.W.findIn K (.ref C) (PySem.dunderR op.info.2) = some rc) (hp : rc = none ∨ ∃ q : Addr, rc = some (.ref q))
    (hfo : PySem.W.findIn K (.type T) (PySem.dunder op.info.2) = some fo) (hro : PySem.W.findIn K (.type T) (PySem.dunderR op.info.2) = some ro) (hsub : PySem.W.subIn K (.type T) (.ref C) = some false)
    (h : wpAny (model prog w) A (call (.ref g) [.ref x, u]) (PySem.W.CmpBack Q) E s) : wpAny (model prog w) A (binaryOp op (.ref x) u) Q E s := by
  obtain ⟨dat, tl, hcd, hmro⟩ := PySem.W.ksp_first hc
  rcases hi : op.info with ⟨sy, nam⟩
  rw [hi] at hs hrc hfo hro
  dsimp only at hs hrc hfo hro
  have one := PySem.W.ksp_try Y I hs hg h
  obtain ⟨hh, gg, d, tt, os⟩ := s
  have M1 : PySem.W.Looks (model prog w) hh (typeOf (.ref x)) (.ref C) := I.type
  have M3 : PySem.W.Looks (model prog w) hh (fillsNumberSlot (.ref C) nam) true := PySem.W.fills_K Y hcd hmro hs
  have M4 : PySem.W.Looks (model prog w) hh (fillsNumberSlot (.type T) nam) ((fo.isSome && !isSeqSlot fo) || (ro.isSome && !isSeqSlot ro)) := PySem.W.ksp_fillsT Y hfo hro
  have M5 : PySem.W.Looks (model prog w) hh (isSubtype (.type T) (.ref C)) false := PySem.W.looks_subIn Y hsub
  have M6 : PySem.W.Looks (model prog w) hh (numberSlotInPython (.ref C) nam) true := PySem.W.ksp_inPy Y hs hrc hp
  have M7 : PySem.W.Looks (model prog w) hh (numberSlotInPython (.type T) nam) false := PySem.W.Looks.of_pure rfl
  have M8 : PySem.W.Looks (model prog w) hh (typeLookup (.type T) (PySem.dunderR nam)) ro := PySem.W.looks_findIn Y hro
  generalize ((fo.isSome && !isSeqSlot fo) || (ro.isSome && !isSeqSlot ro)) = fills at M4
  have differ : (Value.ref C == Value.type T) = false := Bool.eq_false_iff.mpr fun q => by cases beq_iff_eq.mp q
  simp only [binaryOp, hi]
  refine wpAny_holding (wpAny_bind ?_)
  unfold binaryOp1
  refine wpAny_bind (M1.at (wpAny_bind (ht.at (wpAny_bind (M3.at ?_)))))
  simp only [differ, Bool.false_eq_true, if_false]
  cases fills
  all_goals
    ksp_lk
    refine wpAny_mono one (fun r s' back => ?_) fun _ _ e => e
    obtain ⟨v, rfl, hq⟩ := back
    ksp_lk
    exact hq
end
end OwnOps
end

-- OwnNe
section
set_option Elab.async false
set_option linter.all false
set_option maxRecDepth 100000
/-! != of two lists that are equal item by item, by an own == too. -/
namespace OwnNe
open PySem PySem.SeqAt GQ
open AutoSeq1 (wpAny_loadPart')
open MeetsSeq MeetsSeq2 MeetsSeq3 SeqRoads2
section
variable {prog : Program} {w : World} {A : Around} {R : Result → Shared → Prop} {E : Value → Shared → Prop}
/-- the loop over the items, from i on: all are equal, so the answer is no -/
theorem loopN (l b : Addr) (N : Nat) (I : Nat → Shared → Prop) (hl : ListI prog w A (fun e s' => R (.error e) s') l b N I) (fin : ∀ s, I N s → R (.ok (.ret (.bool false))) s) :
    ∀ (k i : Nat), N - i = k → i ≤ N → ∀ s, I i s → wpAny (model prog w) A.in1 (Builtin.«list.__eq__.loop» ⟨[.ref l, .ref b, rawInt i, rawInt 3], []⟩) (FinOf prog w A R) (fun e s' => R (.error e) s') s
  | 0, i, hk, hi, s, h => by
    obtain ⟨xs, ys, n, n2, hl1, hb1, z1, z2, _⟩ := hl _ _ h
    have last : i = N := by omega
    have done : R (.ok (.ret (.bool false))) s := fin s (last ▸ h)
    obtain ⟨hp, g, d, tk, os⟩ := s
    wp_walk using wpAny_loadPart' hl1, wpAny_loadPart' hb1
    have no1 : xs[((i : Nat) : Int).toNat]? = none := by simp; omega
    have no2 : ys[((i : Nat) : Int).toNat]? = none := by simp; omega
    rw [no1, no2]
    wp_walk using wpAny_loadPart' hl1, wpAny_loadPart' hb1
    show R (.ok (.ret (.bool (xs.size != ys.size)))) _
    rw [z1, z2]
    simpa using done
  | k + 1, i, hk, hi, s, h => by
    obtain ⟨xs, ys, n, n2, hl1, hb1, z1, z2, one⟩ := hl _ _ h
    have lt1 : i < xs.size := by omega
    have lt2 : i < ys.size := by omega
    have here := one lt1 lt2
    obtain ⟨hp, g, d, tk, os⟩ := s
    wp_walk using wpAny_loadPart' hl1, wpAny_loadPart' hb1
    have is1 : xs[((i : Nat) : Int).toNat]? = some xs[i] := by simp [lt1]
    have is2 : ys[((i : Nat) : Int).toNat]? = some ys[i] := by simp [lt2]
    have up : ((i : Int) + 1) = ((i + 1 : Nat) : Int) := by omega
    rw [is1, is2]
    refine wpAny_bind (wpAny_mono here (fun r s2 q => ?_) fun _ _ x => x)
    obtain ⟨hr, q⟩ := q
    subst hr
    have rest := loopN l b N I hl fin k (i + 1) (by omega) (by omega) s2 q
    obtain ⟨hp2, g2, d2, tk2, os2⟩ := s2
    wp_walk
    rw [up]
    exact ⟨plainId_quiet plain_eq_loop _, codeAny_builtin entry_eq_loop (by rw [Around.under_plainId plain_eq_loop _] <;> exact rest)⟩
theorem listN (l b : Addr) (N : Nat) (I : Nat → Shared → Prop) (hl : ListI prog w A (fun e s' => R (.error e) s') l b N I) (fin : ∀ s, I N s → R (.ok (.ret (.bool false))) s) {s : Shared} (h : I 0 s) :
    wpAny (model prog w) A.in1 (Builtin.«list.__ne__» ⟨[.ref l, .ref b], []⟩) (FinOf prog w A R) (fun e s' => R (.error e) s') s := by
  obtain ⟨xs, ys, n, n2, hl1, hb1, z1, z2, _⟩ := hl _ _ h
  have rest := loopN (A := A) (R := R) l b N I hl fin _ 0 rfl (Nat.zero_le _) s h
  obtain ⟨hp, g, d, tk, os⟩ := s
  have sub := AutoSeq1.sub_list_list
  have same : ¬ (xs.size != ys.size) = true := by simp [z1, z2]
  wp_walk using wpAny_loadPart' hl1, wpAny_loadPart' hb1
  exact ⟨plainId_quiet plain_eq_loop _, codeAny_builtin entry_eq_loop (by rw [Around.under_plainId plain_eq_loop _] <;> exact rest)⟩
theorem rcN {l b : Addr} {N : Nat} {Q : Value → Shared → Prop} {s : Shared} (hu : A.units < cLine) (I : Nat → Shared → Prop) (hl : ListI prog w A E l b N I)
    (fin : ∀ s, I N s → Q (.bool false) s) (h : I 0 s) : wpAny (model prog w) A (richCompare .NotEq (.ref l) (.ref b)) Q E s := by
  obtain ⟨xs, ys, n, n2, hl1, hb1, _, _, _⟩ := hl _ _ h
  refine wpAny_richCompare_same_room (op := .NotEq) ⟨_, hl1, rfl⟩ ⟨_, hb1, rfl⟩ F.slot_list_ne (call_here F.slot_list_ne ⟨_, hl1, rfl⟩ F.entry_list_ne (F.args_list_ne_2 _ _) ?_) hu
  exact listN (R := wants (fun v s' => v ≠ .notImplemented ∧ Q v s') E) l b N I hl (fun s' q => ⟨(fun x => nomatch x), fin s' q⟩) h
end
open L2
/-- x != y of two lists, item by item equal -/
def rNeG (D : Eqv) : R2 := fun x y H Q => DList D x y H ∧ ∀ H', Ext H H' → Q (.bl false) H'
theorem op_neG {X : Cx} {n : Nat} {D : Eqv} (hD : Mon D) (h : EqG X n D) (hr : Room (n + 1) X.A) : OpR X (compareOp .NotEq) (rNeG D) := by
  intro pins s σ H x y v u Q I rx ry hq
  obtain ⟨⟨a, b, xs, ys, rfl, rfl, ha, hb, p⟩, q⟩ := hq
  cases rx
  cases ry
  have sb : Sub X (n + 1) X.A := ⟨hr, rfl⟩
  show wpAny (model X.prog X.w) X.A (richCompare .NotEq (.ref a) (.ref b)) (EP X pins σ Q) X.xe s
  refine rcN (N := xs.length) hr.units0 (fun _ s' => LoopI X pins σ H s') (fun i s' z => ?_) (fun s' ⟨H', I', e⟩ => ⟨.bl false, H', I', rfl, q H' e⟩) ⟨H, I, Ext.rfl'⟩
  obtain ⟨H1, I1, e1⟩ := id z
  obtain ⟨zz, its, k, r, e⟩ := I1.hok a _ (e1 _ _ ha)
  obtain ⟨zz2, its2, k2, r2, e2⟩ := I1.hok b _ (e1 _ _ hb)
  refine ⟨its.toArray, its2.toArray, k, k2, e, e2, by rw [List.size_toArray, ← r.length], by rw [List.size_toArray, ← r2.length, ← p.1], fun h1 h2 => ?_⟩
  exact turnG hD h sb p r r2 i h1 h2 s' z
/-- the same thing -/
def DSame : Eqv := fun x y _ => x = y ∧ ∃ a, x = .ref a
theorem mon_same : Mon DSame := fun _ _ _ _ _ d => d
theorem eqG_same {X : Cx} {n : Nat} : EqG X n DSame := by
  intro A pins s σ H x y u v sb I rx ry d
  obtain ⟨rfl, a, rfl⟩ := d
  cases rx
  cases ry
  exact SeqAt.EqAt.same (A := A) (s := s) (.ref a) X.prog X.w X.xe _ ⟨rfl, H, I, Ext.rfl'⟩
end OwnNe
end

-- OwnNe2
section
set_option Elab.async false
set_option linter.all false
set_option maxRecDepth 100000
namespace OwnNe
open PySem L2
def rNeEmp : R2 := fun x y H Q => ∃ l b xs, x = .ref l ∧ y = .ref b ∧ H l = some (.lst xs) ∧ H b = some (.lst []) ∧ Q (.bl (!xs.isEmpty)) H
/-- a list != [] -/
theorem op_neEmp {X : Cx} (hu : X.A.units < cLine) : OpR X (compareOp .NotEq) rNeEmp := by
  intro pins s σ H x y v u Q I rx ry h
  obtain ⟨l, b, xs, rfl, rfl, hl, hb, q⟩ := h
  cases rx
  cases ry
  obtain ⟨_, its, n, r, _, e⟩ := I.lstM hl
  obtain ⟨_, its2, n2, r2, _, e2⟩ := I.lstM hb
  cases r2
  have L1 : s.heap.IsList l its.toArray := ⟨_, e, rfl, n, rfl⟩
  have L2' : s.heap.IsList b ([] : List Value).toArray := ⟨_, e2, rfl, n2, rfl⟩
  show wpAny (model X.prog X.w) X.A (richCompare .NotEq (.ref l) (.ref b)) (EP X pins σ Q) X.xe s
  cases r with
  | nil => exact PySem.SeqAt.RcNeAt.lists (e := fun _ => true) L1 L2' rfl hu (fun j h1 _ => absurd h1 (by simp)) X.prog X.w X.xe _ ⟨.bl false, H, I, rfl, q⟩
  | cons a r => exact PySem.SeqAt.RcNeAt.lists_lengths L1 L2' (by simp) hu X.prog X.w X.xe _ ⟨.bl true, H, I, rfl, q⟩
end OwnNe
end

-- OwnNe3
section
set_option Elab.async false
set_option linter.all false
set_option maxRecDepth 100000
/-! Either of two rules; != by an own == alone; == of two lists, told as a truth. -/
namespace OwnNe
open PySem PySem.SeqAt GQ L2 OwnOps
open AutoSeq1 (wpAny_loadPart')
open MeetsSeq MeetsSeq2 MeetsSeq3 SeqRoads2
theorem op_or {X : Cx} {f : Value → Value → Sem Value} {r1 r2 : R2} (h1 : OpR X f r1) (h2 : OpR X f r2) : OpR X f (fun x y H Q => r1 x y H Q ∨ r2 x y H Q) := by
  intro pins s σ H x y v u Q I rx ry h
  rcases h with h | h
  · exact h1 pins s σ H x y v u Q I rx ry h
  · exact h2 pins s σ H x y v u Q I rx ry h
section
variable {prog : Program} {w : World} {A : Around} {E : Value → Shared → Prop} {s : Shared} {K : PySem.W.Frag} {x C L f : Addr} {h₀ : Heap} {m : Str → Option Value} {ox : Obj} {od : Option Obj} {b tb : Value}
theorem entry_ne {Q : Fin → Shared → Prop} (hu : A.units < cLine) (X : K.In s.heap) (I : PySem.W.InstAt s.heap x ox C od) (he : PySem.W.findIn K (.ref C) "__eq__" = some (some (.ref f))) (hf : PySem.W.isFn K (.ref f) = true)
    (h : wpAny (model prog w) A (call (.ref f) [.ref x, b]) (fun v s' => ∃ r, v = .bool r ∧ Q (.done (.ret (.bool (!r)))) s') E s) :
    wpAny (model prog w) A (Builtin.«object.__ne__» ⟨[.ref x, b], []⟩) Q E s := by
  unfold Builtin.«object.__ne__»
  repeat (first
    | with_reducible refine wpAny_cRoomFor hu ?_
    | (refine wpAny_bind (m := callSpecialIfBound? (.ref x) (Str.ofString "__eq__") [b])
        (PySem.W.ifBound_K X I he hf (wpAny_mono h (fun r s' hr => by
          obtain ⟨b, rfl, hq⟩ := hr
          repeat (first | exact hq | exact wpAny_pure hq | exact wpAny_truthy_bool hq | (refine wpAny_bind (m := truthy (.bool _)) (wpAny_truthy_bool ?_)) | wp_step)) fun _ _ e => e)))
    | wp_step)
theorem ifBound_ne {M : Model} {args : List Value} {Q : Option Value → Shared → Prop} (X : K.In s.heap) (I : PySem.W.InstAt s.heap x ox C od) (hs : PySem.W.findIn K (.ref C) "__ne__" = some (some (.builtin "object.__ne__")))
    (h : wpAny M A (call (.builtin "object.__ne__") (.ref x :: args)) (fun v => Q (some v)) E s) : wpAny M A (callSpecialIfBound? (.ref x) "__ne__" args) Q E s := by
  simp only [callSpecialIfBound?, bindSpecialIfBound?]
  refine wpAny_holding (wpAny_bind (wpAny_bind (wpAny_bind (I.type.here ((PySem.W.looks_findIn X hs).here ?_)))))
  refine wpAny_bind (wpAny_askSetting (wpAny_ite ?_))
  have fin : wpAny M A (call (.builtin "object.__ne__") ([.ref x] ++ args) >>= fun v => pure (some v)) Q E s := wpAny_bind (wpAny_mono h (fun v s' h' => wpAny_pure h') fun _ _ h' => h')
  split
  · exact wpAny_bind (wpAny_of_eq (F.cmp_object.ne.bind _) (wpAny_pure (by exact fin)))
  · exact wpAny_tryCatch (wpAny_bind (wpAny_of_eq (F.cmp_object.ne.bind _) (wpAny_pure (by exact fin))))
/-- x != b by x's own ==: the class has no != of its own -/
theorem rc_neK {Q : Value → Shared → Prop} (hu : A.units + 1 < cLine) (X : K.In s.heap) (I : PySem.W.InstAt s.heap x ox C od) (hb : PySem.W.Looks (model prog w) s.heap (typeOf b) tb) (hn : PySem.W.notFirst K C tb = true)
    (hm : PySem.W.mroIn K C (.type "object") = some true) (hs : PySem.W.findIn K (.ref C) "__ne__" = some (some (.builtin "object.__ne__"))) (he : PySem.W.findIn K (.ref C) "__eq__" = some (some (.ref f))) (hf : PySem.W.isFn K (.ref f) = true)
    (h : wpAny (model prog w) A.in1 (call (.ref f) [.ref x, b]) (fun v s' => ∃ r, v = .bool r ∧ Q (.bool (!r)) s') E s) : wpAny (model prog w) A (richCompare .NotEq (.ref x) b) Q E s := by
  have one : wpAny (model prog w) A (tryCompare (.ref x) (cmpInfo .NotEq).2.1 b) (fun r s' => ∃ v, r = some v ∧ Q v s') E s := by
    show wpAny (model prog w) A (tryCompare (.ref x) "__ne__" b) _ E s
    unfold tryCompare
    refine wpAny_bind (ifBound_ne X I hs (wpAny_call (codeAny_call_builtin F.cmp_object.ne.plain F.cmpEntry_ne
      (PySem.W.check_slot F.cmpKind_ne F.cmpSplit_ne (I.type.andThen (PySem.W.looks_mroIn X hm)) (F.cmpArgs_ne _ _) (entry_ne (A := A.in1) hu X I he hf (wpAny_mono h (fun v s' hv => ?_) fun _ _ e => e))))))
    obtain ⟨r, rfl, q⟩ := hv
    first
      | exact ⟨r, rfl, wpAny_pure ⟨_, rfl, q⟩⟩
      | exact ⟨r, rfl, wpAny_pure (wpAny_pure ⟨_, rfl, q⟩)⟩
      | exact ⟨r, rfl, ⟨_, rfl, q⟩⟩
  unfold richCompare
  simp only [oneThing_ref]
  refine wpAny_holding (wpAny_bind (wpAny_cRoomFor (by omega) ?_))
  refine wpAny_bind (I.type.here (wpAny_bind (hb.here ?_)))
  split
  · rename_i q
    have e : PySem.W.subIn K tb (.ref C) = some false := by
      rcases Bool.or_eq_true_iff.mp hn with e | e
      · rw [beq_iff_eq.mp e] at q; simp at q
      · exact beq_iff_eq.mp e
    refine wpAny_bind ((PySem.W.looks_subIn X e).here ?_)
    simp only [Bool.false_eq_true, if_false]
    refine wpAny_bind (wpAny_mono one (fun r s' z => ?_) fun _ _ e => e)
    obtain ⟨v, rfl, hq⟩ := z
    exact wpAny_pure hq
  · refine wpAny_bind (wpAny_pure ?_)
    simp only [Bool.false_eq_true, if_false]
    refine wpAny_bind (wpAny_mono one (fun r s' z => ?_) fun _ _ e => e)
    obtain ⟨v, rfl, hq⟩ := z
    exact wpAny_pure hq
end
/-- x != y by x's own == -/
def rNeOwn (C : Addr) (R : V → Hp → Prop) (sp : Sp) (E : XK) : R2 := fun x y H Q => ∃ a dx fs, x = .ref a ∧ H a = some (.ins C dx fs) ∧ R y H ∧ sp [x, y] H (fun v H' => ∃ r, v = .bl r ∧ Q (.bl (!r)) H') E
theorem op_neOwn {X : Cx} {CX : CXT} {C g : Addr} {k : Nat} {fd : FuncData} {ps : List Str} {sp : Sp} {E : XK} (hm : PySem.W.mroIn X.K C (.type "object") = some true) (hn : PySem.W.findIn X.K (.ref C) "__ne__" = some (some (.builtin "object.__ne__")))
    (hs : PySem.W.findIn X.K (.ref C) "__eq__" = some (some (.ref g))) (hf : PySem.W.isFn X.K (.ref g) = true)
    (F : FnOk X.prog X.w X.K X.mg X.base CX k g fd ps sp) (hr : Room (k + 1) X.A) (hb : Binds X.K fd ps []) (hx : Passes CX X E)
    {R : V → Hp → Prop} (hR : ∀ {y : V} {H : Hp} {u : Value} {pins : List (Addr × Obj)} {σ : L2.St} {s : Shared}, L2.Inv X pins σ H s → R y H → RelV y u → ∃ tb, PySem.W.Looks (model X.prog X.w) s.heap (typeOf u) tb ∧ PySem.W.notFirst X.K C tb = true) :
    OpR X (compareOp .NotEq) (rNeOwn C R sp E) := by
  intro pins s σ H x y v u Q I rx ry h
  obtain ⟨a, dx, fs, rfl, ha, hy, q⟩ := h
  cases (show v = Value.ref a from rx)
  obtain ⟨od, J⟩ := inst_at I ha
  obtain ⟨tb, ht, hn2⟩ := hR I hy ry
  show wpAny (model X.prog X.w) X.A (richCompare .NotEq (.ref a) u) (EP X pins σ Q) X.xe s
  refine rc_neK (show X.A.units + 1 < cLine from hr.in1.units0) I.kIn J ht hn2 hm hn hs hf ?_
  refine wpAny_mono (run_any (us := [.ref a, u]) (vs := [.ref a, y]) F hr.in1 I.env0.in1 hb hx I (.cons rfl (.cons ry .nil)) q) (fun w s' z => ?_) fun _ _ e => e
  obtain ⟨z', H', I', rz, r, rfl, qz⟩ := id z
  cases (show w = Value.bool r from rz)
  exact ⟨r, rfl, .bl (!r), H', I', rfl, qz⟩
section
variable {prog : Program} {w : World} {A : Around} {R : Result → Shared → Prop} {E : Value → Shared → Prop}
/-- at each turn the two lists are read anew: N items each, the i-th two equal as r i says -/
def ListB (prog : Program) (w : World) (A : Around) (E : Value → Shared → Prop) (l b : Addr) (N : Nat) (r : Nat → Bool) (I : Nat → Shared → Prop) : Prop :=
  ∀ i s, I i s → ∃ (xs ys : Array Value) (n n2 : Nat), s.heap.get? l = some { cls := .type "list", data := .seq xs n } ∧ s.heap.get? b = some { cls := .type "list", data := .seq ys n2 } ∧ xs.size = N ∧ ys.size = N ∧
    ∀ (h1 : i < xs.size) (h2 : i < ys.size), wpAny (model prog w) A.in1 (eqBool xs[i] ys[i]) (fun q s' => q = r i ∧ I (i + 1) s') E s
theorem loopB (l b : Addr) (N : Nat) (r : Nat → Bool) (I : Nat → Shared → Prop) (hl : ListB prog w A (fun e s' => R (.error e) s') l b N r I)
    (fin : (∀ j, j < N → r j = true) → ∀ s, I N s → R (.ok (.ret (.bool true))) s) (bad : ∀ j, j < N → r j = false → ∀ s, I (j + 1) s → R (.ok (.ret (.bool false))) s) :
    ∀ (k i : Nat), N - i = k → i ≤ N → (∀ j, j < i → r j = true) → ∀ s, I i s → wpAny (model prog w) A.in1 (Builtin.«list.__eq__.loop» ⟨[.ref l, .ref b, rawInt i, rawInt 2], []⟩) (FinOf prog w A R) (fun e s' => R (.error e) s') s
  | 0, i, hk, hi, all, s, h => by
    obtain ⟨xs, ys, n, n2, hl1, hb1, z1, z2, _⟩ := hl _ _ h
    have last : i = N := by omega
    have done : R (.ok (.ret (.bool true))) s := fin (fun j hj => all j (by omega)) s (last ▸ h)
    obtain ⟨hp, g, d, tk, os⟩ := s
    wp_walk using wpAny_loadPart' hl1, wpAny_loadPart' hb1
    have no1 : xs[((i : Nat) : Int).toNat]? = none := by simp; omega
    have no2 : ys[((i : Nat) : Int).toNat]? = none := by simp; omega
    rw [no1, no2]
    wp_walk using wpAny_loadPart' hl1, wpAny_loadPart' hb1
    show R (.ok (.ret (.bool (xs.size == ys.size)))) _
    rw [z1, z2]
    simpa using done
  | k + 1, i, hk, hi, all, s, h => by
    obtain ⟨xs, ys, n, n2, hl1, hb1, z1, z2, one⟩ := hl _ _ h
    have lt1 : i < xs.size := by omega
    have lt2 : i < ys.size := by omega
    have here := one lt1 lt2
    obtain ⟨hp, g, d, tk, os⟩ := s
    wp_walk using wpAny_loadPart' hl1, wpAny_loadPart' hb1
    have is1 : xs[((i : Nat) : Int).toNat]? = some xs[i] := by simp [lt1]
    have is2 : ys[((i : Nat) : Int).toNat]? = some ys[i] := by simp [lt2]
    have up : ((i : Int) + 1) = ((i + 1 : Nat) : Int) := by omega
    rw [is1, is2]
    refine wpAny_bind (wpAny_mono here (fun q s2 hq => ?_) fun _ _ x => x)
    obtain ⟨hr, hq⟩ := hq
    subst hr
    cases hb : r i with
    | true =>
      have rest := loopB l b N r I hl fin bad k (i + 1) (by omega) (by omega) (fun j hj => if e : j = i then by rw [e]; exact hb else all j (by omega)) s2 hq
      obtain ⟨hp2, g2, d2, tk2, os2⟩ := s2
      wp_walk
      rw [up]
      exact ⟨plainId_quiet plain_eq_loop _, codeAny_builtin entry_eq_loop (by rw [Around.under_plainId plain_eq_loop _] <;> exact rest)⟩
    | false =>
      have done := bad i (by omega) hb s2 hq
      obtain ⟨xs2, ys2, m, m2, hl2, hb2, z3, z4, _⟩ := hl _ _ hq
      have is3 : xs2[((i : Nat) : Int).toNat]? = some (xs2[i]'(by omega)) := by
        have : i < xs2.size := by omega
        simp [this]
      have is4 : ys2[((i : Nat) : Int).toNat]? = some (ys2[i]'(by omega)) := by
        have : i < ys2.size := by omega
        simp [this]
      obtain ⟨hp2, g2, d2, tk2, os2⟩ := s2
      wp_walk using wpAny_loadPart' hl2, wpAny_loadPart' hb2
      rw [is3, is4]
      wp_walk
      exact done
theorem listB (l b : Addr) (N : Nat) (r : Nat → Bool) (I : Nat → Shared → Prop) (hl : ListB prog w A (fun e s' => R (.error e) s') l b N r I)
    (fin : (∀ j, j < N → r j = true) → ∀ s, I N s → R (.ok (.ret (.bool true))) s) (bad : ∀ j, j < N → r j = false → ∀ s, I (j + 1) s → R (.ok (.ret (.bool false))) s) {s : Shared} (h : I 0 s) :
    wpAny (model prog w) A.in1 (Builtin.«list.__eq__» ⟨[.ref l, .ref b], []⟩) (FinOf prog w A R) (fun e s' => R (.error e) s') s := by
  obtain ⟨xs, ys, n, n2, hl1, hb1, z1, z2, _⟩ := hl _ _ h
  have rest := loopB (A := A) (R := R) l b N r I hl fin bad _ 0 rfl (Nat.zero_le _) (fun j hj => absurd hj (by omega)) s h
  obtain ⟨hp, g, d, tk, os⟩ := s
  have sub := AutoSeq1.sub_list_list
  have same : ¬ (xs.size != ys.size) = true := by simp [z1, z2]
  wp_walk using wpAny_loadPart' hl1, wpAny_loadPart' hb1
  exact ⟨plainId_quiet plain_eq_loop _, codeAny_builtin entry_eq_loop (by rw [Around.under_plainId plain_eq_loop _] <;> exact rest)⟩
theorem rcB {l b : Addr} {N : Nat} {Q : Value → Shared → Prop} {s : Shared} (hu : A.units < cLine) (r : Nat → Bool) (I : Nat → Shared → Prop) (hl : ListB prog w A E l b N r I)
    (fin : (∀ j, j < N → r j = true) → ∀ s, I N s → Q (.bool true) s) (bad : ∀ j, j < N → r j = false → ∀ s, I (j + 1) s → Q (.bool false) s) (h : I 0 s) : wpAny (model prog w) A (richCompare .Eq (.ref l) (.ref b)) Q E s := by
  obtain ⟨xs, ys, n, n2, hl1, hb1, _, _, _⟩ := hl _ _ h
  refine wpAny_richCompare_same_room (op := .Eq) ⟨_, hl1, rfl⟩ ⟨_, hb1, rfl⟩ F.slot_list_eq (call_here F.slot_list_eq ⟨_, hl1, rfl⟩ F.entry_list_eq (F.args_list_eq_2 _ _) ?_) hu
  exact listB (R := wants (fun v s' => v ≠ .notImplemented ∧ Q v s') E) l b N r I hl (fun a s' q => ⟨(fun x => nomatch x), fin a s' q⟩) (fun j a b s' q => ⟨(fun x => nomatch x), bad j a b s' q⟩) h
end
/-- == gives what D says, and only makes objects -/
def EqB (X : Cx) (n : Nat) (D : V → V → Hp → Bool → Prop) : Prop :=
  ∀ (A : Around) (pins : List (Addr × Obj)) (s : Shared) (σ : L2.St) (H : Hp) (x y : V) (u v : Value) (b : Bool), Sub X n A → Inv X pins σ H s → RelV x u → RelV y v → D x y H b →
    wpAny (model X.prog X.w) A (eqBool u v) (fun r s' => r = b ∧ ∃ H', Inv X pins σ H' s' ∧ Ext H H') X.xe s
theorem EqB.eqG {X : Cx} {n : Nat} {D : V → V → Hp → Bool → Prop} (h : EqB X n D) : EqG X n (fun x y H => D x y H true) := fun A pins s σ H x y u v sb I rx ry d => h A pins s σ H x y u v true sb I rx ry d
/-- x == y of two lists of the same length -/
def rEqB (D : V → V → Hp → Bool → Prop) : R2 := fun x y H Q => ∃ a b xs ys, x = .ref a ∧ y = .ref b ∧ H a = some (.lst xs) ∧ H b = some (.lst ys) ∧ xs.length = ys.length ∧ ∃ r : Nat → Bool,
  (∀ (i : Nat) x y, xs[i]? = some x → ys[i]? = some y → D x y H (r i)) ∧ ∀ H' c, Ext H H' → (c = true ↔ ∀ j, j < xs.length → r j = true) → Q (.bl c) H'
theorem op_eqB {X : Cx} {n : Nat} {D : V → V → Hp → Bool → Prop} (hD : ∀ x y H H' b, Ext H H' → D x y H b → D x y H' b) (h : EqB X n D) (hr : Room (n + 1) X.A) : OpR X (compareOp .Eq) (rEqB D) := by
  intro pins s σ H x y v u Q I rx ry hq
  obtain ⟨a, b, xs, ys, rfl, rfl, ha, hb, len, r, p, q⟩ := hq
  cases rx
  cases ry
  have sb : Sub X (n + 1) X.A := ⟨hr, rfl⟩
  show wpAny (model X.prog X.w) X.A (richCompare .Eq (.ref a) (.ref b)) (EP X pins σ Q) X.xe s
  refine rcB (N := xs.length) hr.units0 r (fun _ s' => LoopI X pins σ H s') (fun i s' z => ?_) (fun al s' ⟨H', I', e⟩ => ⟨.bl true, H', I', rfl, q H' true e ⟨fun _ => al, fun _ => rfl⟩⟩)
    (fun j hj rj s' ⟨H', I', e⟩ => ⟨.bl false, H', I', rfl, q H' false e ⟨fun z => (nomatch z), fun al => by rw [al j hj] at rj; cases rj⟩⟩) ⟨H, I, Ext.rfl'⟩
  obtain ⟨H1, I1, e1⟩ := id z
  obtain ⟨zz, its, k, rr, e⟩ := I1.hok a _ (e1 _ _ ha)
  obtain ⟨zz2, its2, k2, rr2, e2⟩ := I1.hok b _ (e1 _ _ hb)
  refine ⟨its.toArray, its2.toArray, k, k2, e, e2, by rw [List.size_toArray, ← rr.length], by rw [List.size_toArray, ← rr2.length, ← len], fun h1 h2 => ?_⟩
  have g1 : its[i]? = some its.toArray[i] := by
    have h1' : i < its.length := by simpa using h1
    rw [List.getElem?_eq_getElem h1'] <;> simp
  have g2 : its2[i]? = some its2.toArray[i] := by
    have h2' : i < its2.length := by simpa using h2
    rw [List.getElem?_eq_getElem h2'] <;> simp
  have k1 : i < xs.length := by rw [rr.length]; simpa using h1
  have k3 : i < ys.length := by rw [rr2.length]; simpa using h2
  obtain ⟨u, hu, ru⟩ := rr.get (List.getElem?_eq_getElem k1)
  obtain ⟨v, hv, rv⟩ := rr2.get (List.getElem?_eq_getElem k3)
  rw [g1] at hu
  rw [g2] at hv
  rw [Option.some.inj hu, Option.some.inj hv]
  refine wpAny_mono (h X.A.in1 pins s' σ H1 _ _ u v _ sb.in1 I1 ru rv (hD _ _ _ _ _ e1 (p i _ _ (List.getElem?_eq_getElem k1) (List.getElem?_eq_getElem k3)))) (fun r' s2 q' => ?_) fun _ _ x => x
  obtain ⟨hr', H2, I2, e2'⟩ := q'
  exact ⟨hr', H2, I2, e1.trans e2'⟩
end OwnNe
end

-- ErrVal
section
set_option Elab.async false
set_option linter.all false
set_option maxRecDepth 100000
set_option maxHeartbeats 2000000
/-! An own error with the field `given`, held as a value. -/
namespace L2
open PySem PySem.Spec PyProof.Rows
/-- an error of the class cls at e, its dict at d -/
def ExG (cls : Value) (e d : Addr) : HO := .ext fun h => ∃ (oe : Obj) (vs : Array Value), h.get? e = some oe ∧ Zc cls (some d) oe ∧ oe.data = .fields vs ∧ vs[1]? = some .none
section
variable {X : Cx} {C fI : Addr} {cn qn : Str} {B newId initId : String} {bt : List Value}
/-- Err(x), as a value -/
theorem pe_mkGiv {a : Expr} {ta : TA} {p pos : Pos} {k : Nat} (Z : PySem.Giv.BaseOk B newId initId bt) (T : PySem.Giv.ErrTxt X.K X.mg cn qn newId bt C fI) (hr : Room k X.A) (ha : PA X [a] ta) (hg : Gl X cn) (hdb : (cn == ("__debug__" : Str)) = false := by decide)
    (he : starEach (a :: []) X.env = (false, eval a X.env) :: starEach [] X.env := by rfl) (hpl : (backTo pos (starEach [] X.env)).any (·.1) = false := by rfl) :
    PE X (.Call (.Name cn p) [a] [] pos) (fun σ H Q => ta σ H fun vs H1 => ∃ v, vs = [v] ∧ ∀ e d, H1 e = none → H1 d = none → d ≠ e → Q (.ref e) (upd (upd H1 d (.xd [(("given" : Str), v)])) e (ExG (.ref C) e d))) := by
  refine ⟨fun pins s σ H Q I h => ?_⟩
  refine wpAny_Call_Name_kw (ld_glob I hg T.gC ?_ hdb)
  refine PySem.W.callWith_K (h₀ := X.base) I.ok.mod.kin T.kC (thn (ha.run pos pins s σ H _ I h) fun us s1 hh => ?_) he hpl
  obtain ⟨vs, H1, I1, r1, v, ev, q1⟩ := hh
  subst ev
  refine ⟨I1.kIn, ?_⟩
  cases r1 with
  | cons rv rn =>
    rename_i v' us'
    cases rn
    show wpAny _ _ (call (.ref C) [v']) _ _ _
    have hlim := I1.nolimit
    obtain ⟨hp, g, dr, tk, os⟩ := s1
    refine wpAny_call (PySem.Giv.giv_made Z T I1.kIn hlim (by have := hr.dp; omega) fun h' tk' e d M => ?_)
    show EP X pins σ Q (.ref e) ⟨h', g, dr, tk', os⟩
    obtain ⟨oe, fv, hoe, hc, hd, hdat, h1⟩ := M.obj
    have hns := M.ns
    obtain ⟨G', g1, g2⟩ := restrict h' fun b => decide (b ≠ e)
    have gk : ∀ b, b ≠ e → G'.get? b = h'.get? b := fun b hb => g1 b (decide_eq_true hb)
    have ge : G'.get? e = none := g2 e (by simp)
    have old : ∀ b o, hp.get? b = some o → G'.get? b = some o := fun b o q => (gk b (Nat.ne_of_lt (Nat.lt_of_lt_of_le (Heap.lt_size q) M.new))).trans (M.keep b o q)
    have ob : ObjOk X.prog X.w (upd H1 d (.xd [(("given" : Str), v)])) G' d (.xd [(("given" : Str), v)]) :=
      ⟨_, hns.at (fun o q => (gk d M.dne).trans q), fun f => relO_giv rv f⟩
    have J : L2.Inv X pins σ (upd H1 d (.xd [(("given" : Str), v)])) ⟨G', g, dr, tk', os⟩ := I1.laid (t' := tk') old M.dbig ob
    have en : (upd H1 d (.xd [(("given" : Str), v)])) e = none := by
      rw [upd_ne (Ne.symm M.dne)]
      exact I1.hok.fresh M.new
    have J2 : L2.Inv X pins σ (upd (upd H1 d (.xd [(("given" : Str), v)])) e (ExG (.ref C) e d)) ⟨h', g, dr, tk', os⟩ := J.laidN (t' := tk') (fun b o q => by
      by_cases hb : b = e
      · rw [hb, ge] at q; cases q
      · exact (gk b hb).symm.trans q) ge en ⟨⟨oe, fv, hoe, ⟨hc, hd⟩, hdat, h1⟩, ⟨oe, hoe⟩, fun _ _ ⟨o, u, q, r⟩ k => ⟨o, u, k o q, r⟩⟩
    exact ⟨.ref e, _, J2, rfl, q1 e d (I1.hok.fresh M.new) (I1.hok.fresh M.dbig) M.dne⟩
/-- err.given, err an error held as a value -/
theorem pe_givVal {e : Expr} {te : TE} {pos : Pos} (T : PySem.Giv.ErrTxt X.K X.mg cn qn newId bt C fI) (he : PE X e te) (hb : attributeBase e "given" X.env (eval e X.env) = eval e X.env := by rfl) :
    PE X (.Attribute e "given" pos) (fun σ H Q => te σ H fun x H1 => ∃ a d v, x = .ref a ∧ H1 a = some (ExG (.ref C) a d) ∧ H1 d = some (.xd [(("given" : Str), v)]) ∧ Q v H1) := by
  refine ⟨fun pins s σ H Q I h => ?_⟩
  refine attr_of hb (thn (he.run pins s σ H _ I h) fun u s1 hh => ?_)
  obtain ⟨x, H1, I1, rx, a, d, v, ex, ea, ed, q⟩ := hh
  subst ex
  obtain rfl : u = Value.ref a := rx
  obtain ⟨⟨oe, vs, ha, hz, hd, h1⟩, _, _⟩ := (show ObjOk X.prog X.w H1 s1.heap a (ExG (.ref C) a d) from I1.hok a _ ea)
  have hx : ObjOk X.prog X.w H1 s1.heap d (.xd [(("given" : Str), v)]) := I1.hok d _ ed
  obtain ⟨mA, hns, hr⟩ := hx
  obtain ⟨od, ho, hl⟩ := lookIn_ns hns
  have l : List.lookup ("given" : Str) [(("given" : Str), v)] = some v := by simp [List.lookup]
  obtain ⟨u, hu, ru⟩ := RelO.some_of (v := v) (o := mA "given") (by rw [← l]; exact hr "given")
  have J : PySem.W.InstAt s1.heap a oe C (some od) := ⟨ha, hz.1, by unfold PySem.W.notCls; rw [hd] <;> rfl, by rw [hz.2]; exact ho⟩
  exact HandSPX.exc_get I1.kIn J T.ga T.gg T.exC (PySem.W.findObj_own T.hdC T.noN rfl (by rw [hl, hu])) (handed_of ru) ⟨v, H1, I1.tok _, ru, q⟩
end
end L2
end

-- ErrVal2
section
set_option Elab.async false
set_option linter.all false
set_option maxRecDepth 100000
/-! isinstance of an error held as a value. -/
namespace L2
open PySem PySem.Spec PyProof.Rows
/-- what is known of the error class at C for isinstance -/
structure KitG (K : PySem.W.Frag) (C : Addr) : Prop where
  ic : PySem.W.isClsIn K C = true
  ga : PySem.W.findIn K (.ref C) "__getattribute__" = some (some (.builtin "BaseException.__getattribute__"))
  gg : ∃ gt, PySem.W.findIn K (.ref C) "__getattr__" = some gt
  ex : PySem.W.subIn K (.ref C) (.type "BaseException") = some true
  ha : PySem.W.findIn K (.ref C) "__class__" = some (some (.builtin "object.__class__"))
  hn : PySem.W.specialIn K (.builtin "object.__class__") "__get__" = some (some (.builtin "getset_descriptor.__get__"))
  htk : PySem.W.takesIn K (.builtin "object.__class__") = some true
  hm : PySem.W.mroIn K C (.type "object") = some true
def rIsiG (K : PySem.W.Frag) : List V → Hp → VK → Prop := fun xs H Q => ∃ (a d C : Addr) (fs : List (Str × V)) (c : V) (u : Value) (b : Bool), xs = [.ref a, c] ∧ H a = some (ExG (.ref C) a d) ∧ H d = some (.xd fs) ∧ KitG K C ∧ ClsV c u ∧ PySem.W.kitOne K (.ref C) u = some b ∧ Q (.bl b) H
theorem call_isiG {X : Cx} : CallR X (.builtin "isinstance") (rIsiG X.K) := by
  intro pins s σ H xs us Q I r h
  obtain ⟨a, d, C, fs, c, u, b, rfl, ea, ed, G, k, e, q⟩ := h
  obtain ⟨u1, u2, rfl, r1, r2⟩ := vals2 r
  cases (show u1 = Value.ref a from r1)
  have e2 := k.eq r2
  subst e2
  obtain ⟨⟨oe, vs, ha, hz, hd, h1⟩, _, _⟩ := (show ObjOk X.prog X.w H s.heap a (ExG (.ref C) a d) from I.hok a _ ea)
  have hx : ObjOk X.prog X.w H s.heap d (.xd fs) := I.hok d _ ed
  obtain ⟨mA, hns, hr⟩ := hx
  obtain ⟨od, ho, hl⟩ := lookIn_ns hns
  have J : PySem.W.InstAt s.heap a oe C (some od) := ⟨ha, hz.1, by unfold PySem.W.notCls; rw [hd] <;> rfl, by rw [hz.2]; exact ho⟩
  obtain ⟨gt, hgt⟩ := G.gg
  exact PySem.W.kia_one (PySem.W.kitx_exc (ox := oe) (od := some od) G.ic G.ga hgt G.ex G.ha G.hn G.htk G.hm) I.kIn J e (fun z => nomatch z) fun tk => ⟨.bl b, H, I.tok tk, rfl, q⟩
end L2
end

-- OwnTry
section
set_option Elab.async false
set_option linter.all false
set_option maxRecDepth 100000
/-! Calls whose exception is wished for at just these slots; isinstance of a held error with a dict. -/
namespace OwnTry
open PySem L2
/-- W at the slots σ -/
def EA (W : WX) (σ : L2.St) : XK := fun cls d H' => W cls d σ H'
section
variable {X : Cx} {k : Nat} {f C : Addr} {fd : FuncData} {ps : List Str} {sp : Sp} {dvs : List V} {ds : List Value} {W : WX} {x m : Str} {p pos apos : Pos} {e o : Expr} {es : List Expr} {ta : TE} {t : TA}
theorem out_at {pins : List (Addr × Obj)} {σ : L2.St} {H : Hp} {s : Shared} (tk : Takes X W) (I : L2.Inv X pins σ H s) {u : Value} {s' : Shared} (c : L2.CX X.prog X.w X.stack H s (EA W σ) u s') : X.xe u s' :=
  tk _ _ (XE.of_call I (fun _ _ _ z => z) c)
/-- a def called, W wished for if it raises -/
theorem run_at {A : Around} {pins : List (Addr × Obj)} {σ : L2.St} {H : Hp} {s : Shared} {Q : VK} {us : List Value} {vs : List V} (F : FnOk X.prog X.w X.K X.mg X.base (L2.CX X.prog X.w) k f fd ps sp) (room : Room k A)
    (e0 : Env0 X.prog X.w X.K X.mg X.base A X.stack s H) (bi : L2.Binds X.K fd ps ds) (dv : Vals dvs ds) (tk : Takes X W)
    (I : L2.Inv X pins σ H s) (rel : Vals vs us) (h : sp (vs ++ dvs) H Q (EA W σ)) : wpAny (model X.prog X.w) A (call (.ref f) us) (EP X pins σ Q) X.xe s := by
  have both := rel.append dv
  have size : (us ++ ds).length = ps.length := both.length.symm.trans (F.len _ _ _ _ h)
  have body := F.run A X.stack s H ⟨us, []⟩ (us ++ ds) (vs ++ dvs) Q (EA W σ) room e0 (bi s us I.kIn size) both h
  refine wpAny_call (codeAny_mono body fun res s' got => ?_)
  match res, got with
  | .error u, got => exact out_at tk I got
  | .ok (.ret u), got => exact I.after got
  | .ok .next, got => exact got.elim
  | .ok .brk, got => exact got.elim
  | .ok .cont, got => exact got.elim
/-- o.m(e, ..) in a try -/
def tMethA (C : Addr) (m : Str) (sp : Sp) (dvs : List V) (W : WX) (ta : TE) (t : TA) : TE := fun σ H Q => ta σ H fun x H1 => ∃ a dx fs, x = .ref a ∧ H1 a = some (.ins C dx fs) ∧ fs.lookup m = none ∧ t σ H1 fun vs H2 => sp (.ref a :: (vs ++ dvs)) H2 Q (EA W σ)
theorem pe_methA {pl : Sem Bool} (he : PE X o ta) (c : Cls X.K C) (hm : Meth X.K C m f) (F : FnOk X.prog X.w X.K X.mg X.base (L2.CX X.prog X.w) k f fd ps sp) (room : Room k X.A) (bi : L2.Binds X.K fd ps ds) (dv : Vals dvs ds) (tk : Takes X W) (ha : PA X (e :: es) t)
    (hst : starEach (e :: es) X.env = (false, eval e X.env) :: starEach es X.env := by rfl) (hpl : (backTo pos (starEach es X.env)).any (·.1) = false := by rfl)
    (ht : eval (.Call (.Attribute o m apos) (e :: es) [] pos) X.env = (do
      let ov ← eval o X.env
      standAt apos.atName
      let (f, first) ← holding [ov] (getMethod ov m pl)
      callWith pos f first (backTo pos (starEach (e :: es) X.env)) (backToKw pos (keywordEach [] X.env))) := by rfl) :
    PE X (.Call (.Attribute o m apos) (e :: es) [] pos) (tMethA C m sp dvs W ta t) := by
  refine ⟨fun pins s σ H Q I h => ?_⟩
  refine PySem.W.methodCall_KW (pl := pl) (thn (he.run pins s σ H _ I h) fun u s1 hh => ?_) ht
  obtain ⟨x, H1, I1, rx, a, dx, fs, ex, ea, l, q⟩ := hh
  subst ex
  obtain rfl : u = Value.ref a := rx
  refine getmeth_ok I1 ea c hm l ?_
  refine PySem.W.callWith_K (first := [.ref a]) (h₀ := X.base) I.ok.mod.kin hm.kp (thn (ha.run pos pins s1 σ H1 _ I1 q) fun us s2 h2 => ?_) hst hpl
  obtain ⟨vs, H2, I2, r, q2⟩ := h2
  exact ⟨I2.kIn, run_at (us := .ref a :: us) (vs := .ref a :: vs) F room I2.env0 bi dv tk I2 (.cons rfl r) q2⟩
end
/-- isinstance(e, c), e the error with a dict that the suite holds -/
def rIsiH (K : PySem.W.Frag) (a : Addr) (cls : Value) (d : Option Addr) : List V → Hp → VK → Prop := fun xs H Q => ∃ (C dd : Addr) (fs : List (Str × V)) (c : V) (u : Value) (b : Bool),
  xs = [.ref a, c] ∧ cls = .ref C ∧ d = some dd ∧ H dd = some (.xd fs) ∧ KitG K C ∧ ClsV c u ∧ PySem.W.kitOne K (.ref C) u = some b ∧ Q (.bl b) H
theorem call_isiH {X : Cx} {a : Addr} {oe : Obj} {cls : Value} {d : Option Addr} {pn : List (Addr × Obj)} (hz : Zc cls d oe) (hf : ∃ vs, oe.data = .fields vs) : CallR (X.suite a ((a, oe) :: pn)) (.builtin "isinstance") (rIsiH X.K a cls d) := by
  intro pins s σ H xs us Q I r h
  obtain ⟨C, dd, fs, c, u, b, rfl, rfl, rfl, ed, G, k, e, q⟩ := h
  obtain ⟨u1, u2, rfl, r1, r2⟩ := vals2 r
  cases (show u1 = Value.ref a from r1)
  have e2 := k.eq r2
  subst e2
  obtain ⟨ha, _⟩ := I.pin (a, oe) (List.mem_append_left _ List.mem_cons_self)
  obtain ⟨vs, hd⟩ := hf
  have hx : ObjOk X.prog X.w H s.heap dd (.xd fs) := I.hok dd _ ed
  obtain ⟨mA, hns, hr⟩ := hx
  obtain ⟨od, ho, hl⟩ := lookIn_ns hns
  have J : PySem.W.InstAt s.heap a oe C (some od) := ⟨ha, hz.1, by unfold PySem.W.notCls; rw [hd] <;> rfl, by rw [hz.2]; exact ho⟩
  obtain ⟨gt, hgt⟩ := G.gg
  exact PySem.W.kia_one (PySem.W.kitx_exc (ox := oe) (od := some od) G.ic G.ga hgt G.ex G.ha G.hn G.htk G.hm) I.kIn J e (fun z => nomatch z) fun tk => ⟨.bl b, H, I.tok tk, rfl, q⟩
end OwnTry
end

-- Gen1
section
set_option Elab.async false
set_option linter.all false
set_option maxRecDepth 100000
/-! what every law's text wants again. -/
namespace G1
open PySem L2 OwnOps
theorem if_pos' {c : Bool} {A B : Prop} (hc : c = true) (h : A) : if c = true then A else B := by
  rw [if_pos hc]
  exact h
theorem if_neg' {c : Bool} {A B : Prop} (hc : c = false) (h : B) : if c = true then A else B := by
  rw [hc, if_neg Bool.false_ne_true]
  exact h
theorem same_upd {H : Hp} {p : Addr} {o : HO} (h : H p = none) : Same H (upd H p o) := fun b u e => by
  rw [upd_ne (ne_of_none e h)]
  exact e
theorem same_put {H G : Hp} {D : Addr} {o : HO} (s : Same H G) (h : H D = none) : Same H (upd G D o) := fun b u e => by
  rw [upd_ne (ne_of_none e h)]
  exact s b u e
/-- a new instance in making -/
theorem same_new {H : Hp} {x dx C : Addr} (hx : H x = none) (hd : H dx = none) : Same H (upd (upd H dx (.own x)) x (.ins C dx [])) := fun b u e => by
  rw [upd_ne (ne_of_none e hx), upd_ne (ne_of_none e hd)]
  exact e
/-- all stands but at l -/
def SameX (l : Addr) (H H' : Hp) : Prop := ∀ b u, b ≠ l → H b = some u → H' b = some u
theorem SameX.refl (l : Addr) (H : Hp) : SameX l H H := fun _ _ _ e => e
theorem SameX.trans {l : Addr} {H H1 H2 : Hp} (a : SameX l H H1) (b : SameX l H1 H2) : SameX l H H2 := fun c o n h => b c o n (a c o n h)
theorem SameX.of {l : Addr} {H H' : Hp} (a : Same H H') : SameX l H H' := fun c o _ h => a c o h
theorem SameX.upd {l : Addr} {H : Hp} {o : HO} : SameX l H (upd H l o) := fun c u n h => by
  rw [upd_ne n]
  exact h
theorem SameX.put {l a : Addr} {H H1 : Hp} {o : HO} (s : SameX l H H1) (h : H1 a = none) : SameX l H (L2.upd H1 a o) := fun c u n e => by
  rw [upd_ne (ne_of_none (s c u n e) h)]
  exact s c u n e
theorem same_made {H H' : Hp} {C x dx : Addr} (hx : H x = none) (hd : H dx = none) (sx : SameX x (upd (upd H dx (.own x)) x (.ins C dx [])) H') : Same H H' := fun b u e =>
  sx b u (ne_of_none e hx) (same_new hx hd b u e)
/-- a def of the module, called by its name -/
structure Glb (P : Program) (w : World) (K : PySem.W.Frag) (mg : Str → Option Value) (base : Heap) (x : Str) (k : Nat) (ps : List Str) (sp : Sp) : Prop where
  ex : ∃ (f : Addr) (fd : FuncData), mg x = some (.ref f) ∧ PySem.W.keepIn K (.ref f) = true ∧ FnOk P w K mg base (L2.CX P w) k f fd ps sp ∧ L2.Binds K fd ps []
/-- a method of the class, by its name -/
structure Dun (P : Program) (w : World) (K : PySem.W.Frag) (mg : Str → Option Value) (base : Heap) (C : Addr) (nm : Str) (k : Nat) (ps : List Str) (sp : Sp) : Prop where
  ex : ∃ (f : Addr) (fd : FuncData), PySem.W.findIn K (.ref C) nm = some (some (.ref f)) ∧ PySem.W.isFn K (.ref f) = true ∧ PySem.W.keepIn K (.ref f) = true ∧ FnOk P w K mg base (L2.CX P w) k f fd ps sp ∧ L2.Binds K fd ps []
section
variable {prog : Program} {w : World} {A : Around} {E : Value → Shared → Prop} {s : Shared}
theorem eqBool_rc {l : Addr} {v : Value} {Q : Bool → Shared → Prop} (ne : (Value.ref l == v) = false)
    (h : wpAny (model prog w) A (richCompare .Eq (.ref l) v) (fun x s' => ∃ r, x = .bool r ∧ Q r s') E s) : wpAny (model prog w) A (eqBool (.ref l) v) Q E s := by
  unfold eqBool
  refine wpAny_holding (wpAny_ite_split (fun z => absurd z (by rw [ne]; decide)) fun _ => wpAny_bind (wpAny_mono h ?_ fun _ _ x => x))
  rintro x s' ⟨r, rfl, q⟩
  exact wpAny_truthy_bool q
end
abbrev Fs := List (Str × V)
theorem putF_ne {n m : Str} {x y : V} {r : Fs} (h : ¬ m = n) : putF n y ((m, x) :: r) = (m, x) :: putF n y r := by
  show (if m = n then _ else _) = _
  rw [if_neg h] <;> rfl
theorem putF_eq {n : Str} {x y : V} {r : Fs} : putF n y ((n, x) :: r) = (n, y) :: r := by
  show (if n = n then _ else _) = _
  rw [if_pos rfl] <;> rfl
theorem lk_cons {n m : Str} {v : V} {l : List (Str × V)} (h : ¬ m = n) : ((m, v) :: l).lookup n = l.lookup n := by
  rw [List.lookup_cons, beq_false_of_ne (fun e => h e.symm)] <;> rfl
theorem lk_here {n : Str} {v : V} {l : List (Str × V)} : ((n, v) :: l).lookup n = some v := by
  rw [List.lookup_cons, beq_self_eq_true] <;> rfl
/-- all so far were true -/
def AllI (H : Hp) (D : Addr) (j : Nat) : Hp → Prop := fun G => Same H G ∧ G D = some (.lst ((List.replicate j true).map V.bl))
theorem all0 {H : Hp} {D : Addr} (h : H D = none) : AllI H D 0 (upd H D (.lst [])) := ⟨same_upd h, upd_same⟩
theorem AllI.step {H G G' : Hp} {D : Addr} {j : Nat} (i : AllI H D j G) (h : H D = none) (s : Same G G') : G' D = some (.lst ((List.replicate j true).map V.bl)) ∧ AllI H D (j + 1) (upd G' D (.lst ((List.replicate j true).map V.bl ++ [.bl true]))) := by
  refine ⟨s _ _ i.2, same_put (i.1.trans s) h, ?_⟩
  rw [upd_same, List.replicate_succ', List.map_append]
  rfl
theorem rep_len {j : Nat} (h : j < sizeLine) : ((List.replicate j true).map V.bl).length < sizeLine := by
  rw [List.length_map, List.length_replicate]
  exact h
theorem rep_all (j : Nat) : (List.replicate j true).all id = true := by
  rw [List.all_eq_true]
  intro x h
  rw [(List.mem_replicate.mp h).2]
  rfl
theorem map_at {xs : List Str} {j : Nat} {x : V} (h : (xs.map V.str)[j]? = some x) : ∃ t, xs[j]? = some t ∧ x = .str t := by
  rw [List.getElem?_map] at h
  cases e : xs[j]? with
  | none => rw [e] at h; cases h
  | some t =>
    rw [e] at h
    cases h
    exact ⟨t, rfl, rfl⟩
theorem yes_go {σ : L2.St} {H : Hp} {Q : Bool → Hp → Prop} (h : Q true H) : tYes σ H Q := h
end G1
end

-- EqDict
section
set_option Elab.async false
set_option linter.all false
set_option maxRecDepth 100000
/-! == of two dicts with flat values, whatever comes of it; of lists of such dicts. -/
namespace EqDict
open PySem L2 PySem.W OwnNe
abbrev Ent := List (Key × V)
/-- the same entries -/
def at1 (ls : Ent) (p : Key × V) : Bool := match valV ls p.1 with
  | none => false
  | some y => eqV p.2 y
def dEq (ks ls : Ent) : Bool := (ks.length == ls.length) && ks.all (at1 ls)
def Flt (ks : Ent) : Prop := ∀ p ∈ ks, flatV p.2 = true
theorem valV_mem {ls : Ent} {k : Key} {y : V} (h : valV ls k = some y) : ∃ p ∈ ls, p.2 = y := by
  unfold valV at h
  cases e : ls.find? (fun p => p.1 = k) with
  | none => rw [e] at h; cases h
  | some p =>
    rw [e] at h
    cases h
    exact ⟨p, List.mem_of_find?_eq_some e, rfl⟩
theorem hits {A : Around} {s : Shared} {ls : Ent} {vb : List (Key × Value)} (rb : KV ls vb) (fl : Flt ls) : ∀ {ks : Ent} {va : List (Key × Value)}, KV ks va → Flt ks →
    KeqHits A s vb va (ks.all (at1 ls))
  | _, _, .nil, _ => .nil
  | (k, x) :: ks, (k', u) :: va, .cons r t, f => by
    obtain ⟨r1, r2⟩ := r
    cases (show k = k' from r1)
    have rest := hits (A := A) (s := s) rb fl t fun p h => f p (List.mem_cons_of_mem _ h)
    rw [List.all_cons]
    unfold at1
    dsimp only
    have ro : RelO (valV ls k) (valueAt vb k) := rb.val k
    cases e : valV ls k with
    | none =>
      rw [e] at ro
      exact .miss (RelO.none_of ro)
    | some y =>
      rw [e] at ro
      obtain ⟨v, hv, rv⟩ := ro.some_of
      obtain ⟨p, hp, rfl⟩ := valV_mem e
      exact .hit hv (eqAt_V r2 rv (f _ List.mem_cons_self) (fl p hp)) rest
section
variable {X : Cx}
def rEqD (neg : Bool) : R2 := fun x y H Q => ∃ a b ks ls, x = .ref a ∧ y = .ref b ∧ Rd H a (.dK ks) ∧ Rd H b (.dK ls) ∧ Flt ks ∧ Flt ls ∧ Q (.bl (if neg then !dEq ks ls else dEq ks ls)) H
theorem op_eqDT (hu : X.A.units < cLine) : OpR X (compareOp .Eq) (rEqD false) := by
  intro pins s σ H x y v u Q I rx ry h
  obtain ⟨a, b, ks, ls, rfl, rfl, ea, eb, f1, f2, q⟩ := h
  cases rx
  cases ry
  obtain ⟨_, ya, va, ra, da⟩ := dk_rd I.hok ea
  obtain ⟨_, yb, vb, rb, db⟩ := dk_rd I.hok eb
  refine keq_eq (knd := mixKind X.prog X.w) ya yb da db hu (fun _ => hits rb f2 ra f1) ⟨.bl (dEq ks ls), H, I, ?_, q⟩
  unfold dEq
  rw [show ks.length = va.length from Paired.length ra, show ls.length = vb.length from Paired.length rb]
  rfl
theorem op_neDT (hu : X.A.units < cLine) : OpR X (compareOp .NotEq) (rEqD true) := by
  intro pins s σ H x y v u Q I rx ry h
  obtain ⟨a, b, ks, ls, rfl, rfl, ea, eb, f1, f2, q⟩ := h
  cases rx
  cases ry
  obtain ⟨_, ya, va, ra, da⟩ := dk_rd I.hok ea
  obtain ⟨_, yb, vb, rb, db⟩ := dk_rd I.hok eb
  refine keq_ne (knd := mixKind X.prog X.w) ya yb da db hu (fun _ => hits rb f2 ra f1) ⟨.bl (!dEq ks ls), H, I, ?_, q⟩
  unfold dEq
  rw [show ks.length = va.length from Paired.length ra, show ls.length = vb.length from Paired.length rb]
  rfl
/-- two dicts, apart -/
def DD : V → V → Hp → Bool → Prop := fun x y H r => ∃ a b ks ls, x = .ref a ∧ y = .ref b ∧ a ≠ b ∧ H a = some (.dK ks) ∧ H b = some (.dK ls) ∧ Flt ks ∧ Flt ls ∧ r = dEq ks ls
theorem mon_DD : ∀ x y H H' b, Ext H H' → DD x y H b → DD x y H' b := fun _ _ _ _ _ e ⟨a, b, ks, ls, h1, h2, n, h3, h4, r⟩ => ⟨a, b, ks, ls, h1, h2, n, e _ _ h3, e _ _ h4, r⟩
theorem eqB_DD : EqB X 1 DD := by
  intro A pins s σ H x y u v r sb I rx ry d
  obtain ⟨a, b, ks, ls, rfl, rfl, ne, ea, eb, f1, f2, rfl⟩ := d
  cases rx
  cases ry
  refine G1.eqBool_rc (beq_eq_false_iff_ne.mpr fun z => ne (Value.ref.inj z)) ?_
  obtain ⟨_, ya, va, ra, da⟩ := dk_rd I.hok (.inl ea)
  obtain ⟨_, yb, vb, rb, db⟩ := dk_rd I.hok (.inl eb)
  refine keq_eq (knd := mixKind X.prog X.w) ya yb da db sb.room.units0 (fun _ => hits rb f2 ra f1) ⟨_, rfl, ?_, H, I, Ext.rfl'⟩
  unfold dEq
  rw [show ks.length = va.length from Paired.length ra, show ls.length = vb.length from Paired.length rb]
end
end EqDict
end

-- SetStr
section
set_option Elab.async false
set_option linter.all false
set_option maxRecDepth 100000
/-! len(set(xs)), xs any texts (up to 4000). -/
namespace SetStr
open PySem PySem.Spec PyProof.Rows
/-- how many unlike ones stand among the first i -/
def cnt (xs : List Str) : Nat → Nat
  | 0 => 0
  | i + 1 => if xs.getD i Str.empty ∈ xs.take i then cnt xs i else cnt xs i + 1
theorem cnt_succ (xs : List Str) (i : Nat) : cnt xs (i + 1) = if xs.getD i Str.empty ∈ xs.take i then cnt xs i else cnt xs i + 1 := rfl
theorem cnt_le (xs : List Str) : ∀ i, cnt xs i ≤ i
  | 0 => Nat.le_refl _
  | i + 1 => by
    rw [cnt_succ]
    have := cnt_le xs i
    split <;> omega
theorem cnt_nodup {xs : List Str} (h : xs.Nodup) : ∀ i, i ≤ xs.length → cnt xs i = i
  | 0, _ => rfl
  | i + 1, hi => by
    rw [cnt_succ]
    have hl : i < xs.length := hi
    have e : xs.getD i Str.empty = xs[i] := by rw [List.getD_eq_getElem?_getD, List.getElem?_eq_getElem hl] <;> rfl
    rw [if_neg, cnt_nodup h i (by omega)]
    rw [e]
    intro z
    obtain ⟨j, hj, ej⟩ := List.getElem_of_mem z
    have hj' : j < i := by rw [List.length_take] at hj; omega
    rw [List.getElem_take] at ej
    have := (List.getElem_inj h).mp ej
    omega
theorem cnt_bad {xs : List Str} {i j : Nat} (hij : i < j) (hj : j < xs.length) (e : xs.getD i Str.empty = xs.getD j Str.empty) : ∀ k, j < k → cnt xs k < k
  | 0, h => by omega
  | k + 1, h => by
    rw [cnt_succ]
    by_cases hk : k = j
    · subst hk
      have m : xs.getD k Str.empty ∈ xs.take k := by
        rw [← e]
        have hi : i < xs.length := by omega
        have e2 : xs.getD i Str.empty = xs[i] := by rw [List.getD_eq_getElem?_getD, List.getElem?_eq_getElem hi] <;> rfl
        rw [e2, List.mem_take_iff_getElem]
        exact ⟨i, by omega, rfl⟩
      rw [if_pos m]
      have := cnt_le xs k
      omega
    · have := cnt_bad hij hj e k (by omega)
      split <;> omega
abbrev mem (xs : List Str) (i : Nat) : Str → Bool := fun k => decide (k ∈ xs.take i)
theorem mem_succ {xs : List Str} {i : Nat} (h : i < xs.length) (k : Str) : mem xs (i + 1) k = (mem xs i k || decide (k = xs.getD i Str.empty)) := by
  have e : xs.getD i Str.empty = xs[i] := by rw [List.getD_eq_getElem?_getD, List.getElem?_eq_getElem h] <;> rfl
  rw [e, ← Bool.decide_or]
  exact decide_eq_decide.mpr (by rw [List.take_succ_eq_append_getElem h, List.mem_append, List.mem_singleton])
section
variable {prog : Program} {w : World} {A : Around} {R : Result → Shared → Prop} {it : Addr} {fp wr : List Addr} {G : Array GenState → Array GenState → Prop} {n : Nat} {T : Nat → Value → Prop} {Z : Nat → Shared → Prop}
theorem fill (W : WalksS prog w A.in1 it fp wr G n T Z) (a : Addr) (out : a ∉ fp) (xs : List Str) (len : xs.length = n) (few : n ≤ 4000) (txt : ∀ i v, T i v → ∃ t, v = .str (xs.getD i Str.empty) t) :
    ∀ (k i : Nat) (s : Shared), n - i = k → i ≤ n → Z i s → s.heap.SetOf (strKind prog w) a (mem xs i) (cnt xs i) →
      (∀ s', Moved (a :: wr) G s s' → s'.heap.SetOf (strKind prog w) a (mem xs n) (cnt xs n) → R (.ok (.ret .none)) s') → codeAny (model prog w) A (.builtin "set.update.loop" ⟨[.ref a, .ref it], []⟩) R s := by
  have out' : a ∉ wr := fun h => out (W.sub _ h)
  intro k
  induction k with
  | zero =>
    intro i s hk hi hst hS fin
    cases (show n = i by omega)
    refine codeAny_builtin F.entry_set_update_loop (by
      rw [Around.under_plainId F.plain_set_update_loop _]
      refine wpAny_bind (m := pyNext (.ref it)) (W.done s _ _ hst fun s' hm => ?_)
      refine wpAny_pure (fin s' (hm.mono fun b h => List.mem_cons_of_mem _ h) ?_)
      obtain ⟨o, es, ep, t, ho, rest⟩ := hS
      exact ⟨o, es, ep, t, hm.heap a _ out' ho, rest⟩)
  | succ k ih =>
    intro i s hk hi hst hS fin
    have lt : i < n := by omega
    refine codeAny_builtin F.entry_set_update_loop (by
      rw [Around.under_plainId F.plain_set_update_loop _]
      refine wpAny_bind (m := pyNext (.ref it)) (W.item i s _ _ lt hst fun v s1 hv st1 hm => ?_)
      obtain ⟨t, rfl⟩ := txt i v hv
      have S1 : s1.heap.SetOf (strKind prog w) a (mem xs i) (cnt xs i) := let ⟨o, es, ep, tb, ho, rest⟩ := hS; ⟨o, es, ep, tb, hm.heap a _ out' ho, rest⟩
      refine wpAny_bind (m := holding [Value.str (xs.getD i Str.empty) t] (setAdd a (.str (xs.getD i Str.empty) t))) (wpAny_holding ?_)
      unfold setAdd
      refine wpAny_holding (wpAny_bind ((strKind prog w).pyHash (k := xs.getD i Str.empty) (strKind_is _ _ _ _) ?_))
      have room : cnt xs i + 1 < scanBound := by
        have := cnt_le xs i
        unfold scanBound
        omega
      refine wpAny_setAddHashed_of (knd := strKind prog w) (s := { s1 with toks := s1.toks + 1 }) (strKind_is _ _ _ _) rfl S1 room fun h' sb S2 => ?_
      have S3 : h'.SetOf (strKind prog w) a (mem xs (i + 1)) (cnt xs (i + 1)) := SetOf_congr S2 (fun k' => (mem_succ (by omega) k').symm) (by
        rw [cnt_succ]
        by_cases hm : xs.getD i Str.empty ∈ xs.take i
        · rw [if_pos hm, if_pos (decide_eq_true hm)]
        · rw [if_neg hm, if_neg (fun z => hm (of_decide_eq_true z))])
      refine wpAny_pure ⟨plainId_quiet F.plain_set_update_loop _, ih (i + 1) _ (by omega) lt (W.frame _ s1 _ _ st1 (Nat.le_succ _) fun b hb o e => (sb.2 b fun h : b = a => out (h ▸ hb)).trans e) S3 fun s2 m2 S4 => fin s2 ?_ S4⟩
      exact Moved.trans W.gtrans ((hm.mono fun b h => List.mem_cons_of_mem _ h).then_heap (Nat.le_succ _) fun b o hb e => (sb.2 b fun h : b = a => hb (h ▸ List.mem_cons_self)).trans e) m2)
end
section
variable {prog : Program} {w : World} {A : Around} {E : Value → Shared → Prop} {s : Shared}
/-- a set that holds nothing yet -/
abbrev bare (led : Bool) : Obj := { cls := .type "set", dict := none, data := .set #[] 0 (.fresh 0 0 led) }
abbrev made (s : Shared) (led : Bool) : Shared := { s with heap := s.heap.push (bare led) }
/-- what stands behind set(xs) -/
def Filled (prog : Program) (w : World) (s : Shared) (xs : List Str) (h : Heap) : Prop :=
  h.SetOf (strKind prog w) s.heap.objs.size (mem xs xs.length) (cnt xs xs.length) ∧ ∀ b o, b < s.heap.objs.size → s.heap.get? b = some o → h.get? b = some o
theorem init_set {l : Addr} {items : Array Value} {xs : List Str} {led : Bool} (calm : A.handled = none) (hl : s.heap.IsList l items) (ht : StrsAre items.toList xs) (few : xs.length ≤ 4000)
    {Q : PySem.Fin → Shared → Prop} (fin : ∀ h' tk, Filled prog w s xs h' → Q (.done (.ret .none)) { s with heap := h', toks := tk }) :
    wpAny (model prog w) A (Builtin.«set.__init__» ⟨[Value.ref s.heap.objs.size, Value.ref l], []⟩) Q E (made s led) := by
  have new : (made s led).heap.get? s.heap.objs.size = some (bare led) := Heap.get?_push_size _ rfl
  obtain ⟨o, ho, hc, nl, hd⟩ := hl
  obtain ⟨oc, od, oe, os⟩ := o
  cases hc
  cases hd
  have hl : s.heap.IsList l items := ⟨_, ho, rfl, nl, rfl⟩
  have ho1 : (made s led).heap.get? l = some { cls := .type "list", dict := od, data := .seq items nl, slots := os } := Heap.get?_push_of_some _ ho
  have hl1 : (made s led).heap.IsList l items := ⟨_, ho1, rfl, nl, rfl⟩
  have f1 := F.sub_list_set
  have f2 := F.sub_list_frozenset
  have f3 : (Value.type "list" == Value.type "dict") = false := by decide
  have lt : l < s.heap.objs.size := Heap.lt_size ho
  have sz : (made s led).heap.objs.size = s.heap.objs.size + 1 := Heap.size_push _ _
  have tx : xs.length = items.size := by rw [← StrsAre.len_eq ht, Array.length_toList]
  unfold Builtin.«set.__init__» noKeywords Builtin.Frozenset.updateFrom
  unfold made at *
  generalize hPI : pyIter = PI
  wp_walk
  subst hPI
  refine wpAny_pyIter_list hl1 (wpAny_bind (wpAny_runValue ?_))
  have apart : l ≠ (s.heap.push (bare led)).objs.size := by rw [sz]; exact Nat.ne_of_lt (Nat.lt_succ_of_lt lt)
  have out : s.heap.objs.size ∉ [(s.heap.push (bare led)).objs.size, l] := by
    rw [sz]
    simp only [List.mem_cons, List.not_mem_nil, or_false, not_or]
    exact ⟨Nat.ne_of_lt (Nat.lt_succ_self _), Nat.ne_of_gt lt⟩
  have at0 : ((s.heap.push (bare led)).push { cls := .type "list_iterator", data := .fields #[.ref l, .int 0 0] }).get? s.heap.objs.size = some (bare led) := Heap.get?_push_of_some _ new
  refine fill ((Walks.list (by simp [calm]) _ l apart items).toS) s.heap.objs.size out xs tx (by omega) (fun i v hv => SS.strs_at ht i v (by rw [Array.getElem?_toList]; exact hv)) (items.size - 0) 0 _ (by omega) (Nat.zero_le _) ⟨⟨_, Heap.get?_push_size _ rfl, rfl, rfl⟩, (hl1.push _)⟩
    (SetOf_congr ((setObjOf_fresh (knd := strKind prog w) led).setOf at0 (by unfold scanBound; omega)) (fun _ => rfl) rfl) fun s2 mv S2 => ?_
  obtain ⟨h2, g2, d2, tk, os2⟩ := s2
  cases (show g2 = s.gens from mv.gens)
  cases (show d2 = s.drawn from mv.drawn)
  cases (show os2 = s.os from mv.os)
  refine wpAny_pure (wpAny_pure (fin h2 tk ⟨by rw [tx]; exact S2, fun b o hb e => mv.heap b o ?_ (Heap.get?_push_of_some _ (Heap.get?_push_of_some _ e))⟩))
  simp only [List.mem_cons, List.not_mem_nil, or_false, not_or]
  exact ⟨Nat.ne_of_lt hb, by rw [sz]; exact Nat.ne_of_lt (Nat.lt_succ_of_lt hb)⟩
set_option maxHeartbeats 1600000 in
theorem call_set {l : Addr} {items : Array Value} {xs : List Str} {Q : Value → Shared → Prop} (calm : A.handled = none) (hl : s.heap.IsList l items) (ht : StrsAre items.toList xs) (few : xs.length ≤ 4000)
    (fin : ∀ (h' : Heap) (tk : Nat), Filled prog w s xs h' → Q (.ref s.heap.objs.size) { s with heap := h', toks := tk }) : wpAny (model prog w) A (call (.type "set") [.ref l]) Q E s := by
  obtain ⟨c, tl, hmro⟩ := F.called_set.mro
  have k1 := F.called_set.made
  have k2 := F.called_set.sub
  have k3 := F.called_set.notType
  have k4 := F.called_set.canCreate
  have k5 := F.typeCall_set_1 (.ref l)
  refine wpAny_call (codeAny_of_tree (wpAny_pure (M := model prog w) ⟨Code.quiet_builtin _ (by decide +kernel), codeAny_builtin F.entry_type_call ?_⟩))
  rw [Around.under_plain (weight_type_call_type "set" [.ref l] []) rfl]
  repeat (any_goals (first | assumption | wp_step))
  refine codeAny_mono (code_set_new_1 (.ref l) (E := E) (Q₁ := fun x s1 => ∃ led : Bool, x = .ref s.heap.objs.size ∧ s1 = made s led) fun led => ⟨led, rfl, rfl⟩) fun r s1 hr => ?_
  rcases r with e | (_ | _ | _ | x)
  · exact hr
  · exact hr.elim
  · exact hr.elim
  · exact hr.elim
  obtain ⟨led, rfl, rfl⟩ := hr
  have ty : Shared.TypeIs (made s led) (.ref s.heap.objs.size) "set" := ⟨_, Heap.get?_push_size _ rfl, rfl⟩
  have b1 := F.called_set.init.lookup
  have b2 := F.called_set.init.bind (.ref s.heap.objs.size)
  repeat (any_goals (first | assumption | wp_step))
  refine codeAny_call_builtin F.called_set.init.plain F.entry_set_init (check_set_init_1 ty (init_set (by simp [calm]) hl ht few fun h' tk fl => ?_))
  refine wpAny_pure ?_
  repeat (any_goals (first | assumption | wp_step))
  exact fin _ _ fl
end
section
variable {X : L2.Cx}
open L2
theorem strsAre : ∀ {xs : List Str} {us : List Value}, Vals (xs.map V.str) us → StrsAre us xs
  | [], _, r => by cases r; exact .nil
  | x :: xs, _, r => by
    cases r with
    | cons a b =>
      obtain ⟨t, rfl⟩ := a
      exact .cons x t (strsAre b)
/-- len(set(xs)), xs a list of texts -/
def tLenS (K : PySem.W.Frag) (ta : TE) : TE := fun σ H Q => ta σ H fun x H1 => ∃ (l : Addr) (xs : List Str), x = .ref l ∧ SqL K H1 l (xs.map V.str) ∧ xs.length ≤ 4000 ∧ Q (.int (cnt xs xs.length : Nat)) H1
theorem pe_lenS {a : Expr} {ta : TE} {p p2 q pos : Pos} (hg : Gl X "len") (hm : X.mg "len" = none) (hg2 : Gl X "set") (hm2 : X.mg "set" = none) (ha : PE X a ta) (calm : X.calm = true := by rfl)
    (one : starEach [a] X.env = (false, eval a X.env) :: starEach [] X.env := by rfl) : PE X (.Call (.Name "len" p) [.Call (.Name "set" p2) [a] [] q] [] pos) (tLenS X.K ta) := by
  refine ⟨fun pins s σ H Q I h => Call_ (ld_blt I hg hm boot_len (callWith_builtin1 (args_cons (Call_ (ld_blt I hg2 hm2 boot_set ?_)) rfl) rfl rfl))⟩
  refine callWith_type1 (args_cons (thn (ha.run pins s σ H _ I h) fun v s1 ⟨x, H1, I1, r1, l, xs, e, hq, few, fin⟩ => args_nil ?_) one) one rfl
  subst e
  cases r1
  obtain ⟨its, r, pl, hz⟩ := I1.list hq
  refine call_set (I1.ok.hd calm) pl.isList (by simpa using strsAre r) few fun h' tk fl => args_nil ?_
  obtain ⟨⟨o, es, ep, t, ho, hex, hd, _, _, _, hf, hn⟩, hk⟩ := fl
  have small : cnt xs xs.length ≤ 4000 := Nat.le_trans (cnt_le xs _) few
  have I2 : L2.Inv X pins σ H1 { s1 with heap := h', toks := tk } := I1.kept fun b o e => hk b o (Heap.lt_size e) e
  exact call_len_set ho hex hd hf (by rw [hn]; omega) ⟨.int (cnt xs xs.length : Nat), H1, I2.tok _, ⟨_, by rw [hn]⟩, fin⟩
end
end SetStr
end

-- SetStrT
section
set_option Elab.async false
set_option linter.all false
set_option maxRecDepth 100000
/-! len(set(xs)), xs a tuple of texts, or a list of them. -/
namespace SetStr
open PySem PySem.Spec PyProof.Rows
section
variable {prog : Program} {w : World} {A : Around} {E : Value → Shared → Prop} {s : Shared}
theorem init_setT {l : Addr} {items : Array Value} {xs : List Str} {led : Bool} (calm : A.handled = none) (hl : s.heap.IsTuple l items) (ht : StrsAre items.toList xs) (few : xs.length ≤ 4000)
    {Q : PySem.Fin → Shared → Prop} (fin : ∀ h' tk, Filled prog w s xs h' → Q (.done (.ret .none)) { s with heap := h', toks := tk }) :
    wpAny (model prog w) A (Builtin.«set.__init__» ⟨[Value.ref s.heap.objs.size, Value.ref l], []⟩) Q E (made s led) := by
  have new : (made s led).heap.get? s.heap.objs.size = some (bare led) := Heap.get?_push_size _ rfl
  obtain ⟨o, ho, hc, nl, hd⟩ := hl
  obtain ⟨oc, od, oe, os⟩ := o
  cases hc
  cases hd
  have hl : s.heap.IsTuple l items := ⟨_, ho, rfl, nl, rfl⟩
  have ho1 : (made s led).heap.get? l = some { cls := .type "tuple", dict := od, data := .seq items nl, slots := os } := Heap.get?_push_of_some _ ho
  have hl1 : (made s led).heap.IsTuple l items := ⟨_, ho1, rfl, nl, rfl⟩
  have f1 := F.sub_tuple_set
  have f2 := F.sub_tuple_frozenset
  have f3 : (Value.type "list" == Value.type "dict") = false := by decide
  have lt : l < s.heap.objs.size := Heap.lt_size ho
  have sz : (made s led).heap.objs.size = s.heap.objs.size + 1 := Heap.size_push _ _
  have tx : xs.length = items.size := by rw [← StrsAre.len_eq ht, Array.length_toList]
  unfold Builtin.«set.__init__» noKeywords Builtin.Frozenset.updateFrom
  unfold made at *
  generalize hPI : pyIter = PI
  wp_walk
  subst hPI
  refine wpAny_pyIter_tuple hl1 (wpAny_bind (wpAny_runValue ?_))
  have apart : l ≠ (s.heap.push (bare led)).objs.size := by rw [sz]; exact Nat.ne_of_lt (Nat.lt_succ_of_lt lt)
  have out : s.heap.objs.size ∉ [(s.heap.push (bare led)).objs.size, l] := by
    rw [sz]
    simp only [List.mem_cons, List.not_mem_nil, or_false, not_or]
    exact ⟨Nat.ne_of_lt (Nat.lt_succ_self _), Nat.ne_of_gt lt⟩
  have at0 : ((s.heap.push (bare led)).push { cls := .type "tuple_iterator", data := .fields #[.ref l, .int 0 0] }).get? s.heap.objs.size = some (bare led) := Heap.get?_push_of_some _ new
  refine fill ((Walks.tuple (by simp [calm]) _ l apart items).toS) s.heap.objs.size out xs tx (by omega) (fun i v hv => SS.strs_at ht i v (by rw [Array.getElem?_toList]; exact hv)) (items.size - 0) 0 _ (by omega) (Nat.zero_le _) ⟨⟨_, Heap.get?_push_size _ rfl, rfl, rfl⟩, (hl1.push _)⟩
    (SetOf_congr ((setObjOf_fresh (knd := strKind prog w) led).setOf at0 (by unfold scanBound; omega)) (fun _ => rfl) rfl) fun s2 mv S2 => ?_
  obtain ⟨h2, g2, d2, tk, os2⟩ := s2
  cases (show g2 = s.gens from mv.gens)
  cases (show d2 = s.drawn from mv.drawn)
  cases (show os2 = s.os from mv.os)
  refine wpAny_pure (wpAny_pure (fin h2 tk ⟨by rw [tx]; exact S2, fun b o hb e => mv.heap b o ?_ (Heap.get?_push_of_some _ (Heap.get?_push_of_some _ e))⟩))
  simp only [List.mem_cons, List.not_mem_nil, or_false, not_or]
  exact ⟨Nat.ne_of_lt hb, by rw [sz]; exact Nat.ne_of_lt (Nat.lt_succ_of_lt hb)⟩
set_option maxHeartbeats 1600000 in
theorem call_setT {l : Addr} {items : Array Value} {xs : List Str} {Q : Value → Shared → Prop} (calm : A.handled = none) (hl : s.heap.IsTuple l items) (ht : StrsAre items.toList xs) (few : xs.length ≤ 4000)
    (fin : ∀ (h' : Heap) (tk : Nat), Filled prog w s xs h' → Q (.ref s.heap.objs.size) { s with heap := h', toks := tk }) : wpAny (model prog w) A (call (.type "set") [.ref l]) Q E s := by
  obtain ⟨c, tl, hmro⟩ := F.called_set.mro
  have k1 := F.called_set.made
  have k2 := F.called_set.sub
  have k3 := F.called_set.notType
  have k4 := F.called_set.canCreate
  have k5 := F.typeCall_set_1 (.ref l)
  refine wpAny_call (codeAny_of_tree (wpAny_pure (M := model prog w) ⟨Code.quiet_builtin _ (by decide +kernel), codeAny_builtin F.entry_type_call ?_⟩))
  rw [Around.under_plain (weight_type_call_type "set" [.ref l] []) rfl]
  repeat (any_goals (first | assumption | wp_step))
  refine codeAny_mono (code_set_new_1 (.ref l) (E := E) (Q₁ := fun x s1 => ∃ led : Bool, x = .ref s.heap.objs.size ∧ s1 = made s led) fun led => ⟨led, rfl, rfl⟩) fun r s1 hr => ?_
  rcases r with e | (_ | _ | _ | x)
  · exact hr
  · exact hr.elim
  · exact hr.elim
  · exact hr.elim
  obtain ⟨led, rfl, rfl⟩ := hr
  have ty : Shared.TypeIs (made s led) (.ref s.heap.objs.size) "set" := ⟨_, Heap.get?_push_size _ rfl, rfl⟩
  have b1 := F.called_set.init.lookup
  have b2 := F.called_set.init.bind (.ref s.heap.objs.size)
  repeat (any_goals (first | assumption | wp_step))
  refine codeAny_call_builtin F.called_set.init.plain F.entry_set_init (check_set_init_1 ty (init_setT (by simp [calm]) hl ht few fun h' tk fl => ?_))
  refine wpAny_pure ?_
  repeat (any_goals (first | assumption | wp_step))
  exact fin _ _ fl
end
section
variable {X : L2.Cx}
open L2
/-- len(set(xs)), xs a list or a tuple of texts -/
def tLenT (K : PySem.W.Frag) (ta : TE) : TE := fun σ H Q => ta σ H fun x H1 => ∃ (l : Addr) (xs : List Str), x = .ref l ∧ (SqL K H1 l (xs.map V.str) ∨ SqT K H1 l (xs.map V.str)) ∧ xs.length ≤ 4000 ∧ Q (.int (cnt xs xs.length : Nat)) H1
theorem pe_lenT {a : Expr} {ta : TE} {p p2 q pos : Pos} (hg : Gl X "len") (hm : X.mg "len" = none) (hg2 : Gl X "set") (hm2 : X.mg "set" = none) (ha : PE X a ta) (calm : X.calm = true := by rfl)
    (one : starEach [a] X.env = (false, eval a X.env) :: starEach [] X.env := by rfl) : PE X (.Call (.Name "len" p) [.Call (.Name "set" p2) [a] [] q] [] pos) (tLenT X.K ta) := by
  refine ⟨fun pins s σ H Q I h => Call_ (ld_blt I hg hm boot_len (callWith_builtin1 (args_cons (Call_ (ld_blt I hg2 hm2 boot_set ?_)) rfl) rfl rfl))⟩
  refine callWith_type1 (args_cons (thn (ha.run pins s σ H _ I h) fun v s1 ⟨x, H1, I1, r1, l, xs, e, hq, few, fin⟩ => args_nil ?_) one) one rfl
  subst e
  cases r1
  rcases hq with hq | hq
  · obtain ⟨its, r, pl, hz⟩ := I1.list hq
    refine call_set (I1.ok.hd calm) pl.isList (by simpa using strsAre r) few fun h' tk fl => args_nil ?_
    obtain ⟨⟨o, es, ep, t, ho, hex, hd, _, _, _, hf, hn⟩, hk⟩ := fl
    have small : cnt xs xs.length ≤ 4000 := Nat.le_trans (cnt_le xs _) few
    have I2 : L2.Inv X pins σ H1 { s1 with heap := h', toks := tk } := I1.kept fun b o e => hk b o (Heap.lt_size e) e
    exact call_len_set ho hex hd hf (by rw [hn]; omega) ⟨.int (cnt xs xs.length : Nat), H1, I2.tok _, ⟨_, by rw [hn]⟩, fin⟩
  · obtain ⟨its, r, pl, hz⟩ := I1.tuple hq
    refine call_setT (I1.ok.hd calm) pl (by simpa using strsAre r) few fun h' tk fl => args_nil ?_
    obtain ⟨⟨o, es, ep, t, ho, hex, hd, _, _, _, hf, hn⟩, hk⟩ := fl
    have small : cnt xs xs.length ≤ 4000 := Nat.le_trans (cnt_le xs _) few
    have I2 : L2.Inv X pins σ H1 { s1 with heap := h', toks := tk } := I1.kept fun b o e => hk b o (Heap.lt_size e) e
    exact call_len_set ho hex hd hf (by rw [hn]; omega) ⟨.int (cnt xs xs.length : Nat), H1, I2.tok _, ⟨_, by rw [hn]⟩, fin⟩
end
end SetStr
end

-- SupX
section
set_option Elab.async false
set_option linter.all false
set_option maxRecDepth 100000
set_option maxHeartbeats 2000000
/-! a def that says super().m(..) first: its own cells, `__class__` captured. -/
namespace SupX
open PySem PySem.Spec PyProof.Rows L2 StX
/-! ### the frame: own cells behind a captured one -/
theorem cellsFrom_app : ∀ (names : List (Str × NameKind)) (n : Nat) (acc cl : List (Str × Addr)), cellsFrom n names (acc ++ cl) = cellsFrom n names acc ++ cl
  | [], _, _, _ => rfl
  | (x, k) :: r, n, acc, cl => by
    unfold cellsFrom
    split
    · exact cellsFrom_app r (n + 1) ((x, n) :: acc) cl
    · exact cellsFrom_app r n acc cl
theorem cellsFrom_cl (names : List (Str × NameKind)) (n : Nat) (cl : List (Str × Addr)) : cellsFrom n names cl = cellsFrom n names [] ++ cl := cellsFrom_app names n [] cl
theorem lookup_app {α : Type} {x : Str} {c : α} : ∀ {l r : List (Str × α)}, l.lookup x = some c → (l ++ r).lookup x = some c
  | (k, v) :: l, r, h => by
    rw [List.cons_append]
    rw [List.lookup_cons] at h ⊢
    cases hb : x == k with
    | true => rw [hb] at h; exact h
    | false => rw [hb] at h; exact lookup_app h
theorem lookup_app_none {α : Type} {x : Str} : ∀ {l r : List (Str × α)}, l.lookup x = none → (l ++ r).lookup x = r.lookup x
  | [], r, _ => rfl
  | (k, v) :: l, r, h => by
    rw [List.cons_append]
    rw [List.lookup_cons] at h ⊢
    cases hb : x == k with
    | true => rw [hb] at h; cases h
    | false => rw [hb] at h; exact lookup_app_none h
section
variable {M : Model} {A : Around} {E : Value → Shared → Prop} {s₀ s : Shared} {m cm : Str → Option Value} {env : Env} {cs : List (Str × Addr)}
theorem stL {n : Str} {v : Value} {Q : Unit → Shared → Prop} (x : InCallC s₀ env.locals m cs cm s) (hk : env.scope.kind = .function) (hl : env.kindOf n = some .local)
    (h : ∀ s', InCallC s₀ env.locals (fun y => if y = n then some v else m y) cs cm s' → Q () s') : wpAny M A (storeName env n v) Q E s := by
  refine wpAny_storeName_local hl x.toInCall.ns (fun h' hn' hs' => h _ ⟨⟨?_, hn', fun b o e => ?_, x.toInCall.fresh⟩, fun k c hc => ?_, x.apart, x.above⟩) (by rw [hk]; rfl)
  · obtain ⟨h₁, tk, rfl⟩ := x.toInCall.same
    exact ⟨h', _, rfl⟩
  · exact hs'.extBut b o (Nat.ne_of_lt (Nat.lt_of_lt_of_le (Heap.lt_size e) x.toInCall.fresh)) (x.toInCall.keep b o e)
  · exact (x.cell k c hc).sameBut hs' (Nat.ne_of_gt (x.above k c (mem_of_lookup hc)))
theorem stC {n : Str} {c : Addr} {v : Value} {Q : Unit → Shared → Prop} (x : InCallC s₀ env.locals m cs cm s) (hk : env.scope.kind = .function) (hl : env.kindOf n = some .cell)
    (hc : cs.lookup n = some c) (hce : env.cells.lookup n = some c)
    (h : ∀ s', InCallC s₀ env.locals m cs (fun y => if y = n then some v else cm y) s' → Q () s') : wpAny M A (storeName env n v) Q E s := by
  have hLc := x.above n c (mem_of_lookup hc)
  refine wpAny_storeName_cell hk hl hce (x.cell n c hc) fun h' hc' hs' => h _ ⟨⟨?_, x.toInCall.ns.sameBut hs' (Nat.ne_of_lt hLc), fun b o e => ?_, x.toInCall.fresh⟩, fun k c' hk' => ?_, x.apart, x.above⟩
  · obtain ⟨h₁, tk, rfl⟩ := x.toInCall.same
    exact ⟨h', _, rfl⟩
  · exact hs'.extBut b o (Nat.ne_of_lt (Nat.lt_trans (Nat.lt_of_lt_of_le (Heap.lt_size e) x.toInCall.fresh) hLc)) (x.toInCall.keep b o e)
  · by_cases hkn : k = n
    · subst hkn
      rw [hc] at hk'; cases hk'
      simpa using hc'
    · rw [if_neg hkn]
      exact (x.cell k c' hk').sameBut hs' fun e => hkn (name_of_addr x.apart (mem_of_lookup hk') (e ▸ mem_of_lookup hc))
theorem bindParamsS (f : Str × Value → PUnit → Sem (ForInStep PUnit)) (hf : ∀ n v u, f (n, v) u = (do storeName env n v; pure (.yield ⟨⟩))) (hk : env.scope.kind = .function) (hcs : ∀ n c, cs.lookup n = some c → env.cells.lookup n = some c) :
    ∀ (binds : List (Str × Value)) (m cm : Str → Option Value) (s : Shared) (Q : PUnit → Shared → Prop), InCallC s₀ env.locals m cs cm s →
      (∀ x ∈ binds, env.kindOf x.1 = some .local ∨ (env.kindOf x.1 = some .cell ∧ (cs.lookup x.1).isSome = true)) →
      (∀ s', InCallC s₀ env.locals (bindL env.kindOf binds m) cs (bindC env.kindOf binds cm) s' → Q ⟨⟩ s') → wpAny M A (forIn binds ⟨⟩ f) Q E s
  | [], m, cm, s, Q, x, _, h => by rw [List.forIn_nil]; exact wpAny_pure (h s x)
  | (n, v) :: r, m, cm, s, Q, x, hkind, h => by
    rw [List.forIn_cons, hf]
    have hr : ∀ y ∈ r, env.kindOf y.1 = some .local ∨ (env.kindOf y.1 = some .cell ∧ (cs.lookup y.1).isSome = true) := fun y hy => hkind y (List.mem_cons_of_mem _ hy)
    rcases hkind (n, v) List.mem_cons_self with hl | ⟨hl, hc⟩
    · refine wpAny_bind (wpAny_bind (stL x hk hl fun s' x' => wpAny_pure (bindParamsS f hf hk hcs r _ _ s' Q x' hr fun s'' x'' => h s'' ?_)))
      unfold bindL bindC; rw [if_pos hl, if_pos hl]; exact x''
    · obtain ⟨c, hc⟩ := Option.isSome_iff_exists.mp hc
      have hnl : ¬ env.kindOf n = some .local := by rw [hl]; decide
      refine wpAny_bind (wpAny_bind (stC x hk hl hc (hcs n c hc) fun s' x' => wpAny_pure (bindParamsS f hf hk hcs r _ _ s' Q x' hr fun s'' x'' => h s'' ?_)))
      unfold bindL bindC; rw [if_neg hnl, if_neg hnl]; exact x''
end
section
variable {M : Model} {A : Around} {E : Value → Shared → Prop} {s : Shared}
theorem newEnvS {scope : Scope} {globals : Addr} {cl : List (Str × Addr)} {binds : List (Str × Value)} {qual : Str} {func : Option Addr} {code : Value} {builtins : Addr} {Q : Env → Shared → Prop}
    (hk : scope.kind = .function)
    (hkind : ∀ x ∈ binds, scope.names.lookup x.1 = some .local ∨ (scope.names.lookup x.1 = some .cell ∧ ((cellsFrom (s.heap.objs.size + 1) scope.names []).lookup x.1).isSome = true))
    (hQ : ∀ env, env = newEnv scope s.heap.objs.size globals (cellsFrom (s.heap.objs.size + 1) scope.names [] ++ cl) qual func code none builtins →
      ∀ s', InCallC s env.locals (bindL env.kindOf binds fun _ => none) (cellsFrom (s.heap.objs.size + 1) scope.names []) (bindC env.kindOf binds fun _ => none) s' → Q env s') :
    wpAny M A (newFunctionEnv scope globals cl binds qual func code none builtins) Q E s := by
  simp only [newFunctionEnv, Option.isSome_none, Bool.false_eq_true, if_false]
  refine wpAny_bind (wpAny_alloc ?_)
  refine wpAny_bind (wpAny_layCells _ (fun name kind cells => by cases hkc : kind == NameKind.cell <;> simp [hkc]) _ _ _ _ ?_)
  have ok := cellsFrom_ok scope.names (s.heap.push { cls := .type "frame", data := .dict #[] }) (s.heap.objs.size + 1) [] ⟨fun _ _ hm => (nomatch hm), List.Pairwise.nil⟩ (by rw [Heap.size_push]; exact Nat.le_refl _)
  rw [Heap.size_push] at ok
  rw [show ({ s with heap := s.heap.push { cls := .type "frame", data := .dict #[] } } : Shared).heap.objs.size = s.heap.objs.size + 1 from Heap.size_push ..]
  rw [cellsFrom_cl]
  refine wpAny_bind (bindParamsS (s₀ := s) (env := newEnv scope s.heap.objs.size globals (cellsFrom (s.heap.objs.size + 1) scope.names [] ++ cl) qual func code none builtins) (cs := cellsFrom (s.heap.objs.size + 1) scope.names [])
    _ (fun _ _ _ => rfl) hk (fun n c h => lookup_app h) binds (fun _ => none) (fun _ => none) _ _
    ⟨⟨⟨_, _, rfl⟩, (Heap.Ns.new s.heap (.type "frame")).keeps (pushCells_keeps _ _), fun b o e => pushCells_keeps _ _ b o (Heap.get?_push_of_some _ e), Nat.le_refl _⟩,
      fun n c hc => (ok.empty n c (mem_of_lookup hc)).1, ok.apart, fun n c hm => (ok.empty n c hm).2⟩
    hkind fun s' x => wpAny_pure (hQ _ rfl s' x))
end
/-! ### the context of such a def's body -/
abbrev kC : Str := "__class__"
structure SScope (N P : List Str) (sc : Scope) : Prop where
  kind : sc.kind = .function
  co : sc.isCoroutine = false
  gen : sc.isGenerator = false
  nd : N.Nodup
  pre : N.take P.length = P
  par : ∀ x ∈ P, sc.names.lookup x = some .local ∨ sc.names.lookup x = some .cell
  free : ∀ y ∈ sc.names, y.2 = .free → y.1 = kC
  once : ∀ y ∈ sc.names, y.1 = kC → y.2 = .free
  has : sc.names.lookup kC = some .free
  sup : sc.names.lookup ("super" : Str) = some .globalImplicit
abbrev envS (qual : Str) (scope : Scope) (L f cda cc : Addr) : Env := PySem.W.envX qual scope L f (.ref cda) (cellsFrom (L + 1) scope.names [] ++ [(kC, cc)])
def cxS (CX : CXT) (P : Program) (w : World) (K : PySem.W.Frag) (mg : Str → Option Value) (base : Heap) (N : List Str) (qual : Str) (scope : Scope) (f cda cc : Addr) (A : Around) (outer : List Env) (s : Shared) (H : Hp) (E : XK) : Cx where
  prog := P
  w := w
  K := K
  mg := mg
  base := base
  A := A.deeper (envS qual scope s.heap.objs.size f cda cc)
  N := N
  s_0 := s
  H_0 := H
  env := envS qual scope s.heap.objs.size f cda cc
  outer := outer
  stack := envS qual scope s.heap.objs.size f cda cc :: outer
  ex := []
  calm := true
  fn := fun x => x != kC
  pn := []
  xe := fun e s' => wpAny (model P w) (A.deeper (envS qual scope s.heap.objs.size f cda cc)) (leaving (envS qual scope s.heap.objs.size f cda cc) e) (fun _ s'' => CX outer H s E e s'') (fun e' s'' => CX outer H s E e' s'') s'
theorem cell_mem : ∀ {names : List (Str × NameKind)} {n : Nat} {acc : List (Str × Addr)} {y : Str} {c : Addr}, (y, c) ∈ cellsFrom n names acc → (y, c) ∈ acc ∨ (y, NameKind.cell) ∈ names
  | [], _, _, _, _, h => .inl h
  | (x, k) :: r, n, acc, y, c, h => by
    unfold cellsFrom at h
    split at h
    · rename_i hk
      rcases cell_mem h with q | q
      · rcases List.mem_cons.mp q with q | q
        · cases q
          refine .inr ?_
          rw [show k = .cell from by cases k <;> first | rfl | cases hk]
          exact List.mem_cons_self
        · exact .inl q
      · exact .inr (List.mem_cons_of_mem _ q)
    · rcases cell_mem h with q | q
      · exact .inl q
      · exact .inr (List.mem_cons_of_mem _ q)
section
variable {CX : CXT} {P : Program} {w : World} {K : PySem.W.Frag} {mg : Str → Option Value} {base : Heap} {N ps : List Str} {qual : Str} {scope : Scope} {f cda cc D : Addr} {A : Around} {outer : List Env} {s s1 : Shared} {H : Hp} {E : XK} {us : List Value} {vs : List V} {cl : Value} {cld : Option Addr} {csl : Array (Option Value)}
theorem inv_startS (S : SScope N ps scope) (hcc : K.lookup cc = some ⟨cl, cld, .cell (some (.ref D)), csl⟩) (hd : A.handled = none) (e0 : Env0 P w K mg base A outer s H) (hl : vs.length = ps.length) (r : Vals vs us)
    (x : InCallC s s.heap.objs.size (bindL (envS qual scope s.heap.objs.size f cda cc).kindOf (ps.zip us) fun _ => none) (cellsFrom (s.heap.objs.size + 1) scope.names []) (bindC (envS qual scope s.heap.objs.size f cda cc).kindOf (ps.zip us) fun _ => none) s1) :
    Inv (cxS CX P w K mg base N qual scope f cda cc A outer s H E) [] (L2.start N vs) H s1 := by
  have hpl : ps.length ≤ N.length := by have := congrArg List.length S.pre; rw [List.length_take] at this; omega
  obtain ⟨h1, tk, rfl, hk⟩ := x.done
  have noA : ∀ b : Addr, b ∉ (cxS CX P w K mg base N qual scope f cda cc A outer s H E).ex := fun b z => absurd (show b ∈ ([] : List Addr) from z) (by simp)
  have hcs : ∃ o, base.get? cc = some o ∧ o.data = .cell (some (.ref D)) := ⟨_, e0.mod.kin _ _ hcc, rfl⟩
  obtain ⟨occ, hb1, hb2⟩ := hcs
  have ncl : (cellsFrom (s.heap.objs.size + 1) scope.names []).lookup kC = none := by
    cases q : (cellsFrom (s.heap.objs.size + 1) scope.names []).lookup kC with
    | none => rfl
    | some c =>
      rcases cell_mem (PySem.mem_of_lookup q) with z | z
      · cases z
      · cases S.once _ z rfl
  -- a cell: an own one, or the captured
  have two : ∀ y c, (cellsFrom (s.heap.objs.size + 1) scope.names [] ++ [(kC, cc)]).lookup y = some c → (cellsFrom (s.heap.objs.size + 1) scope.names []).lookup y = some c ∨ (y = kC ∧ c = cc) := fun y c h => by
    cases q : (cellsFrom (s.heap.objs.size + 1) scope.names []).lookup y with
    | some c' =>
      rw [lookup_app q] at h
      cases h
      exact .inl rfl
    | none =>
      rw [lookup_app_none q] at h
      refine .inr ?_
      rw [List.lookup_cons] at h
      cases hb : (y == kC) with
      | true => rw [hb] at h; cases h; exact ⟨beq_iff_eq.mp hb, rfl⟩
      | false => rw [hb] at h; cases h
  have lowc : cc < s.heap.objs.size := Heap.lt_size (e0.bs _ _ hb1).1
  refine ⟨⟨e0.mod, S.kind, rfl, rfl, Nat.le_refl _, fun y z c h1 h2 => ?_, fun y hy => ?_, fun y c q h => ?_, fun _ => hd, Around.frames_deeper e0.frames, .inr ⟨rfl, rfl⟩, fun b z => absurd z (noA b), e0.bs, e0.bsz, fun b _ _ => noA b, fun b z => absurd z (noA b), e0.funs, e0.frf⟩,
    rfl, e0.bare, Un.kept hk, ⟨_, x.toInCall.ns, fun i y v h1 h2 h3 => ?_⟩, fun y c h => ?_, e0.hok.fresh (Nat.le_refl _), fun y c h => ?_, fun p hp => absurd (show p ∈ ([] : List (Addr × Obj)) from hp) (by simp), e0.hok.kept hk, ?_⟩
  · rcases two _ _ h1 with q1 | ⟨q1, q2⟩ <;> rcases two _ _ h2 with r1 | ⟨r1, r2⟩
    · exact name_of_addr x.apart (PySem.mem_of_lookup q1) (PySem.mem_of_lookup r1)
    · subst r2
      have z := x.above _ _ (PySem.mem_of_lookup q1)
      exact absurd (Nat.lt_trans lowc z) (Nat.lt_irrefl _)
    · subst q2
      have z := x.above _ _ (PySem.mem_of_lookup r1)
      exact absurd (Nat.lt_trans lowc z) (Nat.lt_irrefl _)
    · rw [q1, r1]
  · have hy : scope.names.lookup y = some .cell ∨ scope.names.lookup y = some .free := hy
    rcases hy with hy | hy
    · obtain ⟨c, e⟩ := cell_has (n := s.heap.objs.size + 1) hy
      exact ⟨c, lookup_app e⟩
    · have e := S.free _ (PySem.mem_of_lookup hy) rfl
      dsimp only at e
      subst e
      exact ⟨cc, by show (cellsFrom (s.heap.objs.size + 1) scope.names [] ++ [(kC, cc)]).lookup kC = _; rw [lookup_app_none ncl]; simp [List.lookup]⟩
  · rcases two _ _ h with q1 | ⟨q1, q2⟩
    · exact Nat.le_of_lt (x.above y c (PySem.mem_of_lookup q1))
    · subst q1
      have q : (kC != kC) = true := q
      simp at q
  · have hi : i < vs.length := by
      unfold L2.start at h2
      by_cases hi : i < vs.length
      · exact hi
      · rw [List.getElem?_append_right (by simpa using hi)] at h2
        rw [List.getElem?_replicate] at h2
        split at h2 <;> cases h2
    have ha : vs[i]? = some v := by
      unfold L2.start at h2
      rw [List.getElem?_append_left (by simpa using hi), List.getElem?_map] at h2
      cases e : vs[i]? with
      | none => rw [e] at h2; cases h2
      | some a => rw [e] at h2; cases h2; rfl
    obtain ⟨u, hu, rv⟩ := r.get ha
    have hp : ps[i]? = some y := by
      rw [← S.pre, List.getElem?_take_of_lt (by omega)]; exact h1
    have ndP : ps.Nodup := by rw [← S.pre]; exact S.nd.sublist (List.take_sublist _ _)
    refine ⟨u, rv, ?_⟩
    rcases S.par y (List.mem_of_getElem? hp) with k | k
    · exact .inl ⟨k, bindL_get ndP hp hu k⟩
    · obtain ⟨c, e⟩ := cell_has (n := s.heap.objs.size + 1) k
      refine .inr ⟨.inl k, c, lookup_app e, ?_⟩
      have q := x.cell y c e
      rw [bindC_get ndP hp hu (by show scope.names.lookup y ≠ _; rw [k]; decide)] at q
      exact q
  · rcases two _ _ h with q1 | ⟨q1, q2⟩
    · exact ⟨_, x.cell y c q1⟩
    · subst q2
      exact ⟨_, occ, hk _ _ (e0.bs _ _ hb1).1, hb2⟩
  · rcases two _ _ h with q1 | ⟨q1, q2⟩
    · exact e0.hok.fresh (Nat.le_of_lt (x.above y c (PySem.mem_of_lookup q1)))
    · subst q2
      exact (e0.bs _ _ hb1).2
  · unfold L2.start
    show _ = N.length
    rw [List.length_append, List.length_map, List.length_replicate]
    omega
end
/-! ### a block where the code that runs is known -/
def PSsA (X : Cx) (code : Code) (body : List Stmt) (t : TS) : Prop := ∀ (pins : List (Addr × Obj)) (s : Shared) (σ : L2.St) (H : Hp) (D : Ends), Inv X pins σ H s → t D σ H → PySem.wpAt (model X.prog X.w) X.A code (execs body X.env) (SP X pins D) X.xe s
theorem PSsA.of {X : Cx} {code : Code} {body : List Stmt} {t : TS} (h : PSs X body t) : PSsA X code body t := fun pins s σ H D I q => wpAt_of_wpAny (h.run pins s σ H D I q)
section
variable {CX : CXT} {P : Program} {w : World} {K : PySem.W.Frag} {mg : Str → Option Value} {base : Heap} {k : Nat} {f cda cc D : Addr} {name qual : Str} {params : Arguments} {body : List Stmt} {scope : Scope} {dV kV doc pm ct oc : Value} {an od : Option Addr} {cl : Value} {cld : Option Addr} {csl : Array (Option Value)}
  {osl : Array (Option Value)} {N ps : List Str} {sp : Sp}
theorem run_bndS {A : Around} {outer : List Env} {s : Shared} {H : Hp} {args : Args} {Q : VK} {E : XK} {G : List V → Hp → Prop} (lk : K.lookup f = some ⟨oc, od, .func (PySem.W.ksFn name qual params body scope dV kV doc pm an (.ref cda) ct cc), osl⟩) (hcd : PySem.W.codeIn K (.ref cda) qual = true)
    (S : SScope N ps scope) (hcc : K.lookup cc = some ⟨cl, cld, .cell (some (.ref D)), csl⟩) (hr : Room (k + 1) A) (e0 : Env0 P w K mg base A outer s H) (hb : Bnd CX P w K mg base (PySem.W.ksFn name qual params body scope dV kV doc pm an (.ref cda) ct cc) args ps A outer s H E G)
    (hbody : ∀ (s2 : Shared) (H2 : Hp) (vs : List V), G vs H2 → Room k (A.deeper (envS qual scope s2.heap.objs.size f cda cc)) →
      ∃ t, PSsA (cxS CX P w K mg base N qual scope f cda cc A outer s2 H2 E) (.func body (envS qual scope s2.heap.objs.size f cda cc)) body t ∧ t { nx := fun _ H' => Q .non H', rt := Q } (L2.start N vs) H2) : codeAny (model P w) A (.call (.ref f) args) (CR CX outer P w H s Q E) s := by
  have KX : K.In s.heap := e0.mod.kin.keeps fun b o e => (e0.bs b o e).1
  refine codeAny_call_function hr.depth (KX _ _ lk) rfl S.co S.gen rfl (PySem.W.codeRec_of KX hcd) ?_
  refine hb _ _ _ fun s2 H2 vs us e2 un ho hx r hl g => ?_
  have lim : s2.heap.NoLimit := e0.mod.nolimit.keeps fun b o e => (e2.bs b o e).1
  have hkind : ∀ y ∈ ps.zip us, scope.names.lookup y.1 = some .local ∨ (scope.names.lookup y.1 = some .cell ∧ ((cellsFrom (s2.heap.objs.size + 1) scope.names []).lookup y.1).isSome = true) := fun y hy => by
    rcases S.par y.1 (List.of_mem_zip hy).1 with q | q
    · exact .inl q
    · exact .inr ⟨q, PySem.W.cellsFrom_some _ _ _ (.inl q)⟩
  refine newEnvS (s := s2) S.kind hkind fun env he s1 x => ?_
  subst he
  refine ⟨lim.keeps x.toInCall.keep, ks_codeAny_funcAt ?_⟩
  obtain ⟨t, ht, hq⟩ := hbody s2 H2 vs g (hr.deeper _)
  have I : Inv (cxS CX P w K mg base N qual scope f cda cc A outer s2 H2 E) [] (L2.start N vs) H2 s1 := inv_startS S hcc hr.hd e2 hl r x
  refine ks_wpAt_mono (ht [] s1 _ _ _ I hq) (fun fl s' hs => ?_) fun e s' hs => ?_
  · have fin : ∀ {σ' : L2.St} {H' : Hp} {v' : V} {u' : Value}, Inv (cxS CX P w K mg base N qual scope f cda cc A outer s2 H2 E) [] σ' H' s' → RelV v' u' → Q v' H' → CE outer P w H s Q u' s' :=
      fun {σ' H' v' u'} J rv' q => ⟨v', H', J.os.trans ho, J.bare, un.trans J.base, J.hok, rv', q⟩
    cases fl with
    | ret u' =>
      obtain ⟨v', σ', H', J, rv', q⟩ := hs
      exact fin J rv' q
    | next =>
      obtain ⟨σ', H', J, q⟩ := hs
      exact fin (v' := V.non) (u' := Value.none) J rfl q
    | brk =>
      obtain ⟨_, _, _, q⟩ := hs
      exact False.elim q
    | cont =>
      obtain ⟨_, _, _, q⟩ := hs
      exact False.elim q
  · exact wpAny_mono hs (fun _ s'' z => hx e s'' z) fun e' s'' z => hx e' s'' z
end
end SupX
end

-- SupX2
section
set_option Elab.async false
set_option linter.all false
set_option maxRecDepth 100000
set_option maxHeartbeats 2000000
namespace SupX
open PySem PySem.Spec PyProof.Rows L2 StX
/-- what super() finds ahead: of an instance of C, behind the class D, m is the def at g -/
structure SupAt (K : PySem.W.Frag) (C D : Addr) (m : Str) (g : Addr) : Prop where
  cls : (PySem.W.clsIn K C).isSome = true
  sub : PySem.W.mroIn K C (.ref D) = some true
  at_ : PySem.W.ks_superIn K C D m = some (some (.ref g))
instance {K : PySem.W.Frag} {C D : Addr} {m : Str} {g : Addr} : Decidable (SupAt K C D m g) := decidable_of_iff ((PySem.W.clsIn K C).isSome = true ∧ PySem.W.mroIn K C (.ref D) = some true ∧ PySem.W.ks_superIn K C D m = some (some (.ref g)))
  ⟨fun ⟨a, b, c⟩ => ⟨a, b, c⟩, fun ⟨a, b, c⟩ => ⟨a, b, c⟩⟩
/-- what the def itself is: its first parameter, its code's file, the cell of its class -/
structure SupDef (K : PySem.W.Frag) (P : Program) (f cda cc D g : Addr) (p1 : Str) : Prop where
  fn : ∃ oc od fd osl ar, K.lookup f = some ⟨oc, od, .func fd, osl⟩ ∧ (fd.params.posonlyargs ++ fd.params.args).head? = some ar ∧ ar.arg = p1
  code : ∃ cl od vs sl file tf, K.lookup cda = some ⟨cl, od, .fields vs, sl⟩ ∧ vs[2]? = some (.str file tf) ∧ ((P.main.file : Str) == file) = true
  cell : ∃ cl cld csl, K.lookup cc = some ⟨cl, cld, .cell (some (.ref D)), csl⟩
  cls : (PySem.W.clsIn K D).isSome = true
  sup : PySem.W.nsIn K mainGlobals "super" = some none
  any : PySem.W.nsIn K cStatics "thirdparty.any" = some none
  tg : PySem.W.typeIn K (.ref g) = some (.type "function")
  fg : PySem.W.fnIn K g = true
  top : (P.main.scope.names.lookup ("super" : Str)).isSome = false
def tSup (SO : Addr → Prop) (sp : Sp) (E : XK) (t : TA) (rest : TS) : TS := fun D σ H => ∃ x C dx fs, σ[0]? = some (some (V.ref x)) ∧ H x = some (.ins C dx fs) ∧ SO C ∧ t σ H fun vs H1 => sp (.ref x :: vs) H1 (fun _ H2 => rest D σ H2) E
/-- what stands in a call's argument list, whatever it is -/
def ArgsOk (X : Cx) (es : List Expr) : Prop := ∀ (pos : Pos) (u : Addr) (self : Value) (g : Addr) (Q : Value → Shared → Prop) (E : Value → Shared → Prop) (s : Shared), PySem.W.fnIn X.K g = true →
  wpAny (model X.prog X.w) X.A (spliced (backTo pos (starEach es X.env))) (fun vs s₁ => PySem.W.MethP X.K u g self s₁.heap ∧ wpAny (model X.prog X.w) X.A (call (.ref u) vs) Q E s₁) E s →
  wpAny (model X.prog X.w) X.A (callWith pos (.ref u) [] (backTo pos (starEach es X.env)) []) Q E s
theorem argsPlain {X : Cx} {e : Expr} {es : List Expr} (he : starEach (e :: es) X.env = (false, eval e X.env) :: starEach es X.env) (hp : ∀ pos, (backTo pos (starEach es X.env)).any (·.1) = false) : ArgsOk X (e :: es) := fun pos u self g Q E s hf h => by
  rw [he] at h ⊢
  exact PySem.W.callWith_of (P := PySem.W.MethP X.K u g self) (by show ((false || (backTo pos (starEach es X.env)).any (·.1)) || false) = false; rw [hp pos]; rfl) (PySem.W.keeps_M hf) (PySem.Calls.evalArgs_plain h)
theorem argsStar {X : Cx} {e : Expr} {es : List Expr} (he : starEach (e :: es) X.env = (false, eval e X.env) :: starEach es X.env) (hp : ∀ pos, (backTo pos (starEach es X.env)).any (·.1) = true) : ArgsOk X (e :: es) := fun pos u self g Q E s hf h => by
  rw [he] at h ⊢
  exact PySem.W.ks_call (P := PySem.W.MethP X.K u g self) (by show (false || (backTo pos (starEach es X.env)).any (·.1)) = true; rw [hp pos]; rfl) (PySem.W.keeps_M hf) (PySem.Calls.evalArgs_plain h)
section
variable {X : Cx} {CX : CXT} {k j : Nat} {f cda cc D g : Addr} {qual m p1 : Str} {scope : Scope} {L : Addr} {sp : Sp} {E : XK} {t : TA} {rest : TS} {code : List Stmt} {es : List Expr} {ss : List Stmt} {N ps : List Str}
theorem psA_sup {q0 q1 q2 q3 q4 : Pos} {pl : Sem Bool} (he : X.env = envS qual scope L f cda cc) (S : SScope N ps scope) (hN : X.N[0]? = some p1) (hl : scope.names.lookup p1 = some .local) (SD : SupDef X.K X.prog f cda cc D g p1) (hm : (m == ("__class__" : Str)) = false) (F : FnR X.prog X.w X.K X.mg X.base CX k g sp) (hr : Room k X.A) (hx : Passes CX X E)
    (ha : PA X es t) (hA : ArgsOk X es) (hrest : PSs X ss rest)
    (hev : eval (.Call (.Attribute (.Call (.Name "super" q0) [] [] q1) m q2) es [] q3) X.env = (do
      let ov ← attributeBase (.Call (.Name "super" q0) [] [] q1) m X.env (eval (.Call (.Name "super" q0) [] [] q1) X.env)
      standAt q2.atName
      let (f, first) ← holding [ov] (getMethod ov m pl)
      callWith q3 f first (backTo q3 (starEach es X.env)) [])) :
    PSsA X (.func code X.env) (.Expr (.Call (.Attribute (.Call (.Name "super" q0) [] [] q1) m q2) es [] q3) q4 :: ss) (tSup (fun C => SupAt X.K C D m g) sp E t rest) := by
  intro pins s σ H De I q
  obtain ⟨x, C, dx, fs, hσ, hx0, so, q⟩ := q
  obtain ⟨_, _, fd, _, ar, lkf, har, ear⟩ := SD.fn
  obtain ⟨_, _, vsC, _, file, tf, lkc, hvs, hfile⟩ := SD.code
  obtain ⟨_, _, _, lkcc⟩ := SD.cell
  obtain ⟨cdD, hD⟩ := Option.isSome_iff_exists.mp SD.cls
  obtain ⟨cdC, hC⟩ := Option.isSome_iff_exists.mp so.cls
  obtain ⟨od, J⟩ := OwnOps.inst_at I hx0
  have XK := I.kIn
  have hsc : X.env.scope = scope := by rw [he]
  obtain ⟨oD, hD1, hD2⟩ : ∃ oD, s.heap.get? D = some oD ∧ oD.data = .cls cdD := by
    unfold PySem.W.clsIn at hD
    split at hD
    · rename_i c d cd' sl ho
      cases hD
      exact ⟨_, XK _ _ ho, rfl⟩
    · cases hD
  have hkS : X.env.kindOf "super" = some .globalImplicit := by
    rw [he]; exact S.sup
  have hkC : X.env.kindOf kC = some .free := by
    rw [he]; exact S.has
  have hce : X.env.cells.lookup kC = some cc := by
    rw [he]
    show (cellsFrom (L + 1) scope.names [] ++ [(kC, cc)]).lookup kC = _
    have ncl : (cellsFrom (L + 1) scope.names []).lookup kC = none := by
      cases q : (cellsFrom (L + 1) scope.names []).lookup kC with
      | none => rfl
      | some c =>
        rcases cell_mem (PySem.mem_of_lookup q) with z | z
        · cases z
        · cases S.once _ z rfl
    rw [lookup_app_none ncl]
    simp [List.lookup]
  have hloc : ∃ mL, s.heap.Ns X.env.locals mL ∧ mL p1 = some (.ref x) := by
    obtain ⟨mL, h1, h2⟩ := I.loc
    obtain ⟨u, ru, lk⟩ := h2 0 p1 (.ref x) hN hσ (.inl (by rw [hsc]; exact hl))
    cases (show u = Value.ref x from ru)
    rcases lk with ⟨_, z⟩ | ⟨z, _⟩
    · exact ⟨mL, h1, z⟩
    · exfalso
      have e : X.env.kindOf p1 = some .local := by rw [he]; exact hl
      rw [e] at z
      rcases z with z | z <;> cases z
  obtain ⟨mL, hns, hself⟩ := hloc
  have hkind := I.ok.kind
  have hgl : s.heap.Ns X.env.globals X.mg := by
    rw [I.ok.glob]
    exact I.mod.glob.keeps I.bk
  obtain ⟨mb, hmb, hbb⟩ := I.mod.blt
  have hbl : s.heap.Ns X.env.builtins mb := by
    rw [I.ok.blt]
    exact hmb.keeps I.bk
  have hmgS : X.mg "super" = none := PySem.W.mg_none_of I.mod.kin I.mod.glob SD.sup
  refine PySem.ks_wpAt_execs_cons (PySem.ks_wpAt_Expr_any (PySem.ks_wpAt_MethodCall (pl := pl) ?_ hev) I.quiet)
  refine PySem.ks_wpAt_super_base (f := f) (cc := cda) (ar := ar) (fd := fd) (vs := vsC) (file := file) (tf := tf) hkS hkC hm (by rw [he]) (XK _ _ lkf) rfl har (by rw [he]) (XK _ _ lkc) rfl hvs hfile SD.top ?_
  refine PySem.W.ks_loadName_global hkind hkS (PySem.Calls.loadGlobal_builtin hgl hmgS hbl ((hbb _ (by decide +kernel)).trans (show bootBuiltins "super" = some (.type "super") by first | rfl | kernel_rfl)) ⟨rfl, ?_⟩)
  refine wpAny_loadName_free hkind hkC hce ⟨_, XK _ _ lkcc, rfl⟩ ?_
  rw [ear]
  refine wpAny_loadName_local hkind (by rw [he]; exact hl) hns hself ?_
  refine PySem.ks_wpAny_isType_cls hD1 hD2 ⟨rfl, ?_⟩
  refine PySem.ks_wpAny_call_super hD1 hD2 J.at_ J.cls (fun c e => ?_) (PySem.W.looks_mroIn XK so.sub) (fun h' e kp => ?_)
  · have := J.no
    unfold PySem.W.notCls at this
    rw [e] at this
    exact Bool.noConfusion this
  · obtain ⟨hh, g0, d0, t0, os0⟩ := s
    dsimp only at e kp
    have Xh : X.K.In h' := fun b o q => kp b o (XK b o q)
    have htg : ∃ og, h'.get? g = some og ∧ og.cls = .type "function" := by
      have z : (X.K.lookup g).map (·.cls) = some (.type "function") := SD.tg
      cases q : X.K.lookup g with
      | none => rw [q] at z; cases z
      | some og => rw [q] at z; exact ⟨og, Xh _ _ q, Option.some.inj z⟩
    obtain ⟨og, hog, cog⟩ := htg
    have hal : PySem.W.alongIn X.K m ((cdC.mro.dropWhile (· != .ref D)).drop 1) = some (some (.ref g)) := by
      have z := so.at_
      unfold PySem.W.ks_superIn at z
      rw [hC] at z
      exact z
    refine PySem.ks_wpAny_getMethod_super (D := D) (x := x) (C := C) (f := g) (of := og) (K := X.K) (l₀ := cdC.mro) (l := (cdC.mro.dropWhile (· != .ref D)).drop 1) e (PySem.W.looks_opaque Xh SD.any) ?_ rfl Xh hal hog cog (PySem.W.ks_ne XK J hC) hm ?_
    · exact fun A Q E s k q => wpAny_bind ((PySem.W.looks_clsIn Xh hC) A _ E s k (wpAny_pure q))
    · have kp2 : ∀ b u, hh.get? b = some u → (h'.push { cls := .type "method", data := .fields #[.ref g, .ref x] }).get? b = some u := fun b u q => Heap.get?_push_of_some _ (kp b u q)
      have I2 : Inv X pins σ H ⟨h'.push { cls := .type "method", data := .fields #[.ref g, .ref x] }, g0, d0, t0 + 1, os0⟩ := Inv.kept (s := ⟨hh, g0, d0, t0, os0⟩) I kp2
      have I1 : Inv X pins σ H ⟨h', g0, d0, t0 + 1, os0⟩ := Inv.kept (s := ⟨hh, g0, d0, t0, os0⟩) I kp
      have fr : H h'.objs.size = none := I1.fresh
      have nl : h'.objs.size ≠ X.env.locals := Nat.ne_of_gt I1.lt
      have nf : h'.objs.size ∉ X.fs := I1.nofs (Nat.le_refl _)
      have I3 : Inv X ((h'.objs.size, PySem.W.methodObj (.ref g) (.ref x)) :: pins) σ H ⟨h'.push { cls := .type "method", data := .fields #[.ref g, .ref x] }, g0, d0, t0 + 1, os0⟩ := I2.pins_of fun p hp => by
        rcases List.mem_cons.mp hp with rfl | hp
        · exact ⟨Heap.get?_push_at rfl rfl, fr, nl, nf, fun v z => by cases z⟩
        · exact I2.pin p (List.mem_append_right _ hp)
      refine hA q3 h'.objs.size (.ref x) g _ _ _ SD.fg (thn (ha.run q3 _ _ σ H _ I3 q) fun us s2 got => ?_)
      obtain ⟨vs, H1, I4, r, hq⟩ := got
      have hb := (I4.pin _ (List.mem_append_right _ List.mem_cons_self)).1
      refine ⟨⟨hb, I4.kIn⟩, wpAny_call (PySem.ks_codeAny_call_bound hb (codeAny_mono (F X.A X.stack s2 H1 (.ref x :: us) (.ref x :: vs) _ E hr I4.env0 (.cons rfl r) hq) fun r s' h => ?_))⟩
      cases r with
      | error e => exact hx _ σ H1 s2 e s' I4 h
      | ok fl =>
        cases fl with
        | ret u =>
          obtain ⟨v, H2, I5, _, h5⟩ := I4.after h
          have I6 : Inv X pins σ H2 s' := I5.pins_of fun p hp => I5.pin p (List.mem_append_right _ (List.mem_cons_of_mem _ hp))
          exact wpAt_of_wpAny (hrest.run pins s' σ H2 De I6 h5)
        | next => exact False.elim h
        | brk => exact False.elim h
        | cont => exact False.elim h
end
end SupX
end

-- Y5a
section
set_option Elab.async false
set_option linter.all false
set_option maxRecDepth 100000
namespace R50
open PySem L2 OwnOps OwnNe G1 StX
/-! ### the text by places -/
def top (i : Nat) : Stmt := PySem.Challenge.pw_wishedwires_k50_ways_of_singles.main.body.getD i (.Pass ⟨0, 0, 0, 0⟩)
abbrev sWord : Stmt := top 17
abbrev sDiff : Stmt := top 19
abbrev sVR (j : Nat) : Stmt := inClass (top 99999927) j
abbrev sKi (j : Nat) : Stmt := inClass (top 31) j
abbrev sPin (j : Nat) : Stmt := inClass (top 32) j
abbrev sPath (j : Nat) : Stmt := inClass (top 33) j
abbrev sJoi (j : Nat) : Stmt := inClass (top 99999936) j
abbrev sAsR : Stmt := top 99999938
abbrev sGrp : Stmt := top 36
abbrev sMat : Stmt := top 37
abbrev sOrd : Stmt := top 38
abbrev sPL : Stmt := top 39
abbrev sWrd : Stmt := top 40
/-- the built-in names that are asked -/
structure Bi (mg : Str → Option Value) : Prop where
  isi : mg "isinstance" = none
  int : mg "int" = none
  str : mg "str" = none
  len : mg "len" = none
  all : mg "all" = none
  set : mg "set" = none
  tuple : mg "tuple" = none
  list : mg "list" = none
  dict : mg "dict" = none
  min : mg "min" = none
  max : mg "max" = none
  range : mg "range" = none
  enum : mg "enumerate" = none
  zip : mg "zip" = none
  sorted : mg "sorted" = none
  sup : mg "super" = none
/-- numbers that the module names -/
structure Nums (mg : Str → Option Value) : Prop where
  signs : ∃ t, mg "WORD_SIGNS" = some (.int 12 t)
  pins : ∃ t, mg "MOST_PINS" = some (.int 6 t)
  ctrl : ∃ t, mg "MOST_CONTROLS" = some (.int 3 t)
/-- the values that are met as names, pins, groups, rules -/
inductive Av (H : Hp) : V → Prop
  | str (x : Str) : Av H (.str x)
  | non : Av H .non
  | int (i : Int) : Av H (.int i)
  | bl (b : Bool) : Av H (.bl b)
  | lst {a : Addr} {xs : List V} (e : H a = some (.lst xs)) : Av H (.ref a)
  | tup {a : Addr} {xs : List V} (e : H a = some (.tup xs)) : Av H (.ref a)
theorem Av.same {H H' : Hp} {v : V} (h : Av H v) (s : Same H H') : Av H' v := by
  cases h with
  | str x => exact .str x
  | non => exact .non
  | int i => exact .int i
  | bl b => exact .bl b
  | lst e => exact .lst (s _ _ e)
  | tup e => exact .tup (s _ _ e)
def wd (x : Str) : Bool := decide (1 ≤ x.length) && decide (x.length ≤ 12) && Txt.isascii x && Txt.isalnum x && Txt.isalpha ⟨#[x.cps.getD 0 0]⟩ && decide (V.str x = V.str (Txt.lower x))
def wdV : V → Bool
  | .str x => wd x
  | _ => false
/-- not too long -/
def Shr : V → Prop
  | .str x => x.length ≤ 1000
  | _ => True
theorem at_hd {α : Type} {xs : List α} {c : α} (h : xs[0]? = some c) : atI xs 0 = some c := by
  cases xs with
  | nil => cases h
  | cons a r =>
    cases h
    unfold atI ixN
    rw [if_pos (by decide), if_pos (by rw [List.length_cons]; omega)]
    rfl
section
variable {P : Program} {w : World} {K : PySem.W.Frag} {mg : Str → Option Value} {base : Heap}
def spWord : Sp := fun vs H Q _ => ∃ v, vs = [v] ∧ Av H v ∧ Shr v ∧ Q (.bl (wdV v)) H
theorem ok_word {f : Addr} {fd : FuncData} (F : Fun K "is_word" "is_word" sWord f fd) (T : Bi mg) (N : Nums mg) : FnOk P w K mg base (L2.CX P w) 1 f fd ["value"] spWord := by
  obtain ⟨t12, n12⟩ := N.signs
  have sc : FnScope ["value"] ["value"] (defScope sWord) := ⟨rfl, rfl, rfl, by decide +kernel, rfl, by decide +kernel, by decide +kernel⟩
  refine F.okX sc (fun vs H Q E h => ?_) (fun cdv A outer s H vs Q E hr h => ?_)
  · obtain ⟨x, rfl, _⟩ := h
    rfl
  · obtain ⟨v, rfl, av, few, fin⟩ := h
    refine ⟨_, pss_cons (ps_if (PW.pt (pw_or (pt_not (pt_val (pe_callB call_isi (by rfl) T.isi (by decide +kernel) (pa_cons (pv 0) (pa_cons (pe_bltn (v := .ty "str") (by rfl) T.str (by decide +kernel) rfl) pa_nil)))))
        (pw_or1 (pt_not (pt_chain op_le op_le pe_int (pe_callB call_len (by rfl) T.len PySem.boot_len (pa_cons (pv 0) pa_nil)) (pe_glob (v := .int 12) (by rfl) n12 ⟨_, rfl⟩)))))) (pss_one (ps_ret pe_bl)) pss_nil)
      (pss_one (ps_ret (pe_and (pe_m0 PySem.F.slot_str_isascii PySem.F.type_str_isascii mt_isascii (pv 0)) (pe_and (pe_m0 PySem.F.slot_str_isalnum PySem.F.type_str_isalnum mt_isalnum (pv 0)) (pe_and (pe_m0 PySem.F.slot_str_isalpha PySem.F.type_str_isalpha mt_isalpha (pe_ix ix_str (pv 0) pe_int (fun _ _ => rfl)))
        (pe_one (pe_cmpR op_eq (pv 0) (pe_lower (pv 0)) (nomark _)))))))), ?_⟩
    cases av with
    | non => exact ⟨_, rfl, _, _, _, _, _, rfl, .ty _, .base .non, kit_ty (r := false) (by decide +kernel), _, rfl, if_pos' rfl fin⟩
    | int i => exact ⟨_, rfl, _, _, _, _, _, rfl, .ty _, .base (.int i), kit_ty (r := false) (by decide +kernel), _, rfl, if_pos' rfl fin⟩
    | bl b => exact ⟨_, rfl, _, _, _, _, _, rfl, .ty _, .base (.bl b), kit_ty (r := false) (by decide +kernel), _, rfl, if_pos' rfl fin⟩
    | lst e => exact ⟨_, rfl, _, _, _, _, _, rfl, .ty _, .base (.lst e), kit_ty (r := false) (by decide +kernel), _, rfl, if_pos' rfl fin⟩
    | tup e => exact ⟨_, rfl, _, _, _, _, _, rfl, .ty _, .base (.tup e), kit_ty (r := false) (by decide +kernel), _, rfl, if_pos' rfl fin⟩
    | str x =>
    have few : x.length ≤ 1000 := few
    have fin : Q (.bl (wd x)) H := fin
    refine ⟨_, rfl, _, _, _, _, _, rfl, .ty _, .base (.str _), kit_ty (r := true) (by decide +kernel), _, rfl, if_neg' rfl ?_⟩
    refine ⟨_, rfl, _, _, rfl, ⟨Nat.le_trans few (by decide), rfl⟩, _, _, rfl, rfl, _, rfl, ?_⟩
    by_cases a1 : (1 : Int) ≤ (x.length : Int)
    · refine if_pos' (decide_eq_true a1) ⟨_, _, rfl, rfl, _, rfl, ?_⟩
      by_cases a2 : (x.length : Int) ≤ 12
      · refine if_neg' (by rw [decide_eq_true a2]; rfl) ?_
        have e1 : decide (1 ≤ x.length) = true := decide_eq_true (by omega)
        have e2 : decide (x.length ≤ 12) = true := decide_eq_true (by omega)
        unfold wd at fin
        rw [e1, e2, Bool.true_and, Bool.true_and] at fin
        refine ⟨_, rfl, ⟨_, rfl⟩, _, rfl, rfl, True.intro, _, rfl, ?_⟩
        cases b1 : Txt.isascii x with
        | false => rw [b1] at fin; exact if_neg' rfl fin
        | true =>
        refine if_pos' rfl ⟨_, rfl, ⟨_, rfl⟩, _, rfl, rfl, True.intro, _, rfl, ?_⟩
        rw [b1, Bool.true_and] at fin
        cases b2 : Txt.isalnum x with
        | false => rw [b2] at fin; exact if_neg' rfl fin
        | true =>
        rw [b2, Bool.true_and] at fin
        have pos : 0 < x.cps.size := by
          have : x.length = x.cps.size := rfl
          omega
        have hx : x.cps.toList[0]? = some (x.cps.getD 0 0) := by
          rw [Array.getElem?_toList, Array.getD_eq_getD_getElem?, Array.getElem?_eq_getElem pos]
          rfl
        refine if_pos' rfl ⟨_, rfl, _, _, x.cps.getD 0 0, rfl, rfl, Nat.le_trans few (by decide), at_hd hx, ⟨_, rfl⟩, _, rfl, rfl, True.intro, _, rfl, ?_⟩
        cases b3 : Txt.isalpha ⟨#[x.cps.getD 0 0]⟩ with
        | false => rw [b3] at fin; exact if_neg' rfl fin
        | true =>
        rw [b3, Bool.true_and] at fin
        exact if_pos' rfl ⟨_, rfl, _, rfl, ⟨_, rfl⟩, _, rfl, rfl, Nat.le_trans few (by decide), rfl, fin⟩
      · refine if_pos' (by rw [decide_eq_false a2]; rfl) ?_
        have e2 : decide (x.length ≤ 12) = false := decide_eq_false (by omega)
        unfold wd at fin
        rw [e2, Bool.and_false] at fin
        exact fin
    · refine if_neg' (decide_eq_false a1) ⟨_, rfl, if_pos' rfl ?_⟩
      have e1 : decide (1 ≤ x.length) = false := decide_eq_false (by omega)
      unfold wd at fin
      rw [e1] at fin
      exact fin
end
end R50
end

-- FnGd
section
set_option Elab.async false
set_option linter.all false
set_option maxRecDepth 100000
/-! what a def promises where no repr is under way (the law itself, and what it calls): so that a repr of lists and tuples may be asked. -/
namespace FnGd
open PySem L2 OwnOps PyProof.Rows
structure FnG (P : Program) (w : World) (K : PySem.W.Frag) (mg : Str → Option Value) (base : Heap) (CX : CXT) (k : Nat) (f : Addr) (fd : FuncData) (ps : List Str) (sp : Sp) : Prop where
  len : ∀ vs H Q E, sp vs H Q E → vs.length = ps.length
  run : ∀ (A : Around) (outer : List Env) (s : Shared) (H : Hp) (args : Args) (us : List Value) (vs : List V) (Q : VK) (E : XK), Room k A → A.guards = some [] → Env0 P w K mg base A outer s H → BindsTo s fd args (ps.zip us) → Vals vs us → sp vs H Q E →
    codeAny (model P w) A (.call (.ref f) args) (CR CX outer P w H s Q E) s
section
variable {P : Program} {w : World} {K : PySem.W.Frag} {mg : Str → Option Value} {base : Heap} {CX : CXT}
theorem okG {x qual : Str} {st : Stmt} {f : Addr} {fd : FuncData} {N ps : List Str} {k : Nat} {sp : Sp} (F : Fun K x qual st f fd) (S : FnScope N ps (defScope st)) (len : ∀ vs H Q E, sp vs H Q E → vs.length = ps.length)
    (hbody : ∀ (cdv : Value) (A : Around) (outer : List Env) (s : Shared) (H : Hp) (vs : List V) (Q : VK) (E : XK), Room k (A.deeper (envOfC qual (defScope st) s.heap.objs.size f cdv)) → A.guards = some [] → sp vs H Q E →
      ∃ t, PSs (cxOf CX P w K mg base N qual (defScope st) f cdv A outer s H E) (defBody st) t ∧ t { nx := fun _ H' => Q .non H', rt := Q } (start N vs) H) : FnG P w K mg base CX (k + 1) f fd ps sp := by
  obtain ⟨oc, od, kV, doc, pm, an, cdv, ct, osl, rfl, lk, hcd⟩ := F.ex
  refine ⟨len, fun A outer s H args us vs Q E room gd e0 bi rel told => ?_⟩
  have inn : K.In s.heap := e0.mod.kin.keeps fun b o e => (e0.bs b o e).1
  have free : s.heap.NoLimit := e0.mod.nolimit.keeps fun b o e => (e0.bs b o e).1
  refine codeAny_call_function room.depth (inn _ _ lk) rfl S.co S.gen rfl (PySem.W.codeRec_of inn hcd) (bi _ _ _ _ (wpAny_newFunctionEnv_cells S.kind (fun y hy => ?_) fun env he s1 x => ?_))
  · rcases S.par y.1 (List.of_mem_zip hy).1 with q | q
    · exact .inl q
    · exact .inr ⟨q, PySem.W.cellsFrom_some _ _ _ (.inl q)⟩
  subst he
  obtain ⟨t, ht, goal⟩ := hbody cdv A outer s H vs Q E (room.deeper _) gd told
  have I := inv_start (CX := CX) (E := E) (A := A) S room.hd e0 (len _ _ _ _ told) rel x
  refine ⟨free.keeps x.toInCall.keep, codeAny_func (wpAny_mono (ht.run [] s1 (start N vs) H _ I goal) (fun fl s' got => ?_) fun e s' got => got)⟩
  match fl, got with
  | .ret u, ⟨v, σ', H', J, rv, q⟩ => exact ⟨v, H', J.os, J.bare, J.base, J.hok, rv, q⟩
  | .next, ⟨σ', H', J, q⟩ => exact ⟨V.non, H', J.os, J.bare, J.base, J.hok, rfl, q⟩
  | .brk, ⟨_, _, _, q⟩ => exact q.elim
  | .cont, ⟨_, _, _, q⟩ => exact q.elim
theorem FnG.of {f : Addr} {fd : FuncData} {ps : List Str} {k : Nat} {sp : Sp} (F : FnOk P w K mg base CX k f fd ps sp) : FnG P w K mg base CX k f fd ps sp := ⟨F.len, fun A outer s H args us vs Q E r _ => F.run A outer s H args us vs Q E r⟩
end
theorem law_callG {P : Program} {w : World} {K : PySem.W.Frag} {mg mb : Str → Option Value} {CX : CXT} {k : Nat} {fa a : Addr} {fd : FuncData} {x : Str} {sp : Sp} {s₁ : Shared} {vs : List Value} {ns : List Int} (KX : K.In s₁.heap) (hns : s₁.heap.Ns mainGlobals mg) (hb : s₁.heap.Ns builtinsNs mb) (hbb : ∀ x : Str, x ≠ Str.ofString "__name__" → mb x = bootBuiltins x)
    (hlim : s₁.heap.NoLimit) (hg : s₁.gens = #[]) (ha : s₁.heap.get? a = some { cls := .type "list", data := .seq vs.toArray }) (hi : IntsAre vs ns) (hl : ns.length ≤ sizeLine) (hr : Room k callerA) (F : ∀ base : Heap, K.In base → base.Ns mainGlobals mg → FnG P w K mg base CX k fa fd [x] sp)
    (hbind : ∀ (s : Shared) (u : Value), BindsTo s fd { pos := [u] } [(x, u)]) (hsp : ∀ H : Hp, Only H → SqL K H a (ns.map V.int) → sp [.ref a] H (fun v _ => v = .bl true) fun _ _ _ => False) (hCX : ∀ (H : Hp) (e : Value) (s' : Shared), CX [] H s₁ (fun _ _ _ => False) e s' → False) :
    codeAny (model P w) callerA (.call (.ref fa) { pos := [.ref a] }) (fun r s' => r = .ok (.ret (.bool true)) ∧ OldK s₁.heap s'.heap ∧ s'.os = s₁.os ∧ AllBare s'.gens) s₁ := by
  have rv := vals_ints hi
  have lenV := hi.length
  have core : ∀ H : Hp, Only H → SqL K H a (ns.map V.int) → HOk P w H s₁.heap → (∀ b, H b ≠ none → b = a) → (H a ≠ none → K.lookup a = none) →
      codeAny (model P w) callerA (.call (.ref fa) { pos := [.ref a] }) (fun r s' => r = .ok (.ret (.bool true)) ∧ OldK s₁.heap s'.heap ∧ s'.os = s₁.os ∧ AllBare s'.gens) s₁ := by
    intro H hO hS hok hA hK
    have out : ∀ b, b ≠ a → H b = none := fun b n => by
      cases q : H b with
      | none => rfl
      | some u => exact absurd (hA b (by rw [q]; exact Option.some_ne_none _)) n
    have noA : ∀ {b o es ep}, s₁.heap.get? b = some o → o.data = .dict es ep → H b = none := fun {b o es ep} e d => out b fun z => by
      subst z
      rw [ha] at e
      cases e
      cases d
    have nsK : ∀ {b m}, s₁.heap.Ns b m → (hidT s₁.heap H).Ns b m := fun ⟨o, es, ep, e, d, r⟩ => ⟨o, es, ep, hidT_get e (noA e d), d, r⟩
    have hKb : K.In (hidT s₁.heap H) := fun b o e => by
      refine hidT_get (KX b o e) ?_
      by_cases z : b = a
      · subst z
        cases q : H b with
        | none => rfl
        | some u =>
          have := hK (by rw [q]; exact Option.some_ne_none _)
          rw [e] at this
          cases this
      · exact out b z
    have hM : L2.Mod K mg (hidT s₁.heap H) := ⟨hKb, nsK hns, ⟨mb, nsK hb, hbb⟩, let ⟨mc, h1, h2⟩ := hlim; ⟨mc, nsK h1, h2⟩⟩
    have e0 : Env0 P w K mg (hidT s₁.heap H) callerA [] s₁ H := ⟨rfl, hM, fun b o e => of_hidT e, Nat.le_of_eq (hidT_size _ _), trivial, fun b hb => (nomatch hb), hok, AllBare.of_eq hg⟩
    refine codeAny_mono ((F (hidT s₁.heap H) hKb (nsK hns)).run callerA [] s₁ H { pos := [.ref a] } [.ref a] [.ref a] (fun v _ => v = .bl true) (fun _ _ _ => False) hr rfl e0 (hbind s₁ _) (.cons rfl .nil) (hsp H hO hS)) fun r s' h => ?_
    match r, h with
    | .error e, h => exact (hCX H e s' h).elim
    | .ok .next, h => exact h.elim
    | .ok .brk, h => exact h.elim
    | .ok .cont, h => exact h.elim
    | .ok (.ret u), ⟨v, H', os, bare, un, hok', r', q⟩ =>
      subst q
      rw [show u = .bool true from r']
      refine ⟨rfl, OldK.of_keep fun b o e => ?_, os, bare⟩
      rcases hO b with z | ⟨ob, xs, z⟩
      · exact un.keep b o e z (fun z => nomatch z) (fun z => nomatch z)
      · have h1 := (hok b _ z).1
        have h2 := (hok' b _ (un.frzs b ob _ z)).1
        rw [e] at h1
        cases h1
        exact h2
  cases hk : K.lookup a with
  | none =>
    refine core (fun b => if b = a then some (.frz { cls := .type "list", data := .seq vs.toArray } (.lst (ns.map V.int))) else none) (fun b => ?_) (.inl (.inr ⟨_, if_pos rfl⟩)) (fun b u z => ?_) (fun b z => ?_) fun _ => hk
    · by_cases h : b = a
      · exact .inr ⟨_, _, if_pos h⟩
      · exact .inl (if_neg h)
    · by_cases h : b = a
      · have z' := (if_pos h).symm.trans z
        cases z'
        subst h
        exact ⟨ha, by rw [List.length_map]; exact hl, vs, 0, rv, ha⟩
      · have z' := (if_neg h).symm.trans z
        cases z'
    · by_cases h : b = a
      · exact h
      · exact absurd (if_neg h) z
  | some o =>
    have e := KX a o hk
    rw [ha] at e
    cases e
    exact core (fun _ => none) (fun _ => .inl rfl) (.inr ⟨_, vs.toArray, 0, hk, rfl, rfl, rfl, by rw [List.size_toArray, lenV]; exact hl, rv⟩) (fun b u z => nomatch z) (fun b z => absurd rfl z) fun z => absurd rfl z
theorem walk_ofG {l : PySem.W.OpenLaw} {n k : Nat} {q : Program} {loose : List Str} {XP : (Str → Option Value) → Heap → Prop} {YP : World → Heap → Prop} {d : DefRec} {K : Params → PySem.W.Frag} {CX : World → CXT} {sp : World → Sp} {x : Str} (hn : l.most = some n) (hn2 : n ≤ sizeLine) (hdf : d.params.defaults = []) (hr : Room k callerA)
    (hY : ∀ (w : World) (h : Heap), YP w h → (K w.params).In h)
    (F : ∀ (w : World) (mg : Str → Option Value) (fa : Addr) (h : Heap), (K w.params).In h → h.Ns mainGlobals mg → mg d.name = some (.ref fa) → ∃ fd, (∀ (s : Shared) (u : Value), BindsTo s fd { pos := [u] } [(x, u)]) ∧ ∀ base : Heap, (K w.params).In base → base.Ns mainGlobals mg → FnG l.prog w (K w.params) mg base (CX w) k fa fd [x] (sp w))
    (hsp : ∀ (w : World) (H : Hp) (a : Addr) (ns : List Int), ns.length ≤ n → Only H → SqL (K w.params) H a (ns.map V.int) → sp w [.ref a] H (fun v _ => v = .bl true) fun _ _ _ => False)
    (hCX : ∀ (w : World) (H : Hp) (s : Shared) (e : Value) (s' : Shared), CX w [] H s (fun _ _ _ => False) e s' → False) :
    PySem.W.WalkO q loose XP YP l.row.toRowW d [] (fun f vs => PySem.call f vs) :=
  Att.attach_call hn hdf fun w s₀ s₁ mg mb fa o pm cd doc a vs ns G Y ho hd hcd hmg hobj hints hlen hg => by
    have KX := hY w s₁.heap Y
    obtain ⟨fd, hb, hF⟩ := F w mg fa s₁.heap KX G.T.g hmg
    exact law_callG KX G.T.g G.T.b G.T.builtins G.T.nolimit hg hobj hints (Nat.le_trans hlen hn2) hr hF hb (fun H hO hS => hsp w H a ns hlen hO hS) fun H e s' => hCX w H s₁ e s'
end FnGd
end

-- HeadB
section
set_option Elab.async false
set_option linter.all false
set_option maxRecDepth 100000
set_option maxHeartbeats 2000000
/-! a law's end over a head that is one kernel run: the facts are one Bool over the written part, its addresses are told by names; nothing of the heap is written out. -/
namespace HdB
open PySem PySem.Spec PyProof.Rows L2 He
abbrev AlB : Type := Bool × AlD
def obsB (ck : List (PySem.W.Frag → Bool)) (fn : List DefD) (K : PySem.W.Frag) : AlB := (ck.all fun f => f K, obsD [] fn K)
def valB (fn : List DefD) : AlB := (true, valD fn)
abbrev SaysB (ck : List (PySem.W.Frag → Bool)) (fn : List DefD) (K : PySem.W.Frag) : Prop := obsB ck fn K = valB fn
def hookB (as : List Addr) (ck : List (PySem.W.Frag → Bool)) (fn : List DefD) : PySem.W.Hook where
  α := AlB
  obs := fun s => obsB ck fn (frG s.heap.get? as)
  val := fun _ => valB fn
  says := fun _ h => ∃ K : PySem.W.Frag, K.In h ∧ SaysB ck fn K
  of := fun _ _ e => ⟨_, frG_in, e⟩
  keeps := fun _ _ _ ⟨K, hK, c⟩ k => ⟨K, PySem.W.Frag.In.keeps hK k, c⟩
def obB (as : List Addr) (ck : List (PySem.W.Frag → Bool)) (fn : List DefD) (s : PySem.W.SharedT) : AlB := obsB ck fn (frG (HandSHeadRun.getT s) as)
theorem obB_eq (as : List Addr) (ck : List (PySem.W.Frag → Bool)) (fn : List DefD) (s : PySem.W.SharedT) : obB as ck fn s = (hookB as ck fn).obs s.abs := by
  have e : HandSHeadRun.getT s = s.abs.heap.get? := funext (HandSHeadRun.getT_eq s)
  unfold obB
  rw [e]
  rfl
section
variable {ck : List (PySem.W.Frag → Bool)} {fn : List DefD} {K : PySem.W.Frag}
theorem SaysB.fact (c : SaysB ck fn K) (i : Nat) {f : PySem.W.Frag → Bool} (h : ck[i]? = some f := by rfl) : f K = true := by
  have c1 : (ck.all fun f => f K) = true := congrArg (fun z : AlB => z.1) c
  exact List.all_eq_true.mp c1 f (List.mem_of_getElem? h)
theorem SaysB.isP (c : SaysB ck fn K) (i : Nat) {p : PySem.W.Frag → Prop} [∀ K, Decidable (p K)] (h : ck[i]? = some (fun K => decide (p K)) := by rfl) : p K := of_decide_eq_true (c.fact i h)
theorem SaysB.def_ (c : SaysB ck fn K) (i : Nat) {d : DefD} (h : fn[i]? = some d := by rfl) : ∃ fd, FunD K d.name d.qual d.params d.body d.scope (d.dvs K) (d.kws K) (fAd K d.at_) fd := by
  have c2 : SaysD [] fn K := congrArg (fun z : AlB => z.2) c
  exact c2.def_ i h
end
/-- a def without defaults -/
theorem funOf {K : PySem.W.Frag} {x q : Str} {st : Stmt} {f : Addr} (h : ∃ fd, FunD K x q (defArgs st) (defBody st) (defScope st) [] [] f fd) : ∃ fd, Fun K x q st f fd := by
  obtain ⟨fd, ⟨⟨oc, od, dV, kV, doc, pm, an, cdv, ct, osl, e, l, c, dd, kk⟩, kp⟩⟩ := h
  rcases dd with ⟨_, q⟩ | ⟨n, _⟩
  · subst q
    exact ⟨fd, ⟨⟨oc, od, kV, doc, pm, an, cdv, ct, osl, e, l, c⟩, kp⟩⟩
  · exact (n rfl).elim
/-- an own error class, seen by a Bool -/
def clsX (K : PySem.W.Frag) (C : Addr) (bt : List Value) (newId : String) : Bool := match K.lookup C with
  | some ⟨.type "type", _, .cls cd, sl⟩ => (match cd.mro, sl.toList with
    | .ref C' :: bm, [_, _, _, _, some (.builtin n), _] => C' == C && (n == newId && (!cd.hasDel && (cd.hasDict && PySem.Giv.tailIs bt bm)))
    | _, _ => false)
  | _ => false
theorem clsX_ok {K : PySem.W.Frag} {C : Addr} {bt : List Value} {newId : String} (q : clsX K C bt newId = true) :
    ∃ nm qn N bs bm sn sub ab col dd k0 k1 k2 k3 k5, K.lookup C = some (PySem.excClassObj nm qn C N bs bm true sn sub ab col dd k0 k1 k2 k3 k5 newId) ∧ PySem.Giv.tailIs bt bm = true := by
  unfold clsX at q
  split at q
  · rename_i dd cd sl ho
    split at q
    · rename_i C' bm k0 k1 k2 k3 n k5 hm hs
      obtain ⟨a1, q⟩ := ba q
      obtain ⟨a2, q⟩ := ba q
      obtain ⟨a3, q⟩ := ba q
      obtain ⟨a4, a5⟩ := ba q
      have b1 := beq_iff_eq.mp a1
      have b2 := beq_iff_eq.mp a2
      have b3 : cd.hasDel = false := by
        cases z : cd.hasDel with
        | false => rfl
        | true => rw [z] at a3; cases a3
      clear a1 a2 a3
      obtain ⟨nm, bs, mro, ns, qn, hd, sn, sub, ab, col, del⟩ := cd
      dsimp only at hm b3 a4
      subst hm b3 a4 b1 b2
      have hsl : sl = #[k0, k1, k2, k3, some (.builtin n), k5] := by
        obtain ⟨l⟩ := sl
        simp only at hs
        rw [hs]
      subst hsl
      exact ⟨nm, qn, ns, bs, bm, sn, sub, ab, col, dd, k0, k1, k2, k3, k5, ho, a5⟩
    · cases q
  · cases q
instance {K : PySem.W.Frag} {C : Addr} : Decidable (Cls K C) := decidable_of_iff (PySem.W.plainGet K C Str.empty = true ∧ PySem.W.hasDictIn K C = true ∧ PySem.W.plainOver K C = true ∧ PySem.W.findIn K (.ref C) "__setattr__" = some (some (.builtin "object.__setattr__")))
  ⟨fun ⟨a, b, c, d⟩ => ⟨a, b, c, d⟩, fun ⟨a, b, c, d⟩ => ⟨a, b, c, d⟩⟩
instance {K : PySem.W.Frag} {C : Addr} {f : Str} : Decidable (NoAttr K C f) := inferInstanceAs (Decidable (PySem.W.findIn K (.ref C) f = some none))
/-- an own error class that keeps its argument in the field given: all that is asked of it, by one Bool -/
def kwN (K : PySem.W.Frag) (f : Addr) : Bool := match K.lookup f with
  | some ⟨_, _, .func fd, _⟩ => (match fd.kwdefaults with
    | .none => true
    | _ => false)
  | _ => false
structure ErrB (K : PySem.W.Frag) (E f : Addr) (cn : Str) (bt : List Value) (newId : String) : Prop where
  here : PySem.W.nsIn K mainGlobals cn = some (some (.ref E))
  xL : clsX K E bt newId = true
  sa : PySem.W.findIn K (.ref E) "__setattr__" = some (some (.builtin "object.__setattr__"))
  ga : PySem.W.findIn K (.ref E) "__getattribute__" = some (some (.builtin "BaseException.__getattribute__"))
  gg : PySem.W.findIn K (.ref E) "__getattr__" = some none
  no : PySem.W.findIn K (.ref E) "given" = some none
  iC : PySem.W.findIn K (.ref E) "__init__" = some (some (.ref f))
  tC : PySem.W.typeIn K (.ref f) = some (.type "function")
  kC : PySem.W.keepIn K (.ref E) = true
  ex : PySem.W.subIn K (.ref E) (.type "BaseException") = some true
  ty : PySem.W.typeIn K (.ref E) = some (.type "type")
  hd : PySem.W.hasDictIn K E = true
  te : PySem.W.exmOne K (.ref E) (.ref E) = some true
  kn : kwN K f = true
instance {K : PySem.W.Frag} {E f : Addr} {cn : Str} {bt : List Value} {newId : String} : Decidable (ErrB K E f cn bt newId) := decidable_of_iff ((PySem.W.nsIn K mainGlobals cn = some (some (.ref E))) ∧ (clsX K E bt newId = true) ∧ (PySem.W.findIn K (.ref E) "__setattr__" = some (some (.builtin "object.__setattr__"))) ∧ (PySem.W.findIn K (.ref E) "__getattribute__" = some (some (.builtin "BaseException.__getattribute__"))) ∧ (PySem.W.findIn K (.ref E) "__getattr__" = some none) ∧ (PySem.W.findIn K (.ref E) "given" = some none) ∧ (PySem.W.findIn K (.ref E) "__init__" = some (some (.ref f))) ∧ (PySem.W.typeIn K (.ref f) = some (.type "function")) ∧ (PySem.W.keepIn K (.ref E) = true) ∧ (PySem.W.subIn K (.ref E) (.type "BaseException") = some true) ∧ (PySem.W.typeIn K (.ref E) = some (.type "type")) ∧ (PySem.W.hasDictIn K E = true) ∧ (PySem.W.exmOne K (.ref E) (.ref E) = some true) ∧ (kwN K f = true))
  ⟨fun ⟨here_, xL_, sa_, ga_, gg_, no_, iC_, tC_, kC_, ex_, ty_, hd_, te_, kn_⟩ => ⟨here_, xL_, sa_, ga_, gg_, no_, iC_, tC_, kC_, ex_, ty_, hd_, te_, kn_⟩, fun ⟨here_, xL_, sa_, ga_, gg_, no_, iC_, tC_, kC_, ex_, ty_, hd_, te_, kn_⟩ => ⟨here_, xL_, sa_, ga_, gg_, no_, iC_, tC_, kC_, ex_, ty_, hd_, te_, kn_⟩⟩
theorem ErrB.txt {K : PySem.W.Frag} {E f : Addr} {cn qn : Str} {bt : List Value} {newId : String} {p1 p2 q1 q2 q3 q4 : Pos} (b : ErrB K E f cn bt newId)
    (F : ∃ fd, FunD K "__init__" qn (PySem.Giv.gA p1 p2) (PySem.Giv.gB q1 q2 q3 q4) PySem.Giv.gS [] [] f fd) (mg : Str → Option Value) (hg : mg cn = some (.ref E)) : PySem.Giv.ErrTxt K mg cn qn newId bt E f := by
  obtain ⟨fd, ⟨⟨oc, od, dV, kV, doc, pm, an, cdv, ct, osl, e, l, c, dd, kk⟩, kp⟩⟩ := F
  subst e
  have k := b.kn
  unfold kwN at k
  rw [l] at k
  have hk : kV = .none := by
    cases kV with
    | none => rfl
    | _ => cases k
  have hd : dV = .none := by
    rcases dd with ⟨_, q⟩ | ⟨n, _⟩
    · exact q
    · exact (n rfl).elim
  subst hk hd
  exact { gC := hg, cls := clsX_ok b.xL, sa := b.sa, ga := b.ga, gg := b.gg, noN := b.no, iC := b.iC, tC := b.tC, kC := b.kC, exC := b.ex, tyC := b.ty, hdC := b.hd, te := b.te, fn := ⟨oc, od, doc, pm, an, cdv, ct, osl, p1, p2, q1, q2, q3, q4, l, c⟩ }
/-- where a class stands, where a method of it does -/
abbrev gaX (K : PySem.W.Frag) (x : Str) : Addr := He.ga K x
abbrev maX (K : PySem.W.Frag) (x m : Str) : Addr := He.ma K (He.ga K x) m
abbrev gD (x : Str) (st : Stmt) : DefD := ⟨(x, none), x, x, defArgs st, defBody st, defScope st, [], []⟩
abbrev mD (c x q : Str) (st : Stmt) : DefD := ⟨(c, some x), x, q, defArgs st, defBody st, defScope st, [], []⟩
/-- the law's end: K and what is known of it come out of the Hook -/
theorem walk_ofB {l : PySem.W.OpenLaw} {n k : Nat} {q : Program} {loose : List Str} {XP : (Str → Option Value) → Heap → Prop} {YP : World → Heap → Prop} {d : DefRec} {CX : World → CXT} {x : Str} (hn : l.most = some n) (hn2 : n ≤ sizeLine) (hdf : d.params.defaults = []) (hr : Room k callerA)
    (F : ∀ (w : World) (mg : Str → Option Value) (fa : Addr) (h : Heap), YP w h → h.Ns mainGlobals mg → mg d.name = some (.ref fa) → ∃ (K : PySem.W.Frag) (fd : FuncData) (sp : Sp), K.In h ∧ (∀ (s : Shared) (u : Value), BindsTo s fd { pos := [u] } [(x, u)]) ∧
      (∀ (H : Hp) (a : Addr) (ns : List Int), ns.length ≤ n → Only H → SqL K H a (ns.map V.int) → sp [.ref a] H (fun v _ => v = .bl true) fun _ _ _ => False) ∧
      ∀ base : Heap, K.In base → base.Ns mainGlobals mg → FnGd.FnG l.prog w K mg base (CX w) k fa fd [x] sp)
    (hCX : ∀ (w : World) (H : Hp) (s : Shared) (e : Value) (s' : Shared), CX w [] H s (fun _ _ _ => False) e s' → False) :
    PySem.W.WalkO q loose XP YP l.row.toRowW d [] (fun f vs => PySem.call f vs) :=
  Att.attach_call hn hdf fun w s₀ s₁ mg mb fa o pm cd doc a vs ns G Y ho hd hcd hmg hobj hints hlen hg => by
    obtain ⟨K, fd, sp, KX, hb, hsp, hF⟩ := F w mg fa s₁.heap Y G.T.g hmg
    exact FnGd.law_callG KX G.T.g G.T.b G.T.builtins G.T.nolimit hg hobj hints (Nat.le_trans hlen hn2) hr hF hb (fun H hO hS => hsp H a ns hlen hO hS) fun H e s' => hCX w H s₁ e s'
end HdB
end

-- HeadS
section
set_option Elab.async false
set_option linter.all false
set_option maxRecDepth 100000
set_option maxHeartbeats 2000000
/-! HeadB, and defs that say super() (their cell of the class, their code's file, keyword-only defaults). -/
namespace HdS
open PySem PySem.Spec PyProof.Rows L2 He HdB
abbrev FnSW : Type := Option (Str × Str × Arguments × FuncBody × Scope × Addr × List Str × Addr)
/-- such a def: where it stands, its names, what it is made of, its keyword-only defaults (true: None, false: some object), its class, its file -/
structure DefS where
  at_ : Str × Option Str
  name : Str
  qual : Str
  params : Arguments
  body : List Stmt
  scope : Scope
  kwd : List (Str × Bool)
  cls : Str
  file : Str
def fnS (K : PySem.W.Frag) (p : Str × Option Str) : FnSW := match K.lookup (fAd K p) with
  | some ⟨_, _, .func fd, _⟩ => some (fd.name, fd.qualname, fd.params, fd.body, fd.scope, fd.globals, fd.closure.map (·.1), fd.builtins)
  | _ => none
def DefS.val (d : DefS) : FnSW := some (d.name, d.qual, d.params, .stmts d.body, d.scope, mainGlobals, ["__class__"], builtinsNs)
/-- where a keyword-only default lies -/
def kwAd (K : PySem.W.Frag) (f : Addr) (k : Str) : Addr := match K.lookup f with
  | some ⟨_, _, .func fd, _⟩ => (match fd.kwdefaults with
    | .ref D => (match PySem.W.nsIn K D k with
      | some (some (.ref a)) => a
      | _ => 0)
    | _ => 0)
  | _ => 0
def DefS.kws (K : PySem.W.Frag) (d : DefS) : List (Str × V) := d.kwd.map fun q => (q.1, if q.2 then V.non else V.ref (kwAd K (fAd K d.at_) q.1))
def isNo : Value → Bool
  | .none => true
  | _ => false
def fileB (K : PySem.W.Frag) (file : Str) : Value → Bool
  | .ref c => (match K.lookup c with
    | some ⟨_, _, .fields vs, _⟩ => (match (vs[2]? : Option Value) with
      | some (.str z _) => decide (z = file)
      | _ => false)
    | _ => false)
  | _ => false
def cellB (K : PySem.W.Frag) (C : Addr) : List (Str × Addr) → Bool
  | [(_, cc)] => (match K.lookup cc with
    | some ⟨_, _, .cell (some (.ref D)), _⟩ => decide (D = C)
    | _ => false)
  | _ => false
def DefS.ok (K : PySem.W.Frag) (d : DefS) : Bool := match K.lookup (fAd K d.at_) with
  | some ⟨_, _, .func fd, _⟩ => PySem.W.codeIn K fd.code d.qual && (isNo fd.defaults && (kwdB K fd.kwdefaults (d.kws K) && (fileB K d.file fd.code && cellB K (ga K d.cls) fd.closure)))
  | _ => false
/-- a plain def that stands at an address told by the written part (a property's getter) -/
structure DefP where
  at_ : PySem.W.Frag → Addr
  name : Str
  qual : Str
  params : Arguments
  body : List Stmt
  scope : Scope
def fnP (K : PySem.W.Frag) (a : Addr) : FnW := match K.lookup a with
  | some ⟨_, _, .func fd, _⟩ => some (fd.name, fd.qualname, fd.params, fd.body, fd.scope, fd.globals, fd.closure, fd.builtins)
  | _ => none
def DefP.val (d : DefP) : FnW := some (d.name, d.qual, d.params, .stmts d.body, d.scope, mainGlobals, [], builtinsNs)
def DefP.ok (K : PySem.W.Frag) (d : DefP) : Bool := PySem.W.keepIn K (.ref (d.at_ K)) && (match K.lookup (d.at_ K) with
  | some ⟨_, _, .func fd, _⟩ => PySem.W.codeIn K fd.code d.qual && (isNo fd.defaults && isNo fd.kwdefaults)
  | _ => false)
abbrev AlS : Type := AlB × (Bool × List FnSW) × (Bool × List FnW)
def obsS (ck : List (PySem.W.Frag → Bool)) (fn : List DefD) (sn : List DefS) (pn : List DefP) (K : PySem.W.Frag) : AlS := (obsB ck fn K, (sn.all fun d => d.ok K, sn.map fun d => fnS K d.at_), (pn.all fun d => d.ok K, pn.map fun d => fnP K (d.at_ K)))
def valS (fn : List DefD) (sn : List DefS) (pn : List DefP) : AlS := (valB fn, (true, sn.map DefS.val), (true, pn.map DefP.val))
abbrev SaysS (ck : List (PySem.W.Frag → Bool)) (fn : List DefD) (sn : List DefS) (pn : List DefP) (K : PySem.W.Frag) : Prop := obsS ck fn sn pn K = valS fn sn pn
def hookS (as : List Addr) (ck : List (PySem.W.Frag → Bool)) (fn : List DefD) (sn : List DefS) (pn : List DefP) : PySem.W.Hook where
  α := AlS
  obs := fun s => obsS ck fn sn pn (frG s.heap.get? as)
  val := fun _ => valS fn sn pn
  says := fun _ h => ∃ K : PySem.W.Frag, K.In h ∧ SaysS ck fn sn pn K
  of := fun _ _ e => ⟨_, frG_in, e⟩
  keeps := fun _ _ _ ⟨K, hK, c⟩ k => ⟨K, PySem.W.Frag.In.keeps hK k, c⟩
def obS (as : List Addr) (ck : List (PySem.W.Frag → Bool)) (fn : List DefD) (sn : List DefS) (pn : List DefP) (s : PySem.W.SharedT) : AlS := obsS ck fn sn pn (frG (HandSHeadRun.getT s) as)
theorem obS_eq (as : List Addr) (ck : List (PySem.W.Frag → Bool)) (fn : List DefD) (sn : List DefS) (pn : List DefP) (s : PySem.W.SharedT) : obS as ck fn sn pn s = (hookS as ck fn sn pn).obs s.abs := by
  have e : HandSHeadRun.getT s = s.abs.heap.get? := funext (HandSHeadRun.getT_eq s)
  unfold obS
  rw [e]
  rfl
section
variable {ck : List (PySem.W.Frag → Bool)} {fn : List DefD} {sn : List DefS} {pn : List DefP} {K : PySem.W.Frag}
theorem SaysS.b (c : SaysS ck fn sn pn K) : SaysB ck fn K := congrArg (fun z : AlS => z.1) c
theorem SaysS.sdef (c : SaysS ck fn sn pn K) (i : Nat) {d : DefS} (h : sn[i]? = some d := by rfl) :
    ∃ (oc : Value) (od : Option Addr) (kV doc pm : Value) (an : Option Addr) (cda : Addr) (ct : Value) (cc : Addr) (osl : Array (Option Value)),
      K.lookup (fAd K d.at_) = some ⟨oc, od, .func (PySem.W.ksFn d.name d.qual d.params d.body d.scope .none kV doc pm an (.ref cda) ct cc), osl⟩ ∧ PySem.W.codeIn K (.ref cda) d.qual = true ∧ KwdV K kV (d.kws K) ∧
      (∃ cl od vs sl file tf, K.lookup cda = some ⟨cl, od, .fields vs, sl⟩ ∧ vs[2]? = some (.str file tf) ∧ file = d.file) ∧ ∃ cl cld csl, K.lookup cc = some ⟨cl, cld, .cell (some (.ref (ga K d.cls))), csl⟩ := by
  have c1 : (sn.all fun d => d.ok K) = true := congrArg (fun z : AlS => z.2.1.1) c
  have e : sn.map (fun d => fnS K d.at_) = sn.map DefS.val := congrArg (fun z : AlS => z.2.1.2) c
  have ok := List.all_eq_true.mp c1 d (List.mem_of_getElem? h)
  have e2 : (sn.map fun d => fnS K d.at_)[i]? = (sn.map DefS.val)[i]? := by rw [e]
  rw [List.getElem?_map, List.getElem?_map, h] at e2
  have e3 : fnS K d.at_ = d.val := Option.some.inj e2
  unfold fnS at e3
  unfold DefS.ok at ok
  cases q : K.lookup (fAd K d.at_) with
  | none =>
    rw [q] at ok
    cases ok
  | some o =>
    obtain ⟨oc, od, dt, osl⟩ := o
    rw [q] at ok e3
    cases dt with
    | func fd =>
      obtain ⟨n1, n2, n3, n4, n5, n6, n7, n8, n9, n10, n11, n12, n13, n14, n15⟩ := fd
      have e4 : (some (n1, n2, n3, n4, n5, n6, (n7.map fun q => q.1 : List Str), n15) : FnSW) = some (d.name, d.qual, d.params, FuncBody.stmts d.body, d.scope, mainGlobals, (["__class__"] : List Str), builtinsNs) := e3
      simp only [Option.some.injEq, Prod.mk.injEq] at e4
      obtain ⟨h1, h2, h3, h4, h5, h6, h7, h8⟩ := e4
      subst h1 h2 h3 h4 h5 h6 h8
      have c3 : (PySem.W.codeIn K n13 d.qual && (isNo n8 && (kwdB K n9 (d.kws K) && (fileB K d.file n13 && cellB K (ga K d.cls) n7)))) = true := ok
      obtain ⟨k1, k2⟩ := ba c3
      obtain ⟨k3, k4⟩ := ba k2
      obtain ⟨k5, k6⟩ := ba k4
      obtain ⟨k7, k8⟩ := ba k6
      have z8 : n8 = .none := by
        cases n8 with
        | none => rfl
        | _ => cases k3
      subst z8
      obtain ⟨cc, rfl⟩ : ∃ cc, n7 = [(("__class__" : Str), cc)] := by
        match n7, h7 with
        | [(x, cc)], h7 =>
          have : x = "__class__" := by
            have := List.cons.inj h7
            exact this.1
          exact ⟨cc, by rw [this]⟩
      unfold fileB at k7
      unfold cellB at k8
      cases n13 with
      | ref cda =>
        refine ⟨oc, od, n9, n10, n11, n12, cda, n14, cc, osl, rfl, k1, kwdB_ok k5, ?_, ?_⟩
        · dsimp only at k7
          cases ql : K.lookup cda with
          | none => rw [ql] at k7; cases k7
          | some o2 =>
            obtain ⟨cl, od2, dt2, sl⟩ := o2
            rw [ql] at k7
            cases dt2 with
            | fields vs =>
              dsimp only at k7
              cases qv : vs[2]? with
              | none => rw [qv] at k7; cases k7
              | some v =>
                rw [qv] at k7
                cases v with
                | str z t => exact ⟨_, _, vs, _, z, t, rfl, qv, of_decide_eq_true k7⟩
                | _ => cases k7
            | _ => cases k7
        · dsimp only at k8
          cases ql : K.lookup cc with
          | none => rw [ql] at k8; cases k8
          | some o2 =>
            obtain ⟨cl, od2, dt2, sl⟩ := o2
            rw [ql] at k8
            cases dt2 with
            | cell cv =>
              cases cv with
              | none => cases k8
              | some v =>
                cases v with
                | ref D =>
                  have e5 : D = ga K d.cls := of_decide_eq_true k8
                  subst e5
                  exact ⟨_, _, _, rfl⟩
                | _ => cases k8
            | _ => cases k8
      | _ => cases k7
    | _ => cases ok
theorem SaysS.pdef (c : SaysS ck fn sn pn K) (i : Nat) {d : DefP} (h : pn[i]? = some d := by rfl) : ∃ fd, FunD K d.name d.qual d.params d.body d.scope [] [] (d.at_ K) fd := by
  have c1 : (pn.all fun d => d.ok K) = true := congrArg (fun z : AlS => z.2.2.1) c
  have e : pn.map (fun d => fnP K (d.at_ K)) = pn.map DefP.val := congrArg (fun z : AlS => z.2.2.2) c
  have ok := List.all_eq_true.mp c1 d (List.mem_of_getElem? h)
  have e2 : (pn.map fun d => fnP K (d.at_ K))[i]? = (pn.map DefP.val)[i]? := by rw [e]
  rw [List.getElem?_map, List.getElem?_map, h] at e2
  have e3 : fnP K (d.at_ K) = d.val := Option.some.inj e2
  unfold fnP at e3
  unfold DefP.ok at ok
  obtain ⟨kp, ok⟩ := ba ok
  cases q : K.lookup (d.at_ K) with
  | none =>
    rw [q] at ok
    cases ok
  | some o =>
    obtain ⟨oc, od, dt, osl⟩ := o
    rw [q] at ok e3
    cases dt with
    | func fd =>
      obtain ⟨n1, n2, n3, n4, n5, n6, n7, n8, n9, n10, n11, n12, n13, n14, n15⟩ := fd
      have e4 : (some (n1, n2, n3, n4, n5, n6, n7, n15) : FnW) = some (d.name, d.qual, d.params, FuncBody.stmts d.body, d.scope, mainGlobals, [], builtinsNs) := e3
      simp only [Option.some.injEq, Prod.mk.injEq] at e4
      obtain ⟨h1, h2, h3, h4, h5, h6, h7, h8⟩ := e4
      subst h1 h2 h3 h4 h5 h6 h7 h8
      have c3 : (PySem.W.codeIn K n13 d.qual && (isNo n8 && isNo n9)) = true := ok
      obtain ⟨k1, k2⟩ := ba c3
      obtain ⟨k3, k4⟩ := ba k2
      have z8 : n8 = .none := by
        cases n8 with
        | none => rfl
        | _ => cases k3
      have z9 : n9 = .none := by
        cases n9 with
        | none => rfl
        | _ => cases k4
      subst z8 z9
      exact ⟨_, ⟨oc, od, .none, .none, n10, n11, n12, n13, n14, osl, rfl, q, k1, .inl ⟨rfl, rfl⟩, .inl rfl⟩, kp⟩
    | _ => cases ok
end
end HdS
end

-- HeadI
section
set_option Elab.async false
set_option linter.all false
set_option maxRecDepth 100000
/-! the head of a program that opens with imports: its opening run in the kernel too, then the top (HandS.Head0 to Head2 serve a program without imports). -/
noncomputable section
namespace HdI
open PySem PySem.W PySem.Calls PyProof.Rows HandSHeadRun
/-- the opening, to its end -/
def impF (st : SharedT → Thread → Option (SharedT × Thread)) : Nat → SharedT → Thread → Option SharedT
  | 0, _, _ => none
  | m + 1, s, t => match t.atExitBegin with
    | some [] => some s
    | some (_ :: _) => none
    | none => match st s t with
      | some (s', t') => frS s' fun s' => impF st m s' t'
      | none => none
theorem impF_ok {tb : String → Option Builtin} {p : Program} {w : World} : ∀ {m : Nat} {s s' : SharedT} {t : Thread}, impF (stepT (denote tb) p w) m s t = some s' → importEnds tb p w m s.abs t = some s'.abs
  | 0, _, _, _, h => by cases h
  | m + 1, s, s', t, h => by
    unfold impF at h
    unfold importEnds
    cases ht : t.atExitBegin with
    | some l =>
      rw [ht] at h
      cases l with
      | nil => cases h; rfl
      | cons a r => cases h
    | none =>
      rw [ht] at h
      cases hs : stepT (denote tb) p w s t with
      | none => rw [hs] at h; cases h
      | some r =>
        obtain ⟨s2, t2⟩ := r
        rw [hs] at h
        have h3 : (frS s2 fun s' => impF (stepT (denote tb) p w) m s' t2) = some s' := h
        rw [frS_eq] at h3
        have q := impF_ok h3
        show (match step (denote tb) p w s.abs t with
          | .go s' t' => importEnds tb p w m s' t'
          | .halt _ _ => none) = some s'.abs
        rw [stepT_spec hs]
        exact q
def s0T (p : Program) : SharedT := ⟨.nil, 0, (start p).1.heap.life, #[], (start p).1.drawn, (start p).1.toks, (start p).1.os⟩
theorem s0T_abs (p : Program) : (s0T p).abs = (start p).1 := rfl
/-- a shared state as a tree -/
def asT {α : Type} (s : Shared) (k : SharedT → Option α) : Option α := match putAll s.heap.objs.toList .nil 0 with
  | some (t, n) => frNat n fun n => k ⟨t, n, s.heap.life, s.gens, s.drawn, s.toks, s.os⟩
  | none => none
theorem asT_ok {α : Type} {s : Shared} {k : SharedT → Option α} {x : α} (h : asT s k = some x) : ∃ z : SharedT, z.abs = s ∧ k z = some x := by
  unfold asT at h
  cases e : putAll s.heap.objs.toList .nil 0 with
  | none => rw [e] at h; cases h
  | some r =>
    obtain ⟨t, n⟩ := r
    rw [e] at h
    have h1 : (frNat n fun n => k ⟨t, n, s.heap.life, s.gens, s.drawn, s.toks, s.os⟩) = some x := h
    rw [frNat_eq] at h1
    refine ⟨_, ?_, h1⟩
    show (⟨absHeap t n s.heap.life, s.gens, s.drawn, s.toks, s.os⟩ : Shared) = s
    rw [putAll_heap e]
/-- the opening's steps, the fence, the top's steps, the looks -/
def endI {α : Type} (st st' : SharedT → Thread → Option (SharedT × Thread)) (M1 M : Nat) (p : Program) (look : Shared → SharedT → α) : Option α :=
  match impF st' M1 (s0T (opening p)) (start (opening p)).2 with
  | some s => match fenceModules? p s.abs with
    | some s2 => asT s2 fun z => match s2.heap.isNs mainGlobals && s2.gens.size == 0 with
      | true => (goF st z.n (s2.heap.nsMap mainGlobals "__annotations__") M z (topStub p)).map (look s2)
      | false => none
    | none => none
  | none => none
theorem endI_ok {α : Type} {M1 M : Nat} {p : Program} {w : World} {look : Shared → SharedT → α} {x : α} (h : endI (stepT (denote treeTable) p w) (stepT (denote treeTable) (opening p) w) M1 M p look = some x) :
    ∃ s2 s3, fencedOpening treeTable p w M1 = some s2 ∧ (s2.heap.isNs mainGlobals && s2.gens.size == 0) = true ∧ topRun treeTable p w s2.heap.objs.size (s2.heap.nsMap mainGlobals "__annotations__") M s2 (topStub p) = some s3.abs ∧ look s2 s3 = x := by
  unfold endI at h
  cases e : impF (stepT (denote treeTable) (opening p) w) M1 (s0T (opening p)) (start (opening p)).2 with
  | none => rw [e] at h; cases h
  | some s =>
    rw [e] at h
    have q := impF_ok e
    rw [s0T_abs] at q
    have h1 : (match fenceModules? p s.abs with
      | some s2 => asT s2 fun z => match s2.heap.isNs mainGlobals && s2.gens.size == 0 with
        | true => (goF (stepT (denote treeTable) p w) z.n (s2.heap.nsMap mainGlobals "__annotations__") M z (topStub p)).map (look s2)
        | false => none
      | none => none) = some x := h
    cases e2 : fenceModules? p s.abs with
    | none => rw [e2] at h1; cases h1
    | some s2 =>
      rw [e2] at h1
      obtain ⟨z, hz, h2⟩ := asT_ok h1
      cases e3 : (s2.heap.isNs mainGlobals && s2.gens.size == 0) with
      | false =>
        rw [e3] at h2
        cases h2
      | true =>
        rw [e3] at h2
        obtain ⟨s3, h3, h4⟩ := Option.map_eq_some_iff.mp h2
        refine ⟨s2, s3, ?_, e3, ?_, h4⟩
        · unfold fencedOpening
          rw [q]
          exact e2
        · have r := goF_ok h3
          have en : s2.heap.objs.size = z.n := by
            rw [← hz]
            exact absHeap_size _ _ _
          rw [hz] at r
          rw [en]
          exact r
def looksI (p : Program) (s2 : Shared) (s : Shared) : Bool := staticsOk (importedModules p.main.body) s2.heap s.heap && namesBound p s.heap && gensDone s && laidKept s2.heap s.heap
theorem left_two {p q : Program} {loose : List Str} {Xt : Shared → Bool} {α : Type} {Yf : Shared → α} {Ya : World → α} {N M1 M : Nat} (le1 : Nat.ble M1 N = true) (le : Nat.ble M N = true)
    (run : ∀ w : World, endI (stepT (denote treeTable) p w) (stepT (denote treeTable) (opening p) w) M1 M p (fun s2 s => (looksI p s2 s.abs, openSeen q loose (importedModules p.main.body) Xt true s.abs, Yf s.abs)) = some (true, openGood q loose, Ya w)) :
    LeftO p q loose Xt Yf Ya N true := fun w => by
  obtain ⟨s2, s3, h1, h2, h3, h4⟩ := endI_ok (run w)
  obtain ⟨l1, l2, l3⟩ : _ ∧ _ ∧ _ := by simpa only [Prod.mk.injEq] using h4
  have r := topRun_mono (N - M) _ _ _ _ h3
  rw [show M + (N - M) = N by have := Nat.le_of_ble_eq_true le; omega] at r
  have l1' : (staticsOk (importedModules p.main.body) s2.heap s3.abs.heap && namesBound p s3.abs.heap && gensDone s3.abs && laidKept s2.heap s3.abs.heap) = true := l1
  have t : topFrom treeTable p w N s2 = some s3.abs := by
    unfold topFrom
    rw [h2]
    show (topRun treeTable p w s2.heap.objs.size (s2.heap.nsMap mainGlobals "__annotations__") N s2 (topStub p)).bind _ = _
    rw [r]
    show (match staticsOk (importedModules p.main.body) s2.heap s3.abs.heap && namesBound p s3.abs.heap && gensDone s3.abs && laidKept s2.heap s3.abs.heap with | true => some s3.abs | false => none) = _
    rw [l1']
  have f : fencedOpening treeTable p w N = some s2 := by
    unfold fencedOpening at h1 ⊢
    obtain ⟨a, b, c⟩ := Option.bind_eq_some_iff.mp h1
    have m := importEnds_mono (N - M1) _ _ _ _ b
    rw [show M1 + (N - M1) = N by have := Nat.le_of_ble_eq_true le1; omega] at m
    rw [m]
    exact c
  unfold openEnds
  rw [f]
  show (topFrom treeTable p w N _).map _ = _
  rw [t]
  exact congrArg some (Prod.ext l2 l3)
/-- the run's equation at a world, by the library's twins -/
def RunI (r : OpenRow) (q : Program) (H : Hook) (ob : SharedT → H.α) (M1 M : Nat) (loose : List PySem.Str) (w : World) : Prop :=
  endI (stepQ (denQ tabQ) r.prog w) (stepQ (denQ tabQ) (opening r.prog) w) M1 M r.prog (fun s2 s => (looksI r.prog s2 s.abs, seenQ q loose (importedModules r.prog.main.body) (fun s => xlAt q [] s && recOk r.toRowW.records s) s.abs, ob s)) = some (true, openGood q loose, H.val w)
theorem head_imp {r : OpenRow} {q : Program} {H : Hook} {ob : SharedT → H.α} {M1 M : Nat} {loose : List PySem.Str} {d : DefRec} {kwd : List (PySem.Str × PySem.Expr)} (ho : ∀ s : SharedT, ob s = H.obs s.abs)
    (run : ∀ w, RunI r q H ob M1 M loose w)
    (hdef : defOf q r.name = some (d, kwd)) (hp : r.prog.theDef r.name = some (d.params, d.body, d.scope)) (hk : kwWritten? d.params.kwonlyargs d.params.kw_defaults = some kwd)
    (hwr : (!r.writes || r.records.isEmpty) = true) (k1 : r.wellSaid = true) (ok : (chainsOk q && opensWell r.prog && (frees r.toRowW && r.within.isEmpty)) = true) (hb : r.prog.bare) (hw : r.toRowW.promised)
    (call : WalkO q loose (XL q []) H.says r.toRowW d kwd fun f vs => PySem.call f vs) : r.Holds := by
  have left : LeftO r.prog q loose (fun s => xlAt q [] s && recOk r.toRowW.records s) H.obs H.val (M + M1) true :=
    left_two (M1 := M1) (M := M) (Nat.ble_eq_true_of_le (by omega)) (Nat.ble_eq_true_of_le (by omega)) fun w => by
      have z := run w
      have eo : ob = fun s => H.obs s.abs := funext ho
      unfold RunI at z
      rw [eo] at z
      rw [stepQ_eq, denQ_eq, tabQ_eq]
      simp only [seenQ_eq]
      exact z
  exact holds_open (r := r) (q := q) (loose := loose) (XP := XL q []) (YP := H.says) (d := d) (kwd := kwd) left H.of H.keeps (fun s z => xl_of s (Bool.and_eq_true_iff.mp z).1) XL.keeps hdef hp hk (fun s z => recFacts_of (Bool.and_eq_true_iff.mp z).2) hwr k1 ok hb hw call
end HdI
end

-- HeadI2
section
set_option Elab.async false
set_option linter.all false
set_option maxRecDepth 100000
/-! the run's equation out of several kernel runs, each with a part of what is looked at (a kernel run's memory is bounded: 12 GB). -/
noncomputable section
namespace HdI
open PySem PySem.W PySem.Calls PyProof.Rows HandSHeadRun
theorem asT_map {α β : Type} {s : Shared} {k : SharedT → Option α} {g : α → β} : (asT s fun z => (k z).map g) = (asT s k).map g := by
  unfold asT
  cases putAll s.heap.objs.toList .nil 0 with
  | none => rfl
  | some r =>
    obtain ⟨t, n⟩ := r
    show (frNat n fun n => _) = Option.map g (frNat n fun n => _)
    rw [frNat_eq, frNat_eq]
theorem endI_map {α β : Type} {st st' : SharedT → Thread → Option (SharedT × Thread)} {M1 M : Nat} {p : Program} {look : Shared → SharedT → α} {g : α → β} :
    endI st st' M1 M p (fun s2 s => g (look s2 s)) = (endI st st' M1 M p look).map g := by
  unfold endI
  cases impF st' M1 (s0T (opening p)) (PySem.start (opening p)).2 with
  | none => rfl
  | some s =>
    dsimp only
    cases fenceModules? p s.abs with
    | none => rfl
    | some s2 =>
      dsimp only
      rw [← asT_map]
      congr 1
      funext z
      cases (s2.heap.isNs mainGlobals && s2.gens.size == 0) with
      | false => rfl
      | true =>
        dsimp only
        rw [Option.map_map]
        rfl
theorem endI_two {α β : Type} {st st' : SharedT → Thread → Option (SharedT × Thread)} {M1 M : Nat} {p : Program} {a : Shared → SharedT → α} {b : Shared → SharedT → β} {x : α} {y : β} (h1 : endI st st' M1 M p a = some x) (h2 : endI st st' M1 M p b = some y) :
    endI st st' M1 M p (fun s2 s => (a s2 s, b s2 s)) = some (x, y) := by
  have e1 := endI_map (st := st) (st' := st') (M1 := M1) (M := M) (p := p) (look := fun s2 s => (s2, s)) (g := fun q => a q.1 q.2)
  have e2 := endI_map (st := st) (st' := st') (M1 := M1) (M := M) (p := p) (look := fun s2 s => (s2, s)) (g := fun q => b q.1 q.2)
  have e3 := endI_map (st := st) (st' := st') (M1 := M1) (M := M) (p := p) (look := fun s2 s => (s2, s)) (g := fun q => (a q.1 q.2, b q.1 q.2))
  rw [e3]
  have h1 := e1.symm.trans h1
  have h2 := e2.symm.trans h2
  cases e : endI st st' M1 M p fun s2 s => (s2, s) with
  | none => rw [e] at h1; cases h1
  | some q =>
    rw [e] at h1 h2
    have h1 : a q.1 q.2 = x := Option.some.inj h1
    have h2 : b q.1 q.2 = y := Option.some.inj h2
    show some (a q.1 q.2, b q.1 q.2) = _
    rw [h1, h2]
def RunA (r : OpenRow) (M1 M : Nat) (w : World) : Prop :=
  endI (stepQ (denQ tabQ) r.prog w) (stepQ (denQ tabQ) (opening r.prog) w) M1 M r.prog (fun s2 s => looksI r.prog s2 s.abs) = some true
def RunB (r : OpenRow) (q : Program) (M1 M : Nat) (loose : List PySem.Str) (w : World) : Prop :=
  endI (stepQ (denQ tabQ) r.prog w) (stepQ (denQ tabQ) (opening r.prog) w) M1 M r.prog (fun s2 s => seenQ q loose (importedModules r.prog.main.body) (fun s => xlAt q [] s && recOk r.toRowW.records s) s.abs) = some (openGood q loose)
def RunC {α : Type} (r : OpenRow) (ob : SharedT → α) (v : α) (M1 M : Nat) (w : World) : Prop :=
  endI (stepQ (denQ tabQ) r.prog w) (stepQ (denQ tabQ) (opening r.prog) w) M1 M r.prog (fun s2 s => ob s) = some v
theorem run_abc {r : OpenRow} {q : Program} {H : Hook} {ob : SharedT → H.α} {M1 M : Nat} {loose : List PySem.Str} {w : World} (a : RunA r M1 M w) (b : RunB r q M1 M loose w) (c : RunC r ob (H.val w) M1 M w) : RunI r q H ob M1 M loose w :=
  endI_two a (endI_two b c)
end HdI
end

-- HeadS2
section
set_option Elab.async false
set_option linter.all false
set_option maxRecDepth 100000
/-! what HeadS looks at, out of three kernel runs -/
namespace HdS
open PySem PySem.W PySem.Calls PyProof.Rows HandSHeadRun He HdB HdI
theorem run_c {r : OpenRow} {as : List Addr} {ck : List (PySem.W.Frag → Bool)} {fn1 fn2 : List DefD} {sn : List DefS} {pn : List DefP} {M1 M : Nat} {w : World}
    (h1 : RunC r (fun s => ck.all fun f => f (frG (getT s) as)) true M1 M w) (h2 : RunC r (fun s => obsD [] fn1 (frG (getT s) as)) (valD fn1) M1 M w) (h3 : RunC r (fun s => obS as [] fn2 sn pn s) (valS fn2 sn pn) M1 M w) :
    RunC r (fun s => obS as ck (fn1 ++ fn2) sn pn s) (valS (fn1 ++ fn2) sn pn) M1 M w := by
  unfold RunC at h1 h2 h3 ⊢
  have h := endI_two h1 (endI_two h2 h3)
  have e := endI_map (st := stepQ (denQ tabQ) r.prog w) (st' := stepQ (denQ tabQ) (opening r.prog) w) (M1 := M1) (M := M) (p := r.prog) (look := fun (s2 : Shared) (s : SharedT) => ((ck.all fun f => f (frG (getT s) as)), (obsD [] fn1 (frG (getT s) as), obS as [] fn2 sn pn s)))
    (g := fun q : Bool × (AlD × AlS) => (((q.1 && q.2.2.1.1, (q.2.1.1 && q.2.2.1.2.1, q.2.1.2 ++ q.2.2.1.2.2)), q.2.2.2) : AlS))
  rw [h] at e
  have f : (fun (s2 : Shared) (s : SharedT) => obS as ck (fn1 ++ fn2) sn pn s) = fun (s2 : Shared) (s : SharedT) => ((((ck.all fun f => f (frG (getT s) as)) && (obS as [] fn2 sn pn s).1.1, ((obsD [] fn1 (frG (getT s) as)).1 && (obS as [] fn2 sn pn s).1.2.1, (obsD [] fn1 (frG (getT s) as)).2 ++ (obS as [] fn2 sn pn s).1.2.2)), (obS as [] fn2 sn pn s).2) : AlS) := by
    funext s2 s
    unfold obS obsS obsB obsD
    simp only [List.all_nil, Bool.true_and, List.all_append, List.map_append, Bool.and_true]
  rw [f]
  refine e.trans ?_
  unfold valS valB valD
  simp only [Option.map_some, Bool.and_self, List.map_append]
end HdS
end

-- Y598
section
set_option Elab.async false
set_option linter.all false
set_option maxRecDepth 100000
set_option maxHeartbeats 0
namespace R50
open PySem PySem.Spec PyProof.Rows L2 He HdB HdS OwnOps SupX StX
/-- what a property, a staticmethod holds -/
def pgX (K : PySem.W.Frag) (c x : Str) (T : String) : Addr := match PySem.W.recIn K (maX K c x) T with
  | some (.ref g :: _) => g
  | _ => 0
def recB (K : PySem.W.Frag) (c x : Str) (T : String) : Bool := match PySem.W.recIn K (maX K c x) T with
  | some (.ref _ :: _) => true
  | _ => false
theorem recB_ok {K : PySem.W.Frag} {c x : Str} {T : String} (h : recB K c x T = true) : ∃ rest, PySem.W.recIn K (maX K c x) T = some (.ref (pgX K c x T) :: rest) := by
  unfold recB at h
  unfold pgX
  cases q : PySem.W.recIn K (maX K c x) T with
  | none => rw [q] at h; cases h
  | some l =>
    rw [q] at h
    cases l with
    | nil => cases h
    | cons v r => cases v with
      | ref g => exact ⟨r, rfl⟩
      | _ => cases h
/-- a staticmethod as the class hands it out -/
def smB (K : PySem.W.Frag) (C : Addr) (x : Str) (p : Addr) : Bool := match PySem.W.findCls K (.ref C) (.type "type") x with
  | some (.get (.builtin b) (.ref q) .none (.ref D)) => decide (b = "staticmethod.__get__") && (decide (q = p) && decide (D = C))
  | _ => false
theorem smB_ok {K : PySem.W.Frag} {C p : Addr} {x : Str} (h : smB K C x p = true) : PySem.W.findCls K (.ref C) (.type "type") x = some (.get (.builtin "staticmethod.__get__") (.ref p) .none (.ref C)) := by
  unfold smB at h
  split at h
  · rename_i b q D e
    simp only [Bool.and_eq_true, decide_eq_true_eq] at h
    obtain ⟨rfl, rfl, rfl⟩ := h
    exact e
  · cases h
/-- the class of pin kinds, all that is asked of it -/
structure KB (K : PySem.W.Frag) (C DK tp f gK : Addr) : Prop where
  pg : PySem.W.plainGet K C Str.empty = true
  hd : PySem.W.hasDictIn K C = true
  po : PySem.W.plainOver K C = true
  sa : PySem.W.findIn K (.ref C) "__setattr__" = some (some (.builtin "object.__setattr__"))
  n1 : PySem.W.findIn K (.ref C) "name" = some none
  n2 : PySem.W.findIn K (.ref C) "pins" = some none
  n3 : PySem.W.findIn K (.ref C) "controls" = some none
  n4 : PySem.W.findIn K (.ref C) "is_path" = some none
  n5 : PySem.W.findIn K (.ref C) "orders" = some none
  n6 : PySem.W.findIn K (.ref C) "_line" = some none
  n7 : PySem.W.findIn K (.ref C) "_groups" = some none
  n8 : PySem.W.findIn K (.ref C) "_rules" = some none
  tx : PySem.W.findIn K (.ref C) "text" = some (some (.ref tp))
  ha : PySem.W.findIn K (.ref C) "__class__" = some (some (.builtin "object.__class__"))
  hm : PySem.W.mroIn K C (.type "object") = some true
  kK : PySem.W.kitOne K (.ref C) (.ref DK) = some true
  mks : PySem.W.makesIn K C = true
  kp : PySem.W.keepIn K (.ref C) = true
  ini : PySem.W.findIn K (.ref C) "__init__" = some (some (.ref f))
  fi : PySem.W.isFn K (.ref f) = true
  so : SupAt K C C "__init__" gK
/-- the class of items -/
structure IB (K : PySem.W.Frag) (C f : Addr) : Prop where
  pg : PySem.W.plainGet K C Str.empty = true
  hd : PySem.W.hasDictIn K C = true
  po : PySem.W.plainOver K C = true
  sa : PySem.W.findIn K (.ref C) "__setattr__" = some (some (.builtin "object.__setattr__"))
  n1 : PySem.W.findIn K (.ref C) "expression" = some none
  n2 : PySem.W.findIn K (.ref C) "_turned" = some none
  n3 : PySem.W.findIn K (.ref C) "kind" = some none
  n4 : PySem.W.findIn K (.ref C) "is_branch" = some none
  n5 : PySem.W.findIn K (.ref C) "worths" = some none
  n6 : PySem.W.findIn K (.ref C) "names" = some none
  n7 : PySem.W.findIn K (.ref C) "id" = some none
  n8 : PySem.W.findIn K (.ref C) "ends" = some none
  n9 : PySem.W.findIn K (.ref C) "slots" = some none
  n10 : PySem.W.findIn K (.ref C) "shape" = some none
  n11 : PySem.W.findIn K (.ref C) "key" = some none
  mks : PySem.W.makesIn K C = true
  kp : PySem.W.keepIn K (.ref C) = true
  ini : PySem.W.findIn K (.ref C) "__init__" = some (some (.ref f))
  fi : PySem.W.isFn K (.ref f) = true
instance {K : PySem.W.Frag} {C DK tp f gK : Addr} : Decidable (KB K C DK tp f gK) := decidable_of_iff ((PySem.W.plainGet K C Str.empty = true) ∧ (PySem.W.hasDictIn K C = true) ∧ (PySem.W.plainOver K C = true) ∧ (PySem.W.findIn K (.ref C) "__setattr__" = some (some (.builtin "object.__setattr__"))) ∧ (PySem.W.findIn K (.ref C) "name" = some none) ∧ (PySem.W.findIn K (.ref C) "pins" = some none) ∧ (PySem.W.findIn K (.ref C) "controls" = some none) ∧ (PySem.W.findIn K (.ref C) "is_path" = some none) ∧ (PySem.W.findIn K (.ref C) "orders" = some none) ∧ (PySem.W.findIn K (.ref C) "_line" = some none) ∧ (PySem.W.findIn K (.ref C) "_groups" = some none) ∧ (PySem.W.findIn K (.ref C) "_rules" = some none) ∧ (PySem.W.findIn K (.ref C) "text" = some (some (.ref tp))) ∧ (PySem.W.findIn K (.ref C) "__class__" = some (some (.builtin "object.__class__"))) ∧ (PySem.W.mroIn K C (.type "object") = some true) ∧ (PySem.W.kitOne K (.ref C) (.ref DK) = some true) ∧ (PySem.W.makesIn K C = true) ∧ (PySem.W.keepIn K (.ref C) = true) ∧ (PySem.W.findIn K (.ref C) "__init__" = some (some (.ref f))) ∧ (PySem.W.isFn K (.ref f) = true) ∧ (SupAt K C C "__init__" gK))
  ⟨fun ⟨pg_, hd_, po_, sa_, n1_, n2_, n3_, n4_, n5_, n6_, n7_, n8_, tx_, ha_, hm_, kK_, mks_, kp_, ini_, fi_, so_⟩ => ⟨pg_, hd_, po_, sa_, n1_, n2_, n3_, n4_, n5_, n6_, n7_, n8_, tx_, ha_, hm_, kK_, mks_, kp_, ini_, fi_, so_⟩, fun ⟨pg_, hd_, po_, sa_, n1_, n2_, n3_, n4_, n5_, n6_, n7_, n8_, tx_, ha_, hm_, kK_, mks_, kp_, ini_, fi_, so_⟩ => ⟨pg_, hd_, po_, sa_, n1_, n2_, n3_, n4_, n5_, n6_, n7_, n8_, tx_, ha_, hm_, kK_, mks_, kp_, ini_, fi_, so_⟩⟩
instance {K : PySem.W.Frag} {C f : Addr} : Decidable (IB K C f) := decidable_of_iff ((PySem.W.plainGet K C Str.empty = true) ∧ (PySem.W.hasDictIn K C = true) ∧ (PySem.W.plainOver K C = true) ∧ (PySem.W.findIn K (.ref C) "__setattr__" = some (some (.builtin "object.__setattr__"))) ∧ (PySem.W.findIn K (.ref C) "expression" = some none) ∧ (PySem.W.findIn K (.ref C) "_turned" = some none) ∧ (PySem.W.findIn K (.ref C) "kind" = some none) ∧ (PySem.W.findIn K (.ref C) "is_branch" = some none) ∧ (PySem.W.findIn K (.ref C) "worths" = some none) ∧ (PySem.W.findIn K (.ref C) "names" = some none) ∧ (PySem.W.findIn K (.ref C) "id" = some none) ∧ (PySem.W.findIn K (.ref C) "ends" = some none) ∧ (PySem.W.findIn K (.ref C) "slots" = some none) ∧ (PySem.W.findIn K (.ref C) "shape" = some none) ∧ (PySem.W.findIn K (.ref C) "key" = some none) ∧ (PySem.W.makesIn K C = true) ∧ (PySem.W.keepIn K (.ref C) = true) ∧ (PySem.W.findIn K (.ref C) "__init__" = some (some (.ref f))) ∧ (PySem.W.isFn K (.ref f) = true))
  ⟨fun ⟨pg_, hd_, po_, sa_, n1_, n2_, n3_, n4_, n5_, n6_, n7_, n8_, n9_, n10_, n11_, mks_, kp_, ini_, fi_⟩ => ⟨pg_, hd_, po_, sa_, n1_, n2_, n3_, n4_, n5_, n6_, n7_, n8_, n9_, n10_, n11_, mks_, kp_, ini_, fi_⟩, fun ⟨pg_, hd_, po_, sa_, n1_, n2_, n3_, n4_, n5_, n6_, n7_, n8_, n9_, n10_, n11_, mks_, kp_, ini_, fi_⟩ => ⟨pg_, hd_, po_, sa_, n1_, n2_, n3_, n4_, n5_, n6_, n7_, n8_, n9_, n10_, n11_, mks_, kp_, ini_, fi_⟩⟩
abbrev Fc0 (K : PySem.W.Frag) : Prop := KB K (gaX K "PinKind") (gaX K "Kind") (maX K "Kind" "text") (maX K "PinKind" "__init__") (maX K "Kind" "__init__")
abbrev Fc1 (K : PySem.W.Frag) : Prop := IB K (gaX K "Item") (maX K "Item" "__init__")
abbrev Fc2 (K : PySem.W.Frag) : Prop := PySem.W.nsIn K mainGlobals "PinKind" = some (some (.ref (gaX K "PinKind")))
abbrev Fc3 (K : PySem.W.Frag) : Prop := PySem.W.nsIn K mainGlobals "Kind" = some (some (.ref (gaX K "Kind")))
abbrev Fc4 (K : PySem.W.Frag) : Prop := PySem.W.nsIn K mainGlobals "Item" = some (some (.ref (gaX K "Item")))
abbrev Fc5 (K : PySem.W.Frag) : Prop := PySem.W.nsIn K mainGlobals "Ratio" = some (some (.ref (gaX K "Ratio")))
abbrev Fc6 (K : PySem.W.Frag) : Prop := PySem.W.specialIn K (.ref (maX K "Kind" "text")) "__get__" = some (some (.builtin "property.__get__")) ∧ PySem.W.takesIn K (.ref (maX K "Kind" "text")) = some true
abbrev Fc7 (K : PySem.W.Frag) : Prop := recB K "Kind" "text" "property" = true
abbrev Fc8 (K : PySem.W.Frag) : Prop := recB K "Item" "single" "staticmethod" = true
abbrev Fc9 (K : PySem.W.Frag) : Prop := PySem.W.specialIn K (.builtin "object.__class__") "__get__" = some (some (.builtin "getset_descriptor.__get__"))
abbrev Fc10 (K : PySem.W.Frag) : Prop := PySem.W.takesIn K (.builtin "object.__class__") = some true
abbrev Fc11 (K : PySem.W.Frag) : Prop := PySem.W.findIn K (.ref (gaX K "PinKind")) "first_writing" = some (some (.ref (maX K "PinKind" "first_writing"))) ∧ PySem.W.isFn K (.ref (maX K "PinKind" "first_writing")) = true ∧ PySem.W.keepIn K (.ref (maX K "PinKind" "first_writing")) = true
abbrev Fc12 (K : PySem.W.Frag) : Prop := PySem.W.findIn K (.ref (gaX K "PinKind")) "exchanges" = some (some (.ref (maX K "Kind" "exchanges"))) ∧ PySem.W.isFn K (.ref (maX K "Kind" "exchanges")) = true ∧ PySem.W.keepIn K (.ref (maX K "Kind" "exchanges")) = true
abbrev Fc13 (K : PySem.W.Frag) : Prop := PySem.W.findIn K (.ref (gaX K "Item")) "written" = some (some (.ref (maX K "Item" "written"))) ∧ PySem.W.isFn K (.ref (maX K "Item" "written")) = true ∧ PySem.W.keepIn K (.ref (maX K "Item" "written")) = true
abbrev Fc14 (K : PySem.W.Frag) : Prop := PySem.W.typeIn K (.ref (gaX K "Item")) = some (.type "type")
abbrev Fc15 (K : PySem.W.Frag) : Prop := PySem.W.readsIn K (gaX K "Item") (.type "type") = true
abbrev Fc16 (K : PySem.W.Frag) : Prop := smB K (gaX K "Item") "single" (maX K "Item" "single") = true
abbrev Fc17 (K : PySem.W.Frag) : Prop := PySem.W.specialIn K (.ref (gaX K "Item")) "__getattribute__" = some (some (.builtin "type.__getattribute__"))
abbrev Fc18 (K : PySem.W.Frag) : Prop := PySem.W.keepIn K (.ref (pgX K "Item" "single" "staticmethod")) = true
abbrev Fc19 (K : PySem.W.Frag) : Prop := PySem.W.typeIn K (.ref (maX K "Kind" "__init__")) = some (.type "function") ∧ PySem.W.fnIn K (maX K "Kind" "__init__") = true
abbrev Fc20 (K : PySem.W.Frag) : Prop := PySem.W.nsIn K mainGlobals "super" = some none
abbrev Fc21 (K : PySem.W.Frag) : Prop := PySem.W.nsIn K cStatics "thirdparty.any" = some none
abbrev Fc22 (K : PySem.W.Frag) : Prop := (PySem.W.clsIn K (gaX K "PinKind")).isSome = true
abbrev Fc23 (K : PySem.W.Frag) : Prop := (Fa.int "WORD_SIGNS" 12).ok K = true
abbrev Fc24 (K : PySem.W.Frag) : Prop := (Fa.int "MOST_PINS" 6).ok K = true
abbrev Fc25 (K : PySem.W.Frag) : Prop := (Fa.int "MOST_CONTROLS" 3).ok K = true
abbrev Fc26 (K : PySem.W.Frag) : Prop := (Fa.int "NAME_WORDS" 64).ok K = true
abbrev Fc27 (K : PySem.W.Frag) : Prop := (Fa.int "MOST_LEAVES" 5).ok K = true
abbrev Fc28 (K : PySem.W.Frag) : Prop := (match K.lookup (kwAd K (maX K "PinKind" "__init__") "swaps") with | some ⟨.type "tuple", _, .seq its _, _⟩ => its.size == 0 | _ => false) = true
abbrev Fc29 (K : PySem.W.Frag) : Prop := Cls K (gaX K "Ratio")
abbrev Fc30 (K : PySem.W.Frag) : Prop := NoAttr K (gaX K "Ratio") "top"
abbrev Fc31 (K : PySem.W.Frag) : Prop := NoAttr K (gaX K "Ratio") "bottom"
abbrev Fc32 (K : PySem.W.Frag) : Prop := PySem.W.findIn K (.ref (gaX K "Ratio")) "__class__" = some (some (.builtin "object.__class__"))
abbrev Fc33 (K : PySem.W.Frag) : Prop := PySem.W.mroIn K (gaX K "Ratio") (.type "object") = some true
abbrev Fc34 (K : PySem.W.Frag) : Prop := PySem.W.makesIn K (gaX K "Ratio") = true ∧ PySem.W.keepIn K (.ref (gaX K "Ratio")) = true ∧ PySem.W.findIn K (.ref (gaX K "Ratio")) "__init__" = some (some (.ref (maX K "Ratio" "__init__"))) ∧ PySem.W.isFn K (.ref (maX K "Ratio" "__init__")) = true
abbrev Fc35 (K : PySem.W.Frag) : Prop := ∀ T ∈ (["int", "bool", "NoneType", "str", "list", "tuple"] : List String), PySem.W.kitOne K (.type T) (.ref (gaX K "Ratio")) = some false
abbrev Fc36 (K : PySem.W.Frag) : Prop := PySem.W.kitOne K (.ref (gaX K "Ratio")) (.ref (gaX K "Ratio")) = some true
abbrev Fc37 (K : PySem.W.Frag) : Prop := PySem.W.kitOne K (.ref (gaX K "Ratio")) (.type "int") = some false
abbrev Fc38 (K : PySem.W.Frag) : Prop := PySem.W.nsIn K mainGlobals "gcd" = some (some (.builtin "math.gcd"))
abbrev Fc39 (K : PySem.W.Frag) : Prop := PySem.W.findIn K (.ref (gaX K "Ratio")) "__str__" = some (some (.ref (maX K "Ratio" "__str__"))) ∧ PySem.W.isFn K (.ref (maX K "Ratio" "__str__")) = true
abbrev Fc40 (K : PySem.W.Frag) : Prop := ErrB K (gaX K "InvalidKind") (maX K "InvalidKind" "__init__") "InvalidKind" [.type "ValueError", .type "Exception", .type "BaseException", .type "object"] "ValueError.__new__"
abbrev Fc41 (K : PySem.W.Frag) : Prop := ErrB K (gaX K "InvalidName") (maX K "InvalidName" "__init__") "InvalidName" [.type "ValueError", .type "Exception", .type "BaseException", .type "object"] "ValueError.__new__"
abbrev Fc42 (K : PySem.W.Frag) : Prop := ErrB K (gaX K "NotPositive") (maX K "NotPositive" "__init__") "NotPositive" [.type "ValueError", .type "Exception", .type "BaseException", .type "object"] "ValueError.__new__"
abbrev Fc43 (K : PySem.W.Frag) : Prop := ErrB K (gaX K "InvalidNumber") (maX K "InvalidNumber" "__init__") "InvalidNumber" [.type "ValueError", .type "Exception", .type "BaseException", .type "object"] "ValueError.__new__"
abbrev Fc44 (K : PySem.W.Frag) : Prop := ErrB K (gaX K "NoDivision") (maX K "NoDivision" "__init__") "NoDivision" [.type "ZeroDivisionError", .type "ArithmeticError", .type "Exception", .type "BaseException", .type "object"] "ZeroDivisionError.__new__"
abbrev Fc45 (K : PySem.W.Frag) : Prop := PySem.W.nsIn K mainGlobals "is_whole" = some (some (.ref (gaX K "is_whole")))
abbrev Fc46 (K : PySem.W.Frag) : Prop := PySem.W.nsIn K mainGlobals "is_word" = some (some (.ref (gaX K "is_word")))
abbrev Fc47 (K : PySem.W.Frag) : Prop := PySem.W.nsIn K mainGlobals "is_name" = some (some (.ref (gaX K "is_name")))
abbrev Fc48 (K : PySem.W.Frag) : Prop := PySem.W.nsIn K mainGlobals "are_different_words" = some (some (.ref (gaX K "are_different_words")))
abbrev Fc49 (K : PySem.W.Frag) : Prop := PySem.W.nsIn K mainGlobals "are_names" = some (some (.ref (gaX K "are_names")))
abbrev Fc50 (K : PySem.W.Frag) : Prop := PySem.W.nsIn K mainGlobals "value_of" = some (some (.ref (gaX K "value_of")))
abbrev Fc51 (K : PySem.W.Frag) : Prop := PySem.W.nsIn K mainGlobals "_are_groups" = some (some (.ref (gaX K "_are_groups")))
abbrev Fc52 (K : PySem.W.Frag) : Prop := PySem.W.nsIn K mainGlobals "_mates" = some (some (.ref (gaX K "_mates")))
abbrev Fc53 (K : PySem.W.Frag) : Prop := PySem.W.nsIn K mainGlobals "_orders" = some (some (.ref (gaX K "_orders")))
abbrev Fc54 (K : PySem.W.Frag) : Prop := PySem.W.nsIn K mainGlobals "_worded" = some (some (.ref (gaX K "_worded")))
abbrev Fc55 (K : PySem.W.Frag) : Prop := PySem.W.nsIn K mainGlobals "_check_part_names" = some (some (.ref (gaX K "_check_part_names")))
abbrev Fc56 (K : PySem.W.Frag) : Prop := PySem.W.nsIn K mainGlobals "ways" = some (some (.ref (gaX K "ways")))
abbrev Fc57 (K : PySem.W.Frag) : Prop := PySem.W.nsIn K mainGlobals "_law_start" = some (some (.ref (gaX K "_law_start")))
abbrev Fc58 (K : PySem.W.Frag) : Prop := PySem.W.nsIn K mainGlobals "_law_draw" = some (some (.ref (gaX K "_law_draw")))
abbrev Fc59 (K : PySem.W.Frag) : Prop := PySem.W.nsIn K mainGlobals "_law_orders" = some (some (.ref (gaX K "_law_orders")))
abbrev Fc60 (K : PySem.W.Frag) : Prop := PySem.W.nsIn K mainGlobals "_law_kind" = some (some (.ref (gaX K "_law_kind")))
abbrev Fc61 (K : PySem.W.Frag) : Prop := PySem.W.nsIn K mainGlobals "_law_single" = some (some (.ref (gaX K "_law_single")))
abbrev Fc62 (K : PySem.W.Frag) : Prop := PySem.W.nsIn K mainGlobals "_law_kept" = some (some (.ref (gaX K "_law_kept")))
abbrev Fc63 (K : PySem.W.Frag) : Prop := PySem.W.nsIn K mainGlobals "_law_canonical" = some (some (.ref (gaX K "_law_canonical")))
abbrev Fc64 (K : PySem.W.Frag) : Prop := PySem.W.nsIn K mainGlobals "law" = some (some (.ref (gaX K "law")))
abbrev Fc65 (K : PySem.W.Frag) : Prop := PySem.W.nsIn K mainGlobals "isinstance" = some none
abbrev Fc66 (K : PySem.W.Frag) : Prop := PySem.W.nsIn K mainGlobals "int" = some none
abbrev Fc67 (K : PySem.W.Frag) : Prop := PySem.W.nsIn K mainGlobals "str" = some none
abbrev Fc68 (K : PySem.W.Frag) : Prop := PySem.W.nsIn K mainGlobals "len" = some none
abbrev Fc69 (K : PySem.W.Frag) : Prop := PySem.W.nsIn K mainGlobals "all" = some none
abbrev Fc70 (K : PySem.W.Frag) : Prop := PySem.W.nsIn K mainGlobals "set" = some none
abbrev Fc71 (K : PySem.W.Frag) : Prop := PySem.W.nsIn K mainGlobals "tuple" = some none
abbrev Fc72 (K : PySem.W.Frag) : Prop := PySem.W.nsIn K mainGlobals "list" = some none
abbrev Fc73 (K : PySem.W.Frag) : Prop := PySem.W.nsIn K mainGlobals "dict" = some none
abbrev Fc74 (K : PySem.W.Frag) : Prop := PySem.W.nsIn K mainGlobals "min" = some none
abbrev Fc75 (K : PySem.W.Frag) : Prop := PySem.W.nsIn K mainGlobals "max" = some none
abbrev Fc76 (K : PySem.W.Frag) : Prop := PySem.W.nsIn K mainGlobals "range" = some none
abbrev Fc77 (K : PySem.W.Frag) : Prop := PySem.W.nsIn K mainGlobals "enumerate" = some none
abbrev Fc78 (K : PySem.W.Frag) : Prop := PySem.W.nsIn K mainGlobals "zip" = some none
abbrev Fc79 (K : PySem.W.Frag) : Prop := PySem.W.nsIn K mainGlobals "sorted" = some none
abbrev Fc80 (K : PySem.W.Frag) : Prop := PySem.W.nsIn K mainGlobals "super" = some none
abbrev Fc81 (K : PySem.W.Frag) : Prop := PySem.W.nsIn K mainGlobals "bool" = some none
abbrev Fc82 (K : PySem.W.Frag) : Prop := PySem.W.nsIn K mainGlobals "abs" = some none
abbrev Fc83 (K : PySem.W.Frag) : Prop := PySem.W.nsIn K mainGlobals "repr" = some none
def ck : List (PySem.W.Frag → Bool) := [fun K => decide (Fc0 K), fun K => decide (Fc1 K), fun K => decide (Fc2 K), fun K => decide (Fc3 K), fun K => decide (Fc4 K), fun K => decide (Fc5 K), fun K => decide (Fc6 K), fun K => decide (Fc7 K), fun K => decide (Fc8 K), fun K => decide (Fc9 K), fun K => decide (Fc10 K), fun K => decide (Fc11 K), fun K => decide (Fc12 K), fun K => decide (Fc13 K), fun K => decide (Fc14 K), fun K => decide (Fc15 K), fun K => decide (Fc16 K), fun K => decide (Fc17 K), fun K => decide (Fc18 K), fun K => decide (Fc19 K), fun K => decide (Fc20 K), fun K => decide (Fc21 K), fun K => decide (Fc22 K), fun K => decide (Fc23 K), fun K => decide (Fc24 K), fun K => decide (Fc25 K), fun K => decide (Fc26 K), fun K => decide (Fc27 K), fun K => decide (Fc28 K), fun K => decide (Fc29 K), fun K => decide (Fc30 K), fun K => decide (Fc31 K), fun K => decide (Fc32 K), fun K => decide (Fc33 K), fun K => decide (Fc34 K), fun K => decide (Fc35 K), fun K => decide (Fc36 K), fun K => decide (Fc37 K), fun K => decide (Fc38 K), fun K => decide (Fc39 K), fun K => decide (Fc40 K), fun K => decide (Fc41 K), fun K => decide (Fc42 K), fun K => decide (Fc43 K), fun K => decide (Fc44 K), fun K => decide (Fc45 K), fun K => decide (Fc46 K), fun K => decide (Fc47 K), fun K => decide (Fc48 K), fun K => decide (Fc49 K), fun K => decide (Fc50 K), fun K => decide (Fc51 K), fun K => decide (Fc52 K), fun K => decide (Fc53 K), fun K => decide (Fc54 K), fun K => decide (Fc55 K), fun K => decide (Fc56 K), fun K => decide (Fc57 K), fun K => decide (Fc58 K), fun K => decide (Fc59 K), fun K => decide (Fc60 K), fun K => decide (Fc61 K), fun K => decide (Fc62 K), fun K => decide (Fc63 K), fun K => decide (Fc64 K), fun K => decide (Fc65 K), fun K => decide (Fc66 K), fun K => decide (Fc67 K), fun K => decide (Fc68 K), fun K => decide (Fc69 K), fun K => decide (Fc70 K), fun K => decide (Fc71 K), fun K => decide (Fc72 K), fun K => decide (Fc73 K), fun K => decide (Fc74 K), fun K => decide (Fc75 K), fun K => decide (Fc76 K), fun K => decide (Fc77 K), fun K => decide (Fc78 K), fun K => decide (Fc79 K), fun K => decide (Fc80 K), fun K => decide (Fc81 K), fun K => decide (Fc82 K), fun K => decide (Fc83 K)]
def fn1 : List He.DefD := [gD "is_whole" (top 16),
  gD "is_word" (top 17),
  gD "is_name" (top 18),
  gD "are_different_words" (top 19),
  gD "are_names" (top 20),
  gD "value_of" (top 23),
  gD "_are_groups" (top 36),
  gD "_mates" (top 37),
  gD "_orders" (top 38),
  gD "_worded" (top 40),
  gD "_check_part_names" (top 60),
  gD "ways" (top 53),
  gD "_law_start" (top 62),
  gD "_law_draw" (top 63),
  gD "_law_orders" (top 64),
  gD "_law_kind" (top 65),
  gD "_law_single" (top 66),
  gD "_law_kept" (top 67)]
def fn2 : List He.DefD := [gD "_law_canonical" (top 68),
  gD "law" (top 69),
  mD "Kind" "__init__" "Kind.__init__" (inClass (top 31) 1),
  mD "Kind" "exchanges" "Kind.exchanges" (inClass (top 31) 2),
  mD "PinKind" "first_writing" "PinKind.first_writing" (inClass (top 32) 1),
  mD "Item" "__init__" "Item.__init__" (inClass (top 58) 0),
  mD "Item" "written" "Item.written" (inClass (top 58) 4),
  mD "Ratio" "__str__" "Ratio.__str__" (inClass (top 22) 18),
  mD "InvalidKind" "__init__" "InvalidKind.__init__" (inClass (top 5) 0),
  mD "InvalidName" "__init__" "InvalidName.__init__" (inClass (top 6) 0),
  mD "NotPositive" "__init__" "NotPositive.__init__" (inClass (top 9) 0),
  mD "InvalidNumber" "__init__" "InvalidNumber.__init__" (inClass (top 7) 0),
  mD "NoDivision" "__init__" "NoDivision.__init__" (inClass (top 12) 0),
  ⟨("Ratio", some "__init__"), "__init__", "Ratio.__init__", defArgs (inClass (top 22) 0), defBody (inClass (top 22) 0), defScope (inClass (top 22) 0), [.int 1], []⟩]
def fn : List He.DefD := fn1 ++ fn2
def PFILE : Str := (PySem.Challenge.rw_wishedwires_k50_ways_of_singles).prog.main.file
def sn : List DefS := [⟨("PinKind", some "__init__"), "__init__", "PinKind.__init__", defArgs (inClass (top 32) 0), defBody (inClass (top 32) 0), defScope (inClass (top 32) 0), [("swaps", false)], "PinKind", PFILE⟩]
def pn : List DefP := [⟨fun K => pgX K "Kind" "text" "property", "text", "Kind.text", defArgs (inClass (top 31) 4), defBody (inClass (top 31) 4), defScope (inClass (top 31) 4)⟩,
  ⟨fun K => pgX K "Item" "single" "staticmethod", "single", "Item.single", defArgs (inClass (top 58) 2), defBody (inClass (top 58) 2), defScope (inClass (top 58) 2)⟩]
abbrev RW0 : PySem.W.OpenRow := PySem.W.OpenLaw.row PySem.Challenge.rw_wishedwires_k50_ways_of_singles
def names : List PySem.Str := (["gcd", "_wall", "WireError", "InvalidForm", "InvalidKind", "InvalidName", "InvalidNumber", "InvalidPins", "NotPositive", "LimitExceeded", "UnknownName", "NoDivision", "WORD_SIGNS", "NAME_WORDS", "is_whole", "is_word", "is_name", "are_different_words", "are_names", "Ratio", "value_of", "_as_ratio", "ValueRule", "_total", "MOST_PINS", "MOST_CONTROLS", "Kind", "PinKind", "PathKind", "JoiningKind"] : List PySem.Str) ++ (["_as_rule", "_are_groups", "_mates", "_orders", "_path_line", "_worded", "Expression", "Leaf", "Row", "Bundle", "_as_expression", "_composed", "_opened", "_bond", "_one_leaf", "MOST_LEAVES", "ways", "_tree", "_pairings", "_control_pins", "Item", "_branch_key", "_check_part_names", "_law_start", "_law_draw", "_law_orders", "_law_kind", "_law_single", "_law_kept", "_law_canonical"] : List PySem.Str)
def as : List Addr := 3 :: 2 :: List.range' 11 1589
abbrev hk : PySem.W.Hook := hookS as ck fn sn pn
def ob (s : PySem.W.SharedT) : AlS := obS as ck fn sn pn s
theorem ob_eq (s : PySem.W.SharedT) : ob s = hk.obs s.abs := obS_eq as ck fn sn pn s
theorem runA (w : World) : HdI.RunA RW0 3000 20000 w := by
  unfold HdI.RunA; kernel_rfl
theorem runB (w : World) : HdI.RunB RW0 (PySem.W.view RW0.prog [69]) 3000 20000 names w := by
  unfold HdI.RunB; kernel_rfl
theorem runC1 (w : World) : HdI.RunC RW0 (fun s => ck.all fun f => f (He.frG (HandSHeadRun.getT s) as)) true 3000 20000 w := by
  unfold HdI.RunC; kernel_rfl
theorem runC2 (w : World) : HdI.RunC RW0 (fun s => He.obsD [] fn1 (He.frG (HandSHeadRun.getT s) as)) (He.valD fn1) 3000 20000 w := by
  unfold HdI.RunC; kernel_rfl
theorem runC3 (w : World) : HdI.RunC RW0 (fun s => obS as [] fn2 sn pn s) (valS fn2 sn pn) 3000 20000 w := by
  unfold HdI.RunC; kernel_rfl
theorem runC (w : World) : HdI.RunC RW0 ob (hk.val w) 3000 20000 w := HdS.run_c (runC1 w) (runC2 w) (runC3 w)
theorem run (w : World) : HdI.RunI RW0 (PySem.W.view RW0.prog [69]) hk ob 3000 20000 names w := HdI.run_abc (runA w) (runB w) (runC w)
end R50
end

-- RatMath
section
namespace RatM
/-- the divisor that Ratio's __init__ takes: the gcd with the bottom's sign -/
def cmn (t b : Int) : Int := if b > 0 then (Nat.gcd t.natAbs b.natAbs : Int) else -(Nat.gcd t.natAbs b.natAbs : Int)
def nt (t b : Int) : Int := t.fdiv (cmn t b)
def nb (t b : Int) : Int := b.fdiv (cmn t b)

theorem gpos {t b : Int} (h : b ≠ 0) : 0 < Nat.gcd t.natAbs b.natAbs := Nat.gcd_pos_of_pos_right _ (by omega)
theorem cmn_ne {t b : Int} (h : b ≠ 0) : cmn t b ≠ 0 := by
  have := gpos (t := t) h
  unfold cmn
  split <;> omega
theorem cmn_scale {t b k : Int} (hb : b ≠ 0) (hk : k ≠ 0) : cmn (t * k) (b * k) = cmn t b * k := by
  unfold cmn
  rw [Int.natAbs_mul, Int.natAbs_mul, Nat.gcd_mul_right, Int.natCast_mul]
  rcases Int.lt_or_gt_of_ne hk with h | h
  · have e : ((k.natAbs : Nat) : Int) = -k := by omega
    rw [e]
    rcases Int.lt_or_gt_of_ne hb with h2 | h2
    · rw [if_pos (show b * k > 0 from Int.mul_pos_of_neg_of_neg h2 h), if_neg (show ¬ b > 0 by omega), Int.mul_neg, Int.neg_mul]
    · rw [if_neg (show ¬ b * k > 0 from by have := Int.mul_neg_of_pos_of_neg h2 h; omega), if_pos (show b > 0 by omega), Int.mul_neg, Int.neg_neg]
  · have e : ((k.natAbs : Nat) : Int) = k := by omega
    rw [e]
    rcases Int.lt_or_gt_of_ne hb with h2 | h2
    · rw [if_neg (show ¬ b * k > 0 from by have := Int.mul_neg_of_neg_of_pos h2 h; omega), if_neg (show ¬ b > 0 by omega), Int.neg_mul]
    · rw [if_pos (show b * k > 0 from Int.mul_pos h2 h), if_pos (show b > 0 by omega)]
theorem cmn_dvd_t (t b : Int) : cmn t b ∣ t := by
  have h : ((Nat.gcd t.natAbs b.natAbs : Nat) : Int) ∣ t := Int.dvd_natAbs.mp (Int.natCast_dvd_natCast.mpr (Nat.gcd_dvd_left _ _))
  unfold cmn
  split
  · exact h
  · exact Int.neg_dvd.mpr h
theorem cmn_dvd_b (t b : Int) : cmn t b ∣ b := by
  have h : ((Nat.gcd t.natAbs b.natAbs : Nat) : Int) ∣ b := Int.dvd_natAbs.mp (Int.natCast_dvd_natCast.mpr (Nat.gcd_dvd_right _ _))
  unfold cmn
  split
  · exact h
  · exact Int.neg_dvd.mpr h
theorem nt_mul {t b : Int} : nt t b * cmn t b = t := Int.fdiv_mul_cancel (cmn_dvd_t t b)
theorem nb_mul {t b : Int} : nb t b * cmn t b = b := Int.fdiv_mul_cancel (cmn_dvd_b t b)
theorem nb_pos {t b : Int} (h : b ≠ 0) : 0 < nb t b := by
  have e := nb_mul (t := t) (b := b)
  have g := gpos (t := t) h
  have hc : cmn t b = if b > 0 then (Nat.gcd t.natAbs b.natAbs : Int) else -(Nat.gcd t.natAbs b.natAbs : Int) := rfl
  rcases Int.lt_trichotomy (nb t b) 0 with h1 | h1 | h1
  · exfalso
    split at hc
    · have := Int.mul_neg_of_neg_of_pos h1 (show 0 < cmn t b by omega); omega
    · have := Int.mul_pos_of_neg_of_neg h1 (show cmn t b < 0 by omega); omega
  · rw [h1, Int.zero_mul] at e; omega
  · exact h1
theorem nt_scale {t b k : Int} (hb : b ≠ 0) (hk : k ≠ 0) : nt (t * k) (b * k) = nt t b := by
  have e : t * k = nt t b * (cmn t b * k) := by rw [← Int.mul_assoc, nt_mul]
  show (t * k).fdiv (cmn (t * k) (b * k)) = nt t b
  rw [cmn_scale hb hk, e]
  exact Int.mul_fdiv_cancel _ (Int.mul_ne_zero (cmn_ne hb) hk)
theorem nb_scale {t b k : Int} (hb : b ≠ 0) (hk : k ≠ 0) : nb (t * k) (b * k) = nb t b := by
  have e : b * k = nb t b * (cmn t b * k) := by rw [← Int.mul_assoc, nb_mul]
  show (b * k).fdiv (cmn (t * k) (b * k)) = nb t b
  rw [cmn_scale hb hk, e]
  exact Int.mul_fdiv_cancel _ (Int.mul_ne_zero (cmn_ne hb) hk)
/-- pairs that are in proportion have one normal form -/
theorem nrm_of {t b t' b' k k' : Int} (hb : b ≠ 0) (hb' : b' ≠ 0) (hk : k ≠ 0) (hk' : k' ≠ 0) (e1 : t * k = t' * k') (e2 : b * k = b' * k') : nt t b = nt t' b' ∧ nb t b = nb t' b' := by
  refine ⟨?_, ?_⟩
  · rw [← nt_scale hb hk, e1, e2, nt_scale hb' hk']
  · rw [← nb_scale hb hk, e1, e2, nb_scale hb' hk']
theorem nrm_cross {t b t' b' : Int} (hb : b ≠ 0) (hb' : b' ≠ 0) (e : t * b' = t' * b) : nt t b = nt t' b' ∧ nb t b = nb t' b' :=
  nrm_of hb hb' hb' hb e (Int.mul_comm b b')
theorem nrm_id {t b : Int} (hb : b ≠ 0) : nt (nt t b) (nb t b) = nt t b ∧ nb (nt t b) (nb t b) = nb t b := by
  have p := nb_pos (t := t) hb
  have h := nrm_of (t := nt t b) (b := nb t b) (t' := t) (b' := b) (k := cmn t b) (k' := 1) (by omega) hb (cmn_ne hb) (by decide) (by rw [nt_mul, Int.mul_one]) (by rw [nb_mul, Int.mul_one])
  exact h
/-- equal normal forms are pairs in proportion -/
theorem cross_of {t b t' b' : Int} (e1 : nt t b = nt t' b') (e2 : nb t b = nb t' b') : t * b' = t' * b := by
  have a := nt_mul (t := t) (b := b); have c := nb_mul (t := t) (b := b)
  have a' := nt_mul (t := t') (b := b'); have c' := nb_mul (t := t') (b := b')
  rw [e1] at a
  rw [e2] at c
  generalize nt t' b' = x at a a'
  generalize nb t' b' = y at c c'
  generalize cmn t b = g at a c
  generalize cmn t' b' = g' at a' c'
  rw [← a, ← c', ← a', ← c]
  simp only [Int.mul_assoc, Int.mul_left_comm, Int.mul_comm]
theorem natAbs_le_mul {x y : Int} (hy : y ≠ 0) : x.natAbs ≤ (x * y).natAbs := by
  rw [Int.natAbs_mul]
  exact Nat.le_mul_of_pos_right _ (by omega)
theorem nt_le {t b : Int} (hb : b ≠ 0) : (nt t b).natAbs ≤ t.natAbs := by
  have h := natAbs_le_mul (x := nt t b) (cmn_ne (t := t) hb)
  rwa [nt_mul] at h
theorem nb_le {t b : Int} (hb : b ≠ 0) : (nb t b).natAbs ≤ b.natAbs := by
  have h := natAbs_le_mul (x := nb t b) (cmn_ne (t := t) hb)
  rwa [nb_mul] at h
theorem cmn_le {t b : Int} (hb : b ≠ 0) : (cmn t b).natAbs ≤ b.natAbs := by
  have p := nb_pos (t := t) hb
  have h := natAbs_le_mul (x := cmn t b) (y := nb t b) (by omega)
  rwa [Int.mul_comm, nb_mul] at h
theorem nt_one (t : Int) : nt t 1 = t ∧ nb t 1 = 1 := by
  have c : cmn t 1 = 1 := by
    unfold cmn
    rw [if_pos (by decide), show (1 : Int).natAbs = 1 from rfl, Nat.gcd_one_right]
    rfl
  exact ⟨by show t.fdiv (cmn t 1) = t; rw [c, Int.fdiv_one], by show (1 : Int).fdiv (cmn t 1) = 1; rw [c, Int.fdiv_one]⟩
end RatM
end

-- TupIn
section
set_option Elab.async false
set_option linter.all false
set_option maxRecDepth 100000
/-! x not in (a, b, ..), where no item is equal to x and the asking may make objects. -/
namespace OwnNe
open PySem PySem.SeqAt GQ L2 OwnOps
open AutoSeq1 (wpAny_loadPart')
open MeetsSeq MeetsSeq2 MeetsSeq3 SeqRoads2
section
variable {prog : Program} {w : World} {A : Around} {E : Value → Shared → Prop}
/-- no item is equal to x; J: what stands before the i-th is asked -/
theorem tup_containsJ (l : Addr) (items : Array Value) (n : Nat) (dd : Option Addr) (sl : Array (Option Value)) (x : Value) (J : Nat → Shared → Prop) (R : Result → Shared → Prop)
    (step : ∀ (i : Nat) (y : Value) (s : Shared), items.toList[i]? = some y → J i s → wpAny (model prog w) A.in1 (eqBool y x) (fun q s' => q = false ∧ J (i + 1) s') (fun e s' => R (.error e) s') s)
    (many : ∀ i, items.size ≤ i → ∀ s, J i s → J items.size s) (fin : ∀ s, J items.size s → R (.ok (.ret (.bool false))) s) {s : Shared} (hl : s.heap.get? l = some { cls := .type "tuple", dict := dd, data := .seq items n, slots := sl }) (h : J 0 s) :
    wpAny (model prog w) A.in1 (Builtin.«tuple.__contains__» ⟨[.ref l, x], []⟩) (FinOf prog w A R) (fun e s' => R (.error e) s') s := by
  refine wpAny_mono (Q := fun fin s' => ∃ v, fin = .done (.ret v) ∧ R (.ok (.ret v)) s') ?_ (fun fin s' h' => by obtain ⟨v, rfl, hv⟩ := h'; exact hv) fun _ _ x => x
  obtain ⟨hp, g, d, tk, os⟩ := s
  wp_walk using wpAny_loadPart' hl, wpAny_forIn_array _ (fun rest (b : Option Fin × Unit) s' => b.1 = none ∧ ∃ i : Nat, rest = items.toList.drop i ∧ J i s') _
  case turn =>
    rintro y rest b s' ⟨hb, i, hr, hJ⟩
    have hi : items.toList[i]? = some y := by
      rw [← List.head?_drop, ← hr]
      rfl
    refine wpAny_bind (wpAny_mono (step i y s' hi hJ) (fun q s2 hq => ?_) fun _ _ x => x)
    obtain ⟨rfl, hq⟩ := hq
    wp_walk
    refine ⟨rfl, i + 1, ?_, hq⟩
    have := congrArg List.tail hr
    rw [List.tail_drop] at this
    exact this
  case fin =>
    rintro ⟨b1, b2⟩ s' ⟨hb, i, hr, hJ⟩
    simp only at hb
    subst hb
    have hl' : items.size ≤ i := by
      have := congrArg List.length hr
      rw [List.length_drop] at this
      simp at this
      omega
    obtain ⟨hp, g, d, tk, os⟩ := s'
    wp_walk
    exact ⟨_, rfl, fin _ (many i hl' _ hJ)⟩
  case h =>
    exact ⟨rfl, 0, rfl, h⟩
theorem str_cmp_eq {z : Str} {t : Tok} {y : Addr} {oy : Obj} {s : Shared} {Q : Value → Shared → Prop} (hy : s.heap.get? y = some oy) (hp : oy.data = .plain) (h : Q .notImplemented s) :
    wpAny (model prog w) A (call (.builtin "str.__eq__") [.str z t, .ref y]) Q E s := by
  refine GQ.call_here F.slot_str_eq (typeIs_str s z t) F.entry_str_eq (F.args_str_eq_2 _ _) ?_
  obtain ⟨c, dd, dt, sl⟩ := oy
  cases hp
  obtain ⟨hh, gg, d, tt, os⟩ := s
  wp_walk using wpAny_loadPart' hy
  exact h
theorem str_refl {K : PySem.W.Frag} {y C g : Addr} {oy : Obj} {od : Option Obj} {z : Str} {t : Tok} {s : Shared} {Q : Value → Shared → Prop} (hu : A.units < cLine) (Y : K.In s.heap) (I : PySem.W.InstAt s.heap y oy C od) (hp : oy.data = .plain)
    (hsub : PySem.W.subIn K (.ref C) (.type "str") = some false) (hr : PySem.W.findIn K (.ref C) "__eq__" = some (some (.ref g))) (hg : PySem.W.isFn K (.ref g) = true)
    (h : wpAny (model prog w) A (call (.ref g) [.ref y, .str z t]) (PySem.W.CmpBack Q) E s) : wpAny (model prog w) A (richCompare .Eq (.str z t) (.ref y)) Q E s := by
  have one : wpAny (model prog w) A (tryCompare (.ref y) (cmpInfo .Eq).2.2 (.str z t)) (fun r s' => ∃ v, r = some v ∧ Q v s') E s := by
    unfold tryCompare
    refine wpAny_bind (PySem.W.ifBound_K Y I hr hg (wpAny_mono h (fun v s' hv => ?_) fun _ _ e => e))
    cases v <;> first | exact hv.elim | exact wpAny_pure ⟨_, rfl, hv⟩
  have h1 : oneThing? .Eq (.str z t) (.ref y) = none := rfl
  have hne : (Value.type "str" != Value.ref C) = true := rfl
  unfold richCompare
  simp only [h1]
  refine wpAny_holding (wpAny_bind (wpAny_cRoomFor hu ?_))
  refine wpAny_bind ((PySem.W.Looks.of_pure rfl : PySem.W.Looks (model prog w) s.heap (typeOf (.str z t)) (.type "str")).here (wpAny_bind (I.type.here ?_)))
  rw [hne]
  simp only [if_true]
  refine wpAny_bind ((PySem.W.looks_subIn Y hsub).here ?_)
  simp only [Bool.false_eq_true, if_false]
  refine wpAny_bind (wpAny_tryCompare_declines (typeIs_str _ _ _) F.slot_str_eq (str_cmp_eq I.at_ hp ⟨rfl, ?_⟩))
  simp only [Bool.not_false, if_true]
  refine wpAny_bind (wpAny_mono one (fun r s' z => ?_) fun _ _ e => e)
  obtain ⟨v, rfl, hq⟩ := z
  exact wpAny_pure hq
theorem eqBool_rs {z : Str} {tk : Tok} {l : Addr} {s : Shared} {Q : Bool → Shared → Prop}
    (h : wpAny (model prog w) A (richCompare .Eq (.str z tk) (.ref l)) (fun x s' => ∃ r, x = .bool r ∧ Q r s') E s) : wpAny (model prog w) A (eqBool (.str z tk) (.ref l)) Q E s := by
  unfold eqBool
  refine wpAny_holding (wpAny_ite_split (fun z => by cases (beq_iff_eq.mp z)) fun _ => wpAny_bind (wpAny_mono h ?_ fun _ _ x => x))
  rintro x s' ⟨r, rfl, q⟩
  exact wpAny_truthy_bool q
end
/-- x not in a tuple, none of whose items is equal to x -/
def rNotInB (D : V → V → Hp → Bool → Prop) : R2 := fun x y H Q => ∃ p xs, y = .ref p ∧ H p = some (.tup xs) ∧ (∀ z ∈ xs, D z x H false) ∧ ∀ H', Ext H H' → Q (.bl true) H'
theorem op_notInB {X : Cx} {n : Nat} {D : V → V → Hp → Bool → Prop} (hD : ∀ x y H H' b, Ext H H' → D x y H b → D x y H' b) (h : EqB X n D) (hr : Room (n + 1) X.A) : OpR X (compareOp .NotIn) (rNotInB D) := by
  intro pins s σ H x y v u Q I rx ry hq
  obtain ⟨p, xs, rfl, hp, hd, q⟩ := hq
  cases ry
  have sb : Sub X (n + 1) X.A := ⟨hr, rfl⟩
  obtain ⟨hz, its, rr, ho⟩ := (show ObjOk X.prog X.w H s.heap p (.tup xs) from I.hok p _ hp)
  obtain ⟨⟨cls, dd, data, sl⟩, ho, hc, k, hdat⟩ := ho
  simp only at hc hdat
  subst hc hdat
  show wpAny _ X.A (do return .bool (!(← contains (.ref p) v))) (EP X pins σ Q) X.xe s
  refine wpAny_bind (wpAny_contains_slot ⟨_, ho, rfl⟩ F.slot_tuple_contains (wpAny_mono (Q := fun c s' => c = .bool false ∧ LoopI X pins σ H s') (GQ.call_here F.slot_tuple_contains ⟨_, ho, rfl⟩ F.entry_tuple_contains (F.args_tuple_contains_2 _ _) ?_) (fun c s' hc => ?_) fun _ _ e => e))
  · refine tup_containsJ (R := wants (fun c s' => c = .bool false ∧ LoopI X pins σ H s') X.xe) p its.toArray k dd sl v (fun _ s' => LoopI X pins σ H s') (fun i u s' hi hJ => ?_) (fun _ _ s' j => j) (fun s' j => ⟨rfl, j⟩) ho ⟨H, I, Ext.rfl'⟩
    obtain ⟨H1, I1, e1⟩ := hJ
    have hi : its[i]? = some u := by simpa using hi
    obtain ⟨y, hy, ru⟩ : ∃ y, xs[i]? = some y ∧ RelV y u := by
      have lt : i < xs.length := by rw [rr.length]; exact (List.getElem?_eq_some_iff.mp hi).1
      obtain ⟨u', hu', ru⟩ := rr.get (List.getElem?_eq_getElem lt)
      rw [hi] at hu'
      cases hu'
      exact ⟨_, List.getElem?_eq_getElem lt, ru⟩
    refine wpAny_mono (h X.A.in1 pins s' σ H1 _ _ u v _ sb.in1 I1 ru rx (hD _ _ _ _ _ e1 (hd y (List.mem_of_getElem? hy)))) (fun r' s2 q' => ?_) fun _ _ x => x
    obtain ⟨hr', H2, I2, e2'⟩ := q'
    exact ⟨hr', H2, I2, e1.trans e2'⟩
  · obtain ⟨rfl, H', I', e⟩ := hc
    exact wpAny_truthy_bool (wpAny_pure ⟨.bl true, H', I', rfl, q H' e⟩)
end OwnNe
end

-- Y5q
section
set_option Elab.async false
set_option linter.all false
set_option maxRecDepth 100000
set_option exponentiation.threshold 10000
namespace R50r
open PySem L2 OwnOps RatM OwnNe G1
/-! ### 1. the text by places -/
def top (i : Nat) : Stmt := PySem.Challenge.pw_wishedwires_k50_ways_of_singles.main.body.getD i (.Pass ⟨0, 0, 0, 0⟩)
abbrev sWhole : Stmt := top 16
abbrev sRat (j : Nat) : Stmt := inClass (top 22) j
abbrev sAs : Stmt := top 24
/-! ### 2. what the written part holds -/
abbrev veT : List Value := [.type "ValueError", .type "Exception", .type "BaseException", .type "object"]
abbrev zdT : List Value := [.type "ZeroDivisionError", .type "ArithmeticError", .type "Exception", .type "BaseException", .type "object"]
structure Txt (K : PySem.W.Frag) (mg : Str → Option Value) (C CI fCI CZ fCZ : Addr) : Prop where
  cl : Cls K C
  nT : NoAttr K C "top"
  nB : NoAttr K C "bottom"
  gC : mg "Ratio" = some (.ref C)
  eI : PySem.Giv.ErrTxt K mg "InvalidNumber" "InvalidNumber.__init__" "ValueError.__new__" veT CI fCI
  eZ : PySem.Giv.ErrTxt K mg "NoDivision" "NoDivision.__init__" "ZeroDivisionError.__new__" zdT CZ fCZ
  ha : PySem.W.findIn K (.ref C) "__class__" = some (some (.builtin "object.__class__"))
  hn : PySem.W.specialIn K (.builtin "object.__class__") "__get__" = some (some (.builtin "getset_descriptor.__get__"))
  htk : PySem.W.takesIn K (.builtin "object.__class__") = some true
  hm : PySem.W.mroIn K C (.type "object") = some true
  kCC : PySem.W.kitOne K (.ref C) (.ref C) = some true
  kCi : PySem.W.kitOne K (.ref C) (.type "int") = some false
  kiC : PySem.W.kitOne K (.type "int") (.ref C) = some false
  kbC : PySem.W.kitOne K (.type "bool") (.ref C) = some false
  knC : PySem.W.kitOne K (.type "NoneType") (.ref C) = some false
  ksC : PySem.W.kitOne K (.type "str") (.ref C) = some false
  klC : PySem.W.kitOne K (.type "list") (.ref C) = some false
  ktC : PySem.W.kitOne K (.type "tuple") (.ref C) = some false
  isi : mg "isinstance" = none
  int : mg "int" = none
  bool : mg "bool" = none
  abs : mg "abs" = none
  str : mg "str" = none
  repr : mg "repr" = none
  gcd : mg "gcd" = some (.builtin "math.gcd")
/-- the values that are met where a number is wanted -/
inductive Kd (C : Addr) (H : Hp) : V → Prop
  | int (i : Int) : Kd C H (.int i)
  | bl (b : Bool) : Kd C H (.bl b)
  | non : Kd C H .non
  | str (x : Str) : Kd C H (.str x)
  | ins {a dx : Addr} {fs : List (Str × V)} (e : H a = some (.ins C dx fs)) : Kd C H (.ref a)
  | lst {a : Addr} {xs : List V} (e : H a = some (.lst xs)) : Kd C H (.ref a)
  | tup {a : Addr} {xs : List V} (e : H a = some (.tup xs)) : Kd C H (.ref a)
def isW : V → Bool
  | .int _ => true
  | _ => false
/-- an instance of Ratio with these two -/
def flds (t b : Int) : List (Str × V) := putF "bottom" (.int b) (putF "top" (.int t) [])
theorem tb : ¬ (("top" : Str) = "bottom") := by decide +kernel
theorem flds_eq (t b : Int) : flds t b = ([("top", V.int t), ("bottom", V.int b)] : List (Str × V)) := by
  show (if ("top" : Str) = "bottom" then [(("top" : Str), V.int b)] else (("top" : Str), V.int t) :: putF "bottom" (V.int b) []) = ([("top", V.int t), ("bottom", V.int b)] : List (Str × V))
  rw [if_neg tb]
  all_goals rfl
theorem flds_top (t b : Int) : (flds t b).lookup ("top" : Str) = some (.int t) := by
  unfold flds
  rw [lookup_putF, if_neg tb, lookup_putF, if_pos rfl]
theorem flds_bot (t b : Int) : (flds t b).lookup ("bottom" : Str) = some (.int b) := by
  unfold flds
  rw [lookup_putF, if_pos rfl]
theorem flds_no (t b : Int) {m : Str} (h1 : ¬ m = "bottom") (h2 : ¬ m = "top") : (flds t b).lookup m = none := by
  unfold flds
  rw [lookup_putF, if_neg h1, lookup_putF, if_neg h2]
  all_goals rfl
def Rat (C : Addr) (H : Hp) (p : Addr) (t b : Int) : Prop := ∃ dx, H p = some (.ins C dx (flds t b))
theorem Rat.same {C : Addr} {H H' : Hp} {p : Addr} {t b : Int} (r : Rat C H p t b) (e : Same H H') : Rat C H' p t b := let ⟨dx, h⟩ := r; ⟨dx, e _ _ h⟩
/-- what may be told of a number -/
def Sm (n : Nat) (x : Int) : Prop := x.natAbs < 2 ^ n

section
variable {P : Program} {w : World} {K : PySem.W.Frag} {mg : Str → Option Value} {base : Heap} {C CI fCI CZ fCZ : Addr}
/-! ### 3. is_whole -/
def spWhole (C : Addr) : Sp := fun vs H Q _ => ∃ v, vs = [v] ∧ Kd C H v ∧ Q (.bl (isW v)) H
theorem scW : FnScope ["value"] ["value"] (defScope sWhole) := ⟨rfl, rfl, rfl, by decide +kernel, rfl, by decide +kernel, by decide +kernel⟩
theorem ok_whole {f : Addr} {fd : FuncData} (F : Fun K "is_whole" "is_whole" sWhole f fd) (T : Txt K mg C CI fCI CZ fCZ) : FnOk P w K mg base (L2.CX P w) 1 f fd ["value"] (spWhole C) := by
  refine F.okX scW (fun vs H Q E h => ?_) (fun cdv A outer s H vs Q E hr h => ?_)
  · obtain ⟨v, rfl, _⟩ := h
    rfl
  · obtain ⟨v, rfl, kd, k⟩ := h
    refine ⟨_, pss_one (ps_ret (pe_and (pe_callB call_isi (by rfl) T.isi (by decide +kernel) (pa_cons (pv 0) (pa_cons (pe_bltn (v := .ty "int") (by rfl) T.int (by decide +kernel) rfl) pa_nil)))
      (pe_one (pe_not (pe_callB call_isi (by rfl) T.isi (by decide +kernel) (pa_cons (pv 0) (pa_cons (pe_bltn (v := .ty "bool") (by rfl) T.bool (by decide +kernel) rfl) pa_nil))))))), ?_⟩
    cases kd with
    | int i => exact ⟨_, rfl, _, _, _, _, _, rfl, .ty _, .base (.int i), kit_ty (by decide +kernel), _, rfl, iteT ⟨_, rfl, _, _, _, _, _, rfl, .ty _, .base (.int i), kit_ty (r := false) (by decide +kernel), _, rfl, k⟩⟩
    | bl b => exact ⟨_, rfl, _, _, _, _, _, rfl, .ty _, .base (.bl b), kit_ty (by decide +kernel), _, rfl, iteT ⟨_, rfl, _, _, _, _, _, rfl, .ty _, .base (.bl b), kit_ty (r := true) (by decide +kernel), _, rfl, k⟩⟩
    | non => exact ⟨_, rfl, _, _, _, _, _, rfl, .ty _, .base .non, kit_ty (by decide +kernel), _, rfl, iteF k⟩
    | str x => exact ⟨_, rfl, _, _, _, _, _, rfl, .ty _, .base (.str x), kit_ty (by decide +kernel), _, rfl, iteF k⟩
    | ins e => exact ⟨_, rfl, _, _, _, _, _, rfl, .ty _, .base (.ins e T.cl T.ha T.hn T.htk T.hm), T.kCi, _, rfl, iteF k⟩
    | lst e => exact ⟨_, rfl, _, _, _, _, _, rfl, .ty _, .base (.lst e), kit_ty (by decide +kernel), _, rfl, iteF k⟩
    | tup e => exact ⟨_, rfl, _, _, _, _, _, rfl, .ty _, .base (.tup e), kit_ty (by decide +kernel), _, rfl, iteF k⟩

theorem if_pos' {c : Bool} {A B : Prop} (hc : c = true) (h : A) : if c = true then A else B := by
  rw [if_pos hc]
  exact h
theorem if_neg' {c : Bool} {A B : Prop} (hc : c = false) (h : B) : if c = true then A else B := by
  rw [hc, if_neg Bool.false_ne_true]
  exact h
/-! ### 4. __init__ -/
def CDivG (_ j : Int) : Prop := j ≠ 0 ∧ j.natAbs.log2 < 9000
theorem op_fdivG {X : Cx} : OpR X (binaryOp .FloorDiv) (rI CDivG fun i j => .int (i.fdiv j)) := opI fun i j _ _ _ _ _ hc q =>
  PyProof.Rows.floordiv_int hc.1 q (.inl (PyProof.noPylong_of_log2 hc.2))
theorem wide_divG {i j : Int} {n : Nat} (h : j ≠ 0) (hb : j.natAbs < 2 ^ n) (h0 : 0 < n) (h9 : n ≤ 9000) : CDivG i j := ⟨h, Nat.lt_of_lt_of_le (PySem.Flt.log2_lt_of h0 hb) h9⟩
abbrev xd (v : V) : HO := .xd [(("given" : Str), v)]
def spInit (C CI CZ : Addr) : Sp := fun vs H Q E => ∃ (p dx : Addr) (vt vb : V), vs = [.ref p, vt, vb] ∧ H p = some (.ins C dx []) ∧ Kd C H vt ∧ (isW vt = true → Kd C H vb) ∧
  ((isW vt = false ∧ ∀ d, H d = none → E (.ref CI) (some d) (upd H d (xd vt))) ∨
   (isW vt = true ∧ isW vb = false ∧ ∀ d, H d = none → E (.ref CI) (some d) (upd H d (xd vb))) ∨
   (∃ t b, vt = .int t ∧ vb = .int b ∧ ((b = 0 ∧ ∀ d, H d = none → E (.ref CZ) (some d) (upd H d (xd vt))) ∨
     (b ≠ 0 ∧ Sm 5000 b ∧ Q .non (upd H p (.ins C dx (flds (nt t b) (nb t b))))))))
theorem scI : FnScope ["self", "top", "bottom", "common"] ["self", "top", "bottom"] (defScope (sRat 0)) := ⟨rfl, rfl, rfl, by decide +kernel, rfl, by decide +kernel, by decide +kernel⟩
theorem Kd.whole {C : Addr} {H : Hp} {v : V} (k : Kd C H v) (h : isW v = true) : ∃ i, v = .int i := by
  cases k <;> first | exact ⟨_, rfl⟩ | exact absurd h (by simp [isW])
abbrev InitD (K : PySem.W.Frag) (f : Addr) (fd : FuncData) := FunD K "__init__" "Ratio.__init__" (defArgs (sRat 0)) (defBody (sRat 0)) (defScope (sRat 0)) [.int 1] [] f fd
theorem ok_init {f fW : Addr} {fd fdW : FuncData} (F : InitD K f fd) (T : Txt K mg C CI fCI CZ fCZ)
    (GW : FnOk P w K mg base (L2.CX P w) 1 fW fdW ["value"] (spWhole C)) (mW : mg "is_whole" = some (.ref fW)) (kW : PySem.W.keepIn K (.ref fW) = true) (bW : L2.Binds K fdW ["value"] []) :
    FnOk P w K mg base (L2.CX P w) 3 f fd ["self", "top", "bottom"] (spInit C CI CZ) := by
  refine F.ok scI (fun vs H Q E h => ?_) (fun cdv A outer s H vs Q E hr h => ?_)
  · obtain ⟨p, dx, vt, vb, rfl, _⟩ := h
    rfl
  · obtain ⟨p, dx, vt, vb, rfl, hp, kt, kb, k⟩ := h
    have hr1 : Room 1 _ := hr.mono (by decide)
    refine ⟨_, pss_cons (ps_if (pt_not (pt_val (pe_call GW hr1 (by rfl) mW kW bW .nil passL (pa_cons (pv 1) pa_nil)))) (pss_one (ps_raiseGiv rfl PySem.Giv.ok_VE T.eI hr (takes_of rfl rfl rfl rfl) (pa_cons (pv 1) pa_nil) (by rfl))) pss_nil)
      (pss_cons (ps_if (pt_not (pt_val (pe_call GW hr1 (by rfl) mW kW bW .nil passL (pa_cons (pv 2) pa_nil)))) (pss_one (ps_raiseGiv rfl PySem.Giv.ok_VE T.eI hr (takes_of rfl rfl rfl rfl) (pa_cons (pv 2) pa_nil) (by rfl))) pss_nil)
      (pss_cons (ps_if (pt_cmpR op_eq (pv 2) pe_int (nomark _)) (pss_one (ps_raiseGiv rfl PySem.Giv.ok_ZD T.eZ hr (takes_of rfl rfl rfl rfl) (pa_cons (pv 1) pa_nil) (by rfl))) pss_nil)
      (pss_cons (ps_set (i := 3) scI.nd rfl (Or.inl rfl) (pe_ifExp (pt_cmpR op_gt (pv 2) pe_int (nomark _)) (pe_callBfun cr_gcd (by rfl) T.gcd (pa_cons (pv 1) (pa_cons (pv 2) pa_nil)))
        (pe_un un_neg (pe_callBfun cr_gcd (by rfl) T.gcd (pa_cons (pv 1) (pa_cons (pv 2) pa_nil))))))
      (pss_cons (ps_fld (pv 0) (pe_op op_fdivG (pv 1) (pv 3)) rfl)
      (pss_one (ps_fld (pv 0) (pe_op op_fdivG (pv 2) (pv 3)) rfl)))))), ?_⟩
    refine ⟨_, rfl, _, rfl, kt, _, rfl, ?_⟩
    rcases k with ⟨n1, k⟩ | ⟨y1, n2, k⟩ | ⟨t, b, rfl, rfl, k⟩
    · rw [n1]
      exact iteT ⟨_, rfl, _, rfl, k⟩
    · rw [y1]
      refine iteF ⟨_, rfl, _, rfl, kb y1, _, rfl, ?_⟩
      rw [n2]
      exact iteT ⟨_, rfl, _, rfl, k⟩
    · refine iteF ⟨_, rfl, _, rfl, kb rfl, _, rfl, iteF ⟨_, rfl, rfl, _, rfl, ?_⟩⟩
      rcases k with ⟨b0, k⟩ | ⟨b0, bs, k⟩
      · refine if_pos' (decide_eq_true (show V.int b = V.int 0 by rw [b0])) ?_
        exact ⟨_, rfl, _, rfl, k⟩
      · refine if_neg' (decide_eq_false (fun z => b0 (V.int.inj z))) ?_
        have cb : (cmn t b).natAbs < 2 ^ 5000 := Nat.lt_of_le_of_lt (cmn_le b0) bs
        have dv : ∀ x, CDivG x (cmn t b) := fun x => wide_divG (cmn_ne b0) cb (by decide) (by decide)
        have e0 : upd (upd H p (.ins C dx (putF "top" (.int (nt t b)) []))) p (.ins C dx (flds (nt t b) (nb t b))) = upd H p (.ins C dx (flds (nt t b) (nb t b))) := upd_upd
        rw [← e0] at k
        have nxt : ∀ c : Int, c = cmn t b → (tSeq (sFld K (tVar 0) (tOp (rI CDivG fun i j => V.int (i.fdiv j)) (tVar 1) (tVar 3)) "top") (sFld K (tVar 0) (tOp (rI CDivG fun i j => V.int (i.fdiv j)) (tVar 2) (tVar 3)) "bottom"))
            { nx := fun _ H' => Q .non H', rt := Q } [some (.ref p), some (.int t), some (.int b), some (.int c)] H := by
          rintro c rfl
          exact ⟨_, rfl, _, rfl, _, _, rfl, rfl, dv t, _, rfl, p, C, dx, _, rfl, hp, T.cl, T.nT, (by show 0 < 1000; decide), _, rfl, _, rfl, _, _, rfl, rfl, dv b, _, rfl, p, C, dx, _, rfl, upd_same, T.cl, T.nB, (by show 1 < 1000; decide), k⟩
        refine ⟨_, rfl, _, _, rfl, rfl, _, rfl, ?_⟩
        refine ite2 (fun hb => ?_) (fun hb => ?_)
        · exact ⟨_, rfl, _, rfl, _, _, rfl, nxt _ (if_pos (of_decide_eq_true hb)).symm⟩
        · exact ⟨_, rfl, _, rfl, _, _, rfl, _, rfl, nxt _ (if_neg (fun z => hb (decide_eq_true z))).symm⟩
end
/-- the values that are no numbers -/
inductive Bd (H : Hp) : V → Prop
  | bl (b : Bool) : Bd H (.bl b)
  | non : Bd H .non
  | str (x : Str) : Bd H (.str x)
  | lst {a : Addr} {xs : List V} (e : H a = some (.lst xs)) : Bd H (.ref a)
  | tup {a : Addr} {xs : List V} (e : H a = some (.tup xs)) : Bd H (.ref a)
theorem Bd.kd {C : Addr} {H : Hp} {v : V} (h : Bd H v) : Kd C H v := by
  cases h with
  | bl b => exact .bl b
  | non => exact .non
  | str x => exact .str x
  | lst e => exact .lst e
  | tup e => exact .tup e
theorem Bd.w {H : Hp} {v : V} (h : Bd H v) : isW v = false := by
  cases h <;> rfl
theorem Kd.same {C : Addr} {H H' : Hp} {v : V} (h : Kd C H v) (e : Same H H') : Kd C H' v := by
  cases h with
  | int i => exact .int i
  | bl b => exact .bl b
  | non => exact .non
  | str x => exact .str x
  | ins q => exact .ins (e _ _ q)
  | lst q => exact .lst (e _ _ q)
  | tup q => exact .tup (e _ _ q)
theorem Bd.same {H H' : Hp} {v : V} (h : Bd H v) (e : Same H H') : Bd H' v := by
  cases h with
  | bl b => exact .bl b
  | non => exact .non
  | str x => exact .str x
  | lst q => exact .lst (e _ _ q)
  | tup q => exact .tup (e _ _ q)
/-- v stands for the ratio t / b -/
def Num (C : Addr) (H : Hp) (v : V) (t b : Int) : Prop := (∃ q, v = .ref q ∧ Rat C H q t b) ∨ (v = .int t ∧ b = 1)
theorem Num.same {C : Addr} {H H' : Hp} {v : V} {t b : Int} (h : Num C H v t b) (e : Same H H') : Num C H' v t b := by
  rcases h with ⟨q, rfl, r⟩ | ⟨rfl, rfl⟩
  · exact .inl ⟨q, rfl, r.same e⟩
  · exact .inr ⟨rfl, rfl⟩
theorem same_upd {H : Hp} {p : Addr} {o : HO} (h : H p = none) : Same H (upd H p o) := fun b u e => by
  rw [upd_ne (ne_of_none e h)]
  exact e
/-- a new instance in making -/
theorem same_new {H : Hp} {x dx C : Addr} (hx : H x = none) (hd : H dx = none) : Same H (upd (upd H dx (.own x)) x (.ins C dx [])) := fun b u e => by
  rw [upd_ne (ne_of_none e hx), upd_ne (ne_of_none e hd)]
  exact e
section
variable {C CI CZ : Addr} {H : Hp} {Q : VK} {E : XK}
theorem mk_good {t b : Int} (hb : b ≠ 0) (bs : Sm 5000 b) (k : ∀ p H', Same H H' → Rat C H' p (nt t b) (nb t b) → Q (.ref p) H') :
    ∀ x dx, H x = none → H dx = none → dx ≠ x → spInit C CI CZ [.ref x, .int t, .int b] (upd (upd H dx (.own x)) x (.ins C dx [])) (fun v H2 => v = .non ∧ Q (.ref x) H2) E := by
  intro x dx hx hd ne
  refine ⟨x, dx, .int t, .int b, rfl, upd_same, .int t, fun _ => .int b, .inr (.inr ⟨t, b, rfl, rfl, .inr ⟨hb, bs, rfl, ?_⟩⟩)⟩
  refine k x _ (fun c o e => ?_) ⟨dx, upd_same⟩
  rw [upd_ne (ne_of_none e hx)]
  exact same_new hx hd c o e
theorem mk_bad1 {v u : V} (kd : Bd H v ∨ ∃ a dx fs, v = .ref a ∧ H a = some (.ins C dx fs)) (k : ∀ d H', Same H H' → H' d = some (xd v) → E (.ref CI) (some d) H') :
    ∀ x dx, H x = none → H dx = none → dx ≠ x → spInit C CI CZ [.ref x, v, u] (upd (upd H dx (.own x)) x (.ins C dx [])) (fun v H2 => v = .non ∧ Q (.ref x) H2) E := by
  intro x dx hx hd ne
  have nw : isW v = false := by
    rcases kd with h | ⟨a, _, _, rfl, _⟩
    · exact h.w
    · rfl
  have kk : Kd C H v := by
    rcases kd with h | ⟨a, _, _, rfl, e⟩
    · exact h.kd
    · exact .ins e
  refine ⟨x, dx, v, u, rfl, upd_same, kk.same (same_new hx hd), fun y => absurd y (by rw [nw]; decide), .inl ⟨nw, fun d hdn => ?_⟩⟩
  refine k d _ (fun c o e => ?_) upd_same
  have e2 := same_new (C := C) hx hd c o e
  rw [upd_ne (ne_of_none e2 hdn)]
  exact e2
theorem mk_bad2 {t : Int} {v : V} (kd : Bd H v ∨ ∃ a dx fs, v = .ref a ∧ H a = some (.ins C dx fs)) (k : ∀ d H', Same H H' → H' d = some (xd v) → E (.ref CI) (some d) H') :
    ∀ x dx, H x = none → H dx = none → dx ≠ x → spInit C CI CZ [.ref x, .int t, v] (upd (upd H dx (.own x)) x (.ins C dx [])) (fun v H2 => v = .non ∧ Q (.ref x) H2) E := by
  intro x dx hx hd ne
  have nw : isW v = false := by
    rcases kd with h | ⟨a, _, _, rfl, _⟩
    · exact h.w
    · rfl
  have kk : Kd C H v := by
    rcases kd with h | ⟨a, _, _, rfl, e⟩
    · exact h.kd
    · exact .ins e
  refine ⟨x, dx, .int t, v, rfl, upd_same, .int t, fun _ => kk.same (same_new hx hd), .inr (.inl ⟨rfl, nw, fun d hdn => ?_⟩)⟩
  refine k d _ (fun c o e => ?_) upd_same
  have e2 := same_new (C := C) hx hd c o e
  rw [upd_ne (ne_of_none e2 hdn)]
  exact e2
theorem mk_zero {t : Int} (k : ∀ d H', Same H H' → H' d = some (xd (.int t)) → E (.ref CZ) (some d) H') :
    ∀ x dx, H x = none → H dx = none → dx ≠ x → spInit C CI CZ [.ref x, .int t, .int 0] (upd (upd H dx (.own x)) x (.ins C dx [])) (fun v H2 => v = .non ∧ Q (.ref x) H2) E := by
  intro x dx hx hd ne
  refine ⟨x, dx, .int t, .int 0, rfl, upd_same, .int t, fun _ => .int 0, .inr (.inr ⟨t, 0, rfl, rfl, .inl ⟨rfl, fun d hdn => ?_⟩⟩)⟩
  refine k d _ (fun c o e => ?_) upd_same
  have e2 := same_new (C := C) hx hd c o e
  rw [upd_ne (ne_of_none e2 hdn)]
  exact e2
end

/-- what is known of the class's making -/
structure Mak (P : Program) (w : World) (K : PySem.W.Frag) (mg : Str → Option Value) (base : Heap) (C CI CZ : Addr) : Prop where
  ex : ∃ (fI : Addr) (fd : FuncData) (ds : List Value), Mk K C fI ∧ FnOk P w K mg base (L2.CX P w) 3 fI fd ["self", "top", "bottom"] (spInit C CI CZ) ∧ L2.Binds K fd ["self", "top", "bottom"] [] ∧ Vals [.int 1] ds ∧ L2.Binds K fd ["self", "top", "bottom"] ds

/-- a method of the class, by its name -/
structure Dun (P : Program) (w : World) (K : PySem.W.Frag) (mg : Str → Option Value) (base : Heap) (C : Addr) (nm : Str) (k : Nat) (ps : List Str) (sp : Sp) : Prop where
  ex : ∃ (f : Addr) (fd : FuncData), PySem.W.findIn K (.ref C) nm = some (some (.ref f)) ∧ PySem.W.isFn K (.ref f) = true ∧ PySem.W.keepIn K (.ref f) = true ∧ FnOk P w K mg base (L2.CX P w) k f fd ps sp ∧ L2.Binds K fd ps []
/-- what is known of the class beside the built-in types -/
structure Tys (K : PySem.W.Frag) (C : Addr) : Prop where
  sf : PySem.W.selfFirst K C = true
  nCC : PySem.W.notFirst K C (.ref C) = true
  nI : PySem.W.notFirst K C (.type "int") = true
  nB : PySem.W.notFirst K C (.type "bool") = true
  nN : PySem.W.notFirst K C (.type "NoneType") = true
  nS : PySem.W.notFirst K C (.type "str") = true
  nL : PySem.W.notFirst K C (.type "list") = true
  nT : PySem.W.notFirst K C (.type "tuple") = true
  sI : PySem.W.subIn K (.ref C) (.type "int") = some false
def RAny (C : Addr) : V → Hp → Prop := fun y H => RIns C y H ∨ RInt y H ∨ Bd H y
theorem looks_any {X : Cx} {C : Addr} (Y : Tys X.K C) {y : V} {H : Hp} {u : Value} {pins : List (Addr × Obj)} {σ : L2.St} {s : Shared} (I : L2.Inv X pins σ H s) (h : RAny C y H) (ry : RelV y u) :
    ∃ tb, PySem.W.Looks (model X.prog X.w) s.heap (typeOf u) tb ∧ PySem.W.notFirst X.K C tb = true := by
  rcases h with h | h | h
  · exact looks_ins Y.nCC I h ry
  · exact looks_int Y.nI I h ry
  · cases h with
    | bl b => cases (show u = Value.bool b from ry); exact ⟨_, PySem.W.Looks.of_pure rfl, Y.nB⟩
    | non => cases (show u = Value.none from ry); exact ⟨_, PySem.W.Looks.of_pure rfl, Y.nN⟩
    | str x => obtain ⟨t, rfl⟩ := (show ∃ t, u = Value.str x t from ry); exact ⟨_, PySem.W.Looks.of_pure rfl, Y.nS⟩
    | lst e =>
      cases (show u = Value.ref _ from ry)
      obtain ⟨_, _, n, _, h1⟩ := (show ObjOk X.prog X.w H s.heap _ (.lst _) from I.hok _ _ e)
      exact ⟨.type "list", fun A Q E s' k q => wpAny_typeOf_ref (k _ _ h1) q, Y.nL⟩
    | tup e =>
      cases (show u = Value.ref _ from ry)
      obtain ⟨_, _, _, o, h1, h2, _⟩ := (show ObjOk X.prog X.w H s.heap _ (.tup _) from I.hok _ _ e)
      exact ⟨.type "tuple", fun A Q E s' k q => wpAny_typeOf_ref (k _ _ h1) (by rw [h2]; exact q), Y.nT⟩

section
variable {P : Program} {w : World} {K : PySem.W.Frag} {mg : Str → Option Value} {base : Heap} {C CI fCI CZ fCZ : Addr}
def spEq (C : Addr) (neg : Bool) : Sp := fun vs H Q _ => ∃ p v t b, vs = [.ref p, v] ∧ Rat C H p t b ∧ ((∃ q t' b', v = .ref q ∧ Rat C H q t' b' ∧ Q (.bl (neg != (decide (t = t') && decide (b = b')))) H) ∨
  (∃ i, v = .int i ∧ Q (.bl (neg != (decide (b = 1) && decide (t = i)))) H) ∨ (Bd H v ∧ Q (.bl neg) H))
theorem dI (i j : Int) : decide (V.int i = V.int j) = decide (i = j) := by
  by_cases h : i = j
  · rw [decide_eq_true h, decide_eq_true (by rw [h])]
  · rw [decide_eq_false h, decide_eq_false (fun z => h (V.int.inj z))]
theorem ok_eq {f : Addr} {fd : FuncData} (F : Fun K "__eq__" "Ratio.__eq__" (sRat 11) f fd) (T : Txt K mg C CI fCI CZ fCZ) (GW : Glb P w K mg base "is_whole" 1 ["value"] (spWhole C)) :
    FnOk P w K mg base (L2.CX P w) 2 f fd ["self", "other"] (spEq C false) := by
  obtain ⟨fW, fdW, mW, kW, GW, bW⟩ := GW.ex
  have sc : FnScope ["self", "other"] ["self", "other"] (defScope (sRat 11)) := ⟨rfl, rfl, rfl, by decide +kernel, rfl, by decide +kernel, by decide +kernel⟩
  refine F.okX sc (fun vs H Q E h => ?_) (fun cdv A outer s H vs Q E hr h => ?_)
  · obtain ⟨p, v, t, b, rfl, _⟩ := h
    rfl
  · obtain ⟨p, v, t, b, rfl, ⟨dx, hp⟩, k⟩ := h
    refine ⟨_, pss_cons (ps_if (pt_val (pe_callB call_isi (by rfl) T.isi (by decide +kernel) (pa_cons (pv 1) (pa_cons (pe_glob (v := .ref C) (by rfl) T.gC rfl) pa_nil))))
        (pss_one (ps_ret (pe_and (pe_cmpR op_eq (pe_fld (pv 0) rfl) (pe_fld (pv 1) rfl) (nomark _)) (pe_one (pe_cmpR op_eq (pe_fld (pv 0) rfl) (pe_fld (pv 1) rfl) (nomark _)))))) pss_nil)
      (pss_one (ps_ret (pe_and (pe_call GW hr (by rfl) mW kW bW .nil passL (pa_cons (pv 1) pa_nil)) (pe_and (pe_cmpR op_eq (pe_fld (pv 0) rfl) pe_int (nomark _)) (pe_one (pe_cmpR op_eq (pe_fld (pv 0) rfl) (pv 1) (nomark _))))))), ?_⟩
    rcases k with ⟨q, t', b', rfl, ⟨dq, hq⟩, k⟩ | ⟨i, rfl, k⟩ | ⟨bd, k⟩
    · refine ⟨_, rfl, _, _, _, _, _, rfl, .own C, .base (.ins hq T.cl T.ha T.hn T.htk T.hm), T.kCC, _, rfl, iteT ?_⟩
      refine ⟨_, rfl, p, C, dx, _, _, rfl, hp, T.cl, T.nT, flds_top _ _, _, rfl, q, C, dq, _, _, rfl, hq, T.cl, T.nT, flds_top _ _, rfl, _, rfl, ?_⟩
      rw [dI]
      by_cases h : t = t'
      · rw [decide_eq_true h]
        refine iteT ⟨_, rfl, p, C, dx, _, _, rfl, hp, T.cl, T.nB, flds_bot _ _, _, rfl, q, C, dq, _, _, rfl, hq, T.cl, T.nB, flds_bot _ _, rfl, ?_⟩
        rw [dI]
        rw [decide_eq_true h] at k
        simpa using k
      · rw [decide_eq_false h]
        rw [decide_eq_false h] at k
        exact iteF (by simpa using k)
    · refine ⟨_, rfl, _, _, _, _, _, rfl, .own C, .base (.int i), T.kiC, _, rfl, iteF ?_⟩
      refine ⟨_, rfl, _, rfl, .int i, _, rfl, iteT ⟨_, rfl, p, C, dx, _, _, rfl, hp, T.cl, T.nB, flds_bot _ _, rfl, _, rfl, ?_⟩⟩
      rw [dI]
      by_cases h : b = 1
      · rw [decide_eq_true h]
        refine iteT ⟨_, rfl, p, C, dx, _, _, rfl, hp, T.cl, T.nT, flds_top _ _, _, rfl, rfl, ?_⟩
        rw [dI]
        rw [decide_eq_true h] at k
        simpa using k
      · rw [decide_eq_false h]
        rw [decide_eq_false h] at k
        exact iteF (by simpa using k)
    · cases bd with
      | bl b => exact ⟨_, rfl, _, _, _, _, _, rfl, .own C, .base (.bl b), T.kbC, _, rfl, iteF ⟨_, rfl, _, rfl, .bl b, _, rfl, iteF k⟩⟩
      | non => exact ⟨_, rfl, _, _, _, _, _, rfl, .own C, .base .non, T.knC, _, rfl, iteF ⟨_, rfl, _, rfl, .non, _, rfl, iteF k⟩⟩
      | str x => exact ⟨_, rfl, _, _, _, _, _, rfl, .own C, .base (.str x), T.ksC, _, rfl, iteF ⟨_, rfl, _, rfl, .str x, _, rfl, iteF k⟩⟩
      | lst e => exact ⟨_, rfl, _, _, _, _, _, rfl, .own C, .base (.lst e), T.klC, _, rfl, iteF ⟨_, rfl, _, rfl, .lst e, _, rfl, iteF k⟩⟩
      | tup e => exact ⟨_, rfl, _, _, _, _, _, rfl, .own C, .base (.tup e), T.ktC, _, rfl, iteF ⟨_, rfl, _, rfl, .tup e, _, rfl, iteF k⟩⟩
theorem ok_ne {f : Addr} {fd : FuncData} (F : Fun K "__ne__" "Ratio.__ne__" (sRat 12) f fd) (Z : Tys K C) (D : Dun P w K mg base C (cmpInfo .Eq).2.1 2 ["self", "other"] (spEq C false)) :
    FnOk P w K mg base (L2.CX P w) 3 f fd ["self", "other"] (spEq C true) := by
  obtain ⟨g, gd, ga, gf, _, GD, gb⟩ := D.ex
  have sc : FnScope ["self", "other"] ["self", "other"] (defScope (sRat 12)) := ⟨rfl, rfl, rfl, by decide +kernel, rfl, by decide +kernel, by decide +kernel⟩
  refine F.okX sc (fun vs H Q E h => ?_) (fun cdv A outer s H vs Q E hr h => ?_)
  · obtain ⟨p, v, t, b, rfl, _⟩ := h
    rfl
  · obtain ⟨p, v, t, b, rfl, ⟨dx, hp⟩, k⟩ := h
    refine ⟨_, pss_one (ps_ret (pe_not (pe_cmpR (op := .Eq) (cmp_own (C := C) (E := E0) (R := RAny C) (fun _ _ => rfl) ga gf GD hr gb passL (looks_any Z)) (pv 0) (pv 1) (nomark _)))), ?_⟩
    rcases k with ⟨q, t', b', rfl, ⟨dq, hq⟩, k⟩ | ⟨i, rfl, k⟩ | ⟨bd, k⟩
    · exact ⟨_, rfl, _, rfl, p, dx, _, rfl, hp, .inl ⟨q, dq, _, rfl, hq⟩, p, .ref q, t, b, rfl, ⟨dx, hp⟩, .inl ⟨q, t', b', rfl, ⟨dq, hq⟩, _, rfl, by cases hx : (decide (t = t') && decide (b = b')) <;> rw [hx] at k <;> exact k⟩⟩
    · exact ⟨_, rfl, _, rfl, p, dx, _, rfl, hp, .inr (.inl ⟨i, rfl⟩), p, .int i, t, b, rfl, ⟨dx, hp⟩, .inr (.inl ⟨i, rfl, _, rfl, by cases hx : (decide (b = 1) && decide (t = i)) <;> rw [hx] at k <;> exact k⟩)⟩
    · exact ⟨_, rfl, _, rfl, p, dx, _, rfl, hp, .inr (.inr bd), p, v, t, b, rfl, ⟨dx, hp⟩, .inr (.inr ⟨bd, _, rfl, k⟩)⟩
end
abbrev sVal : Stmt := top 23
/-- a number above 0 in lowest terms, of a size that is met -/
structure Vb (t b : Int) : Prop where
  b0 : 0 < b
  t0 : 0 < t
  sm : Sm 5000 b
  n1 : nt t b = t
  n2 : nb t b = b
def Vp (C : Addr) (H : Hp) (v : V) (t b : Int) : Prop := Num C H v t b ∧ Vb t b
theorem Vp.same {C : Addr} {H H' : Hp} {v : V} {t b : Int} (h : Vp C H v t b) (e : Same H H') : Vp C H' v t b := ⟨h.1.same e, h.2⟩
def NoV (C : Addr) (H : Hp) (v : V) : Prop := Bd H v ∨ ∃ t b, Num C H v t b ∧ t ≤ 0
theorem NoV.same {C : Addr} {H H' : Hp} {v : V} (h : NoV C H v) (e : Same H H') : NoV C H' v := h.elim (fun h => .inl (h.same e)) fun ⟨t, b, h, l⟩ => .inr ⟨t, b, h.same e, l⟩
def spVal (C CN : Addr) : Sp := fun vs H Q E => ∃ v, vs = [v] ∧ ((∃ t b, Vp C H v t b ∧ ∀ r H', Same H H' → Rat C H' r t b → Q (.ref r) H') ∨ (NoV C H v ∧ ∀ d H', Same H H' → H' d = some (xd v) → E (.ref CN) (some d) H'))
theorem mkR_at {C CI CZ : Addr} {H : Hp} {W : VK} {E : XK} {x dx : Addr} {t b : Int} (hx : H x = none) (hd : H dx = none) (hb : b ≠ 0) (bs : Sm 5000 b) (k : ∀ H', Same H H' → Rat C H' x (nt t b) (nb t b) → W .non H') :
    spInit C CI CZ [.ref x, .int t, .int b] (upd (upd H dx (.own x)) x (.ins C dx [])) W E := by
  refine ⟨x, dx, .int t, .int b, rfl, upd_same, .int t, fun _ => .int b, .inr (.inr ⟨t, b, rfl, rfl, .inr ⟨hb, bs, ?_⟩⟩)⟩
  refine k _ (fun c o e => ?_) ⟨dx, upd_same⟩
  rw [upd_ne (ne_of_none e hx)]
  exact same_new hx hd c o e
theorem mkR_one {C CI CZ : Addr} {H : Hp} {W : VK} {E : XK} {x dx : Addr} {t : Int} (hx : H x = none) (hd : H dx = none) (k : ∀ H', Same H H' → Rat C H' x t 1 → W .non H') :
    spInit C CI CZ [.ref x, .int t, .int 1] (upd (upd H dx (.own x)) x (.ins C dx [])) W E :=
  mkR_at hx hd (by decide) (Nat.one_lt_two_pow (by decide)) fun H' s r => k H' s (by rw [(nt_one t).1, (nt_one t).2] at r; exact r)
section
variable {P : Program} {w : World} {K : PySem.W.Frag} {mg : Str → Option Value} {base : Heap} {C CI fCI CZ fCZ CN fCN : Addr}
theorem ok_val {f : Addr} {fd : FuncData} (F : Fun K "value_of" "value_of" sVal f fd) (T : Txt K mg C CI fCI CZ fCZ) (M : Mak P w K mg base C CI CZ) (eN : PySem.Giv.ErrTxt K mg "NotPositive" "NotPositive.__init__" "ValueError.__new__" veT CN fCN)
    (GW : Glb P w K mg base "is_whole" 1 ["value"] (spWhole C)) : FnOk P w K mg base (L2.CX P w) 5 f fd ["value"] (spVal C CN) := by
  obtain ⟨fI, fdI, ds, mk, GI, b3, d2, b2⟩ := M.ex
  obtain ⟨fW, fdW, mW, kW, GW, bW⟩ := GW.ex
  have sc : FnScope ["value"] ["value"] (defScope sVal) := ⟨rfl, rfl, rfl, by decide +kernel, rfl, by decide +kernel, by decide +kernel⟩
  refine F.okX sc (fun vs H Q E h => ?_) (fun cdv A outer s H vs Q E hr h => ?_)
  · obtain ⟨v, rfl, _⟩ := h
    rfl
  · obtain ⟨v, rfl, k⟩ := h
    refine ⟨_, pss_cons (ps_if (PW.pt (pw_and (pt_val (pe_callB call_isi (by rfl) T.isi (by decide +kernel) (pa_cons (pv 0) (pa_cons (pe_glob (v := .ref C) (by rfl) T.gC rfl) pa_nil)))) (pw_and1 (pt_cmpR op_gt (pe_fld (pv 0) rfl) pe_int (nomark _)))))
        (pss_one (ps_ret (pe_make mk GI (hr.mono (by decide)) (by rfl) T.gC b3 .nil passL (pa_cons (pe_fld (pv 0) rfl) (pa_cons (pe_fld (pv 0) rfl) pa_nil))))) pss_nil)
      (pss_cons (ps_if (PW.pt (pw_or (pt_not (pt_val (pe_call GW (hr.mono (by decide)) (by rfl) mW kW bW .nil passL (pa_cons (pv 0) pa_nil)))) (pw_or1 (pt_cmpR op_le (pv 0) pe_int (nomark _)))))
        (pss_one (ps_raiseGiv rfl PySem.Giv.ok_VE eN hr (takes_of rfl rfl rfl rfl) (pa_cons (pv 0) pa_nil) (by rfl))) pss_nil)
      (pss_one (ps_ret (pe_make mk GI (hr.mono (by decide)) (by rfl) T.gC b2 d2 passL (pa_cons (pv 0) pa_nil))))), ?_⟩
    rcases k with ⟨t, b, ⟨nm, vb⟩, k⟩ | ⟨bd | ⟨t, b, nm, t0⟩, k⟩
    · rcases nm with ⟨q, rfl, dq, hq⟩ | ⟨rfl, rfl⟩
      · refine ⟨_, rfl, _, _, _, _, _, rfl, .own C, .base (.ins hq T.cl T.ha T.hn T.htk T.hm), T.kCC, _, rfl, if_pos' rfl ?_⟩
        refine ⟨_, rfl, q, C, dq, _, _, rfl, hq, T.cl, T.nT, flds_top _ _, _, _, rfl, rfl, _, rfl, if_pos' (decide_eq_true vb.t0) ?_⟩
        refine ⟨_, rfl, q, C, dq, _, _, rfl, hq, T.cl, T.nT, flds_top _ _, _, rfl, q, C, dq, _, _, rfl, hq, T.cl, T.nB, flds_bot _ _, ?_⟩
        exact mk_good (Int.ne_of_gt vb.b0) vb.sm fun p H' sm r => k p H' sm (by rw [vb.n1, vb.n2] at r; exact r)
      · refine ⟨_, rfl, _, _, _, _, _, rfl, .own C, .base (.int t), T.kiC, _, rfl, if_neg' rfl ?_⟩
        refine ⟨_, rfl, _, rfl, .int t, _, rfl, if_neg' rfl ⟨_, rfl, _, _, rfl, rfl, _, rfl, if_neg' (decide_eq_false (by have := vb.t0; omega)) ⟨_, rfl, ?_⟩⟩⟩
        exact mk_good (by decide) (Nat.one_lt_two_pow (by decide)) fun p H' sm r => k p H' sm (by rw [vb.n1, vb.n2] at r; exact r)
    · have fin : ∀ d, H d = none → E (.ref CN) (some d) (upd H d (xd v)) := fun d hd => k d _ (same_upd hd) upd_same
      cases bd with
      | bl b => exact ⟨_, rfl, _, _, _, _, _, rfl, .own C, .base (.bl b), T.kbC, _, rfl, if_neg' rfl ⟨_, rfl, _, rfl, .bl b, _, rfl, if_pos' rfl ⟨_, rfl, _, rfl, fin⟩⟩⟩
      | non => exact ⟨_, rfl, _, _, _, _, _, rfl, .own C, .base .non, T.knC, _, rfl, if_neg' rfl ⟨_, rfl, _, rfl, .non, _, rfl, if_pos' rfl ⟨_, rfl, _, rfl, fin⟩⟩⟩
      | str x => exact ⟨_, rfl, _, _, _, _, _, rfl, .own C, .base (.str x), T.ksC, _, rfl, if_neg' rfl ⟨_, rfl, _, rfl, .str x, _, rfl, if_pos' rfl ⟨_, rfl, _, rfl, fin⟩⟩⟩
      | lst e => exact ⟨_, rfl, _, _, _, _, _, rfl, .own C, .base (.lst e), T.klC, _, rfl, if_neg' rfl ⟨_, rfl, _, rfl, .lst e, _, rfl, if_pos' rfl ⟨_, rfl, _, rfl, fin⟩⟩⟩
      | tup e => exact ⟨_, rfl, _, _, _, _, _, rfl, .own C, .base (.tup e), T.ktC, _, rfl, if_neg' rfl ⟨_, rfl, _, rfl, .tup e, _, rfl, if_pos' rfl ⟨_, rfl, _, rfl, fin⟩⟩⟩
    · have fin : ∀ d, H d = none → E (.ref CN) (some d) (upd H d (xd v)) := fun d hd => k d _ (same_upd hd) upd_same
      rcases nm with ⟨q, rfl, dq, hq⟩ | ⟨rfl, rfl⟩
      · refine ⟨_, rfl, _, _, _, _, _, rfl, .own C, .base (.ins hq T.cl T.ha T.hn T.htk T.hm), T.kCC, _, rfl, if_pos' rfl ?_⟩
        refine ⟨_, rfl, q, C, dq, _, _, rfl, hq, T.cl, T.nT, flds_top _ _, _, _, rfl, rfl, _, rfl, if_neg' (decide_eq_false (by omega)) ?_⟩
        exact ⟨_, rfl, _, rfl, .ins hq, _, rfl, if_pos' rfl ⟨_, rfl, _, rfl, fin⟩⟩
      · refine ⟨_, rfl, _, _, _, _, _, rfl, .own C, .base (.int t), T.kiC, _, rfl, if_neg' rfl ?_⟩
        exact ⟨_, rfl, _, rfl, .int t, _, rfl, if_neg' rfl ⟨_, rfl, _, _, rfl, rfl, _, rfl, if_pos' (decide_eq_true t0) ⟨_, rfl, _, rfl, fin⟩⟩⟩
end
end R50r
end

-- WalkIt
section
set_option Elab.async false
set_option linter.all false
set_option maxRecDepth 100000
namespace G1
open PySem L2 OwnOps
theorem pg_two {X : Cx} {i j : Nat} {x y : Str} {p1 p2 pos : Pos} {kk : Nat} (hc : X.calm = true) (hN : X.N.Nodup) (hi : X.N[i]? = some x) (hx : Loc X.env.scope x) (hj : X.N[j]? = some y) (hy : Loc X.env.scope y)
    (hf : X.fn x = true ∨ X.env.scope.names.lookup x = some .local := by first | exact .inl rfl | exact .inr rfl) (hg : X.fn y = true ∨ X.env.scope.names.lookup y = some .local := by first | exact .inl rfl | exact .inr rfl) :
    PG X (.Tuple [.Name x p1, .Name y p2] kk pos) (gTup X.K 2 (gCons (gName i) (gCons (gName j) gNil))) := pg_tup hc (pgs_cons (pg_name (i := i) hN hi hx hf) (pgs_cons (pg_name (i := j) hN hj hy hg) pgs_nil))
/-- a walk, whatever its turn is -/
theorem walk_it {J : It} {n : Nat} {G : Hp → Prop} {Y : Nat → Hp → V → Hp → Prop} (w : Walk J n G Y) {turn : V → Hp → (Hp → Prop) → Prop} {Fin : Hp → Prop} {H0 : Hp} (Pv : Nat → Hp → Prop) (h0 : Pv 0 H0) (hG : ∀ i H, i ≤ n → Pv i H → G H)
    (hs : ∀ i x H H', i < n → Pv i H → Y i H x H' → turn x H' (Pv (i + 1))) (hd : ∀ H, Pv n H → Fin H) :
    ∃ W : Nat → Nat → Hp → Prop, (∃ m, W 0 m H0) ∧ ∀ i m H, W i m H → (J.stop i H ∧ Fin H) ∨ (J.go i H ∧ ∃ Nx : Hp → Prop, (∀ H', Nx H' → ∃ m', m' < m ∧ W (i + 1) m' H') ∧ ∀ x H', J.yld i H x H' → turn x H' Nx) := by
  refine ⟨fun i m H => m + i = n ∧ Pv i H, ⟨n, rfl, h0⟩, fun i m H ⟨e, p⟩ => ?_⟩
  have q := hG i H (by omega) p
  by_cases lt : i < n
  · exact .inr ⟨w.goes i H lt q, Pv (i + 1), fun H' p' => ⟨m - 1, by omega, by omega, p'⟩, fun x H' y => hs i x H H' lt p (w.yields i H x H' lt q y)⟩
  · cases (show i = n by omega)
    exact .inl ⟨w.stops H q, hd H p⟩
theorem same_unlock {H G : Hp} {d : Addr} {u : HO} {od : Obj} (hd : H d = some u) (s : Same (upd H d (.frz od u)) G) : G d = some (.frz od u) ∧ Same H (upd G d u) := by
  refine ⟨s _ _ upd_same, fun b o e => ?_⟩
  by_cases h : b = d
  · subst h
    rw [hd] at e
    cases e
    exact upd_same
  · rw [upd_ne h]
    exact s b o (by rw [upd_ne h]; exact e)
theorem rd_lock {H : Hp} {d a : Addr} {u v : HO} {od : Obj} (hd : H d = some u) (m : Mut (some u)) (r : Rd H a v) : Rd (upd H d (.frz od u)) a v := by
  by_cases h : a = d
  · subst h
    rcases r with r | ⟨o, r⟩
    · rw [hd] at r
      cases r
      exact .inr ⟨od, upd_same⟩
    · rw [hd] at r
      cases r
      exact m.elim
  · rcases r with r | ⟨o, r⟩
    · exact .inl (by rw [upd_ne h]; exact r)
    · exact .inr ⟨o, by rw [upd_ne h]; exact r⟩
theorem SameX.none {p x : Addr} {H G : Hp} {u : HO} (s : SameX p H G) (hp : G p = some u) (h : G x = none) : H x = none := by
  cases e : H x with
  | none => rfl
  | some o =>
    by_cases n : x = p
    · subst n
      rw [hp] at h
      cases h
    · rw [s x o n e] at h
      cases h
theorem Same.none {x : Addr} {H G : Hp} (s : Same H G) (h : G x = none) : H x = none := by
  cases e : H x with
  | none => rfl
  | some o =>
    rw [s x o e] at h
    cases h
end G1
end

-- Y5b
section
set_option Elab.async false
set_option linter.all false
set_option maxRecDepth 100000
namespace R50
open PySem L2 OwnOps OwnNe G1 StX
def difV (xs : List V) : Bool := xs.all wdV && decide xs.Nodup
/-- a list or a tuple, as it stands -/
def LT (K : PySem.W.Frag) (H : Hp) (a : Addr) (xs : List V) : Prop := SqL K H a xs ∨ SqT K H a xs
theorem texts_of : ∀ {xs : List V}, xs.all wdV = true → ∃ zs : List Str, xs = zs.map V.str
  | [], _ => ⟨[], rfl⟩
  | x :: xs, h => by
    rw [List.all_cons, Bool.and_eq_true] at h
    obtain ⟨zs, e⟩ := texts_of h.2
    cases x with
    | str z => exact ⟨z :: zs, by rw [e]; rfl⟩
    | _ => exact absurd h.1 (by simp [wdV])
theorem nodup_str {zs : List Str} : (zs.map V.str).Nodup ↔ zs.Nodup := by
  constructor
  · intro h
    exact List.Pairwise.of_map V.str (fun a b ne e => ne (by rw [e])) h
  · intro h
    exact List.Pairwise.map V.str (fun a b ne e => ne (V.str.inj e)) h
theorem cnt_is (zs : List Str) : decide ((SetStr.cnt zs zs.length : Int) = zs.length) = decide zs.Nodup := by
  by_cases h : zs.Nodup
  · rw [SetStr.cnt_nodup h _ (Nat.le_refl _), decide_eq_true h, decide_eq_true rfl]
  · rw [decide_eq_false h]
    have : ∃ i j, i < j ∧ j < zs.length ∧ zs.getD i Str.empty = zs.getD j Str.empty := by
      apply Classical.byContradiction
      intro q
      apply h
      rw [List.nodup_iff_pairwise_ne, List.pairwise_iff_getElem]
      intro i j hi hj hij e
      refine q ⟨i, j, hij, hj, ?_⟩
      rw [List.getD_eq_getElem?_getD, List.getD_eq_getElem?_getD, List.getElem?_eq_getElem hi, List.getElem?_eq_getElem hj, e]
    obtain ⟨i, j, hij, hj, e⟩ := this
    have := SetStr.cnt_bad hij hj e zs.length hj
    exact decide_eq_false (by omega)
theorem take_succ_at {α : Type} {xs : List α} {i : Nat} {x : α} (h : xs[i]? = some x) : xs.take (i + 1) = xs.take i ++ [x] := by
  rw [List.take_add_one, h]
  rfl
theorem Same.tupS {K : PySem.W.Frag} {H H' : Hp} {a : Addr} {xs : List V} (e : Same H H') (h : SqT K H a xs) : SqT K H' a xs := by
  rcases h with h | h
  · rcases h with h | ⟨o, h⟩
    · exact .inl (.inl (e _ _ h))
    · exact .inl (.inr ⟨o, e _ _ h⟩)
  · exact .inr h
section
variable {P : Program} {w : World} {K : PySem.W.Frag} {mg : Str → Option Value} {base : Heap}
def spDiff (K : PySem.W.Frag) : Sp := fun vs H Q _ => ∃ a xs, vs = [.ref a] ∧ LT K H a xs ∧ xs.length ≤ 100 ∧ (∀ x ∈ xs, Av H x ∧ Shr x) ∧ ∀ H', Same H H' → Q (.bl (difV xs)) H'
theorem ok_diff {f : Addr} {fd : FuncData} (F : Fun K "are_different_words" "are_different_words" sDiff f fd) (T : Bi mg) (GW : Glb P w K mg base "is_word" 1 ["value"] spWord) : FnOk P w K mg base (L2.CX P w) 2 f fd ["values"] (spDiff K) := by
  obtain ⟨_, _, mW, kW, GW, bW⟩ := GW.ex
  have sc : FnScope ["values", "value"] ["values"] (defScope sDiff) := ⟨rfl, rfl, rfl, by decide +kernel, rfl, by decide +kernel, by decide +kernel⟩
  have hN := sc.nd
  refine F.okX sc (fun vs H Q E h => ?_) (fun cdv A outer s H vs Q E hr h => ?_)
  · obtain ⟨a, xs, rfl, _⟩ := h
    rfl
  · obtain ⟨a, xs, rfl, hS, few, av, fin⟩ := h
    rcases hS with hS | hS
    · refine ⟨_, pss_one (ps_ret (pe_and (pe_callB (cr_all rfl) (by rfl) T.all (by decide +kernel) (pa_cons (pe_lc (own := [("value", 1)]) (g := gName 1) (tt := tYes) (te := tCall spWord [] E0 (tCons (tVar 1) tNil)) rfl hN (pi_list (pv 0)) (blkOk_by (N := ["values", "value"]) (sc := defScope sDiff) (by decide +kernel)) (fun _ _ _ _ _ => pg_name (i := 1) hN rfl (Or.inl rfl)) (fun _ _ _ _ _ => pts_nil)
          (fun _ _ _ _ _ => pe_call GW (hr.mono (by decide)) (by rfl) mW kW bW .nil passL (pa_cons (pv 1) pa_nil))) pa_nil))
        (pe_one (pe_cmpR op_eq (SetStr.pe_lenT (by rfl) T.len (by rfl) T.set (pv 0)) (pe_callB call_len_seq (by rfl) T.len PySem.boot_len (pa_cons (pv 0) pa_nil)) (nomark _))))), ?_⟩
      refine ⟨_, rfl, a, rfl, ⟨xs, hS⟩, fun D hD => lc_it (walk_list (xs := xs) (a := a) (K := K)) (fun i G => Same H G ∧ ∃ at_, G D = some (.lst at_) ∧ at_ = (xs.take i).map fun v => V.bl (wdV v)) ⟨same_upd hD, [], upd_same, rfl⟩ (fun i G hi g => g.1.seq hS) (fun i x G G' hi g y => ?_) (fun G g => ?_)⟩
      · obtain ⟨rfl, hx⟩ := y
        obtain ⟨sm, at_, hD2, rfl⟩ := g
        refine ⟨rfl, _, rfl, ?_⟩
        obtain ⟨ax, sx⟩ := av x (List.mem_of_getElem? hx)
        exact ⟨x, rfl, ax.same sm, sx, _, hD2, by rw [List.length_map, List.length_take]; exact small1000 (by omega), same_put sm hD, _, upd_same, by rw [take_succ_at hx, List.map_append]; rfl⟩
      · obtain ⟨sm, at_, hD2, rfl⟩ := g
        rw [List.take_length] at hD2
        have e0 : xs.map (fun v => V.bl (wdV v)) = (xs.map wdV).map V.bl := by rw [List.map_map]; rfl
        rw [e0] at hD2
        have ea : ((xs.map wdV).all id) = xs.all wdV := by rw [List.all_map]; rfl
        refine ⟨D, xs.map wdV, rfl, SqL.of hD2, _, rfl, ?_⟩
        cases b : xs.all wdV with
        | false =>
          refine if_neg' (by rw [ea, b]) ?_
          have z := fin G sm
          unfold difV at z
          rw [b] at z
          exact z
        | true =>
          refine if_pos' (by rw [ea, b]) ?_
          obtain ⟨zs, rfl⟩ := texts_of b
          refine ⟨_, rfl, a, zs, rfl, .inl (sm.seq hS), by rw [List.length_map] at few; omega, _, rfl, a, _, rfl, .inl (sm.seq hS), rfl, ?_⟩
          have z := fin G sm
          unfold difV at z
          rw [b, Bool.true_and] at z
          have e2 : decide (V.int (SetStr.cnt zs zs.length : Int) = V.int ((zs.map V.str).length : Int)) = decide (zs.map V.str).Nodup := by
            rw [List.length_map, decide_eq_decide.mpr nodup_str, ← cnt_is]
            exact decide_eq_decide.mpr ⟨fun q => V.int.inj q, fun q => by rw [q]⟩
          show Q (.bl _) G
          rw [e2]
          exact z
    · refine ⟨_, pss_one (ps_ret (pe_and (pe_callB (cr_all rfl) (by rfl) T.all (by decide +kernel) (pa_cons (pe_lc (own := [("value", 1)]) (g := gName 1) (tt := tYes) (te := tCall spWord [] E0 (tCons (tVar 1) tNil)) rfl hN (pi_tup (pv 0)) (blkOk_by (N := ["values", "value"]) (sc := defScope sDiff) (by decide +kernel)) (fun _ _ _ _ _ => pg_name (i := 1) hN rfl (Or.inl rfl)) (fun _ _ _ _ _ => pts_nil)
          (fun _ _ _ _ _ => pe_call GW (hr.mono (by decide)) (by rfl) mW kW bW .nil passL (pa_cons (pv 1) pa_nil))) pa_nil))
        (pe_one (pe_cmpR op_eq (SetStr.pe_lenT (by rfl) T.len (by rfl) T.set (pv 0)) (pe_callB call_len_seq (by rfl) T.len PySem.boot_len (pa_cons (pv 0) pa_nil)) (nomark _))))), ?_⟩
      refine ⟨_, rfl, a, rfl, ⟨xs, hS⟩, fun D hD => lc_it (walk_tup (xs := xs) (a := a) (K := K)) (fun i G => Same H G ∧ ∃ at_, G D = some (.lst at_) ∧ at_ = (xs.take i).map fun v => V.bl (wdV v)) ⟨same_upd hD, [], upd_same, rfl⟩ (fun i G hi g => R50.Same.tupS g.1 hS) (fun i x G G' hi g y => ?_) (fun G g => ?_)⟩
      · obtain ⟨rfl, hx⟩ := y
        obtain ⟨sm, at_, hD2, rfl⟩ := g
        refine ⟨rfl, _, rfl, ?_⟩
        obtain ⟨ax, sx⟩ := av x (List.mem_of_getElem? hx)
        exact ⟨x, rfl, ax.same sm, sx, _, hD2, by rw [List.length_map, List.length_take]; exact small1000 (by omega), same_put sm hD, _, upd_same, by rw [take_succ_at hx, List.map_append]; rfl⟩
      · obtain ⟨sm, at_, hD2, rfl⟩ := g
        rw [List.take_length] at hD2
        have e0 : xs.map (fun v => V.bl (wdV v)) = (xs.map wdV).map V.bl := by rw [List.map_map]; rfl
        rw [e0] at hD2
        have ea : ((xs.map wdV).all id) = xs.all wdV := by rw [List.all_map]; rfl
        refine ⟨D, xs.map wdV, rfl, SqL.of hD2, _, rfl, ?_⟩
        cases b : xs.all wdV with
        | false =>
          refine if_neg' (by rw [ea, b]) ?_
          have z := fin G sm
          unfold difV at z
          rw [b] at z
          exact z
        | true =>
          refine if_pos' (by rw [ea, b]) ?_
          obtain ⟨zs, rfl⟩ := texts_of b
          refine ⟨_, rfl, a, zs, rfl, .inr (R50.Same.tupS sm hS), by rw [List.length_map] at few; omega, _, rfl, a, _, rfl, .inr (R50.Same.tupS sm hS), rfl, ?_⟩
          have z := fin G sm
          unfold difV at z
          rw [b, Bool.true_and] at z
          have e2 : decide (V.int (SetStr.cnt zs zs.length : Int) = V.int ((zs.map V.str).length : Int)) = decide (zs.map V.str).Nodup := by
            rw [List.length_map, decide_eq_decide.mpr nodup_str, ← cnt_is]
            exact decide_eq_decide.mpr ⟨fun q => V.int.inj q, fun q => by rw [q]⟩
          show Q (.bl _) G
          rw [e2]
          exact z
end
end R50
end

-- Y5c
section
set_option Elab.async false
set_option linter.all false
set_option maxRecDepth 100000
namespace R50
open PySem L2 OwnOps OwnNe G1 StX
abbrev veT : List Value := [.type "ValueError", .type "Exception", .type "BaseException", .type "object"]
abbrev xd (v : V) : HO := .xd [(("given" : Str), v)]
/-- a class of kinds: its instances are plain, nothing of it is named as a field -/
structure KCls (K : PySem.W.Frag) (C : Addr) : Prop where
  cl : Cls K C
  n1 : NoAttr K C "name"
  n2 : NoAttr K C "pins"
  n3 : NoAttr K C "controls"
  n4 : NoAttr K C "is_path"
  n5 : NoAttr K C "orders"
  n6 : NoAttr K C "_line"
  n7 : NoAttr K C "_groups"
  n8 : NoAttr K C "_rules"
/-- the fields of a kind -/
def kf (nm pins ctl isp ords line : V) : List (Str × V) := [("name", nm), ("pins", pins), ("controls", ctl), ("is_path", isp), ("orders", ords), ("_line", line)]
theorem kf_put0 (nm pins ctl isp ords line : V) : putF "_line" line (putF "orders" ords (putF "is_path" isp (putF "controls" ctl (putF "pins" pins (putF "name" nm []))))) = kf nm pins ctl isp ords line := by kernel_rfl
section
variable (nm pins ctl isp ords line v : V)
theorem kf_pins (r : List (Str × V)) : putF "pins" v (kf nm pins ctl isp ords line ++ r) = kf nm v ctl isp ords line ++ r := by kernel_rfl
theorem kf_ctl (r : List (Str × V)) : putF "controls" v (kf nm pins ctl isp ords line ++ r) = kf nm pins v isp ords line ++ r := by kernel_rfl
theorem kf_isp (r : List (Str × V)) : putF "is_path" v (kf nm pins ctl isp ords line ++ r) = kf nm pins ctl v ords line ++ r := by kernel_rfl
theorem kf_ords (r : List (Str × V)) : putF "orders" v (kf nm pins ctl isp ords line ++ r) = kf nm pins ctl isp v line ++ r := by kernel_rfl
theorem kf_line (r : List (Str × V)) : putF "_line" v (kf nm pins ctl isp ords line ++ r) = kf nm pins ctl isp ords v ++ r := by kernel_rfl
theorem kp_pins : putF "pins" v (kf nm pins ctl isp ords line) = kf nm v ctl isp ords line := by kernel_rfl
theorem kp_ctl : putF "controls" v (kf nm pins ctl isp ords line) = kf nm pins v isp ords line := by kernel_rfl
theorem kp_isp : putF "is_path" v (kf nm pins ctl isp ords line) = kf nm pins ctl v ords line := by kernel_rfl
theorem kp_ords : putF "orders" v (kf nm pins ctl isp ords line) = kf nm pins ctl isp v line := by kernel_rfl
theorem kp_line : putF "_line" v (kf nm pins ctl isp ords line) = kf nm pins ctl isp ords v := by kernel_rfl
theorem kp_name' : (kf nm pins ctl isp ords line).lookup ("name" : Str) = some nm := by kernel_rfl
theorem kp_pins' : (kf nm pins ctl isp ords line).lookup ("pins" : Str) = some pins := by kernel_rfl
theorem kp_ctl' : (kf nm pins ctl isp ords line).lookup ("controls" : Str) = some ctl := by kernel_rfl
theorem kf_len : (kf nm pins ctl isp ords line).length = 6 := rfl
theorem kf_few : (kf nm pins ctl isp ords line).length < 1000 := by show 6 < 1000; decide
theorem kf_grp : putF "_groups" v (kf nm pins ctl isp ords line) = kf nm pins ctl isp ords line ++ [(("_groups" : Str), v)] := by kernel_rfl
theorem kf_rul : putF "_rules" v (kf nm pins ctl isp ords line) = kf nm pins ctl isp ords line ++ [(("_rules" : Str), v)] := by kernel_rfl
theorem kf_name' (r : List (Str × V)) : (kf nm pins ctl isp ords line ++ r).lookup ("name" : Str) = some nm := by kernel_rfl
theorem kf_pins' (r : List (Str × V)) : (kf nm pins ctl isp ords line ++ r).lookup ("pins" : Str) = some pins := by kernel_rfl
theorem kf_ctl' (r : List (Str × V)) : (kf nm pins ctl isp ords line ++ r).lookup ("controls" : Str) = some ctl := by kernel_rfl
theorem kf_isp' (r : List (Str × V)) : (kf nm pins ctl isp ords line ++ r).lookup ("is_path" : Str) = some isp := by kernel_rfl
theorem kf_ords' (r : List (Str × V)) : (kf nm pins ctl isp ords line ++ r).lookup ("orders" : Str) = some ords := by kernel_rfl
theorem kf_line' (r : List (Str × V)) : (kf nm pins ctl isp ords line ++ r).lookup ("_line" : Str) = some line := by kernel_rfl
theorem kf_rul' : (kf nm pins ctl isp ords line ++ [(("_rules" : Str), v)]).lookup ("_rules" : Str) = some v := by kernel_rfl
theorem kf_dir : (kf nm pins ctl isp ords line).lookup ("DIRECTED" : Str) = none := by kernel_rfl
theorem kf_dirR : (kf nm pins ctl isp ords line ++ [(("_rules" : Str), v)]).lookup ("DIRECTED" : Str) = none := by kernel_rfl
theorem kf_dirG : (kf nm pins ctl isp ords line ++ [(("_groups" : Str), v)]).lookup ("DIRECTED" : Str) = none := by kernel_rfl
end
/-- an instance in making: all else stands, its fields are fs -/
structure Mkg (p C dx : Addr) (H G : Hp) (fs : List (Str × V)) : Prop where
  sm : SameX p H G
  at_ : G p = some (.ins C dx fs)
theorem Mkg.new {p C dx t : Addr} {H G : Hp} {fs : List (Str × V)} {o : HO} (m : Mkg p C dx H G fs) (n : G t = none) : Mkg p C dx H (upd G t o) fs :=
  ⟨fun b u nb e => by rw [upd_ne (ne_of_none (m.sm b u nb e) n)]; exact m.sm b u nb e, by rw [upd_ne (ne_of_none m.at_ n)]; exact m.at_⟩
theorem Mkg.put {p C dx : Addr} {H G : Hp} {fs fs' : List (Str × V)} (m : Mkg p C dx H G fs) : Mkg p C dx H (upd G p (.ins C dx fs')) fs' :=
  ⟨fun b u nb e => by rw [upd_ne nb]; exact m.sm b u nb e, upd_same⟩
theorem Mkg.same {p C dx : Addr} {H G G' : Hp} {fs : List (Str × V)} (m : Mkg p C dx H G fs) (s : Same G G') : Mkg p C dx H G' fs := ⟨fun b u nb e => s _ _ (m.sm b u nb e), s _ _ m.at_⟩
theorem Mkg.start {p C dx : Addr} {H : Hp} {fs : List (Str × V)} (h : H p = some (.ins C dx fs)) : Mkg p C dx H H fs := ⟨SameX.refl _ _, h⟩
theorem pl {k : Str} {v : V} {n : Nat} : ∀ {l : List (Str × V)}, l.length ≤ n → (putF k v l).length ≤ n + 1
  | [], h => by show 1 ≤ n + 1; omega
  | (x, u) :: r, h => by
    unfold putF
    split
    · simp only [List.length_cons] at h ⊢; omega
    · have := pl (k := k) (v := v) (n := n - 1) (l := r) (by simp only [List.length_cons] at h; omega)
      simp only [List.length_cons] at h ⊢; omega
theorem p0 : ([] : List (Str × V)).length ≤ 0 := Nat.le_refl _
theorem plt {l : List (Str × V)} {n : Nat} (h : l.length ≤ n) (hn : n < 1000 := by decide) : l.length < 1000 := Nat.lt_of_le_of_lt h hn
theorem put_ne {G : Hp} {p t C dx : Addr} {o : HO} {fs : List (Str × V)} (h : G t = some o) (hp : G p = some (.ins C dx fs)) (no : ∀ C dx fs, o ≠ .ins C dx fs) {u : HO} : upd G p u t = some o := by
  rw [upd_ne (fun z => by rw [z, hp] at h; exact no _ _ _ (Option.some.inj h).symm)]
  exact h
theorem app_len (a b : Str) : (a ++ b).length = a.length + b.length := Str.length_append a b
theorem len0 : Str.empty.length = 0 := by decide +kernel
def kindT (x : Str) : Str := (Str.empty ++ "kind ") ++ x
section
variable {P : Program} {w : World} {K : PySem.W.Frag} {mg : Str → Option Value} {base : Heap} {CN fCN : Addr}
def spKI (K : PySem.W.Frag) (CN : Addr) : Sp := fun vs H Q E => ∃ (p dx C : Addr) (v : V), vs = [.ref p, v] ∧ H p = some (.ins C dx []) ∧ KCls K C ∧ Av H v ∧ Shr v ∧
  ((wdV v = false ∧ ∀ d H', SameX p H H' → H' d = some (xd v) → E (.ref CN) (some d) H') ∨
   (∃ x, v = .str x ∧ wd x = true ∧ ∀ H' a1 c a3, SameX p H H' → H' p = some (.ins C dx (kf (.str x) (.ref a1) (.ref c) (.bl false) (.ref a3) (.str (kindT x)))) → H' c = some (.tup []) → Q .non H'))
theorem upd_put {H : Hp} {p C dx : Addr} {a b : List (Str × V)} : upd (upd H p (.ins C dx a)) p (.ins C dx b) = upd H p (.ins C dx b) := by
  funext x
  unfold upd
  split <;> rfl
theorem ok_ki {f : Addr} {fd : FuncData} (F : Fun K "__init__" "Kind.__init__" (sKi 1) f fd) (eN : PySem.Giv.ErrTxt K mg "InvalidName" "InvalidName.__init__" "ValueError.__new__" veT CN fCN) (GW : Glb P w K mg base "is_word" 1 ["value"] spWord) :
    FnOk P w K mg base (L2.CX P w) 3 f fd ["self", "name"] (spKI K CN) := by
  obtain ⟨_, _, mW, kW, GW, bW⟩ := GW.ex
  have sc : FnScope ["self", "name"] ["self", "name"] (defScope (sKi 1)) := ⟨rfl, rfl, rfl, by decide +kernel, rfl, by decide +kernel, by decide +kernel⟩
  have hN := sc.nd
  refine F.okX sc (fun vs H Q E h => ?_) (fun cdv A outer s H vs Q E hr h => ?_)
  · obtain ⟨p, dx, C, v, rfl, _⟩ := h
    rfl
  · obtain ⟨p, dx, C, v, rfl, hp, kc, av, sh, k⟩ := h
    refine ⟨_, pss_cons (ps_if (pt_not (pt_val (pe_call GW (hr.mono (by decide)) (by rfl) mW kW bW .nil passL (pa_cons (pv 1) pa_nil)))) (pss_one (ps_raiseGiv rfl PySem.Giv.ok_VE eN hr (takes_of rfl rfl rfl rfl) (pa_cons (pv 1) pa_nil) (by rfl))) pss_nil)
      (pss_cons (ps_fld (pv 0) (pv 1) rfl)
      (pss_cons (ps_fld (pv 0) (pe_tup pa_nil) rfl)
      (pss_cons (ps_fld (pv 0) (pe_tup pa_nil) rfl)
      (pss_cons (ps_fld (pv 0) pe_bl rfl)
      (pss_cons (ps_fld (pv 0) (pe_tup (pa_cons (pe_tup pa_nil) pa_nil)) rfl)
      (pss_one (ps_fld (pv 0) (pe_joined (.cons pe_str (.cons (pe_fmt (pv 1)) .nil))) rfl))))))), ?_⟩
    refine ⟨_, rfl, v, rfl, av, sh, _, rfl, ?_⟩
    rcases k with ⟨b, k⟩ | ⟨x, rfl, b, k⟩
    · refine if_pos' (by rw [b]; rfl) ⟨_, rfl, _, rfl, fun d hd => ?_⟩
      exact k d _ (fun b u nb e => by rw [upd_ne (ne_of_none e hd)]; exact e) upd_same
    · refine if_neg' (by rw [show wdV (.str x) = wd x from rfl, b]; rfl) ?_
      have xs : x.length ≤ 12 := by
        unfold wd at b
        simp only [Bool.and_eq_true, decide_eq_true_eq] at b
        exact b.1.1.1.1.2
      have few : ∀ fs : List (Str × V), fs.length ≤ 8 → fs.length < 1000 := fun fs h => by omega
      refine ⟨_, rfl, _, rfl, p, C, dx, _, rfl, hp, kc.cl, kc.n1, (by show 0 < 1000; decide), ?_⟩
      have m0 := (Mkg.start hp).put (fs' := putF "name" (.str x) [])
      generalize upd H p (.ins C dx (putF "name" (.str x) [])) = G0 at m0 ⊢
      refine ⟨(by show 0 ≤ sizeLine; exact Nat.zero_le _), fun t1 h1 => ⟨_, rfl, p, C, dx, _, rfl, (m0.new h1).at_, kc.cl, kc.n2, plt (pl p0), ?_⟩⟩
      have m1 := (m0.new h1 (o := .tup [])).put (fs' := putF "pins" (.ref t1) (putF "name" (.str x) []))
      generalize upd (upd G0 t1 (.tup [])) p (.ins C dx (putF "pins" (.ref t1) (putF "name" (.str x) []))) = G1 at m1 ⊢
      refine ⟨(by show 0 ≤ sizeLine; exact Nat.zero_le _), fun t2 h2 => ⟨_, rfl, p, C, dx, _, rfl, (m1.new h2).at_, kc.cl, kc.n3, plt (pl (pl p0)), ?_⟩⟩
      have q2 : (upd G1 t2 (.tup [])) t2 = some (.tup []) := upd_same
      have m2 := m1.new h2 (o := .tup [])
      generalize upd G1 t2 (.tup []) = G2 at m2 q2 ⊢
      have q3 := put_ne q2 m2.at_ (by intro _ _ _ z; cases z) (u := .ins C dx (putF "controls" (.ref t2) (putF "pins" (.ref t1) (putF "name" (.str x) []))))
      have m3 := m2.put (fs' := putF "controls" (.ref t2) (putF "pins" (.ref t1) (putF "name" (.str x) [])))
      generalize upd G2 p (.ins C dx (putF "controls" (.ref t2) (putF "pins" (.ref t1) (putF "name" (.str x) [])))) = G3 at m3 q3 ⊢
      refine ⟨_, rfl, p, C, dx, _, rfl, m3.at_, kc.cl, kc.n4, plt (pl (pl (pl p0))), ?_⟩
      have q4 := put_ne q3 m3.at_ (by intro _ _ _ z; cases z) (u := .ins C dx (putF "is_path" (.bl false) (putF "controls" (.ref t2) (putF "pins" (.ref t1) (putF "name" (.str x) [])))))
      have m4 := m3.put (fs' := putF "is_path" (.bl false) (putF "controls" (.ref t2) (putF "pins" (.ref t1) (putF "name" (.str x) []))))
      generalize upd G3 p (.ins C dx (putF "is_path" (.bl false) (putF "controls" (.ref t2) (putF "pins" (.ref t1) (putF "name" (.str x) []))))) = G4 at m4 q4 ⊢
      refine ⟨(by show 0 ≤ sizeLine; exact Nat.zero_le _), fun t3 h3 => ⟨(by show 1 ≤ sizeLine; decide), fun t4 h4 => ⟨_, rfl, p, C, dx, _, rfl, ((m4.new h3).new h4).at_, kc.cl, kc.n5, plt (pl (pl (pl (pl p0)))), ?_⟩⟩⟩
      have q5 : (upd (upd G4 t3 (.tup [])) t4 (.tup [.ref t3])) t2 = some (.tup []) := same_upd h4 _ _ (same_upd h3 _ _ q4)
      have m5 := (m4.new h3 (o := .tup [])).new h4 (o := .tup [.ref t3])
      generalize upd (upd G4 t3 (.tup [])) t4 (.tup [.ref t3]) = G5 at m5 q5 ⊢
      have q6 := put_ne q5 m5.at_ (by intro _ _ _ z; cases z) (u := .ins C dx (putF "orders" (.ref t4) (putF "is_path" (.bl false) (putF "controls" (.ref t2) (putF "pins" (.ref t1) (putF "name" (.str x) []))))))
      have m6 := m5.put (fs' := putF "orders" (.ref t4) (putF "is_path" (.bl false) (putF "controls" (.ref t2) (putF "pins" (.ref t1) (putF "name" (.str x) [])))))
      generalize upd G5 p (.ins C dx (putF "orders" (.ref t4) (putF "is_path" (.bl false) (putF "controls" (.ref t2) (putF "pins" (.ref t1) (putF "name" (.str x) [])))))) = G6 at m6 q6 ⊢
      have line : 1000 ≤ sizeLine := by decide
      refine ⟨("kind " : Str), rfl, ?_, _, rfl, .inl ⟨x, rfl, by omega, x, rfl, ?_, _, rfl, p, C, dx, _, rfl, m6.at_, kc.cl, kc.n6, plt (pl (pl (pl (pl (pl p0))))), ?_⟩⟩
      · rw [app_len, len0]
        exact Nat.le_trans (by decide +kernel : 0 + (Str.ofString "kind ").length ≤ 1000) line
      · rw [app_len, app_len, len0, show (Str.ofString "kind ").length = 5 by decide +kernel]
        omega
      · have e := kf_put0 (.str x) (.ref t1) (.ref t2) (.bl false) (.ref t4) (.str (kindT x))
        have m7 := m6.put (fs' := kf (.str x) (.ref t1) (.ref t2) (.bl false) (.ref t4) (.str (kindT x)))
        have q7 := put_ne q6 m6.at_ (by intro _ _ _ z; cases z) (u := .ins C dx (kf (.str x) (.ref t1) (.ref t2) (.bl false) (.ref t4) (.str (kindT x))))
        rw [← e] at m7 q7
        have z := k _ t1 t2 t4 m7.sm (by rw [← e]; exact m7.at_) q7
        exact z
end
end R50
end

-- Y5e
section
set_option Elab.async false
set_option linter.all false
set_option maxRecDepth 100000
set_option exponentiation.threshold 10000
namespace R50
open PySem L2 OwnOps OwnNe G1 StX
def worded (ws : List Str) (tail : Str) : Str := Txt.join " " (if tail.length = 0 then ws else ws ++ [(":" : Str), tail])
def size (ws : List Str) : Nat := (ws.map (·.length)).sum
section
variable {P : Program} {w : World} {K : PySem.W.Frag} {mg : Str → Option Value} {base : Heap}
def spWrd (K : PySem.W.Frag) : Sp := fun vs H Q _ => ∃ a ws tail, vs = [.ref a, .str tail] ∧ SqL K H a (ws.map V.str) ∧ ws.length ≤ 1000 ∧ size ws ≤ 100000 ∧ tail.length ≤ 100000 ∧ ∀ H', Same H H' → Q (.str (worded ws tail)) H'
theorem ok_wrd {f : Addr} {fd : FuncData} (F : Fun K "_worded" "_worded" sWrd f fd) : FnOk P w K mg base (L2.CX P w) 1 f fd ["words", "tail"] (spWrd K) := by
  have sc : FnScope ["words", "tail"] ["words", "tail"] (defScope sWrd) := ⟨rfl, rfl, rfl, by decide +kernel, rfl, by decide +kernel, by decide +kernel⟩
  refine F.okX sc (fun vs H Q E h => ?_) (fun cdv A outer s H vs Q E hr h => ?_)
  · obtain ⟨a, ws, tail, rfl, _⟩ := h
    rfl
  · obtain ⟨a, ws, tail, rfl, hS, n1, n2, n3, fin⟩ := h
    refine ⟨_, pss_one (ps_ret (pe_join pe_str (pe_ifExp (pt_truth (pv 1) (fun _ => rfl)) (pe_lst (pa_star (pv 0) (pa_cons pe_str (pa_cons (pv 1) pa_nil)))) (pv 0)))), ?_⟩
    have one : (Str.ofString " ").length = 1 := by decide +kernel
    have line : sizeLine = 16777216 := by decide
    refine ⟨⟨_, rfl⟩, _, rfl, _, ⟨by omega, rfl⟩, ?_⟩
    by_cases h0 : tail.length = 0
    · refine if_neg' (by rw [h0]; rfl) ⟨_, rfl, " ", a, ws, rfl, rfl, .inl hS, ?_, ?_⟩
      · unfold size at n2
        rw [one]
        omega
      · have z := fin H (Same.refl H)
        unfold worded at z
        rw [if_pos h0] at z
        exact z
    · refine if_pos' (by simp [h0]) ⟨_, rfl, a, _, rfl, .inr hS, _, rfl, ?_, fun p hp => ?_⟩
      · simp only [List.length_append, List.length_map, List.length_cons, List.length_nil]; omega
      · have e : ws.map V.str ++ [V.str ":", V.str tail] = (ws ++ [(":" : Str), tail]).map V.str := by rw [List.map_append]; rfl
        refine ⟨" ", p, ws ++ [(":" : Str), tail], rfl, rfl, .inl (SqL.of ?_), ?_, ?_⟩
        · rw [← e]
          exact upd_same
        · unfold size at n2
          rw [one, List.map_append, List.sum_append, List.length_append]
          simp only [List.map_cons, List.map_nil, List.sum_cons, List.sum_nil, List.length_cons, List.length_nil]
          rw [show (Str.ofString ":").length = 1 by decide +kernel]
          omega
        · have z := fin _ (same_upd hp (o := .lst (ws.map V.str ++ [V.str ":", V.str tail])))
          unfold worded at z
          rw [if_neg h0] at z
          exact z
end
end R50
end

-- SupX3
section
set_option Elab.async false
set_option linter.all false
set_option maxRecDepth 100000
set_option maxHeartbeats 2000000
/-! defs def f(self, name, *v, k = d): what they promise for positional arguments and keywords; making instances by them. -/
namespace SupX
open PySem PySem.Spec PyProof.Rows L2 StX
abbrev SpA := List V → List (Str × V) → Hp → VK → XK → Prop
/-- a def's promise, called with positional arguments and keywords -/
def FnA (P : Program) (w : World) (K : PySem.W.Frag) (mg : Str → Option Value) (base : Heap) (CX : CXT) (k : Nat) (f : Addr) (sp : SpA) : Prop :=
  ∀ (A : Around) (outer : List Env) (s : Shared) (H : Hp) (us : List Value) (vs : List V) (ks : List Str) (ws : List Value) (zs : List V) (Q : VK) (E : XK), Room k A → Env0 P w K mg base A outer s H → Vals vs us → Vals zs ws → zs.length = ks.length → sp vs (ks.zip zs) H Q E →
    codeAny (model P w) A (.call (.ref f) ⟨us, ks.zip ws⟩) (CR CX outer P w H s Q E) s
section
variable {P : Program} {w : World} {K : PySem.W.Frag} {mg : Str → Option Value} {base : Heap} {CX : CXT} {j k : Nat} {f : Addr} {sp sp' : SpA}
theorem FnA.mono (F : FnA P w K mg base CX j f sp) (h : j ≤ k) : FnA P w K mg base CX k f sp := fun A outer s H us vs ks ws zs Q E hr => F A outer s H us vs ks ws zs Q E (hr.mono h)
theorem FnA.imp (F : FnA P w K mg base CX k f sp) (h : ∀ vs kv H Q E, sp' vs kv H Q E → sp vs kv H Q E) : FnA P w K mg base CX k f sp' := fun A outer s H us vs ks ws zs Q E hr e0 r rz l hs => F A outer s H us vs ks ws zs Q E hr e0 r rz l (h _ _ _ _ _ hs)
theorem FnA.pos (F : FnA P w K mg base CX k f sp) : FnR P w K mg base CX k f (fun vs H Q E => sp vs [] H Q E) := fun A outer s H us vs Q E hr e0 r hs => F A outer s H us vs [] [] [] Q E hr e0 r .nil rfl hs
end
/-- how the arguments come in: the written ones, the keyword-only ones by gV, what is left over -/
def BindA (K : PySem.W.Frag) (fd : FuncData) (p1 p2 : Str) (kn : List Str) (pv : Str) (okK : List (Str × V) → Prop) (gV : List (Str × V) → List V) : Prop :=
  ∀ (ks : List Str) (ws : List Value) (zs : List V), Vals zs ws → zs.length = ks.length → okK (ks.zip zs) → ∃ cs : List Value, Vals (gV (ks.zip zs)) cs ∧ (gV (ks.zip zs)).length = kn.length ∧
    ∀ (M : Model) (A : Around) (s : Shared) (a b : Value) (rest : List Value) (Q : List (Str × Value) → Shared → Prop) (E : Value → Shared → Prop), K.In s.heap →
      wpAny M A (newTuple rest >>= fun t => pure ((p1 :: p2 :: kn ++ [pv]).zip (a :: b :: cs ++ [t]))) Q E s → wpAny M A (bindArgs fd ⟨a :: b :: rest, ks.zip ws⟩) Q E s
section
variable {CX : CXT} {P : Program} {w : World} {K : PySem.W.Frag} {mg : Str → Option Value} {base : Heap} {k : Nat} {f cda cc D : Addr} {name qual : Str} {params : Arguments} {body : List Stmt} {scope : Scope} {dV kV doc pm ct oc : Value} {an od : Option Addr} {cl : Value} {cld : Option Addr} {csl : Array (Option Value)}
  {osl : Array (Option Value)} {N kn : List Str} {p1 p2 pv : Str} {sp : Sp} {okK : List (Str × V) → Prop} {gV : List (Str × V) → List V}
theorem fnA_S (lk : K.lookup f = some ⟨oc, od, .func (PySem.W.ksFn name qual params body scope dV kV doc pm an (.ref cda) ct cc), osl⟩) (hcd : PySem.W.codeIn K (.ref cda) qual = true) (S : SScope N (p1 :: p2 :: kn ++ [pv]) scope) (hcc : K.lookup cc = some ⟨cl, cld, .cell (some (.ref D)), csl⟩) (hCX : CXUp CX)
    (hb : BindA K (PySem.W.ksFn name qual params body scope dV kV doc pm an (.ref cda) ct cc) p1 p2 kn pv okK gV)
    (hbody : ∀ (A : Around) (outer : List Env) (s : Shared) (H : Hp) (vs : List V) (Q : VK) (E : XK), Room k (A.deeper (envS qual scope s.heap.objs.size f cda cc)) → sp vs H Q E →
      ∃ t, PSsA (cxS CX P w K mg base N qual scope f cda cc A outer s H E) (.func body (envS qual scope s.heap.objs.size f cda cc)) body t ∧ t { nx := fun _ H' => Q .non H', rt := Q } (L2.start N vs) H) :
    FnA P w K mg base CX (k + 1) f (fun vs kv H Q E => ∃ a b rest, vs = a :: b :: rest ∧ okK kv ∧ rest.length ≤ sizeLine ∧ ∀ p, H p = Option.none → sp (a :: b :: gV kv ++ [V.ref p]) (upd H p (.tup rest)) Q E) := by
  intro A outer s H us vs ks ws zs Q E hr e0 r rz lz hsp
  obtain ⟨a, b, rest, ev, ok, hz, hq⟩ := hsp
  subst ev
  cases r with
  | cons ra r =>
  cases r with
  | @cons _ ub _ u2 rb r2 =>
  rename_i ua
  obtain ⟨cs, rc, lc, hbind⟩ := hb ks ws zs rz lz ok
  have KX : K.In s.heap := e0.mod.kin.keeps fun b o e => (e0.bs b o e).1
  have hn : H s.heap.objs.size = Option.none := e0.hok.fresh (Nat.le_refl _)
  have hl2 : u2.length ≤ sizeLine := by rw [← r2.length]; exact hz
  refine run_bndS lk hcd S hcc hr e0 (G := fun xs H2 => ∃ p, H p = Option.none ∧ xs = a :: b :: gV (ks.zip zs) ++ [V.ref p] ∧ H2 = upd H p (.tup rest)) (fun A' Ex Q' h => ?_) fun s2 H2 xs ⟨p, hp, ex, eH⟩ hr' => ?_
  · refine hbind _ _ _ _ _ _ _ _ KX ?_
    refine wpAny_bind (wpAny_newTuple (wpAny_pure ?_) hl2)
    have new : ObjOk P w (upd H s.heap.objs.size (.tup rest)) (s.heap.push ({ cls := .type "tuple", data := .seq u2.toArray } : Obj)) s.heap.objs.size (.tup rest) := ⟨hz, u2, r2, ⟨_, Heap.get?_push_size _ rfl, rfl, _, rfl⟩⟩
    have un := un_laid (fs := frs outer) (s := s) (o := ({ cls := .type "tuple", data := .seq u2.toArray } : Obj)) (u := .tup rest) hn
    exact h _ _ (a :: b :: gV (ks.zip zs) ++ [V.ref s.heap.objs.size]) (ua :: ub :: cs ++ [Value.ref s.heap.objs.size]) (env0_laid e0 new) un rfl (fun e s' => hCX outer s H _ _ E e s' un (fun b o q => Heap.get?_push_of_some _ q) rfl) (.cons ra (.cons rb (rc.append (.cons rfl .nil))))
      (by simp only [List.length_append, List.length_cons, List.length_nil, lc]) ⟨_, hn, rfl, rfl⟩
  · subst ex eH
    exact hbody A outer s2 _ _ Q E hr' (hq p hp)
end
/-! ### making by such an __init__ -/
def tMakeA (C : Addr) (ks : List Str) (sp : SpA) (E : XK) (t tk : TA) : TE := fun σ H Q => t σ H fun vs H1 => tk σ H1 fun zs H2 => zs.length = ks.length ∧ ∀ x dx, H2 x = none → H2 dx = none → dx ≠ x →
  sp (.ref x :: vs) (ks.zip zs) (upd (upd H2 dx (.own x)) x (.ins C dx [])) (fun v H3 => v = .non ∧ Q (.ref x) H3) E
section
variable {X : Cx} {CX : CXT} {k : Nat} {f C : Addr} {ks : List Str} {sp : SpA} {E : XK} {x : Str} {p pos : Pos} {e : Expr} {es : List Expr} {kws : List Keyword} {t tk : TA}
theorem run_makeA {pins : List (Addr × Obj)} {σ : L2.St} {H : Hp} {s : Shared} {Q : VK} {us ws : List Value} {vs zs : List V} (M : Mk X.K C f) (F : FnA X.prog X.w X.K X.mg X.base CX k f sp) (hr : Room (k + 1) X.A) (hx : Passes CX X E)
    (I : Inv X pins σ H s) (r : Vals vs us) (rz : Vals zs ws) (l2 : zs.length = ks.length)
    (h : ∀ x dx, H x = none → H dx = none → dx ≠ x → sp (.ref x :: vs) (ks.zip zs) (upd (upd H dx (.own x)) x (.ins C dx [])) (fun v H2 => v = .non ∧ Q (.ref x) H2) E) :
    wpAny (model X.prog X.w) X.A (call (.ref C) us (ks.zip ws)) (EP X pins σ Q) X.xe s := by
  have hq := h (s.heap.objs.size + 1) s.heap.objs.size (I.hok.fresh (Nat.le_succ _)) (I.hok.fresh (Nat.le_refl _)) (Nat.ne_of_lt (Nat.lt_succ_self _))
  have I2 := Inv.made (C := C) I
  refine wpAny_call (make_map (f := f) I.kIn M.makes M.init (beq_iff_eq.mp M.fn) (codeAny_mono (F _ X.stack _ _ (Value.ref (s.heap.objs.size + 1) :: us) (V.ref (s.heap.objs.size + 1) :: vs) ks ws zs _ E (hr.make C us (ks.zip ws)) (I2.env0.make C us (ks.zip ws)) (.cons rfl r) rz l2 hq) fun r s' hq' => ?_))
  cases r with
  | error e => exact hx pins σ _ _ e s' I2 hq'
  | ok fl =>
    cases fl with
    | ret u =>
      obtain ⟨v, H', I3, rv, ev, q3⟩ := I2.after hq'
      subst ev
      exact ⟨rv, ⟨V.ref (s.heap.objs.size + 1), H', I3, rfl, q3⟩⟩
    | next => exact False.elim hq'
    | brk => exact False.elim hq'
    | cont => exact False.elim hq'
/-- C(e, ..) -/
theorem pe_makeA0 (M : Mk X.K C f) (F : FnA X.prog X.w X.K X.mg X.base CX k f sp) (hr : Room (k + 1) X.A) (hg : Gl X x) (hm : X.mg x = some (.ref C)) (hx : Passes CX X E) (ha : PA X (e :: es) t)
    (hdb : (x == ("__debug__" : Str)) = false := by decide) (he : starEach (e :: es) X.env = (false, eval e X.env) :: starEach es X.env := by rfl) (hpl : (backTo pos (starEach es X.env)).any (·.1) = false := by rfl) :
    PE X (.Call (.Name x p) (e :: es) [] pos) (tMakeA C [] sp E t tNil) := by
  refine ⟨fun pins s σ H Q I h => ?_⟩
  refine wpAny_Call_Name_kw (ld_glob I hg hm ?_ hdb)
  refine PySem.W.callWith_K (h₀ := X.base) I.ok.mod.kin M.kp (thn (ha.run pos pins s σ H _ I h) fun us s1 ⟨vs, H1, I1, r, q⟩ => ⟨I1.kIn, ?_⟩) he hpl
  exact run_makeA (ks := []) (ws := []) M F hr hx I1 r .nil q.1 q.2
/-- C(e, .., k = v, ..) -/
theorem pe_makeA (M : Mk X.K C f) (F : FnA X.prog X.w X.K X.mg X.base CX k f sp) (hr : Room (k + 1) X.A) (hg : Gl X x) (hm : X.mg x = some (.ref C)) (hx : Passes CX X E) (ha : PA X (e :: es) t) (hkw : PK X kws tk)
    (hall : (backToKw pos (keywordEach kws X.env)).all (·.1.isSome) = true := by rfl) (hks : (backToKw pos (keywordEach kws X.env)).filterMap (·.1) = ks := by rfl) (hdb : (x == ("__debug__" : Str)) = false := by decide)
    (he : starEach (e :: es) X.env = (false, eval e X.env) :: starEach es X.env := by rfl) (hpl : ((backTo pos (starEach (e :: es) X.env)).any (·.1) || (backToKw pos (keywordEach kws X.env)).any (·.1.isNone)) = false := by rfl) :
    PE X (.Call (.Name x p) (e :: es) kws pos) (tMakeA C ks sp E t tk) := by
  refine ⟨fun pins s σ H Q I h => ?_⟩
  refine wpAny_Call_Name_kw (ld_glob I hg hm ?_ hdb)
  refine PySem.W.callWith_KW (h₀ := X.base) I.ok.mod.kin M.kp hall (thn (ha.run pos pins s σ H _ I h) fun us s1 ⟨vs, H1, I1, r, q⟩ => ?_) hpl he
  refine thn (hkw.run pos pins s1 σ H1 _ I1 q) fun ws s2 ⟨zs, H2, I2, rz, l2, q2⟩ => ⟨I2.kIn, ?_⟩
  rw [hks]
  exact run_makeA M F hr hx I2 r rz l2 q2
end
end SupX
end

-- SupX4
section
set_option Elab.async false
set_option linter.all false
set_option maxRecDepth 100000
set_option maxHeartbeats 2000000
/-! super().m(e, *y) ahead in a def. -/
namespace SupX
open PySem PySem.Spec PyProof.Rows L2 StX
section
open PySem.W
variable {prog : Program} {w : World} {M : Model} {A : Around} {E : Value → Shared → Prop} {h : Heap} {g : Array GenState} {d : Drawn} {t : Nat} {os : OsState}
theorem getAttr_super {so D x C f : Addr} {of : Obj} {l₀ l : List Value} {K : Frag} {name : Str} {Q : Value → Shared → Prop}
    (hso : h.get? so = some { cls := .type "super", dict := none, data := .fields #[.ref D, .ref x, .ref C], slots := #[] }) (hno : Looks (model prog w) h (opaqueClassAbove (.ref C)) none)
    (hC : Looks (model prog w) h (mroOf (.ref C)) l₀) (hl : (l₀.dropWhile (· != .ref D)).drop 1 = l) (X : K.In h)
    (hf : alongIn K name l = some (some (.ref f))) (hfo : h.get? f = some of) (hfc : of.cls = .type "function") (hxC : x ≠ C) (hn : (name == ("__class__" : Str)) = false)
    (hq : Q (.ref h.objs.size) ⟨h.push { cls := .type "method", data := .fields #[.ref f, .ref x] }, g, d, t + 1, os⟩) :
    wpAny (model prog w) A (getAttr (.ref so) name true) Q E ⟨h, g, d, t, os⟩ := by
  have hlk := F.ks_slot_super_ga.lookup
  have hcan := F.ks_canon_super_ga
  have hT : ∀ t', (⟨h, g, d, t', os⟩ : Shared).TypeIs (.ref so) "super" := fun _ => ⟨_, hso, rfl⟩
  unfold getAttr getAttrBy
  refine wpAny_bind (wpAny_mkText (wpAny_holding (wpAny_bind (wpAny_typeOf (hT _) (wpAny_bind (wpAny_of_eq hlk ?_))))))
  show wpAny _ _ (getAttrByItsOwn (.ref so) (.str name t) (.type "super") (.builtin "super.__getattribute__") true _) _ _ _
  unfold getAttrByItsOwn hookBefore callGetattribute boundAndCalled
  refine wpAny_bind (wpAny_of_eq (show (if onTheHeap (.type "super") then typeLookup (.type "super") "__getattr__" else pure none) = pure none from rfl) ?_)
  refine wpAny_bind (wpAny_attempt (wpAny_holding ?_))
  show wpAny _ _ (bindSpecial (.builtin "super.__getattribute__") (.ref so) >>= _) _ _ _
  refine wpAny_bind (wpAny_of_eq (F.ks_slot_super_ga.bind _) ?_)
  refine wpAny_mono (Q := fun v s' => v = .ref h.objs.size ∧ s' = ⟨h.push { cls := .type "method", data := .fields #[.ref f, .ref x] }, g, d, t + 1, os⟩) (E := fun _ _ => False)
    (wpAny_call_entry F.ks_slot_super_ga (hT _) F.ks_entry_super_ga (ks_wpAny_super_ga hso hno hC hl X hf hfo hfc hxC hn ⟨_, rfl, rfl, rfl⟩) (F.ks_gaArgs_super _ _)) (fun v s' hv => ?_) fun _ _ z => z.elim
  obtain ⟨rfl, rfl⟩ := hv
  exact wpAny_pure hq
end
theorem wpAt_MethS {M : Model} {A : Around} {c : Code} {E : Value → Shared → Prop} {s : Shared} {env : Env} {o e1 e2 : Expr} {m : Str} {p apos pos : Pos} {Q : Value → Shared → Prop}
    (hst : starEach [e1, .Starred e2 p] env = [(false, eval e1 env), (true, eval e2 env)])
    (h : PySem.wpAt M A c (attributeBase o m env (eval o env)) (fun ov s₁ => wpAny M A (getAttr ov m true) (fun f s₂ => wpAny M A (callWith pos f [] (backTo pos [(false, eval e1 env), (true, eval e2 env)]) []) Q E s₂) E s₁) E s) :
    PySem.wpAt M A c (eval (.Call (.Attribute o m apos) [e1, .Starred e2 p] [] pos) env) Q E s := by
  have hke : backToKw pos (keywordEach [] env) = [] := rfl
  have hform : methodCallForm ([e1, Expr.Starred e2 p].length + ([] : List Keyword).length) (backTo pos [(false, eval e1 env), (true, eval e2 env)]) [] = false := rfl
  have hpos : methodCallPos false o env apos pos = pure pos := rfl
  have hcal : ∀ ov, calleeOf false o env ov m = (getAttr ov m true >>= fun v => pure (v, [])) := fun _ => rfl
  rw [arm_eval_Call, hst, hke]
  refine PySem.wpAt_bind (PySem.ks_wpAt_mono h (fun ov s₁ h₁ => PySem.wpAt_of_wpAny ?_) fun _ _ x => x)
  refine wpAny_bind (wpAny_standAt ?_)
  unfold methodCall
  rw [hform, hpos, hcal]
  refine wpAny_bind (wpAny_holding (wpAny_bind (wpAny_mono h₁ (fun f s₂ h₂ => wpAny_pure ?_) fun _ _ x => x)))
  exact wpAny_bind (wpAny_pure h₂)
section
variable {X : Cx} {CX : CXT} {k j : Nat} {f cda cc D g : Addr} {qual m p1 : Str} {scope : Scope} {L : Addr} {sp : Sp} {E : XK} {t : TA} {rest : TS} {code : List Stmt} {es : List Expr} {ss : List Stmt} {N ps : List Str}
theorem psA_supS {q0 q1 q2 q3 q4 sp_ : Pos} {e1 e2 : Expr} (he : X.env = envS qual scope L f cda cc) (S : SScope N ps scope) (hN : X.N[0]? = some p1) (hl : scope.names.lookup p1 = some .local) (SD : SupDef X.K X.prog f cda cc D g p1) (hm : (m == ("__class__" : Str)) = false) (F : FnR X.prog X.w X.K X.mg X.base CX k g sp) (hr : Room k X.A) (hx : Passes CX X E)
    (ha : PA X [e1, .Starred e2 sp_] t) (hA : ArgsOk X [e1, .Starred e2 sp_]) (hrest : PSs X ss rest) (hst : starEach [e1, .Starred e2 sp_] X.env = [(false, eval e1 X.env), (true, eval e2 X.env)] := by rfl) :
    PSsA X (.func code X.env) (.Expr (.Call (.Attribute (.Call (.Name "super" q0) [] [] q1) m q2) [e1, .Starred e2 sp_] [] q3) q4 :: ss) (tSup (fun C => SupAt X.K C D m g) sp E t rest) := by
  intro pins s σ H De I q
  obtain ⟨x, C, dx, fs, hσ, hx0, so, q⟩ := q
  obtain ⟨_, _, fd, _, ar, lkf, har, ear⟩ := SD.fn
  obtain ⟨_, _, vsC, _, file, tf, lkc, hvs, hfile⟩ := SD.code
  obtain ⟨_, _, _, lkcc⟩ := SD.cell
  obtain ⟨cdD, hD⟩ := Option.isSome_iff_exists.mp SD.cls
  obtain ⟨cdC, hC⟩ := Option.isSome_iff_exists.mp so.cls
  obtain ⟨od, J⟩ := OwnOps.inst_at I hx0
  have XK := I.kIn
  have hsc : X.env.scope = scope := by rw [he]
  obtain ⟨oD, hD1, hD2⟩ : ∃ oD, s.heap.get? D = some oD ∧ oD.data = .cls cdD := by
    unfold PySem.W.clsIn at hD
    split at hD
    · rename_i c d cd' sl ho
      cases hD
      exact ⟨_, XK _ _ ho, rfl⟩
    · cases hD
  have hkS : X.env.kindOf "super" = some .globalImplicit := by
    rw [he]; exact S.sup
  have hkC : X.env.kindOf kC = some .free := by
    rw [he]; exact S.has
  have hce : X.env.cells.lookup kC = some cc := by
    rw [he]
    show (cellsFrom (L + 1) scope.names [] ++ [(kC, cc)]).lookup kC = _
    have ncl : (cellsFrom (L + 1) scope.names []).lookup kC = none := by
      cases q : (cellsFrom (L + 1) scope.names []).lookup kC with
      | none => rfl
      | some c =>
        rcases cell_mem (PySem.mem_of_lookup q) with z | z
        · cases z
        · cases S.once _ z rfl
    rw [lookup_app_none ncl]
    simp [List.lookup]
  have hloc : ∃ mL, s.heap.Ns X.env.locals mL ∧ mL p1 = some (.ref x) := by
    obtain ⟨mL, h1, h2⟩ := I.loc
    obtain ⟨u, ru, lk⟩ := h2 0 p1 (.ref x) hN hσ (.inl (by rw [hsc]; exact hl))
    cases (show u = Value.ref x from ru)
    rcases lk with ⟨_, z⟩ | ⟨z, _⟩
    · exact ⟨mL, h1, z⟩
    · exfalso
      have e : X.env.kindOf p1 = some .local := by rw [he]; exact hl
      rw [e] at z
      rcases z with z | z <;> cases z
  obtain ⟨mL, hns, hself⟩ := hloc
  have hkind := I.ok.kind
  have hgl : s.heap.Ns X.env.globals X.mg := by
    rw [I.ok.glob]
    exact I.mod.glob.keeps I.bk
  obtain ⟨mb, hmb, hbb⟩ := I.mod.blt
  have hbl : s.heap.Ns X.env.builtins mb := by
    rw [I.ok.blt]
    exact hmb.keeps I.bk
  have hmgS : X.mg "super" = none := PySem.W.mg_none_of I.mod.kin I.mod.glob SD.sup
  refine PySem.ks_wpAt_execs_cons (PySem.ks_wpAt_Expr_any (wpAt_MethS hst ?_) I.quiet)
  refine PySem.ks_wpAt_super_base (f := f) (cc := cda) (ar := ar) (fd := fd) (vs := vsC) (file := file) (tf := tf) hkS hkC hm (by rw [he]) (XK _ _ lkf) rfl har (by rw [he]) (XK _ _ lkc) rfl hvs hfile SD.top ?_
  refine PySem.W.ks_loadName_global hkind hkS (PySem.Calls.loadGlobal_builtin hgl hmgS hbl ((hbb _ (by decide +kernel)).trans (show bootBuiltins "super" = some (.type "super") by first | rfl | kernel_rfl)) ⟨rfl, ?_⟩)
  refine wpAny_loadName_free hkind hkC hce ⟨_, XK _ _ lkcc, rfl⟩ ?_
  rw [ear]
  refine wpAny_loadName_local hkind (by rw [he]; exact hl) hns hself ?_
  refine PySem.ks_wpAny_isType_cls hD1 hD2 ⟨rfl, ?_⟩
  refine PySem.ks_wpAny_call_super hD1 hD2 J.at_ J.cls (fun c e => ?_) (PySem.W.looks_mroIn XK so.sub) (fun h' e kp => ?_)
  · have := J.no
    unfold PySem.W.notCls at this
    rw [e] at this
    exact Bool.noConfusion this
  · obtain ⟨hh, g0, d0, t0, os0⟩ := s
    dsimp only at e kp
    have Xh : X.K.In h' := fun b o q => kp b o (XK b o q)
    have htg : ∃ og, h'.get? g = some og ∧ og.cls = .type "function" := by
      have z : (X.K.lookup g).map (·.cls) = some (.type "function") := SD.tg
      cases q : X.K.lookup g with
      | none => rw [q] at z; cases z
      | some og => rw [q] at z; exact ⟨og, Xh _ _ q, Option.some.inj z⟩
    obtain ⟨og, hog, cog⟩ := htg
    have hal : PySem.W.alongIn X.K m ((cdC.mro.dropWhile (· != .ref D)).drop 1) = some (some (.ref g)) := by
      have z := so.at_
      unfold PySem.W.ks_superIn at z
      rw [hC] at z
      exact z
    refine getAttr_super (D := D) (x := x) (C := C) (f := g) (of := og) (K := X.K) (l₀ := cdC.mro) (l := (cdC.mro.dropWhile (· != .ref D)).drop 1) e (PySem.W.looks_opaque Xh SD.any) ?_ rfl Xh hal hog cog (PySem.W.ks_ne XK J hC) hm ?_
    · exact fun A Q E s k q => wpAny_bind ((PySem.W.looks_clsIn Xh hC) A _ E s k (wpAny_pure q))
    · have kp2 : ∀ b u, hh.get? b = some u → (h'.push { cls := .type "method", data := .fields #[.ref g, .ref x] }).get? b = some u := fun b u q => Heap.get?_push_of_some _ (kp b u q)
      have I2 : Inv X pins σ H ⟨h'.push { cls := .type "method", data := .fields #[.ref g, .ref x] }, g0, d0, t0 + 1, os0⟩ := Inv.kept (s := ⟨hh, g0, d0, t0, os0⟩) I kp2
      have I1 : Inv X pins σ H ⟨h', g0, d0, t0 + 1, os0⟩ := Inv.kept (s := ⟨hh, g0, d0, t0, os0⟩) I kp
      have fr : H h'.objs.size = none := I1.fresh
      have nl : h'.objs.size ≠ X.env.locals := Nat.ne_of_gt I1.lt
      have nf : h'.objs.size ∉ X.fs := I1.nofs (Nat.le_refl _)
      have I3 : Inv X ((h'.objs.size, PySem.W.methodObj (.ref g) (.ref x)) :: pins) σ H ⟨h'.push { cls := .type "method", data := .fields #[.ref g, .ref x] }, g0, d0, t0 + 1, os0⟩ := I2.pins_of fun p hp => by
        rcases List.mem_cons.mp hp with rfl | hp
        · exact ⟨Heap.get?_push_at rfl rfl, fr, nl, nf, fun v z => by cases z⟩
        · exact I2.pin p (List.mem_append_right _ hp)
      rw [← hst]
      refine hA q3 h'.objs.size (.ref x) g _ _ _ SD.fg (thn (ha.run q3 _ _ σ H _ I3 q) fun us s2 got => ?_)
      obtain ⟨vs, H1, I4, r, hq⟩ := got
      have hb := (I4.pin _ (List.mem_append_right _ List.mem_cons_self)).1
      refine ⟨⟨hb, I4.kIn⟩, wpAny_call (PySem.ks_codeAny_call_bound hb (codeAny_mono (F X.A X.stack s2 H1 (.ref x :: us) (.ref x :: vs) _ E hr I4.env0 (.cons rfl r) hq) fun r s' h => ?_))⟩
      cases r with
      | error e => exact hx _ σ H1 s2 e s' I4 h
      | ok fl =>
        cases fl with
        | ret u =>
          obtain ⟨v, H2, I5, _, h5⟩ := I4.after h
          have I6 : Inv X pins σ H2 s' := I5.pins_of fun p hp => I5.pin p (List.mem_append_right _ (List.mem_cons_of_mem _ hp))
          exact wpAt_of_wpAny (hrest.run pins s' σ H2 De I6 h5)
        | next => exact False.elim h
        | brk => exact False.elim h
        | cont => exact False.elim h
end
end SupX
end

-- Y5g
section
set_option Elab.async false
set_option linter.all false
set_option maxRecDepth 100000
set_option exponentiation.threshold 10000
namespace R50
open PySem L2 OwnOps OwnNe G1 StX SupX
/-- of the error of kinds alone -/
structure RTxt (K : PySem.W.Frag) (mg : Str → Option Value) (D CK fCK : Addr) : Prop where
  eK : PySem.Giv.ErrTxt K mg "InvalidKind" "InvalidKind.__init__" "ValueError.__new__" veT CK fCK
/-- a def of a class that says super() -/
structure SDef (K : PySem.W.Frag) (P : Program) (qual : Str) (st : Stmt) (kw : List (Str × V)) (f D : Addr) : Prop where
  ex : ∃ (oc : Value) (od : Option Addr) (kV doc pm : Value) (an : Option Addr) (cda : Addr) (ct : Value) (cc : Addr) (osl : Array (Option Value)),
    K.lookup f = some ⟨oc, od, .func (PySem.W.ksFn "__init__" qual (defArgs st) (defBody st) (defScope st) .none kV doc pm an (.ref cda) ct cc), osl⟩ ∧ PySem.W.codeIn K (.ref cda) qual = true ∧ KwdV K kV kw ∧
      (∃ cl od vs sl file tf, K.lookup cda = some ⟨cl, od, .fields vs, sl⟩ ∧ vs[2]? = some (.str file tf) ∧ ((P.main.file : Str) == file) = true) ∧ ∃ cl cld csl, K.lookup cc = some ⟨cl, cld, .cell (some (.ref D)), csl⟩
  cls : (PySem.W.clsIn K D).isSome = true
structure SupG (K : PySem.W.Frag) (P : Program) : Prop where
  sup : PySem.W.nsIn K mainGlobals "super" = some none
  any : PySem.W.nsIn K cStatics "thirdparty.any" = some none
  top : (P.main.scope.names.lookup ("super" : Str)).isSome = false
/-- a tuple of tuples of ints -/
def TT (H : Hp) (a : Addr) (os : List (List Int)) : Prop := ∃ as : List Addr, H a = some (.tup (as.map V.ref)) ∧ as.length = os.length ∧ ∀ (i : Nat) (q : Addr), as[i]? = some q → ∃ o : List Int, os[i]? = some o ∧ H q = some (.tup (o.map V.int))
theorem TT.same {H H' : Hp} {a : Addr} {os : List (List Int)} (h : TT H a os) (s : Same H H') : TT H' a os := by
  obtain ⟨as, h1, h2, h3⟩ := h
  exact ⟨as, s _ _ h1, h2, fun i q hq => let ⟨o, a, b⟩ := h3 i q hq; ⟨o, a, s _ _ b⟩⟩
theorem TT.sameX {p : Addr} {H H' : Hp} {a : Addr} {os : List (List Int)} {o : HO} (h : TT H a os) (s : SameX p H H') (hp : H p = some o) (no : ∀ xs, o ≠ .tup xs) : TT H' a os := by
  obtain ⟨as, h1, h2, h3⟩ := h
  have ne : ∀ {q : Addr} {xs}, H q = some (.tup xs) → q ≠ p := fun {q xs} h z => by rw [z, hp] at h; exact no _ (Option.some.inj h)
  exact ⟨as, s _ _ (ne h1) h1, h2, fun i q hq => let ⟨o, a, b⟩ := h3 i q hq; ⟨o, a, s _ _ (ne b) b⟩⟩
def upto (n : Nat) : List Int := (List.range n).map Int.ofNat
theorem rg_upto (n : Nat) : rgV 0 (n : Int) = (upto n).map V.int := by
  unfold rgV upto
  rw [List.map_map, show ((n : Int) - 0).toNat = n by omega]
  refine List.map_congr_left fun i _ => ?_
  show V.int (0 + (i : Int)) = V.int (Int.ofNat i)
  rw [Int.zero_add]
  rfl
theorem upto_len (n : Nat) : (upto n).length = n := by
  unfold upto
  rw [List.length_map, List.length_range]
theorem sum_le {ys : List Str} {n : Nat} : (∀ y ∈ ys, y.length ≤ n) → (ys.map (·.length)).sum ≤ n * ys.length := by
  induction ys with
  | nil => intro _; exact Nat.zero_le _
  | cons y r ih =>
    intro h
    rw [List.map_cons, List.sum_cons, List.length_cons, Nat.mul_add, Nat.mul_one]
    have h1 := h y List.mem_cons_self
    have h2 := ih fun z hz => h z (List.mem_cons_of_mem _ hz)
    omega
theorem join_le {a : Str} (ys : List Str) : (Txt.join a ys).length ≤ (ys.map (·.length)).sum + ys.length * a.length := by
  have h := StrLaws.join_length_le a ys
  unfold Txt.join
  rw [StrLaws.glued_eq_join]
  exact h
abbrev NPL : List Str := ["kind", "rules", "words", "ruled", "way", "word"]
theorem Av.sameX {p C dx : Addr} {fs : List (Str × V)} {H H' : Hp} {v : V} (h : Av H v) (hp : H p = some (.ins C dx fs)) (s : SameX p H H') : Av H' v := by
  cases h with
  | str => exact .str _
  | non => exact .non
  | int => exact .int _
  | bl => exact .bl _
  | lst e => exact .lst (s _ _ (fun z => by rw [z, hp] at e; cases e) e)
  | tup e => exact .tup (s _ _ (fun z => by rw [z, hp] at e; cases e) e)
end R50
end

-- Y5i
section
set_option Elab.async false
set_option linter.all false
set_option maxRecDepth 100000
set_option exponentiation.threshold 10000
namespace R50
open PySem L2 OwnOps OwnNe G1 StX SupX
/-- what is met as a group -/
inductive Gr (H : Hp) : V → Option (List Str) → Prop
  | tup {a : Addr} {zs : List Str} (e : H a = some (.tup (zs.map V.str))) : Gr H (.ref a) (some zs)
  | lst {a : Addr} {xs : List V} (e : H a = some (.lst xs)) : Gr H (.ref a) none
  | str (x : Str) : Gr H (.str x) none
theorem Gr.same {H H' : Hp} {v : V} {o : Option (List Str)} (g : Gr H v o) (s : Same H H') : Gr H' v o := by
  cases g with
  | tup e => exact .tup (s _ _ e)
  | lst e => exact .lst (s _ _ e)
  | str x => exact .str x
def gOk : Option (List Str) → Bool
  | some zs => decide (2 ≤ zs.length)
  | none => false
theorem tyx_tup {K : PySem.W.Frag} {H : Hp} {a : Addr} {xs : List V} (h : SqT K H a xs) : TyX K H (.ref a) (.type "tuple") := by
  rcases h with (h | ⟨o, h⟩) | ⟨o, its, n, h1, h2, _⟩
  · exact .base (.tup h)
  · exact .fTuple h
  · exact .kTuple h1 h2
/-- the groups, as they are met -/
structure Grs (K : PySem.W.Frag) (H : Hp) (a : Addr) (gs : List V) (os : List (Option (List Str))) : Prop where
  at_ : SqT K H a gs
  len : gs.length = os.length
  it : ∀ (i : Nat) v, gs[i]? = some v → ∃ o, os[i]? = some o ∧ Gr H v o
theorem Grs.same {K : PySem.W.Frag} {H H' : Hp} {a : Addr} {gs : List V} {os : List (Option (List Str))} (g : Grs K H a gs os) (s : Same H H') : Grs K H' a gs os := ⟨Same.tupS s g.at_, g.len, fun i v h => let ⟨o, h1, h2⟩ := g.it i v h; ⟨o, h1, h2.same s⟩⟩
def texts (os : List (Option (List Str))) : List Str := os.flatMap fun o => o.getD []
def grpB (os : List (Option (List Str))) (pins : List Str) : Bool := os.all gOk && (difV ((texts os).map V.str) && (texts os).all fun z => pins.contains z)
abbrev rLenQ (K : PySem.W.Frag) : List V → Hp → VK → Prop := fun xs H Q => ∃ p ys, xs = [.ref p] ∧ (SqL K H p ys ∨ SqT K H p ys) ∧ Q (.int ys.length) H
theorem eqV_str (a b : Str) : eqV (.str a) (.str b) = decide (a = b) := by
  show (a == b) = decide (a = b)
  by_cases h : a = b
  · rw [h, decide_eq_true rfl]; exact beq_self_eq_true _
  · rw [decide_eq_false h]; exact beq_eq_false_iff_ne.mpr h
theorem inV_str (x : Str) (xs : List Str) : inV (.str x) (xs.map V.str) = xs.contains x := by
  unfold inV
  rw [List.any_map]
  induction xs with
  | nil => rfl
  | cons y r ih =>
    rw [List.any_cons, List.contains_cons, ih]
    congr 1
    show eqV (.str y) (.str x) = _
    rw [eqV_str]
    by_cases h : y = x
    · rw [h, decide_eq_true rfl]; exact (beq_self_eq_true _).symm
    · rw [decide_eq_false h]; exact (beq_eq_false_iff_ne.mpr (Ne.symm h)).symm
theorem flat_strs (xs : List Str) : (xs.map V.str).all flatV = true := by
  rw [List.all_map]
  exact List.all_eq_true.mpr fun _ _ => rfl
theorem texts_succ {os : List (Option (List Str))} {i : Nat} {o : Option (List Str)} (h : os[i]? = some o) : texts (os.take (i + 1)) = texts (os.take i) ++ o.getD [] := by
  unfold texts
  rw [take_succ_at h, List.flatMap_append]
  simp
theorem texts_le {os : List (Option (List Str))} (i : Nat) : (texts (os.take i)).length ≤ (texts os).length := by
  unfold texts
  have e : os = os.take i ++ os.drop i := (List.take_append_drop i os).symm
  have : (os.flatMap fun o => o.getD []).length = ((os.take i).flatMap fun o => o.getD []).length + ((os.drop i).flatMap fun o => o.getD []).length := by
    rw [← List.length_append, ← List.flatMap_append, ← e]
  omega
abbrev NGr : List Str := ["swaps", "pins", "grouped", "group", "pin"]
section
variable {P : Program} {w : World} {K : PySem.W.Frag} {mg : Str → Option Value} {base : Heap}
def spGrp (K : PySem.W.Frag) : Sp := fun vs H Q _ => ∃ v pa pins, vs = [v, .ref pa] ∧ SqT K H pa (pins.map V.str) ∧ ((Av H v ∧ (∀ a xs, v = .ref a → H a ≠ some (.tup xs)) ∧ Q (.bl false) H) ∨
  ∃ a gs os, v = .ref a ∧ Grs K H a gs os ∧ gs.length ≤ 10 ∧ (texts os).length ≤ 40 ∧ (∀ z ∈ texts os, z.length ≤ 1000) ∧ ∀ H', Same H H' → Q (.bl (grpB os pins)) H')
theorem ok_grp {f : Addr} {fd : FuncData} (F : Fun K "_are_groups" "_are_groups" sGrp f fd) (T : Bi mg) (GD : Glb P w K mg base "are_different_words" 2 ["values"] (spDiff K)) : FnOk P w K mg base (L2.CX P w) 3 f fd ["swaps", "pins"] (spGrp K) := by
  obtain ⟨_, _, mD, kD, GD, bD⟩ := GD.ex
  have sc : FnScope NGr ["swaps", "pins"] (defScope sGrp) := ⟨rfl, rfl, rfl, by decide +kernel, rfl, by decide +kernel, by decide +kernel⟩
  have hN := sc.nd
  refine F.okX sc (fun vs H Q E h => ?_) (fun cdv A outer s H vs Q E hr h => ?_)
  · obtain ⟨v, pa, pins, rfl, _⟩ := h
    rfl
  · obtain ⟨v, pa, pins, rfl, hpa, k⟩ := h
    refine ⟨_, pss_cons (ps_if (pt_not (pt_val (pe_callB call_isi (by rfl) T.isi (by decide +kernel) (pa_cons (pv 0) (pa_cons (pe_bltn (v := .ty "tuple") (by rfl) T.tuple (by decide +kernel) rfl) pa_nil))))) (pss_one (ps_ret pe_bl)) pss_nil)
      (pss_cons (ps_if (pt_not (pt_val (pe_callB (cr_all rfl) (by rfl) T.all (by decide +kernel) (pa_cons (pe_lc (own := [("group", 3)]) (g := gName 3) (tt := tYes) (te := tAndV (tCB (rIsi K) (tCons (tVar 3) (tCons (tC (.ty "tuple")) tNil))) (tOp (rI0 fun i j => .bl (decide (j ≤ i))) (tCB (rLenQ K) (tCons (tVar 3) tNil)) (tC (.int 2)))) rfl hN (pi_tup (pv 0))
          (blkOk_by (N := NGr) (sc := defScope sGrp) (by decide +kernel)) (fun _ _ _ _ _ => pg_name (i := 3) hN rfl (Or.inl rfl)) (fun _ _ _ _ _ => pts_nil)
          (fun _ _ _ _ _ => pe_and (pe_callB (id := "isinstance") (show CallR _ (.builtin "isinstance") (rIsi K) from call_isi) (by rfl) T.isi (by decide +kernel) (pa_cons (pv 3) (pa_cons (pe_bltn (v := .ty "tuple") (by rfl) T.tuple (by decide +kernel) rfl) pa_nil))) (pe_one (pe_cmpR op_ge (pe_callB call_len_seq (by rfl) T.len PySem.boot_len (pa_cons (pv 3) pa_nil)) pe_int (nomark _))))) pa_nil)))) (pss_one (ps_ret pe_bl)) pss_nil)
      (pss_cons (ps_setLc2 (i := 2) (own := [("group", 3), ("pin", 4)]) (vs1 := [4]) (g := gName 3) (g1 := gName 4) (tt := tYes) (tt1 := tYes) (wi1 := iTup K (tVar 3)) (te := tVar 4) rfl hN rfl rfl (sw_true rfl rfl rfl (by decide +kernel)) (pi_tup (pv 0))
          (blkOk_by (N := NGr) (sc := defScope sGrp) (by decide +kernel)) (by decide) (fun _ _ _ _ _ => pg_name (i := 3) hN rfl (Or.inl rfl)) (fun _ _ _ _ _ => pts_nil) (fun _ _ _ _ _ => pi_tup (pv 3)) (fun _ _ _ _ _ => pg_name (i := 4) hN rfl (Or.inl rfl)) (fun _ _ _ _ _ => pts_nil) (fun _ _ _ _ _ => pv 4))
      (pss_one (ps_ret (pe_and (pe_call GD hr (by rfl) mD kD bD .nil passL (pa_cons (pv 2) pa_nil)) (pe_one (pe_callB (cr_all rfl) (by rfl) T.all (by decide +kernel) (pa_cons
          (pe_lc (own := [("pin", 4)]) (g := gName 4) (tt := tYes) (te := tOp (rIn K false) (tVar 4) (tVar 1)) rfl hN (pi_list (pv 2)) (blkOk_by (N := NGr) (sc := defScope sGrp) (by decide +kernel)) (fun _ _ _ _ _ => pg_name (i := 4) hN rfl (Or.inl rfl)) (fun _ _ _ _ _ => pts_nil)
            (fun _ _ _ _ _ => pe_cmpR op_in_seq (pv 4) (pv 1) (by rfl))) pa_nil)))))))), ?_⟩
    have line : 1000 ≤ sizeLine := by decide
    rcases k with ⟨av, nt, k⟩ | ⟨a, gs, os, rfl, gr, n10, n40, sh, k⟩
    · cases av with
      | non => exact ⟨_, rfl, _, _, _, _, _, rfl, .ty _, .base .non, kit_ty (r := false) (by decide +kernel), _, rfl, if_pos' rfl k⟩
      | str x => exact ⟨_, rfl, _, _, _, _, _, rfl, .ty _, .base (.str _), kit_ty (r := false) (by decide +kernel), _, rfl, if_pos' rfl k⟩
      | int i => exact ⟨_, rfl, _, _, _, _, _, rfl, .ty _, .base (.int i), kit_ty (r := false) (by decide +kernel), _, rfl, if_pos' rfl k⟩
      | bl b => exact ⟨_, rfl, _, _, _, _, _, rfl, .ty _, .base (.bl b), kit_ty (r := false) (by decide +kernel), _, rfl, if_pos' rfl k⟩
      | lst e => exact ⟨_, rfl, _, _, _, _, _, rfl, .ty _, .base (.lst e), kit_ty (r := false) (by decide +kernel), _, rfl, if_pos' rfl k⟩
      | tup e => exact absurd e (nt _ _ rfl)
    refine ⟨_, rfl, _, _, _, _, _, rfl, .ty _, tyx_tup gr.at_, kit_ty (r := true) (by decide +kernel), _, rfl, if_neg' rfl ?_⟩
    refine ⟨_, rfl, a, rfl, ⟨_, gr.at_⟩, fun D nD => ?_⟩
    refine walk_it (walk_tup (K := K) (a := a) (xs := gs)) (fun i G => Same H G ∧ G D = some (.lst (((os.take i).map gOk).map V.bl))) ⟨same_upd nD, upd_same⟩ (fun i G _ ⟨sm, _⟩ => Same.tupS sm gr.at_) (fun i v G G' hi ⟨sm, hD⟩ ⟨e, hx⟩ => ?_) (fun G ⟨sm, hD⟩ => ?_)
    · subst e
      obtain ⟨o, ho, g⟩ := gr.it i v hx
      have g := g.same sm
      have room : (((os.take i).map gOk).map V.bl).length < sizeLine := by
        rw [List.length_map, List.length_map, List.length_take]
        have := gr.len
        omega
      have nxt : ∀ b, b = gOk o → (upd G' D (.lst (((os.take i).map gOk).map V.bl ++ [V.bl b]))) D = some (.lst (((os.take (i + 1)).map gOk).map V.bl)) := fun b e => by
        rw [upd_same, take_succ_at ho, List.map_append, List.map_append, e]
        rfl
      cases g with
      | @tup q zs h1 =>
        exact ⟨rfl, yes_go (iteT ⟨_, rfl, _, _, _, _, _, rfl, .ty _, .base (.tup h1), kit_ty (r := true) (by decide +kernel), _, rfl, if_pos' rfl ⟨_, rfl, _, _, rfl, .inr (SqT.of h1), _, _, rfl, rfl, _, hD, room, same_put sm nD, nxt _ (by
          show decide ((2 : Int) ≤ ((List.map V.str zs).length : Nat)) = decide _
          rw [List.length_map, decide_eq_decide]
          omega)⟩⟩)⟩
      | str x => exact ⟨rfl, yes_go (iteT ⟨_, rfl, _, _, _, _, _, rfl, .ty _, .base (.str _), kit_ty (r := false) (by decide +kernel), _, rfl, if_neg' rfl ⟨_, hD, room, same_put sm nD, nxt _ rfl⟩⟩)⟩
      | lst h1 => exact ⟨rfl, yes_go (iteT ⟨_, rfl, _, _, _, _, _, rfl, .ty _, .base (.lst h1), kit_ty (r := false) (by decide +kernel), _, rfl, if_neg' rfl ⟨_, hD, room, same_put sm nD, nxt _ rfl⟩⟩)⟩
    rw [show os.take gs.length = os by rw [gr.len]; exact List.take_length] at hD
    refine ⟨D, _, rfl, SqL.of hD, _, rfl, ?_⟩
    rw [List.all_map, show (os.all (id ∘ gOk)) = os.all gOk from rfl]
    cases ha : os.all gOk with
    | false =>
      refine if_pos' rfl ?_
      have z := k G sm
      unfold grpB at z
      rw [ha] at z
      exact z
    | true =>
    refine if_neg' rfl ?_
    have gr1 := gr.same sm
    refine ⟨_, rfl, a, rfl, ⟨_, gr1.at_⟩, fun D2 nD2 => ?_⟩
    refine walk_it (walk_tup (K := K) (a := a) (xs := gs)) (fun i G2 => Same G G2 ∧ G2 D2 = some (.lst ((texts (os.take i)).map V.str))) ⟨same_upd nD2, upd_same⟩ (fun i G2 _ ⟨sm2, _⟩ => Same.tupS sm2 gr1.at_) (fun i v G2 G3 hi ⟨sm2, hD2⟩ ⟨e, hx⟩ => ?_) (fun G2 ⟨sm2, hD2⟩ => ?_)
    · subst e
      obtain ⟨o, ho, g⟩ := gr1.it i v hx
      have g := g.same sm2
      have ok : gOk o = true := List.all_eq_true.mp ha o (List.mem_of_getElem? ho)
      cases g with
      | str x => cases ok
      | lst h => cases ok
      | @tup q zs h1 =>
      have le1 := texts_le (os := os) (i + 1)
      rw [texts_succ ho, List.length_append] at le1
      refine ⟨rfl, yes_go (iteT ⟨_, rfl, q, rfl, ⟨_, SqT.of h1⟩, ?_⟩)⟩
      refine walk_it (walk_tup (K := K) (a := q) (xs := zs.map V.str)) (fun j G4 => Same G G4 ∧ G4 q = some (.tup (zs.map V.str)) ∧ G4 D2 = some (.lst ((texts (os.take i) ++ zs.take j).map V.str))) ⟨sm2, h1, by rw [List.take_zero, List.append_nil]; exact hD2⟩ (fun j G4 _ h => SqT.of h.2.1) (fun j y G4 G5 hj ⟨sm4, e4, hD4⟩ ⟨e, hy⟩ => ?_) (fun G4 ⟨sm4, e4, hD4⟩ => ?_)
      · subst e
        rw [List.getElem?_map] at hy
        obtain ⟨z, hz, rfl⟩ := Option.map_eq_some_iff.mp hy
        have ne : q ≠ D2 := fun w => by rw [w, hD4] at e4; cases e4
        refine ⟨rfl, yes_go (iteT ⟨_, rfl, _, hD4, ?_, same_put sm4 nD2, by rw [upd_ne ne]; exact e4, ?_⟩)⟩
        · rw [List.length_map, List.length_append, List.length_take]
          have : min j zs.length ≤ zs.length := Nat.min_le_right _ _
          have e : (Option.getD (some zs) ([] : List Str)).length = zs.length := rfl
          omega
        · rw [upd_same, take_succ_at hz, ← List.append_assoc]
          simp only [List.map_append]
          rfl
      · refine ⟨sm4, ?_⟩
        rw [List.length_map, List.take_length] at hD4
        rw [texts_succ ho]
        exact hD4
    rw [show os.take gs.length = os by rw [gr.len]; exact List.take_length] at hD2
    have sm02 := sm.trans sm2
    refine ⟨_, rfl, D2, _, rfl, .inl (SqL.of hD2), by rw [List.length_map]; omega, fun y hy => ?_, fun G3 s3 => ?_⟩
    · obtain ⟨z, hz, rfl⟩ := List.mem_map.mp hy
      exact ⟨.str z, sh z hz⟩
    cases hd : difV ((texts os).map V.str) with
    | false =>
      refine ⟨_, rfl, if_neg' rfl ?_⟩
      have z := k G3 (sm02.trans s3)
      unfold grpB at z
      rw [ha, hd] at z
      exact z
    | true =>
    have hD3 := s3 _ _ hD2
    have hpa3 := Same.tupS s3 (Same.tupS sm02 hpa)
    refine ⟨_, rfl, if_pos' rfl ⟨_, rfl, D2, rfl, ⟨_, SqL.of hD3⟩, fun D4 nD4 => ?_⟩⟩
    refine walk_it (walk_list (K := K) (a := D2) (xs := (texts os).map V.str)) (fun i G4 => Same G3 G4 ∧ G4 D4 = some (.lst ((((texts os).take i).map fun z => pins.contains z).map V.bl))) ⟨same_upd nD4, upd_same⟩ (fun i G4 _ ⟨sm4, _⟩ => SqL.of (sm4 _ _ hD3)) (fun i v G4 G5 hi ⟨sm4, hD4⟩ ⟨e, hx⟩ => ?_) (fun G4 ⟨sm4, hD4⟩ => ?_)
    · subst e
      rw [List.getElem?_map] at hx
      obtain ⟨z, hz, rfl⟩ := Option.map_eq_some_iff.mp hx
      refine ⟨rfl, yes_go (iteT ⟨_, rfl, _, rfl, pa, _, rfl, .inr (Same.tupS sm4 hpa3), rfl, flat_strs _, _, hD4, ?_, same_put sm4 nD4, ?_⟩)⟩
      · rw [List.length_map, List.length_map, List.length_take]
        omega
      · rw [upd_same, take_succ_at hz, inV_str]
        simp only [List.map_append]
        rfl
    · rw [List.length_map, List.take_length] at hD4
      refine ⟨D4, _, rfl, SqL.of hD4, ?_⟩
      have z := k G4 (sm02.trans (s3.trans sm4))
      unfold grpB at z
      rw [ha, hd] at z
      rw [List.all_map]
      exact z
end
end R50
end

-- EnumT
section
set_option Elab.async false
set_option maxRecDepth 100000
/-! enumerate over a tuple, for the hand layer -/
namespace EnumT
open PySem PySem.Spec PyProof.Rows L2
open Sem (wp)

set_option maxHeartbeats 1000000 in
theorem enumNew {v : Value} {ob : Obj} {Hs : Heap → Prop} (B : Begins v ob Hs) :
    Meets (Builtin.«enumerate.__new__» ⟨[.type "enumerate", v], []⟩) (fun _ R s => Hs s.heap ∧
      R (.ok (.ret (.ref (s.heap.push ob).objs.size))) { s with heap := (s.heap.push ob).push { cls := .type "enumerate", data := .fields #[.none, .bool false, .ref s.heap.objs.size, rawInt 0, .none, .none] } }) := by
  refine .of_wp fun P w A R s hR => ?_
  obtain ⟨hp, gl, dd, tk, os⟩ := s
  obtain ⟨hs, hr⟩ := hR
  have sub := sub_enumerate
  have fwd : ∀ {A' : Around} {E : Value → Shared → Prop} {Q : Value → Shared → Prop}, Q (.ref hp.objs.size) ⟨hp.push ob, gl, dd, tk, os⟩ → wpAny (model P w) A' (pyIter v) Q E ⟨hp, gl, dd, tk, os⟩ :=
    fun q => B.iter P w _ _ ⟨hp, gl, dd, tk, os⟩ _ hs q
  wp_walk using fwd
  refine wpAny_stack_any fun st => wpAny_pure ?_
  split
  · rename_i c _ _ _ _ _
    rcases hb : (c == Value.type "enumerate") with _ | _
    all_goals
      wp_walk using fwd
      exact ⟨_, rfl, hr⟩
  · wp_walk using fwd
    exact ⟨_, rfl, hr⟩

theorem enumOver {P : Program} {w : World} {A : Around} {E : Value → Shared → Prop} {s : Shared} {v : Value} {ob : Obj} {Hs : Heap → Prop} {Q : Value → Shared → Prop} (B : Begins v ob Hs) (hs : Hs s.heap)
    (k : ∀ h', IsEnum h' (s.heap.objs.size + 1) s.heap.objs.size 0 .none → h'.get? s.heap.objs.size = some ob →
      (∀ b o, s.heap.get? b = some o → h'.get? b = some o) → Q (.ref (s.heap.objs.size + 1)) { s with heap := h' }) :
    wpAny (model P w) A (call (.type "enumerate") [v]) Q E s := by
  refine callType_new F.called_enumerate (by decide) (F.typeCall_enumerate_1 _) (F.newCall_enumerate_1 _) (fun obj => F.args_object_init_2 obj _) F.entry_enumerate_new
    (enumNew B) ⟨hs, ?_⟩
  have z : (s.heap.push ob).objs.size = s.heap.objs.size + 1 := Heap.size_push ..
  have he := Heap.get?_push_size (s.heap.push ob) (o := { cls := .type "enumerate", data := .fields #[.none, .bool false, .ref s.heap.objs.size, rawInt 0, .none, .none] }) rfl
  show _ ∧ _
  rw [z] at he ⊢
  exact ⟨⟨_, he, rfl⟩, k _ he (Heap.get?_push_of_some _ (Heap.get?_push_size _ B.free)) fun b o x => Heap.get?_push_of_some _ (Heap.get?_push_of_some _ x)⟩

/-- the tuple at a, each item in a new pair -/
def ItE (K : PySem.W.Frag) (a : Addr) : It :=
  ⟨fun i H => ∃ (xs : List V) (x : V), SqT K H a xs ∧ xs[i]? = some x,
   fun i H v H' => ∃ T x, v = .ref T ∧ H T = none ∧ H' = upd H T (.tup [.int (i : Nat), x]) ∧ ∀ xs, SqT K H a xs → xs[i]? = some x,
   fun i H => ∃ xs : List V, SqT K H a xs ∧ xs.length ≤ i⟩

theorem turnE {P : Program} {w : World} {K : PySem.W.Frag} {elts : List Expr} {kk : Nat} {tpos : Pos} (a e it : Addr) :
    Turn P w K (.Tuple elts kk tpos) (ItE K a) [e, it] e (fun i h => (∃ old, IsEnum h e it ((i : Nat) : Int) old) ∧ h.IsTupleIter it a i ∧ e ≠ it) where
  mem := List.mem_cons_self ..
  obj := by
    rintro i h ⟨⟨old, he⟩, ⟨o, ho, hc, hd⟩, _⟩ b hb
    rcases List.mem_cons.mp hb with rfl | hb
    · exact ⟨_, he, fun v q => nomatch q⟩
    · obtain rfl := List.mem_singleton.mp hb
      exact ⟨o, ho, fun v q => by rw [hd] at q; cases q⟩
  keep := by
    rintro i h h' ⟨⟨old, he⟩, hi, ne⟩ k
    exact ⟨⟨old, k e (by simp) _ he⟩, hi.at fun o q => k it (by simp) o q, ne⟩
  item := by
    intro X hP hw hK hc i pins s σ H E I hf st hg
    subst hP hw hK
    obtain ⟨⟨old, he⟩, hit, hne⟩ := st
    obtain ⟨xs, x, hq, hx⟩ := hg
    obtain ⟨its, rv, p, hz⟩ := I.tuple hq
    obtain ⟨u, hu, ru⟩ := rv.get hx
    have ai : a ≠ it := by
      obtain ⟨o, ho, hc, _⟩ := p
      obtain ⟨o', ho', hc', _⟩ := hit
      intro z
      subst z
      rw [ho] at ho'
      cases ho'
      rw [hc] at hc'
      exact absurd hc' (by decide)
    have ae : e ≠ a := by
      obtain ⟨o, ho, hc, _⟩ := p
      intro z
      subst z
      have e' := he.symm.trans ho
      cases e'
      exact absurd (show Value.type "enumerate" = Value.type "tuple" from hc) (by decide)
    have hel : e < s.heap.objs.size := Heap.lt_size he
    have hil : it < s.heap.objs.size := by obtain ⟨_, q, _⟩ := hit; exact Heap.lt_size q
    have lt : i < its.toArray.size := by
      have := List.getElem?_eq_some_iff.mp hu
      simpa using this.1
    refine wpAny_pyNext_enum_itemC (Draws.tuple (A := X.A.in1) (I.ok.hd hc) it a ai its.toArray) he ⟨hit, p⟩ lt hne (by simp [hne, ae]) fun y h' tk hy ho st' hT hsz hk => ?_
    obtain rfl : y = u := by
      have hy' : its[i]? = some y := by simpa using hy
      exact Option.some.inj (hy'.symm.trans hu)
    refine ⟨_, rfl, wpAny_letOwnedTupleGo_enum (s := { s with heap := h', toks := tk + 1 }) ho fun h'' he' sb => ?_⟩
    have hT2 : h''.get? s.heap.objs.size = some { cls := .type "tuple", data := .seq #[.int i tk, y] } := (sb.2 _ (Nat.ne_of_gt hel)).trans hT
    have new : ObjOk X.prog X.w (upd H s.heap.objs.size (.tup [.int (i : Nat), x])) h'' s.heap.objs.size (.tup [.int (i : Nat), x]) :=
      ⟨by show 2 ≤ sizeLine; decide, [.int i tk, y], .cons ⟨_, rfl⟩ (.cons ru .nil), ⟨_, hT2, rfl, _, rfl⟩⟩
    have I1 : Inv X pins σ (upd H s.heap.objs.size (.tup [.int (i : Nat), x])) { s with heap := h'', toks := tk + 1 } :=
      I.turnedNew (ch := [e, it]) (fun b ob hb q => (sb.2 b (fun z => hb (by simp [z]))).trans (hk b ob (fun z => hb (by simp [z])) (fun z => hb (by simp [z])) q)) hf (Nat.le_refl _) new
    refine ⟨.ref s.heap.objs.size, _, I1, rfl, ⟨_, x, rfl, I.hok.fresh (Nat.le_refl _), rfl, fun ys hy => by rw [I.tuple_inj hy hq]; exact hx⟩, ⟨⟨y, ?_⟩, st'.1.at fun o q => (sb.2 it (Ne.symm hne)).trans q, hne⟩, fun b hb => ?_⟩
    · rw [Int.natCast_succ]; exact he'
    · have lt2 : b < s.heap.objs.size := by
        rcases List.mem_cons.mp hb with rfl | h2
        · exact hel
        · exact (List.mem_singleton.mp h2) ▸ hil
      rw [upd_ne (Nat.ne_of_lt lt2)]
      exact (hf b hb).1
  done := by
    intro X hP hw hK hc i pins s σ H E I hf st hg
    subst hP hw hK
    obtain ⟨⟨old, he⟩, hit, hne⟩ := st
    obtain ⟨xs, hq, hx⟩ := hg
    obtain ⟨its, rv, p, hz⟩ := I.tuple hq
    obtain ⟨f0, f1, f2, f3, f4, f5⟩ := hf it (by simp)
    have hl := rv.length
    have D : Draws X.prog X.w X.A.in1 it [it, a] i (fun _ _ => True) (fun j h => j = i ∧ h.IsTupleIter it a i ∧ h.IsTuple a its.toArray) :=
      { live := fun j h q => let ⟨o, ho, _⟩ := q.2.1; ⟨o, ho⟩
        frame := fun j h h' q k => ⟨q.1, q.2.1.at fun o e => k it (by simp) o e, q.2.2.at fun o e => k a (by simp) o e⟩
        item := fun j s Q E lt q => absurd q.1 (Nat.ne_of_lt lt)
        done := fun s Q E q h => wpAny_nextOf_tuple_end (I.ok.hd hc) q.2.1 q.2.2 (by simp; omega) h }
    exact wpAny_pyNext_enum_endD D he ⟨rfl, hit, p⟩ fun h' eb => ⟨rfl, I.turned (t' := s.toks) (fun b o hb q => eb b o hb q) f0 f1 f3 f4 f5⟩
  self := fun A i s Q E st h => let ⟨⟨_, he⟩, _⟩ := st; wpAny_pyIter_enum he h

def iEnumT (K : PySem.W.Frag) (ta : TA) : TI := fun σ H R => ta σ H fun vs H1 => ∃ a xs, vs = [.ref a] ∧ SqT K H1 a xs ∧ R (ItE K a) H1

theorem pi_enumT {X : Cx} {e : Expr} {ta : TA} {p pos tpos : Pos} {elts : List Expr} {kk : Nat} (hg : Gl X "enumerate") (hm : X.mg "enumerate" = none) (ha : PA X [e] ta) (hs : starEach [e] X.env = [(false, eval e X.env)] := by rfl) :
    PI X (.Tuple elts kk tpos) (.Call (.Name "enumerate" p) [e] [] pos) (iEnumT X.K ta) := by
  constructor
  intro pins s σ H R I h
  refine Call_ (ld_blt I hg hm boot_enumerate (PyProof.Rows.callWith_type1 (thn (ha.run pos pins s σ H _ I h) fun us s1 ⟨vs, H1, I1, r1, a, xs, ex, hq, q⟩ => ?_) hs rfl))
  subst ex
  rcases r1 with _ | ⟨r, rr⟩
  cases rr
  cases r
  obtain ⟨its, rv, p', hz⟩ := I1.tuple hq
  refine enumOver (begins_tuple a its.toArray) p' fun h' he hit hk => wpAny_pyIter_enum he ?_
  have I2 : Inv X pins σ H1 { s1 with heap := h' } := I1.kept (t' := s1.toks) hk
  refine ⟨s1.heap.objs.size + 1, [s1.heap.objs.size + 1, s1.heap.objs.size], _, _, H1, rfl, I2, turnE a _ s1.heap.objs.size, ⟨⟨.none, he⟩, ⟨_, hit, rfl, rfl⟩, Nat.succ_ne_self _⟩, fun b hb => ?_, q⟩
  have le : s1.heap.objs.size ≤ b := by
    rcases List.mem_cons.mp hb with rfl | hb
    · exact Nat.le_succ _
    · exact Nat.le_of_eq (List.mem_singleton.mp hb).symm
  exact I1.fpOk le (I1.hok.fresh le)
end EnumT
end

-- Y5j
section
set_option Elab.async false
set_option linter.all false
set_option maxRecDepth 100000
set_option exponentiation.threshold 10000
namespace R50
open PySem L2 OwnOps OwnNe G1 StX SupX EnumT
/-- lists of texts, in a list -/
structure LLt (H : Hp) (a : Addr) (gss : List (List Str)) (qs : List Addr) : Prop where
  at_ : H a = some (.lst (qs.map V.ref))
  len : qs.length = gss.length
  it : ∀ (i : Nat) (q : Addr), qs[i]? = some q → ∃ g, gss[i]? = some g ∧ H q = some (.lst (g.map V.str))
theorem LLt.same {H H' : Hp} {a : Addr} {gss : List (List Str)} {qs : List Addr} (g : LLt H a gss qs) (s : Same H H') : LLt H' a gss qs := ⟨s _ _ g.at_, g.len, fun i v h => let ⟨o, h1, h2⟩ := g.it i v h; ⟨o, h1, s _ _ h2⟩⟩
def gmates (pin : Str) (gss : List (List Str)) : List Str := gss.flatMap fun g => if g.contains pin then g else []
def mOk (pin : Str) (ms pins : List Str) (i : Nat) : Bool := decide (pins.getD i Str.empty = pin) || ms.contains (pins.getD i Str.empty)
def mTo (pin : Str) (ms pins : List Str) (n : Nat) : List Nat := (List.range n).filter fun i => mOk pin ms pins i
def matesT (pin : Str) (pins : List Str) (gss : List (List Str)) : List Nat := mTo pin (gmates pin gss) pins pins.length
def nV (n : Nat) : V := .int (n : Int)
theorem gmates_succ {pin : Str} {gss : List (List Str)} {i : Nat} {g : List Str} (h : gss[i]? = some g) : gmates pin (gss.take (i + 1)) = gmates pin (gss.take i) ++ (if g.contains pin then g else []) := by
  unfold gmates
  rw [take_succ_at h, List.flatMap_append]
  simp
theorem gmates_le {pin : Str} {gss : List (List Str)} (i : Nat) : (gmates pin (gss.take i)).length ≤ (gmates pin gss).length := by
  have e : gss = gss.take i ++ gss.drop i := (List.take_append_drop i gss).symm
  have : (gmates pin gss).length = (gmates pin (gss.take i)).length + (gmates pin (gss.drop i)).length := by
    unfold gmates
    rw [← List.length_append, ← List.flatMap_append, ← e]
  omega
theorem gmates_flat {pin : Str} (gss : List (List Str)) : (gmates pin gss).length ≤ gss.flatten.length := by
  unfold gmates
  induction gss with
  | nil => exact Nat.le_refl _
  | cons g r ih =>
    rw [List.flatMap_cons, List.flatten_cons, List.length_append, List.length_append]
    split
    · omega
    · simp only [List.length_nil]
      omega
theorem mTo_succ {pin : Str} {ms pins : List Str} (n : Nat) : mTo pin ms pins (n + 1) = mTo pin ms pins n ++ (if mOk pin ms pins n = true then [n] else []) := by
  unfold mTo
  rw [List.range_succ, List.filter_append]
  congr 1
  by_cases h : mOk pin ms pins n = true
  · rw [if_pos h, List.filter_cons_of_pos h]
    rfl
  · rw [if_neg h, List.filter_cons_of_neg h]
    rfl
theorem mTo_len {pin : Str} {ms pins : List Str} (n : Nat) : (mTo pin ms pins n).length ≤ n := by
  unfold mTo
  have := List.length_filter_le (fun i => mOk pin ms pins i) (List.range n)
  rw [List.length_range] at this
  exact this
theorem getD_at {pins : List Str} {i : Nat} {x : Str} (h : pins[i]? = some x) : pins.getD i Str.empty = x := by
  rw [List.getD_eq_getElem?_getD, h]
  rfl
theorem walk_enumT {K : PySem.W.Frag} {a : Addr} {xs : List V} : Walk (ItE K a) xs.length (fun H => SqT K H a xs) (YPair (fun i => some (.int (i : Nat))) (fun i => xs[i]?)) := by
  refine ⟨fun i _ hi q => ⟨xs, xs[i], q, by simp [hi]⟩, fun _ q => ⟨xs, q, Nat.le_refl _⟩, fun i H v H' _ q y => ?_⟩
  obtain ⟨T, x, h1, h2, h3, h4⟩ := y
  exact ⟨T, .int (i : Nat), x, h1, h2, h3, rfl, h4 xs q⟩
theorem in_b (x : Str) (xs : List Str) : (if false = true then !inV (.str x) (xs.map V.str) else inV (.str x) (xs.map V.str)) = xs.contains x := (if_neg Bool.false_ne_true).trans (inV_str x xs)
abbrev NMt : List Str := ["pin", "pins", "groups", "mates", "group", "mate", "index", "other"]
section
variable {P : Program} {w : World} {K : PySem.W.Frag} {mg : Str → Option Value} {base : Heap}
def spMat (K : PySem.W.Frag) : Sp := fun vs H Q _ => ∃ pin pa pins ga gss qs, vs = [.str pin, .ref pa, .ref ga] ∧ SqT K H pa (pins.map V.str) ∧ LLt H ga gss qs ∧ pins.length ≤ 100 ∧ gss.length ≤ 100 ∧ gss.flatten.length ≤ 100 ∧
  ∀ r H', Same H H' → H' r = some (.lst ((matesT pin pins gss).map nV)) → Q (.ref r) H'
theorem ok_mat {f : Addr} {fd : FuncData} (F : Fun K "_mates" "_mates" sMat f fd) (T : Bi mg) : FnOk P w K mg base (L2.CX P w) 3 f fd ["pin", "pins", "groups"] (spMat K) := by
  have sc : FnScope NMt ["pin", "pins", "groups"] (defScope sMat) := ⟨rfl, rfl, rfl, by decide +kernel, rfl, by decide +kernel, by decide +kernel⟩
  have hN := sc.nd
  refine F.okX sc (fun vs H Q E h => ?_) (fun cdv A outer s H vs Q E hr h => ?_)
  · obtain ⟨pin, pa, pins, ga, gss, qs, rfl, _⟩ := h
    rfl
  · obtain ⟨pin, pa, pins, ga, gss, qs, rfl, hpa, hg, n1, n2, n3, k⟩ := h
    refine ⟨_, pss_cons (ps_set (i := 3) hN rfl (Or.inr rfl) (pe_lc2 (own := [("group", 4), ("mate", 5)]) (vs1 := [5]) (g := gName 4) (g1 := gName 5) (tt := tTest (tOp (rIn K false) (tVar 0) (tVar 4))) (tt1 := tYes) (wi1 := iList K (tVar 4)) (te := tVar 5) rfl hN (pi_list (pv 2))
          (blkOk_by (N := NMt) (sc := defScope sMat) (by decide +kernel)) (by decide) (fun _ _ _ _ _ => pg_name (i := 4) hN rfl (Or.inl rfl)) (fun _ _ _ _ _ => pts_one (pt_cmpR op_in_seq (pv 0) (pv 4) (by rfl))) (fun _ _ _ _ _ => pi_list (pv 4)) (fun _ _ _ _ _ => pg_name (i := 5) hN rfl (Or.inl rfl)) (fun _ _ _ _ _ => pts_nil) (fun _ _ _ _ _ => pv 5)))
      (pss_one (ps_ret (pe_lc (own := [("index", 6), ("other", 7)]) (g := gTup K 2 (gCons (gName 6) (gCons (gName 7) gNil))) (tt := tOr (tTest (tOp rEq (tVar 7) (tVar 0))) (tTest (tOp (rIn K false) (tVar 7) (tVar 3)))) (te := tVar 6) rfl hN (pi_enumT (by rfl) T.enum (pa_cons (pv 1) pa_nil))
          (blkOk_by (N := NMt) (sc := defScope sMat) (by decide +kernel)) (fun _ _ _ _ _ => pg_two (i := 6) (j := 7) rfl hN rfl (Or.inl rfl) rfl (Or.inl rfl)) (fun _ _ _ _ _ => pts_one (PW.pt (pw_or (pt_cmpR op_eq (pv 7) (pv 0) (nomark _)) (pw_or1 (pt_cmpR op_in_seq (pv 7) (pv 3) (by rfl)))))) (fun _ _ _ _ _ => pv 6)))), ?_⟩
    have line : 1000 ≤ sizeLine := by decide
    have few := gmates_flat (pin := pin) gss
    refine ⟨_, rfl, ga, rfl, ⟨_, SqL.of hg.at_⟩, fun D nD => ?_⟩
    refine walk_it (walk_list (K := K) (a := ga) (xs := qs.map V.ref)) (fun i G => Same H G ∧ G D = some (.lst ((gmates pin (gss.take i)).map V.str))) ⟨same_upd nD, upd_same⟩ (fun i G _ ⟨sm, _⟩ => SqL.of (sm _ _ hg.at_)) (fun i v G G' hi ⟨sm, hD⟩ ⟨e, hx⟩ => ?_) (fun G ⟨sm, hD⟩ => ?_)
    · subst e
      rw [List.getElem?_map] at hx
      obtain ⟨q, hq, rfl⟩ := Option.map_eq_some_iff.mp hx
      obtain ⟨g, hgi, hq0⟩ := hg.it i q hq
      have hgq := sm _ _ hq0
      have ne : q ≠ D := fun w => by rw [w, nD] at hq0; cases hq0
      have le1 := gmates_le (pin := pin) (gss := gss) (i + 1)
      have sc1 := gmates_succ (pin := pin) hgi
      rw [sc1, List.length_append] at le1
      refine ⟨rfl, _, rfl, _, rfl, q, _, rfl, .inl (SqL.of hgq), rfl, flat_strs _, _, rfl, ?_⟩
      cases hc : g.contains pin with
      | false =>
        rw [hc] at sc1
        refine if_neg' ((in_b pin g).trans hc) ⟨sm, ?_⟩
        rw [sc1]
        simpa using hD
      | true =>
        rw [hc] at sc1 le1
        refine if_pos' ((in_b pin g).trans hc) ⟨_, rfl, q, rfl, ⟨_, SqL.of hgq⟩, ?_⟩
        refine walk_it (walk_list (K := K) (a := q) (xs := g.map V.str)) (fun j G4 => Same H G4 ∧ G4 q = some (.lst (g.map V.str)) ∧ G4 D = some (.lst ((gmates pin (gss.take i) ++ g.take j).map V.str))) ⟨sm, hgq, by rw [List.take_zero, List.append_nil]; exact hD⟩ (fun j G4 _ h => SqL.of h.2.1) (fun j y G4 G5 hj ⟨sm4, e4, hD4⟩ ⟨e, hy⟩ => ?_) (fun G4 ⟨sm4, e4, hD4⟩ => ?_)
        · subst e
          rw [List.getElem?_map] at hy
          obtain ⟨z, hz, rfl⟩ := Option.map_eq_some_iff.mp hy
          refine ⟨rfl, yes_go (iteT ⟨_, rfl, _, hD4, ?_, same_put sm4 nD, by rw [upd_ne ne]; exact e4, ?_⟩)⟩
          · rw [List.length_map, List.length_append, List.length_take]
            have : min j g.length ≤ g.length := Nat.min_le_right _ _
            have e : (if true = true then g else ([] : List Str)).length = g.length := rfl
            omega
          · rw [upd_same, take_succ_at hz, ← List.append_assoc]
            simp only [List.map_append]
            rfl
        · refine ⟨sm4, ?_⟩
          rw [List.length_map, List.take_length] at hD4
          rw [sc1]
          exact hD4
    rw [show gss.take (qs.map V.ref).length = gss by rw [List.length_map, hg.len]; exact List.take_length] at hD
    have hpaG := Same.tupS sm hpa
    refine ⟨_, rfl, pa, _, rfl, hpaG, fun D2 nD2 => ?_⟩
    have nDD : D ≠ D2 := fun w => by rw [← w, hD] at nD2; cases nD2
    refine walk_it (walk_enumT (K := K) (a := pa) (xs := pins.map V.str)) (fun i G2 => Same G G2 ∧ G2 D2 = some (.lst ((mTo pin (gmates pin gss) pins i).map nV))) ⟨same_upd nD2, upd_same⟩ (fun i G2 _ ⟨sm2, _⟩ => Same.tupS sm2 hpaG) (fun i v G2 G3 hi ⟨sm2, hD2⟩ ⟨T0, u, v', ex, nT, eG, hu, hv⟩ => ?_) (fun G2 ⟨sm2, hD2⟩ => ?_)
    · subst ex eG
      cases hu
      have hv : (pins.map V.str)[i]? = some v' := hv
      rw [List.getElem?_map] at hv
      obtain ⟨z, hz, rfl⟩ := Option.map_eq_some_iff.mp hv
      rw [List.length_map] at hi
      have sT := same_upd (o := .tup [V.int (i : Nat), V.str z]) nT
      have hD2' := sT _ _ hD2
      have hm3 := sT _ _ (sm2 _ _ hD)
      have len := mTo_len (pin := pin) (ms := gmates pin gss) (pins := pins) i
      have sc2 := mTo_succ (pin := pin) (ms := gmates pin gss) (pins := pins) i
      have room : ((mTo pin (gmates pin gss) pins i).map nV).length < sizeLine := by
        rw [List.length_map]
        omega
      have yes : mOk pin (gmates pin gss) pins i = true → (upd (upd G2 T0 (.tup [V.int (i : Nat), V.str z])) D2 (.lst ((mTo pin (gmates pin gss) pins i).map nV ++ [V.int (i : Nat)]))) D2 = some (.lst ((mTo pin (gmates pin gss) pins (i + 1)).map nV)) := fun h => by
        rw [upd_same, sc2, if_pos h, List.map_append]
        rfl
      have eok : mOk pin (gmates pin gss) pins i = (decide (z = pin) || (gmates pin gss).contains z) := by
        unfold mOk
        rw [getD_at hz]
      refine ⟨T0, _, rfl, SqT.of upd_same, rfl, _, _, rfl, _, _, rfl, rfl, rfl, _, rfl, _, rfl, rfl, _, rfl, ?_⟩
      have e1 : decide (V.str z = V.str pin) = decide (z = pin) := by rw [decide_eq_decide]; exact ⟨fun h => V.str.inj h, fun h => by rw [h]⟩
      rw [e1]
      cases h1 : decide (z = pin) with
      | true => exact iteT (iteT ⟨_, rfl, _, hD2', room, same_put (sm2.trans sT) nD2, yes (by rw [eok, h1]; rfl)⟩)
      | false =>
        refine if_neg' rfl ⟨_, rfl, _, rfl, D, _, rfl, .inl (SqL.of hm3), rfl, flat_strs _, _, rfl, ?_⟩
        rw [in_b]
        cases h2 : (gmates pin gss).contains z with
        | true => exact iteT ⟨_, rfl, _, hD2', room, same_put (sm2.trans sT) nD2, yes (by rw [eok, h1, h2]; rfl)⟩
        | false =>
          refine if_neg' rfl ⟨sm2.trans sT, ?_⟩
          rw [hD2', sc2, eok, h1, h2]
          simp
    · rw [List.length_map] at hD2
      exact k D2 G2 (sm.trans sm2) hD2
end
end R50
end

-- Y5k
section
set_option Elab.async false
set_option linter.all false
set_option maxRecDepth 100000
set_option exponentiation.threshold 10000
namespace R50
open PySem L2 OwnOps OwnNe G1 StX SupX EnumT
/-- tuples of ints, in a list -/
structure LTs (H : Hp) (a : Addr) (os : List (List Int)) (as : List Addr) : Prop where
  at_ : H a = some (.lst (as.map V.ref))
  len : as.length = os.length
  it : ∀ (i : Nat) (q : Addr), as[i]? = some q → ∃ o, os[i]? = some o ∧ H q = some (.tup (o.map V.int))
theorem LTs.same {H H' : Hp} {a : Addr} {os : List (List Int)} {as : List Addr} (g : LTs H a os as) (s : Same H H') : LTs H' a os as := ⟨s _ _ g.at_, g.len, fun i v h => let ⟨o, h1, h2⟩ := g.it i v h; ⟨o, h1, s _ _ h2⟩⟩
theorem LTs.push {G : Hp} {D T : Addr} {os : List (List Int)} {as : List Addr} (h : LTs G D os as) (nT : G T = none) (o : List Int) :
    LTs (upd (upd G T (.tup (o.map V.int))) D (.lst (as.map V.ref ++ [V.ref T]))) D (os ++ [o]) (as ++ [T]) where
  at_ := by rw [upd_same, List.map_append]; rfl
  len := by rw [List.length_append, List.length_append, h.len]; rfl
  it := fun i q hq => by
    have nTD : T ≠ D := fun z => by rw [z, h.at_] at nT; cases nT
    by_cases lt : i < as.length
    · rw [List.getElem?_append_left lt] at hq
      obtain ⟨o', h1, h2⟩ := h.it i q hq
      have nqD : q ≠ D := fun z => by rw [z, h.at_] at h2; cases h2
      refine ⟨o', by rw [List.getElem?_append_left (h.len ▸ lt)]; exact h1, ?_⟩
      rw [upd_ne nqD]
      exact same_upd nT _ _ h2
    · have lt2 := (List.getElem?_eq_some_iff.mp hq).1
      rw [List.length_append, List.length_singleton] at lt2
      have e : i = as.length := by omega
      subst e
      rw [List.getElem?_append_right (Nat.le_refl _), Nat.sub_self] at hq
      cases hq
      refine ⟨o, by rw [h.len, List.getElem?_append_right (Nat.le_refl _), Nat.sub_self]; rfl, ?_⟩
      rw [upd_ne nTD, upd_same]
/-- ints, in lists, in a list -/
structure LIs (H : Hp) (a : Addr) (css : List (List Int)) (qs : List Addr) : Prop where
  at_ : H a = some (.lst (qs.map V.ref))
  len : qs.length = css.length
  it : ∀ (i : Nat) (q : Addr), qs[i]? = some q → ∃ c, css[i]? = some c ∧ H q = some (.lst (c.map V.int))
theorem LIs.same {H H' : Hp} {a : Addr} {os : List (List Int)} {as : List Addr} (g : LIs H a os as) (s : Same H H') : LIs H' a os as := ⟨s _ _ g.at_, g.len, fun i v h => let ⟨o, h1, h2⟩ := g.it i v h; ⟨o, h1, s _ _ h2⟩⟩
def extO (o c : List Int) : List (List Int) := (c.filter fun i => !o.contains i).map fun i => o ++ [i]
def stepO (os : List (List Int)) (c : List Int) : List (List Int) := os.flatMap fun o => extO o c
def ordersT (css : List (List Int)) : List (List Int) := css.foldl stepO [[]]
theorem extO_len (o c : List Int) : (extO o c).length ≤ c.length := by
  unfold extO
  rw [List.length_map]
  exact List.length_filter_le _ _
theorem extO_succ {o c : List Int} {j : Nat} {z : Int} (h : c[j]? = some z) : extO o (c.take (j + 1)) = extO o (c.take j) ++ (if o.contains z then [] else [o ++ [z]]) := by
  unfold extO
  rw [take_succ_at h, List.filter_append, List.map_append]
  congr 1
  cases hc : o.contains z with
  | true => rw [List.filter_cons_of_neg (by rw [hc]; decide)]; rfl
  | false => rw [List.filter_cons_of_pos (by rw [hc]; rfl)]; rfl
theorem stepO_succ {os : List (List Int)} {c o : List Int} {i : Nat} (h : os[i]? = some o) : stepO (os.take (i + 1)) c = stepO (os.take i) c ++ extO o c := by
  unfold stepO
  rw [take_succ_at h, List.flatMap_append]
  simp
theorem stepO_len {c : List Int} (hc : c.length ≤ 6) : ∀ os : List (List Int), (stepO os c).length ≤ 6 * os.length
  | [] => Nat.le_refl _
  | o :: os => by
    have h1 := stepO_len hc os
    have h2 := extO_len o c
    unfold stepO at h1 ⊢
    rw [List.flatMap_cons, List.length_append, List.length_cons]
    omega
theorem orders_len {css : List (List Int)} (hc : ∀ c ∈ css, c.length ≤ 6) : ∀ k, (ordersT (css.take k)).length ≤ 6 ^ k
  | 0 => Nat.le_refl _
  | k + 1 => by
    have ih := orders_len hc k
    by_cases lt : k < css.length
    · have e : css[k]? = some css[k] := List.getElem?_eq_getElem lt
      unfold ordersT at ih ⊢
      rw [take_succ_at e, List.foldl_append]
      have := stepO_len (hc _ (List.getElem_mem lt)) ((css.take k).foldl stepO [[]])
      rw [Nat.pow_succ]
      show (stepO _ _).length ≤ _
      omega
    · rw [List.take_of_length_le (by omega)]
      rw [List.take_of_length_le (by omega)] at ih
      rw [Nat.pow_succ]
      omega
theorem orders_succ {css : List (List Int)} {k : Nat} {c : List Int} (h : css[k]? = some c) : ordersT (css.take (k + 1)) = stepO (ordersT (css.take k)) c := by
  unfold ordersT
  rw [take_succ_at h, List.foldl_append]
  rfl
theorem orders_each {css : List (List Int)} : ∀ k, ∀ o ∈ ordersT (css.take k), o.length ≤ k
  | 0, o, h => by
    rw [show ordersT (css.take 0) = [[]] from rfl, List.mem_singleton] at h
    rw [h]
    exact Nat.le_refl _
  | k + 1, o, h => by
    by_cases lt : k < css.length
    · have e : css[k]? = some css[k] := List.getElem?_eq_getElem lt
      rw [orders_succ e] at h
      obtain ⟨o1, h1, h2⟩ := List.mem_flatMap.mp h
      obtain ⟨z, _, rfl⟩ := List.mem_map.mp h2
      have := orders_each k o1 h1
      rw [List.length_append]
      show _ + 1 ≤ _
      omega
    · rw [List.take_of_length_le (by omega)] at h
      have := orders_each (css := css) k o (by rw [List.take_of_length_le (by omega)]; exact h)
      omega
theorem eqV_int (a b : Int) : eqV (.int a) (.int b) = decide (a = b) := by
  show (a == b) = decide (a = b)
  by_cases h : a = b
  · rw [h, decide_eq_true rfl]; exact beq_self_eq_true _
  · rw [decide_eq_false h]; exact beq_eq_false_iff_ne.mpr h
theorem inV_int (x : Int) (xs : List Int) : inV (.int x) (xs.map V.int) = xs.contains x := by
  unfold inV
  rw [List.any_map]
  induction xs with
  | nil => rfl
  | cons y r ih =>
    rw [List.any_cons, List.contains_cons, ih]
    congr 1
    show eqV (.int y) (.int x) = _
    rw [eqV_int]
    by_cases h : y = x
    · rw [h, decide_eq_true rfl]; exact (beq_self_eq_true _).symm
    · rw [decide_eq_false h]; exact (beq_eq_false_iff_ne.mpr (Ne.symm h)).symm
theorem notin_b (x : Int) (xs : List Int) : (if true = true then !inV (.int x) (xs.map V.int) else inV (.int x) (xs.map V.int)) = !xs.contains x := (if_pos rfl).trans (congrArg _ (inV_int x xs))
theorem flat_ints (xs : List Int) : (xs.map V.int).all flatV = true := by
  rw [List.all_map]
  exact List.all_eq_true.mpr fun _ _ => rfl
theorem passOwn {X : Cx} {K : Value → Shared → Prop} {E₁ : Value → Shared → Prop} (hx : X.xe = fun e s' => wpAny (model X.prog X.w) X.A (leaving X.env e) (fun _ s'' => K e s'') E₁ s' := by rfl) : PassesOwn (model X.prog X.w) X.A X.env X.xe := passes_of hx
abbrev NOr : List Str := ["choices", "orders", "indices", "order", "index"]
section
variable {P : Program} {w : World} {K : PySem.W.Frag} {mg : Str → Option Value} {base : Heap}
def spOrd : Sp := fun vs H Q _ => ∃ ca css qs, vs = [.ref ca] ∧ LIs H ca css qs ∧ css.length ≤ 6 ∧ (∀ c ∈ css, c.length ≤ 6) ∧ ∀ r H', Same H H' → TT H' r (ordersT css) → Q (.ref r) H'
theorem ok_ord {f : Addr} {fd : FuncData} (F : Fun K "_orders" "_orders" sOrd f fd) (T : Bi mg) : FnOk P w K mg base (L2.CX P w) 3 f fd ["choices"] spOrd := by
  have sc : FnScope NOr ["choices"] (defScope sOrd) := ⟨rfl, rfl, rfl, by decide +kernel, rfl, by decide +kernel, by decide +kernel⟩
  have hN := sc.nd
  refine F.okX sc (fun vs H Q E h => ?_) (fun cdv A outer s H vs Q E hr h => ?_)
  · obtain ⟨ca, css, qs, rfl, _⟩ := h
    rfl
  · obtain ⟨ca, css, qs, rfl, hc, n1, n2, k⟩ := h
    refine ⟨_, pss_cons (ps_set (i := 1) hN rfl (Or.inl rfl) (pe_lst (pa_cons (pe_tup pa_nil) pa_nil)))
      (pss_cons (ps_for passOwn rfl (pi_list (pv 0)) (pg_name (i := 2) hN rfl (Or.inr rfl)) (pss_one (ps_setLc2 (i := 1) (own := [("order", 3), ("index", 4)]) (vs1 := [4]) (g := gName 3) (g1 := gName 4) (tt := tYes) (tt1 := tTest (tOp (rIn K true) (tVar 4) (tVar 3))) (wi1 := iList K (tVar 2)) (te := tTup (tStar K (tVar 3) (tCons (tVar 4) tNil))) rfl hN rfl rfl (sw_true rfl rfl rfl (by decide +kernel)) (pi_list (pv 1))
          (blkOk_by (N := NOr) (sc := defScope sOrd) (by decide +kernel)) (by decide) (fun _ _ _ _ _ => pg_name (i := 3) hN rfl (Or.inl rfl)) (fun _ _ _ _ _ => pts_nil) (fun _ _ _ _ _ => pi_list (pv 2)) (fun _ _ _ _ _ => pg_name (i := 4) hN rfl (Or.inl rfl)) (fun _ _ _ _ _ => pts_one (pt_cmpR op_notIn_seq (pv 4) (pv 3) (by rfl))) (fun _ _ _ _ _ => pe_tup (pa_star (pv 3) (pa_cons (pv 4) pa_nil))))))
      (pss_one (ps_ret (pe_tupleOf (by rfl) T.tuple (pv 1))))), ?_⟩
    have line : 300000 ≤ sizeLine := by decide
    refine ⟨by show 0 ≤ sizeLine; omega, fun t0 nt0 => ⟨by show 1 ≤ sizeLine; omega, fun D0 nD0 => ?_⟩⟩
    have s0 : Same H (upd (upd H t0 (.tup [])) D0 (.lst [V.ref t0])) := (same_upd nt0).trans (same_upd nD0)
    have l0 : LTs (upd (upd H t0 (.tup [])) D0 (.lst [V.ref t0])) D0 (ordersT (css.take 0)) [t0] := by
      refine ⟨upd_same, rfl, fun i q hq => ?_⟩
      match i, hq with
      | 0, hq => cases hq; exact ⟨[], rfl, same_upd nD0 _ _ upd_same⟩
    refine ⟨_, rfl, ca, rfl, ⟨_, SqL.of (s0 _ _ hc.at_)⟩, for_it (walk_list (K := K) (a := ca) (xs := qs.map V.ref)) (fun i σ G => (∃ D as v2, σ = [some (.ref ca), some (.ref D), v2, none, none] ∧ LTs G D (ordersT (css.take i)) as) ∧ Same H G)
      ⟨⟨D0, [t0], none, rfl, l0⟩, s0⟩ (fun i σ G _ ⟨_, sm⟩ => SqL.of (sm _ _ hc.at_)) (fun i v σ G G' hi ⟨⟨D, as, v2, e, lt⟩, sm⟩ ⟨eG, hx⟩ => ?_) (fun σ G ⟨⟨D, as, v2, e, lt⟩, sm⟩ => ?_)⟩
    · subst e eG
      rw [List.getElem?_map] at hx
      obtain ⟨q, hq, rfl⟩ := Option.map_eq_some_iff.mp hx
      obtain ⟨c, hci, hq0⟩ := hc.it i q hq
      have hqG := sm _ _ hq0
      have c6 := n2 c (List.mem_of_getElem? hci)
      have o6 := orders_len n2 i
      rw [orders_succ hci]
      have oL : ∀ o ∈ ordersT (css.take i), o.length ≤ i := fun o h => orders_each i o h
      generalize ordersT (css.take i) = os at lt o6 oL
      have p6 : 6 ^ i ≤ 46656 := by
        have : i < 6 := by rw [List.length_map, hc.len] at hi; omega
        exact Nat.le_trans (Nat.pow_le_pow_right (by decide) (show i ≤ 6 by omega)) (by decide)
      have few : os.length ≤ 46656 := Nat.le_trans o6 p6
      refine ⟨_, rfl, D, rfl, ⟨_, SqL.of lt.at_⟩, fun L nL => ?_⟩
      refine walk_it (walk_list (K := K) (a := D) (xs := as.map V.ref)) (fun j G1 => Same G' G1 ∧ ∃ bs, LTs G1 L (stepO (os.take j) c) bs) ⟨same_upd nL, [], upd_same, rfl, fun i q h => by cases h⟩ (fun j G1 _ ⟨s1, _⟩ => SqL.of (s1 _ _ lt.at_)) (fun j v G1 G2 hj ⟨s1, bs, hb⟩ ⟨eG, hy⟩ => ?_) (fun G1 ⟨s1, bs, hb⟩ => ?_)
      · subst eG
        rw [List.getElem?_map] at hy
        obtain ⟨p, hp, rfl⟩ := Option.map_eq_some_iff.mp hy
        obtain ⟨o, hoj, hpo⟩ := lt.it j p hp
        have hj' : j < os.length := by rw [List.length_map, lt.len] at hj; exact hj
        have bl := stepO_len c6 (os.take j)
        rw [List.length_take] at bl
        rw [stepO_succ hoj]
        generalize stepO (os.take j) c = pre at hb bl
        refine ⟨rfl, yes_go (iteT ⟨_, rfl, q, rfl, ⟨_, SqL.of (s1 _ _ hqG)⟩, ?_⟩)⟩
        refine walk_it (walk_list (K := K) (a := q) (xs := c.map V.int)) (fun m G3 => Same G' G3 ∧ ∃ bs, LTs G3 L (pre ++ extO o (c.take m)) bs) ⟨s1, bs, by rw [List.take_zero, show extO o [] = [] from rfl, List.append_nil]; exact hb⟩ (fun m G3 _ h => SqL.of (h.1 _ _ hqG)) (fun m y G3 G4 hm ⟨s3, bs, hb⟩ ⟨eG, hz⟩ => ?_) (fun G3 ⟨s3, bs, hb⟩ => ?_)
        · subst eG
          rw [List.getElem?_map] at hz
          obtain ⟨z, hzc, rfl⟩ := Option.map_eq_some_iff.mp hz
          have hpo3 := s3 _ _ hpo
          have el := extO_len o (c.take m)
          rw [List.length_take] at el
          refine ⟨rfl, _, rfl, _, rfl, p, _, rfl, .inr (SqT.of hpo3), rfl, flat_ints _, _, rfl, ?_⟩
          rw [notin_b, extO_succ hzc]
          cases hz2 : o.contains z with
          | true => exact iteF ⟨s3, bs, by simpa using hb⟩
          | false =>
            refine iteT ⟨_, rfl, p, _, rfl, .inl (SqT.of hpo3), _, rfl, ?_, fun T nT => ⟨_, same_upd nT _ _ hb.at_, ?_, ?_, ?_⟩⟩
            · rw [List.length_append, List.length_map]
              have := oL o (List.mem_of_getElem? hoj)
              have e : ([V.int z] : List V).length = 1 := rfl
              rw [List.length_map, hc.len] at hi
              show _ + _ ≤ _
              omega
            · rw [List.length_map, hb.len, List.length_append]
              omega
            · exact same_put (s3.trans (same_upd nT)) nL
            · refine ⟨bs ++ [T], ?_⟩
              have := hb.push nT (o ++ [z])
              rw [List.map_append] at this
              rw [← List.append_assoc]
              exact this
        · refine ⟨s3, bs, ?_⟩
          rw [List.length_map, List.take_length] at hb
          exact hb
      · rw [List.length_map, lt.len, List.take_length] at hb
        exact ⟨⟨L, bs, _, rfl, hb⟩, sm.trans s1⟩
    · subst e
      rw [show css.take (qs.map V.ref).length = css by rw [List.length_map, hc.len]; exact List.take_length] at lt
      refine ⟨_, rfl, .inl ⟨D, _, rfl, SqL.of lt.at_, fun r nr => k r _ (sm.trans (same_upd nr)) ⟨as, upd_same, lt.len, fun i q hq => ?_⟩⟩⟩
      obtain ⟨o, h1, h2⟩ := lt.it i q hq
      exact ⟨o, h1, same_upd nr _ _ h2⟩
end
end R50
end

-- SupXF
section
set_option Elab.async false
set_option linter.all false
set_option maxRecDepth 100000
set_option maxHeartbeats 2000000
/-! defs def f(self, name, *v, k = d) whose star tuple is asked for its methods: it stands exactly (frz), so that it is known to have no dict. -/
namespace SupX
open PySem PySem.Spec PyProof.Rows L2 StX
section
variable {CX : CXT} {P : Program} {w : World} {K : PySem.W.Frag} {mg : Str → Option Value} {base : Heap} {k : Nat} {f cda cc D : Addr} {name qual : Str} {params : Arguments} {body : List Stmt} {scope : Scope} {dV kV doc pm ct oc : Value} {an od : Option Addr} {cl : Value} {cld : Option Addr} {csl : Array (Option Value)}
  {osl : Array (Option Value)} {N kn : List Str} {p1 p2 pv : Str} {sp : Sp} {okK : List (Str × V) → Prop} {gV : List (Str × V) → List V}
theorem fnA_F (lk : K.lookup f = some ⟨oc, od, .func (PySem.W.ksFn name qual params body scope dV kV doc pm an (.ref cda) ct cc), osl⟩) (hcd : PySem.W.codeIn K (.ref cda) qual = true) (S : SScope N (p1 :: p2 :: kn ++ [pv]) scope) (hcc : K.lookup cc = some ⟨cl, cld, .cell (some (.ref D)), csl⟩) (hCX : CXUp CX)
    (hb : BindA K (PySem.W.ksFn name qual params body scope dV kV doc pm an (.ref cda) ct cc) p1 p2 kn pv okK gV)
    (hbody : ∀ (A : Around) (outer : List Env) (s : Shared) (H : Hp) (vs : List V) (Q : VK) (E : XK), Room k (A.deeper (envS qual scope s.heap.objs.size f cda cc)) → sp vs H Q E →
      ∃ t, PSsA (cxS CX P w K mg base N qual scope f cda cc A outer s H E) (.func body (envS qual scope s.heap.objs.size f cda cc)) body t ∧ t { nx := fun _ H' => Q .non H', rt := Q } (L2.start N vs) H) :
    FnA P w K mg base CX (k + 1) f (fun vs kv H Q E => ∃ a b rest, vs = a :: b :: rest ∧ okK kv ∧ rest.length ≤ sizeLine ∧ ∀ p o, H p = Option.none → o.dict = Option.none → o.cls = .type "tuple" → sp (a :: b :: gV kv ++ [V.ref p]) (upd H p (.frz o (.tup rest))) Q E) := by
  intro A outer s H us vs ks ws zs Q E hr e0 r rz lz hsp
  obtain ⟨a, b, rest, ev, ok, hz, hq⟩ := hsp
  subst ev
  cases r with
  | cons ra r =>
  cases r with
  | @cons _ ub _ u2 rb r2 =>
  rename_i ua
  obtain ⟨cs, rc, lc, hbind⟩ := hb ks ws zs rz lz ok
  have KX : K.In s.heap := e0.mod.kin.keeps fun b o e => (e0.bs b o e).1
  have hn : H s.heap.objs.size = Option.none := e0.hok.fresh (Nat.le_refl _)
  have hl2 : u2.length ≤ sizeLine := by rw [← r2.length]; exact hz
  refine run_bndS lk hcd S hcc hr e0 (G := fun xs H2 => ∃ p o, H p = Option.none ∧ o.dict = Option.none ∧ o.cls = .type "tuple" ∧ xs = a :: b :: gV (ks.zip zs) ++ [V.ref p] ∧ H2 = upd H p (.frz o (.tup rest))) (fun A' Ex Q' h => ?_) fun s2 H2 xs ⟨p, o, hp, od, oc', ex, eH⟩ hr' => ?_
  · refine hbind _ _ _ _ _ _ _ _ KX ?_
    refine wpAny_bind (wpAny_newTuple (wpAny_pure ?_) hl2)
    have new : ObjOk P w (upd H s.heap.objs.size (.frz ({ cls := .type "tuple", data := .seq u2.toArray } : Obj) (.tup rest))) (s.heap.push ({ cls := .type "tuple", data := .seq u2.toArray } : Obj)) s.heap.objs.size (.frz ({ cls := .type "tuple", data := .seq u2.toArray } : Obj) (.tup rest)) := ⟨Heap.get?_push_size _ rfl, hz, u2, r2, ⟨_, Heap.get?_push_size _ rfl, rfl, _, rfl⟩⟩
    have un := un_laid (fs := frs outer) (s := s) (o := ({ cls := .type "tuple", data := .seq u2.toArray } : Obj)) (u := .frz ({ cls := .type "tuple", data := .seq u2.toArray } : Obj) (.tup rest)) hn
    exact h _ _ (a :: b :: gV (ks.zip zs) ++ [V.ref s.heap.objs.size]) (ua :: ub :: cs ++ [Value.ref s.heap.objs.size]) (env0_laid e0 new) un rfl (fun e s' => hCX outer s H _ _ E e s' un (fun b o q => Heap.get?_push_of_some _ q) rfl) (.cons ra (.cons rb (rc.append (.cons rfl .nil))))
      (by simp only [List.length_append, List.length_cons, List.length_nil, lc]) ⟨_, _, hn, rfl, rfl, rfl, rfl⟩
  · subst ex eH
    exact hbody A outer s2 _ _ Q E hr' (hq p o hp od oc')
end
/-- o.m(..), o a tuple that stands exactly -/
def tBMF (r : V → List V → Hp → VK → Prop) (to : TE) (t : TA) : TE := fun σ H Q => to σ H fun x H1 => (∃ p o u, x = .ref p ∧ H1 p = some (.frz o u) ∧ o.cls = .type "tuple" ∧ o.dict = Option.none) ∧ t σ H1 fun xs H2 => r x xs H2 Q
section
variable {X : Cx} {o e : Expr} {es : List Expr} {to : TE} {t : TA} {name : Str} {apos cpos : Pos} {id : String} {r : V → List V → Hp → VK → Prop}
theorem pe_bmF (pa : PlainAttrs "tuple") (slot : Slot "tuple" name id) (hty : typeOf (.builtin id) = pure (.type "method_descriptor")) (hm : MtR X id r) (ho : PE X o to) (ha : PA X (e :: es) t)
    (hbase : attributeBase o name X.env (eval o X.env) = eval o X.env := by rfl)
    (hfew : ((backTo cpos (starEach (e :: es) X.env)).all (fun x => !x.1) && (backToKw cpos (keywordEach [] X.env)).all (fun x => x.1.isSome)
      && decide ((e :: es).length + ([] : List Keyword).length + (if ([] : List Keyword).isEmpty then 0 else 1) < 30)) = true := by rfl)
    (hline : (apos.endLine == cpos.line) = true := by rfl) (hs : starEach (e :: es) X.env = (false, eval e X.env) :: starEach es X.env := by rfl) (hplain : (backTo cpos (starEach es X.env)).any (·.1) = false := by rfl) :
    PE X (.Call (.Attribute o name apos) (e :: es) [] cpos) (tBMF r to t) := by
  constructor
  intro pins s σ H Q I h
  refine wpAny_Call_method_late hbase hfew hline rfl (thn (ho.run pins s σ H _ I h) fun v s1 ⟨x, H1, I1, r1, ⟨p, ob, u, ex, hp, hc, hd⟩, q1⟩ => ?_)
  subst ex
  cases r1
  have here := (I1.hok p _ hp).1
  refine ⟨"tuple", id, pa, slot, hty, ⟨ob, here, hc⟩, fun a ea => ?_, ?_⟩
  · cases ea
    exact ⟨ob, here, hd⟩
  have args := ha.run cpos pins s1 σ H1 _ I1 q1
  rw [hs] at args ⊢
  refine Calls.callWith_builtin (by show (false || (backTo cpos (starEach es X.env)).any (·.1)) = false; rw [hplain] <;> rfl) (Calls.evalArgs_plain ?_)
  exact thn args fun us s2 ⟨xs, H2, I2, r2, q2⟩ => hm pins s2 σ H2 (.ref p) xs _ us Q I2 rfl r2 q2
end
end SupX
end

-- Y5l
section
set_option Elab.async false
set_option linter.all false
set_option maxRecDepth 100000
set_option exponentiation.threshold 10000
namespace R50
open PySem L2 OwnOps OwnNe G1 StX SupX EnumT
abbrev rTIdx (K : PySem.W.Frag) : V → List V → Hp → VK → Prop := fun x xs H Q => ∃ p, ∃ ys : List Str, ∃ z j, x = .ref p ∧ xs = [.str z] ∧ SqT K H p (ys.map V.str) ∧ ys[j]? = some z ∧ (∀ m, m < j → ys[m]? ≠ some z) ∧ Q (.int (j : Nat)) H
abbrev rJn (K : PySem.W.Frag) : V → List V → Hp → VK → Prop := fun x xs H Q => ∃ a p, ∃ ys : List Str, x = .str a ∧ xs = [.ref p] ∧ (SqL K H p (ys.map V.str) ∨ SqT K H p (ys.map V.str)) ∧ (ys.map (·.length)).sum + ys.length * a.length ≤ 16777216 ∧ Q (.str (Txt.join a ys)) H
abbrev teA (K : PySem.W.Frag) : TE := tLc (iTup K (tVar 3)) (gName 6) (tTest (tOp (rIn K false) (tVar 6) (tVar 7))) (tVar 6) [6]
abbrev teB0 (K : PySem.W.Frag) : TE := tBMF (rTIdx K) (tVar 3) (tCons (tVar 6) tNil)
abbrev teB (K : PySem.W.Frag) : TE := tLc (iList K (tVar 7)) (gName 6) tYes (teB0 K) [6]
abbrev teC (K : PySem.W.Frag) : TE := tCall (spMat K) [] E0 (tCons (tVar 6) (tCons (tVar 3) (tCons (tVar 4) tNil)))
abbrev teE (K : PySem.W.Frag) : TE := tM1 (rJn K) (tC (.str " ")) (tVar 7)
abbrev ttD (K : PySem.W.Frag) : L2.TT := tTest (tOp rEq (tOp (rIxL K) (tVar 7) (tC (.int 0))) (tVar 6))
/-- the groups in the order of the pins -/
def inPins (pins zs : List Str) : List Str := pins.filter fun z => zs.contains z
def gsOf (pins : List Str) (os : List (Option (List Str))) : List (List Str) := os.map fun o => inPins pins (o.getD [])
def ordG (pins : List Str) (gss : List (List Str)) : List (List Str) := pins.flatMap fun pin => gss.filter fun g => decide (g.head? = some pin)
theorem gsOf_succ {pins : List Str} {os : List (Option (List Str))} {i : Nat} {o : Option (List Str)} (h : os[i]? = some o) : gsOf pins (os.take (i + 1)) = gsOf pins (os.take i) ++ [inPins pins (o.getD [])] := by
  unfold gsOf
  rw [take_succ_at h, List.map_append]
  rfl
theorem inPins_succ {pins zs : List Str} {j : Nat} {z : Str} (h : pins[j]? = some z) : inPins (pins.take (j + 1)) zs = inPins (pins.take j) zs ++ (if zs.contains z then [z] else []) := by
  unfold inPins
  rw [take_succ_at h, List.filter_append]
  congr 1
  cases hc : zs.contains z with
  | true => rw [List.filter_cons_of_pos hc]; rfl
  | false => rw [List.filter_cons_of_neg (by rw [hc]; decide)]; rfl
theorem inPins_len (pins zs : List Str) : (inPins pins zs).length ≤ pins.length := List.length_filter_le _ _
theorem LLt.push {G : Hp} {D q : Addr} {gss : List (List Str)} {qs : List Addr} {g : List Str} (h : LLt G D gss qs) (e : G q = some (.lst (g.map V.str))) (ne : q ≠ D) : LLt (upd G D (.lst (qs.map V.ref ++ [V.ref q]))) D (gss ++ [g]) (qs ++ [q]) where
  at_ := by rw [upd_same, List.map_append]; rfl
  len := by rw [List.length_append, List.length_append, h.len]; rfl
  it := fun i a ha => by
    by_cases lt : i < qs.length
    · rw [List.getElem?_append_left lt] at ha
      obtain ⟨g', h1, h2⟩ := h.it i a ha
      have nD : a ≠ D := fun z => by
        rw [z, h.at_] at h2
        cases qs with
        | nil => cases ha
        | cons b bs =>
          have h2 : (HO.lst (List.map V.ref (b :: bs))) = HO.lst (List.map V.str g') := Option.some.inj h2
          cases g' with
          | nil => cases h2
          | cons c cs => cases h2
      exact ⟨g', by rw [List.getElem?_append_left (h.len ▸ lt)]; exact h1, by rw [upd_ne nD]; exact h2⟩
    · have lt2 := (List.getElem?_eq_some_iff.mp ha).1
      rw [List.length_append, List.length_singleton] at lt2
      have e1 : i = qs.length := by omega
      subst e1
      rw [List.getElem?_append_right (Nat.le_refl _), Nat.sub_self] at ha
      cases ha
      exact ⟨g, by rw [h.len, List.getElem?_append_right (Nat.le_refl _), Nat.sub_self]; rfl, by rw [upd_ne ne]; exact e⟩
theorem LIs.push {G : Hp} {D q : Addr} {gss : List (List Int)} {qs : List Addr} {g : List Int} (h : LIs G D gss qs) (e : G q = some (.lst (g.map V.int))) (ne : q ≠ D) : LIs (upd G D (.lst (qs.map V.ref ++ [V.ref q]))) D (gss ++ [g]) (qs ++ [q]) where
  at_ := by rw [upd_same, List.map_append]; rfl
  len := by rw [List.length_append, List.length_append, h.len]; rfl
  it := fun i a ha => by
    by_cases lt : i < qs.length
    · rw [List.getElem?_append_left lt] at ha
      obtain ⟨g', h1, h2⟩ := h.it i a ha
      have nD : a ≠ D := fun z => by
        rw [z, h.at_] at h2
        cases qs with
        | nil => cases ha
        | cons b bs =>
          have h2 : (HO.lst (List.map V.ref (b :: bs))) = HO.lst (List.map V.int g') := Option.some.inj h2
          cases g' with
          | nil => cases h2
          | cons c cs => cases h2
      exact ⟨g', by rw [List.getElem?_append_left (h.len ▸ lt)]; exact h1, by rw [upd_ne nD]; exact h2⟩
    · have lt2 := (List.getElem?_eq_some_iff.mp ha).1
      rw [List.length_append, List.length_singleton] at lt2
      have e1 : i = qs.length := by omega
      subst e1
      rw [List.getElem?_append_right (Nat.le_refl _), Nat.sub_self] at ha
      cases ha
      exact ⟨g, by rw [h.len, List.getElem?_append_right (Nat.le_refl _), Nat.sub_self]; rfl, by rw [upd_ne ne]; exact e⟩
/-- the indices of a group's pins -/
def gix (pins : List Str) (g : List Str) : List Int := g.map fun z => ((pins.findIdx (· == z) : Nat) : Int)
theorem first_at {z : Str} : ∀ {ys : List Str}, z ∈ ys → ∃ j : Nat, ys[j]? = some z ∧ ∀ m : Nat, m < j → ys[m]? ≠ some z
  | y :: ys, h => by
    by_cases e : y = z
    · exact ⟨0, by rw [e]; rfl, fun m h => by omega⟩
    · obtain ⟨j, h1, h2⟩ := first_at (ys := ys) ((List.mem_cons.mp h).resolve_left (fun z => e z.symm))
      refine ⟨j + 1, h1, fun m hm => ?_⟩
      cases m with
      | zero => exact fun w => e (Option.some.inj w)
      | succ m => exact h2 m (by omega)
section
variable {K : PySem.W.Frag} {G : Hp} {Q : VK} {sa pa gb ob : Addr} {y0 y1 y2 y3 y4 y5 y6 y7 : Option V} {pins : List Str}
theorem lcA {gs : List V} {os : List (Option (List Str))} (gr : Grs K G sa gs os) (ok : os.all gOk = true) (hpa : SqT K G pa (pins.map V.str)) (n6 : pins.length ≤ 6) (n10 : gs.length ≤ 10)
    (fin : ∀ D qs G', Same G G' → LLt G' D (gsOf pins os) qs → Q (.ref D) G') : tLc (iTup K (tVar 2)) (gName 7) tYes (teA K) [7] [y0, y1, some (.ref sa), some (.ref pa), y4, y5, y6, y7] G Q := by
  have line : 1000 ≤ sizeLine := by decide
  refine ⟨_, rfl, sa, rfl, ⟨_, gr.at_⟩, fun D nD => ?_⟩
  refine walk_it (walk_tup (K := K) (a := sa) (xs := gs)) (fun i G1 => Same G G1 ∧ ∃ qs, LLt G1 D (gsOf pins (os.take i)) qs) ⟨same_upd nD, [], upd_same, rfl, fun i q h => by cases h⟩ (fun i G1 _ ⟨sm, _⟩ => Same.tupS sm gr.at_) (fun i v G1 G2 hi ⟨sm, qs, lt⟩ ⟨e, hx⟩ => ?_) (fun G1 ⟨sm, qs, lt⟩ => ?_)
  · subst e
    obtain ⟨o, ho, g⟩ := gr.it i v hx
    have g := g.same sm
    have okO : gOk o = true := List.all_eq_true.mp ok o (List.mem_of_getElem? ho)
    cases g with
    | str x => cases okO
    | lst h => cases okO
    | @tup q zs h1 =>
    have hpa1 := Same.tupS sm hpa
    refine ⟨rfl, yes_go (iteT ⟨_, rfl, pa, rfl, ⟨_, hpa1⟩, fun D2 nD2 => ?_⟩)⟩
    have n2 : D2 ≠ D := fun z => by rw [z, lt.at_] at nD2; cases nD2
    refine walk_it (walk_tup (K := K) (a := pa) (xs := pins.map V.str)) (fun j G3 => Same G2 G3 ∧ G3 D2 = some (.lst ((inPins (pins.take j) zs).map V.str))) ⟨same_upd nD2, upd_same⟩ (fun j G3 _ ⟨s3, _⟩ => Same.tupS s3 hpa1) (fun j y G3 G4 hj ⟨s3, hD2⟩ ⟨e, hy⟩ => ?_) (fun G3 ⟨s3, hD2⟩ => ?_)
    · subst e
      rw [List.getElem?_map] at hy
      obtain ⟨z, hz, rfl⟩ := Option.map_eq_some_iff.mp hy
      refine ⟨rfl, _, rfl, _, rfl, q, _, rfl, .inr (SqT.of (s3 _ _ h1)), rfl, flat_strs _, _, rfl, ?_⟩
      rw [in_b, inPins_succ hz]
      cases hc : zs.contains z with
      | false => exact iteF ⟨s3, by simpa using hD2⟩
      | true =>
        refine iteT ⟨_, rfl, _, hD2, ?_, same_put s3 nD2, by rw [upd_same, List.map_append]; rfl⟩
        have := inPins_len (pins.take j) zs
        rw [List.length_take] at this
        rw [List.length_map]
        omega
    · rw [List.length_map, List.take_length] at hD2
      have lt3 := lt.same s3
      refine ⟨_, lt3.at_, ?_, same_put (sm.trans s3) nD, qs ++ [D2], ?_⟩
      · rw [List.length_map, lt.len]
        unfold gsOf
        rw [List.length_map, List.length_take]
        have := gr.len
        omega
      · rw [gsOf_succ ho]
        exact lt3.push hD2 n2
  · rw [show os.take gs.length = os by rw [gr.len]; exact List.take_length] at lt
    exact fin D qs G1 sm lt
theorem findIdx_at {z : Str} : ∀ {ys : List Str} {m : Nat}, ys[m]? = some z → (∀ k : Nat, k < m → ys[k]? ≠ some z) → ys.findIdx (· == z) = m
  | [], m, h, _ => by cases h
  | y :: ys, 0, h, _ => by
    have e : y = z := Option.some.inj h
    rw [List.findIdx_cons, e, beq_self_eq_true]
    rfl
  | y :: ys, m + 1, h, n => by
    have ne : (y == z) = false := by
      rw [beq_eq_false_iff_ne]
      intro e
      exact n 0 (Nat.succ_pos _) (by rw [e]; rfl)
    rw [List.findIdx_cons, ne, findIdx_at (ys := ys) (m := m) h fun k hk => n (k + 1) (by omega)]
    rfl
theorem lcB {gss : List (List Str)} {qs : List Addr} {o : Obj} (L : LLt G gb gss qs) (hf : G pa = some (.frz o (.tup (pins.map V.str)))) (od : o.dict = none) (oc : o.cls = .type "tuple") (sub : ∀ g ∈ gss, ∀ z ∈ g, z ∈ pins) (n6 : ∀ g ∈ gss, g.length ≤ 6) (n10 : gss.length ≤ 10)
    (fin : ∀ D rs G', G D = none → Same G G' → LIs G' D (gss.map (gix pins)) rs → Q (.ref D) G') : tLc (iList K (tVar 4)) (gName 7) tYes (teB K) [7] [y0, y1, y2, some (.ref pa), some (.ref gb), y5, y6, y7] G Q := by
  have line : 1000 ≤ sizeLine := by decide
  refine ⟨_, rfl, gb, rfl, ⟨_, SqL.of L.at_⟩, fun D nD => ?_⟩
  refine walk_it (walk_list (K := K) (a := gb) (xs := qs.map V.ref)) (fun i G1 => Same G G1 ∧ ∃ rs, LIs G1 D ((gss.take i).map (gix pins)) rs) ⟨same_upd nD, [], upd_same, rfl, fun i q h => by cases h⟩ (fun i G1 _ ⟨sm, _⟩ => SqL.of (sm _ _ L.at_)) (fun i v G1 G2 hi ⟨sm, rs, lt⟩ ⟨e, hx⟩ => ?_) (fun G1 ⟨sm, rs, lt⟩ => ?_)
  · subst e
    rw [List.getElem?_map] at hx
    obtain ⟨q, hq, rfl⟩ := Option.map_eq_some_iff.mp hx
    obtain ⟨g, hg, hq0⟩ := L.it i q hq
    have hq1 := sm _ _ hq0
    have mem := List.mem_of_getElem? hg
    have gl := n6 g mem
    refine ⟨rfl, yes_go (iteT ⟨_, rfl, q, rfl, ⟨_, SqL.of hq1⟩, fun D2 nD2 => ?_⟩)⟩
    refine walk_it (walk_list (K := K) (a := q) (xs := g.map V.str)) (fun j G3 => Same G2 G3 ∧ G3 D2 = some (.lst ((gix pins (g.take j)).map V.int))) ⟨same_upd nD2, upd_same⟩ (fun j G3 _ ⟨s3, _⟩ => SqL.of (s3 _ _ hq1)) (fun j y G3 G4 hj ⟨s3, hD2⟩ ⟨e, hy⟩ => ?_) (fun G3 ⟨s3, hD2⟩ => ?_)
    · subst e
      rw [List.getElem?_map] at hy
      obtain ⟨z, hz, rfl⟩ := Option.map_eq_some_iff.mp hy
      obtain ⟨m, hm, hmin⟩ := first_at (sub g mem z (List.mem_of_getElem? hz))
      have hf3 := s3 _ _ (sm _ _ hf)
      rw [List.length_map] at hj
      refine ⟨rfl, yes_go (iteT ⟨_, rfl, ⟨pa, o, _, rfl, hf3, oc, od⟩, _, rfl, pa, pins, z, m, rfl, rfl, .inl (.inr ⟨o, hf3⟩), hm, hmin, _, hD2, ?_, same_put s3 nD2, ?_⟩)⟩
      · unfold gix
        rw [List.length_map, List.length_map, List.length_take]
        omega
      · rw [upd_same]
        unfold gix
        rw [take_succ_at hz, List.map_append, List.map_append, List.map_cons, List.map_nil, List.map_cons, List.map_nil, findIdx_at hm hmin]
        try rfl
    · rw [List.length_map, List.take_length] at hD2
      have lt3 := lt.same s3
      have hD := lt.at_
      have ne : D2 ≠ D := fun w => by
        rw [w, hD] at nD2
        cases nD2
      refine ⟨_, lt3.at_, ?_, same_put (sm.trans s3) nD, rs ++ [D2], ?_⟩
      · rw [List.length_map, lt.len, List.length_map, List.length_take]
        rw [List.length_map, L.len] at hi
        omega
      · rw [take_succ_at hg, List.map_append]
        exact lt3.push hD2 ne
  · rw [List.length_map, L.len, List.take_length] at lt
    exact fin D rs G1 nD sm lt
theorem lcC {gss : List (List Str)} {qs : List Addr} (L : LLt G gb gss qs) (hpa : SqT K G pa (pins.map V.str)) (n6 : pins.length ≤ 6) (n10 : gss.length ≤ 10) (nf : gss.flatten.length ≤ 100)
    (fin : ∀ D rs G', Same G G' → LIs G' D (pins.map fun z => (matesT z pins gss).map Int.ofNat) rs → Q (.ref D) G') : tLc (iTup K (tVar 3)) (gName 6) tYes (teC K) [6] [y0, y1, y2, some (.ref pa), some (.ref gb), y5, y6, y7] G Q := by
  have line : 1000 ≤ sizeLine := by decide
  refine ⟨_, rfl, pa, rfl, ⟨_, hpa⟩, fun D nD => ?_⟩
  refine walk_it (walk_tup (K := K) (a := pa) (xs := pins.map V.str)) (fun i G1 => Same G G1 ∧ ∃ rs, LIs G1 D ((pins.take i).map fun z => (matesT z pins gss).map Int.ofNat) rs) ⟨same_upd nD, [], upd_same, rfl, fun i q h => by cases h⟩ (fun i G1 _ ⟨sm, _⟩ => Same.tupS sm hpa) (fun i v G1 G2 hi ⟨sm, rs, lt⟩ ⟨e, hx⟩ => ?_) (fun G1 ⟨sm, rs, lt⟩ => ?_)
  · subst e
    rw [List.getElem?_map] at hx
    obtain ⟨z, hz, rfl⟩ := Option.map_eq_some_iff.mp hx
    rw [List.length_map] at hi
    refine ⟨rfl, yes_go (iteT ⟨_, rfl, _, rfl, _, rfl, z, pa, pins, gb, gss, qs, rfl, Same.tupS sm hpa, L.same sm, by omega, by omega, nf, fun r G3 s3 hr => ?_⟩)⟩
    have lt3 := lt.same s3
    have hr : G3 r = some (.lst (((matesT z pins gss).map Int.ofNat).map V.int)) := by
      rw [hr, List.map_map]
      rfl
    have some_ : i ∈ matesT z pins gss := by
      unfold matesT mTo
      rw [List.mem_filter, List.mem_range]
      refine ⟨hi, ?_⟩
      unfold mOk
      rw [getD_at hz, decide_eq_true rfl]
      rfl
    have ne : r ≠ D := fun w => by
      rw [w, lt3.at_] at hr
      cases hm : matesT z pins gss with
      | nil => rw [hm] at some_; cases some_
      | cons a b =>
        rw [hm] at hr
        cases rs with
        | nil => cases hr
        | cons c d => cases hr
    refine ⟨_, lt3.at_, ?_, same_put (sm.trans s3) nD, rs ++ [r], ?_⟩
    · rw [List.length_map, lt.len, List.length_map, List.length_take]
      omega
    · rw [take_succ_at hz, List.map_append]
      exact lt3.push hr ne
  · rw [List.length_map, List.take_length] at lt
    exact fin D rs G1 sm lt
theorem lcD {gss : List (List Str)} {qs : List Addr} (L : LLt G gb gss qs) (hpa : SqT K G pa (pins.map V.str)) (n6 : pins.length ≤ 6) (n10 : gss.length ≤ 10) (ne : ∀ g ∈ gss, g ≠ [])
    (fin : ∀ D rs G', Same G G' → LLt G' D (ordG pins gss) rs → Q (.ref D) G') : tLc2 (iTup K (tVar 3)) (gName 6) tYes (iList K (tVar 4)) (gName 7) (ttD K) (tVar 7) [6, 7] [7] [y0, y1, y2, some (.ref pa), some (.ref gb), y5, y6, y7] G Q := by
  have line : 1000 ≤ sizeLine := by decide
  have ordL : ∀ i, (ordG (pins.take i) gss).length ≤ i * 10 := fun i => by
    unfold ordG
    induction i with
    | zero => exact Nat.le_refl _
    | succ i ih =>
      by_cases lt : i < pins.length
      · rw [take_succ_at (List.getElem?_eq_getElem lt), List.flatMap_append, List.length_append]
        have := List.length_filter_le (fun g : List Str => decide (g.head? = some pins[i])) gss
        simp only [List.flatMap_cons, List.flatMap_nil, List.append_nil]
        omega
      · rw [List.take_of_length_le (by omega)]
        rw [List.take_of_length_le (by omega)] at ih
        omega
  refine ⟨_, rfl, pa, rfl, ⟨_, hpa⟩, fun D nD => ?_⟩
  refine walk_it (walk_tup (K := K) (a := pa) (xs := pins.map V.str)) (fun i G1 => Same G G1 ∧ ∃ rs, LLt G1 D (ordG (pins.take i) gss) rs) ⟨same_upd nD, [], upd_same, rfl, fun i q h => by cases h⟩ (fun i G1 _ ⟨sm, _⟩ => Same.tupS sm hpa) (fun i v G1 G2 hi ⟨sm, rs, lt⟩ ⟨e, hx⟩ => ?_) (fun G1 ⟨sm, rs, lt⟩ => ?_)
  · subst e
    rw [List.getElem?_map] at hx
    obtain ⟨pin, hp, rfl⟩ := Option.map_eq_some_iff.mp hx
    have Lg := (L.same sm).at_
    have oL := ordL i
    rw [List.length_map] at hi
    have os : ordG (pins.take (i + 1)) gss = ordG (pins.take i) gss ++ gss.filter fun g => decide (g.head? = some pin) := by
      unfold ordG
      rw [take_succ_at hp, List.flatMap_append]
      simp
    rw [os]
    generalize ordG (pins.take i) gss = pre at lt oL
    refine ⟨rfl, yes_go (iteT ⟨_, rfl, gb, rfl, ⟨_, SqL.of Lg⟩, ?_⟩)⟩
    refine walk_it (walk_list (K := K) (a := gb) (xs := qs.map V.ref)) (fun j G3 => Same G G3 ∧ ∃ rs, LLt G3 D (pre ++ (gss.take j).filter fun g => decide (g.head? = some pin)) rs) ⟨sm, rs, by rw [List.take_zero, List.filter_nil, List.append_nil]; exact lt⟩ (fun j G3 _ h => SqL.of (h.1 _ _ L.at_)) (fun j y G3 G4 hj ⟨s3, rs, l3⟩ ⟨e, hy⟩ => ?_) (fun G3 ⟨s3, rs, l3⟩ => ?_)
    · subst e
      rw [List.getElem?_map] at hy
      obtain ⟨q, hq, rfl⟩ := Option.map_eq_some_iff.mp hy
      obtain ⟨g, hg, hq0⟩ := L.it j q hq
      have nqD : q ≠ D := fun w => by rw [w, nD] at hq0; cases hq0
      have hq3 := s3 _ _ hq0
      rw [List.length_map, L.len] at hj
      cases g with
      | nil => exact absurd rfl (ne [] (List.mem_of_getElem? hg))
      | cons z zs =>
      refine ⟨rfl, _, rfl, q, _, 0, .str z, rfl, rfl, SqL.of hq3, at_hd rfl, _, rfl, rfl, _, rfl, ?_⟩
      have e1 : decide (V.str z = V.str pin) = decide ((z :: zs).head? = some pin) := by
        rw [decide_eq_decide]
        exact ⟨fun h => by rw [V.str.inj h]; rfl, fun h => by rw [Option.some.inj h]⟩
      rw [e1, take_succ_at hg, List.filter_append, ← List.append_assoc]
      have fl := List.length_filter_le (fun g : List Str => decide (g.head? = some pin)) (gss.take j)
      rw [List.length_take] at fl
      cases hc : decide ((z :: zs).head? = some pin) with
      | false =>
        refine iteF ⟨s3, rs, ?_⟩
        rw [List.filter_cons_of_neg (by rw [hc]; decide), List.filter_nil, List.append_nil]
        exact l3
      | true =>
        refine iteT ⟨_, rfl, _, l3.at_, ?_, same_put s3 nD, rs ++ [q], ?_⟩
        · rw [List.length_map, l3.len, List.length_append]
          omega
        · rw [show List.filter (fun g => decide (g.head? = some pin)) [z :: zs] = [z :: zs] from List.filter_cons_of_pos (p := fun g : List Str => decide (g.head? = some pin)) hc]
          exact l3.push hq3 nqD
    · rw [List.length_map, L.len, List.take_length] at l3
      exact ⟨s3, rs, l3⟩
  · rw [List.length_map, List.take_length] at lt
    exact fin D rs G1 sm lt
theorem lcE {ogs : List (List Str)} {rs : List Addr} (L : LLt G ob ogs rs) (n : ogs.length ≤ 100) (gl : ∀ g ∈ ogs, g.length ≤ 6 ∧ ∀ z ∈ g, z.length ≤ 12)
    (fin : ∀ D G', Same G G' → G' D = some (.lst ((ogs.map (Txt.join " ")).map V.str)) → Q (.ref D) G') : tLc (iList K (tVar 5)) (gName 7) tYes (teE K) [7] [y0, y1, y2, y3, y4, some (.ref ob), y6, y7] G Q := by
  have line : 1000 ≤ sizeLine := by decide
  have one : (Str.ofString " ").length = 1 := by decide +kernel
  refine ⟨_, rfl, ob, rfl, ⟨_, SqL.of L.at_⟩, fun D nD => ?_⟩
  refine walk_it (walk_list (K := K) (a := ob) (xs := rs.map V.ref)) (fun i G1 => Same G G1 ∧ G1 D = some (.lst (((ogs.take i).map (Txt.join " ")).map V.str))) ⟨same_upd nD, upd_same⟩ (fun i G1 _ ⟨sm, _⟩ => SqL.of (sm _ _ L.at_)) (fun i v G1 G2 hi ⟨sm, hD⟩ ⟨e, hx⟩ => ?_) (fun G1 ⟨sm, hD⟩ => ?_)
  · subst e
    rw [List.getElem?_map] at hx
    obtain ⟨q, hq, rfl⟩ := Option.map_eq_some_iff.mp hx
    obtain ⟨g, hg, hq0⟩ := L.it i q hq
    obtain ⟨g6, g12⟩ := gl g (List.mem_of_getElem? hg)
    have su : (g.map (·.length)).sum ≤ 12 * g.length := sum_le fun z hz => g12 z hz
    refine ⟨rfl, yes_go (iteT ⟨⟨_, rfl⟩, _, rfl, " ", q, g, rfl, rfl, .inl (SqL.of (sm _ _ hq0)), by rw [one]; omega, _, hD, ?_, same_put sm nD, ?_⟩)⟩
    · rw [List.length_map, List.length_map, List.length_take]
      omega
    · rw [upd_same, take_succ_at hg, List.map_append, List.map_append]
      rfl
  · rw [List.length_map, L.len, List.take_length] at hD
    exact fin D G1 sm hD
end
end R50
end

-- Y5m
section
set_option Elab.async false
set_option linter.all false
set_option maxRecDepth 100000
set_option exponentiation.threshold 10000
namespace R50
open PySem L2 OwnOps OwnNe G1 StX SupX EnumT
abbrev NPn : List Str := ["self", "name", "swaps", "pins", "groups", "ordered", "pin", "group"]
abbrev scA : Scope := { kind := .function, names := [(".0", .local), ("group", .cell), ("pins", .cell)], isGenerator := false, isCoroutine := false, more := [] }
abbrev scB : Scope := { kind := .function, names := [(".0", .local), ("group", .local), ("pins", .cell)], isGenerator := false, isCoroutine := false, more := [] }
abbrev scA0 : Scope := { kind := .function, names := [(".0", .local), ("group", .cell), ("pins", .free)], isGenerator := false, isCoroutine := false, more := [] }
abbrev scB0 : Scope := { kind := .function, names := [(".0", .local), ("group", .local), ("pins", .free)], isGenerator := false, isCoroutine := false, more := [] }
def gssT (pins : List Str) (os : List (Option (List Str))) : List (List Str) := gsOf pins os
def pinO (pins : List Str) (gss : List (List Str)) : List (List Int) := ordersT (pins.map fun z => (matesT z pins gss).map Int.ofNat)
def pinT (x : Str) (pins : List Str) (gss : List (List Str)) : Str := worded (("pins" : Str) :: x :: pins) (Txt.join " , " ((ordG pins gss).map (Txt.join " ")))
/-- the list of its groups is new -/
def GFr (H H' : Hp) (p : Addr) : Prop := ∀ (C dx : Addr) (fs : List (Str × V)) (ga : Addr), H' p = some (.ins C dx fs) → fs.lookup ("_groups" : Str) = some (.ref ga) → H ga = none
/-- a pin kind's instance, behind its __init__ -/
structure PinI (K : PySem.W.Frag) (H : Hp) (p C dx : Addr) (x : Str) (pins : List Str) (gss : List (List Str)) : Prop where
  ex : ∃ pa ca oa ga, H p = some (.ins C dx (kf (.str x) (.ref pa) (.ref ca) (.bl false) (.ref oa) (.str (pinT x pins gss)) ++ [(("_groups" : Str), .ref ga)])) ∧ SqT K H pa (pins.map V.str) ∧ H ca = some (.tup []) ∧ TT H oa (pinO pins gss) ∧ ∃ rs, LIs H ga (gss.map (gix pins)) rs
theorem kf_glook {nm pins ctl isp ords line g : V} : (kf nm pins ctl isp ords line ++ [(("_groups" : Str), g)]).lookup ("_groups" : Str) = some g := by kernel_rfl
theorem Gr.sameX {p C dx : Addr} {fs : List (Str × V)} {H H' : Hp} {v : V} {o : Option (List Str)} (g : Gr H v o) (hp : H p = some (.ins C dx fs)) (s : SameX p H H') : Gr H' v o := by
  cases g with
  | tup e => exact .tup (s _ _ (fun z => by rw [z, hp] at e; cases e) e)
  | lst e => exact .lst (s _ _ (fun z => by rw [z, hp] at e; cases e) e)
  | str x => exact .str x
theorem sqtX {K : PySem.W.Frag} {p C dx a : Addr} {fs : List (Str × V)} {xs : List V} {H H' : Hp} (hp : H p = some (.ins C dx fs)) (s : SameX p H H') (h : SqT K H a xs) : SqT K H' a xs := by
  have ne : ∀ o, H a = some o → (∀ C dx fs, o ≠ .ins C dx fs) → H' a = some o := fun o e n => s _ _ (fun z => by rw [z, hp] at e; exact n _ _ _ (Option.some.inj e).symm) e
  rcases h with (h | ⟨o, h⟩) | h
  · exact .inl (.inl (ne _ h fun _ _ _ z => by cases z))
  · exact .inl (.inr ⟨o, ne _ h fun _ _ _ z => by cases z⟩)
  · exact .inr h
theorem Grs.sameX {K : PySem.W.Frag} {p C dx : Addr} {fs : List (Str × V)} {H H' : Hp} {a : Addr} {gs : List V} {os : List (Option (List Str))} (g : Grs K H a gs os) (hp : H p = some (.ins C dx fs)) (s : SameX p H H') : Grs K H' a gs os :=
  ⟨sqtX hp s g.at_, g.len, fun i v h => let ⟨o, h1, h2⟩ := g.it i v h; ⟨o, h1, h2.sameX hp s⟩⟩
theorem ordG_len (pins : List Str) (gss : List (List Str)) : (ordG pins gss).length ≤ pins.length * gss.length := by
  unfold ordG
  induction pins with
  | nil => simp
  | cons z r ih =>
    have := List.length_filter_le (fun g : List Str => decide (g.head? = some z)) gss
    rw [List.flatMap_cons, List.length_append, List.length_cons, Nat.succ_mul]
    omega
theorem ordG_mem {pins : List Str} {gss : List (List Str)} {g : List Str} (h : g ∈ ordG pins gss) : g ∈ gss := by
  obtain ⟨z, _, h2⟩ := List.mem_flatMap.mp h
  exact (List.mem_filter.mp h2).1
theorem flat_len {gss : List (List Str)} {n : Nat} (h : ∀ g ∈ gss, g.length ≤ n) : gss.flatten.length ≤ n * gss.length := by
  induction gss with
  | nil => simp
  | cons g r ih =>
    have h1 := h g List.mem_cons_self
    have h2 := ih fun z hz => h z (List.mem_cons_of_mem _ hz)
    rw [List.flatten_cons, List.length_append, List.length_cons, Nat.mul_succ]
    omega
theorem grp_ne {os : List (Option (List Str))} {pins : List Str} (h : grpB os pins = true) : ∀ g ∈ gsOf pins os, g ≠ [] := by
  intro g hg
  obtain ⟨o, ho, rfl⟩ := List.mem_map.mp hg
  unfold grpB at h
  rw [Bool.and_eq_true, Bool.and_eq_true] at h
  have h1 := List.all_eq_true.mp h.1 o ho
  cases o with
  | none => cases h1
  | some zs =>
    have h2 : 2 ≤ zs.length := of_decide_eq_true h1
    cases zs with
    | nil => exact absurd h2 (by decide)
    | cons z r =>
      have hz : z ∈ texts os := List.mem_flatMap.mpr ⟨some (z :: r), ho, List.mem_cons_self⟩
      have h3 := List.all_eq_true.mp h.2.2 z hz
      have hp : z ∈ pins := List.contains_iff_mem.mp h3
      intro e
      have : z ∈ inPins pins (z :: r) := List.mem_filter.mpr ⟨hp, List.contains_iff_mem.mpr List.mem_cons_self⟩
      rw [show inPins pins ((some (z :: r)).getD []) = inPins pins (z :: r) from rfl] at e
      rw [e] at this
      cases this
theorem gs_sub {os : List (Option (List Str))} {pins : List Str} : ∀ g ∈ gsOf pins os, ∀ z ∈ g, z ∈ pins := by
  intro g hg z hz
  obtain ⟨o, _, rfl⟩ := List.mem_map.mp hg
  exact (List.mem_filter.mp hz).1
theorem gs_len {os : List (Option (List Str))} {pins : List Str} : ∀ g ∈ gsOf pins os, g.length ≤ pins.length := by
  intro g hg
  obtain ⟨o, _, rfl⟩ := List.mem_map.mp hg
  exact inPins_len _ _
section
variable {P : Program} {w : World} {K : PySem.W.Frag} {mg : Str → Option Value} {base : Heap} {D CK fCK CN DI gK : Addr}
def spPinB (K : PySem.W.Frag) (CN CK DI gK : Addr) : Sp := fun vs H Q E => ∃ (p dx C pa : Addr) (v sv : V) (rest : List V) (o : Obj), vs = [.ref p, v, sv, .ref pa] ∧ H p = some (.ins C dx []) ∧ H pa = some (.frz o (.tup rest)) ∧ o.dict = none ∧ o.cls = .type "tuple" ∧ KCls K C ∧ SupAt K C DI "__init__" gK ∧
  Av H v ∧ Shr v ∧ 1 ≤ rest.length ∧ rest.length ≤ 6 ∧ (∀ y ∈ rest, Av H y ∧ Shr y) ∧
  ((wdV v = false ∧ ∀ e H', SameX p H H' → H' e = some (xd v) → E (.ref CN) (some e) H') ∨
   (wdV v = true ∧ difV rest = false ∧ ∀ e H', SameX p H H' → H' e = some (xd (.ref pa)) → E (.ref CK) (some e) H') ∨
   (∃ x pins, v = .str x ∧ rest = pins.map V.str ∧ wd x = true ∧ difV rest = true ∧ (∀ z ∈ pins, z.length ≤ 12) ∧
     ((Av H sv ∧ (∀ a xs, sv = .ref a → H a ≠ some (.tup xs)) ∧ ∀ e H', SameX p H H' → H' e = some (xd sv) → E (.ref CK) (some e) H') ∨
      ∃ a gs os, sv = .ref a ∧ Grs K H a gs os ∧ gs.length ≤ 10 ∧ (texts os).length ≤ 40 ∧ (∀ z ∈ texts os, z.length ≤ 1000) ∧
        ((grpB os pins = false ∧ ∀ e H', SameX p H H' → H' e = some (xd sv) → E (.ref CK) (some e) H') ∨
         (grpB os pins = true ∧ ∀ H', SameX p H H' → PinI K H' p C dx x pins (gsOf pins os) → GFr H H' p → Q .non H')))))
def okP (kv : List (Str × V)) : Prop := kv = [] ∨ ∃ v, kv = [(("swaps" : Str), v)]
def gP (sd : Addr) (kv : List (Str × V)) : List V := [(kv.lookup ("swaps" : Str)).getD (.ref sd)]
theorem bind_pin {kV doc pm ct : Value} {an : Option Addr} {cda cc sd : Addr} (kd : KwdV K kV [("swaps", .ref sd)]) : BindA K (PySem.W.ksFn "__init__" "PinKind.__init__" (defArgs (sPin 0)) (defBody (sPin 0)) (defScope (sPin 0)) .none kV doc pm an (.ref cda) ct cc) "self" "name" ["swaps"] "pins" okP (gP sd) := by
  intro ks ws zs rz lz ok
  rcases ok with e | ⟨v, e⟩
  · have e1 : zs = [] := by
      cases zs with
      | nil => rfl
      | cons z zs => cases ks with
        | nil => cases lz
        | cons k ks => cases e
    subst e1
    have e2 : ks = [] := List.length_eq_zero_iff.mp lz.symm
    subst e2
    cases rz
    rcases kd with z | ⟨Dk, rfl, hq⟩
    · cases z
    obtain ⟨u, hu, ru⟩ := hq _ (List.mem_singleton_self _)
    refine ⟨[u], .cons ru .nil, rfl, fun M A st a b rest Q E KI h => ?_⟩
    cases rest with
    | nil =>
      have ch : ∃ (β γ : Type) (k1 : Option Value → Sem β) (k2 : β → Sem γ) (k3 : γ → Sem (List (Str × Value))) (c : β), bindArgs (PySem.W.ksFn "__init__" "PinKind.__init__" (defArgs (sPin 0)) (defBody (sPin 0)) (defScope (sPin 0)) .none (.ref Dk) doc pm an (.ref cda) ct cc) ⟨a :: b :: [], []⟩ = ((nsGet Dk ("swaps" : Str) >>= k1) >>= k2) >>= k3 ∧ k1 (some u) = pure c ∧ (k2 c >>= k3) = (newTuple ([]) >>= fun t => pure ((["self", "name", "swaps", "pins"] : List Str).zip (a :: b :: [u] ++ [t]))) := ⟨_, _, _, _, _, _, rfl, rfl, rfl⟩
      obtain ⟨β, γ, k1, k2, k3, c, e1, e2, e3⟩ := ch
      show wpAny M A (bindArgs _ ⟨a :: b :: [], []⟩) Q E st
      rw [e1, bind_assoc]
      refine wpAny_bind (((PySem.W.looks_nsIn (K := K) KI hu).andThen (PySem.W.Looks.of_pure e2)) A _ _ st (fun _ _ e => e) ?_)
      rw [e3]
      exact h
    | cons r rs =>
      have ch : ∃ (β γ : Type) (k1 : Option Value → Sem β) (k2 : β → Sem γ) (k3 : γ → Sem (List (Str × Value))) (c : β), bindArgs (PySem.W.ksFn "__init__" "PinKind.__init__" (defArgs (sPin 0)) (defBody (sPin 0)) (defScope (sPin 0)) .none (.ref Dk) doc pm an (.ref cda) ct cc) ⟨a :: b :: r :: rs, []⟩ = ((nsGet Dk ("swaps" : Str) >>= k1) >>= k2) >>= k3 ∧ k1 (some u) = pure c ∧ (k2 c >>= k3) = (newTuple (r :: rs) >>= fun t => pure ((["self", "name", "swaps", "pins"] : List Str).zip (a :: b :: [u] ++ [t]))) := ⟨_, _, _, _, _, _, rfl, rfl, rfl⟩
      obtain ⟨β, γ, k1, k2, k3, c, e1, e2, e3⟩ := ch
      show wpAny M A (bindArgs _ ⟨a :: b :: r :: rs, []⟩) Q E st
      rw [e1, bind_assoc]
      refine wpAny_bind (((PySem.W.looks_nsIn (K := K) KI hu).andThen (PySem.W.Looks.of_pure e2)) A _ _ st (fun _ _ e => e) ?_)
      rw [e3]
      exact h
  · have two : ∃ k1 z1, ks = [k1] ∧ zs = [z1] := by
      have l := congrArg List.length e
      rw [List.length_zip, lz, Nat.min_self] at l
      match ks, zs, lz, l with
      | [k1], [z1], _, _ => exact ⟨_, _, rfl, rfl⟩
    obtain ⟨k1, z1, rfl, rfl⟩ := two
    cases rz with
    | @cons _ w1 _ ws r1 rz =>
    cases rz
    cases e
    exact ⟨[w1], .cons r1 .nil, rfl, fun M A st a b rest Q E KI h => by
      cases rest with
      | nil => exact h
      | cons r rs => exact h⟩
theorem ok_pin {f sd : Addr} (F : SDef K P "PinKind.__init__" (sPin 0) [("swaps", .ref sd)] f DI) (G : SupG K P) (T : Bi mg) (N : Nums mg) (U : RTxt K mg D CK fCK) (GK : FnR P w K mg base (L2.CX P w) 3 gK (spKI K CN)) (tg : PySem.W.typeIn K (.ref gK) = some (.type "function")) (fg : PySem.W.fnIn K gK = true)
    (GD : Glb P w K mg base "are_different_words" 2 ["values"] (spDiff K)) (GG : Glb P w K mg base "_are_groups" 3 ["swaps", "pins"] (spGrp K)) (GM : Glb P w K mg base "_mates" 3 ["pin", "pins", "groups"] (spMat K)) (GO : Glb P w K mg base "_orders" 3 ["choices"] spOrd) (GW : Glb P w K mg base "_worded" 1 ["words", "tail"] (spWrd K)) :
    FnA P w K mg base (L2.CX P w) 6 f (fun vs kv H Q E => ∃ a b rest, vs = a :: b :: rest ∧ okP kv ∧ rest.length ≤ sizeLine ∧ ∀ p o, H p = none → o.dict = none → o.cls = .type "tuple" → spPinB K CN CK DI gK (a :: b :: gP sd kv ++ [V.ref p]) (upd H p (.frz o (.tup rest))) Q E) := by
  obtain ⟨_, _, mD, kD, GD, bD⟩ := GD.ex
  obtain ⟨_, _, mG, kG, GG, bG⟩ := GG.ex
  obtain ⟨_, _, mM, kM, GM, bM⟩ := GM.ex
  obtain ⟨_, _, mO, kO, GO, bO⟩ := GO.ex
  obtain ⟨_, _, mW, kW, GW, bW⟩ := GW.ex
  obtain ⟨t6, n6⟩ := N.pins
  obtain ⟨oc, od, kV, doc, pm, an, cda, ct, cc, osl, lk, hcd, kd, hcode, cl, cld, csl, hcc⟩ := F.ex
  have sc : SScope NPn ["self", "name", "swaps", "pins"] (defScope (sPin 0)) := ⟨rfl, rfl, rfl, by decide +kernel, rfl, by decide +kernel, by decide +kernel, by decide +kernel, by decide +kernel, by decide +kernel⟩
  have hN := sc.nd
  have SD : SupDef K P f cda cc DI gK "self" := ⟨⟨_, _, _, _, _, lk, rfl, rfl⟩, hcode, ⟨cl, cld, csl, hcc⟩, F.cls, G.sup, G.any, tg, fg, G.top⟩
  refine fnA_F (CX := L2.CX P w) (k := 5) (N := NPn) (kn := ["swaps"]) lk hcd sc hcc cxUp (bind_pin kd) (fun A outer s H vs Q E hr h => ?_)
  have pE : Passes (L2.CX P w) (cxS (L2.CX P w) P w K mg base NPn "PinKind.__init__" (defScope (sPin 0)) f cda cc A outer s H E) E := passes_call (takes_of rfl rfl rfl rfl) (fun _ _ _ _ h => h)
  refine ⟨_, psA_sup (qual := "PinKind.__init__") (E := E) (sp := spKI K CN) rfl sc rfl (by decide +kernel) SD (by decide) GK (hr.mono (by decide)) pE (pa_cons (pv 1) pa_nil) (argsPlain rfl (fun _ => rfl))
    (pss_cons (ps_if (PW.pt (pw_or (pt_not (pt_chain op_le op_le pe_int (pe_callB call_len_seq (by rfl) T.len PySem.boot_len (pa_cons (pv 3) pa_nil)) (pe_glob (v := .int 6) (by rfl) n6 ⟨_, rfl⟩)))
        (pw_or1 (pt_not (pt_val (pe_call GD (hr.mono (by decide)) (by rfl) mD kD bD .nil passL (pa_cons (pv 3) pa_nil)))))))
      (pss_one (ps_raiseGiv rfl PySem.Giv.ok_VE U.eK hr (takes_of rfl rfl rfl rfl) (pa_cons (pv 3) pa_nil) (by rfl))) pss_nil)
    (pss_cons (ps_if (pt_not (pt_val (pe_call GG (hr.mono (by decide)) (by rfl) mG kG bG .nil passL (pa_cons (pv 2) (pa_cons (pv 3) pa_nil)))))
      (pss_one (ps_raiseGiv rfl PySem.Giv.ok_VE U.eK hr (takes_of rfl rfl rfl rfl) (pa_cons (pv 2) pa_nil) (by rfl))) pss_nil)
    (pss_cons (ps_fld (pv 0) (pv 3) rfl)
    (pss_cons (ps_set (i := 4) hN rfl (Or.inr rfl) (pe_lc (scope := scA0) (own := [("group", 7)]) (g := gName 7) (tt := tYes) (te := teA K) rfl hN (pi_tup (pv 2)) (blkOk_by (N := NPn) (sc := defScope (sPin 0)) (by decide +kernel)) (fun _ _ _ _ _ => pg_name (i := 7) hN rfl (Or.inr rfl)) (fun _ _ _ _ _ => pts_nil)
        (fun _ _ _ _ _ => pe_lc (own := [("pin", 6)]) (g := gName 6) rfl hN (pi_tup (pv 3)) (blkOk_by (N := NPn) (sc := scA) (by decide +kernel)) (fun _ _ _ _ _ => pg_name (i := 6) hN rfl (Or.inl rfl)) (fun _ _ _ _ _ => pts_one (pt_cmpR op_in_seq (pv 6) (pv 7) (by rfl))) (fun _ _ _ _ _ => pv 6))))
    (pss_cons (ps_fld (pv 0) (pe_lc (scope := scB0) (own := [("group", 7)]) (g := gName 7) (tt := tYes) (te := teB K) rfl hN (pi_list (pv 4)) (blkOk_by (N := NPn) (sc := defScope (sPin 0)) (by decide +kernel)) (fun _ _ _ _ _ => pg_name (i := 7) hN rfl (Or.inl rfl)) (fun _ _ _ _ _ => pts_nil)
        (fun _ _ _ _ _ => pe_lc (wi := iList K (tVar 7)) (own := [("pin", 6)]) (g := gName 6) (tt := tYes) (te := teB0 K) rfl hN (pi_list (pv 7)) (blkOk_by (N := NPn) (sc := scB) (by decide +kernel)) (fun _ _ _ _ _ => pg_name (i := 6) hN rfl (Or.inl rfl)) (fun _ _ _ _ _ => pts_nil)
          (fun _ _ _ _ _ => pe_bmF PySem.F.plainAttrs_tuple PySem.F.slot_tuple_index PySem.F.type_tuple_index mt_tup_index (pv 3) (pa_cons (pv 6) pa_nil)))) rfl)
    (pss_cons (ps_fld (pv 0) (pe_call GO (hr.mono (by decide)) (by rfl) mO kO bO .nil passL (pa_cons (pe_lc (own := [("pin", 6)]) (g := gName 6) (tt := tYes) (te := teC K) rfl hN (pi_tup (pv 3)) (blkOk_by (N := NPn) (sc := defScope (sPin 0)) (by decide +kernel)) (fun _ _ _ _ _ => pg_name (i := 6) hN rfl (Or.inl rfl)) (fun _ _ _ _ _ => pts_nil)
        (fun _ _ _ _ _ => pe_call GM (hr.mono (by decide)) (by rfl) mM kM bM .nil passL (pa_cons (pv 6) (pa_cons (pv 3) (pa_cons (pv 4) pa_nil))))) pa_nil)) rfl)
    (pss_cons (ps_setLc2 (i := 5) (own := [("pin", 6), ("group", 7)]) (vs1 := [7]) (g := gName 6) (g1 := gName 7) (tt := tYes) (tt1 := ttD K) (wi1 := iList K (tVar 4)) (te := tVar 7) rfl hN rfl rfl (sw_true rfl rfl rfl (by decide +kernel)) (pi_tup (pv 3))
          (blkOk_by (N := NPn) (sc := defScope (sPin 0)) (by decide +kernel)) (by decide) (fun _ _ _ _ _ => pg_name (i := 6) hN rfl (Or.inl rfl)) (fun _ _ _ _ _ => pts_nil) (fun _ _ _ _ _ => pi_list (pv 4)) (fun _ _ _ _ _ => pg_name (i := 7) hN rfl (Or.inl rfl)) (fun _ _ _ _ _ => pts_one (pt_cmpR op_eq (pe_ix (show IxR _ (rIxL K) from ix_list) (pv 7) pe_int (fun _ _ => rfl)) (pv 6) (nomark _))) (fun _ _ _ _ _ => pv 7))
    (pss_one (ps_fld (pv 0) (pe_call GW (hr.mono (by decide)) (by rfl) mW kW bW .nil passL (pa_cons (pe_lst (pa_cons pe_str (pa_cons (pv 1) (pa_star (pv 3) pa_nil)))) (pa_cons (pe_join pe_str (pe_lc (own := [("group", 7)]) (g := gName 7) (tt := tYes) (te := teE K) rfl hN (pi_list (pv 5)) (blkOk_by (N := NPn) (sc := defScope (sPin 0)) (by decide +kernel)) (fun _ _ _ _ _ => pg_name (i := 7) hN rfl (Or.inl rfl)) (fun _ _ _ _ _ => pts_nil)
        (fun _ _ _ _ _ => pe_join pe_str (pv 7)))) pa_nil))) rfl))))))))) (by rfl), ?_⟩
  obtain ⟨p, dx, C, pa, v, sv, rest, o, rfl, hp, hpa, od', oc', kc, so, av, sh, l1, l6, its, k⟩ := h
  refine ⟨p, C, dx, [], rfl, hp, so, _, rfl, ?_⟩
  have npa : pa ≠ p := fun z => by rw [z, hp] at hpa; cases hpa
  by_cases hv : wdV v = true
  case neg =>
    rcases k with ⟨b, k⟩ | ⟨b, _⟩ | ⟨x, pins, e1, e2, b, _⟩
    · exact ⟨p, dx, C, v, rfl, hp, kc, av, sh, .inl ⟨b, fun e H' sm he => k e H' sm he⟩⟩
    · exact absurd b hv
    · rw [e1] at hv; exact absurd b hv
  obtain ⟨x, rfl, wx⟩ : ∃ x, v = .str x ∧ wd x = true := by
    cases v with
    | str x => exact ⟨x, rfl, hv⟩
    | _ => exact absurd hv (by simp [wdV])
  refine ⟨p, dx, C, .str x, rfl, hp, kc, av, sh, .inr ⟨x, rfl, wx, fun H1 a1 c0 a3 sm hp1 hc0 => ?_⟩⟩
  have hpa1 := sm _ _ npa hpa
  have line : 1000 ≤ sizeLine := by decide
  have sqF : ∀ {G : Hp}, G pa = some (.frz o (.tup rest)) → SqT K G pa rest := fun h => .inl (.inr ⟨o, h⟩)
  have its1 : ∀ G, Same H1 G → ∀ y ∈ rest, Av G y ∧ Shr y := fun G s y hy => by
    obtain ⟨h1, h2⟩ := its y hy
    exact ⟨(h1.sameX hp sm).same s, h2⟩
  refine ⟨_, rfl, pa, _, rfl, .inr (sqF hpa1), _, _, rfl, rfl, _, rfl, ?_⟩
  refine if_pos' (decide_eq_true (by omega)) ⟨_, _, rfl, rfl, _, rfl, ?_⟩
  refine if_neg' (by rw [decide_eq_true (show ((rest.length : Nat) : Int) ≤ 6 by omega)]; rfl) ?_
  refine ⟨_, rfl, pa, _, rfl, .inr (sqF hpa1), by omega, its1 H1 (Same.refl _), fun G2 s2 => ⟨_, rfl, ?_⟩⟩
  have sm2 : SameX p H G2 := fun b u n q => s2 _ _ (sm b u n q)
  have hpa2 := s2 _ _ hpa1
  cases hd : difV rest with
  | false =>
    refine if_pos' rfl ⟨_, rfl, _, rfl, fun e ne => ?_⟩
    rcases k with ⟨b', _⟩ | ⟨_, _, k⟩ | ⟨_, _, _, _, _, b', _⟩
    · rw [hv] at b'; cases b'
    · exact k e _ (fun b u n q => same_upd ne _ _ (sm2 b u n q)) upd_same
    · rw [hd] at b'; cases b'
  | true =>
  refine if_neg' rfl ?_
  rcases k with ⟨b', _⟩ | ⟨_, b', _⟩ | ⟨x', pins, e1, er, _, _, c12, k⟩
  · rw [hv] at b'; cases b'
  · rw [hd] at b'; cases b'
  cases e1
  subst er
  rw [List.length_map] at l1 l6
  -- the groups
  rcases k with ⟨av2, nt, ke⟩ | ⟨ga, gs, os, rfl, gr, n10, n40, sh2, k⟩
  · refine ⟨_, rfl, _, rfl, sv, pa, pins, rfl, sqF hpa2, .inl ⟨(av2.sameX hp sm).same s2, fun a xs e h => ?_, _, rfl, if_pos' rfl ⟨_, rfl, _, rfl, fun e ne => ke e _ (fun b u n q => same_upd ne _ _ (sm2 b u n q)) upd_same⟩⟩⟩
    subst e
    cases av2 with
    | lst e =>
      have := sm2 _ _ (fun z => by rw [z, hp] at e; cases e) e
      rw [h] at this
      cases this
    | tup e => exact nt _ _ rfl e
  refine ⟨_, rfl, _, rfl, _, pa, pins, rfl, sqF hpa2, .inr ⟨ga, gs, os, rfl, gr.sameX hp sm2, n10, n40, sh2, fun G3 s3 => ⟨_, rfl, ?_⟩⟩⟩
  have sm3 : SameX p H G3 := fun b u n q => s3 _ _ (sm2 b u n q)
  rcases k with ⟨hb, ke⟩ | ⟨hb, kk⟩
  · rw [hb]
    exact if_pos' rfl ⟨_, rfl, _, rfl, fun e ne => ke e _ (fun b u n q => same_upd ne _ _ (sm3 b u n q)) upd_same⟩
  rw [hb]
  refine if_neg' rfl ?_
  have gOks : os.all gOk = true := by
    unfold grpB at hb
    rw [Bool.and_eq_true] at hb
    exact hb.1
  have gne := grp_ne hb
  have gsub := @gs_sub os pins
  have glen := @gs_len os pins
  have gcnt : (gsOf pins os).length ≤ 10 := by
    have e : (gsOf pins os).length = os.length := List.length_map ..
    have := gr.len
    omega
  have gflat : (gsOf pins os).flatten.length ≤ 100 := by
    have := flat_len (gss := gsOf pins os) (n := 6) fun g hg => Nat.le_trans (glen g hg) l6
    omega
  -- pins
  have m3 : Mkg p C dx H1 G3 (kf (.str x) (.ref a1) (.ref c0) (.bl false) (.ref a3) (.str (kindT x))) := (Mkg.start hp1).same (s2.trans s3)
  refine ⟨_, rfl, _, rfl, p, C, dx, _, rfl, m3.at_, kc.cl, kc.n2, kf_few .., ?_⟩
  rw [kp_pins]
  have m4 := m3.put (fs' := kf (.str x) (.ref pa) (.ref c0) (.bl false) (.ref a3) (.str (kindT x)))
  generalize upd G3 p (.ins C dx (kf (.str x) (.ref pa) (.ref c0) (.bl false) (.ref a3) (.str (kindT x)))) = G4 at m4 ⊢
  have nc0 : c0 ≠ p := fun z => by rw [z, hp1] at hc0; cases hc0
  have smH : ∀ {G : Hp} {fs : List (Str × V)}, Mkg p C dx H1 G fs → SameX p H G := fun m b u n q => m.sm b u n (sm b u n q)
  -- groups
  dsimp only [tSeq, tAsg]
  refine lcA (gr.sameX hp (smH m4)) gOks (sqF (m4.sm _ _ npa hpa1)) l6 n10 fun D qs G5 s5 L5 => ?_
  have m5 := m4.same s5
  have glen6 : ∀ g ∈ gsOf pins os, g.length ≤ 6 := fun g hg => Nat.le_trans (glen g hg) l6
  dsimp only [gName, tSeq, sFld, tAsg]
  refine lcB L5 (m5.sm _ _ npa hpa1) od' oc' gsub glen6 gcnt fun B rs6 G6 nB6 s6 hB => ?_
  have m6 := m5.same s6
  have L6 := L5.same s6
  refine ⟨_, rfl, p, C, dx, _, rfl, m6.at_, kc.cl, kc.n7, kf_few .., ?_⟩
  rw [kf_grp]
  have m7 := m6.put (fs' := kf (.str x) (.ref pa) (.ref c0) (.bl false) (.ref a3) (.str (kindT x)) ++ [(("_groups" : Str), V.ref B)])
  have Lput : ∀ {G : Hp} {fs : List (Str × V)} {u : HO}, Mkg p C dx H1 G fs → LLt G D (gsOf pins os) qs → LLt (upd G p u) D (gsOf pins os) qs := fun {G fs u} m L =>
    ⟨put_ne L.at_ m.at_ (by intro _ _ _ z; cases z), L.len, fun i q hq => let ⟨g, h1, h2⟩ := L.it i q hq; ⟨g, h1, put_ne h2 m.at_ (by intro _ _ _ z; cases z)⟩⟩
  have L7 := Lput (u := .ins C dx (kf (.str x) (.ref pa) (.ref c0) (.bl false) (.ref a3) (.str (kindT x)) ++ [(("_groups" : Str), V.ref B)])) m6 L6
  have Bput : ∀ {G : Hp} {fs : List (Str × V)} {u : HO}, Mkg p C dx H1 G fs → LIs G B ((gsOf pins os).map (gix pins)) rs6 → LIs (upd G p u) B ((gsOf pins os).map (gix pins)) rs6 := fun {G fs u} m L =>
    ⟨put_ne L.at_ m.at_ (by intro _ _ _ z; cases z), L.len, fun i q hq => let ⟨g, h1, h2⟩ := L.it i q hq; ⟨g, h1, put_ne h2 m.at_ (by intro _ _ _ z; cases z)⟩⟩
  have B7 := Bput (u := .ins C dx (kf (.str x) (.ref pa) (.ref c0) (.bl false) (.ref a3) (.str (kindT x)) ++ [(("_groups" : Str), V.ref B)])) m6 hB
  generalize upd G6 p (.ins C dx (kf (.str x) (.ref pa) (.ref c0) (.bl false) (.ref a3) (.str (kindT x)) ++ [(("_groups" : Str), V.ref B)])) = G7 at m7 L7 B7 ⊢
  -- orders
  dsimp only [tSeq, sFld, tCall, tCons, tNil]
  refine lcC L7 (sqF (m7.sm _ _ npa hpa1)) l6 gcnt gflat fun Cc rs G8 s8 L8 => ?_
  refine ⟨Cc, _, rs, rfl, L8, by rw [List.length_map]; exact l6, fun c hc => ?_, fun r G9 s9 tt => ?_⟩
  · obtain ⟨z, _, rfl⟩ := List.mem_map.mp hc
    rw [List.length_map]
    exact Nat.le_trans (mTo_len _) l6
  have m9 := m7.same (s8.trans s9)
  refine ⟨_, rfl, p, C, dx, _, rfl, m9.at_, kc.cl, kc.n5, by show 7 < 1000; decide, ?_⟩
  rw [kf_ords]
  have m10 := m9.put (fs' := kf (.str x) (.ref pa) (.ref c0) (.bl false) (.ref r) (.str (kindT x)) ++ [(("_groups" : Str), V.ref B)])
  have L10 := Lput (u := .ins C dx (kf (.str x) (.ref pa) (.ref c0) (.bl false) (.ref r) (.str (kindT x)) ++ [(("_groups" : Str), V.ref B)])) m9 (L7.same (s8.trans s9))
  have tt10 : TT (upd G9 p (.ins C dx (kf (.str x) (.ref pa) (.ref c0) (.bl false) (.ref r) (.str (kindT x)) ++ [(("_groups" : Str), V.ref B)]))) r (pinO pins (gsOf pins os)) := tt.sameX (p := p) (fun b o nb e => by rw [upd_ne nb]; exact e) m9.at_ (by intro xs z; cases z)
  have B10 := Bput (u := .ins C dx (kf (.str x) (.ref pa) (.ref c0) (.bl false) (.ref r) (.str (kindT x)) ++ [(("_groups" : Str), V.ref B)])) m9 (B7.same (s8.trans s9))
  generalize upd G9 p (.ins C dx (kf (.str x) (.ref pa) (.ref c0) (.bl false) (.ref r) (.str (kindT x)) ++ [(("_groups" : Str), V.ref B)])) = G10 at m10 L10 tt10 B10 ⊢
  -- ordered
  refine lcD L10 (sqF (m10.sm _ _ npa hpa1)) l6 gcnt gne fun Dd ds G11 s11 L11 => ?_
  have m11 := m10.same s11
  have hpa11 := sqF (m11.sm _ _ npa hpa1)
  have tt11 := tt10.same s11
  -- the line
  have x12 : x.length ≤ 12 := by
    unfold wd at wx
    simp only [Bool.and_eq_true, decide_eq_true_eq] at wx
    exact wx.1.1.1.1.2
  have ol : (ordG pins (gsOf pins os)).length ≤ 60 := by
    have h1 := ordG_len pins (gsOf pins os)
    have h2 : pins.length * (gsOf pins os).length ≤ 6 * 10 := Nat.mul_le_mul l6 gcnt
    omega
  refine ⟨_, rfl, _, rfl, pa, _, rfl, .inl hpa11, ?_, fun l nl => ?_⟩
  · simp only [List.length_cons, List.length_append, List.length_nil, List.length_map]
    omega
  have sl := same_upd (o := .lst (V.str "pins" :: V.str x :: (pins.map V.str ++ []))) nl
  refine ⟨⟨_, rfl⟩, ?_⟩
  refine lcE (L11.same sl) (by omega) (fun g hg => ⟨glen6 g (ordG_mem hg), fun z hz => c12 z (gsub g (ordG_mem hg) z hz)⟩) fun De G12 s12 hDe => ?_
  have spc : (Str.ofString " ").length = 1 := by decide +kernel
  have com : (Str.ofString " , ").length = 3 := by decide +kernel
  have each : ∀ y ∈ (ordG pins (gsOf pins os)).map (Txt.join " "), y.length ≤ 78 := fun y hy => by
    obtain ⟨g, hg, rfl⟩ := List.mem_map.mp hy
    have h1 := join_le (a := " ") g
    have h2 := sum_le (ys := g) (n := 12) fun z hz => c12 z (gsub g (ordG_mem hg) z hz)
    have h3 := glen6 g (ordG_mem hg)
    rw [spc] at h1
    omega
  have tot := sum_le each
  rw [List.length_map] at tot
  have tail_le := join_le (a := " , ") ((ordG pins (gsOf pins os)).map (Txt.join " "))
  rw [com, List.length_map] at tail_le
  refine ⟨" , ", De, _, rfl, rfl, .inl (SqL.of hDe), by rw [com, List.length_map]; omega, ?_⟩
  have m12 := m11.same ((same_upd (o := .lst (V.str "pins" :: V.str x :: (pins.map V.str ++ []))) nl).trans s12)
  have ws : G12 l = some (.lst ((("pins" : Str) :: x :: pins).map V.str)) := by
    rw [s12 _ _ upd_same, List.append_nil]
    rfl
  refine ⟨l, ("pins" : Str) :: x :: pins, _, rfl, SqL.of ws, by simp only [List.length_cons]; omega, ?_, by omega, fun G13 s13 => ?_⟩
  · have h1 := sum_le (ys := pins) (n := 12) c12
    unfold size
    rw [List.map_cons, List.map_cons, List.sum_cons, List.sum_cons, show (Str.ofString "pins").length = 4 by decide +kernel]
    omega
  have m13 := m12.same s13
  refine ⟨_, rfl, p, C, dx, _, rfl, m13.at_, kc.cl, kc.n6, by show 7 < 1000; decide, ?_⟩
  rw [kf_line]
  have m14 := m13.put (fs' := kf (.str x) (.ref pa) (.ref c0) (.bl false) (.ref r) (.str (pinT x pins (gsOf pins os))) ++ [(("_groups" : Str), V.ref B)])
  refine kk _ (smH m14) ⟨pa, c0, r, B, m14.at_, sqF (m14.sm _ _ npa hpa1), m14.sm _ _ nc0 hc0, ?_, rs6, Bput m13 (B10.same (s11.trans (((same_upd (o := .lst (V.str "pins" :: V.str x :: (pins.map V.str ++ []))) nl).trans s12).trans s13)))⟩ (fun C' dx' fs' ga' e1 e2 => by
      have e1 := e1.symm.trans m14.at_
      cases e1
      rw [kf_glook] at e2
      cases e2
      cases q : H B with
      | none => rfl
      | some u =>
        have nBp : B ≠ p := fun z => by rw [z, m5.at_] at nB6; cases nB6
        rw [smH m5 B u nBp q] at nB6
        cases nB6)
  exact (tt11.same (((same_upd (o := .lst (V.str "pins" :: V.str x :: (pins.map V.str ++ []))) nl).trans s12).trans s13)).sameX (p := p) (fun b o nb e => by rw [upd_ne nb]; exact e) m13.at_ (by intro xs z; cases z)
end
end R50
end

-- Y5r
section
set_option Elab.async false
set_option linter.all false
set_option maxRecDepth 100000
set_option exponentiation.threshold 10000
namespace R50
open PySem L2 OwnOps OwnNe G1 StX SupX
/-! is_name, are_names, is_net_map -/
abbrev sNm : Stmt := top 18
abbrev sNms : Stmt := top 20
-- abbrev sNetM : Stmt := top 99910
structure Nums2 (mg : Str → Option Value) : Prop where
  words : ∃ t, mg "NAME_WORDS" = some (.int 64 t)
def nm (x : Str) : Bool := if 47 ∈ x.cps.toList then decide ((Txt.split x "/").length ≤ 64) && (Txt.split x "/").all wd else wd x
def nmV : V → Bool
  | .str x => nm x
  | _ => false
def shB (x : Str) : Bool := decide (x.length ≤ 1000) && decide ((Txt.split x "/").length ≤ 1000) && (Txt.split x "/").all fun y => decide (y.length ≤ 1000)
def ShN : V → Prop
  | .str x => shB x = true
  | _ => True
theorem slash : ("/" : Str) = ⟨#[47]⟩ := by decide +kernel
theorem all_map {α β : Type} (f : α → β) (g : β → Bool) : ∀ l : List α, (l.map f).all g = l.all fun x => g (f x)
  | [] => rfl
  | a :: r => by rw [List.map_cons, List.all_cons, List.all_cons, all_map f g r]
section
variable {P : Program} {w : World} {K : PySem.W.Frag} {mg : Str → Option Value} {base : Heap}
def spName : Sp := fun vs H Q _ => ∃ v, vs = [v] ∧ Av H v ∧ ShN v ∧ ∀ H', Same H H' → Q (.bl (nmV v)) H'
theorem ok_name {f : Addr} {fd : FuncData} (F : Fun K "is_name" "is_name" sNm f fd) (T : Bi mg) (N : Nums2 mg) (GW : Glb P w K mg base "is_word" 1 ["value"] spWord) : FnOk P w K mg base (L2.CX P w) 2 f fd ["value"] spName := by
  obtain ⟨_, _, mW, kW, GW, bW⟩ := GW.ex
  obtain ⟨t64, n64⟩ := N.words
  have sc : FnScope ["value", "words", "word"] ["value"] (defScope sNm) := ⟨rfl, rfl, rfl, by decide +kernel, rfl, by decide +kernel, by decide +kernel⟩
  have hN := sc.nd
  refine F.okX sc (fun vs H Q E h => ?_) (fun cdv A outer s H vs Q E hr h => ?_)
  · obtain ⟨x, rfl, _⟩ := h
    rfl
  · obtain ⟨v, rfl, av, sh, fin⟩ := h
    refine ⟨_, pss_cons (ps_if (pt_not (pt_val (pe_callB call_isi (by rfl) T.isi (by decide +kernel) (pa_cons (pv 0) (pa_cons (pe_bltn (v := .ty "str") (by rfl) T.str (by decide +kernel) rfl) pa_nil))))) (pss_one (ps_ret pe_bl)) pss_nil)
      (pss_cons (ps_if (pt_cmpR op_notIn_sign pe_str (pv 0) (by rfl)) (pss_one (ps_ret (pe_call GW (hr.mono (by decide)) (by rfl) mW kW bW .nil passL (pa_cons (pv 0) pa_nil)))) pss_nil)
      (pss_cons (ps_set (i := 1) hN rfl (Or.inl rfl) (pe_split (pv 0) pe_str))
      (pss_one (ps_ret (pe_and (pe_cmpR op_le (pe_callB call_len_seq (by rfl) T.len PySem.boot_len (pa_cons (pv 1) pa_nil)) (pe_glob (v := .int 64) (by rfl) n64 ⟨_, rfl⟩) (nomark _))
        (pe_one (pe_callB (cr_all rfl) (by rfl) T.all (by decide +kernel) (pa_cons (pe_lc (own := [("word", 2)]) (g := gName 2) (tt := tYes) (te := tCall spWord [] E0 (tCons (tVar 2) tNil)) rfl hN (pi_list (pv 1)) (blkOk_by (N := ["value", "words", "word"]) (sc := defScope sNm) (by decide +kernel)) (fun _ _ _ _ _ => pg_name (i := 2) hN rfl (Or.inl rfl)) (fun _ _ _ _ _ => pts_nil)
          (fun _ _ _ _ _ => pe_call GW (hr.mono (by decide)) (by rfl) mW kW bW .nil passL (pa_cons (pv 2) pa_nil))) pa_nil)))))))), ?_⟩
    cases av with
    | non => exact ⟨_, rfl, _, _, _, _, _, rfl, .ty _, .base .non, kit_ty (r := false) (by decide +kernel), _, rfl, if_pos' rfl (fin _ (Same.refl _))⟩
    | int i => exact ⟨_, rfl, _, _, _, _, _, rfl, .ty _, .base (.int i), kit_ty (r := false) (by decide +kernel), _, rfl, if_pos' rfl (fin _ (Same.refl _))⟩
    | bl b => exact ⟨_, rfl, _, _, _, _, _, rfl, .ty _, .base (.bl b), kit_ty (r := false) (by decide +kernel), _, rfl, if_pos' rfl (fin _ (Same.refl _))⟩
    | lst e => exact ⟨_, rfl, _, _, _, _, _, rfl, .ty _, .base (.lst e), kit_ty (r := false) (by decide +kernel), _, rfl, if_pos' rfl (fin _ (Same.refl _))⟩
    | tup e => exact ⟨_, rfl, _, _, _, _, _, rfl, .ty _, .base (.tup e), kit_ty (r := false) (by decide +kernel), _, rfl, if_pos' rfl (fin _ (Same.refl _))⟩
    | str x =>
    have sh : shB x = true := sh
    unfold shB at sh
    simp only [Bool.and_eq_true, decide_eq_true_eq, List.all_eq_true] at sh
    obtain ⟨⟨x1000, l1000⟩, w1000⟩ := sh
    have line : 1002 ≤ sizeLine := by decide
    refine ⟨_, rfl, _, _, _, _, _, rfl, .ty _, .base (.str _), kit_ty (r := true) (by decide +kernel), _, rfl, if_neg' rfl ?_⟩
    refine ⟨_, rfl, 47, x, by rw [slash], rfl, _, rfl, ?_⟩
    dsimp only
    have fin : ∀ H', Same H H' → Q (.bl (nm x)) H' := fin
    by_cases hs : 47 ∈ x.cps.toList
    · refine if_neg' (by rw [decide_eq_true hs]; rfl) ?_
      unfold nm at fin
      rw [if_pos hs] at fin
      refine ⟨_, rfl, ⟨_, rfl⟩, x, "/", rfl, rfl, by decide +kernel, by omega, fun l nl => ?_⟩
      have sl : Same H (upd H l (.lst ((Txt.split x "/").map V.str))) := same_upd nl
      have hl : (upd H l (.lst ((Txt.split x "/").map V.str))) l = some (.lst ((Txt.split x "/").map V.str)) := upd_same
      generalize upd H l (.lst ((Txt.split x "/").map V.str)) = H1 at sl hl
      generalize Txt.split x "/" = ws at fin l1000 w1000 sl hl
      refine ⟨_, rfl, l, _, rfl, .inl (SqL.of hl), _, _, rfl, rfl, _, rfl, ?_⟩
      dsimp only
      have e64 : decide (((ws.map V.str).length : Int) ≤ 64) = decide (ws.length ≤ 64) := by
        rw [List.length_map]
        exact decide_eq_decide.mpr ⟨fun h => by omega, fun h => by omega⟩
      rw [e64]
      cases hc : decide (ws.length ≤ 64) with
      | false =>
        rw [hc] at fin
        exact if_neg' rfl (fin H1 sl)
      | true =>
      rw [hc] at fin
      refine if_pos' rfl ⟨_, rfl, l, rfl, ⟨_, SqL.of hl⟩, fun D hD => lc_it (walk_list (xs := ws.map V.str) (a := l) (K := K)) (fun i G => Same H1 G ∧ ∃ at_, G D = some (.lst at_) ∧ at_ = ((ws.map V.str).take i).map fun v => V.bl (wdV v)) ⟨same_upd hD, [], upd_same, rfl⟩ (fun i G hi g => g.1.seq (SqL.of hl)) (fun i y G G' hi g yy => ?_) (fun G g => ?_)⟩
      · obtain ⟨rfl, hx⟩ := yy
        obtain ⟨sm, at_, hD2, rfl⟩ := g
        refine ⟨rfl, _, rfl, ?_⟩
        obtain ⟨z, hz, rfl⟩ := List.mem_map.mp (List.mem_of_getElem? hx)
        rw [List.length_map] at hi
        exact ⟨.str z, rfl, .str z, w1000 z hz, _, hD2, by rw [List.length_map, List.length_take]; exact small1000 (by omega), same_put sm hD, _, upd_same, by rw [take_succ_at hx, List.map_append]; rfl⟩
      · obtain ⟨sm, at_, hD2, rfl⟩ := g
        rw [List.take_length] at hD2
        have e0 : (ws.map V.str).map (fun v => V.bl (wdV v)) = (ws.map wd).map V.bl := by rw [List.map_map, List.map_map]; rfl
        rw [e0] at hD2
        have ea : ((ws.map wd).all id) = ws.all wd := by rw [List.all_map]; rfl
        refine ⟨D, ws.map wd, rfl, SqL.of hD2, ?_⟩
        rw [ea]
        exact fin G (sl.trans sm)
    · refine if_pos' (by rw [decide_eq_false hs]; rfl) ?_
      unfold nm at fin
      rw [if_neg hs] at fin
      exact ⟨_, rfl, .str x, rfl, .str x, x1000, fin H (Same.refl _)⟩
def namesB (xs : List V) (n : Int) : Bool := decide ((xs.length : Int) = n) && xs.all nmV
def spNames : Sp := fun vs H Q _ => ∃ a xs n, vs = [.ref a, .int n] ∧ H a = some (.lst xs) ∧ xs.length ≤ 100 ∧ (∀ x ∈ xs, Av H x ∧ ShN x) ∧ ∀ H', Same H H' → Q (.bl (namesB xs n)) H'
theorem ok_names {f : Addr} {fd : FuncData} (F : Fun K "are_names" "are_names" sNms f fd) (T : Bi mg) (GN : Glb P w K mg base "is_name" 2 ["value"] spName) : FnOk P w K mg base (L2.CX P w) 3 f fd ["values", "many"] spNames := by
  obtain ⟨_, _, mW, kW, GW, bW⟩ := GN.ex
  have sc : FnScope ["values", "many", "value"] ["values", "many"] (defScope sNms) := ⟨rfl, rfl, rfl, by decide +kernel, rfl, by decide +kernel, by decide +kernel⟩
  have hN := sc.nd
  refine F.okX sc (fun vs H Q E h => ?_) (fun cdv A outer s H vs Q E hr h => ?_)
  · obtain ⟨a, xs, n, rfl, _⟩ := h
    rfl
  · obtain ⟨a, xs, n, rfl, ha, few, av, fin⟩ := h
    refine ⟨_, pss_cons (ps_if (PW.pt (pw_or (pt_not (pt_val (pe_callB call_isiT (by rfl) T.isi (by decide +kernel) (pa_cons (pv 0) (pa_cons (pe_tup (pa_cons (pe_bltn (v := .ty "list") (by rfl) T.list (by decide +kernel) rfl) (pa_cons (pe_bltn (v := .ty "tuple") (by rfl) T.tuple (by decide +kernel) rfl) pa_nil))) pa_nil)))))
        (pw_or1 (pt_cmpR op_ne (pe_callB call_len_seq (by rfl) T.len PySem.boot_len (pa_cons (pv 0) pa_nil)) (pv 1) (nomark _))))) (pss_one (ps_ret pe_bl)) pss_nil)
      (pss_one (ps_ret (pe_callB (cr_all rfl) (by rfl) T.all (by decide +kernel) (pa_cons (pe_lc (own := [("value", 2)]) (g := gName 2) (tt := tYes) (te := tCall spName [] E0 (tCons (tVar 2) tNil)) rfl hN (pi_list (pv 0)) (blkOk_by (N := ["values", "many", "value"]) (sc := defScope sNms) (by decide +kernel)) (fun _ _ _ _ _ => pg_name (i := 2) hN rfl (Or.inl rfl)) (fun _ _ _ _ _ => pts_nil)
          (fun _ _ _ _ _ => pe_call GW (hr.mono (by decide)) (by rfl) mW kW bW .nil passL (pa_cons (pv 2) pa_nil))) pa_nil)))), ?_⟩
    refine ⟨_, rfl, (by show 2 ≤ sizeLine; decide), fun tp ht => ?_⟩
    have s1 : Same H (upd H tp (.tup [.ty "list", .ty "tuple"])) := same_upd ht
    have h1 : (upd H tp (.tup [.ty "list", .ty "tuple"])) tp = some (.tup [.ty "list", .ty "tuple"]) := upd_same
    generalize upd H tp (.tup [.ty "list", .ty "tuple"]) = H1 at s1 h1 ⊢
    have ha1 := s1 _ _ ha
    refine ⟨.ref a, tp, [.ty "list", .ty "tuple"], _, _, true, rfl, h1, .cons (.ty _) (.cons (.ty _) .nil), .base (.lst ha1), kitAny_cons (b := true) (kit_ty (by decide +kernel)) (fun h => nomatch h) (fun _ => rfl), _, rfl, ?_⟩
    refine if_neg' rfl ⟨_, rfl, a, xs, rfl, .inl (SqL.of ha1), _, rfl, rfl, _, rfl, ?_⟩
    dsimp only
    have fin : ∀ H', Same H1 H' → Q (.bl (namesB xs n)) H' := fun H' s => fin H' (s1.trans s)
    unfold namesB at fin
    by_cases hl : (xs.length : Int) = n
    · rw [decide_eq_true hl, Bool.true_and] at fin
      refine if_neg' (by rw [hl, decide_eq_true rfl]; rfl) ?_
      refine ⟨_, rfl, a, rfl, ⟨xs, SqL.of ha1⟩, fun D hD => lc_it (walk_list (xs := xs) (a := a) (K := K)) (fun i G => Same H1 G ∧ ∃ at_, G D = some (.lst at_) ∧ at_ = (xs.take i).map fun v => V.bl (nmV v)) ⟨same_upd hD, [], upd_same, rfl⟩ (fun i G hi g => SqL.of (g.1 _ _ ha1)) (fun i x G G' hi g y => ?_) (fun G g => ?_)⟩
      · obtain ⟨rfl, hx⟩ := y
        obtain ⟨sm, at_, hD2, rfl⟩ := g
        refine ⟨rfl, _, rfl, ?_⟩
        obtain ⟨ax, sx⟩ := av x (List.mem_of_getElem? hx)
        refine ⟨x, rfl, ax.same (s1.trans sm), sx, fun G2 s2 => ⟨_, s2 _ _ hD2, by rw [List.length_map, List.length_take]; exact small1000 (by omega), same_put (sm.trans s2) hD, _, upd_same, by rw [take_succ_at hx, List.map_append]; rfl⟩⟩
      · obtain ⟨sm, at_, hD2, rfl⟩ := g
        rw [List.take_length] at hD2
        have e0 : xs.map (fun v => V.bl (nmV v)) = (xs.map nmV).map V.bl := by rw [List.map_map]; rfl
        rw [e0] at hD2
        have ea : ((xs.map nmV).all id) = xs.all nmV := by rw [List.all_map]; rfl
        refine ⟨D, xs.map nmV, rfl, SqL.of hD2, ?_⟩
        rw [ea]
        exact fin G sm
    · rw [decide_eq_false hl, Bool.false_and] at fin
      exact if_pos' (by rw [decide_eq_false (fun z => hl (V.int.inj z))]; rfl) (fin H1 (Same.refl _))
end
end R50
end

-- GenFor
section
set_option Elab.async false
set_option linter.all false
set_option maxRecDepth 100000
set_option maxHeartbeats 1000000
/-! for within a generator's body, at the level of segments. -/
namespace GenFor
open PySem PySem.Spec PyProof.Rows L2 GenW
section
variable {P : Program} {w : World} {A : Around} {R : GenEnd} {Y : Protocol} {n : Nat} {s₀ : Shared} {c : Code} {fs : List Frame} {s : Shared} {env : Env}
  {K : Flow → Sem PySem.Fin} {J : Value → Sem PySem.Fin} {gd : Bool → Bool} {lv : List Value → List Value} {target iter : Expr} {body : List Stmt} {pos : Pos}
/-- the frame that waits for the loop -/
abbrev forFrame (env : Env) (K : Flow → Sem PySem.Fin) (J : Value → Sem PySem.Fin) (gd : Bool → Bool) (lv : List Value → List Value) (c : Code) (p : Pos) : Frame :=
  .ret (fun r => ((match r with | .ok f => (.pure f : Sem Flow) | .error e => .raise e).onRaise (cameBack env)).wrap K J gd lv) none (gd false) (lv []) c p []
theorem seg_For (hs : ∀ x, foldedSetIterable iter env x = pure x)
    (h : wpAny (model P w) (A.over c fs) (eval iter env) (fun v s1 => wpAny (model P w) (A.over c fs) (pyIter v) (fun it s2 => ∀ p, Seg (model P w) A R Y n s₀ (.forLoop target it body [] env) ((model P w).den (.forLoop target it body [] env)) (forFrame env K J gd lv c p :: fs) s2)
      (fun x s' => Seg (model P w) A R Y n s₀ c (J x) fs s') s1) (fun x s' => Seg (model P w) A R Y n s₀ c (J x) fs s') s) :
    Seg (model P w) A R Y n s₀ c ((exec (.For target iter body [] pos) env).wrap K J gd lv) fs s := by
  show Seg _ A R Y n s₀ c (.at pos fun _ => ((eval iter env >>= fun v => foldedSetIterable iter env v >>= fun x => standAt iter.pos >>= fun _ => holding [x] (pyIter x) >>= fun it => runOwn (.forLoop target it body [] env) env)).wrap K J gd lv) fs s
  refine seg_at (seg_bind_wrap (wpAny_mono h (fun v s1 h1 => ?_) fun _ _ e => e))
  rw [hs]
  refine seg_bind_wrap (wpAny_pure ?_)
  refine seg_bind_wrap (wpAny_standAt ?_)
  refine seg_bind_wrap (wpAny_holding (wpAny_mono h1 (fun it s2 h2 => ?_) fun _ _ e => e))
  exact seg_call h2
/-- an exception in a loop's turn -/
abbrev XTurn (P : Program) (w : World) (A : Around) (R : GenEnd) (Y : Protocol) (n : Nat) (s₀ : Shared) (c : Code) (fs : List Frame) (env : Env) (x : Value) (s' : Shared) : Prop :=
  Seg (model P w) A R Y n s₀ c ((do noteFrame x env; theTreesLotGoes x : Sem Unit).wrap (fun _ => .raise x) .raise id id) fs s'
theorem seg_forLoop {it : Value} (h : wpAny (model P w) (A.over (.forLoop target it body [] env) fs) (pyNext it) (fun r s1 => match r with
      | none => Seg (model P w) A R Y n s₀ (.forLoop target it body [] env) (.pure (.again (.block [] env))) fs s1
      | some v => wpAny (model P w) (A.over (.forLoop target it body [] env) fs) (letOwnedTupleGo target it v) (fun _ s2 => wpAny (model P w) (A.over (.forLoop target it body [] env) fs) (assign target env v) (fun _ s3 =>
          Seg (model P w) A R Y n s₀ (.forLoop target it body [] env) ((execs body env).wrap (fun f => match f with
            | .next | .cont => .pure (.again (.forLoop target it body [] env))
            | .brk => .pure (.done .next)
            | .ret v => .pure (.done (.ret v))) (fun e => (do noteFrame e env; theTreesLotGoes e : Sem Unit).wrap (fun _ => .raise e) .raise id id) id id) fs s3)
          (XTurn P w A R Y n s₀ (.forLoop target it body [] env) fs env) s2) (XTurn P w A R Y n s₀ (.forLoop target it body [] env) fs env) s1)
      (XTurn P w A R Y n s₀ (.forLoop target it body [] env) fs env) s) :
    Seg (model P w) A R Y n s₀ (.forLoop target it body [] env) ((model P w).den (.forLoop target it body [] env)) fs s := by
  show Seg _ A R Y n s₀ _ ((forTurn target it body [] env).onRaise (fun x => do noteFrame x env; theTreesLotGoes x)) fs s
  unfold forTurn
  rw [Sem.onRaise_eq_wrap]
  have xx : ∀ x s', XTurn P w A R Y n s₀ (.forLoop target it body [] env) fs env x s' → Seg (model P w) A R Y n s₀ (.forLoop target it body [] env) ((do noteFrame x env; theTreesLotGoes x : Sem Unit).bind fun _ => .raise x) fs s' := fun x s' hx => by
    rw [Sem.bind_eq_wrap]
    exact hx
  refine seg_bind_wrap (wpAny_standAt ?_)
  refine seg_bind_wrap (wpAny_onRaise (wpAny_mono h (fun r s1 h1 => ?_) fun x s' hx => wpAny_standAt (xx x s' hx)))
  cases r with
  | none => exact h1
  | some v =>
    refine seg_bind_wrap (wpAny_mono h1 (fun _ s2 h2 => ?_) fun x s' hx => xx x s' hx)
    refine seg_bind_wrap (wpAny_mono h2 (fun _ s3 h3 => ?_) fun x s' hx => xx x s' hx)
    rw [Sem.bind_eq_wrap', Sem.wrap_wrap]
    rw [Sem.wrap_congr (execs body env) _ _ (K' := fun f => match f with
            | .next | .cont => .pure (.again (.forLoop target it body [] env))
            | .brk => .pure (.done .next)
            | .ret v => .pure (.done (.ret v))) (H' := (fun e => (do noteFrame e env; theTreesLotGoes e : Sem Unit).wrap (fun _ => .raise e) .raise id id))
        (fun f => by cases f <;> rfl)
        (fun e => by first | exact Sem.bind_eq_wrap _ _ | (show (do noteFrame e env; theTreesLotGoes e : Sem Unit).bind (fun _ => .raise e) = _; rw [Sem.bind_eq_wrap]))]
    exact h3
end
end GenFor
end

-- GenFor2
section
set_option Elab.async false
set_option linter.all false
set_option maxRecDepth 100000
set_option maxHeartbeats 1000000
/-! a generator def whose body goes over a tuple and hands each item out: its run beside a consumer that turns two objects. -/
namespace GenFor
open PySem PySem.Spec PyProof.Rows L2 GenW
/-- while the generator sleeps its consumer turns the objects at C and D; all else is kept -/
structure Woke (C D : Addr) (s s' : Shared) : Prop where
  os : s'.os = s.os
  bare : AllBare s'.gens
  keep : ∀ b o, b ≠ C → b ≠ D → s.heap.get? b = some o → s'.heap.get? b = some o
  c : ∃ o, s'.heap.get? C = some o ∧ ∀ v, o.data ≠ .cell v
  d : ∃ o, s'.heap.get? D = some o ∧ ∀ v, o.data ≠ .cell v
/-- running: the consumer's two objects stand as they stood when it was woken -/
def Two (X : Cx) (C D : Addr) (σ : L2.St) (H : Hp) (s₀ s : Shared) : Prop := ∃ oC oD, s₀.heap.get? C = some oC ∧ s₀.heap.get? D = some oD ∧ Inv X [(C, oC), (D, oD)] σ H s
structure Far (X : Cx) (C D : Addr) : Prop where
  c : Apart X C
  d : Apart X D
  pn : ∀ p ∈ X.pn, p.1 ≠ C ∧ p.1 ≠ D
theorem Two.at {X : Cx} {C D : Addr} {σ : L2.St} {H : Hp} {s₀ s : Shared} (h : Two X C D σ H s₀ s) : s.heap.get? C = s₀.heap.get? C ∧ s.heap.get? D = s₀.heap.get? D ∧ H C = none ∧ H D = none := by
  obtain ⟨oC, oD, e1, e2, I⟩ := h
  have h1 := I.pin (C, oC) (List.mem_append_right _ List.mem_cons_self)
  have h2 := I.pin (D, oD) (List.mem_append_right _ (List.mem_cons_of_mem _ List.mem_cons_self))
  exact ⟨h1.1.trans e1.symm, h2.1.trans e2.symm, h1.2.1, h2.2.1⟩
/-- woken again -/
theorem Two.woken {X : Cx} {C D : Addr} {σ : L2.St} {H : Hp} {s₀ s s' : Shared} (F : Far X C D) (h : Two X C D σ H s₀ s) (z : Woke C D s s') : Two X C D σ H s' s' := by
  obtain ⟨oC, oD, _, _, I⟩ := h
  obtain ⟨_, c1, c2, c3, _⟩ := I.pin (C, oC) (List.mem_append_right _ List.mem_cons_self)
  obtain ⟨_, d1, d2, d3, _⟩ := I.pin (D, oD) (List.mem_append_right _ (List.mem_cons_of_mem _ List.mem_cons_self))
  have I0 : Inv X [] σ H s := I.pins_of fun p hp => by cases hp
  obtain ⟨z1, z2, z3, ⟨oC', eC, nC⟩, ⟨oD', eD, nD⟩⟩ := z
  have nt : ∀ b u, H b = some u → b ≠ C ∧ b ≠ D := fun b u q => ⟨fun hb => (by rw [hb, c1] at q; cases q), fun hb => (by rw [hb, d1] at q; cases q)⟩
  have nc : ∀ b, b ∉ [C, D] → b ≠ C ∧ b ≠ D := fun b hb => ⟨fun e => hb (e ▸ List.mem_cons_self), fun e => hb (e ▸ List.mem_cons_of_mem _ List.mem_cons_self)⟩
  have keep : ∀ b ob, b ∉ [C, D] → s.heap.get? b = some ob → s'.heap.get? b = some ob := fun b ob hb q => z3 b ob (nc b hb).1 (nc b hb).2 q
  obtain ⟨hh, g, d, t, o⟩ := s'
  have ho : o = s.os := z1
  subst ho
  have J : Inv X [] σ H { s with heap := hh, gens := g, drawn := d, toks := t } := by
    refine I0.step (g' := g) (t' := t) (d' := d) (ch := [C, D]) (fun b hb => ?_)
      (fun b ob _ _ hc q _ => keep b ob hc q) (fun b ob _ _ hc q _ => ⟨ob.slots, keep b ob hc q⟩) (fun _ _ _ _ n => n) (fun b ob hc q => ⟨ob, keep b ob hc q⟩)
      (fun _ _ q => q) (fun _ _ _ q => q) (fun b ps q => ⟨#[], by rw [q]; simp⟩) (fun m hm => ?_) (fun b u q => ?_) z2
    · rcases List.mem_cons.mp hb with e | hb
      · rw [e]
        exact ⟨.inr F.c.1, F.c.2.1, F.c.2.2, fun p hp => by rw [List.append_nil] at hp; exact (F.pn p hp).1⟩
      · rw [List.mem_singleton.mp hb]
        exact ⟨.inr F.d.1, F.d.2.1, F.d.2.2, fun p hp => by rw [List.append_nil] at hp; exact (F.pn p hp).2⟩
    · obtain ⟨ob, es, ep, ho, r⟩ := hm
      exact ⟨ob, es, ep, z3 _ ob (Ne.symm c2) (Ne.symm d2) ho, r⟩
    · refine (I0.hok b u q).stay (fun c v hc y => ?_) (fun _ y => y) fun _ _ y => y
      rcases hc with y' | y'
      · rw [y'] at y ⊢; exact z3 b v (nt b u q).1 (nt b u q).2 y
      · exact z3 c v (nt c _ y').1 (nt c _ y').2 y
  refine ⟨oC', oD', eC, eD, J.pins_of fun p hp => ?_⟩
  rcases List.mem_cons.mp hp with hp | hp
  · rw [hp]
    exact ⟨eC, c1, c2, c3, nC⟩
  · rw [List.mem_singleton.mp hp]
    exact ⟨eD, d1, d2, d3, nD⟩
/-- an item is handed out -/
def Y2 (sB : Shared) (C D a : Addr) (g : Nat) (xs : List V) : Protocol := fun m s₀ v s1 kap =>
  ∃ (i : Nat) (x : V), i + m + 1 = xs.length ∧ xs[i]? = some x ∧ RelV x v ∧ s1.os = sB.os ∧ AllBare s1.gens ∧ s1.heap.NoLimit ∧ s1.heap.IsGen a g ∧ s1.heap.get? C = s₀.heap.get? C ∧ s1.heap.get? D = s₀.heap.get? D ∧ ∀ s', Woke C D s1 s' → kap (.send .none) s'
/-- all is handed out -/
def F2 (P : Program) (w : World) (outer : List Env) (H : Hp) (sB : Shared) (C D : Addr) : Nat → Shared → Shared → Prop := fun n s₀ s1 =>
  n = 0 ∧ s1.os = sB.os ∧ AllBare s1.gens ∧ Un (frs outer) [] H H sB.heap s1.heap ∧ HOk P w H s1.heap ∧ s1.heap.get? C = s₀.heap.get? C ∧ s1.heap.get? D = s₀.heap.get? D ∧ H C = none ∧ H D = none
def R2e (P : Program) (w : World) (outer : List Env) (H : Hp) (sB : Shared) (C D : Addr) : GenEnd := fun n s₀ r s1 =>
  ((r = .ok (.ret .none) ∨ r = .ok .next) ∧ F2 P w outer H sB C D n s₀ s1) ∨ ∃ e, r = .error e ∧ False
theorem fp_swap {X : Cx} {C D b : Addr} {o1 o2 o3 o4 : Obj} {H : Hp} (h : FpOk X [(C, o1), (D, o2)] H b) : FpOk X [(C, o3), (D, o4)] H b := by
  obtain ⟨a1, a2, a3, a4, a5, a6⟩ := h
  refine ⟨a1, a2, a3, a4, a5, fun p hp => ?_⟩
  rcases List.mem_append.mp hp with hp | hp
  · exact a6 p (List.mem_append_left _ hp)
  rcases List.mem_cons.mp hp with hp | hp
  · rw [hp]; exact a6 (C, o1) (List.mem_append_right _ List.mem_cons_self)
  · rw [List.mem_singleton.mp hp]; exact a6 (D, o2) (List.mem_append_right _ (List.mem_cons_of_mem _ List.mem_cons_self))
theorem fp_ne {X : Cx} {C D b : Addr} {o1 o2 : Obj} {H : Hp} (h : FpOk X [(C, o1), (D, o2)] H b) : b ≠ C ∧ b ≠ D := by
  obtain ⟨_, _, _, _, _, a6⟩ := h
  exact ⟨fun z => a6 (C, o1) (List.mem_append_right _ List.mem_cons_self) z.symm, fun z => a6 (D, o2) (List.mem_append_right _ (List.mem_cons_of_mem _ List.mem_cons_self)) z.symm⟩
section
variable {X : Cx} {A : Around} {R : GenEnd} {C D a oa it : Addr} {g j : Nat} {xs : List V} {sB : Shared} {fs : List Frame} {tgt e : Expr} {yp ep : Pos} {fp : List Addr} {tn : Nat → Heap → Prop} {H : Hp}
theorem seg_loop (hc : X.calm = true) (hxe : ∀ x s', X.xe x s' → False) (F : Far X C D) (hg : PG X tgt (gName j)) (he : PE X e (tVar j)) (T : Turn X.prog X.w X.K tgt (Itt X.K oa) fp it tn) (hq : SqT X.K H oa xs)
    (hgen : ∀ (pins : List (Addr × Obj)) (σ : L2.St) (s : Shared), Inv X pins σ H s → s.heap.IsGen a g) (hos : ∀ (pins : List (Addr × Obj)) (σ : L2.St) (s : Shared), Inv X pins σ H s → s.os = sB.os) (hjl : ∀ (σ : L2.St) (v : V), j < σ.length → (σ.set j (some v))[j]? = some (some v))
    (hov : A.over (.forLoop tgt (.ref it) [.Expr (.Yield (some e) yp) ep] [] X.env) fs = X.A) (hsp : splitAtGen fs = none) (hgu : fs.any Frame.guarded = false) (hco : X.env.scope.isCoroutine = false) (hin : interactive X.env = false)
    (hend : ∀ (σ : L2.St) (s₀ s1 : Shared), Two X C D σ H s₀ s1 → Seg (model X.prog X.w) A R (Y2 sB C D a g xs) 0 s₀ (.block [] X.env) (leafOf (.ok .next)) fs s1) :
    ∀ (r i : Nat) (σ : L2.St) (s₀ s : Shared), i + r = xs.length → j < σ.length → (∀ b ∈ fp, ∀ o1 o2, FpOk X [(C, o1), (D, o2)] H b) → Two X C D σ H s₀ s → tn i s.heap →
      Seg (model X.prog X.w) A R (Y2 sB C D a g xs) r s₀ (.forLoop tgt (.ref it) [.Expr (.Yield (some e) yp) ep] [] X.env) ((model X.prog X.w).den (.forLoop tgt (.ref it) [.Expr (.Yield (some e) yp) ep] [] X.env)) fs s := by
  intro r
  induction r with
  | zero =>
    intro i σ s₀ s hi hj hf hT ht
    refine seg_forLoop ?_
    rw [hov]
    obtain ⟨oC, oD, e1, e2, I⟩ := hT
    refine wpAny_mono (T.done X rfl rfl rfl hc i [(C, oC), (D, oD)] s σ H (fun _ _ => False) I (fun b hb => hf b hb _ _) ht ⟨xs, hq, by omega⟩) (fun r s1 ⟨er, I1⟩ => ?_) fun _ _ h => h.elim
    subst er
    refine seg_again rfl ?_
    exact hend σ s₀ s1 ⟨oC, oD, e1, e2, I1⟩
  | succ r ih =>
    intro i σ s₀ s hi hj hf hT ht
    refine seg_forLoop ?_
    rw [hov]
    obtain ⟨oC, oD, e1, e2, I⟩ := hT
    have lt : i < xs.length := by omega
    refine wpAny_mono (T.item X rfl rfl rfl hc i [(C, oC), (D, oD)] s σ H (fun _ _ => False) I (fun b hb => hf b hb _ _) ht ⟨xs, _, hq, List.getElem?_eq_getElem lt⟩) (fun r1 s1 ⟨u, er, h1⟩ => ?_) fun _ _ h => h.elim
    subst er
    refine wpAny_mono h1 (fun _ s2 h2 => ?_) fun _ _ h => h.elim
    obtain ⟨x, H', I2, ru, ⟨eH, hx⟩, ht2, _⟩ := h2
    subst eH
    have hxi := hx xs hq
    have I2' := I2.pinned (fun b hb => hf b hb oC oD) (T.obj _ _ ht2)
    refine wpAny_mono (hg.run _ s2 σ H' x u (fun σ' H2 => σ' = σ.set j (some x) ∧ H2 = H') I2' ru ⟨rfl, rfl⟩) (fun _ s3 h3 => ?_) fun x s' h => (hxe x s' h).elim
    obtain ⟨σ3, H3, I3, eσ, eH3⟩ := h3
    subst eσ eH3
    refine seg_execs_cons ?_
    refine seg_Expr_Yield hsp rfl hgu ?_ hco hin
    rw [hov]
    refine wpAny_mono (he.run _ s3 _ H3 (fun y H4 => y = x ∧ H4 = H3) I3 ⟨x, hjl σ x hj, rfl, rfl⟩) (fun v s4 h4 => ?_) fun x s' h => (hxe x s' h).elim
    obtain ⟨y, H4, I4, rv, ey, eH4⟩ := h4
    subst ey eH4
    intro kap hk
    have I5 := I4.unpinned
    have pC := I5.pin (C, oC) (List.mem_append_right _ List.mem_cons_self)
    have pD := I5.pin (D, oD) (List.mem_append_right _ (List.mem_cons_of_mem _ List.mem_cons_self))
    refine ⟨i, y, by omega, hxi, rv, hos _ _ _ I5, I5.bare, I5.nolimit, hgen _ _ _ I5, pC.1.trans e1.symm, pD.1.trans e2.symm, fun s' z => hk .none s' ?_⟩
    refine seg_execs_nil ?_
    refine seg_again rfl ?_
    refine ih (i + 1) _ s' s' (by omega) (by rw [List.length_set]; exact hj) hf ((show Two X C D _ H4 s₀ s4 from ⟨oC, oD, e1, e2, I5⟩).woken F z) ?_
    refine T.keep _ _ _ ht2 fun b hb o e => ?_
    obtain ⟨n1, n2⟩ := fp_ne (hf b hb oC oD)
    exact z.keep b o n1 n2 (I4.pin (b, o) (List.mem_append_right _ (List.mem_append_right _ (mem_pinsAt hb e)))).1
end
end GenFor
end

-- GenFor3
section
set_option Elab.async false
set_option linter.all false
set_option maxRecDepth 100000
set_option maxHeartbeats 1000000
/-! what a call of such a generator def gives. -/
namespace GenFor
open PySem PySem.Spec PyProof.Rows L2 GenW
/-- a generator that has not begun, and will hand out xs -/
def GMade2 (P : Program) (w : World) (k : Nat) (outer : List Env) (H : Hp) (s : Shared) (xs : List V) (u : Value) (s' : Shared) : Prop :=
  ∃ (a : Addr) (g : Nat) (c : Code), u = .ref a ∧ s.heap.objs.size ≤ a ∧ a < s'.heap.objs.size ∧ s'.heap.IsGen a g ∧ s'.gens[g]? = some (.fresh c) ∧ s'.os = s.os ∧ AllBare s'.gens ∧ s'.heap.NoLimit ∧ (∀ b o, s.heap.get? b = some o → s'.heap.get? b = some o) ∧
    ∀ (A : Around) (C D : Addr) (s2 : Shared), Room k A → A.frames = some outer → s'.heap.objs.size ≤ C → s'.heap.objs.size ≤ D → (∀ b o, s'.heap.get? b = some o → s2.heap.get? b = some o) → (∃ o, s2.heap.get? C = some o ∧ ∀ v, o.data ≠ .cell v) → (∃ o, s2.heap.get? D = some o ∧ ∀ v, o.data ≠ .cell v) →
      s2.os = s.os → AllBare s2.gens → Seg (model P w) A (R2e P w outer H s C D) (Y2 s C D a g xs) xs.length s2 c ((model P w).den c) [] s2
/-- a generator def that goes over a tuple -/
def GFn2 (P : Program) (w : World) (K : PySem.W.Frag) (mg : Str → Option Value) (base : Heap) (k : Nat) (f : Addr) (fd : FuncData) (ps : List Str) (sp : List V → Hp → List V → Prop) : Prop :=
  ∀ (A : Around) (outer : List Env) (s : Shared) (H : Hp) (args : Args) (us : List Value) (vs xs : List V), Room k A → Env0 P w K mg base A outer s H → BindsTo s fd args (ps.zip us) → Vals vs us → sp vs H xs →
    codeAny (model P w) A (.call (.ref f) args) (fun r s' => match r with | .ok (.ret u) => GMade2 P w k outer H s xs u s' | _ => False) s
abbrev gX (P : Program) (w : World) (K : PySem.W.Frag) (mg : Str → Option Value) (base : Heap) (N : List Str) (qual : Str) (scope : Scope) (f : Addr) (cdv : Value) (A : Around) (outer : List Env) (s : Shared) (H : Hp) (pn : List (Addr × Obj)) : Cx := (gcxOf P w K mg base N qual scope f cdv A outer s H (fun _ _ _ => False) pn).nox
theorem gen2_of {P : Program} {w : World} {K : PySem.W.Frag} {mg : Str → Option Value} {base : Heap} {k : Nat} {f : Addr} {name qual : Str} {params : Arguments} {scope : Scope} {dV kV doc pm cdv ct oc : Value} {an od : Option Addr}
    {osl : Array (Option Value)} {N ps : List Str} {sp : List V → Hp → List V → Prop} {tgt iter e : Expr} {yp ep fp : Pos} {j : Nat}
    (lk : K.lookup f = some ⟨oc, od, .func (PySem.W.fnOf name qual params [.For tgt iter [.Expr (.Yield (some e) yp) ep] [] fp] scope dV kV doc pm an cdv ct), osl⟩) (hcd : PySem.W.codeIn K cdv qual = true) (S : GScope N ps scope)
    (len : ∀ vs H xs, sp vs H xs → vs.length = ps.length) (hjN : j < N.length) (hs : ∀ (env : Env) (x : Value), foldedSetIterable iter env x = pure x) (hin : ∀ (L f' : Addr), interactive (envOfC qual scope L f' cdv) = false)
    (hbody : ∀ (A : Around) (outer : List Env) (s : Shared) (H : Hp) (vs xs : List V) (pn : List (Addr × Obj)), Room k (A.deeper (envOfC qual scope s.heap.objs.size f cdv)) → sp vs H xs →
      ∃ wi oa, PI (gX P w K mg base N qual scope f cdv A outer s H pn) tgt iter wi ∧ PG (gX P w K mg base N qual scope f cdv A outer s H pn) tgt (gName j) ∧ PE (gX P w K mg base N qual scope f cdv A outer s H pn) e (tVar j) ∧
        wi (start N vs) H (fun J H' => J = Itt K oa ∧ H' = H) ∧ SqT K H oa xs) :
    GFn2 P w K mg base (k + 1) f (PySem.W.fnOf name qual params [.For tgt iter [.Expr (.Yield (some e) yp) ep] [] fp] scope dV kV doc pm an cdv ct) ps sp := by
  intro A outer s H args us vs xs hr e0 hb r hsp
  have hl := len _ _ _ hsp
  have KX : K.In s.heap := e0.mod.kin.keeps fun b o e => (e0.bs b o e).1
  have lim : s.heap.NoLimit := e0.mod.nolimit.keeps fun b o e => (e0.bs b o e).1
  refine codeAny_call_generator hr.depth (KX _ _ lk) rfl S.co S.gen rfl (PySem.W.codeRec_of KX hcd) (hb _ _ _ _ ?_)
  refine wpAny_newFunctionEnv_cells S.kind (fun y hy => ?_) fun env he s1 x => ?_
  · rcases S.par y.1 (List.of_mem_zip hy).1 with q | q
    · exact .inl q
    · exact .inr ⟨q, PySem.W.cellsFrom_some _ _ _ (.inl q)⟩
  subst he
  refine ⟨lim.keeps x.toInCall.keep, ?_⟩
  have lim1 : s1.heap.NoLimit := lim.keeps x.toInCall.keep
  obtain ⟨h1, tk, es1, hk1⟩ := x.done
  have os1 : s1.os = s.os := by rw [es1]
  have gen1 : s1.gens = s.gens := by rw [es1]
  have lt1 : s.heap.objs.size < s1.heap.objs.size := x.toInCall.ns.lt
  have kp1 : ∀ b o, s.heap.get? b = some o → s1.heap.get? b = some o := x.toInCall.keep
  have main : ∀ (go : Obj) (nm qn : Value) (tk2 : Nat), go.cls = .type "generator" → go.data = .fields #[.int s1.gens.size 0, nm, qn] → go.slots = #[] → (∀ h : Heap, (h.push go).get? h.objs.size = some go) →
      GMade2 P w (k + 1) outer H s xs (.ref s1.heap.objs.size) { s1 with gens := s1.gens.push (.fresh (.func [.For tgt iter [.Expr (.Yield (some e) yp) ep] [] fp] (envOfC qual scope s.heap.objs.size f cdv))), toks := tk2, heap := s1.heap.push go } := by
    intro go nm qn tk2 hgc hgd0 hgs hgp
    have hgen : ∀ h : Heap, h.get? s1.heap.objs.size = some go → h.IsGen s1.heap.objs.size s1.gens.size := fun h e => ⟨go, nm, qn, e, hgc, hgd0, hgs⟩
    have hpushed : (s1.heap.push go).get? s1.heap.objs.size = some go := hgp _
    refine ⟨s1.heap.objs.size, s1.gens.size, _, rfl, Nat.le_of_lt lt1, ?_, hgen _ hpushed, Array.getElem?_push_size .., os1, AllBare.push (by rw [gen1]; exact e0.bare) rfl, lim1.keeps fun b o e => Heap.get?_push_of_some _ e, fun b o e => Heap.get?_push_of_some _ (kp1 b o e), ?_⟩
    · show _ < (s1.heap.push _).objs.size
      rw [Heap.size_push]; exact Nat.lt_succ_self _
    intro Aw C D s2 hrw hfr hC hD hk2 hCo hDo hos hba
    have e0w : Env0 P w K mg base Aw outer s H := ⟨hfr, e0.mod, e0.bs, e0.bsz, e0.funs, e0.frf, e0.hok, e0.bare⟩
    obtain ⟨wi, oa, hi, hg, he, hw, hq⟩ := hbody Aw outer s H vs xs [(s1.heap.objs.size, go)] (hrw.deeper _) hsp
    have I1 : Inv (gcxOf P w K mg base N qual scope f cdv Aw outer s H (fun _ _ _ => False) []) [] (start N vs) H s1 := inv_startG S hrw.hd e0w hl r x
    have kp2 : ∀ b o, s1.heap.get? b = some o → s2.heap.get? b = some o := fun b o e => hk2 b o (Heap.get?_push_of_some _ e)
    have I2 : Inv (gcxOf P w K mg base N qual scope f cdv Aw outer s H (fun _ _ _ => False) []) [] (start N vs) H s2 :=
      I1.call' (ch := []) (hos.trans os1.symm) (Un.kept kp2) (I1.hok.kept kp2) hba fun b z => by simp at z
    have above : ∀ {b : Addr}, (s1.heap.push go).objs.size ≤ b → s1.heap.objs.size < b := fun h => by rw [Heap.size_push] at h; exact h
    have hC1 := above hC
    have hD1 := above hD
    obtain ⟨oC, eC, nC⟩ := hCo
    obtain ⟨oD, eD, nD⟩ := hDo
    have young : ∀ b, s1.heap.objs.size ≤ b → H b = none ∧ b ≠ s.heap.objs.size ∧ b ∉ frs outer ∧ s.heap.objs.size ≤ b ∧ ∀ y c, (cellsFrom (s.heap.objs.size + 1) scope.names []).lookup y = some c → c ≠ b := fun b hb => by
      refine ⟨I1.hok.fresh hb, Nat.ne_of_gt (Nat.lt_of_lt_of_le lt1 hb), I1.nofs hb, Nat.le_trans (Nat.le_of_lt lt1) hb, fun y c e z => ?_⟩
      obtain ⟨v, ob, ho, _⟩ := I1.cell y c e
      have := Heap.lt_size ho
      rw [z] at this
      exact absurd (Nat.lt_of_lt_of_le this hb) (Nat.lt_irrefl _)
    obtain ⟨a1, a2, a3, a4, a5⟩ := young _ (Nat.le_refl _)
    obtain ⟨c1, c2, c3, c4, c5⟩ := young C (Nat.le_of_lt hC1)
    obtain ⟨d1, d2, d3, d4, d5⟩ := young D (Nat.le_of_lt hD1)
    have hT : Two (gX P w K mg base N qual scope f cdv Aw outer s H [(s1.heap.objs.size, go)]) C D (start N vs) H s2 s2 := by
      refine ⟨oC, oD, eC, eD, (Inv.pinnedG I2 fun p hp => ?_).wish _⟩
      rcases List.mem_append.mp hp with z | z
      · rw [List.mem_singleton.mp z]
        exact ⟨hk2 _ go hpushed, a1, a2, a3, fun v q => by rw [hgd0] at q; cases q⟩
      rcases List.mem_cons.mp z with z | z
      · rw [z]; exact ⟨eC, c1, c2, c3, nC⟩
      · rw [List.mem_singleton.mp z]; exact ⟨eD, d1, d2, d3, nD⟩
    have far : Far (gX P w K mg base N qual scope f cdv Aw outer s H [(s1.heap.objs.size, go)]) C D :=
      ⟨⟨c4, c2, c5⟩, ⟨d4, d2, d5⟩, fun p hp => by
        rw [List.mem_singleton.mp hp]
        exact ⟨Nat.ne_of_lt hC1, Nat.ne_of_lt hD1⟩⟩
    obtain ⟨oC', oD', eC', eD', I3⟩ := id hT
    refine seg_func ?_
    refine seg_execs_cons ?_
    refine seg_For (hs _) ?_
    rw [over_func]
    refine wpAny_mono (hi.run [(C, oC'), (D, oD')] s2 _ H _ I3 hw) (fun v s3 h3 => ?_) fun _ _ h => h.elim
    refine wpAny_mono h3 (fun itv s4 h4 => ?_) fun _ _ h => h.elim
    obtain ⟨it, fpa, tn, J, H4, eit, I4, T, st4, f4, eJ, eH⟩ := h4
    subst eit eJ eH
    intro p
    refine seg_loop (X := gX P w K mg base N qual scope f cdv Aw outer s H4 [(s1.heap.objs.size, go)]) (oa := oa) (j := j) rfl (fun _ _ h => h) far hg he T hq (fun pins σ s5 I5 => hgen _ (I5.pin (s1.heap.objs.size, go) (List.mem_append_left _ (List.mem_singleton.mpr rfl))).1) (fun pins σ s5 I5 => I5.os)
      (fun σ v h => List.getElem?_set_self h) ((over_loop rfl rfl).trans over_func) rfl rfl S.co (hin _ _) (fun σ s₀ s5 h5 => ?_) xs.length 0 (start N vs) s2 s4 (Nat.zero_add _) (by have := I4.len; exact this ▸ hjN) (fun b hb o1 o2 => fp_swap (f4 b hb)) ⟨oC', oD', eC', eD', I4⟩ st4
    refine seg_leaf (.ok .next) ?_
    show Seg _ _ _ _ _ _ _ (leafOf (.ok (.ret .none))) _ _
    obtain ⟨q1, q2, q3, q4⟩ := h5.at
    obtain ⟨_, _, _, _, I5⟩ := h5
    exact seg_end (.ok (.ret .none)) (.inl ⟨.inl rfl, rfl, I5.os, I5.bare, I5.base, I5.hok, q1, q2, q3, q4⟩)
  exact main _ _ _ _ rfl rfl rfl fun h => Heap.get?_push_size _ rfl
end GenFor
end

-- GenFor4
section
set_option Elab.async false
set_option linter.all false
set_option maxRecDepth 100000
set_option maxHeartbeats 1000000
/-! the consumer: [x for x in g], g such a generator: the comprehension's loop. -/
namespace GenFor
open PySem PySem.Spec PyProof.Rows L2 GenW
section
variable {P : Program} {w : World} {A : Around} {outer : List Env} {H : Hp} {sB : Shared} {C D a : Addr} {g : Nat} {xs : List V} {x : Str} {q p pos : Pos} {scope : Scope} {iter : Expr} {ce : Env} {R : Result → Shared → Prop}
/-- between two turns: i items are in the list -/
def Turns (P : Program) (w : World) (A : Around) (outer : List Env) (H : Hp) (sB : Shared) (C D a : Addr) (g : Nat) (xs : List V) (n : Nat) (s : Shared) : Prop :=
  ∃ (i : Nat) (us : List Value) (m : Str → Option Value), i + n = xs.length ∧ s.heap.IsGen a g ∧ s.heap.NoLimit ∧ (∃ gs, s.gens[g]? = some gs ∧ gs.Goes (model P w) A.in1 (R2e P w outer H sB C D) (Y2 sB C D a g xs) n (.send .none) (s.setGen g .running)) ∧
    s.heap.PlainList D us.toArray ∧ Vals (xs.take i) us ∧ s.heap.Ns C m
theorem comp_gen (hh : A.handled = none) (hd : A.depth < recursionLimit) (hl : ce.locals = C) (hk : ce.scope.kind = .function) (hx : ce.kindOf x = some .local) (hp : (ce.scope.kind == .class || (ce.scope.kind == .module && ce.locals != ce.globals)) = false) (hdb : (x == ("__debug__" : Str)) = false)
    (nCD : C ≠ D) (nCa : C ≠ a) (nDa : D ≠ a) (nCs : C ≠ cStatics) (nDs : D ≠ cStatics) (hsz : xs.length ≤ sizeLine)
    (done : ∀ s' us m, s'.os = sB.os → AllBare s'.gens → Un (frs outer) [] H H sB.heap s'.heap → HOk P w H s'.heap → H C = none → H D = none → s'.heap.PlainList D us.toArray → Vals xs us → s'.heap.Ns C m → R (.ok .next) s')
    (n : Nat) {s : Shared} (h : Turns P w A outer H sB C D a g xs n s) :
    codeAny (model P w) A (.compLoop (.ListComp (.Name x q) [⟨.Name x p, iter, [], 0⟩] scope pos) 0 (.ref a) (.ref D) ce) R s := by
  refine compLoop_any (fun n s => Turns P w A outer H sB C D a g xs n s) ?_ n h
  rintro n s ⟨i, us, m, hi, hg, hlim, ⟨gs, hgs, hgo⟩, hD, rv, hns⟩
  have hgl : g < s.gens.size := (Array.getElem?_eq_some_iff.mp hgs).1
  refine wpAny_gsz (n := g + 1) hgl (next_genG hh hlim hd hg hgs (F := F2 P w outer H sB C D) (Er := fun _ _ => False) (Y := Y2 sB C D a g xs) hgo (fun v s₁ gs' hbare hv => ?_) (fun s₁ hF h' hkp => ?_) fun e s₁ he => he.elim)
  · intro hsz'
    obtain ⟨i', y, hi', hy, rvy, hos, hba, hlm, hge, hC, hDq, hk'⟩ := hv
    have eC : s₁.heap.get? C = s.heap.get? C := hC
    have eD : s₁.heap.get? D = s.heap.get? D := hDq
    have hsz1 : g < s₁.gens.size := by
      have q : (s₁.setGen g gs').gens.size = s₁.gens.size := setGen_size _ _ _
      have hsz'' : g + 1 ≤ (s₁.setGen g gs').gens.size := hsz'
      omega
    have hns1 : s₁.heap.Ns C m := hns.at' fun o e => eC.trans e
    have hD1 : s₁.heap.PlainList D us.toArray := by
      obtain ⟨k, e⟩ := hD
      exact ⟨k, eD.trans e⟩
    refine wpAny_of_eq (rfl : letOwnedTupleGo (.Name x p) (.ref a) v = pure ()) ?_
    refine wpAny_assign_Name (wpAny_storeName_local (m := m) hx (by rw [hl]; exact hns1) (fun h₂ hn₂ hs₂ => ?_) hp)
    refine wpAny_tests_nil ?_
    rw [if_pos rfl]
    refine wpAny_Name (wpAny_loadName_local (v := v) hk hx hn₂ (if_pos rfl) ?_) hdb
    have nDl : D ≠ ce.locals := by rw [hl]; exact Ne.symm nCD
    have hD2 : h₂.PlainList D us.toArray := by
      obtain ⟨k, e⟩ := hD1
      exact ⟨k, hs₂.extBut D _ nDl e⟩
    have ul : us.length ≤ i := by rw [← rv.length, List.length_take]; exact Nat.min_le_left _ _
    refine wpAny_list_append_plain (hsz := by rw [List.size_toArray]; omega) hD2 fun h₅ hl₅ hs₅ => ?_
    have keep : ∀ b o, b ≠ C → b ≠ D → s₁.heap.get? b = some o → h₅.get? b = some o := fun b o n1 n2 e => hs₅.extBut b o n2 (hs₂.extBut b o (by rw [hl]; exact n1) e)
    have hns5 : h₅.Ns C (fun x_1 => if x_1 = x then some v else m x_1) := by
      rw [hl] at hn₂
      exact hn₂.at' fun o e => hs₅.extBut C o nCD e
    have wk : ∀ (t : Nat), Woke C D s₁ ({ s₁.setGen g gs' with heap := h₅, toks := t }.setGen g .running) := fun t => by
      refine ⟨rfl, allBare_setGen (allBare_setGen hba hbare) rfl, keep, ?_, ?_⟩
      · obtain ⟨ob, es, ep, ho, hd, _⟩ := hns5
        exact ⟨ob, ho, fun v e => by rw [hd] at e; cases e⟩
      · obtain ⟨k, e⟩ := hl₅
        exact ⟨_, e, fun v z => by cases z⟩
    cases n with
    | zero => exact (hk' _ (wk 0)).elim
    | succ n =>
      have e : i' = i := by omega
      subst e
      refine ⟨n, Nat.lt_succ_self _, i' + 1, us ++ [v], _, by omega, (let ⟨o, nm, qn, ho, r⟩ := hge; ⟨o, nm, qn, keep a o (Ne.symm nCa) (Ne.symm nDa) ho, r⟩), ?_, ⟨gs', setGen_at hsz1, hk' _ (wk _)⟩, ?_, ?_, hns5⟩
      · obtain ⟨mc, hnc, hnn⟩ := hlm
        exact ⟨mc, hnc.at' fun o e => keep _ o (Ne.symm nCs) (Ne.symm nDs) e, hnn⟩
      · have e : us.toArray.push v = (us ++ [v]).toArray := by simp
        rw [← e]
        exact hl₅
      · rw [List.take_add_one, hy]
        exact rv.append (.cons rvy .nil)
  · intro _
    obtain ⟨n0, os1, ba1, un, hok, hC, hDq, nC, nD⟩ := hF
    subst n0
    have e : xs.take i = xs := List.take_of_length_le (by omega)
    rw [e] at rv
    refine done _ us m os1 (allBare_setGen ba1 rfl) (un.trans (Un.kept hkp)) (hok.kept hkp) nC nD ?_ rv ?_
    · obtain ⟨k, e⟩ := hD
      exact ⟨k, hkp _ _ (hDq.trans e)⟩
    · exact hns.at' fun o e => hkp _ _ (hC.trans e)
end
end GenFor
end

-- GenFor5
section
set_option Elab.async false
set_option linter.all false
set_option maxRecDepth 100000
set_option maxHeartbeats 1000000
/-! [x for x in o.m()], m such a generator. -/
namespace GenFor
open PySem PySem.Spec PyProof.Rows L2 GenW
/-- an expression whose value is such a generator that has not begun: what it will hand out -/
structure PGen2 (X : Cx) (k : Nat) (e : Expr) (tg : TGen) : Prop where
  run : ∀ (pins : List (Addr × Obj)) (s : Shared) (σ : L2.St) (H : Hp) (cont : List V → Hp → Prop), Inv X pins σ H s → tg σ H cont → wpAny (model X.prog X.w) X.A (eval e X.env)
    (fun u s' => ∃ H1 sc xs, Inv X pins σ H1 sc ∧ GMade2 X.prog X.w k X.stack H1 sc xs u s' ∧ cont xs H1) X.xe s
def tMethG2 (S : Addr → Prop) (m : Str) (sp : List V → Hp → List V → Prop) (ta : TE) : TGen := fun σ H cont => ta σ H fun x H1 => ∃ a C dx fs xs, x = .ref a ∧ H1 a = some (.ins C dx fs) ∧ S C ∧ fs.lookup m = none ∧ sp [x] H1 xs ∧ cont xs H1
section
variable {X : Cx} {k : Nat} {f : Addr} {fd : FuncData} {ps : List Str} {sp : List V → Hp → List V → Prop} {o : Expr} {m : Str} {apos pos pos' : Pos} {ta : TE} {S : Addr → Prop}
/-- o.m(), of whatever class of ours -/
theorem pgen2_meth0 {pl : Sem Bool} (he : PE X o ta) (c : ∀ C, S C → Cls X.K C ∧ Meth X.K C m f) (F : GFn2 X.prog X.w X.K X.mg X.base k f fd ps sp) (len : ∀ vs H xs, sp vs H xs → vs.length = ps.length) (hr : Room k X.A) (hb : Binds X.K fd ps [])
    (ht : eval (.Call (.Attribute o m apos) [] [] pos') X.env = (do
      let ov ← eval o X.env
      standAt apos.atName
      let (f, first) ← holding [ov] (getMethod ov m pl)
      callWith pos' f first (backTo pos' (starEach [] X.env)) (backToKw pos' (keywordEach [] X.env))) := by rfl) :
    PGen2 X k (.Call (.Attribute o m apos) [] [] pos') (tMethG2 S m sp ta) := by
  constructor
  intro pins s σ H cont I h
  refine PySem.W.methodCall_KW (pl := pl) (thn (he.run pins s σ H _ I h) fun u s1 ⟨x, H1, I1, rx, a, C, dx, fs, xs, ex, ea, hS, l, hsp, hq⟩ => ?_) ht
  subst ex
  obtain rfl : u = Value.ref a := rx
  have hm := (c C hS).2
  refine getmeth_ok I1 ea (c C hS).1 hm l ?_
  refine PySem.W.callWith_K0 (first := [.ref a]) I1.kIn hm.kp ?_
  have hl2 : ([Value.ref a] ++ []).length = ps.length := len _ _ _ hsp
  refine wpAny_call (codeAny_mono (F X.A X.stack s1 H1 ⟨[.ref a], []⟩ ([Value.ref a] ++ []) [V.ref a] xs hr I1.env0 (hb s1 [Value.ref a] I1.kIn hl2) (show Vals [V.ref a] ([Value.ref a] ++ []) from .cons rfl .nil) hsp) fun r s' q => ?_)
  cases r with
  | error e => exact False.elim q
  | ok fl =>
    cases fl with
    | ret u => exact ⟨H1, s1, xs, I1, q, hq⟩
    | next => exact False.elim q
    | brk => exact False.elim q
    | cont => exact False.elim q
def tLcG (tg : TGen) : TE := fun σ H Q => tg σ H fun xs H1 => xs.length ≤ sizeLine ∧ ∀ p, H1 p = none → Q (.ref p) (upd H1 p (.lst xs))
theorem pe_lcG {iter : Expr} {tg : TGen} {x : Str} {q p : Pos} {scope : Scope} {own : List (Str × Nat)} (h : PGen2 X k iter tg) (hc : X.calm = true) (hr : Room (k + 1) X.A) (ok : BlkOk X.N X.env.scope scope own)
    (hx : ∀ (cl : List (Str × Addr)) (C : Addr), (compEnvC scope cl C X.env).kindOf x = some .local) (hdb : (x == ("__debug__" : Str)) = false := by decide) (hs : ∀ x, foldedSetIterable iter X.env x = pure x := by intro _; rfl) :
    PE X (.ListComp (.Name x q) [⟨.Name x p, iter, [], 0⟩] scope pos) (tLcG tg) := by
  constructor
  intro pins s σ H Q I hq
  rw [eval_ListComp]
  have hfree : ∀ y ∈ scope.names, y.2 = .free → ∃ c, X.env.cells.lookup y.1 = some c := fun y hy e => by
    rcases ok.free y hy e with k | k
    · exact I.ok.has _ (.inl k)
    · exact I.ok.has _ (.inr k)
  refine wpAny_comprehension_free (use := none) rfl hs (closure_ok hfree) ok.kind (fun y hy e => by rw [ok.uniq y hy, e])
    (thn (h.run pins s σ H _ I hq) fun u s1 ⟨H1, sc, xs, I1, G, hsz, hQ⟩ => ?_)
  obtain ⟨a, g, c, rfl, ha1, ha2, hgen, hfresh, os, ba, lim, kp, seg⟩ := G
  refine wpAny_pyIter_gen hgen ?_
  refine wpAny_newObj_type (newEnv_comp ?_) (by show 0 ≤ sizeLine; decide)
  generalize hD : s1.heap.objs.size = D
  generalize hs3 : ({ s1 with heap := s1.heap.push { cls := .type "list", data := .seq ([] : List Value).toArray } } : Shared) = s3
  show codeAny _ _ (.compStart (.ListComp (.Name x q) [⟨.Name x p, iter, [], 0⟩] scope pos) 0 (.ref a) (.ref D) (compEnvC scope (cellsFrom (s3.heap.objs.size + 1) scope.names (cloFrom X.env.cells scope.names [])) s3.heap.objs.size X.env)) (compPost (model X.prog X.w) X.A X.xe none (EP X pins σ Q) (.ref D) s3.heap.objs.size) { s3 with heap := pushCells (s3.heap.push { cls := .type "dict", data := .dict #[] }) scope.names }
  have hxe := hx (cellsFrom (s3.heap.objs.size + 1) scope.names (cloFrom X.env.cells scope.names [])) s3.heap.objs.size
  have kce : (compEnvC scope (cellsFrom (s3.heap.objs.size + 1) scope.names (cloFrom X.env.cells scope.names [])) s3.heap.objs.size X.env).scope.kind = .function := ok.kind
  generalize hce : compEnvC scope (cellsFrom (s3.heap.objs.size + 1) scope.names (cloFrom X.env.cells scope.names [])) s3.heap.objs.size X.env = ce at hxe kce ⊢
  have cL : ce.locals = s3.heap.objs.size := by subst hce; rfl
  have h3 : s3.heap = s1.heap.push { cls := .type "list", data := .seq ([] : List Value).toArray } := by rw [← hs3]
  have g3 : s3.gens = s1.gens := by rw [← hs3]
  have o3 : s3.os = s1.os := by rw [← hs3]
  have szC : s3.heap.objs.size = D + 1 := by rw [h3, Heap.size_push, hD]
  generalize hC : s3.heap.objs.size = C at cL szC ⊢
  have k3 : ∀ b o, s1.heap.get? b = some o → s3.heap.get? b = some o := fun b o e => by rw [h3]; exact Heap.get?_push_of_some _ e
  have k4 : ∀ b o, s3.heap.get? b = some o → (pushCells (s3.heap.push { cls := .type "dict", data := .dict #[] }) scope.names).get? b = some o := fun b o e => pushCells_keeps _ _ _ _ (Heap.get?_push_of_some _ e)
  have eC : (pushCells (s3.heap.push { cls := .type "dict", data := .dict #[] }) scope.names).get? C = some { cls := .type "dict", data := .dict #[] } := by
    rw [← hC]
    exact pushCells_keeps _ _ _ _ (Heap.get?_push_size _ rfl)
  have eD3 : s3.heap.get? D = some { cls := .type "list", data := .seq ([] : List Value).toArray } := by
    rw [h3, ← hD]
    exact Heap.get?_push_size _ rfl
  have eD := k4 _ _ eD3
  have kp4 : ∀ b o, s1.heap.get? b = some o → (pushCells (s3.heap.push { cls := .type "dict", data := .dict #[] }) scope.names).get? b = some o := fun b o e => k4 b o (k3 b o e)
  have aD : a < D := by rw [← hD]; exact ha2
  have stat : cStatics < D := by
    obtain ⟨mc, hns, _⟩ := id lim
    rw [← hD]
    exact hns.lt
  have scD : sc.heap.objs.size ≤ D := by rw [← hD]; exact Nat.le_trans ha1 (Nat.le_of_lt ha2)
  have DC : D < C := by rw [szC]; exact Nat.lt_succ_self _
  have aC : a < C := Nat.lt_trans aD DC
  have tC : cStatics < C := Nat.lt_trans stat DC
  generalize hs4 : ({ s3 with heap := pushCells (s3.heap.push { cls := .type "dict", data := .dict #[] }) scope.names } : Shared) = s4
  have h4 : s4.heap = pushCells (s3.heap.push { cls := .type "dict", data := .dict #[] }) scope.names := by rw [← hs4]
  have g4 : s4.gens = s1.gens := by rw [← hs4]; exact g3
  have o4 : s4.os = sc.os := by rw [← hs4]; exact o3.trans os
  rw [← h4] at eC eD kp4
  have ns4 : s4.heap.Ns C (fun _ => none) := ⟨_, _, _, eC, rfl, (fun e he => by simp at he), fun _ => rfl⟩
  have start : Turns X.prog X.w X.A X.stack H1 sc C D a g xs xs.length s4 := by
    refine ⟨0, [], _, Nat.zero_add _, hgen.keeps kp4, lim.keeps kp4, ⟨.fresh c, by rw [g4]; exact hfresh, rfl, ?_⟩, ⟨_, eD⟩, .nil, ns4⟩
    refine seg X.A.in1 C D (s4.setGen g .running) hr.in1 I1.ok.frames (by rw [hD, szC]; exact Nat.le_succ _) (Nat.le_of_eq hD) (fun b o e => kp4 b o e) ⟨_, eC, fun v z => by cases z⟩ ⟨_, eD, fun v z => by cases z⟩ o4 (allBare_setGen (by rw [g4]; exact ba) rfl)
  have loop : codeAny (model X.prog X.w) X.A (.compLoop (.ListComp (.Name x q) [⟨.Name x p, iter, [], 0⟩] scope pos) 0 (.ref a) (.ref D) ce) (compPost (model X.prog X.w) X.A X.xe none (EP X pins σ Q) (.ref D) C) s4 := by
    refine comp_gen (I1.ok.hd hc) hr.depth cL kce hxe (by rw [kce]; rfl) hdb (Nat.ne_of_gt DC) (Nat.ne_of_gt aC) (Nat.ne_of_gt aD) (Nat.ne_of_gt tC) (Nat.ne_of_gt stat) hsz (fun s' us m os' ba' un hok nC nD hl rv hns => ?_) xs.length start
    obtain ⟨kk, hl⟩ := hl
    have rv' : Vals xs us.toArray.toList := rv
    have I5 : Inv X pins σ (upd H1 D (.lst xs)) s' := I1.drained (ex := []) scD hsz hl rv' .nil os' ba' un hok nD
    have fC : FpOk X pins (upd H1 D (.lst xs)) C := I1.fpOk (Nat.le_trans scD (Nat.le_of_lt DC)) (by rw [upd_ne (Nat.ne_of_gt DC)]; exact nC)
    obtain ⟨f0, f1, f2, f3, f4, f5⟩ := fC
    exact ⟨m, hns, fun h'' sb => ⟨.ref D, _, I5.turned (t' := s'.toks) (fun b o hb e => (sb.2 b hb).trans e) f0 f1 f3 f4 f5, rfl, hQ D nD⟩⟩
  exact codeAny_compStart_list loop (wpAny_pyIter_gen (hgen.keeps kp4) loop)
end
end GenFor
end

-- GenS1
section
set_option Elab.async false
set_option linter.all false
set_option maxRecDepth 100000
set_option maxHeartbeats 1000000
/-! a generator def whose body is one for that hands an expression out; the heap may grow between two items. -/
namespace GenS
open PySem PySem.Spec PyProof.Rows L2 GenW GenFor
/-- the consumer takes v into its list at D, and turns its names at C -/
structure Took (C D : Addr) (v : Value) (s s' : Shared) : Prop where
  woke : Woke C D s s'
  list : ∀ us : Array Value, s.heap.PlainList D us → s'.heap.PlainList D (us.push v)
def YS (sB : Shared) (C D a : Addr) (g : Nat) : Protocol := fun _ s₀ v s1 kap =>
  s1.os = sB.os ∧ AllBare s1.gens ∧ s1.heap.NoLimit ∧ s1.heap.IsGen a g ∧ s1.heap.get? C = s₀.heap.get? C ∧ s1.heap.get? D = s₀.heap.get? D ∧ ∀ s', Took C D v s1 s' → kap (.send .none) s'
def FS (P : Program) (w : World) (outer : List Env) (H : Hp) (sB : Shared) (C D : Addr) (cont : List V → Hp → Prop) : Nat → Shared → Shared → Prop := fun _ s₀ s1 =>
  s1.os = sB.os ∧ AllBare s1.gens ∧ s1.heap.get? C = s₀.heap.get? C ∧ s1.heap.get? D = s₀.heap.get? D ∧ ∃ G ys us, Un (frs outer) [] H G sB.heap s1.heap ∧ HOk P w G s1.heap ∧ G C = none ∧ G D = none ∧ s1.heap.PlainList D us ∧ Vals ys us.toList ∧ cont ys G
def RS (P : Program) (w : World) (outer : List Env) (H : Hp) (sB : Shared) (C D : Addr) (cont : List V → Hp → Prop) : GenEnd := fun n s₀ r s1 =>
  ((r = .ok (.ret .none) ∨ r = .ok .next) ∧ FS P w outer H sB C D cont n s₀ s1) ∨ ∃ e, r = .error e ∧ False
/-- what the loop keeps -/
structure LoopS (te : TE) (σ0 : L2.St) (j n : Nat) (cont : List V → Hp → Prop) (J : It) (GI : Nat → Hp → List V → Prop) : Prop where
  step : ∀ i G ys, i < n → GI i G ys → J.go i G ∧ ∀ x G', J.yld i G x G' → te (σ0.set j (some x)) G' fun y G2 => GI (i + 1) G2 (ys ++ [y])
  last : ∀ G ys, GI n G ys → J.stop n G ∧ cont ys G
section
variable {X : Cx} {A : Around} {R : GenEnd} {C D a it : Addr} {g j n : Nat} {sB : Shared} {fs : List Frame} {tgt e : Expr} {yp ep : Pos} {fp : List Addr} {tn : Nat → Heap → Prop} {te : TE} {σ0 : L2.St} {cont : List V → Hp → Prop} {J : It} {GI : Nat → Hp → List V → Prop}
theorem seg_loopS (hc : X.calm = true) (hxe : ∀ x s', X.xe x s' → False) (F : Far X C D) (hg : PG X tgt (gName j)) (he : PE X e te) (T : Turn X.prog X.w X.K tgt J fp it tn) (L : LoopS te σ0 j n cont J GI)
    (hgen : ∀ (pins : List (Addr × Obj)) (σ : L2.St) (H : Hp) (s : Shared), Inv X pins σ H s → s.heap.IsGen a g) (hos : ∀ (pins : List (Addr × Obj)) (σ : L2.St) (H : Hp) (s : Shared), Inv X pins σ H s → s.os = sB.os)
    (hov : A.over (.forLoop tgt (.ref it) [.Expr (.Yield (some e) yp) ep] [] X.env) fs = X.A) (hsp : splitAtGen fs = none) (hgu : fs.any Frame.guarded = false) (hco : X.env.scope.isCoroutine = false) (hin : interactive X.env = false)
    (hend : ∀ (σ : L2.St) (G : Hp) (ys : List V) (us : Array Value) (s₀ s1 : Shared), Two X C D σ G s₀ s1 → s₀.heap.PlainList D us → Vals ys us.toList → cont ys G → Seg (model X.prog X.w) A R (YS sB C D a g) 0 s₀ (.block [] X.env) (leafOf (.ok .next)) fs s1) :
    ∀ (r i : Nat) (o : Option V) (H : Hp) (ys : List V) (us : Array Value) (s₀ s : Shared), i + r = n → (∀ b ∈ fp, ∀ o1 o2, FpOk X [(C, o1), (D, o2)] H b) → GI i H ys → s₀.heap.PlainList D us → Vals ys us.toList → Two X C D (σ0.set j o) H s₀ s → tn i s.heap →
      Seg (model X.prog X.w) A R (YS sB C D a g) r s₀ (.forLoop tgt (.ref it) [.Expr (.Yield (some e) yp) ep] [] X.env) ((model X.prog X.w).den (.forLoop tgt (.ref it) [.Expr (.Yield (some e) yp) ep] [] X.env)) fs s := by
  intro r
  induction r with
  | zero =>
    intro i o H ys us s₀ s hi hf hG hl rv hT ht
    have ei : i = n := by omega
    subst ei
    refine seg_forLoop ?_
    rw [hov]
    obtain ⟨oC, oD, e1, e2, I⟩ := hT
    obtain ⟨hs, hcont⟩ := L.last _ _ hG
    refine wpAny_mono (T.done X rfl rfl rfl hc i [(C, oC), (D, oD)] s _ H (fun _ _ => False) I (fun b hb => hf b hb _ _) ht hs) (fun r s1 ⟨er, I1⟩ => ?_) fun _ _ h => h.elim
    subst er
    refine seg_again rfl ?_
    exact hend _ H ys us s₀ s1 ⟨oC, oD, e1, e2, I1⟩ hl rv hcont
  | succ r ih =>
    intro i o H ys us s₀ s hi hf hG hl rv hT ht
    refine seg_forLoop ?_
    rw [hov]
    obtain ⟨oC, oD, e1, e2, I⟩ := hT
    have lt : i < n := by omega
    obtain ⟨hgo, hstep⟩ := L.step i H ys lt hG
    refine wpAny_mono (T.item X rfl rfl rfl hc i [(C, oC), (D, oD)] s _ H (fun _ _ => False) I (fun b hb => hf b hb _ _) ht hgo) (fun r1 s1 ⟨u, er, h1⟩ => ?_) fun _ _ h => h.elim
    subst er
    refine wpAny_mono h1 (fun _ s2 h2 => ?_) fun _ _ h => h.elim
    obtain ⟨x, H', I2, ru, hy, ht2, hn2⟩ := h2
    have I2' := I2.pinned (fun b hb => ⟨hn2 b hb, (hf b hb oC oD).2⟩) (T.obj _ _ ht2)
    refine wpAny_mono (hg.run _ s2 _ H' x u (fun σ' H2 => σ' = (σ0.set j o).set j (some x) ∧ H2 = H') I2' ru ⟨rfl, rfl⟩) (fun _ s3 h3 => ?_) fun x s' h => (hxe x s' h).elim
    obtain ⟨σ3, H3, I3, eσ, eH3⟩ := h3
    rw [List.set_set] at eσ
    subst eσ eH3
    refine seg_execs_cons ?_
    refine seg_Expr_Yield hsp rfl hgu ?_ hco hin
    rw [hov]
    refine wpAny_mono (he.run _ s3 _ H3 _ I3 (hstep x _ hy)) (fun v s4 h4 => ?_) fun x s' h => (hxe x s' h).elim
    obtain ⟨y, H4, I4, rv4, hG4⟩ := h4
    intro kap hk
    have I5 := I4.unpinned
    have pC := I5.pin (C, oC) (List.mem_append_right _ List.mem_cons_self)
    have pD := I5.pin (D, oD) (List.mem_append_right _ (List.mem_cons_of_mem _ List.mem_cons_self))
    have eD : s4.heap.get? D = s₀.heap.get? D := pD.1.trans e2.symm
    refine ⟨hos _ _ _ _ I5, I5.bare, I5.nolimit, hgen _ _ _ _ I5, pC.1.trans e1.symm, eD, fun s' z => hk .none s' ?_⟩
    refine seg_execs_nil ?_
    refine seg_again rfl ?_
    have pinned : ∀ b ∈ fp, ∀ ob, s2.heap.get? b = some ob → s4.heap.get? b = some ob ∧ H4 b = none := fun b hb ob e =>
      let q := I4.pin (b, ob) (List.mem_append_right _ (List.mem_append_right _ (mem_pinsAt hb e)))
      ⟨q.1, q.2.1⟩
    have hl4 : s4.heap.PlainList D us := by
      obtain ⟨k, e⟩ := hl
      exact ⟨k, eD.trans e⟩
    refine ih (i + 1) (some x) H4 (ys ++ [y]) (us.push v) s' s' (by omega) (fun b hb o1 o2 => ?_) hG4 (z.list us hl4) ?_ ((show Two X C D _ H4 s₀ s4 from ⟨oC, oD, e1, e2, I5⟩).woken F z.woke) ?_
    · obtain ⟨ob, eo, _⟩ := T.obj _ _ ht2 b hb
      exact ⟨(pinned b hb ob eo).2, (hf b hb o1 o2).2⟩
    · rw [Array.toList_push]
      exact rv.append (.cons rv4 .nil)
    · refine T.keep _ _ _ ht2 fun b hb o e => ?_
      obtain ⟨n1, n2⟩ := fp_ne (hf b hb oC oD)
      exact z.woke.keep b o n1 n2 (pinned b hb o e).1
end
end GenS
end

-- GenS2
section
set_option Elab.async false
set_option linter.all false
set_option maxRecDepth 100000
set_option maxHeartbeats 1000000
/-! what a call of such a generator def gives. -/
namespace GenS
open PySem PySem.Spec PyProof.Rows L2 GenW GenFor
/-- a generator that has not begun, and will hand out n items -/
def GMadeS (P : Program) (w : World) (k : Nat) (outer : List Env) (H : Hp) (s : Shared) (n : Nat) (cont : List V → Hp → Prop) (u : Value) (s' : Shared) : Prop :=
  ∃ (a : Addr) (g : Nat) (c : Code), u = .ref a ∧ s.heap.objs.size ≤ a ∧ a < s'.heap.objs.size ∧ s'.heap.IsGen a g ∧ s'.gens[g]? = some (.fresh c) ∧ s'.os = s.os ∧ AllBare s'.gens ∧ s'.heap.NoLimit ∧ (∀ b o, s.heap.get? b = some o → s'.heap.get? b = some o) ∧
    ∀ (A : Around) (C D : Addr) (s2 : Shared), Room k A → A.frames = some outer → s'.heap.objs.size ≤ C → s'.heap.objs.size ≤ D → (∀ b o, s'.heap.get? b = some o → s2.heap.get? b = some o) → (∃ o, s2.heap.get? C = some o ∧ ∀ v, o.data ≠ .cell v) → s2.heap.PlainList D #[] →
      s2.os = s.os → AllBare s2.gens → Seg (model P w) A (RS P w outer H s C D cont) (YS s C D a g) n s2 c ((model P w).den c) [] s2
abbrev SpS := List V → Hp → Nat → (List V → Hp → Prop) → Prop
def GFnS (P : Program) (w : World) (K : PySem.W.Frag) (mg : Str → Option Value) (base : Heap) (k : Nat) (f : Addr) (fd : FuncData) (ps : List Str) (sp : SpS) : Prop :=
  ∀ (A : Around) (outer : List Env) (s : Shared) (H : Hp) (args : Args) (us : List Value) (vs : List V) (n : Nat) (cont : List V → Hp → Prop), Room k A → Env0 P w K mg base A outer s H → BindsTo s fd args (ps.zip us) → Vals vs us → sp vs H n cont →
    codeAny (model P w) A (.call (.ref f) args) (fun r s' => match r with | .ok (.ret u) => GMadeS P w k outer H s n cont u s' | _ => False) s
theorem genS_of {P : Program} {w : World} {K : PySem.W.Frag} {mg : Str → Option Value} {base : Heap} {k : Nat} {f : Addr} {name qual : Str} {params : Arguments} {scope : Scope} {dV kV doc pm cdv ct oc : Value} {an od : Option Addr}
    {osl : Array (Option Value)} {N ps : List Str} {sp : SpS} {tgt iter e : Expr} {yp ep fp : Pos} {j : Nat}
    (lk : K.lookup f = some ⟨oc, od, .func (PySem.W.fnOf name qual params [.For tgt iter [.Expr (.Yield (some e) yp) ep] [] fp] scope dV kV doc pm an cdv ct), osl⟩) (hcd : PySem.W.codeIn K cdv qual = true) (S : GScope N ps scope)
    (len : ∀ vs H n cont, sp vs H n cont → vs.length = ps.length) (hjN : j < N.length) (hs : ∀ (env : Env) (x : Value), foldedSetIterable iter env x = pure x) (hin : ∀ (L f' : Addr), interactive (envOfC qual scope L f' cdv) = false)
    (hbody : ∀ (A : Around) (outer : List Env) (s : Shared) (H : Hp) (vs : List V) (n : Nat) (cont : List V → Hp → Prop) (pn : List (Addr × Obj)), Room k (A.deeper (envOfC qual scope s.heap.objs.size f cdv)) → sp vs H n cont →
      ∃ wi te, PI (gX P w K mg base N qual scope f cdv A outer s H pn) tgt iter wi ∧ PG (gX P w K mg base N qual scope f cdv A outer s H pn) tgt (gName j) ∧ PE (gX P w K mg base N qual scope f cdv A outer s H pn) e te ∧
        wi (start N vs) H (fun J H' => ∃ GI, GI 0 H' [] ∧ LoopS te (start N vs) j n cont J GI)) :
    GFnS P w K mg base (k + 1) f (PySem.W.fnOf name qual params [.For tgt iter [.Expr (.Yield (some e) yp) ep] [] fp] scope dV kV doc pm an cdv ct) ps sp := by
  intro A outer s H args us vs n cont hr e0 hb r hsp
  have hl := len _ _ _ _ hsp
  have KX : K.In s.heap := e0.mod.kin.keeps fun b o e => (e0.bs b o e).1
  have lim : s.heap.NoLimit := e0.mod.nolimit.keeps fun b o e => (e0.bs b o e).1
  refine codeAny_call_generator hr.depth (KX _ _ lk) rfl S.co S.gen rfl (PySem.W.codeRec_of KX hcd) (hb _ _ _ _ ?_)
  refine wpAny_newFunctionEnv_cells S.kind (fun y hy => ?_) fun env he s1 x => ?_
  · rcases S.par y.1 (List.of_mem_zip hy).1 with q | q
    · exact .inl q
    · exact .inr ⟨q, PySem.W.cellsFrom_some _ _ _ (.inl q)⟩
  subst he
  refine ⟨lim.keeps x.toInCall.keep, ?_⟩
  have lim1 : s1.heap.NoLimit := lim.keeps x.toInCall.keep
  obtain ⟨h1, tk, es1, hk1⟩ := x.done
  have os1 : s1.os = s.os := by rw [es1]
  have gen1 : s1.gens = s.gens := by rw [es1]
  have lt1 : s.heap.objs.size < s1.heap.objs.size := x.toInCall.ns.lt
  have kp1 : ∀ b o, s.heap.get? b = some o → s1.heap.get? b = some o := x.toInCall.keep
  have main : ∀ (go : Obj) (nm qn : Value) (tk2 : Nat), go.cls = .type "generator" → go.data = .fields #[.int s1.gens.size 0, nm, qn] → go.slots = #[] → (∀ h : Heap, (h.push go).get? h.objs.size = some go) →
      GMadeS P w (k + 1) outer H s n cont (.ref s1.heap.objs.size) { s1 with gens := s1.gens.push (.fresh (.func [.For tgt iter [.Expr (.Yield (some e) yp) ep] [] fp] (envOfC qual scope s.heap.objs.size f cdv))), toks := tk2, heap := s1.heap.push go } := by
    intro go nm qn tk2 hgc hgd0 hgs hgp
    have hgen : ∀ h : Heap, h.get? s1.heap.objs.size = some go → h.IsGen s1.heap.objs.size s1.gens.size := fun h e => ⟨go, nm, qn, e, hgc, hgd0, hgs⟩
    have hpushed : (s1.heap.push go).get? s1.heap.objs.size = some go := hgp _
    refine ⟨s1.heap.objs.size, s1.gens.size, _, rfl, Nat.le_of_lt lt1, ?_, hgen _ hpushed, Array.getElem?_push_size .., os1, AllBare.push (by rw [gen1]; exact e0.bare) rfl, lim1.keeps fun b o e => Heap.get?_push_of_some _ e, fun b o e => Heap.get?_push_of_some _ (kp1 b o e), ?_⟩
    · show _ < (s1.heap.push _).objs.size
      rw [Heap.size_push]; exact Nat.lt_succ_self _
    intro Aw C D s2 hrw hfr hC hD hk2 hCo hDl hos hba
    have hDo : ∃ o, s2.heap.get? D = some o ∧ ∀ v, o.data ≠ .cell v := by
      obtain ⟨kk, e⟩ := hDl
      exact ⟨_, e, fun v z => by cases z⟩
    have e0w : Env0 P w K mg base Aw outer s H := ⟨hfr, e0.mod, e0.bs, e0.bsz, e0.funs, e0.frf, e0.hok, e0.bare⟩
    obtain ⟨wi, te, hi, hg, he, hw⟩ := hbody Aw outer s H vs n cont [(s1.heap.objs.size, go)] (hrw.deeper _) hsp
    have I1 : Inv (gcxOf P w K mg base N qual scope f cdv Aw outer s H (fun _ _ _ => False) []) [] (start N vs) H s1 := inv_startG S hrw.hd e0w hl r x
    have kp2 : ∀ b o, s1.heap.get? b = some o → s2.heap.get? b = some o := fun b o e => hk2 b o (Heap.get?_push_of_some _ e)
    have I2 : Inv (gcxOf P w K mg base N qual scope f cdv Aw outer s H (fun _ _ _ => False) []) [] (start N vs) H s2 :=
      I1.call' (ch := []) (hos.trans os1.symm) (Un.kept kp2) (I1.hok.kept kp2) hba fun b z => by simp at z
    have above : ∀ {b : Addr}, (s1.heap.push go).objs.size ≤ b → s1.heap.objs.size < b := fun h => by rw [Heap.size_push] at h; exact h
    have hC1 := above hC
    have hD1 := above hD
    obtain ⟨oC, eC, nC⟩ := hCo
    obtain ⟨oD, eD, nD⟩ := hDo
    have young : ∀ b, s1.heap.objs.size ≤ b → H b = none ∧ b ≠ s.heap.objs.size ∧ b ∉ frs outer ∧ s.heap.objs.size ≤ b ∧ ∀ y c, (cellsFrom (s.heap.objs.size + 1) scope.names []).lookup y = some c → c ≠ b := fun b hb => by
      refine ⟨I1.hok.fresh hb, Nat.ne_of_gt (Nat.lt_of_lt_of_le lt1 hb), I1.nofs hb, Nat.le_trans (Nat.le_of_lt lt1) hb, fun y c e z => ?_⟩
      obtain ⟨v, ob, ho, _⟩ := I1.cell y c e
      have := Heap.lt_size ho
      rw [z] at this
      exact absurd (Nat.lt_of_lt_of_le this hb) (Nat.lt_irrefl _)
    obtain ⟨a1, a2, a3, a4, a5⟩ := young _ (Nat.le_refl _)
    obtain ⟨c1, c2, c3, c4, c5⟩ := young C (Nat.le_of_lt hC1)
    obtain ⟨d1, d2, d3, d4, d5⟩ := young D (Nat.le_of_lt hD1)
    have hT : Two (gX P w K mg base N qual scope f cdv Aw outer s H [(s1.heap.objs.size, go)]) C D (start N vs) H s2 s2 := by
      refine ⟨oC, oD, eC, eD, (Inv.pinnedG I2 fun p hp => ?_).wish _⟩
      rcases List.mem_append.mp hp with z | z
      · rw [List.mem_singleton.mp z]
        exact ⟨hk2 _ go hpushed, a1, a2, a3, fun v q => by rw [hgd0] at q; cases q⟩
      rcases List.mem_cons.mp z with z | z
      · rw [z]; exact ⟨eC, c1, c2, c3, nC⟩
      · rw [List.mem_singleton.mp z]; exact ⟨eD, d1, d2, d3, nD⟩
    have far : Far (gX P w K mg base N qual scope f cdv Aw outer s H [(s1.heap.objs.size, go)]) C D :=
      ⟨⟨c4, c2, c5⟩, ⟨d4, d2, d5⟩, fun p hp => by
        rw [List.mem_singleton.mp hp]
        exact ⟨Nat.ne_of_lt hC1, Nat.ne_of_lt hD1⟩⟩
    obtain ⟨oC', oD', eC', eD', I3⟩ := id hT
    refine seg_func ?_
    refine seg_execs_cons ?_
    refine seg_For (hs _) ?_
    rw [over_func]
    refine wpAny_mono (hi.run [(C, oC'), (D, oD')] s2 _ H _ I3 hw) (fun v s3 h3 => ?_) fun _ _ h => h.elim
    refine wpAny_mono h3 (fun itv s4 h4 => ?_) fun _ _ h => h.elim
    obtain ⟨it, fpa, tn, J, H4, eit, I4, T, st4, f4, GI, g0, L⟩ := h4
    subst eit
    intro p
    have ll : j < (start N vs).length := by have := I4.len; exact this ▸ hjN
    have e0s : (start N vs).set j ((start N vs)[j]) = start N vs := List.set_getElem_self _
    refine seg_loopS (X := gX P w K mg base N qual scope f cdv Aw outer s H [(s1.heap.objs.size, go)]) (j := j) rfl (fun _ _ h => h) far hg he T L (fun pins σ H5 s5 I5 => hgen _ (I5.pin (s1.heap.objs.size, go) (List.mem_append_left _ (List.mem_singleton.mpr rfl))).1) (fun pins σ H5 s5 I5 => I5.os)
      ((over_loop rfl rfl).trans over_func) rfl rfl S.co (hin _ _) (fun σ G ys us s₀ s5 h5 hl5 rv5 hc5 => ?_) n 0 ((start N vs)[j]) H4 [] #[] s2 s4 (Nat.zero_add _) (fun b hb o1 o2 => fp_swap (f4 b hb)) g0 hDl .nil (by rw [e0s]; exact ⟨oC', oD', eC', eD', I4⟩) st4
    refine seg_leaf (.ok .next) ?_
    show Seg _ _ _ _ _ _ _ (leafOf (.ok (.ret .none))) _ _
    obtain ⟨q1, q2, q3, q4⟩ := h5.at
    obtain ⟨_, _, _, _, I5⟩ := h5
    refine seg_end (.ok (.ret .none)) (.inl ⟨.inl rfl, I5.os, I5.bare, q1, q2, G, ys, us, I5.base, I5.hok, q3, q4, ?_, rv5, hc5⟩)
    obtain ⟨kk, e⟩ := hl5
    exact ⟨kk, q2.trans e⟩
  exact main _ _ _ _ rfl rfl rfl fun h => Heap.get?_push_size _ rfl
end GenS
end

-- GenS3
section
set_option Elab.async false
set_option linter.all false
set_option maxRecDepth 100000
set_option maxHeartbeats 1000000
/-! the consumer: [x for x in g], g such a generator. -/
namespace GenS
open PySem PySem.Spec PyProof.Rows L2 GenW GenFor
section
variable {P : Program} {w : World} {A : Around} {outer : List Env} {H : Hp} {sB : Shared} {C D a : Addr} {g N : Nat} {cont : List V → Hp → Prop} {x : Str} {q p pos : Pos} {scope : Scope} {iter : Expr} {ce : Env} {R : Result → Shared → Prop}
/-- between two turns -/
def TurnsS (P : Program) (w : World) (A : Around) (outer : List Env) (H : Hp) (sB : Shared) (C D a : Addr) (g N : Nat) (cont : List V → Hp → Prop) (n : Nat) (s : Shared) : Prop :=
  ∃ (us : List Value) (m : Str → Option Value), us.length + n = N ∧ s.heap.IsGen a g ∧ s.heap.NoLimit ∧ (∃ gs, s.gens[g]? = some gs ∧ gs.Goes (model P w) A.in1 (RS P w outer H sB C D cont) (YS sB C D a g) n (.send .none) (s.setGen g .running)) ∧
    s.heap.PlainList D us.toArray ∧ s.heap.Ns C m
theorem comp_genS (hh : A.handled = none) (hd : A.depth < recursionLimit) (hl : ce.locals = C) (hk : ce.scope.kind = .function) (hx : ce.kindOf x = some .local) (hp : (ce.scope.kind == .class || (ce.scope.kind == .module && ce.locals != ce.globals)) = false) (hdb : (x == ("__debug__" : Str)) = false)
    (nCD : C ≠ D) (nCa : C ≠ a) (nDa : D ≠ a) (nCs : C ≠ cStatics) (nDs : D ≠ cStatics) (hsz : N ≤ sizeLine)
    (done : ∀ s' us m G ys, s'.os = sB.os → AllBare s'.gens → Un (frs outer) [] H G sB.heap s'.heap → HOk P w G s'.heap → G C = none → G D = none → s'.heap.PlainList D us → Vals ys us.toList → ys.length ≤ sizeLine → cont ys G → s'.heap.Ns C m → R (.ok .next) s')
    (n : Nat) {s : Shared} (h : TurnsS P w A outer H sB C D a g N cont n s) :
    codeAny (model P w) A (.compLoop (.ListComp (.Name x q) [⟨.Name x p, iter, [], 0⟩] scope pos) 0 (.ref a) (.ref D) ce) R s := by
  refine compLoop_any (fun n s => TurnsS P w A outer H sB C D a g N cont n s) ?_ n h
  rintro n s ⟨us, m, hi, hg, hlim, ⟨gs, hgs, hgo⟩, hD, hns⟩
  have hgl : g < s.gens.size := (Array.getElem?_eq_some_iff.mp hgs).1
  refine wpAny_gsz (n := g + 1) hgl (next_genG hh hlim hd hg hgs (F := FS P w outer H sB C D cont) (Er := fun _ _ => False) (Y := YS sB C D a g) hgo (fun v s₁ gs' hbare hv => ?_) (fun s₁ hF h' hkp => ?_) fun e s₁ he => he.elim)
  · intro hsz'
    obtain ⟨hos, hba, hlm, hge, hC, hDq, hk'⟩ := hv
    have eC : s₁.heap.get? C = s.heap.get? C := hC
    have eD : s₁.heap.get? D = s.heap.get? D := hDq
    have hsz1 : g < s₁.gens.size := by
      have q : (s₁.setGen g gs').gens.size = s₁.gens.size := setGen_size _ _ _
      have hsz'' : g + 1 ≤ (s₁.setGen g gs').gens.size := hsz'
      omega
    have hns1 : s₁.heap.Ns C m := hns.at' fun o e => eC.trans e
    have hD1 : s₁.heap.PlainList D us.toArray := by
      obtain ⟨k, e⟩ := hD
      exact ⟨k, eD.trans e⟩
    refine wpAny_of_eq (rfl : letOwnedTupleGo (.Name x p) (.ref a) v = pure ()) ?_
    refine wpAny_assign_Name (wpAny_storeName_local (m := m) hx (by rw [hl]; exact hns1) (fun h₂ hn₂ hs₂ => ?_) hp)
    refine wpAny_tests_nil ?_
    rw [if_pos rfl]
    refine wpAny_Name (wpAny_loadName_local (v := v) hk hx hn₂ (if_pos rfl) ?_) hdb
    have nDl : D ≠ ce.locals := by rw [hl]; exact Ne.symm nCD
    have hD2 : h₂.PlainList D us.toArray := by
      obtain ⟨k, e⟩ := hD1
      exact ⟨k, hs₂.extBut D _ nDl e⟩
    refine wpAny_list_append_plain (hsz := by rw [List.size_toArray]; omega) hD2 fun h₅ hl₅ hs₅ => ?_
    have keep : ∀ b o, b ≠ C → b ≠ D → s₁.heap.get? b = some o → h₅.get? b = some o := fun b o n1 n2 e => hs₅.extBut b o n2 (hs₂.extBut b o (by rw [hl]; exact n1) e)
    have hns5 : h₅.Ns C (fun x_1 => if x_1 = x then some v else m x_1) := by
      rw [hl] at hn₂
      exact hn₂.at' fun o e => hs₅.extBut C o nCD e
    have wk : ∀ (t : Nat), Took C D v s₁ ({ s₁.setGen g gs' with heap := h₅, toks := t }.setGen g .running) := fun t => by
      refine ⟨⟨rfl, allBare_setGen (allBare_setGen hba hbare) rfl, keep, ?_, ?_⟩, fun us' h' => ?_⟩
      · obtain ⟨ob, es, ep, ho, hd, _⟩ := hns5
        exact ⟨ob, ho, fun v e => by rw [hd] at e; cases e⟩
      · obtain ⟨k, e⟩ := hl₅
        exact ⟨_, e, fun v z => by cases z⟩
      · obtain ⟨k1, e1⟩ := hD1
        obtain ⟨k2, e2⟩ := h'
        rw [e1] at e2
        cases e2
        exact hl₅
    cases n with
    | zero => exact (hk' _ (wk 0)).elim
    | succ n =>
      refine ⟨n, Nat.lt_succ_self _, us ++ [v], _, by rw [List.length_append]; show us.length + 1 + n = N; omega, (let ⟨o, nm, qn, ho, r⟩ := hge; ⟨o, nm, qn, keep a o (Ne.symm nCa) (Ne.symm nDa) ho, r⟩), ?_, ⟨gs', setGen_at hsz1, hk' _ (wk _)⟩, ?_, hns5⟩
      · obtain ⟨mc, hnc, hnn⟩ := hlm
        exact ⟨mc, hnc.at' fun o e => keep _ o (Ne.symm nCs) (Ne.symm nDs) e, hnn⟩
      · have e : us.toArray.push v = (us ++ [v]).toArray := by simp
        rw [← e]
        exact hl₅
  · intro _
    obtain ⟨os1, ba1, hC, hDq, G, ys, us1, un, hok, nC, nD, hl1, rv, hcont⟩ := hF
    have e1 : us1 = us.toArray := by
      obtain ⟨k1, e1⟩ := hl1
      obtain ⟨k2, e2⟩ := hD
      have e3 : s₁.heap.get? D = s.heap.get? D := hDq
      rw [e3, e2] at e1
      cases e1
      rfl
    have hlen : ys.length ≤ sizeLine := by
      have := rv.length
      rw [e1] at this
      have : ys.length = us.length := this
      omega
    refine done _ us1 m G ys os1 (allBare_setGen ba1 rfl) (un.trans (Un.kept hkp)) (hok.kept hkp) nC nD ?_ rv hlen hcont ?_
    · obtain ⟨k, e⟩ := hl1
      exact ⟨k, hkp _ _ e⟩
    · exact hns.at' fun o e => hkp _ _ (hC.trans e)
end
abbrev TGenS := L2.St → Hp → Nat → (List V → Hp → Prop) → Prop
structure PGenS (X : Cx) (k : Nat) (e : Expr) (tg : TGenS) : Prop where
  run : ∀ (pins : List (Addr × Obj)) (s : Shared) (σ : L2.St) (H : Hp) (n : Nat) (cont : List V → Hp → Prop), Inv X pins σ H s → tg σ H n cont → wpAny (model X.prog X.w) X.A (eval e X.env)
    (fun u s' => ∃ H1 sc, Inv X pins σ H1 sc ∧ GMadeS X.prog X.w k X.stack H1 sc n cont u s') X.xe s
def tMethS (S : Addr → Prop) (m : Str) (sp : SpS) (ta : TE) : TGenS := fun σ H n cont => ta σ H fun x H1 => ∃ a C dx fs, x = .ref a ∧ H1 a = some (.ins C dx fs) ∧ S C ∧ fs.lookup m = none ∧ sp [x] H1 n cont
section
variable {X : Cx} {k : Nat} {f : Addr} {fd : FuncData} {ps : List Str} {sp : SpS} {o : Expr} {m : Str} {apos pos pos' : Pos} {ta : TE} {S : Addr → Prop}
/-- o.m(), of whatever class of ours -/
theorem pgenS_meth0 {pl : Sem Bool} (he : PE X o ta) (c : ∀ C, S C → Cls X.K C ∧ Meth X.K C m f) (F : GFnS X.prog X.w X.K X.mg X.base k f fd ps sp) (len : ∀ vs H n cont, sp vs H n cont → vs.length = ps.length) (hr : Room k X.A) (hb : Binds X.K fd ps [])
    (ht : eval (.Call (.Attribute o m apos) [] [] pos') X.env = (do
      let ov ← eval o X.env
      standAt apos.atName
      let (f, first) ← holding [ov] (getMethod ov m pl)
      callWith pos' f first (backTo pos' (starEach [] X.env)) (backToKw pos' (keywordEach [] X.env))) := by rfl) :
    PGenS X k (.Call (.Attribute o m apos) [] [] pos') (tMethS S m sp ta) := by
  constructor
  intro pins s σ H n cont I h
  refine PySem.W.methodCall_KW (pl := pl) (thn (he.run pins s σ H _ I h) fun u s1 ⟨x, H1, I1, rx, a, C, dx, fs, ex, ea, hS, l, hsp⟩ => ?_) ht
  subst ex
  obtain rfl : u = Value.ref a := rx
  have hm := (c C hS).2
  refine getmeth_ok I1 ea (c C hS).1 hm l ?_
  refine PySem.W.callWith_K0 (first := [.ref a]) I1.kIn hm.kp ?_
  have hl2 : ([Value.ref a] ++ []).length = ps.length := len _ _ _ _ hsp
  refine wpAny_call (codeAny_mono (F X.A X.stack s1 H1 ⟨[.ref a], []⟩ ([Value.ref a] ++ []) [V.ref a] n cont hr I1.env0 (hb s1 [Value.ref a] I1.kIn hl2) (show Vals [V.ref a] ([Value.ref a] ++ []) from .cons rfl .nil) hsp) fun r s' q => ?_)
  cases r with
  | error e => exact False.elim q
  | ok fl =>
    cases fl with
    | ret u => exact ⟨H1, s1, I1, q⟩
    | next => exact False.elim q
    | brk => exact False.elim q
    | cont => exact False.elim q
def tLcS (tg : TGenS) : TE := fun σ H Q => ∃ n, n ≤ sizeLine ∧ tg σ H n fun ys G => ∀ p, G p = none → Q (.ref p) (upd G p (.lst ys))
theorem pe_lcS {iter : Expr} {tg : TGenS} {x : Str} {q p : Pos} {scope : Scope} {own : List (Str × Nat)} (h : PGenS X k iter tg) (hc : X.calm = true) (hr : Room (k + 1) X.A) (ok : BlkOk X.N X.env.scope scope own)
    (hx : ∀ (cl : List (Str × Addr)) (C : Addr), (compEnvC scope cl C X.env).kindOf x = some .local) (hdb : (x == ("__debug__" : Str)) = false := by decide) (hs : ∀ x, foldedSetIterable iter X.env x = pure x := by intro _; rfl) :
    PE X (.ListComp (.Name x q) [⟨.Name x p, iter, [], 0⟩] scope pos) (tLcS tg) := by
  constructor
  intro pins s σ H Q I hq
  obtain ⟨n, hsz, hq⟩ := hq
  rw [eval_ListComp]
  have hfree : ∀ y ∈ scope.names, y.2 = .free → ∃ c, X.env.cells.lookup y.1 = some c := fun y hy e => by
    rcases ok.free y hy e with k | k
    · exact I.ok.has _ (.inl k)
    · exact I.ok.has _ (.inr k)
  refine wpAny_comprehension_free (use := none) rfl hs (closure_ok hfree) ok.kind (fun y hy e => by rw [ok.uniq y hy, e])
    (thn (h.run pins s σ H n _ I hq) fun u s1 ⟨H1, sc, I1, G⟩ => ?_)
  obtain ⟨a, g, c, rfl, ha1, ha2, hgen, hfresh, os, ba, lim, kp, seg⟩ := G
  refine wpAny_pyIter_gen hgen ?_
  refine wpAny_newObj_type (newEnv_comp ?_) (by show 0 ≤ sizeLine; decide)
  generalize hD : s1.heap.objs.size = D
  generalize hs3 : ({ s1 with heap := s1.heap.push { cls := .type "list", data := .seq ([] : List Value).toArray } } : Shared) = s3
  show codeAny _ _ (.compStart (.ListComp (.Name x q) [⟨.Name x p, iter, [], 0⟩] scope pos) 0 (.ref a) (.ref D) (compEnvC scope (cellsFrom (s3.heap.objs.size + 1) scope.names (cloFrom X.env.cells scope.names [])) s3.heap.objs.size X.env)) (compPost (model X.prog X.w) X.A X.xe none (EP X pins σ Q) (.ref D) s3.heap.objs.size) { s3 with heap := pushCells (s3.heap.push { cls := .type "dict", data := .dict #[] }) scope.names }
  have hxe := hx (cellsFrom (s3.heap.objs.size + 1) scope.names (cloFrom X.env.cells scope.names [])) s3.heap.objs.size
  have kce : (compEnvC scope (cellsFrom (s3.heap.objs.size + 1) scope.names (cloFrom X.env.cells scope.names [])) s3.heap.objs.size X.env).scope.kind = .function := ok.kind
  generalize hce : compEnvC scope (cellsFrom (s3.heap.objs.size + 1) scope.names (cloFrom X.env.cells scope.names [])) s3.heap.objs.size X.env = ce at hxe kce ⊢
  have cL : ce.locals = s3.heap.objs.size := by subst hce; rfl
  have h3 : s3.heap = s1.heap.push { cls := .type "list", data := .seq ([] : List Value).toArray } := by rw [← hs3]
  have g3 : s3.gens = s1.gens := by rw [← hs3]
  have o3 : s3.os = s1.os := by rw [← hs3]
  have szC : s3.heap.objs.size = D + 1 := by rw [h3, Heap.size_push, hD]
  generalize hC : s3.heap.objs.size = C at cL szC ⊢
  have k3 : ∀ b o, s1.heap.get? b = some o → s3.heap.get? b = some o := fun b o e => by rw [h3]; exact Heap.get?_push_of_some _ e
  have k4 : ∀ b o, s3.heap.get? b = some o → (pushCells (s3.heap.push { cls := .type "dict", data := .dict #[] }) scope.names).get? b = some o := fun b o e => pushCells_keeps _ _ _ _ (Heap.get?_push_of_some _ e)
  have eC : (pushCells (s3.heap.push { cls := .type "dict", data := .dict #[] }) scope.names).get? C = some { cls := .type "dict", data := .dict #[] } := by
    rw [← hC]
    exact pushCells_keeps _ _ _ _ (Heap.get?_push_size _ rfl)
  have eD3 : s3.heap.get? D = some { cls := .type "list", data := .seq ([] : List Value).toArray } := by
    rw [h3, ← hD]
    exact Heap.get?_push_size _ rfl
  have eD := k4 _ _ eD3
  have kp4 : ∀ b o, s1.heap.get? b = some o → (pushCells (s3.heap.push { cls := .type "dict", data := .dict #[] }) scope.names).get? b = some o := fun b o e => k4 b o (k3 b o e)
  have aD : a < D := by rw [← hD]; exact ha2
  have stat : cStatics < D := by
    obtain ⟨mc, hns, _⟩ := id lim
    rw [← hD]
    exact hns.lt
  have scD : sc.heap.objs.size ≤ D := by rw [← hD]; exact Nat.le_trans ha1 (Nat.le_of_lt ha2)
  have DC : D < C := by rw [szC]; exact Nat.lt_succ_self _
  have aC : a < C := Nat.lt_trans aD DC
  have tC : cStatics < C := Nat.lt_trans stat DC
  generalize hs4 : ({ s3 with heap := pushCells (s3.heap.push { cls := .type "dict", data := .dict #[] }) scope.names } : Shared) = s4
  have h4 : s4.heap = pushCells (s3.heap.push { cls := .type "dict", data := .dict #[] }) scope.names := by rw [← hs4]
  have g4 : s4.gens = s1.gens := by rw [← hs4]; exact g3
  have o4 : s4.os = sc.os := by rw [← hs4]; exact o3.trans os
  rw [← h4] at eC eD kp4
  have ns4 : s4.heap.Ns C (fun _ => none) := ⟨_, _, _, eC, rfl, (fun e he => by simp at he), fun _ => rfl⟩
  have start : TurnsS X.prog X.w X.A X.stack H1 sc C D a g n (fun ys G => ∀ p, G p = none → Q (.ref p) (upd G p (.lst ys))) n s4 := by
    refine ⟨[], _, Nat.zero_add _, hgen.keeps kp4, lim.keeps kp4, ⟨.fresh c, by rw [g4]; exact hfresh, rfl, ?_⟩, ⟨_, eD⟩, ns4⟩
    exact seg X.A.in1 C D (s4.setGen g .running) hr.in1 I1.ok.frames (by rw [hD, szC]; exact Nat.le_succ _) (Nat.le_of_eq hD) (fun b o e => kp4 b o e) ⟨_, eC, fun v z => by cases z⟩ ⟨_, eD⟩ o4 (allBare_setGen (by rw [g4]; exact ba) rfl)
  have loop : codeAny (model X.prog X.w) X.A (.compLoop (.ListComp (.Name x q) [⟨.Name x p, iter, [], 0⟩] scope pos) 0 (.ref a) (.ref D) ce) (compPost (model X.prog X.w) X.A X.xe none (EP X pins σ Q) (.ref D) C) s4 := by
    refine comp_genS (I1.ok.hd hc) hr.depth cL kce hxe (by rw [kce]; rfl) hdb (Nat.ne_of_gt DC) (Nat.ne_of_gt aC) (Nat.ne_of_gt aD) (Nat.ne_of_gt tC) (Nat.ne_of_gt stat) hsz (fun s' us m G ys os' ba' un hok nC nD hl rv hlen hQ hns => ?_) n start
    obtain ⟨kk, hl⟩ := hl
    have I5 : Inv X pins σ (upd G D (.lst ys)) s' := I1.drained (ex := []) scD hlen hl rv .nil os' ba' un hok nD
    have fC : FpOk X pins (upd G D (.lst ys)) C := I1.fpOk (Nat.le_trans scD (Nat.le_of_lt DC)) (by rw [upd_ne (Nat.ne_of_gt DC)]; exact nC)
    obtain ⟨f0, f1, f2, f3, f4, f5⟩ := fC
    exact ⟨m, hns, fun h'' sb => ⟨.ref D, _, I5.turned (t' := s'.toks) (fun b o hb e => (sb.2 b hb).trans e) f0 f1 f3 f4 f5, rfl, hQ D nD⟩⟩
  exact codeAny_compStart_list loop (wpAny_pyIter_gen (hgen.keeps kp4) loop)
end
end GenS
end

-- GenE1
section
set_option Elab.async false
set_option linter.all false
set_option maxRecDepth 100000
set_option maxHeartbeats 1000000
/-! a generator def whose body is one for that hands an expression out: what is handed out is told at each turn; the consumer's own objects are pinned by a function of the heap. kg: the table of generators stands while it runs. -/
namespace GenE
open PySem PySem.Spec PyProof.Rows L2 GenW GenFor
abbrev PF := Heap → List (Addr × Obj)
/-- while the generator sleeps the objects at ps may turn, new ones may be tracked; ps' stand behind it -/
structure WokeG (P : Program) (w : World) (fs : List Addr) (ps ps' : List (Addr × Obj)) (G G' : Hp) (s s' : Shared) : Prop where
  os : s'.os = s.os
  bare : AllBare s'.gens
  un : Un fs (ps.map (·.1)) G G' s.heap s'.heap
  hok : HOk P w G' s'.heap
  ext : ∀ b u, G b = some u → G' b = some u
  pins : ∀ p ∈ ps', s'.heap.get? p.1 = some p.2 ∧ (∀ v, p.2.data ≠ .cell v) ∧ G' p.1 = none ∧ (p.1 ∈ ps.map (·.1) ∨ s.heap.objs.size ≤ p.1)
theorem un_keep {P : Program} {w : World} {fs ch : List Addr} {G : Hp} {h h' : Heap} (k : ∀ b o, b ∉ ch → h.get? b = some o → h'.get? b = some o) (n : ∀ b ∈ ch, G b = none) (hok : HOk P w G h) : Un fs ch G G h h' ∧ HOk P w G h' := by
  have nt : ∀ b u, G b = some u → b ∉ ch := fun b u q hb => by rw [n b hb] at q; cases q
  refine ⟨⟨fun b o e _ _ hc => k b o hc e, fun b o e _ _ hc => ⟨o.slots, k b o hc e⟩, fun _ _ _ m _ => m, fun b o e hc => ⟨o, k b o hc e⟩, fun _ _ q => q, fun _ _ _ q => q, fun b ps q => ⟨#[], by rw [q]; simp⟩⟩, fun b u q => ?_⟩
  refine (hok b u q).stay (fun c v hc y => ?_) (fun _ y => y) fun _ _ y => y
  rcases hc with y' | y'
  · rw [y'] at y ⊢; exact k b v (nt b u q) y
  · exact k c v (nt c _ y') y
def ApartE (X : Cx) (S : Addr) : Prop := (S ∈ X.ex ∨ X.s_0.heap.objs.size ≤ S) ∧ S ≠ X.env.locals ∧ ∀ x c, X.env.cells.lookup x = some c → c ≠ S
def FarP (X : Cx) (ps : List (Addr × Obj)) : Prop := ∀ p ∈ ps, ApartE X p.1 ∧ ∀ q ∈ X.pn, q.1 ≠ p.1
section
variable {X : Cx} {ps ps' : List (Addr × Obj)} {σ : L2.St} {G G' : Hp} {s s' : Shared}
theorem woken (F : FarP X ps) (I : Inv X ps σ G s) (z : WokeG X.prog X.w X.fs ps ps' G G' s s') : FarP X ps' ∧ Inv X ps' σ G' s' := by
  have pin : ∀ b ∈ ps.map (·.1), G b = none ∧ b ≠ X.env.locals ∧ b ∉ X.fs ∧ ApartE X b ∧ ∀ q ∈ X.pn, q.1 ≠ b := fun b hb => by
    obtain ⟨p, hp, rfl⟩ := List.mem_map.mp hb
    obtain ⟨_, h1, h2, h3, _⟩ := I.pin p (List.mem_append_right _ hp)
    exact ⟨h1, h2, h3, (F p hp).1, (F p hp).2⟩
  have new : ∀ b, s.heap.objs.size ≤ b → b ≠ X.env.locals ∧ b ∉ X.fs ∧ ApartE X b ∧ ∀ q ∈ X.pn, q.1 ≠ b := fun b hb => by
    refine ⟨Nat.ne_of_gt (Nat.lt_of_lt_of_le I.lt hb), I.nofs hb, ⟨.inr (Nat.le_trans I.sz hb), Nat.ne_of_gt (Nat.lt_of_lt_of_le I.lt hb), fun y c e q => ?_⟩, fun q hq e => ?_⟩
    · obtain ⟨v, ob, ho, _⟩ := I.cell y c e
      have := Heap.lt_size ho
      rw [q] at this
      exact absurd (Nat.lt_of_lt_of_le this hb) (Nat.lt_irrefl _)
    · have := Heap.lt_size (I.pin q (List.mem_append_left _ hq)).1
      rw [e] at this
      exact absurd (Nat.lt_of_lt_of_le this hb) (Nat.lt_irrefl _)
  have at' : ∀ p ∈ ps', p.1 ≠ X.env.locals ∧ p.1 ∉ X.fs ∧ ApartE X p.1 ∧ ∀ q ∈ X.pn, q.1 ≠ p.1 := fun p hp => (z.pins p hp).2.2.2.elim (fun h => (pin _ h).2) (new _)
  refine ⟨fun p hp => ⟨(at' p hp).2.2.1, (at' p hp).2.2.2⟩, ?_⟩
  have I0 : Inv X [] σ G s := I.pins_of fun p hp => by cases hp
  have wide : Un (frs X.stack) (ps.map (·.1)) G G' s.heap s'.heap := by
    refine ⟨fun b o e n hb hc => ?_, fun b o e n hb hc => z.un.any e n hc, z.un.free, z.un.there, z.un.tups, z.un.frzs, z.un.tbls⟩
    refine z.un.keep b o e n (fun hf => hb ?_) hc
    rcases I.ok.stk with q | ⟨q, hfr⟩
    · rw [q]; exact hf
    · rw [q]
      show b ∈ frs (X.env :: X.outer)
      unfold frs
      rw [List.filterMap_cons, hfr]
      exact List.mem_cons_of_mem _ hf
  have J : Inv X [] σ G' s' := I0.call' (ch := ps.map (·.1)) z.os wide z.hok z.bare fun b hb => by
    obtain ⟨_, _, _, a1, a2⟩ := pin b hb
    exact ⟨a1.1, a1.2.1, a1.2.2, fun p hp => by rw [List.append_nil] at hp; exact a2 p hp⟩
  refine J.pins_of fun p hp => ?_
  obtain ⟨q1, q2, q3, _⟩ := z.pins p hp
  obtain ⟨a2, a3, _⟩ := at' p hp
  exact ⟨q1, q3, a2, a3, q2⟩
end
/-! ### readings that tell of the table of generators -/
structure PEk (kg : Prop) (X : Cx) (e : Expr) (te : TE) : Prop where
  run : ∀ (pins : List (Addr × Obj)) (s : Shared) (σ : L2.St) (H : Hp) (Q : VK), Inv X pins σ H s → te σ H Q → wpAny (model X.prog X.w) X.A (eval e X.env) (fun u s' => (kg → s'.gens = s.gens) ∧ EP X pins σ Q u s') X.xe s
structure PGk (kg : Prop) (X : Cx) (tg : Expr) (g : TG) : Prop where
  run : ∀ (pins : List (Addr × Obj)) (s : Shared) (σ : L2.St) (H : Hp) (v : V) (u : Value) (Q : L2.St → Hp → Prop), Inv X pins σ H s → RelV v u → g v σ H Q →
    wpAny (model X.prog X.w) X.A (assign tg X.env u) (fun _ s' => (kg → s'.gens = s.gens) ∧ ∃ σ' H', Inv X pins σ' H' s' ∧ Q σ' H') X.xe s
structure TurnK (kg : Prop) (P : Program) (w : World) (K : PySem.W.Frag) (tg : Expr) (J : It) (fp : List Addr) (it : Addr) (tn : Nat → Heap → Prop) : Prop where
  obj : ∀ i h, tn i h → ∀ b ∈ fp, ∃ o, h.get? b = some o ∧ ∀ v, o.data ≠ .cell v
  keep : ∀ i h h', tn i h → (∀ b ∈ fp, ∀ o, h.get? b = some o → h'.get? b = some o) → tn i h'
  item : ∀ (X : Cx), X.prog = P → X.w = w → X.K = K → X.calm = true → ∀ (i : Nat) (pins : List (Addr × Obj)) (s : Shared) (σ : L2.St) (H : Hp) (E : Value → Shared → Prop), Inv X pins σ H s → (∀ b ∈ fp, FpOk X pins H b) → tn i s.heap → J.go i H →
    wpAny (model P w) X.A (pyNext (.ref it)) (fun r s1 => ∃ u, r = some u ∧
      wpAny (model P w) X.A (letOwnedTupleGo tg (.ref it) u) (fun _ s2 => (kg → s2.gens = s.gens) ∧ ∃ x H', Inv X pins σ H' s2 ∧ RelV x u ∧ J.yld i H x H' ∧ tn (i + 1) s2.heap ∧ ∀ b ∈ fp, H' b = none) E s1) E s
  done : ∀ (X : Cx), X.prog = P → X.w = w → X.K = K → X.calm = true → ∀ (i : Nat) (pins : List (Addr × Obj)) (s : Shared) (σ : L2.St) (H : Hp) (E : Value → Shared → Prop), Inv X pins σ H s → (∀ b ∈ fp, FpOk X pins H b) → tn i s.heap → J.stop i H →
    wpAny (model P w) X.A (pyNext (.ref it)) (fun r s1 => r = none ∧ (kg → s1.gens = s.gens) ∧ Inv X pins σ H s1) E s
structure PIk (kg : Prop) (X : Cx) (tg iter : Expr) (wi : TI) : Prop where
  run : ∀ (pins : List (Addr × Obj)) (s : Shared) (σ : L2.St) (H : Hp) (R : It → Hp → Prop), Inv X pins σ H s → wi σ H R →
    wpAny (model X.prog X.w) X.A (eval iter X.env) (fun v s1 => wpAny (model X.prog X.w) X.A (pyIter v) (fun itv s2 => (kg → s2.gens = s.gens) ∧ ∃ (it : Addr) (fp : List Addr) (tn : Nat → Heap → Prop) (J : It) (H' : Hp), itv = .ref it ∧ Inv X pins σ H' s2 ∧ TurnK kg X.prog X.w X.K tg J fp it tn ∧ tn 0 s2.heap ∧ (∀ b ∈ fp, FpOk X pins H' b) ∧ R J H') X.xe s1) X.xe s
theorem PEk.of {X : Cx} {e : Expr} {te : TE} (h : PE X e te) : PEk False X e te := ⟨fun pins s σ H Q I q => thn (h.run pins s σ H Q I q) fun u s' z => ⟨fun f => f.elim, z⟩⟩
theorem PGk.of {X : Cx} {tg : Expr} {g : TG} (h : PG X tg g) : PGk False X tg g := ⟨fun pins s σ H v u Q I r q => thn (h.run pins s σ H v u Q I r q) fun _ s' z => ⟨fun f => f.elim, z⟩⟩
theorem TurnK.of {P : Program} {w : World} {K : PySem.W.Frag} {tg : Expr} {J : It} {fp : List Addr} {it : Addr} {tn : Nat → Heap → Prop} (T : Turn P w K tg J fp it tn) : TurnK False P w K tg J fp it tn where
  obj := T.obj
  keep := T.keep
  item := fun X a b c d i pins s σ H E I hf ht hg => thn (T.item X a b c d i pins s σ H E I hf ht hg) fun r s1 ⟨u, e, h⟩ => ⟨u, e, thn h fun _ s2 z => ⟨fun f => f.elim, z⟩⟩
  done := fun X a b c d i pins s σ H E I hf ht hg => thn (T.done X a b c d i pins s σ H E I hf ht hg) fun r s1 ⟨e, z⟩ => ⟨e, fun f => f.elim, z⟩
theorem PIk.of {X : Cx} {tg iter : Expr} {wi : TI} (h : PI X tg iter wi) : PIk False X tg iter wi := ⟨fun pins s σ H R I q => thn (h.run pins s σ H R I q) fun v s1 z => thn z fun itv s2 ⟨it, fp, tn, J, H', a, b, c, d, e, f⟩ => ⟨fun f => f.elim, it, fp, tn, J, H', a, b, .of c, d, e, f⟩⟩
/-! ### the loop -/
def YE (P : Program) (w : World) (kg : Prop) (outer : List Env) (ex : List Addr) (H : Hp) (sB : Shared) (pf : PF) (a : Addr) (g n : Nat) (Ab : Nat → Hp → V → Prop) : Protocol := fun m s₀ v s1 kap =>
  ∃ (i : Nat) (G : Hp) (y : V), i + m + 1 = n ∧ RelV y v ∧ Ab i G y ∧ s1.os = sB.os ∧ AllBare s1.gens ∧ s1.heap.NoLimit ∧ (s1.heap.IsGen a g ∧ G a = none) ∧ (∀ p ∈ pf s₀.heap, s1.heap.get? p.1 = some p.2 ∧ G p.1 = none) ∧
    Un (frs outer) ex H G sB.heap s1.heap ∧ HOk P w G s1.heap ∧ (kg → s1.gens = s₀.gens) ∧ ∀ x s' G', (x = .none ∨ x = .bool true) → WokeG P w (frs outer) (pf s₀.heap) (pf s'.heap) G G' s1 s' → kap (.send x) s'
def FE (P : Program) (w : World) (kg : Prop) (outer : List Env) (ex : List Addr) (H : Hp) (sB : Shared) (pf : PF) (Fin : Hp → Prop) : Nat → Shared → Shared → Prop := fun n s₀ s1 =>
  n = 0 ∧ s1.os = sB.os ∧ AllBare s1.gens ∧ (kg → s1.gens = s₀.gens) ∧ ∃ G, (∀ p ∈ pf s₀.heap, s1.heap.get? p.1 = some p.2 ∧ G p.1 = none) ∧ Un (frs outer) ex H G sB.heap s1.heap ∧ HOk P w G s1.heap ∧ Fin G
def RE (P : Program) (w : World) (kg : Prop) (outer : List Env) (ex : List Addr) (H : Hp) (sB : Shared) (pf : PF) (Fin : Hp → Prop) : GenEnd := fun n s₀ r s1 =>
  ((r = .ok (.ret .none) ∨ r = .ok .next) ∧ FE P w kg outer ex H sB pf Fin n s₀ s1) ∨ ∃ e, r = .error e ∧ False
/-- what the loop keeps -/
structure LoopE (te : TE) (σ0 : L2.St) (j n : Nat) (Ab : Nat → Hp → V → Prop) (Fin : Hp → Prop) (J : It) (GI : Nat → Hp → Prop) : Prop where
  step : ∀ i G, i < n → GI i G → J.go i G ∧ ∀ x G', J.yld i G x G' → te (σ0.set j (some x)) G' fun y G2 => Ab i G2 y ∧ GI (i + 1) G2
  last : ∀ G, GI n G → J.stop n G ∧ Fin G
  mono : ∀ i G G', GI i G → (∀ b u, G b = some u → G' b = some u) → GI i G'
section
variable {kg : Prop} {X : Cx} {A : Around} {R : GenEnd} {pf : PF} {a it : Addr} {g j n : Nat} {sB : Shared} {fs : List Frame} {tgt e : Expr} {yp ep : Pos} {fp : List Addr} {tn : Nat → Heap → Prop} {te : TE} {σ0 : L2.St} {Ab : Nat → Hp → V → Prop} {Fin : Hp → Prop} {J : It} {GI : Nat → Hp → Prop} {outer : List Env} {ex : List Addr} {HB : Hp}
theorem seg_loopE (hc : X.calm = true) (hxe : ∀ x s', X.xe x s' → False) (hg : PGk kg X tgt (gName j)) (he : PEk kg X e te) (T : TurnK kg X.prog X.w X.K tgt J fp it tn) (L : LoopE te σ0 j n Ab Fin J GI)
    (hgen : ∀ (pins : List (Addr × Obj)) (σ : L2.St) (H : Hp) (s : Shared), Inv X pins σ H s → s.heap.IsGen a g ∧ H a = none) (hos : ∀ (pins : List (Addr × Obj)) (σ : L2.St) (H : Hp) (s : Shared), Inv X pins σ H s → s.os = sB.os)
    (hun : ∀ (pins : List (Addr × Obj)) (σ : L2.St) (H : Hp) (s : Shared), Inv X pins σ H s → Un (frs outer) ex HB H sB.heap s.heap)
    (hfs : X.fs = frs outer) (hov : A.over (.forLoop tgt (.ref it) [.Expr (.Yield (some e) yp) ep] [] X.env) fs = X.A) (hsp : splitAtGen fs = none) (hgu : fs.any Frame.guarded = false) (hco : X.env.scope.isCoroutine = false) (hin : interactive X.env = false)
    (hend : ∀ (σ : L2.St) (G : Hp) (s₀ s1 : Shared), Inv X (pf s₀.heap) σ G s1 → (kg → s1.gens = s₀.gens) → Fin G → Seg (model X.prog X.w) A R (YE X.prog X.w kg outer ex HB sB pf a g n Ab) 0 s₀ (.block [] X.env) (leafOf (.ok .next)) fs s1) :
    ∀ (r i : Nat) (o : Option V) (H : Hp) (s₀ s : Shared), i + r = n → FarP X (pf s₀.heap) → (∀ b ∈ fp, FpOk X (pf s₀.heap) H b) → GI i H → Inv X (pf s₀.heap) (σ0.set j o) H s → (kg → s.gens = s₀.gens) → tn i s.heap →
      Seg (model X.prog X.w) A R (YE X.prog X.w kg outer ex HB sB pf a g n Ab) r s₀ (.forLoop tgt (.ref it) [.Expr (.Yield (some e) yp) ep] [] X.env) ((model X.prog X.w).den (.forLoop tgt (.ref it) [.Expr (.Yield (some e) yp) ep] [] X.env)) fs s := by
  intro r
  induction r with
  | zero =>
    intro i o H s₀ s hi hF hf hG I hk ht
    have ei : i = n := by omega
    subst ei
    refine seg_forLoop ?_
    rw [hov]
    obtain ⟨hs, hcont⟩ := L.last _ hG
    refine wpAny_mono (T.done X rfl rfl rfl hc i _ s _ H (fun _ _ => False) I hf ht hs) (fun r s1 ⟨er, k1, I1⟩ => ?_) fun _ _ h => h.elim
    subst er
    refine seg_again rfl ?_
    exact hend _ H s₀ s1 I1 (fun z => (k1 z).trans (hk z)) hcont
  | succ r ih =>
    intro i o H s₀ s hi hF hf hG I hk ht
    refine seg_forLoop ?_
    rw [hov]
    have lt : i < n := by omega
    obtain ⟨hgo, hstep⟩ := L.step i H lt hG
    refine wpAny_mono (T.item X rfl rfl rfl hc i _ s _ H (fun _ _ => False) I hf ht hgo) (fun r1 s1 ⟨u, er, h1⟩ => ?_) fun _ _ h => h.elim
    subst er
    refine wpAny_mono h1 (fun _ s2 h2 => ?_) fun _ _ h => h.elim
    obtain ⟨k2, x, H', I2, ru, hy, ht2, hn2⟩ := h2
    have I2' := I2.pinned (fun b hb => ⟨hn2 b hb, (hf b hb).2⟩) (T.obj _ _ ht2)
    refine wpAny_mono (hg.run _ s2 _ H' x u (fun σ' H2 => σ' = (σ0.set j o).set j (some x) ∧ H2 = H') I2' ru ⟨rfl, rfl⟩) (fun _ s3 h3 => ?_) fun x s' h => (hxe x s' h).elim
    obtain ⟨k3, σ3, H3, I3, eσ, eH3⟩ := h3
    rw [List.set_set] at eσ
    subst eσ eH3
    refine seg_execs_cons ?_
    refine seg_Expr_Yield hsp rfl hgu ?_ hco hin
    rw [hov]
    refine wpAny_mono (he.run _ s3 _ H3 _ I3 (hstep x _ hy)) (fun v s4 h4 => ?_) fun x s' h => (hxe x s' h).elim
    obtain ⟨k4, y, H4, I4, rv4, ab4, hG4⟩ := h4
    intro kap hkap
    have I5 := I4.unpinned
    have pinned : ∀ b ∈ fp, ∀ ob, s2.heap.get? b = some ob → s4.heap.get? b = some ob ∧ H4 b = none := fun b hb ob e =>
      let q := I4.pin (b, ob) (List.mem_append_right _ (List.mem_append_right _ (mem_pinsAt hb e)))
      ⟨q.1, q.2.1⟩
    refine ⟨i, H4, y, by omega, rv4, ab4, hos _ _ _ _ I5, I5.bare, I5.nolimit, hgen _ _ _ _ I5, fun p hp => ?_, hun _ _ _ _ I5, I5.hok, fun z => (k4 z).trans ((k3 z).trans ((k2 z).trans (hk z))), fun vx s' G' hvx z => hkap vx s' ?_⟩
    · have q := I5.pin p (List.mem_append_right _ hp)
      exact ⟨q.1, q.2.1⟩
    have body : Seg (model X.prog X.w) A R (YE X.prog X.w kg outer ex HB sB pf a g n Ab) r s' (.forLoop tgt (.ref it) [.Expr (.Yield (some e) yp) ep] [] X.env) ((model X.prog X.w).den (.forLoop tgt (.ref it) [.Expr (.Yield (some e) yp) ep] [] X.env)) fs s' := ?_
    · rcases hvx with rfl | rfl
      · exact seg_execs_nil (seg_again rfl body)
      · exact seg_execs_nil (seg_again rfl body)
    rw [← hfs] at z
    obtain ⟨F', I6⟩ := woken hF I5 z
    have nch : ∀ b ∈ fp, b ∉ (pf s₀.heap).map (·.1) := fun b hb q => by
      obtain ⟨p', hp', e'⟩ := List.mem_map.mp q
      exact (hf b hb).2.2.2.2.2 p' (List.mem_append_right _ hp') e'
    refine ih (i + 1) (some x) G' s' s' (by omega) F' (fun b hb => ?_) (L.mono _ _ _ hG4 z.ext) I6 (fun _ => rfl) ?_
    · obtain ⟨ob, eo, _⟩ := T.obj _ _ ht2 b hb
      obtain ⟨f0, f1, f2, f3, f4, f5⟩ := hf b hb
      refine ⟨z.un.free b ob (pinned b hb ob eo).1 (pinned b hb ob eo).2 (nch b hb), f1, f2, f3, f4, fun p hp => ?_⟩
      rcases List.mem_append.mp hp with hp | hp
      · exact f5 p (List.mem_append_left _ hp)
      · rcases (z.pins p hp).2.2.2 with q | q
        · obtain ⟨p', hp', e'⟩ := List.mem_map.mp q
          rw [← e']
          exact f5 p' (List.mem_append_right _ hp')
        · exact Nat.ne_of_gt (Nat.lt_of_lt_of_le (Heap.lt_size (pinned b hb ob eo).1) q)
    · refine T.keep _ _ _ ht2 fun b hb o e => ?_
      exact z.un.keep b o (pinned b hb o e).1 (pinned b hb o e).2 (hf b hb).2.2.1 (nch b hb)
end
end GenE
end

-- GenE2
section
set_option Elab.async false
set_option linter.all false
set_option maxRecDepth 100000
set_option maxHeartbeats 1000000
/-! what a call of such a generator def gives. -/
namespace GenE
open PySem PySem.Spec PyProof.Rows L2 GenW GenFor
/-- objects of the consumer that stood ahead of the call and may turn -/
def ExE (base : Heap) (outer : List Env) (H : Hp) (s : Shared) (ex : List Addr) : Prop := ∀ b ∈ ex, base.objs.size ≤ b ∧ b < s.heap.objs.size ∧ b ∉ frs outer ∧ H b = none
/-- a generator that has not begun, and will hand out n items -/
def GMadeE (P : Program) (w : World) (base : Heap) (k : Nat) (kg : Prop) (outer : List Env) (H : Hp) (s : Shared) (n : Nat) (Ab : Nat → Hp → V → Prop) (Fin : Hp → Prop) (u : Value) (s' : Shared) : Prop :=
  ∃ (a : Addr) (c : Code), u = .ref a ∧ s.heap.objs.size ≤ a ∧ a < s'.heap.objs.size ∧ s'.heap.IsGen a s.gens.size ∧ s'.gens = s.gens.push (.fresh c) ∧ s'.os = s.os ∧ AllBare s'.gens ∧ s'.heap.NoLimit ∧ (∀ b o, s.heap.get? b = some o → s'.heap.get? b = some o) ∧
    ∀ (A : Around) (ex : List Addr) (pf : PF) (s2 : Shared), Room k A → A.frames = some outer → ExE base outer H s ex → (∀ p ∈ pf s2.heap, (p.1 ∈ ex ∨ s'.heap.objs.size ≤ p.1) ∧ s2.heap.get? p.1 = some p.2 ∧ ∀ v, p.2.data ≠ .cell v) → (∀ b o, s'.heap.get? b = some o → s2.heap.get? b = some o) →
      s2.os = s.os → AllBare s2.gens → Seg (model P w) A (RE P w kg outer ex H s pf Fin) (YE P w kg outer ex H s pf a s.gens.size n Ab) n s2 c ((model P w).den c) [] s2
abbrev SpE := List V → Hp → Nat → (Nat → Hp → V → Prop) → (Hp → Prop) → Prop
def GFnE (P : Program) (w : World) (K : PySem.W.Frag) (mg : Str → Option Value) (base : Heap) (k : Nat) (kg : Prop) (f : Addr) (fd : FuncData) (ps : List Str) (sp : SpE) : Prop :=
  ∀ (A : Around) (outer : List Env) (s : Shared) (H : Hp) (args : Args) (us : List Value) (vs : List V) (n : Nat) (Ab : Nat → Hp → V → Prop) (Fin : Hp → Prop), Room k A → Env0 P w K mg base A outer s H → BindsTo s fd args (ps.zip us) → Vals vs us → sp vs H n Ab Fin →
    codeAny (model P w) A (.call (.ref f) args) (fun r s' => match r with | .ok (.ret u) => GMadeE P w base k kg outer H s n Ab Fin u s' | _ => False) s
abbrev gE (P : Program) (w : World) (K : PySem.W.Frag) (mg : Str → Option Value) (base : Heap) (N : List Str) (qual : Str) (scope : Scope) (f : Addr) (cdv : Value) (A : Around) (outer : List Env) (s : Shared) (H : Hp) (ex : List Addr) (pn : List (Addr × Obj)) : Cx :=
  { (gcxOf P w K mg base N qual scope f cdv A outer s H (fun _ _ _ => False) pn).nox with ex := ex }
theorem Un.exs {fs ex : List Addr} {H H' : Hp} {h h' : Heap} (u : Un fs [] H H' h h') : Un fs ex H H' h h' :=
  ⟨fun b o a b' c _ => u.keep b o a b' c (by simp), fun b o a b' c _ => u.slot b o a b' c (by simp), fun b o a b' _ => u.free b o a b' (by simp), fun b o a _ => u.there b o a (by simp), u.tups, u.frzs, u.tbls⟩
theorem genE_of {P : Program} {w : World} {K : PySem.W.Frag} {mg : Str → Option Value} {base : Heap} {k : Nat} {kg : Prop} {f : Addr} {name qual : Str} {params : Arguments} {scope : Scope} {dV kV doc pm cdv ct oc : Value} {an od : Option Addr}
    {osl : Array (Option Value)} {N ps : List Str} {sp : SpE} {tgt iter e : Expr} {yp ep fp : Pos} {j : Nat}
    (lk : K.lookup f = some ⟨oc, od, .func (PySem.W.fnOf name qual params [.For tgt iter [.Expr (.Yield (some e) yp) ep] [] fp] scope dV kV doc pm an cdv ct), osl⟩) (hcd : PySem.W.codeIn K cdv qual = true) (S : GScope N ps scope)
    (len : ∀ vs H n Ab Fin, sp vs H n Ab Fin → vs.length = ps.length) (hjN : j < N.length) (hs : ∀ (env : Env) (x : Value), foldedSetIterable iter env x = pure x) (hin : ∀ (L f' : Addr), interactive (envOfC qual scope L f' cdv) = false)
    (hbody : ∀ (A : Around) (outer : List Env) (s : Shared) (H : Hp) (vs : List V) (n : Nat) (Ab : Nat → Hp → V → Prop) (Fin : Hp → Prop) (ex : List Addr) (pn : List (Addr × Obj)), Room k (A.deeper (envOfC qual scope s.heap.objs.size f cdv)) → sp vs H n Ab Fin →
      ∃ wi te, PIk kg (gE P w K mg base N qual scope f cdv A outer s H ex pn) tgt iter wi ∧ PGk kg (gE P w K mg base N qual scope f cdv A outer s H ex pn) tgt (gName j) ∧ PEk kg (gE P w K mg base N qual scope f cdv A outer s H ex pn) e te ∧
        wi (start N vs) H (fun J H' => ∃ GI, GI 0 H' ∧ LoopE te (start N vs) j n Ab Fin J GI)) :
    GFnE P w K mg base (k + 1) kg f (PySem.W.fnOf name qual params [.For tgt iter [.Expr (.Yield (some e) yp) ep] [] fp] scope dV kV doc pm an cdv ct) ps sp := by
  intro A outer s H args us vs n Ab Fin hr e0 hb r hsp
  have hl := len _ _ _ _ _ hsp
  have KX : K.In s.heap := e0.mod.kin.keeps fun b o e => (e0.bs b o e).1
  have lim : s.heap.NoLimit := e0.mod.nolimit.keeps fun b o e => (e0.bs b o e).1
  refine codeAny_call_generator hr.depth (KX _ _ lk) rfl S.co S.gen rfl (PySem.W.codeRec_of KX hcd) (hb _ _ _ _ ?_)
  refine wpAny_newFunctionEnv_cells S.kind (fun y hy => ?_) fun env he s1 x => ?_
  · rcases S.par y.1 (List.of_mem_zip hy).1 with q | q
    · exact .inl q
    · exact .inr ⟨q, PySem.W.cellsFrom_some _ _ _ (.inl q)⟩
  subst he
  refine ⟨lim.keeps x.toInCall.keep, ?_⟩
  have lim1 : s1.heap.NoLimit := lim.keeps x.toInCall.keep
  obtain ⟨h1, tk, es1, hk1⟩ := x.done
  have os1 : s1.os = s.os := by rw [es1]
  have gen1 : s1.gens = s.gens := by rw [es1]
  have lt1 : s.heap.objs.size < s1.heap.objs.size := x.toInCall.ns.lt
  have kp1 : ∀ b o, s.heap.get? b = some o → s1.heap.get? b = some o := x.toInCall.keep
  have main : ∀ (go : Obj) (nm qn : Value) (tk2 : Nat), go.cls = .type "generator" → go.data = .fields #[.int s1.gens.size 0, nm, qn] → go.slots = #[] → (∀ h : Heap, (h.push go).get? h.objs.size = some go) →
      GMadeE P w base (k + 1) kg outer H s n Ab Fin (.ref s1.heap.objs.size) { s1 with gens := s1.gens.push (.fresh (.func [.For tgt iter [.Expr (.Yield (some e) yp) ep] [] fp] (envOfC qual scope s.heap.objs.size f cdv))), toks := tk2, heap := s1.heap.push go } := by
    intro go nm qn tk2 hgc hgd0 hgs hgp
    have hgen : ∀ h : Heap, h.get? s1.heap.objs.size = some go → h.IsGen s1.heap.objs.size s.gens.size := fun h e => ⟨go, nm, qn, e, hgc, by rw [hgd0, gen1], hgs⟩
    have hpushed : (s1.heap.push go).get? s1.heap.objs.size = some go := hgp _
    refine ⟨s1.heap.objs.size, _, rfl, Nat.le_of_lt lt1, ?_, hgen _ hpushed, by rw [← gen1], os1, AllBare.push (by rw [gen1]; exact e0.bare) rfl, lim1.keeps fun b o e => Heap.get?_push_of_some _ e, fun b o e => Heap.get?_push_of_some _ (kp1 b o e), ?_⟩
    · show _ < (s1.heap.push _).objs.size
      rw [Heap.size_push]; exact Nat.lt_succ_self _
    intro Aw ex pf s2 hrw hfr hex hpf hk2 hos hba
    have e0w : Env0 P w K mg base Aw outer s H := ⟨hfr, e0.mod, e0.bs, e0.bsz, e0.funs, e0.frf, e0.hok, e0.bare⟩
    obtain ⟨wi, te, hi, hg, he, hw⟩ := hbody Aw outer s H vs n Ab Fin ex [(s1.heap.objs.size, go)] (hrw.deeper _) hsp
    have I1 : Inv (gcxOf P w K mg base N qual scope f cdv Aw outer s H (fun _ _ _ => False) []) [] (start N vs) H s1 := inv_startG S hrw.hd e0w hl r x
    have kp2 : ∀ b o, s1.heap.get? b = some o → s2.heap.get? b = some o := fun b o e => hk2 b o (Heap.get?_push_of_some _ e)
    have I2 : Inv (gcxOf P w K mg base N qual scope f cdv Aw outer s H (fun _ _ _ => False) []) [] (start N vs) H s2 :=
      I1.call' (ch := []) (hos.trans os1.symm) (Un.kept kp2) (I1.hok.kept kp2) hba fun b z => by simp at z
    have above : ∀ {b : Addr}, (s1.heap.push go).objs.size ≤ b → s1.heap.objs.size < b := fun h => by rw [Heap.size_push] at h; exact h
    have young : ∀ b, s1.heap.objs.size ≤ b → H b = none ∧ b ≠ s.heap.objs.size ∧ b ∉ frs outer ∧ s.heap.objs.size ≤ b ∧ ∀ y c, (cellsFrom (s.heap.objs.size + 1) scope.names []).lookup y = some c → c ≠ b := fun b hb => by
      refine ⟨I1.hok.fresh hb, Nat.ne_of_gt (Nat.lt_of_lt_of_le lt1 hb), I1.nofs hb, Nat.le_trans (Nat.le_of_lt lt1) hb, fun y c e z => ?_⟩
      obtain ⟨v, ob, ho, _⟩ := I1.cell y c e
      have := Heap.lt_size ho
      rw [z] at this
      exact absurd (Nat.lt_of_lt_of_le this hb) (Nat.lt_irrefl _)
    have old : ∀ b ∈ ex, H b = none ∧ b ≠ s.heap.objs.size ∧ b ∉ frs outer ∧ ∀ y c, (cellsFrom (s.heap.objs.size + 1) scope.names []).lookup y = some c → c ≠ b := fun b hb => by
      obtain ⟨q1, q2, q3, q4⟩ := hex b hb
      refine ⟨q4, Nat.ne_of_lt q2, q3, fun y c e z => ?_⟩
      have h2 := I1.ok.cab y c rfl e
      have h2 : s.heap.objs.size ≤ c := h2
      rw [z] at h2
      exact absurd (Nat.lt_of_lt_of_le q2 h2) (Nat.lt_irrefl _)
    obtain ⟨a1, a2, a3, a4, a5⟩ := young _ (Nat.le_refl _)
    have pfk : ∀ p ∈ pf s2.heap, H p.1 = none ∧ p.1 ≠ s.heap.objs.size ∧ p.1 ∉ frs outer ∧ (p.1 ∈ ex ∨ s.heap.objs.size ≤ p.1) ∧ (∀ y c, (cellsFrom (s.heap.objs.size + 1) scope.names []).lookup y = some c → c ≠ p.1) ∧ s1.heap.objs.size ≠ p.1 := fun p hp => by
      rcases (hpf p hp).1 with z | z
      · obtain ⟨q1, q2, q3, q4⟩ := old _ z
        exact ⟨q1, q2, q3, .inl z, q4, Nat.ne_of_gt (Nat.lt_trans (hex _ z).2.1 lt1)⟩
      · obtain ⟨q1, q2, q3, q4, q5⟩ := young _ (Nat.le_of_lt (above z))
        exact ⟨q1, q2, q3, .inr q4, q5, Nat.ne_of_lt (above z)⟩
    have I3 : Inv (gcxOf P w K mg base N qual scope f cdv Aw outer s H (fun _ _ _ => False) [(s1.heap.objs.size, go)]).nox (pf s2.heap) (start N vs) H s2 := by
      refine (Inv.pinnedG I2 fun p hp => ?_).wish _
      rcases List.mem_append.mp hp with z | z
      · rw [List.mem_singleton.mp z]
        exact ⟨hk2 _ go hpushed, a1, a2, a3, fun v q => by rw [hgd0] at q; cases q⟩
      · obtain ⟨q1, q2, q3, _⟩ := pfk p z
        exact ⟨(hpf p z).2.1, q1, q2, q3, (hpf p z).2.2⟩
    have I4 : Inv (gE P w K mg base N qual scope f cdv Aw outer s H ex [(s1.heap.objs.size, go)]) (pf s2.heap) (start N vs) H s2 :=
      ⟨⟨I3.ok.mod, I3.ok.kind, I3.ok.glob, I3.ok.blt, I3.ok.above, I3.ok.inj, I3.ok.has, I3.ok.cab, I3.ok.hd, I3.ok.frames, I3.ok.stk, fun b hb => ⟨(old b hb).2.1, (old b hb).2.2.2⟩, I3.ok.bs, I3.ok.bsz, fun b o e hb => absurd (Nat.lt_of_lt_of_le (Heap.lt_size e) (hex b hb).1) (Nat.lt_irrefl _), fun b hb => (old b hb).2.2.1, I3.ok.funs, I3.ok.frf⟩,
        I3.os, I3.bare, Un.exs I3.base, I3.loc, I3.cell, I3.free, I3.freeC, I3.pin, I3.hok, I3.len⟩
    have far : FarP (gE P w K mg base N qual scope f cdv Aw outer s H ex [(s1.heap.objs.size, go)]) (pf s2.heap) := fun p hp => by
      obtain ⟨_, q2, _, q4, q5, q6⟩ := pfk p hp
      refine ⟨⟨q4, q2, q5⟩, fun q hq => ?_⟩
      rw [List.mem_singleton.mp hq]
      exact q6
    refine seg_func ?_
    refine seg_execs_cons ?_
    refine seg_For (hs _) ?_
    rw [over_func]
    refine wpAny_mono (hi.run (pf s2.heap) s2 _ H _ I4 hw) (fun v s3 h3 => ?_) fun _ _ h => h.elim
    refine wpAny_mono h3 (fun itv s4 h4 => ?_) fun _ _ h => h.elim
    obtain ⟨k4, it, fpa, tn, J, H4, eit, I5, T, st4, f4, GI, g0, L⟩ := h4
    subst eit
    intro p
    have ll : j < (start N vs).length := by have := I5.len; exact this ▸ hjN
    have e0s : (start N vs).set j ((start N vs)[j]) = start N vs := List.set_getElem_self _
    refine seg_loopE (X := gE P w K mg base N qual scope f cdv Aw outer s H ex [(s1.heap.objs.size, go)]) (j := j) rfl (fun _ _ h => h) hg he T L (fun pins σ H5 s5 I5 => let q := I5.pin (s1.heap.objs.size, go) (List.mem_append_left _ (List.mem_singleton.mpr rfl)); ⟨hgen _ q.1, q.2.1⟩) (fun pins σ H5 s5 I5 => I5.os) (fun pins σ H5 s5 I5 => I5.base)
      rfl ((over_loop rfl rfl).trans over_func) rfl rfl S.co (hin _ _) (fun σ G s₀ s5 I6 k6 fin => ?_) n 0 ((start N vs)[j]) H4 s2 s4 (Nat.zero_add _) far f4 g0 (by rw [e0s]; exact I5) k4 st4
    refine seg_leaf (.ok .next) ?_
    show Seg _ _ _ _ _ _ _ (leafOf (.ok (.ret .none))) _ _
    refine seg_end (.ok (.ret .none)) (.inl ⟨.inl rfl, rfl, I6.os, I6.bare, k6, G, fun p hp => ?_, I6.base, I6.hok, fin⟩)
    have q := I6.pin p (List.mem_append_right _ hp)
    exact ⟨q.1, q.2.1⟩
  exact main _ _ _ _ rfl rfl rfl fun h => Heap.get?_push_size _ rfl
end GenE
end

-- GenE3
section
set_option Elab.async false
set_option linter.all false
set_option maxRecDepth 100000
set_option maxHeartbeats 1000000
/-! the consumer: [y for x, y in g if test of x], g such a generator that hands out pairs (text, value). -/
namespace GenE
open PySem PySem.Spec PyProof.Rows L2 GenW GenFor
def at1 (h : Heap) (b : Addr) : List (Addr × Obj) := match h.get? b with | some o => [(b, o)] | none => []
theorem at1_some {h : Heap} {b : Addr} {o : Obj} (e : h.get? b = some o) : at1 h b = [(b, o)] := by unfold at1; rw [e]
/-- the consumer's two objects -/
def pf2 (C D : Addr) : PF := fun h => at1 h C ++ at1 h D
theorem pf2_at {h : Heap} {C D : Addr} {oC oD : Obj} (eC : h.get? C = some oC) (eD : h.get? D = some oD) : pf2 C D h = [(C, oC), (D, oD)] := by unfold pf2; rw [at1_some eC, at1_some eD]; rfl
/-- the pairs handed out -/
def Pairs (xs : List (Str × V)) (Ab : Nat → Hp → V → Prop) : Prop := ∀ i G y, Ab i G y → ∃ T x, y = .ref T ∧ xs[i]? = some x ∧ G T = some (.tup [.str x.1, x.2])
theorem isTup_of {P : Program} {w : World} {G : Hp} {h : Heap} {T : Addr} {a b : V} (hok : HOk P w G h) (e : G T = some (.tup [a, b])) : ∃ u v, IsTup h T #[u, v] ∧ RelV a u ∧ RelV b v := by
  obtain ⟨hz, its, r, o, h1, h2, h3⟩ := hok T _ e
  cases r with
  | cons r1 r2 =>
    cases r2 with
    | cons r2 r3 =>
      cases r3
      exact ⟨_, _, ⟨o, h1, h2, h3⟩, r1, r2⟩
section
variable {P : Program} {w : World} {A : Around} {outer : List Env} {H : Hp} {sB : Shared} {C D a c : Addr} {vc : Option Value} {g N : Nat} {Ab : Nat → Hp → V → Prop} {Fin : Hp → Prop} {x y : Str} {q p1 p2 pt pos : Pos} {scope : Scope} {iter tst : Expr} {ce : Env} {R : Result → Shared → Prop} {xs : List (Str × V)} {cond : Str → Bool} {kt : Nat}
def picked (cond : Str → Bool) (xs : List (Str × V)) : List V := (xs.filter fun x => cond x.1).map (·.2)
/-- between two turns -/
def TurnsE (P : Program) (w : World) (A : Around) (outer : List Env) (H : Hp) (sB : Shared) (C D a c : Addr) (vc : Option Value) (g N : Nat) (Ab : Nat → Hp → V → Prop) (Fin : Hp → Prop) (xs : List (Str × V)) (cond : Str → Bool) (n : Nat) (s : Shared) : Prop :=
  ∃ (i : Nat) (us : List Value) (m : Str → Option Value), i + n = N ∧ s.heap.IsGen a g ∧ s.heap.NoLimit ∧ (∃ gs, s.gens[g]? = some gs ∧ gs.Goes (model P w) A.in1 (RE P w False outer [] H sB (pf2 C D) Fin) (YE P w False outer [] H sB (pf2 C D) a g N Ab) n (.send .none) (s.setGen g .running)) ∧
    s.heap.PlainList D us.toArray ∧ Vals (picked cond (xs.take i)) us ∧ s.heap.Ns C m ∧ s.heap.IsCell c vc
theorem comp_genE (hh : A.handled = none) (hd : A.depth < recursionLimit) (hl : ce.locals = C) (hk : ce.scope.kind = .function) (hx : ce.kindOf x = some .local) (hy : ce.kindOf y = some .local) (hxy : x ≠ y) (hp : (ce.scope.kind == .class || (ce.scope.kind == .module && ce.locals != ce.globals)) = false) (hdb : (y == ("__debug__" : Str)) = false)
    (nCD : C ≠ D) (nCa : C ≠ a) (nDa : D ≠ a) (nCs : C ≠ cStatics) (nDs : D ≠ cStatics) (nCc : C ≠ c) (nDc : D ≠ c) (hsz : N ≤ sizeLine) (hN : xs.length = N) (hP : Pairs xs Ab)
    (hcB : sB.heap.IsCell c vc) (hcH : H c = none)
    (htest : ∀ (xv : Str) (t : Tok) (s : Shared) (m : Str → Option Value) (Q : Bool → Shared → Prop) (E : Value → Shared → Prop), s.heap.Ns C m → m x = some (.str xv t) → s.heap.IsCell c vc → Q (cond xv) s → wpAny (model P w) A (isTrue tst ce (eval tst ce)) Q E s)
    (has : (assignEach [Expr.Name x p1, Expr.Name y p2] ce).map (·.2) = [assign (.Name x p1) ce, assign (.Name y p2) ce]) (hst : (assignEach [Expr.Name x p1, Expr.Name y p2] ce).findIdx? (·.1) = none)
    (done : ∀ s' us m G, s'.os = sB.os → AllBare s'.gens → Un (frs outer) [] H G sB.heap s'.heap → HOk P w G s'.heap → G C = none → G D = none → s'.heap.PlainList D us.toArray → Vals (picked cond xs) us → Fin G → s'.heap.Ns C m → R (.ok .next) s')
    (n : Nat) {s : Shared} (h : TurnsE P w A outer H sB C D a c vc g N Ab Fin xs cond n s) :
    codeAny (model P w) A (.compLoop (.ListComp (.Name y q) [⟨.Tuple [.Name x p1, .Name y p2] kt pt, iter, [tst], 0⟩] scope pos) 0 (.ref a) (.ref D) ce) R s := by
  refine compLoop_any (fun n s => TurnsE P w A outer H sB C D a c vc g N Ab Fin xs cond n s) ?_ n h
  rintro n s ⟨i, us, m, hi, hg, hlim, ⟨gs, hgs, hgo⟩, hD, rv, hns, hc⟩
  have hgl : g < s.gens.size := (Array.getElem?_eq_some_iff.mp hgs).1
  obtain ⟨oC, esC, epC, hoC, hdC, rC⟩ := id hns
  obtain ⟨kD, eD0⟩ := id hD
  have epf : pf2 C D s.heap = [(C, oC), (D, _)] := pf2_at hoC eD0
  refine wpAny_gsz (n := g + 1) hgl (next_genG hh hlim hd hg hgs (F := FE P w False outer [] H sB (pf2 C D) Fin) (Er := fun _ _ => False) (Y := YE P w False outer [] H sB (pf2 C D) a g N Ab) hgo (fun v s₁ gs' hbare hv => ?_) (fun s₁ hF h' hkp => ?_) fun e s₁ he => he.elim)
  · intro hsz'
    obtain ⟨i', G, yv, hi', ry, ab, hos, hba, hlm, ⟨hge, _⟩, hpin, un, hok, _, hk'⟩ := hv
    have epf' : pf2 C D (s.setGen g .running).heap = [(C, oC), (D, _)] := epf
    rw [epf'] at hpin hk'
    have eC : s₁.heap.get? C = some oC := (hpin (C, oC) List.mem_cons_self).1
    have eD : s₁.heap.get? D = some _ := (hpin (D, _) (List.mem_cons_of_mem _ List.mem_cons_self)).1
    have hsz1 : g < s₁.gens.size := by
      have q : (s₁.setGen g gs').gens.size = s₁.gens.size := setGen_size _ _ _
      have hsz'' : g + 1 ≤ (s₁.setGen g gs').gens.size := hsz'
      omega
    have hns1 : s₁.heap.Ns C m := ⟨oC, esC, epC, eC, hdC, rC⟩
    have hD1 : s₁.heap.PlainList D us.toArray := ⟨kD, eD⟩
    obtain ⟨oc0, hoc0, hdc0⟩ := id hcB
    obtain ⟨sl0, hc1⟩ := un.any hoc0 hcH (by simp)
    obtain ⟨T, xe, rfl, hxe, hT⟩ := hP _ _ _ ab
    cases ry
    obtain ⟨u1, u2, ht, r1, r2⟩ := isTup_of hok hT
    obtain ⟨t1, rfl⟩ := r1
    obtain ⟨ogn, nm, qn, hgo1, hgc, hgd, _⟩ := id hge
    refine go_of (s := s₁.setGen g gs') (n := "generator") hgo1 hgc hgd (by decide) ?_
    refine assign_Tuple_tuple (s := s₁.setGen g gs') hh ht (by rw [← List.length_map (f := (·.2)), has]; rfl) hst fun h1 hx1 => ?_
    rw [has]
    have k1 : ∀ b o, s₁.heap.get? b = some o → h1.get? b = some o := fun b o e => hx1 b o (Nat.ne_of_lt (Heap.lt_size e)) e
    refine assignInOrder_cons (wpAny_assign_Name (wpAny_storeName_local (m := m) hx (by rw [hl]; exact hns1.at' fun o e => k1 _ _ e) (fun h2 hn2 hs2 => ?_) hp))
    refine assignInOrder_cons (wpAny_assign_Name (wpAny_storeName_local (m := _) hy hn2 (fun h3 hn3 hs3 => ?_) hp))
    refine assignInOrder_nil ?_
    rw [hl] at hn3 hs2 hs3
    have k3 : ∀ b o, b ≠ C → s₁.heap.get? b = some o → h3.get? b = some o := fun b o n e => hs3.extBut b o n (hs2.extBut b o n (k1 b o e))
    have mx : (fun z => if z = y then some u2 else (fun z => if z = x then some (Value.str xe.1 t1) else m z) z) x = some (.str xe.1 t1) := by
      show (if x = y then some u2 else if x = x then some (Value.str xe.1 t1) else m x) = _
      rw [if_neg hxy, if_pos rfl]
    have my : (fun z => if z = y then some u2 else (fun z => if z = x then some (Value.str xe.1 t1) else m z) z) y = some u2 := if_pos rfl
    refine wpAny_tests_one (htest xe.1 t1 _ _ _ _ hn3 mx ⟨_, k3 c _ (Ne.symm nCc) hc1, hdc0⟩ ?_)
    have hD3 : h3.PlainList D us.toArray := ⟨kD, k3 D _ (Ne.symm nCD) eD⟩
    have ei : i' = i ∨ n = 0 := by omega
    -- the turn's end
    have fin : ∀ (h5 : Heap) (t5 : Nat) (us' : List Value), (∀ b o, b ≠ C → b ≠ D → s₁.heap.get? b = some o → h5.get? b = some o) → h5.Ns C (fun z => if z = y then some u2 else (fun z => if z = x then some (Value.str xe.1 t1) else m z) z) → h5.PlainList D us'.toArray → (i' = i → Vals (picked cond (xs.take (i + 1))) us') →
        ∃ m', m' < n ∧ TurnsE P w A outer H sB C D a c vc g N Ab Fin xs cond m' { s₁.setGen g gs' with heap := h5, toks := t5 } := by
      intro h5 t5 us' keep ns5 pl5 rv5
      obtain ⟨oC5, es5, ep5, hoC5, hdC5, rC5⟩ := id ns5
      obtain ⟨kD5, eD5⟩ := id pl5
      have eC0 : G C = none := (hpin (C, oC) List.mem_cons_self).2
      have eD0' : G D = none := (hpin (D, _) (List.mem_cons_of_mem _ List.mem_cons_self)).2
      have wk : WokeG P w (frs outer) [(C, oC), (D, { cls := .type "list", data := .seq us.toArray kD })] (pf2 C D ({ s₁.setGen g gs' with heap := h5, toks := t5 }.setGen g .running).heap) G G s₁ ({ s₁.setGen g gs' with heap := h5, toks := t5 }.setGen g .running) := by
        have e5 : pf2 C D ({ s₁.setGen g gs' with heap := h5, toks := t5 }.setGen g .running).heap = [(C, oC5), (D, _)] := pf2_at hoC5 eD5
        rw [e5]
        obtain ⟨u1, u2⟩ := un_keep (P := P) (w := w) (fs := frs outer) (ch := [(C, oC), (D, ({ cls := .type "list", data := .seq us.toArray kD } : Obj))].map (·.1)) (G := G) (h := s₁.heap) (h' := h5) (fun b o hb e => keep b o (fun z => hb (by simp [z])) (fun z => hb (by simp [z])) e) (fun b hb => by
          rcases List.mem_cons.mp hb with z | z
          · rw [z]; exact eC0
          · rw [List.mem_singleton.mp z]; exact eD0') hok
        refine ⟨rfl, allBare_setGen (allBare_setGen hba hbare) rfl, u1, u2, fun _ _ e => e, fun p hp => ?_⟩
        rcases List.mem_cons.mp hp with z | z
        · rw [z]
          exact ⟨hoC5, fun v e => (by rw [hdC5] at e; cases e), eC0, .inl (by simp)⟩
        · rw [List.mem_singleton.mp z]
          exact ⟨eD5, fun v e => (by cases e), eD0', .inl (by simp)⟩
      cases n with
      | zero => exact (hk' .none _ _ (.inl rfl) wk).elim
      | succ n =>
        have e : i' = i := by omega
        refine ⟨n, Nat.lt_succ_self _, i + 1, us', _, by omega, (let ⟨o, nm, qn, ho, r⟩ := hge; ⟨o, nm, qn, keep a o (Ne.symm nCa) (Ne.symm nDa) ho, r⟩), ?_, ⟨gs', setGen_at hsz1, hk' .none _ _ (.inl rfl) wk⟩, pl5, rv5 e, ns5, ⟨_, keep c _ (Ne.symm nCc) (Ne.symm nDc) hc1, hdc0⟩⟩
        obtain ⟨mc, hnc, hnn⟩ := hlm
        exact ⟨mc, hnc.at' fun o e => keep _ o (Ne.symm nCs) (Ne.symm nDs) e, hnn⟩
    have pk : i' = i → picked cond (xs.take (i + 1)) = picked cond (xs.take i) ++ (if cond xe.1 = true then [xe.2] else []) := fun e => by
      subst e
      rw [List.take_add_one, hxe]
      unfold picked
      rw [List.filter_append, List.map_append]
      cases hcd : cond xe.1 <;> simp [hcd]
    cases hcd : cond xe.1 with
    | false =>
      simp only [Bool.false_eq_true, if_false]
      refine fin h3 _ us (fun b o n1 _ e => k3 b o n1 e) hn3 hD3 fun e => ?_
      rw [pk e, hcd]
      simpa using rv
    | true =>
      simp only [if_true]
      refine wpAny_Name (wpAny_loadName_local (v := u2) hk hy (by rw [hl]; exact hn3) my ?_) hdb
      have ul : us.length ≤ i := by
        rw [← rv.length]
        unfold picked
        rw [List.length_map]
        exact Nat.le_trans (List.length_filter_le _ _) (by rw [List.length_take]; exact Nat.min_le_left _ _)
      refine wpAny_list_append_plain (hsz := by rw [List.size_toArray]; omega) hD3 fun h5 hl5 hs5 => ?_
      refine fin h5 _ (us ++ [u2]) (fun b o n1 n2 e => hs5.extBut b o n2 (k3 b o n1 e)) (hn3.at' fun o e => hs5.extBut C o nCD e) (by simpa using hl5) fun e => ?_
      rw [pk e, hcd, if_pos rfl]
      exact rv.append (.cons r2 .nil)
  · intro _
    obtain ⟨n0, os1, ba1, _, G, hpin, un, hok, fin⟩ := hF
    have epf' : pf2 C D (s.setGen g .running).heap = [(C, oC), (D, _)] := epf
    rw [epf'] at hpin
    subst n0
    have e : xs.take i = xs := List.take_of_length_le (by omega)
    rw [e] at rv
    refine done _ us m G os1 (allBare_setGen ba1 rfl) (un.trans (Un.kept hkp)) (hok.kept hkp) (hpin (C, oC) List.mem_cons_self).2 (hpin (D, _) (List.mem_cons_of_mem _ List.mem_cons_self)).2 ?_ rv fin ?_
    · exact ⟨kD, hkp _ _ (hpin (D, _) (List.mem_cons_of_mem _ List.mem_cons_self)).1⟩
    · exact ⟨oC, esC, epC, hkp _ _ (hpin (C, oC) List.mem_cons_self).1, hdC, rC⟩
end
end GenE
end

-- GenE4
section
set_option Elab.async false
set_option linter.all false
set_option maxRecDepth 100000
set_option maxHeartbeats 1000000
/-! [y for x, y in o.m() if x op w] as a value. -/
namespace GenE
open PySem PySem.Spec PyProof.Rows L2 GenW GenFor
abbrev TGenE := L2.St → Hp → Nat → (Nat → Hp → V → Prop) → (Hp → Prop) → Prop
structure PGenE (X : Cx) (k : Nat) (e : Expr) (tg : TGenE) : Prop where
  run : ∀ (pins : List (Addr × Obj)) (s : Shared) (σ : L2.St) (H : Hp) (n : Nat) (Ab : Nat → Hp → V → Prop) (Fin : Hp → Prop), Inv X pins σ H s → tg σ H n Ab Fin → wpAny (model X.prog X.w) X.A (eval e X.env)
    (fun u s' => ∃ H1 sc, Inv X pins σ H1 sc ∧ GMadeE X.prog X.w X.base k False X.stack H1 sc n Ab Fin u s') X.xe s
def tMethE (S : Addr → Prop) (m : Str) (sp : SpE) (ta : TE) : TGenE := fun σ H n Ab Fin => ta σ H fun x H1 => ∃ a C dx fs, x = .ref a ∧ H1 a = some (.ins C dx fs) ∧ S C ∧ fs.lookup m = none ∧ sp [x] H1 n Ab Fin
section
variable {X : Cx} {k : Nat} {f : Addr} {fd : FuncData} {ps : List Str} {sp : SpE} {o : Expr} {m : Str} {apos pos pos' : Pos} {ta : TE} {S : Addr → Prop}
/-- o.m(), of whatever class of ours -/
theorem pgenE_meth0 {pl : Sem Bool} (he : PE X o ta) (c : ∀ C, S C → Cls X.K C ∧ Meth X.K C m f) (F : GFnE X.prog X.w X.K X.mg X.base k False f fd ps sp) (len : ∀ vs H n Ab Fin, sp vs H n Ab Fin → vs.length = ps.length) (hr : Room k X.A) (hb : Binds X.K fd ps [])
    (ht : eval (.Call (.Attribute o m apos) [] [] pos') X.env = (do
      let ov ← eval o X.env
      standAt apos.atName
      let (f, first) ← holding [ov] (getMethod ov m pl)
      callWith pos' f first (backTo pos' (starEach [] X.env)) (backToKw pos' (keywordEach [] X.env))) := by rfl) :
    PGenE X k (.Call (.Attribute o m apos) [] [] pos') (tMethE S m sp ta) := by
  constructor
  intro pins s σ H n Ab Fin I h
  refine PySem.W.methodCall_KW (pl := pl) (thn (he.run pins s σ H _ I h) fun u s1 ⟨x, H1, I1, rx, a, C, dx, fs, ex, ea, hS, l, hsp⟩ => ?_) ht
  subst ex
  obtain rfl : u = Value.ref a := rx
  have hm := (c C hS).2
  refine getmeth_ok I1 ea (c C hS).1 hm l ?_
  refine PySem.W.callWith_K0 (first := [.ref a]) I1.kIn hm.kp ?_
  have hl2 : ([Value.ref a] ++ []).length = ps.length := len _ _ _ _ _ hsp
  refine wpAny_call (codeAny_mono (F X.A X.stack s1 H1 ⟨[.ref a], []⟩ ([Value.ref a] ++ []) [V.ref a] n Ab Fin hr I1.env0 (hb s1 [Value.ref a] I1.kIn hl2) (show Vals [V.ref a] ([Value.ref a] ++ []) from .cons rfl .nil) hsp) fun r s' q => ?_)
  cases r with
  | error e => exact False.elim q
  | ok fl =>
    cases fl with
    | ret u => exact ⟨H1, s1, I1, q⟩
    | next => exact False.elim q
    | brk => exact False.elim q
    | cont => exact False.elim q
end
/-- a captured cell is the def's own -/
theorem blk_cell {cells : List (Str × Addr)} {names : List (Str × NameKind)} {h : Heap} {w : Str} {c : Addr} (hu : ∀ y ∈ names, names.lookup y.1 = some y.2) (hw : names.lookup w = some .free) (hc : cells.lookup w = some c) :
    (cellsFrom h.objs.size names (cloFrom cells names [])).lookup w = some c := by
  have hy : (w, NameKind.free) ∈ names := PySem.mem_of_lookup hw
  obtain ⟨c', e'⟩ := mem_lookup (cells_acc (names := names) (n := h.objs.size) (cloFrom_has (cells := cells) (acc := []) hy))
  rw [e']
  rcases cells_mem (PySem.mem_of_lookup e') with hm | ⟨h1, _, _⟩
  · rcases cloFrom_mem hm with hm | ⟨_, e2⟩
    · cases hm
    · rw [e2, hc]; rfl
  · have := hu _ h1
    rw [hw] at this
    cases this
section
variable {X : Cx} {k : Nat} {iter : Expr} {tg : TGenE} {x y wn : Str} {op : CmpOp} {q qx qw pc p1 p2 pt pos : Pos} {scope : Scope} {own : List (Str × Nat)} {kt iw : Nat} {p : Str → Str → Bool}
def tLcE (tg : TGenE) (iw : Nat) (p : Str → Str → Bool) : TE := fun σ H Q => ∃ n Ab Fin xs wv, n ≤ sizeLine ∧ σ[iw]? = some (some (.str wv)) ∧ xs.length = n ∧ Pairs xs Ab ∧ (∀ G, Fin G → ∀ D, G D = none → Q (.ref D) (upd G D (.lst (picked (fun a => p a wv) xs)))) ∧ tg σ H n Ab Fin
theorem pe_lcE (h : PGenE X k iter tg) (hc : X.calm = true) (hr : Room (k + 1) X.A) (ok : BlkOk X.N X.env.scope scope own) (hxy : x ≠ y)
    (hx : ∀ (cl : List (Str × Addr)) (C : Addr), (compEnvC scope cl C X.env).kindOf x = some .local) (hy : ∀ (cl : List (Str × Addr)) (C : Addr), (compEnvC scope cl C X.env).kindOf y = some .local)
    (hw : ∀ (cl : List (Str × Addr)) (C : Addr), (compEnvC scope cl C X.env).kindOf wn = some .cell ∨ (compEnvC scope cl C X.env).kindOf wn = some .free) (hwf : scope.names.lookup wn = some .free) (hwN : X.N[iw]? = some wn)
    (hcmp : ∀ (a b : Str) (t u : Tok) (s : Shared) (Q : Value → Shared → Prop) (E : Value → Shared → Prop), Q (.bool (p a b)) s → wpAny (model X.prog X.w) X.A (compareOp op (.str a t) (.str b u)) Q E s) (hm : behindInMarks op (.Name wn qw) = false)
    (has : ∀ (cl : List (Str × Addr)) (C : Addr), (assignEach [Expr.Name x p1, Expr.Name y p2] (compEnvC scope cl C X.env)).map (·.2) = [assign (.Name x p1) (compEnvC scope cl C X.env), assign (.Name y p2) (compEnvC scope cl C X.env)]) (hst : ∀ (cl : List (Str × Addr)) (C : Addr), (assignEach [Expr.Name x p1, Expr.Name y p2] (compEnvC scope cl C X.env)).findIdx? (·.1) = none)
    (hdx : (x == ("__debug__" : Str)) = false := by decide) (hdb : (y == ("__debug__" : Str)) = false := by decide) (hdw : (wn == ("__debug__" : Str)) = false := by decide) (hcd : (wn == ("__classdict__" : Str)) = false := by decide) (hs : ∀ x, foldedSetIterable iter X.env x = pure x := by intro _; rfl) :
    PE X (.ListComp (.Name y q) [⟨.Tuple [.Name x p1, .Name y p2] kt pt, iter, [.Compare (.Name x qx) [op] [.Name wn qw] pc], 0⟩] scope pos) (tLcE tg iw p) := by
  constructor
  intro pins s σ H Q I hq
  obtain ⟨n, Ab, Fin, xs, wv, hsz, hσ, hxs, hP, hQ, hq⟩ := hq
  rw [eval_ListComp]
  have hfree : ∀ y ∈ scope.names, y.2 = .free → ∃ c, X.env.cells.lookup y.1 = some c := fun y hy e => by
    rcases ok.free y hy e with k | k
    · exact I.ok.has _ (.inl k)
    · exact I.ok.has _ (.inr k)
  refine wpAny_comprehension_free (use := none) rfl hs (closure_ok hfree) ok.kind (fun y hy e => by rw [ok.uniq y hy, e])
    (thn (h.run pins s σ H n _ _ I hq) fun u s1 ⟨H1, sc, I1, G⟩ => ?_)
  obtain ⟨a, c0, rfl, ha1, ha2, hgen, hgens, os, ba, lim, kp, seg⟩ := G
  have hfresh : s1.gens[sc.gens.size]? = some (.fresh c0) := by rw [hgens]; exact Array.getElem?_push_size ..
  generalize sc.gens.size = g at hgen hfresh seg
  -- the captured cell
  obtain ⟨m0, hn0, hl0⟩ := I1.loc
  have kw : X.env.scope.names.lookup wn = some .cell ∨ X.env.scope.names.lookup wn = some .free := ok.free _ (PySem.mem_of_lookup hwf) rfl
  obtain ⟨uw, rw_, lw⟩ := hl0 iw wn _ hwN hσ (kw.elim (fun z => .inr (.inl z)) fun z => .inr (.inr z))
  obtain ⟨tw, rfl⟩ := rw_
  obtain ⟨c, hcl, oc, hoc, hdc⟩ : ∃ c, X.env.cells.lookup wn = some c ∧ sc.heap.IsCell c (some (.str wv tw)) := by
    rcases lw with ⟨z, _⟩ | ⟨_, c, e, z⟩
    · have z : X.env.scope.names.lookup wn = some .local := z
      rcases kw with q | q <;> rw [q] at z <;> cases z
    · exact ⟨c, e, z⟩
  refine wpAny_pyIter_gen hgen ?_
  refine wpAny_newObj_type (newEnv_comp ?_) (by show 0 ≤ sizeLine; decide)
  generalize hD : s1.heap.objs.size = D
  generalize hs3 : ({ s1 with heap := s1.heap.push { cls := .type "list", data := .seq ([] : List Value).toArray } } : Shared) = s3
  show codeAny _ _ (.compStart (.ListComp (.Name y q) [⟨.Tuple [.Name x p1, .Name y p2] kt pt, iter, [.Compare (.Name x qx) [op] [.Name wn qw] pc], 0⟩] scope pos) 0 (.ref a) (.ref D) (compEnvC scope (cellsFrom (s3.heap.objs.size + 1) scope.names (cloFrom X.env.cells scope.names [])) s3.heap.objs.size X.env)) (compPost (model X.prog X.w) X.A X.xe none (EP X pins σ Q) (.ref D) s3.heap.objs.size) { s3 with heap := pushCells (s3.heap.push { cls := .type "dict", data := .dict #[] }) scope.names }
  have hwc : (compEnvC scope (cellsFrom (s3.heap.objs.size + 1) scope.names (cloFrom X.env.cells scope.names [])) s3.heap.objs.size X.env).cells.lookup wn = some c := by
    have q := blk_cell (h := s3.heap.push { cls := .type "dict", data := .dict #[] }) ok.uniq hwf hcl
    rw [Heap.size_push] at q
    exact q
  have hxe := hx (cellsFrom (s3.heap.objs.size + 1) scope.names (cloFrom X.env.cells scope.names [])) s3.heap.objs.size
  have hye := hy (cellsFrom (s3.heap.objs.size + 1) scope.names (cloFrom X.env.cells scope.names [])) s3.heap.objs.size
  have hwe := hw (cellsFrom (s3.heap.objs.size + 1) scope.names (cloFrom X.env.cells scope.names [])) s3.heap.objs.size
  have hase := has (cellsFrom (s3.heap.objs.size + 1) scope.names (cloFrom X.env.cells scope.names [])) s3.heap.objs.size
  have hste := hst (cellsFrom (s3.heap.objs.size + 1) scope.names (cloFrom X.env.cells scope.names [])) s3.heap.objs.size
  have kce : (compEnvC scope (cellsFrom (s3.heap.objs.size + 1) scope.names (cloFrom X.env.cells scope.names [])) s3.heap.objs.size X.env).scope.kind = .function := ok.kind
  generalize hce : compEnvC scope (cellsFrom (s3.heap.objs.size + 1) scope.names (cloFrom X.env.cells scope.names [])) s3.heap.objs.size X.env = ce at hxe hye hwe hase hste kce hwc ⊢
  have cL : ce.locals = s3.heap.objs.size := by subst hce; rfl
  have h3 : s3.heap = s1.heap.push { cls := .type "list", data := .seq ([] : List Value).toArray } := by rw [← hs3]
  have g3 : s3.gens = s1.gens := by rw [← hs3]
  have o3 : s3.os = s1.os := by rw [← hs3]
  have szC : s3.heap.objs.size = D + 1 := by rw [h3, Heap.size_push, hD]
  generalize hC : s3.heap.objs.size = C at cL szC ⊢
  have k3 : ∀ b o, s1.heap.get? b = some o → s3.heap.get? b = some o := fun b o e => by rw [h3]; exact Heap.get?_push_of_some _ e
  have k4 : ∀ b o, s3.heap.get? b = some o → (pushCells (s3.heap.push { cls := .type "dict", data := .dict #[] }) scope.names).get? b = some o := fun b o e => pushCells_keeps _ _ _ _ (Heap.get?_push_of_some _ e)
  have eC : (pushCells (s3.heap.push { cls := .type "dict", data := .dict #[] }) scope.names).get? C = some { cls := .type "dict", data := .dict #[] } := by
    rw [← hC]
    exact pushCells_keeps _ _ _ _ (Heap.get?_push_size _ rfl)
  have eD3 : s3.heap.get? D = some { cls := .type "list", data := .seq ([] : List Value).toArray } := by
    rw [h3, ← hD]
    exact Heap.get?_push_size _ rfl
  have eD := k4 _ _ eD3
  have kp4 : ∀ b o, s1.heap.get? b = some o → (pushCells (s3.heap.push { cls := .type "dict", data := .dict #[] }) scope.names).get? b = some o := fun b o e => k4 b o (k3 b o e)
  have aD : a < D := by rw [← hD]; exact ha2
  have stat : cStatics < D := by
    obtain ⟨mc, hns, _⟩ := id lim
    rw [← hD]
    exact hns.lt
  have scD : sc.heap.objs.size ≤ D := by rw [← hD]; exact Nat.le_trans ha1 (Nat.le_of_lt ha2)
  have DC : D < C := by rw [szC]; exact Nat.lt_succ_self _
  have aC : a < C := Nat.lt_trans aD DC
  have tC : cStatics < C := Nat.lt_trans stat DC
  have cD : c < D := Nat.lt_of_lt_of_le (Heap.lt_size hoc) scD
  generalize hs4 : ({ s3 with heap := pushCells (s3.heap.push { cls := .type "dict", data := .dict #[] }) scope.names } : Shared) = s4
  have h4 : s4.heap = pushCells (s3.heap.push { cls := .type "dict", data := .dict #[] }) scope.names := by rw [← hs4]
  have g4 : s4.gens = s1.gens := by rw [← hs4]; exact g3
  have o4 : s4.os = sc.os := by rw [← hs4]; exact o3.trans os
  rw [← h4] at eC eD kp4
  have ns4 : s4.heap.Ns C (fun _ => none) := ⟨_, _, _, eC, rfl, (fun e he => by simp at he), fun _ => rfl⟩
  have start : TurnsE X.prog X.w X.A X.stack H1 sc C D a c (some (.str wv tw)) g n Ab Fin xs (fun z => p z wv) n s4 := by
    refine ⟨0, [], _, Nat.zero_add _, hgen.keeps kp4, lim.keeps kp4, ⟨.fresh c0, by rw [g4]; exact hfresh, rfl, ?_⟩, ⟨_, eD⟩, .nil, ns4, ⟨_, kp4 _ _ (kp _ _ hoc), hdc⟩⟩
    refine seg X.A.in1 [] (pf2 C D) (s4.setGen g .running) hr.in1 I1.ok.frames (fun b hb => by cases hb) (fun z hz => ?_) (fun b o e => kp4 b o e) o4 (allBare_setGen (by rw [g4]; exact ba) rfl)
    have epf : pf2 C D (s4.setGen g .running).heap = _ := pf2_at eC eD
    rw [epf] at hz
    rcases List.mem_cons.mp hz with z' | z'
    · rw [z']
      exact ⟨.inr (by rw [hD, szC]; exact Nat.le_succ _), eC, fun v z => by cases z⟩
    · rw [List.mem_singleton.mp z']
      exact ⟨.inr (Nat.le_of_eq hD), eD, fun v z => by cases z⟩
  have loop : codeAny (model X.prog X.w) X.A (.compLoop (.ListComp (.Name y q) [⟨.Tuple [.Name x p1, .Name y p2] kt pt, iter, [.Compare (.Name x qx) [op] [.Name wn qw] pc], 0⟩] scope pos) 0 (.ref a) (.ref D) ce) (compPost (model X.prog X.w) X.A X.xe none (EP X pins σ Q) (.ref D) C) s4 := by
    refine comp_genE (cond := fun z => p z wv) (I1.ok.hd hc) hr.depth cL kce hxe hye hxy (by rw [kce]; rfl) hdb (Nat.ne_of_gt DC) (Nat.ne_of_gt aC) (Nat.ne_of_gt aD) (Nat.ne_of_gt tC) (Nat.ne_of_gt stat) (Nat.ne_of_gt (Nat.lt_trans cD DC)) (Nat.ne_of_gt cD) hsz hxs hP ⟨oc, hoc, hdc⟩ (I1.freeC _ _ hcl) (fun xv t s m Q E hns hmx hcc hQ => ?_) hase hste (fun s' us m G os' ba' un hok nC nD hl rv hF hns => ?_) n start
    · refine wpAny_isTrue_Compare1 (wpAny_Name (wpAny_loadName_local (v := .str xv t) kce hxe (by rw [cL]; exact hns) hmx ?_) hdx) hm
      have cell : s.heap.IsCell c (some (.str wv tw)) := hcc
      have go : wpAny (model X.prog X.w) X.A (compareOp op (.str xv t) (.str wv tw)) (fun c s₃ => wpAny (model X.prog X.w) X.A (truthy c) Q E s₃) E s := hcmp _ _ _ _ _ _ _ (wpAny_truthy_bool hQ)
      rcases hwe with z | z
      · exact wpAny_Name (wpAny_loadName_cell kce z hwc cell go) hdw
      · exact wpAny_Name (wpAny_loadName_free kce z hwc cell go hcd) hdw
    · obtain ⟨kk, hl⟩ := hl
      have hlen : (picked (fun a => p a wv) xs).length ≤ sizeLine := by
        unfold picked
        rw [List.length_map]
        exact Nat.le_trans (List.length_filter_le _ _) (by rw [hxs]; exact hsz)
      have I5 : Inv X pins σ (upd G D (.lst (picked (fun a => p a wv) xs))) s' := I1.drained (ex := []) scD hlen hl rv .nil os' ba' un hok nD
      have fC : FpOk X pins (upd G D (.lst (picked (fun a => p a wv) xs))) C := I1.fpOk (Nat.le_trans scD (Nat.le_of_lt DC)) (by rw [upd_ne (Nat.ne_of_gt DC)]; exact nC)
      obtain ⟨f0, f1, f2, f3, f4, f5⟩ := fC
      exact ⟨m, hns, fun h'' sb => ⟨.ref D, _, I5.turned (t' := s'.toks) (fun b o hb e => (sb.2 b hb).trans e) f0 f1 f3 f4 f5, rfl, hQ G hF D nD⟩⟩
  exact codeAny_compStart_list loop (wpAny_pyIter_gen (hgen.keeps kp4) loop)
end
end GenE
end

-- FrameG
section
set_option Elab.async false
set_option linter.all false
set_option maxRecDepth 100000
/-! What runs without waking an old generator leaves it as it is: told once for all runs. A run is made with all generators that sleep replaced by ones that get stuck when woken; the same run is then one of the state itself. -/
namespace FrameG
open PySem
abbrev SF := Sem PySem.Fin
def stuckK : Resume → SF := fun _ => .unsupported ""
def stuck : GenState → GenState
  | .suspended _ l c p fs cl => .suspended stuckK l c p fs cl
  | x => x
def AllRet (fs : List Frame) : Prop := ∀ F ∈ fs, ∃ k h g l c p kp, F = .ret k h g l c p kp
theorem split_none : ∀ {fs : List Frame}, AllRet fs → splitAtGen fs = none
  | [], _ => rfl
  | F :: fs, h => by
    obtain ⟨k, hh, g, l, c, p, kp, rfl⟩ := h _ List.mem_cons_self
    have ih := split_none (fs := fs) fun x hx => h x (List.mem_cons_of_mem _ hx)
    simp [splitAtGen, ih]
def RetE (e : End) : Prop := ∀ v gd l k c p fs, e = .susp v gd l k c p fs → AllRet fs
theorem not_runs {M : Model} {Γ : Ctx} {p : Pos} {x : String} {fs : List Frame} {s s' : Shared} {e : End} {t : SF} (h : Runs M Γ p t fs s e s') : t = .unsupported x → False := by
  induction h <;> intro z <;> first | (cases z; done) | (rename_i ih _; exact ih z) | (rename_i ih; exact ih z) | skip
/-- no sleeper -/
def NotS (o : Option GenState) : Prop := ∀ k l c p fs cl, o ≠ some (.suspended k l c p fs cl)
/-- what of an entry is the same in both tables -/
def Alike (T gx g : Array GenState) (i : Nat) : Prop :=
  (∃ k l c p fs cl, T[i]? = some (.suspended k l c p fs cl) ∧ gx[i]? = some (.suspended stuckK l c p fs cl) ∧ g[i]? = some (.suspended k l c p fs cl)) ∨
  (NotS T[i]? ∧ gx[i]? = g[i]? ∧ ∀ k l c p fs cl, gx[i]? = some (.suspended k l c p fs cl) → AllRet fs)
/-- T: the table at the entry; gx: that of the run with stuck sleepers; g: the true one -/
structure RelE (T gx g : Array GenState) : Prop where
  size : gx.size = g.size
  le : T.size ≤ g.size
  at_ : ∀ i, Alike T gx g i
def GoodX (x : GenState) : Prop := ∀ k l c p fs cl, x = .suspended k l c p fs cl → AllRet fs
section
variable {T gx g : Array GenState} {i : Nat} {x : GenState}
theorem RelE.set (h : RelE T gx g) (n : NotS T[i]?) (gd : GoodX x) : RelE T (gx.setIfInBounds i x) (g.setIfInBounds i x) := by
  refine ⟨by simp [h.size], by simp [h.le], fun j => ?_⟩
  by_cases z : i = j
  · subst z
    refine .inr ⟨n, ?_, fun k l c p fs cl e => ?_⟩
    · have := h.size
      by_cases lt : i < g.size
      · simp [lt, this]
      · simp [lt, this]
    · by_cases lt : i < gx.size
      · simp [lt] at e
        exact gd _ _ _ _ _ _ e
      · simp [lt] at e
  · have e1 : (gx.setIfInBounds i x)[j]? = gx[j]? := Array.getElem?_setIfInBounds_ne z
    have e2 : (g.setIfInBounds i x)[j]? = g[j]? := Array.getElem?_setIfInBounds_ne z
    unfold Alike
    rw [e1, e2]
    exact h.at_ j
theorem RelE.push (h : RelE T gx g) (gd : GoodX x) : RelE T (gx.push x) (g.push x) := by
  refine ⟨by simp [h.size], by have := h.le; simp; omega, fun j => ?_⟩
  have hs := h.size
  by_cases z : j < g.size
  · have e1 : (gx.push x)[j]? = gx[j]? := by rw [Array.getElem?_push_lt (by omega), Array.getElem?_eq_getElem (by omega)]
    have e2 : (g.push x)[j]? = g[j]? := by rw [Array.getElem?_push_lt z, Array.getElem?_eq_getElem z]
    unfold Alike
    rw [e1, e2]
    exact h.at_ j
  · refine .inr ⟨fun k l c p fs cl e => ?_, ?_, fun k l c p fs cl e => ?_⟩
    · have := (Array.getElem?_eq_some_iff.mp e).1
      have := h.le
      omega
    · by_cases y : j = g.size
      · subst y
        rw [Array.getElem?_push_size, ← hs, Array.getElem?_push_size]
      · rw [Array.getElem?_eq_none (by simp; omega), Array.getElem?_eq_none (by simp; omega)]
    · by_cases y : j = gx.size
      · subst y
        rw [Array.getElem?_push_size] at e
        exact gd _ _ _ _ _ _ (Option.some.inj e)
      · rw [Array.getElem?_eq_none (by simp; omega)] at e
        cases e
theorem RelE.seen (h : RelE T gx g) {st : GenState} (e : gx[i]? = some st) : ∃ st', g[i]? = some st' ∧ st'.seen = st.seen := by
  rcases h.at_ i with ⟨k, l, c, p, fs, cl, _, e1, e2⟩ | ⟨_, e1, _⟩
  · rw [e] at e1
    cases e1
    exact ⟨_, e2, rfl⟩
  · exact ⟨st, e1 ▸ e, rfl⟩
end
theorem goodX_end {e : End} (h : RetE e) : GoodX e.genState := fun k l c p fs cl z => by
  cases e with
  | ret r => cases z
  | susp v gd l' k' c' p' fs' => cases z; exact h _ _ _ _ _ _ _ rfl
theorem runs_frame {M : Model} {T : Array GenState} {Γ : Ctx} {p : Pos} {t : SF} {fs : List Frame} {sx sx' : Shared} {e : End} (h : Runs M Γ p t fs sx e sx') :
    AllRet fs → ∀ g, RelE T sx.gens g → ∃ g', RelE T sx'.gens g' ∧ Runs M Γ p t fs { sx with gens := g } e { sx' with gens := g' } ∧ RetE e := by
  have nil : AllRet [] := fun F h => by cases h
  have rr : ∀ r : Result, RetE (.ret r) := fun r v gd l k c p fs z => by cases z
  induction h with
  | done => exact fun _ g h => ⟨g, h, .done, rr _⟩
  | raise => exact fun _ g h => ⟨g, h, .raise, rr _⟩
  | again a _ ih => exact fun f g h => let ⟨g', h', r, q⟩ := ih nil g h; ⟨g', h', .again a r, q⟩
  | rule _ ih => exact fun f g h => let ⟨g', h', r, q⟩ := ih nil g h; ⟨g', h', .rule r, q⟩
  | «at» _ ih => exact fun f g h => let ⟨g', h', r, q⟩ := ih nil g h; ⟨g', h', .at r, q⟩
  | load a _ ih => exact fun f g h => let ⟨g', h', r, q⟩ := ih nil g h; ⟨g', h', .load a r, q⟩
  | update a _ ih => exact fun f g h => let ⟨g', h', r, q⟩ := ih nil g h; ⟨g', h', .update a r, q⟩
  | loadIfAlive _ ih => exact fun f g h => let ⟨g', h', r, q⟩ := ih nil g h; ⟨g', h', .loadIfAlive r, q⟩
  | point _ ih => exact fun f g h => let ⟨g', h', r, q⟩ := ih nil g h; ⟨g', h', .point r, q⟩
  | alloc _ ih => exact fun f g h => let ⟨g', h', r, q⟩ := ih nil g h; ⟨g', h', .alloc r, q⟩
  | fresh _ ih => exact fun f g h => let ⟨g', h', r, q⟩ := ih nil g h; ⟨g', h', .fresh r, q⟩
  | ask _ ih => exact fun f g h => let ⟨g', h', r, q⟩ := ih nil g h; ⟨g', h', .ask r, q⟩
  | choose a _ ih => exact fun f g h => let ⟨g', h', r, q⟩ := ih nil g h; ⟨g', h', .choose a r, q⟩
  | os _ ih => exact fun f g h => let ⟨g', h', r, q⟩ := ih nil g h; ⟨g', h', .os r, q⟩
  | handled _ ih => exact fun f g h => let ⟨g', h', r, q⟩ := ih nil g h; ⟨g', h', .handled r, q⟩
  | genState a _ ih =>
    intro f g h
    obtain ⟨st', e, sn⟩ := h.seen a
    obtain ⟨g', h', r, q⟩ := ih nil g h
    rw [← sn] at r
    exact ⟨g', h', .genState e r, q⟩
  | stack _ ih => exact fun f g h => let ⟨g', h', r, q⟩ := ih nil g h; ⟨g', h', .stack r, q⟩
  | thread _ ih => exact fun f g h => let ⟨g', h', r, q⟩ := ih nil g h; ⟨g', h', .thread r, q⟩
  | newGen _ ih =>
    intro f g h
    obtain ⟨g', h', r, q⟩ := ih nil _ (h.push (x := .fresh _) (fun k l c p fs cl z => by cases z))
    have hs := h.size
    refine ⟨g', h', .newGen ?_, q⟩
    rw [hs] at r
    exact r
  | call _ _ ih1 ih2 =>
    intro f g h
    obtain ⟨g1, h1, r1, _⟩ := ih1 nil g h
    obtain ⟨g', h', r, q⟩ := ih2 nil g1 h1
    exact ⟨g', h', .call r1 r, q⟩
  | callSusp _ ih1 =>
    intro f g h
    obtain ⟨g1, h1, r1, q1⟩ := ih1 nil g h
    refine ⟨g1, h1, .callSusp r1, fun v gd l k c p fs z => ?_⟩
    cases z
    intro F hF
    rcases List.mem_append.mp hF with hF | hF
    · exact q1 _ _ _ _ _ _ _ rfl F hF
    · rw [List.mem_singleton.mp hF]
      exact ⟨_, _, _, _, _, _, _, rfl⟩
  | yield => exact fun _ g h => ⟨g, h, .yield, fun v gd l k c p fs z => by cases z; exact nil⟩
  | resumeFresh a _ b _ ih1 ih2 =>
    intro f g h
    rcases h.at_ _ with ⟨k, l, c, p, fs, cl, _, e1, _⟩ | ⟨n, e1, gd⟩
    · rw [a] at e1; cases e1
    · obtain ⟨g1, h1, r1, q1⟩ := ih1 nil _ (h.set n (x := .running) (fun k l c p fs cl z => by cases z))
      obtain ⟨g2, h2, r2, q2⟩ := ih2 nil _ (h1.set n (goodX_end q1))
      exact ⟨g2, h2, .resumeFresh (e1 ▸ a) r1 b r2, q2⟩
  | resumeSuspended a x b _ ih1 ih2 =>
    intro f g h
    rcases h.at_ _ with ⟨k, l, c, p, fs, cl, _, e1, _⟩ | ⟨n, e1, gd⟩
    · rw [a] at e1
      cases e1
      exact (not_runs x rfl).elim
    · obtain ⟨g1, h1, r1, q1⟩ := ih1 (gd _ _ _ _ _ _ a) _ (h.set n (x := .running) (fun k l c p fs cl z => by cases z))
      obtain ⟨g2, h2, r2, q2⟩ := ih2 nil _ (h1.set n (goodX_end q1))
      exact ⟨g2, h2, .resumeSuspended (e1 ▸ a) r1 b r2, q2⟩
  | resumeJustStarted a b _ ih =>
    intro f g h
    rcases h.at_ _ with ⟨k, l, c, p, fs, cl, _, e1, _⟩ | ⟨n, e1, gd⟩
    · rw [a] at e1; cases e1
    · obtain ⟨g', h', r, q⟩ := ih nil g h
      exact ⟨g', h', .resumeJustStarted (e1 ▸ a) b r, q⟩
  | resumeThrowFresh a _ ih =>
    intro f g h
    rcases h.at_ _ with ⟨k, l, c, p, fs, cl, _, e1, _⟩ | ⟨n, e1, gd⟩
    · rw [a] at e1; cases e1
    · obtain ⟨g', h', r, q⟩ := ih nil _ (h.set n (x := .finished) (fun k l c p fs cl z => by cases z))
      exact ⟨g', h', .resumeThrowFresh (e1 ▸ a) r, q⟩
  | resumeRunning a _ ih =>
    intro f g h
    rcases h.at_ _ with ⟨k, l, c, p, fs, cl, _, e1, _⟩ | ⟨n, e1, gd⟩
    · rw [a] at e1; cases e1
    · obtain ⟨g', h', r, q⟩ := ih nil g h
      exact ⟨g', h', .resumeRunning (e1 ▸ a) r, q⟩
  | resumeFinished a _ ih =>
    intro f g h
    rcases h.at_ _ with ⟨k, l, c, p, fs, cl, _, e1, _⟩ | ⟨n, e1, gd⟩
    · rw [a] at e1; cases e1
    · obtain ⟨g', h', r, q⟩ := ih nil g h
      exact ⟨g', h', .resumeFinished (e1 ▸ a) r, q⟩
  | segRet _ _ ih1 ih2 =>
    intro f g h
    obtain ⟨g1, h1, r1, _⟩ := ih1 nil g h
    obtain ⟨g', h', r, q⟩ := ih2 (fun F hF => f F (List.mem_cons_of_mem _ hF)) g1 h1
    exact ⟨g', h', .segRet r1 r, q⟩
  | segGen _ _ ih1 ih2 =>
    intro f
    obtain ⟨_, _, _, _, _, _, _, z⟩ := f _ List.mem_cons_self
    cases z
  | segSuspOut a _ ih1 =>
    intro f g h
    obtain ⟨g1, h1, r1, q1⟩ := ih1 nil g h
    refine ⟨g1, h1, .segSuspOut a r1, fun v gd l k c p fs z => ?_⟩
    cases z
    intro F hF
    rcases List.mem_append.mp hF with hF | hF
    · exact q1 _ _ _ _ _ _ _ rfl F hF
    · exact f F hF
  | segSuspGen a _ _ _ ih1 ih2 =>
    intro f
    rw [split_none f] at a
    cases a
open Sem (wp)
theorem wakes_frame {M : Model} {T : Array GenState} {Γ : Ctx} {p : Pos} {i : Nat} {r : Resume} {sx sx' : Shared} {res : GenResult} (h : Wakes M Γ p i r sx res sx') {g : Array GenState} (R : RelE T sx.gens g) :
    ∃ g', RelE T sx'.gens g' ∧ Wakes M Γ p i r { sx with gens := g } res { sx' with gens := g' } := by
  have nil : AllRet [] := fun F h => by cases h
  unfold Wakes at h
  cases hx : sx.gens[i]? with
  | none => rw [hx] at h; exact h.elim
  | some st =>
    rw [hx] at h
    rcases R.at_ i with ⟨k, l, c, p', fs, cl, _, e1, e2⟩ | ⟨n, e1, gd⟩
    · rw [hx] at e1
      cases e1
      obtain ⟨e₁, s₁, hr, _⟩ := h
      exact (not_runs hr rfl).elim
    · have eg : g[i]? = some st := e1 ▸ hx
      cases st with
      | fresh c =>
        cases r with
        | send v =>
          cases v with
          | none =>
            obtain ⟨e₁, s₁, hr, hq, rfl, rfl⟩ := h
            obtain ⟨g1, h1, r1, q1⟩ := runs_frame hr nil _ (R.set n (x := .running) (fun k l c p fs cl z => by cases z))
            refine ⟨_, h1.set n (goodX_end q1), ?_⟩
            unfold Wakes
            simp only [eg]
            first | exact ⟨e₁, _, r1, hq, rfl, rfl⟩ | exact ⟨e₁, _, r1, hq, trivial, trivial⟩
          | _ =>
            obtain ⟨rfl, rfl⟩ := h
            refine ⟨g, R, ?_⟩
            unfold Wakes
            simp only [eg]
            first | exact ⟨rfl, rfl⟩ | exact ⟨trivial, trivial⟩ | trivial | simp
        | throw x =>
          obtain ⟨rfl, rfl⟩ := h
          refine ⟨_, R.set n (x := .finished) (fun k l c p fs cl z => by cases z), ?_⟩
          unfold Wakes
          simp only [eg]
          first | exact ⟨rfl, rfl⟩ | exact ⟨trivial, trivial⟩ | trivial | simp
      | suspended k0 l0 c0 p0 fs0 cl0 =>
        obtain ⟨e₁, s₁, hr, hq, rfl, rfl⟩ := h
        obtain ⟨g1, h1, r1, q1⟩ := runs_frame hr (gd _ _ _ _ _ _ hx) _ (R.set n (x := .running) (fun k l c p fs cl z => by cases z))
        refine ⟨_, h1.set n (goodX_end q1), ?_⟩
        unfold Wakes
        simp only [eg]
        first | exact ⟨e₁, _, r1, hq, rfl, rfl⟩ | exact ⟨e₁, _, r1, hq, trivial, trivial⟩
      | running =>
        obtain ⟨rfl, rfl⟩ := h
        refine ⟨g, R, ?_⟩
        unfold Wakes
        simp only [eg]
        first | exact ⟨rfl, rfl⟩ | exact ⟨trivial, trivial⟩ | trivial | simp
      | finished =>
        obtain ⟨rfl, rfl⟩ := h
        refine ⟨g, R, ?_⟩
        unfold Wakes
        simp only [eg]
        first | exact ⟨rfl, rfl⟩ | exact ⟨trivial, trivial⟩ | trivial | simp
theorem wp_frame {α : Type} (M : Model) (T : Array GenState) (Γ : Ctx) (t : Sem α) : ∀ (Q : α → Pos → Shared → Prop) (E : Value → Pos → Shared → Prop) (p : Pos) (sx : Shared), wp M Γ t Q E p sx → ∀ g, RelE T sx.gens g →
    wp M Γ t (fun a p' s' => ∃ gx, RelE T gx s'.gens ∧ Q a p' { s' with gens := gx }) (fun e p' s' => ∃ gx, RelE T gx s'.gens ∧ E e p' { s' with gens := gx }) p { sx with gens := g } := by
  have nil : AllRet [] := fun F h => by cases h
  induction t with
  | pure a => intro Q E p s h g R; exact ⟨s.gens, R, h⟩
  | raise e => intro Q E p s h g R; exact ⟨s.gens, R, h⟩
  | unsupported _ => intro Q E p s h g R; exact h
  | finish _ => intro Q E p s h g R; exact h
  | rule _ k ih => intro Q E p s h g R; exact ih () Q E p s h g R
  | «at» p' k ih => intro Q E p s h g R; exact ih () Q E p' s h g R
  | load a _ k ih => intro Q E p s h g R; obtain ⟨o, ho, h⟩ := h; exact ⟨o, ho, ih o Q E p s h g R⟩
  | update a _ f k ih => intro Q E p s h g R; exact ⟨h.1, ih () Q E p _ h.2 g R⟩
  | loadIfAlive a k ih => intro Q E p s h g R; exact ih _ Q E p s h g R
  | point _ k ih => intro Q E p s h g R; exact ih () Q E p s h g R
  | register _ _ => intro Q E p s h g R; exact h
  | alloc o k ih => intro Q E p s h g R; exact ih _ Q E p _ h g R
  | fresh k ih => intro Q E p s h g R; exact ih _ Q E p _ h g R
  | ask k ih => intro Q E p s h g R; exact ih _ Q E p s h g R
  | choose src m k ih => intro Q E p s h g R; exact ⟨h.1, ih _ Q E p _ h.2 g R⟩
  | os q _ k ih => intro Q E p s h g R; exact ih _ Q E p _ h g R
  | call c hd _ _ k ih =>
    intro Q E p s h g R
    obtain ⟨r, s', hr, h⟩ := h
    obtain ⟨g1, R1, r1, _⟩ := runs_frame hr nil g R
    exact ⟨r, _, r1, ih r Q E p s' h g1 R1⟩
  | handled own k ih => intro Q E p s h g R; exact ih _ Q E p s h g R
  | genState i k ih =>
    intro Q E p s h g R
    obtain ⟨st, hs, h⟩ := h
    obtain ⟨st', e, sn⟩ := R.seen hs
    refine ⟨st', e, ?_⟩
    rw [sn]
    exact ih _ Q E p s h g R
  | newGen c k ih =>
    intro Q E p s h g R
    have q := ih _ Q E p _ h _ (R.push (x := .fresh c) (fun k l c p fs cl z => by cases z))
    show wp M Γ (k g.size) _ _ p _
    rw [← R.size]
    exact q
  | resume i r _ k ih =>
    intro Q E p s h g R
    obtain ⟨res, s', hw, h⟩ := h
    obtain ⟨g', R', w'⟩ := wakes_frame hw R
    exact ⟨res, _, w', ih res Q E p s' h g' R'⟩
  | «yield» _ _ _ _ => intro Q E p s h g R; exact h
  | stack k ih => intro Q E p s h g R; exact ih _ Q E p s h g R
  | fork _ _ => intro Q E p s h g R; exact h
  | thread k ih => intro Q E p s h g R; exact ih _ Q E p s h g R
  | await _ _ _ _ _ => intro Q E p s h g R; exact h
theorem rel_start (T : Array GenState) : RelE T (T.map stuck) T := by
  refine ⟨by simp, Nat.le_refl _, fun i => ?_⟩
  cases e : T[i]? with
  | none => exact .inr ⟨fun k l c p fs cl z => (by rw [e] at z; cases z), by simp [e], fun k l c p fs cl z => by simp [e] at z⟩
  | some x =>
    cases x with
    | suspended k l c p fs cl => exact .inl ⟨k, l, c, p, fs, cl, e, by simp [e, stuck], e⟩
    | fresh c => exact .inr ⟨fun k l c p fs cl z => (by rw [e] at z; cases z), by simp [e, stuck], fun k l c p fs cl z => by simp [e, stuck] at z⟩
    | running => exact .inr ⟨fun k l c p fs cl z => (by rw [e] at z; cases z), by simp [e, stuck], fun k l c p fs cl z => by simp [e, stuck] at z⟩
    | finished => exact .inr ⟨fun k l c p fs cl z => (by rw [e] at z; cases z), by simp [e, stuck], fun k l c p fs cl z => by simp [e, stuck] at z⟩
/-- the sleepers of s still sleep -/
def Sleep (s s' : Shared) : Prop := ∀ (i : Nat) k l c p fs cl, s.gens[i]? = some (.suspended k l c p fs cl) → s'.gens[i]? = some (.suspended k l c p fs cl)
theorem RelE.sleep {s s' : Shared} {gx : Array GenState} (R : RelE s.gens gx s'.gens) : Sleep s s' := fun i k l c p fs cl e => by
  rcases R.at_ i with ⟨k', l', c', p', fs', cl', e0, _, e2⟩ | ⟨n, _, _⟩
  · rw [e] at e0
    cases e0
    exact e2
  · exact (n _ _ _ _ _ _ e).elim
theorem RelE.bare {T gx g : Array GenState} (R : RelE T gx g) (h : ∀ y ∈ gx, y.bare = true) : ∀ y ∈ g, y.bare = true := fun y hy => by
  obtain ⟨i, hi⟩ := Array.getElem?_of_mem hy
  rcases R.at_ i with ⟨k, l, c, p, fs, cl, _, e1, e2⟩ | ⟨_, e1, _⟩
  · rw [hi] at e2
    cases e2
    have q := h _ (Array.mem_of_getElem? e1)
    exact q
  · exact h y (Array.mem_of_getElem? (e1.trans hi))
theorem wpAny_frame {α : Type} {M : Model} {A : Around} {s : Shared} {t : Sem α} {Q : α → Shared → Prop} {E : Value → Shared → Prop} (h : wpAny M A t Q E { s with gens := s.gens.map stuck }) :
    wpAny M A t (fun a s' => ∃ gx, RelE s.gens gx s'.gens ∧ Q a { s' with gens := gx }) (fun e s' => ∃ gx, RelE s.gens gx s'.gens ∧ E e { s' with gens := gx }) s := fun Γ p hΓ =>
  wp_frame M s.gens Γ t _ _ p _ (h Γ p hΓ) s.gens (rel_start s.gens)
theorem codeAny_frame {M : Model} {A : Around} {s : Shared} {c : Code} {R : Result → Shared → Prop} (h : codeAny M A c R { s with gens := s.gens.map stuck }) :
    codeAny M A c (fun r s' => ∃ gx, RelE s.gens gx s'.gens ∧ R r { s' with gens := gx }) s := fun Γ p hc hΓ => by
  obtain ⟨r, s', hr, hq⟩ := h Γ p hc hΓ
  obtain ⟨g', R', r', _⟩ := runs_frame hr (fun F h => by cases h) s.gens (rel_start s.gens)
  exact ⟨r, _, r', s'.gens, R', hq⟩
end FrameG
end

-- GenE5
section
set_option Elab.async false
set_option linter.all false
set_option maxRecDepth 100000
set_option maxHeartbeats 1000000
/-! [(x, a) for x, y in g if .. for a, b in y.m() if test of b]: the inner loop. -/
namespace GenE
open PySem PySem.Spec PyProof.Rows L2 GenW GenFor
/-- a row handed out: its tuple, its two texts -/
structure Row3 where
  T : Addr
  x : Str
  a : Str
def Row3.v (r : Row3) : Value := .ref r.T
def RowAt (h : Heap) (r : Row3) : Prop := ∃ t1 t2, h.get? r.T = some { cls := .type "tuple", data := .seq #[.str r.x t1, .str r.a t2] }
def itemsOf (h : Heap) (D : Addr) : List Value := match h.get? D with | some o => (match o.data with | .seq xs _ => xs.toList | _ => []) | none => []
def atV (h : Heap) (v : Value) : List (Addr × Obj) := match v with | .ref a => at1 h a | _ => []
/-- the consumer's objects: its block's names, its list and what is in the list -/
def pf3 (C D : Addr) : PF := fun h => (at1 h C ++ at1 h D) ++ (itemsOf h D).flatMap (atV h)
theorem at1_mem {h : Heap} {b : Addr} {p : Addr × Obj} (m : p ∈ at1 h b) : p.1 = b ∧ h.get? p.1 = some p.2 := by
  unfold at1 at m
  cases e : h.get? b with
  | none => rw [e] at m; cases m
  | some o =>
    rw [e] at m
    rw [List.mem_singleton.mp m]
    exact ⟨rfl, e⟩
theorem at1_has {h : Heap} {b : Addr} {o : Obj} (e : h.get? b = some o) : (b, o) ∈ at1 h b := by rw [at1_some e]; exact List.mem_singleton.mpr rfl
section
variable {h : Heap} {C D : Addr} {rows : List Row3}
theorem items_eq {us : Array Value} (p : h.PlainList D us) : itemsOf h D = us.toList := by
  obtain ⟨k, e⟩ := p
  unfold itemsOf
  rw [e]
theorem pf3_mem (pl : h.PlainList D (rows.map Row3.v).toArray) {p : Addr × Obj} (m : p ∈ pf3 C D h) : h.get? p.1 = some p.2 ∧ (p.1 = C ∨ p.1 = D ∨ ∃ r ∈ rows, p.1 = r.T) := by
  unfold pf3 at m
  rcases List.mem_append.mp m with m | m
  · rcases List.mem_append.mp m with m | m
    · exact ⟨(at1_mem m).2, .inl (at1_mem m).1⟩
    · exact ⟨(at1_mem m).2, .inr (.inl (at1_mem m).1)⟩
  · rw [items_eq pl] at m
    obtain ⟨v, hv, hm⟩ := List.mem_flatMap.mp m
    obtain ⟨r, hr, rfl⟩ := List.mem_map.mp (by simpa using hv)
    exact ⟨(at1_mem hm).2, .inr (.inr ⟨r, hr, (at1_mem hm).1⟩)⟩
theorem pf3_C {o : Obj} (e : h.get? C = some o) : (C, o) ∈ pf3 C D h := List.mem_append_left _ (List.mem_append_left _ (at1_has e))
theorem pf3_D {o : Obj} (e : h.get? D = some o) : (D, o) ∈ pf3 C D h := List.mem_append_left _ (List.mem_append_right _ (at1_has e))
theorem pf3_R (pl : h.PlainList D (rows.map Row3.v).toArray) {r : Row3} (hr : r ∈ rows) {o : Obj} (e : h.get? r.T = some o) : (r.T, o) ∈ pf3 C D h := by
  refine List.mem_append_right _ (List.mem_flatMap.mpr ⟨r.v, ?_, at1_has e⟩)
  rw [items_eq pl]
  simpa using List.mem_map.mpr ⟨r, hr, rfl⟩
/-- the consumer's objects, as they stand -/
structure Cons (h : Heap) (C D c : Addr) (vc : Option Value) (m : Str → Option Value) (rows : List Row3) : Prop where
  ns : h.Ns C m
  pl : h.PlainList D (rows.map Row3.v).toArray
  rw_ : ∀ r ∈ rows, RowAt h r
  cell : h.IsCell c vc
  CD : C ≠ D
  RC : ∀ r ∈ rows, r.T ≠ C ∧ r.T ≠ D ∧ r.T ≠ c
  nd : (rows.map Row3.T).Nodup
  Cc : C ≠ c
  Dc : D ≠ c
theorem Cons.noncell {c : Addr} {vc : Option Value} {m : Str → Option Value} (k : Cons h C D c vc m rows) {p : Addr × Obj} (q : p ∈ pf3 C D h) : ∀ v, p.2.data ≠ .cell v := by
  obtain ⟨e, w⟩ := pf3_mem k.pl q
  rcases w with w | w | ⟨r, hr, w⟩
  · obtain ⟨o, es, ep, ho, hd, _⟩ := k.ns
    rw [w, ho] at e
    rw [← Option.some.inj e, hd]
    exact fun v z => by cases z
  · obtain ⟨n, ho⟩ := k.pl
    rw [w, ho] at e
    rw [← Option.some.inj e]
    exact fun v z => by cases z
  · obtain ⟨t1, t2, ho⟩ := k.rw_ r hr
    rw [w, ho] at e
    rw [← Option.some.inj e]
    exact fun v z => by cases z
/-- they stand too where what was pinned stands -/
theorem Cons.stay {c : Addr} {vc : Option Value} {m : Str → Option Value} {h' : Heap} (k : Cons h C D c vc m rows) (hp : ∀ p ∈ pf3 C D h, h'.get? p.1 = some p.2) (hc : h'.IsCell c vc) : Cons h' C D c vc m rows := by
  obtain ⟨o, es, ep, ho, hd, hr⟩ := k.ns
  obtain ⟨n, eD⟩ := k.pl
  refine ⟨⟨o, es, ep, hp _ (pf3_C ho), hd, hr⟩, ⟨n, hp _ (pf3_D eD)⟩, fun r hr => ?_, hc, k.CD, k.RC, k.nd, k.Cc, k.Dc⟩
  obtain ⟨t1, t2, e⟩ := k.rw_ r hr
  exact ⟨t1, t2, hp _ (pf3_R k.pl hr e)⟩
end
end GenE
end

-- HeapSz
section
set_option Elab.async false
set_option linter.all false
set_option maxRecDepth 100000
/-! the heap never gets smaller, for all runs. -/
namespace HeapSz
open PySem
open Sem (wp)
theorem upd_size (h : Heap) (a : Addr) (f : Obj → Obj) : (h.update a f).objs.size = h.objs.size := by
  unfold Heap.update
  first | simp | (split <;> simp)
theorem push_size (h : Heap) (o : Obj) : h.objs.size ≤ (h.push o).objs.size := by rw [Heap.size_push]; exact Nat.le_succ _
theorem runs_hsz {M : Model} {Γ : Ctx} {p : Pos} {t : Sem PySem.Fin} {fs : List Frame} {s s' : Shared} {e : End} (h : Runs M Γ p t fs s e s') : s.heap.objs.size ≤ s'.heap.objs.size := by
  induction h with
  | done => exact Nat.le_refl _
  | raise => exact Nat.le_refl _
  | «yield» => exact Nat.le_refl _
  | update _ _ ih => exact Nat.le_trans (Nat.le_of_eq (upd_size _ _ _).symm) ih
  | alloc _ ih => exact Nat.le_trans (push_size _ _) ih
  | again _ _ ih => exact ih
  | rule _ ih => exact ih
  | «at» _ ih => exact ih
  | load _ _ ih => exact ih
  | loadIfAlive _ ih => exact ih
  | point _ ih => exact ih
  | fresh _ ih => exact ih
  | ask _ ih => exact ih
  | choose _ _ ih => exact ih
  | os _ ih => exact ih
  | handled _ ih => exact ih
  | genState _ _ ih => exact ih
  | stack _ ih => exact ih
  | thread _ ih => exact ih
  | newGen _ ih => exact ih
  | call _ _ a b => exact Nat.le_trans a b
  | callSusp _ a => exact a
  | resumeFresh _ _ _ _ a b => exact Nat.le_trans a b
  | resumeSuspended _ _ _ _ a b => exact Nat.le_trans a b
  | resumeJustStarted _ _ _ ih => exact ih
  | resumeThrowFresh _ _ ih => exact ih
  | resumeRunning _ _ ih => exact ih
  | resumeFinished _ _ ih => exact ih
  | segRet _ _ a b => exact Nat.le_trans a b
  | segGen _ _ a b => exact Nat.le_trans a b
  | segSuspOut _ _ a => exact a
  | segSuspGen _ _ _ _ a b => exact Nat.le_trans a b
theorem wakes_hsz {M : Model} {Γ : Ctx} {p : Pos} {g : Nat} {r : Resume} {s s' : Shared} {res : GenResult} (h : Wakes M Γ p g r s res s') : s.heap.objs.size ≤ s'.heap.objs.size := by
  unfold Wakes at h
  split at h
  · exact h.elim
  · split at h
    · obtain ⟨e₁, s₁, hr, _, _, rfl⟩ := h
      have q := runs_hsz hr
      exact q
    · rw [h.2]; exact Nat.le_refl _
    · rw [h.2]; exact Nat.le_refl _
  · obtain ⟨e₁, s₁, hr, _, _, rfl⟩ := h
    have q := runs_hsz hr
    exact q
  · rw [h.2]; exact Nat.le_refl _
  · rw [h.2]; exact Nat.le_refl _
theorem wp_hsz {α : Type} (M : Model) (Γ : Ctx) (n : Nat) (t : Sem α) : ∀ (Q : α → Pos → Shared → Prop) (E : Value → Pos → Shared → Prop) (p : Pos) (s : Shared), n ≤ s.heap.objs.size → wp M Γ t Q E p s →
    wp M Γ t (fun a p' s' => n ≤ s'.heap.objs.size ∧ Q a p' s') (fun e p' s' => n ≤ s'.heap.objs.size ∧ E e p' s') p s := by
  induction t with
  | pure a => exact fun Q E p s hn h => ⟨hn, h⟩
  | raise e => exact fun Q E p s hn h => ⟨hn, h⟩
  | unsupported _ => exact fun Q E p s _ h => h
  | finish _ => exact fun Q E p s _ h => h
  | rule _ k ih => exact fun Q E p s hn h => ih () Q E p s hn h
  | «at» p' k ih => exact fun Q E p s hn h => ih () Q E p' s hn h
  | load a _ k ih => exact fun Q E p s hn ⟨o, ho, h⟩ => ⟨o, ho, ih o Q E p s hn h⟩
  | update a _ f k ih => exact fun Q E p s hn h => ⟨h.1, ih () Q E p _ (Nat.le_trans hn (Nat.le_of_eq (upd_size _ _ _).symm)) h.2⟩
  | loadIfAlive a k ih => exact fun Q E p s hn h => ih _ Q E p s hn h
  | point _ k ih => exact fun Q E p s hn h => ih () Q E p s hn h
  | register _ _ => exact fun Q E p s _ h => h
  | alloc o k ih => exact fun Q E p s hn h => ih _ Q E p _ (Nat.le_trans hn (push_size _ _)) h
  | fresh k ih => exact fun Q E p s hn h => ih _ Q E p _ hn h
  | ask k ih => exact fun Q E p s hn h => ih _ Q E p s hn h
  | choose src m k ih => exact fun Q E p s hn h => ⟨h.1, ih _ Q E p _ hn h.2⟩
  | os q _ k ih => exact fun Q E p s hn h => ih _ Q E p _ hn h
  | call c hd _ _ k ih => exact fun Q E p s hn ⟨r, s', hr, h⟩ => ⟨r, s', hr, ih r Q E p s' (Nat.le_trans hn (runs_hsz hr)) h⟩
  | handled own k ih => exact fun Q E p s hn h => ih _ Q E p s hn h
  | genState g k ih => exact fun Q E p s hn ⟨st, hs, h⟩ => ⟨st, hs, ih _ Q E p s hn h⟩
  | newGen c k ih => exact fun Q E p s hn h => ih _ Q E p _ hn h
  | resume g r _ k ih => exact fun Q E p s hn ⟨res, s', hw, h⟩ => ⟨res, s', hw, ih res Q E p s' (Nat.le_trans hn (wakes_hsz hw)) h⟩
  | «yield» _ _ _ _ => exact fun Q E p s _ h => h
  | stack k ih => exact fun Q E p s hn h => ih _ Q E p s hn h
  | fork _ _ => exact fun Q E p s _ h => h
  | thread k ih => exact fun Q E p s hn h => ih _ Q E p s hn h
  | await _ _ _ _ _ => exact fun Q E p s _ h => h
theorem wpAny_hsz {α : Type} {M : Model} {A : Around} {s : Shared} {t : Sem α} {Q : α → Shared → Prop} {E : Value → Shared → Prop} {n : Nat} (hn : n ≤ s.heap.objs.size)
    (h : wpAny M A t (fun a s' => n ≤ s'.heap.objs.size → Q a s') (fun e s' => n ≤ s'.heap.objs.size → E e s') s) : wpAny M A t Q E s :=
  wpAny_mono (fun Γ p hΓ => wp_hsz M Γ n t _ _ p s hn (h Γ p hΓ) : wpAny M A t (fun a s' => n ≤ s'.heap.objs.size ∧ (n ≤ s'.heap.objs.size → Q a s')) (fun e s' => n ≤ s'.heap.objs.size ∧ (n ≤ s'.heap.objs.size → E e s')) s)
    (fun _ _ x => x.2 x.1) fun _ _ x => x.2 x.1
theorem codeAny_hsz {M : Model} {A : Around} {s : Shared} {c : Code} {R : Result → Shared → Prop} (h : codeAny M A c R s) : codeAny M A c (fun r s' => s.heap.objs.size ≤ s'.heap.objs.size ∧ R r s') s := fun Γ p hc hΓ => by
  obtain ⟨r, s', hr, hq⟩ := h Γ p hc hΓ
  exact ⟨r, s', hr, runs_hsz hr, hq⟩
end HeapSz
end

-- GenE6
section
set_option Elab.async false
set_option linter.all false
set_option maxRecDepth 100000
set_option maxHeartbeats 1000000
namespace GenE
open PySem PySem.Spec PyProof.Rows L2 GenW GenFor
def selB (cond : Str → Bool) (nm : Str) (ys : List (Str × Str)) : List (Str × Str) := (ys.filter fun z => cond z.2).map fun z => (nm, z.1)
def Row3.p (r : Row3) : Str × Str := (r.x, r.a)
section
variable {P : Program} {w : World} {A : Around} {outer : List Env} {H : Hp} {sB : Shared} {C D a2 c : Addr} {vc : Option Value} {g N : Nat} {Ab : Nat → Hp → V → Prop} {Fin : Hp → Prop} {x y a b nm : Str} {q1 q2 qt p1 p2 p3 p4 pt0 pt pos : Pos} {scope : Scope} {i0 i1 tst t0 : Expr} {ce : Env} {R : Result → Shared → Prop} {ys : List (Str × Str)} {cond : Str → Bool} {kt ke : Nat} {pre : List (Str × Str)} {ex : List Addr} {rows0 : List Row3}
/-- between two turns of the inner loop -/
def InV (P : Program) (w : World) (A : Around) (outer : List Env) (H : Hp) (sB : Shared) (C D a2 c : Addr) (vc : Option Value) (g N : Nat) (Ab : Nat → Hp → V → Prop) (Fin : Hp → Prop) (x nm : Str) (ys : List (Str × Str)) (cond : Str → Bool) (pre : List (Str × Str)) (ex : List Addr) (rows0 : List Row3) (n : Nat) (s : Shared) : Prop :=
  ∃ (j : Nat) (m : Str → Option Value) (rows : List Row3) (tk : Tok), j + n = N ∧ s.heap.IsGen a2 g ∧ s.heap.NoLimit ∧ (∃ gs, s.gens[g]? = some gs ∧ gs.Goes (model P w) A.in1 (RE P w False outer ex H sB (pf3 C D) Fin) (YE P w False outer ex H sB (pf3 C D) a2 g N Ab) n (.send .none) (s.setGen g .running)) ∧
    Cons s.heap C D c vc m rows ∧ m x = some (.str nm tk) ∧ rows.map Row3.p = pre ++ selB cond nm (ys.take j) ∧ sB.heap.objs.size ≤ s.heap.objs.size ∧ ∀ r ∈ rows, r ∈ rows0 ∨ sB.heap.objs.size ≤ r.T
theorem comp_in (hh : A.handled = none) (hd : A.depth < recursionLimit) (hl : ce.locals = C) (hk : ce.scope.kind = .function) (hx : ce.kindOf x = some .local) (ha : ce.kindOf a = some .local) (hb : ce.kindOf b = some .local) (hab : a ≠ b) (hxa : x ≠ a) (hxb : x ≠ b) (hp : (ce.scope.kind == .class || (ce.scope.kind == .module && ce.locals != ce.globals)) = false) (hdx : (x == ("__debug__" : Str)) = false) (hda : (a == ("__debug__" : Str)) = false)
    (nCa : C ≠ a2) (nDa : D ≠ a2) (nCs : C ≠ cStatics) (nDs : D ≠ cStatics) (hsz : pre.length + N < sizeLine) (hN : ys.length = N)
    (hP : ∀ j G yv, Ab j G yv → ∃ T z, yv = .ref T ∧ ys[j]? = some z ∧ G T = some (.tup [.str z.1, .str z.2])) (hcB : sB.heap.IsCell c vc) (hcH : H c = none) (cnot : c ∉ ex)
    (htest : ∀ (bv : Str) (t : Tok) (s : Shared) (m : Str → Option Value) (Q : Bool → Shared → Prop) (E : Value → Shared → Prop), s.heap.Ns C m → m b = some (.str bv t) → s.heap.IsCell c vc → Q (cond bv) s → wpAny (model P w) A (isTrue tst ce (eval tst ce)) Q E s)
    (has : (assignEach [Expr.Name a p1, Expr.Name b p2] ce).map (·.2) = [assign (.Name a p1) ce, assign (.Name b p2) ce]) (hst : (assignEach [Expr.Name a p1, Expr.Name b p2] ce).findIdx? (·.1) = none)
    (hse : ∀ pos, backTo pos (starEach [Expr.Name x q1, Expr.Name a q2] ce) = [(false, eval (.Name x q1) ce), (false, eval (.Name a q2) ce)])
    (done : ∀ s' m rows G, s'.os = sB.os → AllBare s'.gens → Un (frs outer) ex H G sB.heap s'.heap → HOk P w G s'.heap → (∀ p ∈ pf3 C D s'.heap, G p.1 = none) → Fin G → Cons s'.heap C D c vc m rows → rows.map Row3.p = pre ++ selB cond nm ys → (∀ r ∈ rows, r ∈ rows0 ∨ sB.heap.objs.size ≤ r.T) → R (.ok .next) s')
    (n : Nat) {s : Shared} (h : InV P w A outer H sB C D a2 c vc g N Ab Fin x nm ys cond pre ex rows0 n s) :
    codeAny (model P w) A (.compLoop (.ListComp (.Tuple [.Name x q1, .Name a q2] ke qt) [⟨t0, i0, [], 0⟩, ⟨.Tuple [.Name a p1, .Name b p2] kt pt, i1, [tst], 0⟩] scope pos) 1 (.ref a2) (.ref D) ce) R s := by
  refine compLoop2_in (fun n s => InV P w A outer H sB C D a2 c vc g N Ab Fin x nm ys cond pre ex rows0 n s) ?_ n h
  rintro n s ⟨j, m, rows, tk, hj, hg, hlim, ⟨gs, hgs, hgo⟩, hc, hmx, hrows, hB, hnew⟩
  have hgl : g < s.gens.size := (Array.getElem?_eq_some_iff.mp hgs).1
  refine HeapSz.wpAny_hsz (n := sB.heap.objs.size) hB ?_
  refine wpAny_gsz (n := g + 1) hgl (next_genG hh hlim hd hg hgs (F := FE P w False outer ex H sB (pf3 C D) Fin) (Er := fun _ _ => False) (Y := YE P w False outer ex H sB (pf3 C D) a2 g N Ab) hgo (fun v s₁ gs' hbare hv => ?_) (fun s₁ hF h' hkp => ?_) fun e s₁ he => he.elim)
  · intro hsz' hB1
    have hB1 : sB.heap.objs.size ≤ s₁.heap.objs.size := hB1
    obtain ⟨j', G, yv, hj', ry, ab, hos, hba, hlm, ⟨hge, _⟩, hpin, un, hok, _, hk'⟩ := hv
    have hpin : ∀ p ∈ pf3 C D s.heap, s₁.heap.get? p.1 = some p.2 ∧ G p.1 = none := hpin
    have hk'' := hk'
    have hsz1 : g < s₁.gens.size := by
      have q : (s₁.setGen g gs').gens.size = s₁.gens.size := setGen_size _ _ _
      have hsz'' : g + 1 ≤ (s₁.setGen g gs').gens.size := hsz'
      omega
    obtain ⟨oc0, hoc0, hdc0⟩ := id hcB
    obtain ⟨sl0, hc1⟩ := un.any hoc0 hcH cnot
    have hC1 : Cons s₁.heap C D c vc m rows := hc.stay (fun p hp => (hpin p hp).1) ⟨_, hc1, hdc0⟩
    obtain ⟨T, z, rfl, hz, hT⟩ := hP _ _ _ ab
    cases ry
    obtain ⟨u1, u2, ht, r1, r2⟩ := isTup_of hok hT
    obtain ⟨t1, rfl⟩ := r1
    obtain ⟨t2, rfl⟩ := r2
    obtain ⟨ogn, nmq, qn, hgo1, hgc, hgd, _⟩ := id hge
    refine go_of (s := s₁.setGen g gs') (n := "generator") hgo1 hgc hgd (by decide) ?_
    refine HeapSz.wpAny_hsz (n := s₁.heap.objs.size) (s := s₁.setGen g gs') (Nat.le_refl _) ?_
    refine assign_Tuple_tuple (s := s₁.setGen g gs') hh ht (by rw [← List.length_map (f := (·.2)), has]; rfl) hst fun h1 hx1 => ?_
    rw [has]
    have k1 : ∀ b o, s₁.heap.get? b = some o → h1.get? b = some o := fun b o e => hx1 b o (Nat.ne_of_lt (Heap.lt_size e)) e
    refine assignInOrder_cons (wpAny_assign_Name (wpAny_storeName_local (m := m) ha (by rw [hl]; exact hC1.ns.at' fun o e => k1 _ _ e) (fun h2 hn2 hs2 => ?_) hp))
    refine assignInOrder_cons (wpAny_assign_Name (wpAny_storeName_local (m := _) hb hn2 (fun h3 hn3 hs3 => ?_) hp))
    refine assignInOrder_nil ?_
    intro hsz3
    have hsz3 : s₁.heap.objs.size ≤ h3.objs.size := hsz3
    rw [hl] at hn3 hs2 hs3
    have k3 : ∀ b o, b ≠ C → s₁.heap.get? b = some o → h3.get? b = some o := fun b o n e => hs3.extBut b o n (hs2.extBut b o n (k1 b o e))
    generalize hm3 : (fun z_1 => if z_1 = b then some (Value.str z.2 t2) else (fun x_1 => if x_1 = a then some (Value.str z.1 t1) else m x_1) z_1) = m3 at hn3
    have m3x : m3 x = some (.str nm tk) := by rw [← hm3]; show (if x = b then _ else if x = a then _ else m x) = _; rw [if_neg hxb, if_neg hxa, hmx]
    have m3a : m3 a = some (.str z.1 t1) := by rw [← hm3]; show (if a = b then _ else if a = a then _ else m a) = _; rw [if_neg hab, if_pos rfl]
    have m3b : m3 b = some (.str z.2 t2) := by rw [← hm3]; exact if_pos rfl
    have cC : c ≠ C := Ne.symm hc.Cc
    have hC3 : Cons h3 C D c vc m3 rows := by
      obtain ⟨kD, eD⟩ := hC1.pl
      refine ⟨hn3, ⟨kD, k3 D _ (Ne.symm hc.CD) eD⟩, fun r hr => ?_, ⟨_, k3 c _ cC hc1, hdc0⟩, hc.CD, hc.RC, hc.nd, hc.Cc, hc.Dc⟩
      obtain ⟨e1, e2, e3⟩ := hC1.rw_ r hr
      exact ⟨e1, e2, k3 _ _ (hc.RC r hr).1 e3⟩
    have stat0 : cStatics ≠ C := Ne.symm nCs
    -- the turn's end
    have fin : ∀ (h5 : Heap) (t5 : Nat) (rows' : List Row3), (∀ b o, b ≠ C → b ≠ D → s₁.heap.get? b = some o → h5.get? b = some o) → Cons h5 C D c vc m3 rows' → (∀ r ∈ rows', r ∈ rows ∨ s₁.heap.objs.size ≤ r.T) → sB.heap.objs.size ≤ h5.objs.size → (j' = j → rows'.map Row3.p = pre ++ selB cond nm (ys.take (j + 1))) →
        ∃ m', m' < n ∧ InV P w A outer H sB C D a2 c vc g N Ab Fin x nm ys cond pre ex rows0 m' { s₁.setGen g gs' with heap := h5, toks := t5 } := by
      intro h5 t5 rows' keep c5 new5 szB sel5
      have gC : G C = none := by obtain ⟨o, _, _, ho, _⟩ := hc.ns; exact (hpin _ (pf3_C ho)).2
      have gD : G D = none := by obtain ⟨k, e⟩ := hc.pl; exact (hpin _ (pf3_D e)).2
      have inC : C ∈ (pf3 C D s.heap).map (·.1) := by obtain ⟨o, _, _, ho, _⟩ := hc.ns; exact List.mem_map.mpr ⟨_, pf3_C ho, rfl⟩
      have inD : D ∈ (pf3 C D s.heap).map (·.1) := by obtain ⟨k, e⟩ := hc.pl; exact List.mem_map.mpr ⟨_, pf3_D e, rfl⟩
      have gR : ∀ r ∈ rows, G r.T = none ∧ r.T ∈ (pf3 C D s.heap).map (·.1) := fun r hr => by
        obtain ⟨e1, e2, e3⟩ := hc.rw_ r hr
        exact ⟨(hpin _ (pf3_R hc.pl hr e3)).2, List.mem_map.mpr ⟨_, pf3_R hc.pl hr e3, rfl⟩⟩
      have wk : WokeG P w (frs outer) (pf3 C D (s.setGen g .running).heap) (pf3 C D ({ s₁.setGen g gs' with heap := h5, toks := t5 }.setGen g .running).heap) G G s₁ ({ s₁.setGen g gs' with heap := h5, toks := t5 }.setGen g .running) := by
        obtain ⟨u1, u2⟩ := un_keep (P := P) (w := w) (fs := frs outer) (ch := (pf3 C D s.heap).map (·.1)) (G := G) (h := s₁.heap) (h' := h5) (fun b o hb e => keep b o (fun z => hb (z ▸ inC)) (fun z => hb (z ▸ inD)) e) (fun b hb => by
          obtain ⟨p, hp', rfl⟩ := List.mem_map.mp hb
          exact (hpin p hp').2) hok
        refine ⟨rfl, allBare_setGen (allBare_setGen hba hbare) rfl, u1, u2, fun _ _ e => e, fun p hp' => ?_⟩
        have hp' : p ∈ pf3 C D h5 := hp'
        obtain ⟨e, wh⟩ := pf3_mem c5.pl hp'
        refine ⟨e, c5.noncell hp', ?_⟩
        rcases wh with wh | wh | ⟨r, hr, wh⟩
        · rw [wh]; exact ⟨gC, .inl inC⟩
        · rw [wh]; exact ⟨gD, .inl inD⟩
        · rw [wh]
          rcases new5 r hr with q | q
          · exact ⟨(gR r q).1, .inl (gR r q).2⟩
          · exact ⟨hok.fresh q, .inr q⟩
      cases n with
      | zero => exact (hk'' .none _ _ (.inl rfl) wk).elim
      | succ n =>
        have e : j' = j := by omega
        refine ⟨n, Nat.lt_succ_self _, j + 1, m3, rows', tk, by omega, (let ⟨o, nm, qn, ho, r⟩ := hge; ⟨o, nm, qn, keep a2 o (Ne.symm nCa) (Ne.symm nDa) ho, r⟩), ?_, ⟨gs', setGen_at hsz1, hk'' .none _ _ (.inl rfl) wk⟩, c5, m3x, sel5 e, szB, fun r hr => (new5 r hr).elim (fun q => hnew r q) fun q => .inr (Nat.le_trans hB1 q)⟩
        obtain ⟨mc, hnc, hnn⟩ := hlm
        exact ⟨mc, hnc.at' fun o e => keep _ o (Ne.symm nCs) (Ne.symm nDs) e, hnn⟩
    have sk : j' = j → selB cond nm (ys.take (j + 1)) = selB cond nm (ys.take j) ++ (if cond z.2 = true then [(nm, z.1)] else []) := fun e => by
      subst e
      rw [List.take_add_one, hz]
      unfold selB
      rw [List.filter_append, List.map_append]
      cases hcd : cond z.2 <;> simp [hcd]
    refine wpAny_tests_one (htest z.2 t2 _ _ _ _ hn3 m3b hC3.cell ?_)
    cases hcd : cond z.2 with
    | false =>
      simp only [Bool.false_eq_true, if_false]
      refine fin h3 _ rows (fun b o n1 _ e => k3 b o n1 e) hC3 (fun r hr => .inl hr) (Nat.le_trans hB1 hsz3) fun e => ?_
      rw [sk e, hcd]
      simpa using hrows
    | true =>
      simp only [if_true]
      refine wpAny_Tuple_spliced ?_
      rw [hse]
      refine Calls.spliced_cons (wpAny_Name (wpAny_loadName_local (v := .str nm tk) hk hx (by rw [hl]; exact hn3) m3x ?_) hdx)
      refine Calls.spliced_cons (wpAny_Name (wpAny_loadName_local (v := .str z.1 t1) hk ha (by rw [hl]; exact hn3) m3a ?_) hda)
      refine Calls.spliced_nil ⟨by show 2 ≤ sizeLine; decide, ?_⟩
      have newT : ∀ b o, h3.get? b = some o → h3.objs.size ≠ b := fun b o e z => by
        have q := Heap.lt_size e
        rw [← z] at q
        exact absurd q (Nat.lt_irrefl _)
      have up4 : ∀ b o, h3.get? b = some o → (h3.push { cls := .type "tuple", data := .seq #[.str nm tk, .str z.1 t1] }).get? b = some o := fun b o e => Heap.get?_push_of_some _ e
      have T4 : (h3.push { cls := .type "tuple", data := .seq #[.str nm tk, .str z.1 t1] }).get? h3.objs.size = some { cls := .type "tuple", data := .seq #[.str nm tk, .str z.1 t1] } := Heap.get?_push_size _ rfl
      obtain ⟨oC3, _, _, eC3, _, _⟩ := id hC3.ns
      obtain ⟨kD3, eD3⟩ := id hC3.pl
      obtain ⟨ocx, ecx, _⟩ := id hC3.cell
      have len : rows.length < sizeLine := by
        have e1 : rows.length = (pre ++ selB cond nm (ys.take j)).length := by rw [← hrows, List.length_map]
        have e2 : (selB cond nm (ys.take j)).length ≤ N := by
          unfold selB
          rw [List.length_map]
          exact Nat.le_trans (List.length_filter_le _ _) (by rw [List.length_take, hN]; exact Nat.min_le_right _ _)
        rw [e1, List.length_append]
        omega
      have pl4 : (h3.push { cls := .type "tuple", data := .seq #[.str nm tk, .str z.1 t1] }).PlainList D (rows.map Row3.v).toArray := ⟨kD3, up4 _ _ eD3⟩
      refine wpAny_list_append_plain (hsz := by rw [List.size_toArray, List.length_map]; exact Nat.le_of_lt len) pl4 fun h5 hl5 hs5 => ?_
      have up5 : ∀ b o, b ≠ D → h3.get? b = some o → h5.get? b = some o := fun b o n e => hs5.extBut b o n (up4 b o e)
      have nTD : h3.objs.size ≠ D := newT _ _ eD3
      have szT : s₁.heap.objs.size ≤ h3.objs.size := hsz3
      refine fin h5 _ (rows ++ [⟨h3.objs.size, nm, z.1⟩]) (fun b o n1 n2 e => up5 b o n2 (k3 b o n1 e)) ?_ (fun r hr => ?_) (Nat.le_trans hB1 (Nat.le_trans hsz3 (Nat.le_trans (HeapSz.push_size _ _) (Nat.le_of_eq hs5.1.symm)))) fun e => ?_
      · refine ⟨hn3.at' fun o e => up5 C o hc.CD e, by simpa [Row3.v] using hl5, fun r hr => ?_, ⟨ocx, up5 _ _ (Ne.symm hc.Dc) ecx, ‹_›⟩, hc.CD, fun r hr => ?_, ?_, hc.Cc, hc.Dc⟩
        · rcases List.mem_append.mp hr with hr | hr
          · obtain ⟨e1, e2, e3⟩ := hC3.rw_ r hr
            exact ⟨e1, e2, up5 _ _ (hc.RC r hr).2.1 e3⟩
          · rw [List.mem_singleton.mp hr]
            exact ⟨tk, t1, hs5.extBut _ _ nTD T4⟩
        · rcases List.mem_append.mp hr with hr | hr
          · exact hc.RC r hr
          · rw [List.mem_singleton.mp hr]
            exact ⟨newT _ _ eC3, nTD, newT _ _ ecx⟩
        · rw [List.map_append]
          refine List.nodup_append.mpr ⟨hc.nd, List.pairwise_singleton _ _, fun u hu v hv => ?_⟩
          rw [List.mem_singleton.mp (show v ∈ [h3.objs.size] from hv)]
          obtain ⟨r, hr, rfl⟩ := List.mem_map.mp hu
          obtain ⟨e1, e2, e3⟩ := hC3.rw_ r hr
          exact (newT _ _ e3).symm
      · rcases List.mem_append.mp hr with hr | hr
        · exact .inl hr
        · rw [List.mem_singleton.mp hr]
          exact .inr szT
      · rw [sk e, hcd, if_pos rfl, List.map_append, hrows, List.append_assoc]
        rfl
  · intro _ _
    obtain ⟨n0, os1, ba1, _, G, hpin, un, hok, fin⟩ := hF
    have hpin : ∀ p ∈ pf3 C D s.heap, s₁.heap.get? p.1 = some p.2 ∧ G p.1 = none := hpin
    subst n0
    have e : ys.take j = ys := List.take_of_length_le (by omega)
    rw [e] at hrows
    obtain ⟨oc0, hoc0, hdc0⟩ := id hcB
    obtain ⟨sl0, hc1⟩ := un.any hoc0 hcH cnot
    have hC1 : Cons s₁.heap C D c vc m rows := hc.stay (fun p hp => (hpin p hp).1) ⟨_, hc1, hdc0⟩
    have hC2 : Cons h' C D c vc m rows := hC1.stay (fun p hp => hkp _ _ (pf3_mem hC1.pl hp).1) ⟨_, hkp _ _ hc1, hdc0⟩
    refine done _ m rows G os1 (allBare_setGen ba1 rfl) (un.trans (Un.kept hkp)) (hok.kept hkp) (fun p hp => ?_) fin hC2 hrows hnew
    rcases (pf3_mem hC2.pl hp).2 with q | q | ⟨r, hr, q⟩
    · obtain ⟨o, _, _, ho, _⟩ := hc.ns
      rw [q]; exact (hpin _ (pf3_C ho)).2
    · obtain ⟨k, e⟩ := hc.pl
      rw [q]; exact (hpin _ (pf3_D e)).2
    · obtain ⟨e1, e2, e3⟩ := hc.rw_ r hr
      rw [q]; exact (hpin _ (pf3_R hc.pl hr e3)).2
end
end GenE
end

-- GenE7
section
set_option Elab.async false
set_option linter.all false
set_option maxRecDepth 100000
set_option maxHeartbeats 2000000
/-! the outer loop. -/
namespace GenE
open PySem PySem.Spec PyProof.Rows L2 GenW GenFor
def selA (cond : Str → Bool) (xs : List (Str × Addr × List (Str × Str))) : List (Str × Str) := xs.flatMap fun x => selB cond x.1 x.2.2
theorem un_then {fs : List Addr} {H G : Hp} {h h1 h2 : Heap} {C : Addr} (u : Un fs [] H G h h1) (hC : h.objs.size ≤ C) (k : ∀ b o, b ≠ C → h1.get? b = some o → h2.get? b = some o) : Un fs [] H G h h2 := by
  have ne : ∀ b o, h.get? b = some o → b ≠ C := fun b o e => Nat.ne_of_lt (Nat.lt_of_lt_of_le (Heap.lt_size e) hC)
  refine ⟨fun b o e n hb hx => k b o (ne b o e) (u.keep b o e n hb hx), fun b o e n hb hx => ?_, u.free, fun b o e hx => ?_, u.tups, u.frzs, u.tbls⟩
  · obtain ⟨sl, e1⟩ := u.slot b o e n hb hx
    exact ⟨sl, k b _ (ne b o e) e1⟩
  · obtain ⟨o', e1⟩ := u.there b o e hx
    exact ⟨o', k b o' (ne b o e) e1⟩
section
variable {X : Cx} {pins : List (Addr × Obj)} {σ : L2.St} {H : Hp} {sB : Shared} {C D a1 c f2 : Addr} {vc : Option Value} {g N k2 : Nat} {Ab : Nat → Hp → V → Prop} {Fin : Hp → Prop} {x y a b m2 : Str} {q1 q2 qt qy p0 p1 p2 p3 pt0 pt pos pos2 apos : Pos} {scope : Scope} {i0 tst : Expr} {ce : Env} {R : Result → Shared → Prop} {xs : List (Str × Addr × List (Str × Str))} {cond : Str → Bool} {kt kt0 ke : Nat} {fd2 : FuncData} {ps2 : List Str} {sp2 : SpE} {S : Addr → Prop}
/-- the pairs of an inner generator, from the heap G on -/
def InAb (G : Hp) (ys : List (Str × Str)) : Nat → Hp → V → Prop := fun j G' yv => (∀ b u, G b = some u → G' b = some u) ∧ ∃ T z, yv = .ref T ∧ ys[j]? = some z ∧ G' T = some (.tup [.str z.1, .str z.2])
def InFin (G : Hp) : Hp → Prop := fun G' => ∀ b u, G b = some u → G' b = some u
/-- what an item of the outer generator is -/
def OutAb (xs : List (Str × Addr × List (Str × Str))) (S : Addr → Prop) (m2 : Str) (sp2 : SpE) (Ab : Nat → Hp → V → Prop) : Prop := ∀ i G yv, Ab i G yv → ∃ T z, yv = .ref T ∧ xs[i]? = some z ∧ G T = some (.tup [.str z.1, .ref z.2.1]) ∧
  ∃ C' dx fs, G z.2.1 = some (.ins C' dx fs) ∧ S C' ∧ fs.lookup m2 = none ∧ sp2 [.ref z.2.1] G z.2.2.length (InAb G z.2.2) (InFin G)
def OutV (X : Cx) (H : Hp) (sB : Shared) (C D a1 c : Addr) (vc : Option Value) (g N : Nat) (Ab : Nat → Hp → V → Prop) (Fin : Hp → Prop) (xs : List (Str × Addr × List (Str × Str))) (cond : Str → Bool) (n : Nat) (s : Shared) : Prop :=
  ∃ (i : Nat) (m : Str → Option Value) (rows : List Row3), i + n = N ∧ s.heap.IsGen a1 g ∧ s.heap.NoLimit ∧ (∃ gs, s.gens[g]? = some gs ∧ gs.Goes (model X.prog X.w) X.A.in1 (RE X.prog X.w False X.stack [] H sB (pf3 C D) Fin) (YE X.prog X.w False X.stack [] H sB (pf3 C D) a1 g N Ab) n (.send .none) (s.setGen g .running)) ∧
    Cons s.heap C D c vc m rows ∧ rows.map Row3.p = selA cond (xs.take i) ∧ sB.heap.objs.size ≤ s.heap.objs.size ∧ ∀ r ∈ rows, sB.heap.objs.size ≤ r.T
theorem comp_out {pl : Sem Bool} (hc : X.calm = true) (I1 : Inv X pins σ H sB) (hr : Room (k2 + 1) X.A) (hl : ce.locals = C) (hk : ce.scope.kind = .function) (hx : ce.kindOf x = some .local) (hy : ce.kindOf y = some .local) (ha : ce.kindOf a = some .local) (hb : ce.kindOf b = some .local) (hxy : x ≠ y) (hab : a ≠ b) (hxa : x ≠ a) (hxb : x ≠ b)
    (hp : (ce.scope.kind == .class || (ce.scope.kind == .module && ce.locals != ce.globals)) = false) (hdx : (x == ("__debug__" : Str)) = false) (hdy : (y == ("__debug__" : Str)) = false) (hda : (a == ("__debug__" : Str)) = false)
    (nCa : C ≠ a1) (nDa : D ≠ a1) (hCs : sB.heap.objs.size ≤ C) (hDs : sB.heap.objs.size ≤ D) (hsz : ∀ i z, xs[i]? = some z → (selA cond (xs.take i)).length + z.2.2.length < sizeLine) (hN : xs.length = N) (hO : OutAb xs S m2 sp2 Ab)
    (hcB : sB.heap.IsCell c vc) (hcH : H c = none) (ha1 : sB.heap.objs.size ≤ a1)
    (cS : ∀ C, S C → Cls X.K C ∧ Meth X.K C m2 f2) (F2 : GFnE X.prog X.w X.K X.mg X.base k2 False f2 fd2 ps2 sp2) (len2 : ∀ vs H n Ab Fin, sp2 vs H n Ab Fin → vs.length = ps2.length) (b2 : Binds X.K fd2 ps2 [])
    (ht2 : eval (.Call (.Attribute (.Name y qy) m2 apos) [] [] pos2) ce = (do
      let ov ← eval (.Name y qy) ce
      standAt apos.atName
      let (f, first) ← holding [ov] (getMethod ov m2 pl)
      callWith pos2 f first (backTo pos2 (starEach [] ce)) (backToKw pos2 (keywordEach [] ce)))) (hs1 : ∀ v, foldedSetIterable (.Call (.Attribute (.Name y qy) m2 apos) [] [] pos2) ce v = pure v)
    (htest : ∀ (bv : Str) (t : Tok) (s : Shared) (m : Str → Option Value) (Q : Bool → Shared → Prop) (E : Value → Shared → Prop), s.heap.Ns C m → m b = some (.str bv t) → s.heap.IsCell c vc → Q (cond bv) s → wpAny (model X.prog X.w) X.A (isTrue tst ce (eval tst ce)) Q E s)
    (has0 : (assignEach [Expr.Name x p0, Expr.Name y p3] ce).map (·.2) = [assign (.Name x p0) ce, assign (.Name y p3) ce]) (hst0 : (assignEach [Expr.Name x p0, Expr.Name y p3] ce).findIdx? (·.1) = none)
    (has : (assignEach [Expr.Name a p1, Expr.Name b p2] ce).map (·.2) = [assign (.Name a p1) ce, assign (.Name b p2) ce]) (hst : (assignEach [Expr.Name a p1, Expr.Name b p2] ce).findIdx? (·.1) = none)
    (hse : ∀ pos, backTo pos (starEach [Expr.Name x q1, Expr.Name a q2] ce) = [(false, eval (.Name x q1) ce), (false, eval (.Name a q2) ce)])
    (done : ∀ s' m rows G, s'.os = sB.os → AllBare s'.gens → Un (frs X.stack) [] H G sB.heap s'.heap → HOk X.prog X.w G s'.heap → (∀ p ∈ pf3 C D s'.heap, G p.1 = none) → Fin G → Cons s'.heap C D c vc m rows → rows.map Row3.p = selA cond xs → (∀ r ∈ rows, sB.heap.objs.size ≤ r.T) → R (.ok .next) s')
    (n : Nat) {s : Shared} (h : OutV X H sB C D a1 c vc g N Ab Fin xs cond n s) :
    codeAny (model X.prog X.w) X.A (.compLoop (.ListComp (.Tuple [.Name x q1, .Name a q2] ke qt) [⟨.Tuple [.Name x p0, .Name y p3] kt0 pt0, i0, [], 0⟩, ⟨.Tuple [.Name a p1, .Name b p2] kt pt, .Call (.Attribute (.Name y qy) m2 apos) [] [] pos2, [tst], 0⟩] scope pos) 0 (.ref a1) (.ref D) ce) R s := by
  have hh := I1.ok.hd hc
  have stat : cStatics < sB.heap.objs.size := by
    obtain ⟨mc, hns, _⟩ := I1.nolimit
    exact hns.lt
  have nCs : C ≠ cStatics := Nat.ne_of_gt (Nat.lt_of_lt_of_le stat hCs)
  have nDs : D ≠ cStatics := Nat.ne_of_gt (Nat.lt_of_lt_of_le stat hDs)
  have nfr : ∀ z, sB.heap.objs.size ≤ z → z ∉ frs X.stack := fun z hz m => by
    obtain ⟨_, o, ho, _⟩ := I1.stack.mem m
    exact absurd (Nat.lt_of_lt_of_le (Heap.lt_size ho) hz) (Nat.lt_irrefl _)
  have baz : ∀ z, sB.heap.objs.size ≤ z → X.base.objs.size ≤ z := fun z hz => Nat.le_trans (Nat.le_trans I1.ok.bsz I1.sz) hz
  refine compLoop2_out hs1 (fun n s => OutV X H sB C D a1 c vc g N Ab Fin xs cond n s) ?_ n h
  rintro n s ⟨i, m, rows, hi, hg, hlim, ⟨gs, hgs, hgo⟩, hK, hrows, hB, hnew⟩
  have hgl : g < s.gens.size := (Array.getElem?_eq_some_iff.mp hgs).1
  refine HeapSz.wpAny_hsz (n := sB.heap.objs.size) hB ?_
  refine wpAny_gsz (n := g + 1) hgl (next_genG hh hlim hr.depth hg hgs (F := FE X.prog X.w False X.stack [] H sB (pf3 C D) Fin) (Er := fun _ _ => False) (Y := YE X.prog X.w False X.stack [] H sB (pf3 C D) a1 g N Ab) hgo (fun v s₁ gs' hbare hv => ?_) (fun s₁ hF h' hkp => ?_) fun e s₁ he => he.elim)
  · intro hsz' hB1
    have hB1 : sB.heap.objs.size ≤ s₁.heap.objs.size := hB1
    obtain ⟨i', G, yv, hi', ry, ab, hos, hba, hlm, ⟨hge, gA⟩, hpin, un, hok, _, hk'⟩ := hv
    have hpin : ∀ p ∈ pf3 C D s.heap, s₁.heap.get? p.1 = some p.2 ∧ G p.1 = none := hpin
    have hk'' := hk'
    have hsz1 : g < s₁.gens.size := by
      have q : (s₁.setGen g gs').gens.size = s₁.gens.size := setGen_size _ _ _
      have hsz'' : g + 1 ≤ (s₁.setGen g gs').gens.size := hsz'
      omega
    obtain ⟨oc0, hoc0, hdc0⟩ := id hcB
    obtain ⟨sl0, hc1⟩ := un.any hoc0 hcH (by simp)
    have hC1 : Cons s₁.heap C D c vc m rows := hK.stay (fun p hp => (hpin p hp).1) ⟨_, hc1, hdc0⟩
    obtain ⟨T, z, rfl, hz, hT, C', dxq, fsq, hq, hS, hlk, hsp⟩ := hO _ _ _ ab
    cases ry
    obtain ⟨u1, u2, ht, r1, r2⟩ := isTup_of hok hT
    obtain ⟨t1, rfl⟩ := r1
    cases r2
    obtain ⟨ogn, nmq, qn, hgo1, hgc, hgd, _⟩ := id hge
    refine go_of (s := s₁.setGen g gs') (n := "generator") hgo1 hgc hgd (by decide) ?_
    refine HeapSz.wpAny_hsz (n := s₁.heap.objs.size) (s := s₁.setGen g gs') (Nat.le_refl _) ?_
    refine assign_Tuple_tuple (s := s₁.setGen g gs') hh ht (by rw [← List.length_map (f := (·.2)), has0]; rfl) hst0 fun h1 hx1 => ?_
    rw [has0]
    have k1 : ∀ b o, s₁.heap.get? b = some o → h1.get? b = some o := fun b o e => hx1 b o (Nat.ne_of_lt (Heap.lt_size e)) e
    refine assignInOrder_cons (wpAny_assign_Name (wpAny_storeName_local (m := m) hx (by rw [hl]; exact hC1.ns.at' fun o e => k1 _ _ e) (fun h2 hn2 hs2 => ?_) hp))
    refine assignInOrder_cons (wpAny_assign_Name (wpAny_storeName_local (m := _) hy hn2 (fun h3 hn3 hs3 => ?_) hp))
    refine assignInOrder_nil ?_
    intro hsz3
    have hsz3 : s₁.heap.objs.size ≤ h3.objs.size := hsz3
    rw [hl] at hn3 hs2 hs3
    have k3 : ∀ b o, b ≠ C → s₁.heap.get? b = some o → h3.get? b = some o := fun b o n e => hs3.extBut b o n (hs2.extBut b o n (k1 b o e))
    generalize hm3 : (fun z_1 => if z_1 = y then some (Value.ref z.2.1) else (fun x_1 => if x_1 = x then some (Value.str z.1 t1) else m x_1) z_1) = m3 at hn3
    have m3x : m3 x = some (.str z.1 t1) := by rw [← hm3]; show (if x = y then _ else if x = x then _ else m x) = _; rw [if_neg hxy, if_pos rfl]
    have m3y : m3 y = some (.ref z.2.1) := by rw [← hm3]; exact if_pos rfl
    have cC : c ≠ C := Ne.symm hK.Cc
    have hC3 : Cons h3 C D c vc m3 rows := by
      obtain ⟨kD, eD⟩ := hC1.pl
      refine ⟨hn3, ⟨kD, k3 D _ (Ne.symm hK.CD) eD⟩, fun r hr => ?_, ⟨_, k3 c _ cC hc1, hdc0⟩, hK.CD, hK.RC, hK.nd, hK.Cc, hK.Dc⟩
      obtain ⟨e1, e2, e3⟩ := hC1.rw_ r hr
      exact ⟨e1, e2, k3 _ _ (hK.RC r hr).1 e3⟩
    refine wpAny_tests_nil ?_
    rw [if_pos rfl]
    -- what the generator knows of the consumer's objects
    have gC : G C = none := by obtain ⟨o, _, _, ho, _⟩ := hK.ns; exact (hpin _ (pf3_C ho)).2
    have gD : G D = none := by obtain ⟨k, e⟩ := hK.pl; exact (hpin _ (pf3_D e)).2
    have inC : C ∈ (pf3 C D s.heap).map (·.1) := by obtain ⟨o, _, _, ho, _⟩ := hK.ns; exact List.mem_map.mpr ⟨_, pf3_C ho, rfl⟩
    have inD : D ∈ (pf3 C D s.heap).map (·.1) := by obtain ⟨k, e⟩ := hK.pl; exact List.mem_map.mpr ⟨_, pf3_D e, rfl⟩
    have gR : ∀ r ∈ rows, G r.T = none ∧ r.T ∈ (pf3 C D s.heap).map (·.1) := fun r hr => by
      obtain ⟨e1, e2, e3⟩ := hK.rw_ r hr
      exact ⟨(hpin _ (pf3_R hK.pl hr e3)).2, List.mem_map.mpr ⟨_, pf3_R hK.pl hr e3, rfl⟩⟩
    -- the turn's end, from the heap behind the inner loop
    have woke : ∀ (s' : Shared) (G' : Hp) (m' : Str → Option Value) (rows' : List Row3), s'.os = s₁.os → AllBare s'.gens → Un (frs X.stack) ((pf3 C D s.heap).map (·.1)) G G' s₁.heap s'.heap → HOk X.prog X.w G' s'.heap → (∀ b u, G b = some u → G' b = some u) → Cons s'.heap C D c vc m' rows' → (∀ p ∈ pf3 C D s'.heap, G' p.1 = none) → (∀ r ∈ rows', r ∈ rows ∨ s₁.heap.objs.size ≤ r.T) →
        ∃ n', n = n' + 1 ∧ gs'.Goes (model X.prog X.w) X.A.in1 (RE X.prog X.w False X.stack [] H sB (pf3 C D) Fin) (YE X.prog X.w False X.stack [] H sB (pf3 C D) a1 g N Ab) n' (.send .none) (s'.setGen g .running) ∧ ∃ k l cc pp fs cl, gs' = .suspended k l cc pp fs cl := by
      intro s' G' m' rows' o1 b1 u1 h1 e1 c1 p1 n1
      have wk : WokeG X.prog X.w (frs X.stack) (pf3 C D (s.setGen g .running).heap) (pf3 C D (s'.setGen g .running).heap) G G' s₁ (s'.setGen g .running) := by
        refine ⟨o1, allBare_setGen b1 rfl, u1, h1, e1, fun p hp' => ?_⟩
        have hp' : p ∈ pf3 C D s'.heap := hp'
        obtain ⟨e, wh⟩ := pf3_mem c1.pl hp'
        refine ⟨e, c1.noncell hp', p1 p hp', ?_⟩
        rcases wh with wh | wh | ⟨r, hr, wh⟩
        · rw [wh]; exact .inl inC
        · rw [wh]; exact .inl inD
        · rw [wh]
          rcases n1 r hr with q | q
          · exact .inl (gR r q).2
          · exact .inr q
      cases n with
      | zero => exact (hk'' .none _ _ (.inl rfl) wk).elim
      | succ n' =>
        have g1 := hk'' .none _ _ (.inl rfl) wk
        have g2 := hk'' (.bool true) _ _ (.inr rfl) wk
        refine ⟨n', rfl, g1, ?_⟩
        cases gs' with
        | fresh cc => exact absurd g2.1 (by intro z; cases z)
        | suspended k l cc pp fs cl => exact ⟨_, _, _, _, _, _, rfl⟩
        | running => exact False.elim g1
        | finished => exact False.elim g1
    have pf1 : ∀ p ∈ pf3 C D s₁.heap, G p.1 = none := fun p hp' => by
      rcases (pf3_mem hC1.pl hp').2 with q | q | ⟨r, hr, q⟩
      · rw [q]; exact gC
      · rw [q]; exact gD
      · rw [q]; exact (gR r hr).1
    obtain ⟨n', rfl, _, _⟩ := woke s₁ G m rows rfl hba Un.refl hok (fun _ _ e => e) hC1 pf1 (fun r hr => .inl hr)
    have ei : i' = i := by omega
    subst ei
    obtain ⟨ux, hok3⟩ := un_keep (P := X.prog) (w := X.w) (fs := frs X.stack) (ch := [C]) (G := G) (h := s₁.heap) (h' := h3) (fun b o hb e => k3 b o (fun q => hb (by simp [q])) e) (fun b hb => by rw [List.mem_singleton.mp hb]; exact gC) hok
    -- the inner generator
    generalize hs3' : ({ s₁.setGen g gs' with heap := h3, toks := _ } : Shared) = s3
    have e3h : s3.heap = h3 := by rw [← hs3']
    have e3g : s3.gens = (s₁.setGen g gs').gens := by rw [← hs3']
    have e3o : s3.os = s₁.os := by rw [← hs3']; rfl
    have bare3 : AllBare s3.gens := by rw [e3g]; exact allBare_setGen hba hbare
    have I3 : Inv X pins σ G s3 := I1.call' (ch := []) (e3o.trans hos) (by rw [e3h]; exact un_then un hCs k3) (by rw [e3h]; exact hok3) bare3 fun b z => by simp at z
    refine PySem.W.methodCall_KW (pl := pl) (wpAny_Name (wpAny_loadName_local (v := .ref z.2.1) hk hy (by rw [hl, e3h]; exact hn3) m3y ?_) hdy) ht2
    refine getmeth_ok I3 hq (cS C' hS).1 (cS C' hS).2 hlk ?_
    refine PySem.W.callWith_K0 (first := [.ref z.2.1]) I3.kIn (cS C' hS).2.kp ?_
    have hl2 : ([Value.ref z.2.1] ++ []).length = ps2.length := len2 _ _ _ _ _ hsp
    refine wpAny_call (codeAny_mono (F2 X.A X.stack s3 G ⟨[.ref z.2.1], []⟩ ([Value.ref z.2.1] ++ []) [V.ref z.2.1] _ _ _ (hr.mono (Nat.le_succ _)) I3.env0 (b2 s3 [Value.ref z.2.1] I3.kIn hl2) (.cons rfl .nil) hsp) fun r s4 q4 => ?_)
    cases r with
    | error e => exact False.elim q4
    | ok fl =>
      cases fl with
      | next => exact False.elim q4
      | brk => exact False.elim q4
      | cont => exact False.elim q4
      | ret u =>
        obtain ⟨a2, c2, rfl, ha2, ha2', hgen2, hgens2, os2, ba2, lim2, kp2, seg⟩ := q4
        refine wpAny_pyIter_gen hgen2 ?_
        have lt3 : ∀ b o, h3.get? b = some o → b < s3.heap.objs.size := fun b o e => by rw [e3h]; exact Heap.lt_size e
        obtain ⟨oC3, _, _, eC3, _, _⟩ := id hC3.ns
        obtain ⟨kD3, eD3⟩ := id hC3.pl
        obtain ⟨ocx, ecx, dcx⟩ := id hC3.cell
        have kp3 : ∀ b o, h3.get? b = some o → s4.heap.get? b = some o := fun b o e => kp2 b o (by rw [e3h]; exact e)
        have hC4 : Cons s4.heap C D c vc m3 rows := hC3.stay (fun p hp' => kp3 _ _ (pf3_mem hC3.pl hp').1) ⟨_, kp3 _ _ ecx, dcx⟩
        have gc0 : G c = none := un.free c _ hoc0 hcH (by simp)
        have szs : s3.heap.objs.size ≤ s4.heap.objs.size := Nat.le_trans ha2 (Nat.le_of_lt ha2')
        -- its loop, the outer one stuck
        have loop : codeAny (model X.prog X.w) X.A (.compLoop (.ListComp (.Tuple [.Name x q1, .Name a q2] ke qt) [⟨.Tuple [.Name x p0, .Name y p3] kt0 pt0, i0, [], 0⟩, ⟨.Tuple [.Name a p1, .Name b p2] kt pt, .Call (.Attribute (.Name y qy) m2 apos) [] [] pos2, [tst], 0⟩] scope pos) 1 (.ref a2) (.ref D) ce)
            (fun r s' => match r with
              | .ok _ => s'.os = s3.os ∧ AllBare s'.gens ∧ ∃ m' rows' G', Un (frs X.stack) (C :: D :: rows.map Row3.T) G G' s3.heap s'.heap ∧ HOk X.prog X.w G' s'.heap ∧ (∀ p ∈ pf3 C D s'.heap, G' p.1 = none) ∧ (∀ b u, G b = some u → G' b = some u) ∧ Cons s'.heap C D c vc m' rows' ∧ rows'.map Row3.p = selA cond (xs.take i') ++ selB cond z.1 z.2.2 ∧ ∀ r ∈ rows', r ∈ rows ∨ s3.heap.objs.size ≤ r.T
              | .error _ => False) { s4 with gens := s4.gens.map FrameG.stuck } := by
          refine comp_in (H := G) (sB := s3) (outer := X.stack) (g := s3.gens.size) (N := z.2.2.length) (Ab := InAb G z.2.2) (Fin := InFin G) (nm := z.1) (ys := z.2.2) (cond := cond) (pre := selA cond (xs.take i')) (ex := C :: D :: rows.map Row3.T) (rows0 := rows) (vc := vc) hh hr.depth hl hk hx ha hb hab hxa hxb hp hdx hda
            (fun q => ?_) (fun q => ?_) nCs nDs (hsz _ _ hz) rfl (fun j G' yv h => ⟨h.2.choose, h.2.choose_spec.choose, h.2.choose_spec.choose_spec⟩) (by rw [e3h]; exact hC3.cell) gc0 (fun q => ?_) htest has hst hse (fun s' m' rows' G' o1 b1 u1 h1 p1 f1 c1 r1 n1 => ⟨o1, b1, m', rows', G', u1, h1, p1, f1, c1, r1, n1⟩) z.2.2.length ?_
          · rw [q] at eC3
            exact absurd (lt3 _ _ eC3) (Nat.not_lt.mpr ha2)
          · rw [q] at eD3
            exact absurd (lt3 _ _ eD3) (Nat.not_lt.mpr ha2)
          · rcases List.mem_cons.mp q with q | q
            · exact hK.Cc q.symm
            · rcases List.mem_cons.mp q with q | q
              · exact hK.Dc q.symm
              · obtain ⟨r, hr, q⟩ := List.mem_map.mp q
                exact (hK.RC r hr).2.2 q
          · have bareS : AllBare (s4.gens.map FrameG.stuck) := fun y hy => by
              obtain ⟨w0, hw0, rfl⟩ := Array.mem_map.mp hy
              have q := ba2 w0 hw0
              cases w0 <;> exact q
            refine ⟨0, m3, rows, t1, Nat.zero_add _, hgen2, lim2, ⟨.fresh c2, ?_, rfl, ?_⟩, hC4, m3x, ?_, szs, fun r hr => .inl hr⟩
            · show (s4.gens.map FrameG.stuck)[s3.gens.size]? = _
              rw [hgens2, Array.getElem?_map, Array.getElem?_push_size]
              rfl
            · refine seg X.A.in1 (C :: D :: rows.map Row3.T) (pf3 C D) _ hr.in1 I1.ok.frames (fun b hb => ?_) (fun p hp' => ?_) (fun b o e => e) os2 (allBare_setGen bareS rfl)
              · rcases List.mem_cons.mp hb with q | q
                · rw [q]; exact ⟨baz _ hCs, lt3 _ _ eC3, nfr _ hCs, gC⟩
                · rcases List.mem_cons.mp q with q | q
                  · rw [q]; exact ⟨baz _ hDs, lt3 _ _ eD3, nfr _ hDs, gD⟩
                  · obtain ⟨r, hr, rfl⟩ := List.mem_map.mp q
                    obtain ⟨e1, e2, e3⟩ := hC3.rw_ r hr
                    exact ⟨baz _ (hnew r hr), lt3 _ _ e3, nfr _ (hnew r hr), (gR r hr).1⟩
              · have hp' : p ∈ pf3 C D s4.heap := hp'
                obtain ⟨e, wh⟩ := pf3_mem hC4.pl hp'
                refine ⟨.inl ?_, e, hC4.noncell hp'⟩
                rcases wh with q | q | ⟨r, hr, q⟩
                · rw [q]; exact List.mem_cons_self
                · rw [q]; exact List.mem_cons_of_mem _ List.mem_cons_self
                · rw [q]; exact List.mem_cons_of_mem _ (List.mem_cons_of_mem _ (List.mem_map.mpr ⟨r, hr, rfl⟩))
            · rw [hrows, List.take_zero]
              unfold selB
              rw [List.filter_nil, List.map_nil, List.append_nil]
        have loop2 : codeAny (model X.prog X.w) X.A (.compLoop (.ListComp (.Tuple [.Name x q1, .Name a q2] ke qt) [⟨.Tuple [.Name x p0, .Name y p3] kt0 pt0, i0, [], 0⟩, ⟨.Tuple [.Name a p1, .Name b p2] kt pt, .Call (.Attribute (.Name y qy) m2 apos) [] [] pos2, [tst], 0⟩] scope pos) 1 (.ref a2) (.ref D) ce)
            (fun r s' => match r with
              | .ok _ => ∃ m', m' < n' + 1 ∧ OutV X H sB C D a1 c vc g N Ab Fin xs cond m' s'
              | .error _ => False) s4 := by
          refine codeAny_mono (HeapSz.codeAny_hsz (FrameG.codeAny_frame loop)) fun r s' q => ?_
          obtain ⟨sz5, gx, rel, q⟩ := q
          cases r with
          | error e => exact q.elim
          | ok fl =>
            obtain ⟨o5, b5, m5, rows5, G5, u5, h5, p5, f5, c5, r5, n5⟩ := q
            have bare5 : AllBare s'.gens := rel.bare b5
            have un5 : Un (frs X.stack) ((pf3 C D s.heap).map (·.1)) G G5 s₁.heap s'.heap := by
              have ua : Un (frs X.stack) (C :: D :: rows.map Row3.T) G G s₁.heap s3.heap := by rw [e3h]; exact ux.mono (fun b hb => hb) fun b hb => by rw [List.mem_singleton.mp hb]; exact List.mem_cons_self
              refine (ua.trans u5).mono (fun b hb => hb) fun b hb => ?_
              rcases List.mem_cons.mp hb with q | q
              · rw [q]; exact inC
              · rcases List.mem_cons.mp q with q | q
                · rw [q]; exact inD
                · obtain ⟨r, hr, rfl⟩ := List.mem_map.mp q
                  exact (gR r hr).2
            have szr : ∀ r ∈ rows5, r ∈ rows ∨ s₁.heap.objs.size ≤ r.T := fun r hr => (n5 r hr).imp id fun q => Nat.le_trans hsz3 (by rw [e3h] at q; exact q)
            obtain ⟨n2, en, goes, ksus, lsus, ccs, pps, fss, cls, egs⟩ := woke s' G5 m5 rows5 (o5.trans e3o) bare5 un5 h5 f5 c5 p5 szr
            have en2 : n2 = n' := by omega
            subst en2
            have sleep := rel.sleep (s := s4) (s' := s') g ksus lsus ccs pps fss cls (by
              rw [hgens2, Array.getElem?_push_lt (by rw [e3g, setGen_size]; exact hsz1), ← Array.getElem?_eq_getElem, e3g, setGen_at hsz1, egs])
            rw [← egs] at sleep
            have nch : ∀ b o, sB.heap.get? b = some o → b ∉ (pf3 C D s.heap).map (·.1) := fun b o e q => by
              have lt := Heap.lt_size e
              obtain ⟨p, hp', q⟩ := List.mem_map.mp q
              have ge : sB.heap.objs.size ≤ p.1 := by
                rcases (pf3_mem hK.pl hp').2 with w | w | ⟨r, hr, w⟩
                · rw [w]; exact hCs
                · rw [w]; exact hDs
                · rw [w]; exact hnew r hr
              rw [q] at ge
              exact absurd (Nat.lt_of_lt_of_le lt ge) (Nat.lt_irrefl _)
            have I5 : Inv X pins σ G5 s' := I1.call' (ch := []) ((o5.trans e3o).trans hos) (by
              refine ⟨fun b o e nb hb hx => un5.keep b o (un.keep b o e nb hb hx) (un.free b o e nb hx) hb (nch b o e), fun b o e nb hb hx => ?_, fun b o e nb hx => ?_, fun b o e hx => ?_, fun b q e => u5.tups b q (un.tups b q e), fun b o q e => u5.frzs b o q (un.frzs b o q e), fun b q e => ?_⟩
              · obtain ⟨s1, e1⟩ := un.slot b o e nb hb hx
                obtain ⟨s2, e2⟩ := un5.slot b _ e1 (un.free b o e nb hx) hb (nch b o e)
                exact ⟨s2, e2⟩
              · obtain ⟨o1, e1⟩ := un.there b o e hx
                exact un5.free b o1 e1 (un.free b o e nb hx) (nch b o e)
              · obtain ⟨o1, e1⟩ := un.there b o e hx
                exact un5.there b o1 e1 (nch b o e)
              · obtain ⟨m1, e1⟩ := un.tbls b q e
                obtain ⟨m2, e2⟩ := u5.tbls b _ e1
                exact ⟨m1 ++ m2, by rw [e2, Array.append_assoc]⟩) h5 bare5 fun b z => by simp at z
            refine ⟨n2, Nat.lt_succ_self _, i' + 1, m5, rows5, by omega, ?_, I5.nolimit, ⟨gs', sleep, goes⟩, c5, ?_, ?_, fun r hr => ?_⟩
            · obtain ⟨og, nm1, qn1, ho1, hr1⟩ := hge
              exact ⟨og, nm1, qn1, un5.keep a1 og ho1 gA (nfr _ ha1) (fun q => by
                obtain ⟨p, hp', q⟩ := List.mem_map.mp q
                rcases (pf3_mem hK.pl hp').2 with w | w | ⟨r, hr, w⟩
                · exact nCa (w.symm.trans q)
                · exact nDa (w.symm.trans q)
                · obtain ⟨e1, e2, e3⟩ := hC1.rw_ r hr
                  rw [w] at q
                  rw [q, ho1] at e3
                  have z := hr1.1
                  rw [Option.some.inj e3] at z
                  exact absurd (Value.type.inj z) (by decide)), hr1⟩
            · rw [r5]
              unfold selA
              rw [List.take_add_one, hz, List.flatMap_append]
              simp
            · refine Nat.le_trans hB1 (Nat.le_trans hsz3 ?_)
              rw [← e3h]
              exact Nat.le_trans szs sz5
            · rcases n5 r hr with q | q
              · exact hnew r q
              · exact Nat.le_trans hB1 (Nat.le_trans hsz3 (by rw [e3h] at q; exact q))
        exact compStart1_ok loop2 (wpAny_pyIter_gen hgen2 loop2)
  · intro _ _
    obtain ⟨n0, os1, ba1, _, G, hpin, un, hok, fin⟩ := hF
    have hpin : ∀ p ∈ pf3 C D s.heap, s₁.heap.get? p.1 = some p.2 ∧ G p.1 = none := hpin
    subst n0
    have e : xs.take i = xs := List.take_of_length_le (by omega)
    rw [e] at hrows
    obtain ⟨oc0, hoc0, hdc0⟩ := id hcB
    obtain ⟨sl0, hc1⟩ := un.any hoc0 hcH (by simp)
    have hC1 : Cons s₁.heap C D c vc m rows := hK.stay (fun p hp => (hpin p hp).1) ⟨_, hc1, hdc0⟩
    have hC2 : Cons h' C D c vc m rows := hC1.stay (fun p hp => hkp _ _ (pf3_mem hC1.pl hp).1) ⟨_, hkp _ _ hc1, hdc0⟩
    refine done _ m rows G os1 (allBare_setGen ba1 rfl) (un.trans (Un.kept hkp)) (hok.kept hkp) (fun p hp => ?_) fin hC2 hrows hnew
    rcases (pf3_mem hC2.pl hp).2 with q | q | ⟨r, hr, q⟩
    · obtain ⟨o, _, _, ho, _⟩ := hK.ns
      rw [q]; exact (hpin _ (pf3_C ho)).2
    · obtain ⟨k, e⟩ := hK.pl
      rw [q]; exact (hpin _ (pf3_D e)).2
    · obtain ⟨e1, e2, e3⟩ := hK.rw_ r hr
      rw [q]; exact (hpin _ (pf3_R hK.pl hr e3)).2
end
end GenE
end

-- GenE8
section
set_option Elab.async false
set_option linter.all false
set_option maxRecDepth 100000
set_option maxHeartbeats 2000000
/-! [(x, a) for x, y in o.m() for a, b in y.m2() if b op w] as a value. -/
namespace GenE
open PySem PySem.Spec PyProof.Rows L2 GenW GenFor
/-- the rows' tuples tracked -/
def trk (G : Hp) : List Row3 → Hp
  | [] => G
  | r :: rs => upd (trk G rs) r.T (.tup [.str r.x, .str r.a])
theorem trk_ne {G : Hp} {z : Addr} : ∀ {rows : List Row3}, (∀ r ∈ rows, r.T ≠ z) → trk G rows z = G z
  | [], _ => rfl
  | r :: rs, h => by
    show upd (trk G rs) r.T _ z = _
    rw [upd_ne (Ne.symm (h r List.mem_cons_self))]
    exact trk_ne fun q hq => h q (List.mem_cons_of_mem _ hq)
theorem trk_at {G : Hp} : ∀ {rows : List Row3}, (rows.map Row3.T).Nodup → ∀ r ∈ rows, trk G rows r.T = some (.tup [.str r.x, .str r.a])
  | q :: rs, nd, r, hr => by
    obtain ⟨n1, n2⟩ := List.nodup_cons.mp (show (q.T :: rs.map Row3.T).Nodup from nd)
    rcases List.mem_cons.mp hr with e | e
    · rw [e]; exact upd_same
    · show upd (trk G rs) q.T _ r.T = _
      rw [upd_ne (fun z => n1 (by rw [← z]; exact List.mem_map.mpr ⟨r, e, rfl⟩))]
      exact trk_at n2 r e
theorem trk_ok {P : Program} {w : World} {G : Hp} {h : Heap} (hok : HOk P w G h) : ∀ {rows : List Row3}, (rows.map Row3.T).Nodup → (∀ r ∈ rows, RowAt h r) → (∀ r ∈ rows, G r.T = none) → HOk P w (trk G rows) h
  | [], _, _, _ => hok
  | r :: rs, nd, ra, gn => by
    obtain ⟨n1, n2⟩ := List.nodup_cons.mp (show (r.T :: rs.map Row3.T).Nodup from nd)
    have ih := trk_ok hok (rows := rs) n2 (fun q hq => ra q (List.mem_cons_of_mem _ hq)) fun q hq => gn q (List.mem_cons_of_mem _ hq)
    obtain ⟨t1, t2, e⟩ := ra r List.mem_cons_self
    have hn : trk G rs r.T = none := by
      rw [trk_ne fun q hq z => n1 (by rw [← z]; exact List.mem_map.mpr ⟨q, hq, rfl⟩)]
      exact gn r List.mem_cons_self
    exact HOk.laidN ih (fun _ _ q => q) hn ⟨by show 2 ≤ sizeLine; decide, [.str r.x t1, .str r.a t2], .cons ⟨t1, rfl⟩ (.cons ⟨t2, rfl⟩ .nil), _, e, rfl, _, rfl⟩
/-- a text or None -/
def WOk (v : V) : Prop := v = .non ∨ ∃ x, v = .str x
section
variable {X : Cx} {k k2 : Nat} {f2 : Addr} {iter : Expr} {tg : TGenE} {x y a b m2 wn : Str} {op : CmpOp} {q1 q2 qt qy qb qw pc p0 p1 p2 p3 pt0 pt pos pos2 apos : Pos} {scope : Scope} {own : List (Str × Nat)} {kt kt0 ke iw : Nat} {p : Str → V → Bool} {fd2 : FuncData} {ps2 : List Str} {sp2 : SpE} {S : Addr → Prop}
def tLcE2 (tg : TGenE) (S : Addr → Prop) (m2 : Str) (sp2 : SpE) (iw : Nat) (p : Str → V → Bool) : TE := fun σ H Q => ∃ n Ab Fin xs wv, n ≤ sizeLine ∧ σ[iw]? = some (some wv) ∧ WOk wv ∧ xs.length = n ∧ (∀ i z, xs[i]? = some z → (selA (fun u => p u wv) (xs.take i)).length + z.2.2.length < sizeLine) ∧ OutAb xs S m2 sp2 Ab ∧ (selA (fun u => p u wv) xs).length ≤ sizeLine ∧
  (∀ G, Fin G → ∀ G' D (rows : List Row3), (∀ z u, G z = some u → G' z = some u) → rows.map Row3.p = selA (fun u => p u wv) xs → (∀ r ∈ rows, G r.T = none ∧ G' r.T = some (.tup [.str r.x, .str r.a])) → G D = none → G' D = some (.lst (rows.map fun r => V.ref r.T)) → Q (.ref D) G') ∧ tg σ H n Ab Fin
theorem pe_lcE2 {pl : List (Str × Addr) → Addr → Sem Bool} (h : PGenE X k iter tg) (hc : X.calm = true) (hr : Room (k + 1) X.A) (hr2 : Room (k2 + 1) X.A) (ok : BlkOk X.N X.env.scope scope own) (hxy : x ≠ y) (hab : a ≠ b) (hxa : x ≠ a) (hxb : x ≠ b)
    (hx : ∀ (cl : List (Str × Addr)) (C : Addr), (compEnvC scope cl C X.env).kindOf x = some .local) (hy : ∀ (cl : List (Str × Addr)) (C : Addr), (compEnvC scope cl C X.env).kindOf y = some .local) (ha : ∀ (cl : List (Str × Addr)) (C : Addr), (compEnvC scope cl C X.env).kindOf a = some .local) (hb : ∀ (cl : List (Str × Addr)) (C : Addr), (compEnvC scope cl C X.env).kindOf b = some .local)
    (hw : ∀ (cl : List (Str × Addr)) (C : Addr), (compEnvC scope cl C X.env).kindOf wn = some .cell ∨ (compEnvC scope cl C X.env).kindOf wn = some .free) (hwf : scope.names.lookup wn = some .free) (hwN : X.N[iw]? = some wn)
    (hcmp : ∀ (u : Str) (wv : V) (t : Tok) (wu : Value) (s : Shared) (Q : Value → Shared → Prop) (E : Value → Shared → Prop), WOk wv → RelV wv wu → Q (.bool (p u wv)) s → wpAny (model X.prog X.w) X.A (compareOp op (.str u t) wu) Q E s) (hm : behindInMarks op (.Name wn qw) = false)
    (cS : ∀ C, S C → Cls X.K C ∧ Meth X.K C m2 f2) (F2 : GFnE X.prog X.w X.K X.mg X.base k2 False f2 fd2 ps2 sp2) (len2 : ∀ vs H n Ab Fin, sp2 vs H n Ab Fin → vs.length = ps2.length) (b2 : Binds X.K fd2 ps2 [])
    (ht2 : ∀ (cl : List (Str × Addr)) (C : Addr), eval (.Call (.Attribute (.Name y qy) m2 apos) [] [] pos2) (compEnvC scope cl C X.env) = (do
      let ov ← eval (.Name y qy) (compEnvC scope cl C X.env)
      standAt apos.atName
      let (f, first) ← holding [ov] (getMethod ov m2 (pl cl C))
      callWith pos2 f first (backTo pos2 (starEach [] (compEnvC scope cl C X.env))) (backToKw pos2 (keywordEach [] (compEnvC scope cl C X.env)))))
    (has0 : ∀ (cl : List (Str × Addr)) (C : Addr), (assignEach [Expr.Name x p0, Expr.Name y p3] (compEnvC scope cl C X.env)).map (·.2) = [assign (.Name x p0) (compEnvC scope cl C X.env), assign (.Name y p3) (compEnvC scope cl C X.env)]) (hst0 : ∀ (cl : List (Str × Addr)) (C : Addr), (assignEach [Expr.Name x p0, Expr.Name y p3] (compEnvC scope cl C X.env)).findIdx? (·.1) = none)
    (has : ∀ (cl : List (Str × Addr)) (C : Addr), (assignEach [Expr.Name a p1, Expr.Name b p2] (compEnvC scope cl C X.env)).map (·.2) = [assign (.Name a p1) (compEnvC scope cl C X.env), assign (.Name b p2) (compEnvC scope cl C X.env)]) (hst : ∀ (cl : List (Str × Addr)) (C : Addr), (assignEach [Expr.Name a p1, Expr.Name b p2] (compEnvC scope cl C X.env)).findIdx? (·.1) = none)
    (hse : ∀ (cl : List (Str × Addr)) (C : Addr) (pos : Pos), backTo pos (starEach [Expr.Name x q1, Expr.Name a q2] (compEnvC scope cl C X.env)) = [(false, eval (.Name x q1) (compEnvC scope cl C X.env)), (false, eval (.Name a q2) (compEnvC scope cl C X.env))])
    (hs1 : ∀ env v, foldedSetIterable (.Call (.Attribute (.Name y qy) m2 apos) [] [] pos2) env v = pure v := by intro _ _; rfl)
    (hdx : (x == ("__debug__" : Str)) = false := by decide) (hdy : (y == ("__debug__" : Str)) = false := by decide) (hda : (a == ("__debug__" : Str)) = false := by decide) (hdb : (b == ("__debug__" : Str)) = false := by decide) (hdw : (wn == ("__debug__" : Str)) = false := by decide) (hcd : (wn == ("__classdict__" : Str)) = false := by decide) (hs : ∀ x, foldedSetIterable iter X.env x = pure x := by intro _; rfl) :
    PE X (.ListComp (.Tuple [.Name x q1, .Name a q2] ke qt) [⟨.Tuple [.Name x p0, .Name y p3] kt0 pt0, iter, [], 0⟩, ⟨.Tuple [.Name a p1, .Name b p2] kt pt, .Call (.Attribute (.Name y qy) m2 apos) [] [] pos2, [.Compare (.Name b qb) [op] [.Name wn qw] pc], 0⟩] scope pos) (tLcE2 tg S m2 sp2 iw p) := by
  constructor
  intro pins s σ H Q I hq
  obtain ⟨n, Ab, Fin, xs, wv, hsz, hσ, hwv, hxs, hsz2, hO, hlen, hQ, hq⟩ := hq
  rw [eval_ListComp]
  have hfree : ∀ y ∈ scope.names, y.2 = .free → ∃ c, X.env.cells.lookup y.1 = some c := fun y hy e => by
    rcases ok.free y hy e with k | k
    · exact I.ok.has _ (.inl k)
    · exact I.ok.has _ (.inr k)
  refine wpAny_comprehension_free (use := none) rfl hs (closure_ok hfree) ok.kind (fun y hy e => by rw [ok.uniq y hy, e])
    (thn (h.run pins s σ H n _ _ I hq) fun u s1 ⟨H1, sc, I1, G⟩ => ?_)
  obtain ⟨a1, c0, rfl, ha1, ha2, hgen, hgens, os, ba, lim, kp, seg⟩ := G
  have hfresh : s1.gens[sc.gens.size]? = some (.fresh c0) := by rw [hgens]; exact Array.getElem?_push_size ..
  generalize sc.gens.size = g at hgen hfresh seg
  obtain ⟨m0, hn0, hl0⟩ := I1.loc
  have kw : X.env.scope.names.lookup wn = some .cell ∨ X.env.scope.names.lookup wn = some .free := ok.free _ (PySem.mem_of_lookup hwf) rfl
  obtain ⟨uw, rw_, lw⟩ := hl0 iw wn _ hwN hσ (kw.elim (fun z => .inr (.inl z)) fun z => .inr (.inr z))
  obtain ⟨c, hcl, hcell⟩ : ∃ c, X.env.cells.lookup wn = some c ∧ sc.heap.IsCell c (some uw) := by
    rcases lw with ⟨z, _⟩ | ⟨_, c, e, z⟩
    · have z : X.env.scope.names.lookup wn = some .local := z
      rcases kw with q | q <;> rw [q] at z <;> cases z
    · exact ⟨c, e, z⟩
  obtain ⟨oc, hoc, hdc⟩ := id hcell
  refine wpAny_pyIter_gen hgen ?_
  refine wpAny_newObj_type (newEnv_comp ?_) (by show 0 ≤ sizeLine; decide)
  generalize hD : s1.heap.objs.size = D
  generalize hs3 : ({ s1 with heap := s1.heap.push { cls := .type "list", data := .seq ([] : List Value).toArray } } : Shared) = s3
  show codeAny _ _ (.compStart (.ListComp (.Tuple [.Name x q1, .Name a q2] ke qt) [⟨.Tuple [.Name x p0, .Name y p3] kt0 pt0, iter, [], 0⟩, ⟨.Tuple [.Name a p1, .Name b p2] kt pt, .Call (.Attribute (.Name y qy) m2 apos) [] [] pos2, [.Compare (.Name b qb) [op] [.Name wn qw] pc], 0⟩] scope pos) 0 (.ref a1) (.ref D) (compEnvC scope (cellsFrom (s3.heap.objs.size + 1) scope.names (cloFrom X.env.cells scope.names [])) s3.heap.objs.size X.env)) (compPost (model X.prog X.w) X.A X.xe none (EP X pins σ Q) (.ref D) s3.heap.objs.size) { s3 with heap := pushCells (s3.heap.push { cls := .type "dict", data := .dict #[] }) scope.names }
  have hwc : (compEnvC scope (cellsFrom (s3.heap.objs.size + 1) scope.names (cloFrom X.env.cells scope.names [])) s3.heap.objs.size X.env).cells.lookup wn = some c := by
    have q := blk_cell (h := s3.heap.push { cls := .type "dict", data := .dict #[] }) ok.uniq hwf hcl
    rw [Heap.size_push] at q
    exact q
  generalize hcells : cellsFrom (s3.heap.objs.size + 1) scope.names (cloFrom X.env.cells scope.names []) = cel at hwc ⊢
  have hxe := hx cel s3.heap.objs.size
  have hye := hy cel s3.heap.objs.size
  have hae := ha cel s3.heap.objs.size
  have hbe := hb cel s3.heap.objs.size
  have hwe := hw cel s3.heap.objs.size
  have ht2e := ht2 cel s3.heap.objs.size
  have hase0 := has0 cel s3.heap.objs.size
  have hste0 := hst0 cel s3.heap.objs.size
  have hase := has cel s3.heap.objs.size
  have hste := hst cel s3.heap.objs.size
  have hsee := hse cel s3.heap.objs.size
  have kce : (compEnvC scope cel s3.heap.objs.size X.env).scope.kind = .function := ok.kind
  generalize hce : compEnvC scope cel s3.heap.objs.size X.env = ce at hxe hye hae hbe hwe ht2e hase0 hste0 hase hste hsee kce hwc ⊢
  have cL : ce.locals = s3.heap.objs.size := by subst hce; rfl
  have h3 : s3.heap = s1.heap.push { cls := .type "list", data := .seq ([] : List Value).toArray } := by rw [← hs3]
  have g3 : s3.gens = s1.gens := by rw [← hs3]
  have o3 : s3.os = s1.os := by rw [← hs3]
  have szC : s3.heap.objs.size = D + 1 := by rw [h3, Heap.size_push, hD]
  generalize hC : s3.heap.objs.size = C at cL szC ⊢
  have k3 : ∀ b o, s1.heap.get? b = some o → s3.heap.get? b = some o := fun b o e => by rw [h3]; exact Heap.get?_push_of_some _ e
  have k4 : ∀ b o, s3.heap.get? b = some o → (pushCells (s3.heap.push { cls := .type "dict", data := .dict #[] }) scope.names).get? b = some o := fun b o e => pushCells_keeps _ _ _ _ (Heap.get?_push_of_some _ e)
  have eC : (pushCells (s3.heap.push { cls := .type "dict", data := .dict #[] }) scope.names).get? C = some { cls := .type "dict", data := .dict #[] } := by
    rw [← hC]
    exact pushCells_keeps _ _ _ _ (Heap.get?_push_size _ rfl)
  have eD3 : s3.heap.get? D = some { cls := .type "list", data := .seq ([] : List Value).toArray } := by
    rw [h3, ← hD]
    exact Heap.get?_push_size _ rfl
  have eD := k4 _ _ eD3
  have kp4 : ∀ b o, s1.heap.get? b = some o → (pushCells (s3.heap.push { cls := .type "dict", data := .dict #[] }) scope.names).get? b = some o := fun b o e => k4 b o (k3 b o e)
  have aD : a1 < D := by rw [← hD]; exact ha2
  have scD : sc.heap.objs.size ≤ D := by rw [← hD]; exact Nat.le_trans ha1 (Nat.le_of_lt ha2)
  have DC : D < C := by rw [szC]; exact Nat.lt_succ_self _
  have aC : a1 < C := Nat.lt_trans aD DC
  have cD : c < D := Nat.lt_of_lt_of_le (Heap.lt_size hoc) scD
  generalize hs4 : ({ s3 with heap := pushCells (s3.heap.push { cls := .type "dict", data := .dict #[] }) scope.names } : Shared) = s4
  have h4 : s4.heap = pushCells (s3.heap.push { cls := .type "dict", data := .dict #[] }) scope.names := by rw [← hs4]
  have g4 : s4.gens = s1.gens := by rw [← hs4]; exact g3
  have o4 : s4.os = sc.os := by rw [← hs4]; exact o3.trans os
  have sz4 : sc.heap.objs.size ≤ s4.heap.objs.size := by
    rw [h4]
    have q1 : (s3.heap.push { cls := .type "dict", data := .dict #[] }).objs.size ≤ (pushCells (s3.heap.push { cls := .type "dict", data := .dict #[] }) scope.names).objs.size := pushCells_size _ _
    have q2 := HeapSz.push_size s3.heap { cls := .type "dict", data := .dict #[] }
    exact Nat.le_trans (Nat.le_trans scD (Nat.le_of_lt DC)) (Nat.le_trans (Nat.le_of_eq hC.symm) (Nat.le_trans q2 q1))
  rw [← h4] at eC eD kp4
  have ns4 : s4.heap.Ns C (fun _ => none) := ⟨_, _, _, eC, rfl, (fun e he => by simp at he), fun _ => rfl⟩
  have cons4 : Cons s4.heap C D c (some uw) (fun _ => none) [] := ⟨ns4, ⟨_, eD⟩, fun r hr => (by cases hr), ⟨_, kp4 _ _ (kp _ _ hoc), hdc⟩, Nat.ne_of_gt DC, fun r hr => (by cases hr), List.nodup_nil, Nat.ne_of_gt (Nat.lt_trans cD DC), Nat.ne_of_gt cD⟩
  have start : OutV X H1 sc C D a1 c (some uw) g n Ab Fin xs (fun u => p u wv) n s4 := by
    refine ⟨0, _, [], Nat.zero_add _, hgen.keeps kp4, lim.keeps kp4, ⟨.fresh c0, by rw [g4]; exact hfresh, rfl, ?_⟩, cons4, rfl, sz4, fun r hr => by cases hr⟩
    refine seg X.A.in1 [] (pf3 C D) (s4.setGen g .running) hr.in1 I1.ok.frames (fun b hb => by cases hb) (fun z hz => ?_) (fun b o e => kp4 b o e) o4 (allBare_setGen (by rw [g4]; exact ba) rfl)
    have hz : z ∈ pf3 C D s4.heap := hz
    obtain ⟨e, wh⟩ := pf3_mem cons4.pl hz
    refine ⟨.inr ?_, e, cons4.noncell hz⟩
    rcases wh with q | q | ⟨r, hr, _⟩
    · rw [q, hD, szC]; exact Nat.le_succ _
    · rw [q]; exact Nat.le_of_eq hD
    · cases hr
  have loop : codeAny (model X.prog X.w) X.A (.compLoop (.ListComp (.Tuple [.Name x q1, .Name a q2] ke qt) [⟨.Tuple [.Name x p0, .Name y p3] kt0 pt0, iter, [], 0⟩, ⟨.Tuple [.Name a p1, .Name b p2] kt pt, .Call (.Attribute (.Name y qy) m2 apos) [] [] pos2, [.Compare (.Name b qb) [op] [.Name wn qw] pc], 0⟩] scope pos) 0 (.ref a1) (.ref D) ce) (compPost (model X.prog X.w) X.A X.xe none (EP X pins σ Q) (.ref D) C) s4 := by
    refine comp_out (H := H1) (sB := sc) (vc := some uw) (cond := fun u => p u wv) hc I1 hr2 cL kce hxe hye hae hbe hxy hab hxa hxb (by rw [kce]; rfl) hdx hdy hda (Nat.ne_of_gt aC) (Nat.ne_of_gt aD) (Nat.le_trans scD (Nat.le_of_lt DC)) scD hsz2 hxs hO hcell (I1.freeC _ _ hcl) ha1 cS F2 len2 b2 ht2e (hs1 ce) (fun bv t s m Q E hns hmb hcc hQ => ?_) hase0 hste0 hase hste hsee (fun s' m rows G os' ba' un hok pn hF hK hrows hnew => ?_) n start
    · refine wpAny_isTrue_Compare1 (wpAny_Name (wpAny_loadName_local (v := .str bv t) kce hbe (by rw [cL]; exact hns) hmb ?_) hdb) hm
      have go : wpAny (model X.prog X.w) X.A (compareOp op (.str bv t) uw) (fun c s₃ => wpAny (model X.prog X.w) X.A (truthy c) Q E s₃) E s := hcmp _ _ _ _ _ _ _ hwv rw_ (wpAny_truthy_bool hQ)
      rcases hwe with z | z
      · exact wpAny_Name (wpAny_loadName_cell kce z hwc hcc go) hdw
      · exact wpAny_Name (wpAny_loadName_free kce z hwc hcc go hcd) hdw
    · obtain ⟨kk, hl⟩ := hK.pl
      obtain ⟨oC5, _, _, eC5, _, _⟩ := id hK.ns
      have gC : G C = none := pn _ (pf3_C eC5)
      have gD : G D = none := pn _ (pf3_D hl)
      have gR : ∀ r ∈ rows, G r.T = none := fun r hr => by
        obtain ⟨t1, t2, e⟩ := hK.rw_ r hr
        exact pn _ (pf3_R hK.pl hr e)
      have rl : rows.length = (selA (fun u => p u wv) xs).length := by rw [← hrows, List.length_map]
      have vals : ∀ l : List Row3, Vals (l.map fun r => V.ref r.T) (l.map Row3.v) := fun l => by
        induction l with
        | nil => exact .nil
        | cons r l ih => exact .cons rfl ih
      have tD : trk G rows D = none := by rw [trk_ne fun r hr => (hK.RC r hr).2.1]; exact gD
      have okT := trk_ok hok hK.nd hK.rw_ gR
      have okF : HOk X.prog X.w (upd (trk G rows) D (.lst (rows.map fun r => V.ref r.T))) s'.heap := HOk.laidN okT (fun _ _ q => q) tD ⟨by rw [List.length_map, rl]; exact hlen, rows.map Row3.v, kk, vals rows, hl⟩
      have old : ∀ b o, sc.heap.get? b = some o → b ≠ D ∧ ∀ r ∈ rows, r.T ≠ b := fun b o e => by
        have lt := Heap.lt_size e
        exact ⟨Nat.ne_of_lt (Nat.lt_of_lt_of_le lt scD), fun r hr => Nat.ne_of_gt (Nat.lt_of_lt_of_le lt (hnew r hr))⟩
      have keepG : ∀ z u, G z = some u → (upd (trk G rows) D (.lst (rows.map fun r => V.ref r.T))) z = some u := fun z u e => by
        rw [upd_ne (fun q => by rw [q, gD] at e; cases e), trk_ne fun r hr q => by rw [← q, gR r hr] at e; cases e]
        exact e
      have I5 : Inv X pins σ (upd (trk G rows) D (.lst (rows.map fun r => V.ref r.T))) s' := I1.call' (ch := []) os' ⟨un.keep, un.slot, fun b o e nb hx => by
          obtain ⟨n1, n2⟩ := old b o e
          rw [upd_ne n1, trk_ne n2]
          exact un.free b o e nb hx, un.there, fun b q e => keepG _ _ (un.tups b q e), fun b o q e => keepG _ _ (un.frzs b o q e), fun b q e => by
          obtain ⟨m, e'⟩ := un.tbls b q e
          exact ⟨m, keepG _ _ e'⟩⟩ okF ba' fun b z => by simp at z
      have fC : FpOk X pins (upd (trk G rows) D (.lst (rows.map fun r => V.ref r.T))) C := I1.fpOk (Nat.le_trans scD (Nat.le_of_lt DC)) (by rw [upd_ne (Nat.ne_of_gt DC), trk_ne fun r hr => (hK.RC r hr).1]; exact gC)
      obtain ⟨f0, f1, f2, f3, f4, f5⟩ := fC
      refine ⟨m, hK.ns, fun h'' sb => ⟨.ref D, _, I5.turned (t' := s'.toks) (fun b o hb e => (sb.2 b hb).trans e) f0 f1 f3 f4 f5, rfl, hQ G hF _ D rows keepG hrows (fun r hr => ⟨gR r hr, ?_⟩) gD upd_same⟩⟩
      rw [upd_ne (hK.RC r hr).2.1]
      exact trk_at hK.nd r hr
  exact codeAny_compStart_list loop (wpAny_pyIter_gen (hgen.keeps kp4) loop)
end
end GenE
end

-- GenTup
section
set_option Elab.async false
set_option linter.all false
set_option maxRecDepth 100000
set_option maxHeartbeats 2000000
/-! [(x, (c,)) for x in o.m()] as a value, m a generator def of the kind of GenE. -/
namespace GenE
open PySem PySem.Spec PyProof.Rows L2 GenW GenFor
/-- a row handed out: its tuple, the tuple within, what was handed out -/
structure RowT where
  T : Addr
  Z : Addr
  x : V
  u : Value
def RowT.v (r : RowT) : Value := .ref r.T
structure RowTAt (c : Int) (h : Heap) (r : RowT) : Prop where
  t : h.get? r.T = some { cls := .type "tuple", data := .seq #[r.u, .ref r.Z] }
  z : ∃ k, h.get? r.Z = some { cls := .type "tuple", data := .seq #[.int c k] }
  rel : RelV r.x r.u
def subs (h : Heap) (v : Value) : List (Addr × Obj) := match v with | .ref T => at1 h T ++ ((itemsOf h T).drop 1).flatMap (atV h) | _ => []
/-- the consumer's objects -/
def pf4 (C D : Addr) : PF := fun h => (at1 h C ++ at1 h D) ++ (itemsOf h D).flatMap (subs h)
section
variable {h : Heap} {C D : Addr} {rows : List RowT} {c : Int}
theorem items_row {r : RowT} (e : RowTAt c h r) : itemsOf h r.T = [r.u, .ref r.Z] := by
  unfold itemsOf
  rw [e.t]
theorem pf4_mem (pl : h.PlainList D (rows.map RowT.v).toArray) (ra : ∀ r ∈ rows, RowTAt c h r) {p : Addr × Obj} (m : p ∈ pf4 C D h) : h.get? p.1 = some p.2 ∧ (p.1 = C ∨ p.1 = D ∨ ∃ r ∈ rows, p.1 = r.T ∨ p.1 = r.Z) := by
  unfold pf4 at m
  rcases List.mem_append.mp m with m | m
  · rcases List.mem_append.mp m with m | m
    · exact ⟨(at1_mem m).2, .inl (at1_mem m).1⟩
    · exact ⟨(at1_mem m).2, .inr (.inl (at1_mem m).1)⟩
  · rw [items_eq pl] at m
    obtain ⟨v, hv, hm⟩ := List.mem_flatMap.mp m
    obtain ⟨r, hr, rfl⟩ := List.mem_map.mp (by simpa using hv)
    have hm : p ∈ at1 h r.T ++ ((itemsOf h r.T).drop 1).flatMap (atV h) := hm
    rw [items_row (ra r hr)] at hm
    rcases List.mem_append.mp hm with hm | hm
    · exact ⟨(at1_mem hm).2, .inr (.inr ⟨r, hr, .inl (at1_mem hm).1⟩)⟩
    · have hm : p ∈ at1 h r.Z := by simpa [atV] using hm
      exact ⟨(at1_mem hm).2, .inr (.inr ⟨r, hr, .inr (at1_mem hm).1⟩)⟩
theorem pf4_C {o : Obj} (e : h.get? C = some o) : (C, o) ∈ pf4 C D h := List.mem_append_left _ (List.mem_append_left _ (at1_has e))
theorem pf4_D {o : Obj} (e : h.get? D = some o) : (D, o) ∈ pf4 C D h := List.mem_append_left _ (List.mem_append_right _ (at1_has e))
theorem pf4_T (pl : h.PlainList D (rows.map RowT.v).toArray) {r : RowT} (hr : r ∈ rows) {o : Obj} (e : h.get? r.T = some o) : (r.T, o) ∈ pf4 C D h := by
  refine List.mem_append_right _ (List.mem_flatMap.mpr ⟨r.v, ?_, List.mem_append_left _ (at1_has e)⟩)
  rw [items_eq pl]
  simpa using List.mem_map.mpr ⟨r, hr, rfl⟩
theorem pf4_Z (pl : h.PlainList D (rows.map RowT.v).toArray) {r : RowT} (hr : r ∈ rows) (ra : RowTAt c h r) {o : Obj} (e : h.get? r.Z = some o) : (r.Z, o) ∈ pf4 C D h := by
  refine List.mem_append_right _ (List.mem_flatMap.mpr ⟨r.v, ?_, ?_⟩)
  · rw [items_eq pl]
    simpa using List.mem_map.mpr ⟨r, hr, rfl⟩
  · show (r.Z, o) ∈ at1 h r.T ++ ((itemsOf h r.T).drop 1).flatMap (atV h)
    rw [items_row ra]
    exact List.mem_append_right _ (by simpa [atV] using at1_has e)
/-- the consumer's objects, as they stand -/
structure ConsT (c : Int) (h : Heap) (C D : Addr) (m : Str → Option Value) (rows : List RowT) : Prop where
  ns : h.Ns C m
  pl : h.PlainList D (rows.map RowT.v).toArray
  rw_ : ∀ r ∈ rows, RowTAt c h r
  CD : C ≠ D
  RC : ∀ r ∈ rows, (r.T ≠ C ∧ r.T ≠ D) ∧ r.Z ≠ C ∧ r.Z ≠ D
  nd : (rows.flatMap fun r => [r.T, r.Z]).Nodup
theorem ConsT.noncell {m : Str → Option Value} (k : ConsT c h C D m rows) {p : Addr × Obj} (q : p ∈ pf4 C D h) : ∀ v, p.2.data ≠ .cell v := by
  obtain ⟨e, w⟩ := pf4_mem k.pl k.rw_ q
  rcases w with w | w | ⟨r, hr, w | w⟩
  · obtain ⟨o, es, ep, ho, hd, _⟩ := k.ns
    rw [w, ho] at e
    rw [← Option.some.inj e, hd]
    exact fun v z => by cases z
  · obtain ⟨n, ho⟩ := k.pl
    rw [w, ho] at e
    rw [← Option.some.inj e]
    exact fun v z => by cases z
  · rw [w, (k.rw_ r hr).t] at e
    rw [← Option.some.inj e]
    exact fun v z => by cases z
  · obtain ⟨t, ho⟩ := (k.rw_ r hr).z
    rw [w, ho] at e
    rw [← Option.some.inj e]
    exact fun v z => by cases z
/-- they stand too where what was pinned stands -/
theorem ConsT.stay {m : Str → Option Value} {h' : Heap} (k : ConsT c h C D m rows) (hp : ∀ p ∈ pf4 C D h, h'.get? p.1 = some p.2) : ConsT c h' C D m rows := by
  obtain ⟨o, es, ep, ho, hd, hr⟩ := k.ns
  obtain ⟨n, eD⟩ := k.pl
  refine ⟨⟨o, es, ep, hp _ (pf4_C ho), hd, hr⟩, ⟨n, hp _ (pf4_D eD)⟩, fun r hr => ?_, k.CD, k.RC, k.nd⟩
  have q := k.rw_ r hr
  obtain ⟨t, e⟩ := q.z
  exact ⟨hp _ (pf4_T k.pl hr q.t), ⟨t, hp _ (pf4_Z k.pl hr q e)⟩, q.rel⟩
end
/-- the rows' tuples tracked -/
def trkT (c : Int) (G : Hp) : List RowT → Hp
  | [] => G
  | r :: rs => upd (upd (trkT c G rs) r.Z (.tup [.int c])) r.T (.tup [r.x, .ref r.Z])
theorem trkT_ne {c : Int} {G : Hp} {z : Addr} : ∀ {rows : List RowT}, (∀ r ∈ rows, r.T ≠ z ∧ r.Z ≠ z) → trkT c G rows z = G z
  | [], _ => rfl
  | r :: rs, h => by
    show upd (upd (trkT c G rs) r.Z _) r.T _ z = _
    obtain ⟨h1, h2⟩ := h r List.mem_cons_self
    rw [upd_ne (Ne.symm h1), upd_ne (Ne.symm h2)]
    exact trkT_ne fun q hq => h q (List.mem_cons_of_mem _ hq)
theorem nd_cons {r : RowT} {rs : List RowT} (nd : ((r :: rs).flatMap fun r => [r.T, r.Z]).Nodup) : r.T ≠ r.Z ∧ (∀ q ∈ rs, q.T ≠ r.T ∧ q.Z ≠ r.T ∧ q.T ≠ r.Z ∧ q.Z ≠ r.Z) ∧ (rs.flatMap fun r => [r.T, r.Z]).Nodup := by
  rw [List.flatMap_cons] at nd
  obtain ⟨n1, n2⟩ := List.nodup_cons.mp (show (r.T :: r.Z :: rs.flatMap fun r => [r.T, r.Z]).Nodup from nd)
  obtain ⟨n3, n4⟩ := List.nodup_cons.mp n2
  refine ⟨fun e => n1 (by rw [e]; exact List.mem_cons_self), fun q hq => ?_, n4⟩
  have m1 : q.T ∈ rs.flatMap fun r => [r.T, r.Z] := List.mem_flatMap.mpr ⟨q, hq, List.mem_cons_self⟩
  have m2 : q.Z ∈ rs.flatMap fun r => [r.T, r.Z] := List.mem_flatMap.mpr ⟨q, hq, List.mem_cons_of_mem _ List.mem_cons_self⟩
  exact ⟨fun e => n1 (List.mem_cons_of_mem _ (e ▸ m1)), fun e => n1 (List.mem_cons_of_mem _ (e ▸ m2)), fun e => n3 (e ▸ m1), fun e => n3 (e ▸ m2)⟩
theorem trkT_at {c : Int} {G : Hp} : ∀ {rows : List RowT}, (rows.flatMap fun r => [r.T, r.Z]).Nodup → ∀ r ∈ rows, trkT c G rows r.T = some (.tup [r.x, .ref r.Z]) ∧ trkT c G rows r.Z = some (.tup [.int c])
  | q :: rs, nd, r, hr => by
    obtain ⟨n1, n2, n3⟩ := nd_cons nd
    rcases List.mem_cons.mp hr with e | e
    · rw [e]
      refine ⟨upd_same, ?_⟩
      show upd (upd (trkT c G rs) q.Z _) q.T _ q.Z = _
      rw [upd_ne (Ne.symm n1), upd_same]
    · obtain ⟨a1, a2, a3, a4⟩ := n2 r e
      obtain ⟨i1, i2⟩ := trkT_at (c := c) (G := G) n3 r e
      constructor
      · show upd (upd (trkT c G rs) q.Z _) q.T _ r.T = _
        rw [upd_ne a1, upd_ne a3, i1]
      · show upd (upd (trkT c G rs) q.Z _) q.T _ r.Z = _
        rw [upd_ne a2, upd_ne a4, i2]
theorem trkT_ok {P : Program} {w : World} {c : Int} {G : Hp} {h : Heap} (hok : HOk P w G h) : ∀ {rows : List RowT}, (rows.flatMap fun r => [r.T, r.Z]).Nodup → (∀ r ∈ rows, RowTAt c h r) → (∀ r ∈ rows, G r.T = none ∧ G r.Z = none) → HOk P w (trkT c G rows) h
  | [], _, _, _ => hok
  | r :: rs, nd, ra, gn => by
    obtain ⟨n1, n2, n3⟩ := nd_cons nd
    have ih := trkT_ok hok (rows := rs) n3 (fun q hq => ra q (List.mem_cons_of_mem _ hq)) fun q hq => gn q (List.mem_cons_of_mem _ hq)
    have q := ra r List.mem_cons_self
    obtain ⟨k, e⟩ := q.z
    have hz : trkT c G rs r.Z = none := by
      rw [trkT_ne fun q hq => ⟨(n2 q hq).2.2.1, (n2 q hq).2.2.2⟩]
      exact (gn r List.mem_cons_self).2
    have ht : (upd (trkT c G rs) r.Z (.tup [.int c])) r.T = none := by
      rw [upd_ne n1, trkT_ne fun q hq => ⟨(n2 q hq).1, (n2 q hq).2.1⟩]
      exact (gn r List.mem_cons_self).1
    have i2 : HOk P w (upd (trkT c G rs) r.Z (.tup [.int c])) h := HOk.laidN ih (fun _ _ q => q) hz ⟨by show 1 ≤ sizeLine; decide, [.int c k], .cons ⟨k, rfl⟩ .nil, _, e, rfl, _, rfl⟩
    exact HOk.laidN i2 (fun _ _ q => q) ht ⟨by show 2 ≤ sizeLine; decide, [r.u, .ref r.Z], .cons q.rel (.cons rfl .nil), _, q.t, rfl, _, rfl⟩
section
variable {X : Cx} {k : Nat} {H : Hp} {sB : Shared} {C D a : Addr} {g N : Nat} {Ab : Nat → Hp → V → Prop} {Fin : Hp → Prop} {x : Str} {q1 pc pz qt p0 pos : Pos} {scope : Scope} {i0 : Expr} {ce : Env} {R : Result → Shared → Prop} {xs : List V} {kc kz ke : Nat} {c : Int} {pins : List (Addr × Obj)} {σ : L2.St}
abbrev eltT (x : Str) (q1 : Pos) (c : Int) (kc : Nat) (pc : Pos) (kz : Nat) (pz : Pos) (ke : Nat) (qt : Pos) : Expr := .Tuple [.Name x q1, .Tuple [.Constant (.int c) kc pc] kz pz] ke qt
def OutT (X : Cx) (H : Hp) (sB : Shared) (C D a : Addr) (g N : Nat) (Ab : Nat → Hp → V → Prop) (Fin : Hp → Prop) (xs : List V) (c : Int) (n : Nat) (s : Shared) : Prop :=
  ∃ (i : Nat) (m : Str → Option Value) (rows : List RowT), i + n = N ∧ s.heap.IsGen a g ∧ s.heap.NoLimit ∧ (∃ gs, s.gens[g]? = some gs ∧ gs.Goes (model X.prog X.w) X.A.in1 (RE X.prog X.w False X.stack [] H sB (pf4 C D) Fin) (YE X.prog X.w False X.stack [] H sB (pf4 C D) a g N Ab) n (.send .none) (s.setGen g .running)) ∧
    ConsT c s.heap C D m rows ∧ rows.map RowT.x = xs.take i ∧ sB.heap.objs.size ≤ s.heap.objs.size ∧ ∀ r ∈ rows, sB.heap.objs.size ≤ r.T ∧ sB.heap.objs.size ≤ r.Z
theorem comp_tup (hc : X.calm = true) (I1 : Inv X pins σ H sB) (hr : Room (k + 1) X.A) (hl : ce.locals = C) (hk : ce.scope.kind = .function) (hx : ce.kindOf x = some .local)
    (hp : (ce.scope.kind == .class || (ce.scope.kind == .module && ce.locals != ce.globals)) = false) (hdx : (x == ("__debug__" : Str)) = false)
    (nCa : C ≠ a) (nDa : D ≠ a) (hCs : sB.heap.objs.size ≤ C) (hDs : sB.heap.objs.size ≤ D) (hsz : N ≤ sizeLine) (hN : xs.length = N) (hO : ∀ i G y, Ab i G y → xs[i]? = some y)
    (hse : ∀ pos, backTo pos (starEach [Expr.Name x q1, .Tuple [.Constant (.int c) kc pc] kz pz] ce) = [(false, eval (.Name x q1) ce), (false, eval (.Tuple [.Constant (.int c) kc pc] kz pz) ce)])
    (hse2 : ∀ pos, backTo pos (starEach [Expr.Constant (.int c) kc pc] ce) = [(false, eval (.Constant (.int c) kc pc) ce)])
    (done : ∀ s' m rows G, s'.os = sB.os → AllBare s'.gens → Un (frs X.stack) [] H G sB.heap s'.heap → HOk X.prog X.w G s'.heap → (∀ p ∈ pf4 C D s'.heap, G p.1 = none) → Fin G → ConsT c s'.heap C D m rows → rows.map RowT.x = xs → (∀ r ∈ rows, sB.heap.objs.size ≤ r.T ∧ sB.heap.objs.size ≤ r.Z) → R (.ok .next) s')
    (n : Nat) {s : Shared} (h : OutT X H sB C D a g N Ab Fin xs c n s) :
    codeAny (model X.prog X.w) X.A (.compLoop (.ListComp (eltT x q1 c kc pc kz pz ke qt) [⟨.Name x p0, i0, [], 0⟩] scope pos) 0 (.ref a) (.ref D) ce) R s := by
  have hh := I1.ok.hd hc
  have stat : cStatics < sB.heap.objs.size := by
    obtain ⟨mc, hns, _⟩ := I1.nolimit
    exact hns.lt
  have nCs : C ≠ cStatics := Nat.ne_of_gt (Nat.lt_of_lt_of_le stat hCs)
  have nDs : D ≠ cStatics := Nat.ne_of_gt (Nat.lt_of_lt_of_le stat hDs)
  refine compLoop_any (fun n s => OutT X H sB C D a g N Ab Fin xs c n s) ?_ n h
  rintro n s ⟨i, m, rows, hi, hg, hlim, ⟨gs, hgs, hgo⟩, hK, hrows, hB, hnew⟩
  have hgl : g < s.gens.size := (Array.getElem?_eq_some_iff.mp hgs).1
  refine HeapSz.wpAny_hsz (n := sB.heap.objs.size) hB ?_
  refine wpAny_gsz (n := g + 1) hgl (next_genG hh hlim hr.depth hg hgs (F := FE X.prog X.w False X.stack [] H sB (pf4 C D) Fin) (Er := fun _ _ => False) (Y := YE X.prog X.w False X.stack [] H sB (pf4 C D) a g N Ab) hgo (fun v s₁ gs' hbare hv => ?_) (fun s₁ hF h' hkp => ?_) fun e s₁ he => he.elim)
  · intro hsz' hB1
    have hB1 : sB.heap.objs.size ≤ s₁.heap.objs.size := hB1
    obtain ⟨i', G, yv, hi', ry, ab, hos, hba, hlm, ⟨hge, gA⟩, hpin, un, hok, _, hk'⟩ := hv
    have hpin : ∀ p ∈ pf4 C D s.heap, s₁.heap.get? p.1 = some p.2 ∧ G p.1 = none := hpin
    have hk'' := hk'
    have hsz1 : g < s₁.gens.size := by
      have q : (s₁.setGen g gs').gens.size = s₁.gens.size := setGen_size _ _ _
      have hsz'' : g + 1 ≤ (s₁.setGen g gs').gens.size := hsz'
      omega
    have hC1 : ConsT c s₁.heap C D m rows := hK.stay (fun p hp => (hpin p hp).1)
    refine wpAny_of_eq (rfl : letOwnedTupleGo (.Name x p0) (.ref a) v = pure ()) ?_
    refine HeapSz.wpAny_hsz (n := s₁.heap.objs.size) (s := s₁.setGen g gs') (Nat.le_refl _) ?_
    refine wpAny_assign_Name (wpAny_storeName_local (m := m) hx (by rw [hl]; exact hC1.ns) (fun h3 hn3 hs3 => ?_) hp)
    intro hsz3
    have hsz3 : s₁.heap.objs.size ≤ h3.objs.size := hsz3
    rw [hl] at hn3 hs3
    have k3 : ∀ b o, b ≠ C → s₁.heap.get? b = some o → h3.get? b = some o := fun b o n e => hs3.extBut b o n e
    generalize hm3 : (fun z_1 => if z_1 = x then some v else m z_1) = m3 at hn3
    have m3x : m3 x = some v := by rw [← hm3]; exact if_pos rfl
    have hC3 : ConsT c h3 C D m3 rows := by
      obtain ⟨kD, eD⟩ := hC1.pl
      refine ⟨hn3, ⟨kD, k3 D _ (Ne.symm hK.CD) eD⟩, fun r hr => ?_, hK.CD, hK.RC, hK.nd⟩
      obtain ⟨e1, ⟨t, e2⟩, e3⟩ := hC1.rw_ r hr
      exact ⟨k3 _ _ (hK.RC r hr).1.1 e1, ⟨t, k3 _ _ (hK.RC r hr).2.1 e2⟩, e3⟩
    -- the turn's end
    have fin : ∀ (h5 : Heap) (t5 : Nat) (rows' : List RowT), (∀ b o, b ≠ C → b ≠ D → s₁.heap.get? b = some o → h5.get? b = some o) → ConsT c h5 C D m3 rows' → (∀ r ∈ rows', r ∈ rows ∨ (s₁.heap.objs.size ≤ r.T ∧ s₁.heap.objs.size ≤ r.Z)) → sB.heap.objs.size ≤ h5.objs.size → (i' = i → rows'.map RowT.x = xs.take (i + 1)) →
        ∃ m', m' < n ∧ OutT X H sB C D a g N Ab Fin xs c m' { s₁.setGen g gs' with heap := h5, toks := t5 } := by
      intro h5 t5 rows' keep c5 new5 szB sel5
      have gC : G C = none := by obtain ⟨o, _, _, ho, _⟩ := hK.ns; exact (hpin _ (pf4_C ho)).2
      have gD : G D = none := by obtain ⟨k, e⟩ := hK.pl; exact (hpin _ (pf4_D e)).2
      have inC : C ∈ (pf4 C D s.heap).map (·.1) := by obtain ⟨o, _, _, ho, _⟩ := hK.ns; exact List.mem_map.mpr ⟨_, pf4_C ho, rfl⟩
      have inD : D ∈ (pf4 C D s.heap).map (·.1) := by obtain ⟨k, e⟩ := hK.pl; exact List.mem_map.mpr ⟨_, pf4_D e, rfl⟩
      have gT : ∀ r ∈ rows, G r.T = none ∧ r.T ∈ (pf4 C D s.heap).map (·.1) := fun r hr =>
        ⟨(hpin _ (pf4_T hK.pl hr (hK.rw_ r hr).t)).2, List.mem_map.mpr ⟨_, pf4_T hK.pl hr (hK.rw_ r hr).t, rfl⟩⟩
      have gZ : ∀ r ∈ rows, G r.Z = none ∧ r.Z ∈ (pf4 C D s.heap).map (·.1) := fun r hr => by
        obtain ⟨t, e⟩ := (hK.rw_ r hr).z
        exact ⟨(hpin _ (pf4_Z hK.pl hr (hK.rw_ r hr) e)).2, List.mem_map.mpr ⟨_, pf4_Z hK.pl hr (hK.rw_ r hr) e, rfl⟩⟩
      have wk : WokeG X.prog X.w (frs X.stack) (pf4 C D (s.setGen g .running).heap) (pf4 C D ({ s₁.setGen g gs' with heap := h5, toks := t5 }.setGen g .running).heap) G G s₁ ({ s₁.setGen g gs' with heap := h5, toks := t5 }.setGen g .running) := by
        obtain ⟨u1, u2⟩ := un_keep (P := X.prog) (w := X.w) (fs := frs X.stack) (ch := (pf4 C D s.heap).map (·.1)) (G := G) (h := s₁.heap) (h' := h5) (fun b o hb e => keep b o (fun z => hb (z ▸ inC)) (fun z => hb (z ▸ inD)) e) (fun b hb => by
          obtain ⟨p, hp', rfl⟩ := List.mem_map.mp hb
          exact (hpin p hp').2) hok
        refine ⟨rfl, allBare_setGen (allBare_setGen hba hbare) rfl, u1, u2, fun _ _ e => e, fun p hp' => ?_⟩
        have hp' : p ∈ pf4 C D h5 := hp'
        obtain ⟨e, wh⟩ := pf4_mem c5.pl c5.rw_ hp'
        refine ⟨e, c5.noncell hp', ?_⟩
        rcases wh with wh | wh | ⟨r, hr, wh | wh⟩
        · rw [wh]; exact ⟨gC, .inl inC⟩
        · rw [wh]; exact ⟨gD, .inl inD⟩
        · rw [wh]
          rcases new5 r hr with q | q
          · exact ⟨(gT r q).1, .inl (gT r q).2⟩
          · exact ⟨hok.fresh q.1, .inr q.1⟩
        · rw [wh]
          rcases new5 r hr with q | q
          · exact ⟨(gZ r q).1, .inl (gZ r q).2⟩
          · exact ⟨hok.fresh q.2, .inr q.2⟩
      cases n with
      | zero => exact (hk'' .none _ _ (.inl rfl) wk).elim
      | succ n =>
        have e : i' = i := by omega
        refine ⟨n, Nat.lt_succ_self _, i + 1, m3, rows', by omega, (let ⟨o, nm, qn, ho, r⟩ := hge; ⟨o, nm, qn, keep a o (Ne.symm nCa) (Ne.symm nDa) ho, r⟩), ?_, ⟨gs', setGen_at hsz1, hk'' .none _ _ (.inl rfl) wk⟩, c5, sel5 e, szB, fun r hr => (new5 r hr).elim (fun q => hnew r q) fun q => ⟨Nat.le_trans hB1 q.1, Nat.le_trans hB1 q.2⟩⟩
        obtain ⟨mc, hnc, hnn⟩ := hlm
        exact ⟨mc, hnc.at' fun o e => keep _ o (Ne.symm nCs) (Ne.symm nDs) e, hnn⟩
    have hy := hO _ _ _ ab
    refine wpAny_tests_nil ?_
    rw [if_pos rfl]
    refine wpAny_Tuple_spliced ?_
    rw [hse]
    refine Calls.spliced_cons (wpAny_Name (wpAny_loadName_local (v := v) hk hx (by rw [hl]; exact hn3) m3x ?_) hdx)
    refine Calls.spliced_cons (wpAny_Tuple_spliced ?_)
    rw [hse2]
    refine Calls.spliced_cons (wpAny_Constant_int ?_)
    refine Calls.spliced_nil ⟨by show 1 ≤ sizeLine; decide, ?_⟩
    refine Calls.spliced_nil ⟨by show 2 ≤ sizeLine; decide, ?_⟩
    dsimp only
    generalize hk5 : (Shared.toks _ : Nat) = k5
    have nw3 : ∀ b o, h3.get? b = some o → h3.objs.size ≠ b := fun b o e z => by
      have q := Heap.lt_size e
      rw [← z] at q
      exact absurd q (Nat.lt_irrefl _)
    generalize hh4 : h3.push { cls := .type "tuple", data := .seq #[Value.int c (k5 + 1)] } = h4
    have up4 : ∀ b o, h3.get? b = some o → h4.get? b = some o := fun b o e => by rw [← hh4]; exact Heap.get?_push_of_some _ e
    have Z4 : h4.get? h3.objs.size = some { cls := .type "tuple", data := .seq #[.int c (k5 + 1)] } := by rw [← hh4]; exact Heap.get?_push_size _ rfl
    have sz4 : h3.objs.size < h4.objs.size := Heap.lt_size Z4
    have nw4 : ∀ b o, h4.get? b = some o → h4.objs.size ≠ b := fun b o e z => by
      have q := Heap.lt_size e
      rw [← z] at q
      exact absurd q (Nat.lt_irrefl _)
    generalize hh5 : h4.push { cls := .type "tuple", data := .seq #[v, Value.ref h3.objs.size] } = h5
    have up5 : ∀ b o, h4.get? b = some o → h5.get? b = some o := fun b o e => by rw [← hh5]; exact Heap.get?_push_of_some _ e
    have T5 : h5.get? h4.objs.size = some { cls := .type "tuple", data := .seq #[v, .ref h3.objs.size] } := by rw [← hh5]; exact Heap.get?_push_size _ rfl
    obtain ⟨oC3, _, _, eC3, _, _⟩ := id hC3.ns
    obtain ⟨kD3, eD3⟩ := id hC3.pl
    have len : rows.length ≤ i := by
      have e1 : rows.length = (xs.take i).length := by rw [← hrows, List.length_map]
      rw [e1, List.length_take]
      exact Nat.min_le_left _ _
    have pl5 : h5.PlainList D (rows.map RowT.v).toArray := ⟨kD3, up5 _ _ (up4 _ _ eD3)⟩
    refine wpAny_list_append_plain (hsz := by rw [List.size_toArray, List.length_map]; omega) pl5 fun h6 hl6 hs6 => ?_
    have up6 : ∀ b o, b ≠ D → h5.get? b = some o → h6.get? b = some o := fun b o n e => hs6.extBut b o n e
    have nZD : h3.objs.size ≠ D := nw3 _ _ eD3
    have nTD : h4.objs.size ≠ D := nw4 _ _ (up4 _ _ eD3)
    have nZC : h3.objs.size ≠ C := nw3 _ _ eC3
    have nTC : h4.objs.size ≠ C := nw4 _ _ (up4 _ _ eC3)
    refine fin h6 _ (rows ++ [⟨h4.objs.size, h3.objs.size, yv, v⟩]) (fun b o n1 n2 e => up6 b o n2 (up5 _ _ (up4 _ _ (k3 b o n1 e)))) ?_ (fun r hr => ?_) ?_ fun e => ?_
    · refine ⟨hn3.at' fun o e => up6 C o hK.CD (up5 _ _ (up4 _ _ e)), by simpa [RowT.v] using hl6, fun r hr => ?_, hK.CD, fun r hr => ?_, ?_⟩
      · rcases List.mem_append.mp hr with hr | hr
        · obtain ⟨e1, ⟨t, e2⟩, e3⟩ := hC3.rw_ r hr
          exact ⟨up6 _ _ (hK.RC r hr).1.2 (up5 _ _ (up4 _ _ e1)), ⟨t, up6 _ _ (hK.RC r hr).2.2 (up5 _ _ (up4 _ _ e2))⟩, e3⟩
        · rw [List.mem_singleton.mp hr]
          exact ⟨up6 _ _ nTD T5, ⟨k5 + 1, up6 _ _ nZD (up5 _ _ Z4)⟩, ry⟩
      · rcases List.mem_append.mp hr with hr | hr
        · exact hK.RC r hr
        · rw [List.mem_singleton.mp hr]
          exact ⟨⟨nTC, nTD⟩, nZC, nZD⟩
      · rw [List.flatMap_append]
        refine List.nodup_append.mpr ⟨hK.nd, ?_, fun u hu w hw => ?_⟩
        · show [h4.objs.size, h3.objs.size].Nodup
          exact List.nodup_cons.mpr ⟨fun z => Nat.ne_of_gt sz4 (List.mem_singleton.mp z), List.pairwise_singleton _ _⟩
        · obtain ⟨r, hr, hu⟩ := List.mem_flatMap.mp hu
          obtain ⟨e1, ⟨t, e2⟩, e3⟩ := hC3.rw_ r hr
          have hw : w = h4.objs.size ∨ w = h3.objs.size := by
            rcases List.mem_cons.mp (show w ∈ [h4.objs.size, h3.objs.size] from hw) with z | z
            · exact .inl z
            · exact .inr (List.mem_singleton.mp z)
          have hu : u = r.T ∨ u = r.Z := by
            rcases List.mem_cons.mp hu with z | z
            · exact .inl z
            · exact .inr (List.mem_singleton.mp z)
          rcases hu with rfl | rfl <;> rcases hw with rfl | rfl
          · exact (nw4 _ _ (up4 _ _ e1)).symm
          · exact (nw3 _ _ e1).symm
          · exact (nw4 _ _ (up4 _ _ e2)).symm
          · exact (nw3 _ _ e2).symm
    · rcases List.mem_append.mp hr with hr | hr
      · exact .inl hr
      · rw [List.mem_singleton.mp hr]
        exact .inr ⟨Nat.le_trans hsz3 (Nat.le_of_lt sz4), hsz3⟩
    · have q5 : h4.objs.size < h5.objs.size := Heap.lt_size T5
      have q6 : h4.objs.size < h6.objs.size := Heap.lt_size (up6 _ _ nTD T5)
      omega
    · subst e
      rw [List.map_append, hrows, List.take_add_one, hy]
      rfl
  · intro _ _
    obtain ⟨n0, os1, ba1, _, G, hpin, un, hok, fin⟩ := hF
    have hpin : ∀ p ∈ pf4 C D s.heap, s₁.heap.get? p.1 = some p.2 ∧ G p.1 = none := hpin
    subst n0
    have e : xs.take i = xs := List.take_of_length_le (by omega)
    rw [e] at hrows
    have hC1 : ConsT c s₁.heap C D m rows := hK.stay (fun p hp => (hpin p hp).1)
    have hC2 : ConsT c h' C D m rows := hC1.stay (fun p hp => hkp _ _ (pf4_mem hC1.pl hC1.rw_ hp).1)
    refine done _ m rows G os1 (allBare_setGen ba1 rfl) (un.trans (Un.kept hkp)) (hok.kept hkp) (fun p hp => ?_) fin hC2 hrows hnew
    rcases (pf4_mem hC2.pl hC2.rw_ hp).2 with q | q | ⟨r, hr, q | q⟩
    · obtain ⟨o, _, _, ho, _⟩ := hK.ns
      rw [q]; exact (hpin _ (pf4_C ho)).2
    · obtain ⟨k, e⟩ := hK.pl
      rw [q]; exact (hpin _ (pf4_D e)).2
    · rw [q]; exact (hpin _ (pf4_T hK.pl hr (hK.rw_ r hr).t)).2
    · obtain ⟨t, e⟩ := (hK.rw_ r hr).z
      rw [q]; exact (hpin _ (pf4_Z hK.pl hr (hK.rw_ r hr) e)).2
variable {iter : Expr} {tg : TGenE} {own : List (Str × Nat)}
def tLcT (tg : TGenE) (c : Int) : TE := fun σ H Q => ∃ n Ab Fin xs, n ≤ sizeLine ∧ xs.length = n ∧ (∀ i G y, Ab i G y → xs[i]? = some y) ∧
  (∀ G, Fin G → ∀ G' D (rows : List RowT), (∀ z u, G z = some u → G' z = some u) → rows.map RowT.x = xs → (∀ r ∈ rows, G' r.T = some (.tup [r.x, .ref r.Z]) ∧ G' r.Z = some (.tup [.int c])) → G D = none → G' D = some (.lst (rows.map fun r => V.ref r.T)) → Q (.ref D) G') ∧ tg σ H n Ab Fin
theorem pe_lcT (h : PGenE X k iter tg) (hc : X.calm = true) (hr : Room (k + 1) X.A) (ok : BlkOk X.N X.env.scope scope own)
    (hx : ∀ (cl : List (Str × Addr)) (C : Addr), (compEnvC scope cl C X.env).kindOf x = some .local)
    (hse : ∀ (cl : List (Str × Addr)) (C : Addr) (pos : Pos), backTo pos (starEach [Expr.Name x q1, .Tuple [.Constant (.int c) kc pc] kz pz] (compEnvC scope cl C X.env)) = [(false, eval (.Name x q1) (compEnvC scope cl C X.env)), (false, eval (.Tuple [.Constant (.int c) kc pc] kz pz) (compEnvC scope cl C X.env))])
    (hse2 : ∀ (cl : List (Str × Addr)) (C : Addr) (pos : Pos), backTo pos (starEach [Expr.Constant (.int c) kc pc] (compEnvC scope cl C X.env)) = [(false, eval (.Constant (.int c) kc pc) (compEnvC scope cl C X.env))])
    (hdx : (x == ("__debug__" : Str)) = false := by decide) (hs : ∀ x, foldedSetIterable iter X.env x = pure x := by intro _; rfl) :
    PE X (.ListComp (eltT x q1 c kc pc kz pz ke qt) [⟨.Name x p0, iter, [], 0⟩] scope pos) (tLcT tg c) := by
  constructor
  intro pins s σ H Q I hq
  obtain ⟨n, Ab, Fin, xs, hsz, hxs, hO, hQ, hq⟩ := hq
  rw [eval_ListComp]
  have hfree : ∀ y ∈ scope.names, y.2 = .free → ∃ c, X.env.cells.lookup y.1 = some c := fun y hy e => by
    rcases ok.free y hy e with k | k
    · exact I.ok.has _ (.inl k)
    · exact I.ok.has _ (.inr k)
  refine wpAny_comprehension_free (use := none) rfl hs (closure_ok hfree) ok.kind (fun y hy e => by rw [ok.uniq y hy, e])
    (thn (h.run pins s σ H n _ _ I hq) fun u s1 ⟨H1, sc, I1, G⟩ => ?_)
  obtain ⟨a1, c0, rfl, ha1, ha2, hgen, hgens, os, ba, lim, kp, seg⟩ := G
  have hfresh : s1.gens[sc.gens.size]? = some (.fresh c0) := by rw [hgens]; exact Array.getElem?_push_size ..
  generalize sc.gens.size = g at hgen hfresh seg
  refine wpAny_pyIter_gen hgen ?_
  refine wpAny_newObj_type (newEnv_comp ?_) (by show 0 ≤ sizeLine; decide)
  generalize hD : s1.heap.objs.size = D
  generalize hs3 : ({ s1 with heap := s1.heap.push { cls := .type "list", data := .seq ([] : List Value).toArray } } : Shared) = s3
  show codeAny _ _ (.compStart (.ListComp (eltT x q1 c kc pc kz pz ke qt) [⟨.Name x p0, iter, [], 0⟩] scope pos) 0 (.ref a1) (.ref D) (compEnvC scope (cellsFrom (s3.heap.objs.size + 1) scope.names (cloFrom X.env.cells scope.names [])) s3.heap.objs.size X.env)) (compPost (model X.prog X.w) X.A X.xe none (EP X pins σ Q) (.ref D) s3.heap.objs.size) { s3 with heap := pushCells (s3.heap.push { cls := .type "dict", data := .dict #[] }) scope.names }
  generalize hcells : cellsFrom (s3.heap.objs.size + 1) scope.names (cloFrom X.env.cells scope.names []) = cel
  have hxe := hx cel s3.heap.objs.size
  have hsee := hse cel s3.heap.objs.size
  have hsee2 := hse2 cel s3.heap.objs.size
  have kce : (compEnvC scope cel s3.heap.objs.size X.env).scope.kind = .function := ok.kind
  generalize hce : compEnvC scope cel s3.heap.objs.size X.env = ce at hxe hsee hsee2 kce ⊢
  have cL : ce.locals = s3.heap.objs.size := by subst hce; rfl
  have h3 : s3.heap = s1.heap.push { cls := .type "list", data := .seq ([] : List Value).toArray } := by rw [← hs3]
  have g3 : s3.gens = s1.gens := by rw [← hs3]
  have o3 : s3.os = s1.os := by rw [← hs3]
  have szC : s3.heap.objs.size = D + 1 := by rw [h3, Heap.size_push, hD]
  generalize hC : s3.heap.objs.size = C at cL szC ⊢
  have k3 : ∀ b o, s1.heap.get? b = some o → s3.heap.get? b = some o := fun b o e => by rw [h3]; exact Heap.get?_push_of_some _ e
  have k4 : ∀ b o, s3.heap.get? b = some o → (pushCells (s3.heap.push { cls := .type "dict", data := .dict #[] }) scope.names).get? b = some o := fun b o e => pushCells_keeps _ _ _ _ (Heap.get?_push_of_some _ e)
  have eC : (pushCells (s3.heap.push { cls := .type "dict", data := .dict #[] }) scope.names).get? C = some { cls := .type "dict", data := .dict #[] } := by
    rw [← hC]
    exact pushCells_keeps _ _ _ _ (Heap.get?_push_size _ rfl)
  have eD3 : s3.heap.get? D = some { cls := .type "list", data := .seq ([] : List Value).toArray } := by
    rw [h3, ← hD]
    exact Heap.get?_push_size _ rfl
  have eD := k4 _ _ eD3
  have kp4 : ∀ b o, s1.heap.get? b = some o → (pushCells (s3.heap.push { cls := .type "dict", data := .dict #[] }) scope.names).get? b = some o := fun b o e => k4 b o (k3 b o e)
  have aD : a1 < D := by rw [← hD]; exact ha2
  have scD : sc.heap.objs.size ≤ D := by rw [← hD]; exact Nat.le_trans ha1 (Nat.le_of_lt ha2)
  have DC : D < C := by rw [szC]; exact Nat.lt_succ_self _
  have aC : a1 < C := Nat.lt_trans aD DC
  generalize hs4 : ({ s3 with heap := pushCells (s3.heap.push { cls := .type "dict", data := .dict #[] }) scope.names } : Shared) = s4
  have h4 : s4.heap = pushCells (s3.heap.push { cls := .type "dict", data := .dict #[] }) scope.names := by rw [← hs4]
  have g4 : s4.gens = s1.gens := by rw [← hs4]; exact g3
  have o4 : s4.os = sc.os := by rw [← hs4]; exact o3.trans os
  have sz4 : sc.heap.objs.size ≤ s4.heap.objs.size := by
    rw [h4]
    have q1 : (s3.heap.push { cls := .type "dict", data := .dict #[] }).objs.size ≤ (pushCells (s3.heap.push { cls := .type "dict", data := .dict #[] }) scope.names).objs.size := pushCells_size _ _
    have q2 := HeapSz.push_size s3.heap { cls := .type "dict", data := .dict #[] }
    exact Nat.le_trans (Nat.le_trans scD (Nat.le_of_lt DC)) (Nat.le_trans (Nat.le_of_eq hC.symm) (Nat.le_trans q2 q1))
  rw [← h4] at eC eD kp4
  have ns4 : s4.heap.Ns C (fun _ => none) := ⟨_, _, _, eC, rfl, (fun e he => by simp at he), fun _ => rfl⟩
  have cons4 : ConsT c s4.heap C D (fun _ => none) [] := ⟨ns4, ⟨_, eD⟩, fun r hr => (by cases hr), Nat.ne_of_gt DC, fun r hr => (by cases hr), List.nodup_nil⟩
  have start : OutT X H1 sc C D a1 g n Ab Fin xs c n s4 := by
    refine ⟨0, _, [], Nat.zero_add _, hgen.keeps kp4, lim.keeps kp4, ⟨.fresh c0, by rw [g4]; exact hfresh, rfl, ?_⟩, cons4, rfl, sz4, fun r hr => by cases hr⟩
    refine seg X.A.in1 [] (pf4 C D) (s4.setGen g .running) hr.in1 I1.ok.frames (fun b hb => by cases hb) (fun z hz => ?_) (fun b o e => kp4 b o e) o4 (allBare_setGen (by rw [g4]; exact ba) rfl)
    have hz : z ∈ pf4 C D s4.heap := hz
    obtain ⟨e, wh⟩ := pf4_mem cons4.pl cons4.rw_ hz
    refine ⟨.inr ?_, e, cons4.noncell hz⟩
    rcases wh with q | q | ⟨r, hr, _⟩
    · rw [q, hD, szC]; exact Nat.le_succ _
    · rw [q]; exact Nat.le_of_eq hD
    · cases hr
  have loop : codeAny (model X.prog X.w) X.A (.compLoop (.ListComp (eltT x q1 c kc pc kz pz ke qt) [⟨.Name x p0, iter, [], 0⟩] scope pos) 0 (.ref a1) (.ref D) ce) (compPost (model X.prog X.w) X.A X.xe none (EP X pins σ Q) (.ref D) C) s4 := by
    refine comp_tup (H := H1) (sB := sc) hc I1 hr cL kce hxe (by rw [kce]; rfl) hdx (Nat.ne_of_gt aC) (Nat.ne_of_gt aD) (Nat.le_trans scD (Nat.le_of_lt DC)) scD hsz hxs hO hsee hsee2 (fun s' m rows G os' ba' un hok pn hF hK hrows hnew => ?_) n start
    obtain ⟨kk, hl⟩ := hK.pl
    obtain ⟨oC5, _, _, eC5, _, _⟩ := id hK.ns
    have gC : G C = none := pn _ (pf4_C eC5)
    have gD : G D = none := pn _ (pf4_D hl)
    have gR : ∀ r ∈ rows, G r.T = none ∧ G r.Z = none := fun r hr => by
      have q := hK.rw_ r hr
      obtain ⟨t, e⟩ := q.z
      exact ⟨pn _ (pf4_T hK.pl hr q.t), pn _ (pf4_Z hK.pl hr q e)⟩
    have rl : rows.length = xs.length := by rw [← hrows, List.length_map]
    have vals : ∀ l : List RowT, Vals (l.map fun r => V.ref r.T) (l.map RowT.v) := fun l => by
      induction l with
      | nil => exact .nil
      | cons r l ih => exact .cons rfl ih
    have tD : trkT c G rows D = none := by rw [trkT_ne fun r hr => ⟨(hK.RC r hr).1.2, (hK.RC r hr).2.2⟩]; exact gD
    have okT := trkT_ok hok hK.nd hK.rw_ gR
    have okF : HOk X.prog X.w (upd (trkT c G rows) D (.lst (rows.map fun r => V.ref r.T))) s'.heap := HOk.laidN okT (fun _ _ q => q) tD ⟨by rw [List.length_map, rl, hxs]; exact hsz, rows.map RowT.v, kk, vals rows, hl⟩
    have old : ∀ b o, sc.heap.get? b = some o → b ≠ D ∧ ∀ r ∈ rows, r.T ≠ b ∧ r.Z ≠ b := fun b o e => by
      have lt := Heap.lt_size e
      exact ⟨Nat.ne_of_lt (Nat.lt_of_lt_of_le lt scD), fun r hr => ⟨Nat.ne_of_gt (Nat.lt_of_lt_of_le lt (hnew r hr).1), Nat.ne_of_gt (Nat.lt_of_lt_of_le lt (hnew r hr).2)⟩⟩
    have keepG : ∀ z u, G z = some u → (upd (trkT c G rows) D (.lst (rows.map fun r => V.ref r.T))) z = some u := fun z u e => by
      rw [upd_ne (fun q => by rw [q, gD] at e; cases e), trkT_ne fun r hr => ⟨fun q => (by rw [← q, (gR r hr).1] at e; cases e), fun q => (by rw [← q, (gR r hr).2] at e; cases e)⟩]
      exact e
    have I5 : Inv X pins σ (upd (trkT c G rows) D (.lst (rows.map fun r => V.ref r.T))) s' := I1.call' (ch := []) os' ⟨un.keep, un.slot, fun b o e nb hx => by
        obtain ⟨n1, n2⟩ := old b o e
        rw [upd_ne n1, trkT_ne n2]
        exact un.free b o e nb hx, un.there, fun b q e => keepG _ _ (un.tups b q e), fun b o q e => keepG _ _ (un.frzs b o q e), fun b q e => by
        obtain ⟨m, e'⟩ := un.tbls b q e
        exact ⟨m, keepG _ _ e'⟩⟩ okF ba' fun b z => by simp at z
    have fC : FpOk X pins (upd (trkT c G rows) D (.lst (rows.map fun r => V.ref r.T))) C := I1.fpOk (Nat.le_trans scD (Nat.le_of_lt DC)) (by rw [upd_ne (Nat.ne_of_gt DC), trkT_ne fun r hr => ⟨(hK.RC r hr).1.1, (hK.RC r hr).2.1⟩]; exact gC)
    obtain ⟨f0, f1, f2, f3, f4, f5⟩ := fC
    refine ⟨m, hK.ns, fun h'' sb => ⟨.ref D, _, I5.turned (t' := s'.toks) (fun b o hb e => (sb.2 b hb).trans e) f0 f1 f3 f4 f5, rfl, hQ G hF _ D rows keepG hrows (fun r hr => ?_) gD upd_same⟩⟩
    rw [upd_ne (hK.RC r hr).1.2, upd_ne (hK.RC r hr).2.2]
    exact trkT_at hK.nd r hr
  exact codeAny_compStart_list loop (wpAny_pyIter_gen (hgen.keeps kp4) loop)
end
end GenE
end

-- Y5w
section
set_option Elab.async false
set_option linter.all false
set_option maxRecDepth 100000
set_option exponentiation.threshold 10000
namespace R50
open PySem L2 OwnOps OwnNe G1 StX SupX
/-! kinds made, their text, their exchanges, as the callers read them -/
theorem made_same {H H' : Hp} {q dx C p : Addr} {o : HO} (hq : H q = none) (hd : H dx = none) (ne : dx ≠ q) (hp : (upd (upd H dx (.own q)) q (.ins C dx [])) p = none) (sx : SameX q (upd (upd (upd H dx (.own q)) q (.ins C dx [])) p o) H') : Same H H' := fun b u e => by
  refine sx b u (ne_of_none e hq) ?_
  have h1 : (upd (upd H dx (.own q)) q (.ins C dx [])) b = some u := by
    rw [upd_ne (ne_of_none e hq), upd_ne (ne_of_none e hd)]
    exact e
  rw [upd_ne (ne_of_none h1 hp)]
  exact h1
theorem made_at {H : Hp} {q dx C p : Addr} {o : HO} (hp : (upd (upd H dx (.own q)) q (.ins C dx [])) p = none) : (upd (upd (upd H dx (.own q)) q (.ins C dx [])) p o) q = some (.ins C dx []) := by
  have h1 : (upd (upd H dx (.own q)) q (.ins C dx [])) q = some (.ins C dx []) := upd_same
  rw [upd_ne (ne_of_none h1 hp)]
  exact h1
theorem made_up {q dx p : Addr} {o : HO} (hq : H q = none) (hd : H dx = none) (hp : (upd (upd H dx (.own q)) q (.ins C dx [])) p = none) : Same H (upd (upd (upd H dx (.own q)) q (.ins C dx [])) p o) := fun b u e => by
  have h1 : (upd (upd H dx (.own q)) q (.ins C dx [])) b = some u := by
    rw [upd_ne (ne_of_none e hq), upd_ne (ne_of_none e hd)]
    exact e
  rw [upd_ne (ne_of_none h1 hp)]
  exact h1
section
variable {K : PySem.W.Frag} {H : Hp} {Q : VK} {E : XK} {CN CK gK C : Addr} {x : Str}
abbrev saPin (K : PySem.W.Frag) (CN CK DI gK sd : Addr) : SpA := fun vs kv H Q E => ∃ a b rest, vs = a :: b :: rest ∧ okP kv ∧ rest.length ≤ sizeLine ∧ ∀ p o, H p = none → o.dict = none → o.cls = .type "tuple" → spPinB K CN CK DI gK (a :: b :: gP sd kv ++ [V.ref p]) (upd H p (.frz o (.tup rest))) Q E
theorem mk_pin {q dx : Addr} (hq : H q = none) (hd : H dx = none) (ne : dx ≠ q) {DI sd ga : Addr} {pins : List Str} {gs : List V} {os : List (Option (List Str))} (kc : KCls K C) (so : SupAt K C DI "__init__" gK) (wx : wd x = true) (n1 : 1 ≤ pins.length) (n6 : pins.length ≤ 6) (dif : difV (pins.map V.str) = true) (c12 : ∀ z ∈ pins, z.length ≤ 12)
    (gr : Grs K H ga gs os) (n10 : gs.length ≤ 10) (n40 : (texts os).length ≤ 40) (ok : grpB os pins = true) (sh : ∀ z ∈ texts os, z.length ≤ 1000)
    (k : ∀ H', Same H H' → PinI K H' q C dx x pins (gsOf pins os) → GFr H H' q → Q .non H') :
    saPin K CN CK DI gK sd (.ref q :: .str x :: pins.map V.str) [(("swaps" : Str), .ref ga)] (upd (upd H dx (.own q)) q (.ins C dx [])) Q E := by
  have line : 1000 ≤ sizeLine := by decide
  have x12 : x.length ≤ 12 := by
    unfold wd at wx
    simp only [Bool.and_eq_true, decide_eq_true_eq] at wx
    exact wx.1.1.1.1.2
  refine ⟨_, _, _, rfl, .inr ⟨_, rfl⟩, by rw [List.length_map]; omega, fun p o hp od oc => ?_⟩
  have up := made_up (C := C) (o := .frz o (.tup (pins.map V.str))) hq hd hp
  refine ⟨q, dx, C, p, .str x, .ref ga, pins.map V.str, o, rfl, made_at hp, upd_same, od, oc, kc, so, .str x, by show x.length ≤ 1000; omega, by rw [List.length_map]; exact n1, by rw [List.length_map]; exact n6, fun y hy => ?_, .inr (.inr ⟨x, pins, rfl, rfl, wx, dif, c12, .inr ⟨ga, gs, os, rfl, gr.same up, n10, n40, sh, .inr ⟨ok, fun H' sx pi fr => k H' (made_same hq hd ne hp sx) pi (fun C' dx' fs' ga' e1 e2 => Same.none up (fr C' dx' fs' ga' e1 e2))⟩⟩⟩)⟩
  obtain ⟨z, hz, rfl⟩ := List.mem_map.mp hy
  exact ⟨.str _, Nat.le_trans (c12 z hz) (by decide)⟩
end
theorem mk_pin0 {K : PySem.W.Frag} {H : Hp} {Q : VK} {E : XK} {CN CK gK C DI sd q dx : Addr} {x : Str} (hq : H q = none) (hd : H dx = none) (ne : dx ≠ q) {pins : List Str} (kc : KCls K C) (so : SupAt K C DI "__init__" gK) (wx : wd x = true) (n1 : 1 ≤ pins.length) (n6 : pins.length ≤ 6) (dif : difV (pins.map V.str) = true) (c12 : ∀ z ∈ pins, z.length ≤ 12)
    (hsd : ∀ H : Hp, SqT K H sd []) (ok : grpB [] pins = true) (k : ∀ H', Same H H' → PinI K H' q C dx x pins (gsOf pins []) → GFr H H' q → Q .non H') :
    saPin K CN CK DI gK sd (.ref q :: .str x :: pins.map V.str) [] (upd (upd H dx (.own q)) q (.ins C dx [])) Q E := by
  have line : 1000 ≤ sizeLine := by decide
  have x12 : x.length ≤ 12 := by
    unfold wd at wx
    simp only [Bool.and_eq_true, decide_eq_true_eq] at wx
    exact wx.1.1.1.1.2
  refine ⟨_, _, _, rfl, .inl rfl, by rw [List.length_map]; omega, fun p o hp od oc => ?_⟩
  have up := made_up (C := C) (o := .frz o (.tup (pins.map V.str))) hq hd hp
  refine ⟨q, dx, C, p, .str x, .ref sd, pins.map V.str, o, rfl, made_at hp, upd_same, od, oc, kc, so, .str x, by show x.length ≤ 1000; omega, by rw [List.length_map]; exact n1, by rw [List.length_map]; exact n6, fun y hy => ?_, .inr (.inr ⟨x, pins, rfl, rfl, wx, dif, c12, .inr ⟨sd, [], [], rfl, ⟨hsd _, rfl, fun i v h => by cases h⟩, by decide, by decide, fun z h => (by cases h), .inr ⟨ok, fun H' sx pi fr => k H' (made_same hq hd ne hp sx) pi (fun C' dx' fs' ga' e1 e2 => Same.none up (fr C' dx' fs' ga' e1 e2))⟩⟩⟩)⟩
  obtain ⟨z, hz, rfl⟩ := List.mem_map.mp hy
  exact ⟨.str _, Nat.le_trans (c12 z hz) (by decide)⟩
/-- an instance of that class, by its line -/
def LnI (H : Hp) (C p : Addr) (l : Str) : Prop := ∃ dx fs, H p = some (.ins C dx fs) ∧ fs.lookup ("_line" : Str) = some (.str l)
theorem LnI.same {H H' : Hp} {C p : Addr} {l : Str} (h : LnI H C p l) (s : Same H H') : LnI H' C p l := let ⟨dx, fs, a, b⟩ := h; ⟨dx, fs, s _ _ a, b⟩
section
variable {P : Program} {w : World} {K : PySem.W.Frag} {mg : Str → Option Value} {base : Heap}
def spText (K : PySem.W.Frag) (C : Addr) : Sp := fun vs H Q _ => ∃ p l, vs = [.ref p] ∧ LnI H C p l ∧ Q (.str l) H
theorem ok_text {f C : Addr} {fd : FuncData} (F : Fun K "text" "Kind.text" (sKi 4) f fd) (kc : KCls K C) : FnOk P w K mg base (L2.CX P w) 1 f fd ["self"] (spText K C) := by
  have sc : FnScope ["self"] ["self"] (defScope (sKi 4)) := ⟨rfl, rfl, rfl, by decide +kernel, rfl, by decide +kernel, by decide +kernel⟩
  refine F.okX sc (fun vs H Q E h => ?_) (fun cdv A outer s H vs Q E hr h => ?_)
  · obtain ⟨p, l, rfl, _⟩ := h
    rfl
  · obtain ⟨p, l, rfl, ⟨dx, fs, hp, lk⟩, k⟩ := h
    exact ⟨_, pss_one (ps_ret (pe_fld (pv 0) rfl)), _, rfl, p, C, dx, fs, _, rfl, hp, kc.cl, kc.n6, lk, k⟩
end
theorem PinI.ln {K : PySem.W.Frag} {H : Hp} {p C dx : Addr} {x : Str} {pins : List Str} {gss : List (List Str)} (h : PinI K H p C dx x pins gss) : LnI H C p (pinT x pins gss) := by
  obtain ⟨pa, ca, oa, ga, h1, _⟩ := h.ex
  exact ⟨dx, _, h1, kf_line' ..⟩
/-! exchanges() as a generator -/
section
open GenE
variable {P : Program} {w : World} {K : PySem.W.Frag} {mg : Str → Option Value} {base : Heap}
def spExE (K : PySem.W.Frag) : SpE := fun vs H n Ab Fin => ∃ p C dx fs oa xs, vs = [.ref p] ∧ H p = some (.ins C dx fs) ∧ KCls K C ∧ fs.lookup ("orders" : Str) = some (.ref oa) ∧ SqT K H oa xs ∧ n = xs.length ∧ (Ab = fun i _ y => xs[i]? = some y) ∧ Fin = fun G => Same H G
theorem ok_exE {f : Addr} {fd : FuncData} (F : Fun K "exchanges" "Kind.exchanges" (sKi 2) f fd) : GFnE P w K mg base 1 False f fd ["self"] (spExE K) := by
  obtain ⟨oc, od, kV, doc, pm, an, cdv, ct, osl, rfl, lk, hcd⟩ := F.ex
  have S : GScope ["self", "order"] ["self"] (defScope (sKi 2)) := ⟨rfl, rfl, rfl, by decide +kernel, rfl, by decide +kernel, by decide +kernel⟩
  refine genE_of (k := 0) (N := ["self", "order"]) (j := 1) lk hcd S (fun vs H n Ab Fin h => ?_) (by decide) (fun _ _ => rfl) (fun _ _ => rfl) (fun A outer s H vs n Ab Fin ex pn hr h => ?_)
  · obtain ⟨p, C, dx, fs, oa, xs, rfl, _⟩ := h
    rfl
  · obtain ⟨p, C, dx, fs, oa, xs, rfl, hp, kc, lk', hq, rfl, rfl, rfl⟩ := h
    refine ⟨_, _, .of (pi_tup (pe_fld (pv 0) rfl)), .of (pg_name (i := 1) S.nd rfl (Or.inl rfl)), .of (pv 1), ?_⟩
    refine ⟨_, rfl, p, C, dx, fs, _, rfl, hp, kc.cl, kc.n5, lk', oa, rfl, ⟨_, hq⟩, ?_⟩
    refine ⟨fun _ G => Same H G, Same.refl _, ⟨fun i G hi g => ?_, fun G g => ?_, fun i G G' g e => g.trans e⟩⟩
    · have hx : xs[i]? = some (xs[i]'hi) := List.getElem?_eq_getElem hi
      refine ⟨⟨_, _, Same.tupS g hq, hx⟩, fun x G' y => ?_⟩
      obtain ⟨rfl, e⟩ := y
      have e := e _ (Same.tupS g hq)
      exact ⟨_, rfl, e, g⟩
    · exact ⟨⟨_, Same.tupS g hq, Nat.le_refl _⟩, g⟩
end
end R50
end

-- SortStr
section
set_option Elab.async false
set_option linter.all false
set_option maxRecDepth 100000
/-! sorted(xs, key=str), xs texts. -/
namespace SortStr
open PySem L2 PySem.W PyProof.Rows
/-- the texts in order -/
def srtS (xs : List Str) : List Str := xs.mergeSort (dataLe false PyData.str)
theorem alikeS (xs : List Str) : AllAlike (xs.map PyData.str) := fun d hd d' hd' => by
  obtain ⟨x, _, rfl⟩ := List.mem_map.mp hd
  obtain ⟨y, _, rfl⟩ := List.mem_map.mp hd'
  rfl
theorem sortableS (xs : List Str) : Sortable (xs.map PyData.str) := .inr fun d hd => by
  obtain ⟨x, _, rfl⟩ := List.mem_map.mp hd
  exact ⟨fun e => (by cases e), fun _ e => (by cases e)⟩
theorem each_strs : ∀ {xs : List Str} {us : List Value}, Vals (xs.map V.str) us → EachIs (fun v x => ∃ t, v = Value.str x t) us xs
  | [], _, r => by cases r; exact .nil
  | x :: xs, _, r => by
    cases r with
    | cons a b => exact .cons a (each_strs b)
theorem strs_each : ∀ {xs : List Str} {us : List Value}, EachIs (fun v x => ∃ t, v = Value.str x t) us xs → Vals (xs.map V.str) us
  | _, _, .nil => .nil
  | _, _, .cons a b => .cons a (strs_each b)
def rKS (K : PySem.W.Frag) : List V → List V → Hp → VK → Prop := fun vs zs H Q => ∃ (a : Addr) (xs : List Str), vs = [.ref a] ∧ zs = [.ty "str"] ∧ SqL K H a (xs.map V.str) ∧ ∀ p, H p = none → Q (.ref p) (upd H p (.lst ((srtS xs).map V.str)))
theorem cr_sortKS {X : Cx} (hu : X.A.units + 64 < cLine) : CallRK X (.builtin "sorted") [Str.ofString "key"] (rKS X.K) := by
  intro pins s σ H vs zs us ws Q I r rz h
  obtain ⟨a, xs, rfl, rfl, hs, q⟩ := h
  obtain rfl := Vals.ref1 r
  obtain ⟨w1, rfl, e1⟩ := vals1 rz
  obtain rfl : w1 = Value.type "str" := e1
  obtain ⟨its, rv, hl, hz⟩ := I.list hs
  rw [List.length_map] at hz
  refine sorted_key_data (bs := xs) (R := fun v x => ∃ t, v = Value.str x t) (f := .type "str") (b := false) PyData.str hl.isList (each_strs rv) (alikeS xs) (sortableS xs) hz (fun x _ => ?_) (PyProof.Rows.ksk_s1 _ _) (fun _ => PyProof.Rows.ksk_l1 _ _) (fun _ => rfl)
    (fun v x hv _ h tk kp => ?_) (fun out c h' tk kp fresh at_ len each => ?_)
  · show X.A.units + 2 + PyData.depth (.str x) < cLine
    have : PyData.depth (.str x) ≤ 1 := by first | exact Nat.le_refl _ | exact Nat.zero_le _ | decide
    omega
  · obtain ⟨t, rfl⟩ := hv
    exact PySem.P.str_of_str ⟨h, tk, rfl, fun _ _ e => e, .str x t⟩
  · have e : out.length = (srtS xs).length := by rw [len]; exact (List.length_mergeSort xs).symm
    exact ⟨.ref _, upd H (s.heap.objs.size + 1) (.lst ((srtS xs).map V.str)), I.laid (t' := tk) kp (Nat.le_succ _) ⟨by rw [List.length_map, ← e, len]; exact hz, out, c, strs_each each, at_⟩, rfl, q _ (I.hok.fresh (Nat.le_succ _))⟩
/-- sorted(d, key=str), d a dict with text keys -/
def rKD : List V → List V → Hp → VK → Prop := fun vs zs H Q => ∃ (a : Addr) (kvs : List (Key × V)) (xs : List Str), vs = [.ref a] ∧ zs = [.ty "str"] ∧ Rd H a (.dK kvs) ∧ kvs.map (·.1) = xs.map Sum.inr ∧ ∀ p, H p = none → Q (.ref p) (upd H p (.lst ((srtS xs).map V.str)))
theorem cr_sortKD {X : Cx} (calm : X.calm = true) (hu : X.A.units + 64 < cLine) : CallRK X (.builtin "sorted") [Str.ofString "key"] rKD := by
  intro pins s σ H vs zs us ws Q I r rz h
  obtain ⟨a, kvs, xs, rfl, rfl, hd, hks, q⟩ := h
  obtain rfl := Vals.ref1 r
  obtain ⟨w1, rfl, e1⟩ := vals1 rz
  obtain rfl : w1 = Value.type "str" := e1
  obtain ⟨z, lo, es, rel, dd⟩ := dk_rd I.hok hd
  obtain ⟨ep, at0⟩ := dd.dictAt
  have keys : es.map (·.1) = xs.map Sum.inr := rel.keys.symm.trans hks
  have size : es.length = xs.length := by
    have e := congrArg List.length keys
    rwa [List.length_map, List.length_map] at e
  have z0 : kvs.length = xs.length := by
    have e := congrArg List.length hks
    rwa [List.length_map, List.length_map] at e
  have z16 : es.length ≤ sizeLine := by rw [size, ← z0]; exact z
  refine PyProof.Rows.call_function_entry_kw PyProof.Rows.kind_sorted PyProof.Rows.plain_sorted PyProof.Rows.entry_sorted (PyProof.Rows.ksk_s1 _ _) ?_
  unfold Builtin.«sorted»
  refine wpAny_bind (m := checkCount "sorted" 1 1 _) (wpAny_pure (wpAny_bind (kdu_collect (A := X.A.in1) (kdl_dict (knd := mixKind X.prog X.w) (kvs := es) (ep := ep) lo) (I.ok.hd calm) at0 z16 fun h1 tk acc kp got => ?_)))
  have len : acc.toList.length = xs.length := by rw [Array.length_toList, got.1, size]
  have txts : EachIs (fun v x => ∃ t, v = Value.str x t) acc.toList xs := by
    refine EachIs.of_zip len fun p hp => ?_
    obtain ⟨j, hj, ej⟩ := List.getElem_of_mem hp
    have hj1 : j < acc.toList.length := by rw [List.length_zip] at hj; omega
    have hj2 : j < xs.length := by omega
    rw [List.getElem_zip] at ej
    subst ej
    obtain ⟨k, x, e1, e2⟩ := got.2 j acc.toList[j] (by rw [← Array.getElem?_toList]; exact List.getElem?_eq_getElem hj1)
    have e3 : (es.map (·.1))[j]? = some k := by rw [List.getElem?_map, e1] <;> rfl
    rw [keys, List.getElem?_map, List.getElem?_eq_getElem hj2] at e3
    cases (show some (Sum.inr xs[j]) = some k from e3)
    exact Value.isStrOf_shape (x := xs[j]) (v := acc.toList[j]) e2
  have lenZ : acc.toList.length ≤ sizeLine := by rw [len, ← size]; exact z16
  have I1 : L2.Inv X pins σ H { s with heap := h1, toks := tk } := I.kept kp
  refine wpAny_bind (wpAny_newList ?_ lenZ)
  have newl : (h1.push (seqObj "list" acc.toList.toArray 0)).get? h1.objs.size = some (seqObj "list" acc.toList.toArray 0) := Heap.get?_push_size _ rfl
  show wpAny _ _ _ _ _ { s with heap := h1.push (seqObj "list" acc.toList.toArray 0), toks := tk }
  refine wpAny_bind (wpAny_holding ?_)
  refine list_sort_key_data (s := { s with heap := h1.push (seqObj "list" acc.toList.toArray 0), toks := tk }) (bs := xs) (R := fun v x => ∃ t, v = Value.str x t) (f := .type "str") (b := false) PyData.str newl txts (alikeS xs) (sortableS xs)
    (by rw [← len]; exact lenZ) (fun x _ => ?_) (PyProof.Rows.ksk_l1 _ _) rfl (fun v x hv _ h tk kp => ?_) (fun out c h' tk' kp' at_ len' each => ?_)
  · show X.A.units + 1 + 1 + PyData.depth (.str x) < cLine
    have : PyData.depth (.str x) ≤ 1 := by first | exact Nat.le_refl _ | exact Nat.zero_le _ | decide
    omega
  · obtain ⟨t, rfl⟩ := hv
    exact PySem.P.str_of_str ⟨h, tk, rfl, fun _ _ e => e, .str x t⟩
  · have e : out.length = (srtS xs).length := by rw [len']; exact (List.length_mergeSort xs).symm
    have old : ∀ b o, h1.get? b = some o → h'.get? b = some o := fun b o hb => kp' b o (Nat.ne_of_lt (Heap.lt_size hb)) (Heap.get?_push_of_some _ hb)
    refine wpAny_pure ⟨_, rfl, .ref h1.objs.size, upd H h1.objs.size (.lst ((srtS xs).map V.str)), I1.laid (t' := tk') old (Nat.le_refl _) ⟨by rw [List.length_map, ← e, len', ← len]; exact lenZ, out, c, strs_each each, at_⟩, rfl, q _ (I1.hok.fresh (Nat.le_refl _))⟩
theorem srtS_perm (xs : List Str) : (srtS xs).Perm xs := List.mergeSort_perm xs _
theorem srtS_len (xs : List Str) : (srtS xs).length = xs.length := List.length_mergeSort xs
end SortStr
end

-- Y5f
section
set_option Elab.async false
set_option linter.all false
set_option maxRecDepth 100000
set_option exponentiation.threshold 10000
namespace R50
open PySem L2 OwnOps OwnNe G1 StX SupX SortStr RZ
/-! PinKind.first_writing -/
abbrev NFw : List Str := ["self", "words", "placed", "group", "index", "word"]
section
variable {P : Program} {w : World} {K : PySem.W.Frag} {mg : Str → Option Value} {base : Heap}
/-- indices of a list -/
def InR (css : List (List Int)) (n : Nat) : Prop := ∀ c ∈ css, ∀ i ∈ c, 0 ≤ i ∧ i < (n : Int)
def spFW (K : PySem.W.Frag) : Sp := fun vs H Q _ => ∃ p a C dx fs ga css rs ws, vs = [.ref p, .ref a] ∧ H p = some (.ins C dx fs) ∧ KCls K C ∧ fs.lookup ("_groups" : Str) = some (.ref ga) ∧ LIs H ga css rs ∧ H a = some (.lst ((ws : List Str).map V.str)) ∧ InR css ws.length ∧ (∀ c ∈ css, c.length ≤ 50) ∧
  ∀ r H' (ps : List Str), Same H H' → ps.length = ws.length → (∀ z ∈ ps, z ∈ ws) → H' r = some (.tup (ps.map V.str)) → Q (.ref r) H'
def wix (ws : List Str) (c : List Int) : List Str := c.map fun i => ws.getD i.toNat Str.empty
theorem wix_at {ws : List Str} {i : Int} (h0 : 0 ≤ i) (h1 : i < (ws.length : Int)) : atI (ws.map V.str) i = some (.str (ws.getD i.toNat Str.empty)) := by
  obtain ⟨j, hj⟩ : ∃ j : Nat, i = j := ⟨_, (Int.toNat_of_nonneg h0).symm⟩
  have h3 : j < ws.length := by omega
  refine at_of hj ?_
  rw [List.getElem?_map, List.getElem?_eq_getElem h3, hj, Int.toNat_natCast, List.getD_eq_getElem?_getD, List.getElem?_eq_getElem h3]
  rfl
theorem wix_mem {ws : List Str} {c : List Int} (h : ∀ i ∈ c, 0 ≤ i ∧ i < (ws.length : Int)) : ∀ z ∈ wix ws c, z ∈ ws := fun z hz => by
  obtain ⟨i, hi, rfl⟩ := List.mem_map.mp hz
  obtain ⟨h0, h1⟩ := h i hi
  have h3 : i.toNat < ws.length := by omega
  rw [List.getD_eq_getElem?_getD, List.getElem?_eq_getElem h3]
  exact List.getElem_mem h3
theorem set_mem {ps ws : List Str} {x : Str} {j : Nat} (h : ∀ z ∈ ps, z ∈ ws) (hx : x ∈ ws) : ∀ z ∈ ps.set j x, z ∈ ws := fun z hz => by
  rcases List.mem_or_eq_of_mem_set hz with q | q
  · exact h z q
  · rw [q]; exact hx
set_option maxHeartbeats 2000000 in
theorem ok_fw {f : Addr} {fd : FuncData} (F : Fun K "first_writing" "PinKind.first_writing" (sPin 1) f fd) (T : Bi mg) : FnOk P w K mg base (L2.CX P w) 1 f fd ["self", "words"] (spFW K) := by
  have sc : FnScope NFw ["self", "words"] (defScope (sPin 1)) := ⟨rfl, rfl, rfl, by decide +kernel, rfl, by decide +kernel, by decide +kernel⟩
  have hN := sc.nd
  refine F.okX sc (fun vs H Q E h => ?_) (fun cdv A outer s H vs Q E hr h => ?_)
  · obtain ⟨p, a, C, dx, fs, ga, css, rs, ws, rfl, _⟩ := h
    rfl
  · obtain ⟨p, a, C, dx, fs, ga, css, rs, ws, rfl, hp, kc, lk, L, ha, inr, few, fin⟩ := h
    refine ⟨_, pss_cons (ps_set (i := 2) hN rfl (Or.inl rfl) (pe_callTy call_list_of (by rfl) T.list (by decide +kernel) (pa_cons (pv 1) pa_nil)))
      (pss_cons (ps_for passOwn rfl (pi_list (pe_fld (pv 0) rfl)) (pg_name (i := 3) hN rfl (Or.inl rfl))
        (pss_one (ps_for passOwn rfl (pi_zipA (by rfl) T.zip (pa_cons (pv 3) (pa_cons (pe_callBK (cr_sortKS hr.units) (by rfl) T.sorted (by decide +kernel) (pa_cons (pe_lc (own := [("index", 4)]) (g := gName 4) (tt := tYes) (te := tOp (rIxL K) (tVar 1) (tVar 4)) rfl hN (pi_list (pv 3)) (blkOk_by (N := NFw) (sc := defScope (sPin 1)) (by decide +kernel)) (fun _ _ _ _ _ => pg_name (i := 4) hN rfl (Or.inl rfl)) (fun _ _ _ _ _ => pts_nil) (fun _ _ _ _ _ => pe_ix (show IxR _ (rIxL K) from ix_list) (pv 1) (pv 4) (fun _ _ => rfl))) pa_nil) (pk_cons (pe_bltn (v := .ty "str") (by rfl) T.str (by decide +kernel) rfl) pk_nil)) pa_nil))) (pg_two (i := 4) (j := 5) rfl hN rfl (Or.inl rfl) rfl (Or.inl rfl))
          (pss_one (ps_asg (pv 5) (pg_sub (pv 2) (pv 4) set_list))))))
      (pss_one (ps_ret (pe_callTy call_tuple_of (by rfl) T.tuple (by decide +kernel) (pa_cons (pv 2) pa_nil))))), ?_⟩
    refine ⟨_, rfl, a, _, rfl, .inl (SqL.of ha), fun l nl => ?_⟩
    have s1 := same_upd (o := .lst (ws.map V.str)) nl
    have hl : (upd H l (.lst (ws.map V.str))) l = some (.lst (ws.map V.str)) := upd_same
    generalize upd H l (.lst (ws.map V.str)) = H1 at s1 hl ⊢
    rw [show L2.start NFw [V.ref p, V.ref a] = [some (.ref p), some (.ref a), none, none, none, none] from rfl]
    refine ⟨_, rfl, p, C, dx, fs, _, rfl, s1 _ _ hp, kc.cl, kc.n7, lk, ga, rfl, ⟨_, SqL.of (s1 _ _ L.at_)⟩, for_list (K := K) (a := ga) (xs := rs.map V.ref) (fun j σ G => (∃ y3 y4 y5, σ = [some (.ref p), some (.ref a), some (.ref l), y3, y4, y5]) ∧ Same H G ∧ ∃ ps : List Str, G l = some (.lst (ps.map V.str)) ∧ ps.length = ws.length ∧ ∀ z ∈ ps, z ∈ ws) ⟨⟨_, _, _, rfl⟩, s1, ws, hl, rfl, fun z h => h⟩ (fun j σ G _ ⟨_, sm, _⟩ => SqL.of (sm _ _ L.at_)) ?_ ?_⟩
    · rintro j x σ G hx ⟨⟨y3, y4, y5, rfl⟩, sm, ps, hps, lps, mps⟩
      rw [List.getElem?_map] at hx
      obtain ⟨q, hq, rfl⟩ := Option.map_eq_some_iff.mp hx
      obtain ⟨c, hc, hqc⟩ := L.it j q hq
      have cin := inr c (List.mem_of_getElem? hc)
      have cfew := few c (List.mem_of_getElem? hc)
      dsimp only [gName]
      simp only [List.set_cons_succ, List.set_cons_zero]
      refine ⟨_, rfl, _, rfl, q, rfl, ⟨_, SqL.of (sm _ _ hqc)⟩, fun D nD => ?_⟩
      refine walk_it (walk_list (K := K) (a := q) (xs := c.map V.int)) (fun i G1 => Same G G1 ∧ G1 D = some (.lst ((wix ws (c.take i)).map V.str))) ⟨same_upd nD, upd_same⟩ (fun i G1 _ ⟨s2, _⟩ => SqL.of (s2 _ _ (sm _ _ hqc))) (fun i v G1 G2 hi ⟨s2, hD⟩ ⟨e, hx⟩ => ?_) (fun G1 ⟨s2, hD⟩ => ?_)
      · subst e
        rw [List.getElem?_map] at hx
        obtain ⟨z, hz, rfl⟩ := Option.map_eq_some_iff.mp hx
        obtain ⟨z0, z1⟩ := cin z (List.mem_of_getElem? hz)
        rw [List.length_map] at hi
        refine ⟨rfl, yes_go (iteT ⟨_, rfl, _, rfl, a, _, _, _, rfl, rfl, SqL.of (s2 _ _ (sm _ _ ha)), wix_at z0 z1, _, hD, ?_, same_put s2 nD, ?_⟩)⟩
        · unfold wix
          rw [List.length_map, List.length_map, List.length_take]
          exact small1000 (by omega)
        · rw [upd_same]
          unfold wix
          rw [take_succ_at hz, List.map_append, List.map_append]
          rfl
      · rw [List.length_map, List.take_length] at hD
        refine ⟨D, wix ws c, rfl, rfl, SqL.of hD, fun o no => ⟨q, o, _, _, rfl, .inl ⟨SqL.of (same_upd no _ _ (s2 _ _ (sm _ _ hqc))), SqL.of upd_same, for_zipL (K := K) (a := q) (b := o) (by rw [List.length_map, List.length_map, srtS_len]; unfold wix; rw [List.length_map]) (fun i σ G2 => (∃ y4 y5, σ = [some (.ref p), some (.ref a), some (.ref l), some (.ref q), y4, y5]) ∧ Same H G2 ∧ G2 o = some (.lst ((srtS (wix ws c)).map V.str)) ∧ ∃ ps : List Str, G2 l = some (.lst (ps.map V.str)) ∧ ps.length = ws.length ∧ ∀ z ∈ ps, z ∈ ws) ⟨⟨_, _, rfl⟩, (sm.trans s2).trans (same_upd no), upd_same, ps, same_upd no _ _ (s2 _ _ hps), lps, mps⟩ (fun i σ G2 ⟨_, s3, ho, _⟩ => ⟨SqL.of (s3 _ _ hqc), SqL.of ho⟩) ?_ ?_⟩⟩⟩
        · rintro i x y U σ G2 hx hy ⟨⟨y4, y5, rfl⟩, s3, ho, ps2, hps2, lps2, mps2⟩ nU
          rw [List.getElem?_map] at hx hy
          obtain ⟨z, hz, rfl⟩ := Option.map_eq_some_iff.mp hx
          obtain ⟨u, hu, rfl⟩ := Option.map_eq_some_iff.mp hy
          obtain ⟨z0, z1⟩ := cin z (List.mem_of_getElem? hz)
          have hu2 : u ∈ ws := wix_mem cin u ((srtS_perm _).mem_iff.mp (List.mem_of_getElem? hu))
          have s4 := same_upd (o := .tup [.int z, .str u]) nU
          refine ⟨U, _, rfl, SqT.of upd_same, rfl, _, _, rfl, _, _, rfl, rfl, ?_⟩
          refine ⟨_, rfl, _, rfl, _, rfl, l, _, _, z.toNat, rfl, rfl, s4 _ _ hps2, ?_, ?_⟩
          · unfold ixN
            rw [List.length_map, lps2, if_pos z0, if_pos z1]
          have nl2 : H l = none := nl
          have nol : o ≠ l := fun w => by
            have := s2 _ _ hps
            rw [← w, no] at this
            cases this
          refine ⟨⟨_, _, rfl⟩, same_put (s3.trans s4) nl2, ?_, ps2.set z.toNat u, ?_, ?_, set_mem mps2 hu2⟩
          · rw [upd_ne nol]
            exact s4 _ _ ho
          · rw [upd_same, List.map_set]
          · rw [List.length_set, lps2]
        · rintro σ G2 ⟨⟨y4, y5, rfl⟩, s3, ho, ps2, hps2, lps2, mps2⟩
          exact ⟨⟨_, _, _, rfl⟩, s3, ps2, hps2, lps2, mps2⟩
    · rintro σ G ⟨⟨y3, y4, y5, rfl⟩, sm, ps, hps, lps, mps⟩
      refine ⟨_, rfl, l, _, rfl, .inl ⟨SqL.of hps, fun r nr => ?_⟩⟩
      exact fin r _ ps (sm.trans (same_upd nr)) lps mps upd_same
end
end R50
end

-- RatMath2
section
namespace RatM
theorem add_nrm {a b c d : Int} (hb : b ≠ 0) (hd : d ≠ 0) : nt (nt a b * nb c d + nt c d * nb a b) (nb a b * nb c d) = nt (a * d + c * b) (b * d) ∧ nb (nt a b * nb c d + nt c d * nb a b) (nb a b * nb c d) = nb (a * d + c * b) (b * d) := by
  have p1 := nb_pos (t := a) hb
  have p2 := nb_pos (t := c) hd
  have h1 := nt_mul (t := a) (b := b); have h2 := nb_mul (t := a) (b := b)
  have h3 := nt_mul (t := c) (b := d); have h4 := nb_mul (t := c) (b := d)
  have g1 := cmn_ne (t := a) hb; have g2 := cmn_ne (t := c) hd
  refine nrm_of (k := cmn a b * cmn c d) (k' := 1) (Int.mul_ne_zero (by omega) (by omega)) (Int.mul_ne_zero hb hd) (Int.mul_ne_zero g1 g2) (by decide) ?_ ?_
  · generalize nt a b = x at *; generalize nb a b = y at *; generalize cmn a b = g at *
    generalize nt c d = x' at *; generalize nb c d = y' at *; generalize cmn c d = h at *
    rw [← h1, ← h2, ← h3, ← h4, Int.mul_one, Int.add_mul]
    congr 1 <;> ac_rfl
  · generalize nt a b = x at *; generalize nb a b = y at *; generalize cmn a b = g at *
    generalize nt c d = x' at *; generalize nb c d = y' at *; generalize cmn c d = h at *
    rw [← h2, ← h4, Int.mul_one]
    ac_rfl
theorem sub_nrm {a b c d : Int} (hb : b ≠ 0) (hd : d ≠ 0) : nt (nt a b * nb c d - nt c d * nb a b) (nb a b * nb c d) = nt (a * d - c * b) (b * d) ∧ nb (nt a b * nb c d - nt c d * nb a b) (nb a b * nb c d) = nb (a * d - c * b) (b * d) := by
  have p1 := nb_pos (t := a) hb
  have p2 := nb_pos (t := c) hd
  have h1 := nt_mul (t := a) (b := b); have h2 := nb_mul (t := a) (b := b)
  have h3 := nt_mul (t := c) (b := d); have h4 := nb_mul (t := c) (b := d)
  have g1 := cmn_ne (t := a) hb; have g2 := cmn_ne (t := c) hd
  refine nrm_of (k := cmn a b * cmn c d) (k' := 1) (Int.mul_ne_zero (by omega) (by omega)) (Int.mul_ne_zero hb hd) (Int.mul_ne_zero g1 g2) (by decide) ?_ ?_
  · generalize nt a b = x at *; generalize nb a b = y at *; generalize cmn a b = g at *
    generalize nt c d = x' at *; generalize nb c d = y' at *; generalize cmn c d = h at *
    rw [← h1, ← h2, ← h3, ← h4, Int.mul_one, Int.sub_mul]
    congr 1 <;> ac_rfl
  · generalize nt a b = x at *; generalize nb a b = y at *; generalize cmn a b = g at *
    generalize nt c d = x' at *; generalize nb c d = y' at *; generalize cmn c d = h at *
    rw [← h2, ← h4, Int.mul_one]
    ac_rfl
theorem mul_nrm {a b c d : Int} (hb : b ≠ 0) (hd : d ≠ 0) : nt (nt a b * nt c d) (nb a b * nb c d) = nt (a * c) (b * d) ∧ nb (nt a b * nt c d) (nb a b * nb c d) = nb (a * c) (b * d) := by
  have p1 := nb_pos (t := a) hb
  have p2 := nb_pos (t := c) hd
  have h1 := nt_mul (t := a) (b := b); have h2 := nb_mul (t := a) (b := b)
  have h3 := nt_mul (t := c) (b := d); have h4 := nb_mul (t := c) (b := d)
  have g1 := cmn_ne (t := a) hb; have g2 := cmn_ne (t := c) hd
  refine nrm_of (k := cmn a b * cmn c d) (k' := 1) (Int.mul_ne_zero (by omega) (by omega)) (Int.mul_ne_zero hb hd) (Int.mul_ne_zero g1 g2) (by decide) ?_ ?_
  · generalize nt a b = x at *; generalize nb a b = y at *; generalize cmn a b = g at *
    generalize nt c d = x' at *; generalize nb c d = y' at *; generalize cmn c d = h at *
    rw [← h1, ← h3, Int.mul_one]
    ac_rfl
  · generalize nt a b = x at *; generalize nb a b = y at *; generalize cmn a b = g at *
    generalize nt c d = x' at *; generalize nb c d = y' at *; generalize cmn c d = h at *
    rw [← h2, ← h4, Int.mul_one]
    ac_rfl
theorem nt_ne {c d : Int} (hd : d ≠ 0) (hc : c ≠ 0) : nt c d ≠ 0 := fun z => by
  have h3 := nt_mul (t := c) (b := d)
  rw [z, Int.zero_mul] at h3
  exact hc h3.symm
theorem over_nrm {a b c d : Int} (hb : b ≠ 0) (hd : d ≠ 0) (hc : c ≠ 0) : nt (nt a b * nb c d) (nb a b * nt c d) = nt (a * d) (b * c) ∧ nb (nt a b * nb c d) (nb a b * nt c d) = nb (a * d) (b * c) := by
  have p1 := nb_pos (t := a) hb
  have p2 := nt_ne hd hc
  have h1 := nt_mul (t := a) (b := b); have h2 := nb_mul (t := a) (b := b)
  have h3 := nt_mul (t := c) (b := d); have h4 := nb_mul (t := c) (b := d)
  have g1 := cmn_ne (t := a) hb; have g2 := cmn_ne (t := c) hd
  refine nrm_of (k := cmn a b * cmn c d) (k' := 1) (Int.mul_ne_zero (by omega) p2) (Int.mul_ne_zero hb hc) (Int.mul_ne_zero g1 g2) (by decide) ?_ ?_
  · generalize nt a b = x at *; generalize nb a b = y at *; generalize cmn a b = g at *
    generalize nt c d = x' at *; generalize nb c d = y' at *; generalize cmn c d = h at *
    rw [← h1, ← h4, Int.mul_one]
    ac_rfl
  · generalize nt a b = x at *; generalize nb a b = y at *; generalize cmn a b = g at *
    generalize nt c d = x' at *; generalize nb c d = y' at *; generalize cmn c d = h at *
    rw [← h2, ← h3, Int.mul_one]
    ac_rfl
theorem eq_iff {a b c d : Int} (hb : b ≠ 0) (hd : d ≠ 0) : (nt a b = nt c d ∧ nb a b = nb c d) ↔ nt a b * nb c d = nt c d * nb a b := by
  constructor
  · rintro ⟨h1, h2⟩
    rw [h1, h2]
  · intro h
    have p1 := nb_pos (t := a) hb
    have p2 := nb_pos (t := c) hd
    have q := nrm_cross (by omega) (by omega) h
    rw [(nrm_id hb).1, (nrm_id hb).2, (nrm_id hd).1, (nrm_id hd).2] at q
    exact q
/-- the sign that makes cross products comparable -/
def sg (v : Int) : Int := 1 - 2 * (if decide (v < 0) = true then (1 : Int) else 0)
theorem sg_cases (v : Int) : (v < 0 ∧ sg v = -1) ∨ (0 ≤ v ∧ sg v = 1) := by
  unfold sg
  by_cases h : v < 0
  · exact .inl ⟨h, by rw [decide_eq_true h, if_pos rfl]; rfl⟩
  · exact .inr ⟨by omega, by rw [decide_eq_false h, if_neg Bool.false_ne_true]; rfl⟩
theorem sg_pos {v : Int} (h : v ≠ 0) : 0 < v * sg v := by
  rcases sg_cases v with ⟨h1, h2⟩ | ⟨h1, h2⟩ <;> rw [h2] <;> omega
theorem cmp_facts {a b c d : Int} (hb : b ≠ 0) (hd : d ≠ 0) : ∃ m : Int, 0 < m ∧ a * d * sg (b * d) = nt a b * nb c d * m ∧ c * b * sg (b * d) = nt c d * nb a b * m := by
  have p1 := nb_pos (t := a) hb
  have p2 := nb_pos (t := c) hd
  have h1 := nt_mul (t := a) (b := b); have h2 := nb_mul (t := a) (b := b)
  have h3 := nt_mul (t := c) (b := d); have h4 := nb_mul (t := c) (b := d)
  have hp := sg_pos (Int.mul_ne_zero hb hd)
  refine ⟨cmn a b * cmn c d * sg (b * d), ?_, ?_, ?_⟩
  · have e : b * d * sg (b * d) = (nb a b * nb c d) * (cmn a b * cmn c d * sg (b * d)) := by
      generalize sg (b * d) = s
      generalize nb a b = y at *; generalize cmn a b = g at *; generalize nb c d = y' at *; generalize cmn c d = h at *
      rw [← h2, ← h4]
      ac_rfl
    rw [e] at hp
    rcases Int.lt_trichotomy (cmn a b * cmn c d * sg (b * d)) 0 with z | z | z
    · have := Int.mul_neg_of_pos_of_neg (Int.mul_pos p1 p2) z; omega
    · rw [z, Int.mul_zero] at hp; omega
    · exact z
  · generalize sg (b * d) = s
    generalize nt a b = x at *; generalize cmn a b = g at *; generalize nb c d = y' at *; generalize cmn c d = h at *
    rw [← h1, ← h4]
    ac_rfl
  · generalize sg (b * d) = s
    generalize nb a b = y at *; generalize cmn a b = g at *; generalize nt c d = x' at *; generalize cmn c d = h at *
    rw [← h2, ← h3]
    ac_rfl
theorem cmp_all {a b c d : Int} (hb : b ≠ 0) (hd : d ≠ 0) :
    ((nt a b = nt c d ∧ nb a b = nb c d) ↔ a * d * sg (b * d) = c * b * sg (b * d)) ∧ (nt a b * nb c d < nt c d * nb a b ↔ a * d * sg (b * d) < c * b * sg (b * d)) ∧ (nt c d * nb a b < nt a b * nb c d ↔ c * b * sg (b * d) < a * d * sg (b * d)) := by
  obtain ⟨m, m0, e1, e2⟩ := cmp_facts (a := a) (c := c) hb hd
  rw [e1, e2, eq_iff hb hd]
  refine ⟨⟨fun h => by rw [h], fun h => Int.eq_of_mul_eq_mul_right (by omega) h⟩, ⟨fun h => Int.mul_lt_mul_of_pos_right h m0, fun h => Int.lt_of_mul_lt_mul_right h (by omega)⟩, ⟨fun h => Int.mul_lt_mul_of_pos_right h m0, fun h => Int.lt_of_mul_lt_mul_right h (by omega)⟩⟩
end RatM
end

-- Y5s
section
set_option Elab.async false
set_option linter.all false
set_option maxRecDepth 100000
set_option exponentiation.threshold 10000
namespace R50r
open PySem L2 OwnOps RatM OwnNe G1
/-! Ratio.__str__ -/
def ts (i : Int) : Str := Str.ofString (toString i)
def strT (t b : Int) : Str := if b = 1 then ts t else Str.empty ++ ts t ++ ("/" : Str) ++ ts b
def reprT (t b : Int) : Str := Str.empty ++ ("Ratio(" : Str) ++ ts t ++ (", " : Str) ++ ts b ++ (")" : Str)
def Pr (i : Int) : Prop := i.natAbs.log2 < 1920
theorem ts_len {i : Int} (h : Pr i) : (ts i).length ≤ 1921 := PyProof.Rows.int_text_len_1921 h
theorem app_len (a b : Str) : (a ++ b).length = a.length + b.length := Str.length_append a b
theorem len1 : ("/" : Str).length = 1 := by decide +kernel
theorem len2 : ("Ratio(" : Str).length = 6 := by decide +kernel
theorem len3 : (", " : Str).length = 2 := by decide +kernel
theorem len4 : (")" : Str).length = 1 := by decide +kernel
theorem len0 : Str.empty.length = 0 := by decide +kernel
section
variable {P : Program} {w : World} {K : PySem.W.Frag} {mg : Str → Option Value} {base : Heap} {C CI fCI CZ fCZ : Addr}
def spStr (C : Addr) (X : Int → Int → Str) : Sp := fun vs H Q _ => ∃ p t b, vs = [.ref p] ∧ Rat C H p t b ∧ Pr t ∧ Pr b ∧ Q (.str (X t b)) H
theorem ok_str {f : Addr} {fd : FuncData} (F : Fun K "__str__" "Ratio.__str__" (sRat 18) f fd) (T : Txt K mg C CI fCI CZ fCZ) :
    FnOk P w K mg base (L2.CX P w) 1 f fd ["self"] (spStr C strT) := by
  have sc : FnScope ["self"] ["self"] (defScope (sRat 18)) := ⟨rfl, rfl, rfl, by decide +kernel, rfl, by decide +kernel, by decide +kernel⟩
  refine F.okX sc (fun vs H Q E h => ?_) (fun cdv A outer s H vs Q E hr h => ?_)
  · obtain ⟨p, t, b, rfl, _⟩ := h
    rfl
  · obtain ⟨p, t, b, rfl, ⟨dx, hp⟩, pt, pb, k⟩ := h
    refine ⟨_, pss_cons (ps_if (pt_cmpR op_eq (pe_fld (pv 0) rfl) pe_int (nomark _)) (pss_one (ps_ret (pe_callTy call_str_int (by rfl) T.str (by decide +kernel) (pa_cons (pe_fld (pv 0) rfl) pa_nil)))) pss_nil)
      (pss_one (ps_ret (pe_joined (.cons (pe_fmt (pe_fld (pv 0) rfl)) (.cons pe_str (.cons (pe_fmt (pe_fld (pv 0) rfl)) .nil)))))), ?_⟩
    refine ⟨_, rfl, p, C, dx, _, _, rfl, hp, T.cl, T.nB, flds_bot _ _, rfl, _, rfl, ?_⟩
    rw [dI]
    have lt := ts_len pt
    have lb := ts_len pb
    have ez := sizeLine_eq
    by_cases h : b = 1
    · refine if_pos' (decide_eq_true h) ⟨_, rfl, p, C, dx, _, _, rfl, hp, T.cl, T.nT, flds_top _ _, _, rfl, pt, ?_⟩
      have e : strT t b = ts t := if_pos h
      rw [e] at k
      exact k
    · refine if_neg' (decide_eq_false h) ⟨_, rfl, p, C, dx, _, _, rfl, hp, T.cl, T.nT, flds_top _ _, .inr ⟨_, rfl, pt, ts t, rfl, ?_, ("/" : Str), rfl, ?_, _, rfl, p, C, dx, _, _, rfl, hp, T.cl, T.nB, flds_bot _ _, .inr ⟨_, rfl, pb, ts b, rfl, ?_, ?_⟩⟩⟩
      · rw [app_len, len0]; omega
      · rw [app_len, app_len, len0, len1]; omega
      · rw [app_len, app_len, app_len, len0, len1]; omega
      · have e : strT t b = Str.empty ++ ts t ++ ("/" : Str) ++ ts b := if_neg h
        rw [e] at k
        exact k
end
end R50r
end

-- Y5t
section
set_option Elab.async false
set_option linter.all false
set_option maxRecDepth 100000
set_option exponentiation.threshold 10000
namespace R50
open PySem L2 OwnOps OwnNe G1 StX SupX SortStr
/-! class Item: written -/
abbrev sIt (j : Nat) : Stmt := inClass (top 58) j
/-- the class of items -/
structure ItC (K : PySem.W.Frag) (CI : Addr) : Prop where
  cl : Cls K CI
  n1 : NoAttr K CI "expression"
  n2 : NoAttr K CI "_turned"
  n3 : NoAttr K CI "kind"
  n4 : NoAttr K CI "is_branch"
  n5 : NoAttr K CI "worths"
  n6 : NoAttr K CI "names"
  n7 : NoAttr K CI "id"
  n8 : NoAttr K CI "ends"
  n9 : NoAttr K CI "slots"
  n10 : NoAttr K CI "shape"
  n11 : NoAttr K CI "key"
abbrev NWr : List Str := ["self", "words", "placed", "first", "second", "along", "against", "there", "back", "net"]
section
variable {P : Program} {w : World} {K : PySem.W.Frag} {mg : Str → Option Value} {base : Heap} {CI PK CR CIn fCIn CZ fCZ gS fw : Addr}
def spWri (K : PySem.W.Frag) (CI PK CR : Addr) : Sp := fun vs H Q _ => ∃ p d dx fs kp dk x pins gss wt one t b st ns sh kvs, vs = [.ref p, .ref d] ∧ H p = some (.ins CI dx fs) ∧ fs.lookup ("is_branch" : Str) = some (.bl false) ∧ fs.lookup ("kind" : Str) = some (.ref kp) ∧ fs.lookup ("slots" : Str) = some (.ref st) ∧ fs.lookup ("worths" : Str) = some (.ref wt) ∧ fs.lookup ("shape" : Str) = some (.str sh) ∧ fs.lookup ("written" : Str) = none ∧
  PinI K H kp PK dk x pins gss ∧ InR (gss.map (gix pins)) ns.length ∧ (∀ g ∈ gss, g.length ≤ 6) ∧ H st = some (.tup ((ns : List Str).map V.str)) ∧ ns.length ≤ 10 ∧ (∀ z ∈ ns, z.length ≤ 20) ∧ H wt = some (.tup [.ref one]) ∧ R50r.Rat CR H one t b ∧ R50r.Pr t ∧ R50r.Pr b ∧ sh.length ≤ 1000 ∧ H d = some (.dK kvs) ∧ (∀ z ∈ ns, valV kvs (Sum.inr z) = some (.str z)) ∧
  ∀ ky H', Same H H' → Q (.str ky) H'
set_option maxHeartbeats 2000000 in
theorem ok_wri {f fd' : Addr} {fd fwd gSd : FuncData} (F : Fun K "written" "Item.written" (sIt 4) f fd) (T : Bi mg) (U : ItC K CI) (kc : KCls K PK) (mF : Meth K PK "first_writing" fw) (GF : FnOk P w K mg base (L2.CX P w) 1 fw fwd ["self", "words"] (spFW K)) (bF : L2.Binds K fwd ["self", "words"] [])
    (hs : PySem.W.findIn K (.ref CR) "__str__" = some (some (.ref gS))) (hf : PySem.W.isFn K (.ref gS) = true) (GS : FnOk P w K mg base (L2.CX P w) 1 gS gSd ["self"] (R50r.spStr CR R50r.strT)) (bS : L2.Binds K gSd ["self"] []) :
    FnOk P w K mg base (L2.CX P w) 4 f fd ["self", "words"] (spWri K CI PK CR) := by
  have sc : FnScope NWr ["self", "words"] (defScope (sIt 4)) := ⟨rfl, rfl, rfl, by decide +kernel, rfl, by decide +kernel, by decide +kernel⟩
  have hN := sc.nd
  refine F.okX sc (fun vs H Q E h => ?_) (fun cdv A outer s H vs Q E hr h => ?_)
  · obtain ⟨p, d, _, _, _, _, _, _, _, _, _, _, _, _, _, _, _, rfl, _⟩ := h
    rfl
  · obtain ⟨p, d, dx, fs, kp, dk, x, pins, gss, wt, one, t, b, st, ns, sh, kvs, rfl, hp, l1, l2, l3, l4, l5, l6, pk, inr, few, hst, n10, n20, hwt, hone, pt, pb, sh1, hd, hv, fin⟩ := h
    have hu : (A.deeper (PyProof.Rows.envOfC (Str.ofString "Item.written") (defScope (sIt 4)) s.heap.objs.size f cdv)).units + 1 < cLine := by have := hr.units; omega
    refine ⟨_, pss_cons (ps_if (pt_not (pt_val (pe_fld (pv 0) rfl)))
        (pss_cons (ps_set (i := 2) hN rfl (Or.inl rfl) (pe_meth (E := E0) (pe_fld (pv 0) rfl) kc.cl mF GF (hr.mono (by decide)) bF .nil passL
          (pa_cons (pe_lc (own := [("net", 9)]) (g := gName 9) (tt := tYes) (te := tDGet (tVar 1) (tVar 9)) rfl hN (pi_tup (pe_fld (pv 0) rfl)) (blkOk_by (N := NWr) (sc := defScope (sIt 4)) (by decide +kernel)) (fun _ _ _ _ _ => pg_name (i := 9) hN rfl (Or.inl rfl)) (fun _ _ _ _ _ => pts_nil) (fun _ _ _ _ _ => pe_dget hu (pv 1) (pv 9) (fun _ _ => rfl))) pa_nil)))
        (pss_one (ps_ret (pe_join pe_str (pe_lst (pa_cons (pe_fld (pv 0) rfl) (pa_cons pe_str (pa_cons (pe_callTy (call_strO (E := E0) hs hf GS (hr.mono (by decide)) bS passL) (by rfl) T.str (by decide +kernel) (pa_cons (pe_ix ix_tup (pe_fld (pv 0) rfl) pe_int (fun _ _ => rfl)) pa_nil)) (pa_star (pv 2) pa_nil)))))))))
        pss_nil) pss_never, ?_⟩
    obtain ⟨pa, ca, oa, ga, k1, k2, k3, k4, rs, k5⟩ := id pk.ex
    refine ⟨_, rfl, p, CI, dx, _, _, rfl, hp, U.cl, U.n4, l1, _, rfl, if_pos' rfl ?_⟩
    refine ⟨_, rfl, p, CI, dx, _, _, rfl, hp, U.cl, U.n3, l2, kp, dk, _, rfl, k1, (by kernel_rfl), _, rfl, p, CI, dx, _, _, rfl, hp, U.cl, U.n9, l3, st, rfl, ⟨_, SqT.of hst⟩, fun D nD => ?_⟩
    refine walk_it (walk_tup (K := K) (a := st) (xs := ns.map V.str)) (fun i G => Same H G ∧ G D = some (.lst ((ns.take i).map V.str))) ⟨same_upd nD, upd_same⟩ (fun i G _ ⟨sm, _⟩ => SqT.of (sm _ _ hst)) (fun i v G G' hi ⟨sm, hD⟩ ⟨e, hx⟩ => ?_) (fun G ⟨sm, hD⟩ => ?_)
    · subst e
      rw [List.getElem?_map] at hx
      obtain ⟨z, hz, rfl⟩ := Option.map_eq_some_iff.mp hx
      rw [List.length_map] at hi
      refine ⟨rfl, yes_go (iteT ⟨_, rfl, _, rfl, d, _, rfl, .inl ⟨kvs, Sum.inr z, .inl (sm _ _ hd), rfl, (hv z (List.mem_of_getElem? hz)).symm⟩, _, hD, ?_, same_put sm nD, ?_⟩)⟩
      · rw [List.length_map, List.length_take]
        exact small1000 (by omega)
      · rw [upd_same, take_succ_at hz, List.map_append]
        rfl
    rw [List.length_map, List.take_length] at hD
    refine ⟨kp, D, PK, dk, _, ga, _, rs, ns, rfl, sm _ _ k1, kc, (by kernel_rfl), k5.same sm, hD, inr, fun c hc => ?_, fun r G2 ps s2 lp mp hr => ?_⟩
    · obtain ⟨g, hg, rfl⟩ := List.mem_map.mp hc
      unfold gix
      rw [List.length_map]
      have := few g hg
      omega
    have s2 : Same G G2 := s2
    have s3 := sm.trans s2
    obtain ⟨dxo, ho⟩ := id (hone.same s3)
    have lt := R50r.ts_len pt
    have lb := R50r.ts_len pb
    have lst : (R50r.strT t b).length ≤ 4000 := by
      unfold R50r.strT
      split
      · omega
      · rw [R50r.app_len, R50r.app_len, R50r.app_len, R50r.len0, R50r.len1]; omega
    refine ⟨⟨_, rfl⟩, _, rfl, p, CI, dx, _, _, rfl, s3 _ _ hp, U.cl, U.n10, l5, _, rfl, p, CI, dx, _, _, rfl, s3 _ _ hp, U.cl, U.n5, l4, wt, _, _, _, rfl, rfl, SqT.of (s3 _ _ hwt), at_of (j := 0) rfl rfl, ?_⟩
    refine ⟨_, rfl, one, dxo, _, rfl, ho, one, t, b, rfl, hone.same s3, pt, pb, ⟨_, rfl⟩, _, rfl, r, _, rfl, .inl (SqT.of hr), ?_, fun L nL => ?_⟩
    · simp only [List.length_cons, List.length_append, List.length_nil, List.length_map]
      exact small1000 (by omega)
    rw [List.append_nil]
    have one1 : (Str.ofString " ").length = 1 := by decide +kernel
    have eq1 : (Str.ofString "=").length = 1 := by decide +kernel
    have sz := sum_le (ys := ps) (n := 20) fun z hz => n20 z (mp z hz)
    refine ⟨" ", L, sh :: ("=" : Str) :: R50r.strT t b :: ps, rfl, rfl, .inl (SqL.of upd_same), ?_, fin _ _ (s3.trans (same_upd nL))⟩
    rw [one1, List.map_cons, List.map_cons, List.map_cons, List.sum_cons, List.sum_cons, List.sum_cons, eq1, List.length_cons, List.length_cons, List.length_cons]
    omega
end
end R50
end

-- PropC
section
set_option Elab.async false
set_option linter.all false
set_option maxRecDepth 100000
/-! e.f, a property of whatever class of ours. -/
namespace SupX
open PySem PySem.Spec PyProof.Rows L2
/-- e.f, a property of whatever class of ours -/
def tPropC (S : Addr → Prop) (sp : Sp) (E : XK) (ta : TE) : TE := fun σ H Q => ta σ H fun x H1 => ∃ a C dx fs, x = .ref a ∧ H1 a = some (.ins C dx fs) ∧ S C ∧ sp [.ref a] H1 Q E
section
variable {X : Cx} {CX : CXT} {k : Nat} {p g : Addr} {f : Str} {fd : FuncData} {ps : List Str} {sp : Sp} {E : XK} {e : Expr} {pos : Pos} {ta : TE} {S : Addr → Prop}
theorem pe_propC (he : PE X e ta) (c : ∀ C, S C → Cls X.K C ∧ PropOf X.K C f p g) (F : FnOk X.prog X.w X.K X.mg X.base CX k g fd ps sp) (hr : Room (k + 1) X.A) (hb : L2.Binds X.K fd ps []) (hx : Passes CX X.nox E)
    (hab : attributeBase e f X.env (eval e X.env) = eval e X.env) : PE X (.Attribute e f pos) (tPropC S sp E ta) := by
  constructor
  intro pins s σ H Q I h
  refine attr_of hab (thn (he.run pins s σ H _ I h) fun u s1 ⟨x, H1, I1, rx, a, C, dx, fs, ex, ea, hS, q⟩ => ?_)
  subst ex
  cases rx
  exact getprop_ok I1 ea (c C hS).1 (c C hS).2 F hr hb .nil hx q
end
end SupX
end

-- SrtEq
section
set_option Elab.async false
set_option linter.all false
set_option maxRecDepth 100000
namespace SortStr
open PySem L2 PySem.W PyProof.Rows
theorem srtS_eq {xs ys : List Str} (h : xs.Perm ys) : srtS xs = srtS ys := by
  have le : dataLe false PyData.str = fun a b : Str => decide (a.cps.toList ≤ b.cps.toList) := dataLe_str (fun b : Str => b)
  unfold srtS
  rw [le]
  have tr : ∀ a b c : Str, decide (a.cps.toList ≤ b.cps.toList) = true → decide (b.cps.toList ≤ c.cps.toList) = true → decide (a.cps.toList ≤ c.cps.toList) = true := fun a b c p q => decide_eq_true (List.le_trans (of_decide_eq_true p) (of_decide_eq_true q))
  have tot : ∀ a b : Str, (decide (a.cps.toList ≤ b.cps.toList) || decide (b.cps.toList ≤ a.cps.toList)) = true := fun a b => by
    rcases List.le_total a.cps.toList b.cps.toList with z | z
    · rw [decide_eq_true z] <;> rfl
    · rw [decide_eq_true z, Bool.or_true]
  refine List.Perm.eq_of_pairwise (le := fun a b : Str => decide (a.cps.toList ≤ b.cps.toList) = true) (fun a b _ _ p q => ?_) (List.pairwise_mergeSort tr tot xs) (List.pairwise_mergeSort tr tot ys) (((List.mergeSort_perm xs _).trans h).trans (List.mergeSort_perm ys _).symm)
  have e : a.cps.toList = b.cps.toList := List.le_antisymm (of_decide_eq_true p) (of_decide_eq_true q)
  cases a
  cases b
  congr
  exact Array.toList_inj.mp e
end SortStr
end

-- SrtEq2
section
set_option Elab.async false
set_option linter.all false
set_option maxRecDepth 100000
namespace SortStr
open PySem L2 PySem.W PyProof.Rows PySem.Spec
theorem rising_all : ∀ (l : List Str) (p : Str), risingS p l = true → (∀ x ∈ l, p.cps.toList ≤ x.cps.toList) ∧ l.Pairwise fun a b => a.cps.toList ≤ b.cps.toList
  | [], _, _ => ⟨fun _ h => (nomatch h), .nil⟩
  | x :: r, p, h => by
    have h : (!ltCps x.cps.toList p.cps.toList && risingS x r) = true := h
    rw [Bool.and_eq_true, ltCps_eq] at h
    have le : p.cps.toList ≤ x.cps.toList := List.not_lt.mp (of_decide_eq_false (by simpa using h.1))
    obtain ⟨h1, h2⟩ := rising_all r x h.2
    refine ⟨fun y hy => ?_, .cons h1 h2⟩
    rcases List.mem_cons.mp hy with rfl | hy
    · exact le
    · exact List.le_trans le (h1 y hy)
theorem srtS_uniq {xs ys : List Str} (s : sortedS ys = true) (p : ys.Perm xs) : ys = srtS xs := by
  have pw : ys.Pairwise fun a b => a.cps.toList ≤ b.cps.toList := by
    cases ys with
    | nil => exact .nil
    | cons x r =>
      obtain ⟨h1, h2⟩ := rising_all r x s
      exact .cons h1 h2
  have le : dataLe false PyData.str = fun a b : Str => decide (a.cps.toList ≤ b.cps.toList) := dataLe_str (fun b : Str => b)
  unfold srtS
  rw [le]
  have tr : ∀ a b c : Str, decide (a.cps.toList ≤ b.cps.toList) = true → decide (b.cps.toList ≤ c.cps.toList) = true → decide (a.cps.toList ≤ c.cps.toList) = true := fun a b c p q => decide_eq_true (List.le_trans (of_decide_eq_true p) (of_decide_eq_true q))
  have tot : ∀ a b : Str, (decide (a.cps.toList ≤ b.cps.toList) || decide (b.cps.toList ≤ a.cps.toList)) = true := fun a b => by
    rcases List.le_total a.cps.toList b.cps.toList with z | z
    · rw [decide_eq_true z] <;> rfl
    · rw [decide_eq_true z, Bool.or_true]
  refine List.Perm.eq_of_pairwise (le := fun a b : Str => decide (a.cps.toList ≤ b.cps.toList) = true) (fun a b _ _ p q => ?_) (pw.imp fun h => decide_eq_true h) (List.pairwise_mergeSort tr tot xs) (p.trans (List.mergeSort_perm xs _).symm)
  have e : a.cps.toList = b.cps.toList := List.le_antisymm (of_decide_eq_true p) (of_decide_eq_true q)
  cases a
  cases b
  congr
  exact Array.toList_inj.mp e
end SortStr
end

-- Y5u
section
set_option Elab.async false
set_option linter.all false
set_option maxRecDepth 100000
set_option exponentiation.threshold 10000
namespace R50
open PySem L2 OwnOps OwnNe G1 StX SupX SortStr
/-! class Item: __init__ -/
/-- a single, behind its __init__ -/
structure ItmI (H : Hp) (CI p kp : Addr) (sh ky : Str) : Prop where
  ex : ∃ dx fs wt one, H p = some (.ins CI dx fs) ∧ fs.lookup ("kind" : Str) = some (.ref kp) ∧ fs.lookup ("is_branch" : Str) = some (.bl false) ∧ fs.lookup ("worths" : Str) = some (.ref wt) ∧ H wt = some (.tup [one]) ∧ fs.lookup ("shape" : Str) = some (.str sh) ∧ fs.lookup ("key" : Str) = some (.str ky)
theorem ItmI.same {H H' : Hp} {CI p kp : Addr} {sh ky : Str} (h : ItmI H CI p kp sh ky) (s : Same H H') : ItmI H' CI p kp sh ky :=
  let ⟨dx, fs, wt, one, a, b, c, d, e, f, g⟩ := h.ex
  ⟨dx, fs, wt, one, s _ _ a, b, c, d, s _ _ e, f, g⟩
def shpT (x : Str) (pins : List Str) (gss : List (List Str)) : Str := Str.empty ++ ("single " : Str) ++ pinT x pins gss
theorem PinI.sameX {K : PySem.W.Frag} {H H' : Hp} {q C D dx dy : Addr} {fs : List (Str × V)} {p : Addr} {x : Str} {pins : List Str} {gss : List (List Str)} (h : PinI K H q D dy x pins gss) (hp : H p = some (.ins C dx fs)) (ne : fs = []) (s : SameX p H H') : PinI K H' q D dy x pins gss := by
  obtain ⟨pa, ca, oa, ga, k1, k2, k3, k4, rs, k5⟩ := h.ex
  have no : ∀ {b : Addr} {o : HO}, H b = some o → (∀ C dx fs, o ≠ .ins C dx fs) → H' b = some o := fun {b o} e n => s _ _ (fun z => by rw [z, hp] at e; exact n _ _ _ (Option.some.inj e).symm) e
  refine ⟨pa, ca, oa, ga, s _ _ (fun z => ?_) k1, sqtX hp s k2, no k3 (fun _ _ _ z => by cases z), k4.sameX s hp (fun xs z => by cases z), rs, no k5.at_ (fun _ _ _ z => by cases z), k5.len, fun i a ha => ?_⟩
  · rw [z, hp, ne] at k1
    cases k1
  · obtain ⟨c, h1, h2⟩ := k5.it i a ha
    exact ⟨c, h1, no h2 (fun _ _ _ z => by cases z)⟩
theorem PinI.same {K : PySem.W.Frag} {H H' : Hp} {q D dy : Addr} {x : Str} {pins : List Str} {gss : List (List Str)} (h : PinI K H q D dy x pins gss) (s : Same H H') : PinI K H' q D dy x pins gss :=
  let ⟨pa, ca, oa, ga, k1, k2, k3, k4, rs, k5⟩ := h.ex
  ⟨pa, ca, oa, ga, s _ _ k1, Same.tupS s k2, s _ _ k3, k4.same s, rs, k5.same s⟩
theorem putK_len {κ : Type} [DecidableEq κ] (c : List (κ × V)) (k : κ) (x : V) : (putK c k x).length ≤ c.length + 1 := by
  unfold putK
  split
  · rw [List.length_map]; exact Nat.le_succ _
  · rw [List.length_append]; exact Nat.le_refl _
theorem srt_one (z : Str) : srtS [z] = [z] := (srtS_uniq (xs := [z]) (ys := [z]) rfl (List.Perm.refl _)).symm
theorem map_some {α β : Type} {f : α → β} {xs : List α} {i : Nat} {b : β} (h : (xs.map f)[i]? = some b) : ∃ a, xs[i]? = some a ∧ f a = b := by
  rw [List.getElem?_map] at h
  exact Option.map_eq_some_iff.mp h
abbrev NIi : List Str := ["self", "expression", "turned", "kind", "worths", "nets", "names", "net"]
section
variable {P : Program} {w : World} {K : PySem.W.Frag} {mg : Str → Option Value} {base : Heap} {CI PK CR CIn fCIn CZ fCZ gS fw tp tg : Addr}
def spII (K : PySem.W.Frag) (CI PK CR : Addr) : Sp := fun vs H Q _ => ∃ p dx kp dk x pins gss wt one t b st ns na z, vs = [.ref p, .non, .non, .ref kp, .ref wt, .ref st, .ref na] ∧ H p = some (.ins CI dx []) ∧
  PinI K H kp PK dk x pins gss ∧ InR (gss.map (gix pins)) ns.length ∧ (∀ g ∈ gss, g.length ≤ 6) ∧ (pinT x pins gss).length ≤ 900 ∧ H st = some (.tup ((ns : List Str).map V.str)) ∧ ns.length ≤ 10 ∧ (∀ z ∈ ns, z.length ≤ 20) ∧ H wt = some (.tup [.ref one]) ∧ R50r.Rat CR H one t b ∧ R50r.Pr t ∧ R50r.Pr b ∧ H na = some (.lst [.str z]) ∧
  ∀ ky H', SameX p H H' → ItmI H' CI p kp (shpT x pins gss) ky → Q .non H'
set_option maxHeartbeats 4000000 in
theorem ok_ii {f fwr tgd : Addr} {fd wrd ttd : FuncData} (F : Fun K "__init__" "Item.__init__" (sIt 0) f fd) (T : Bi mg) (U : ItC K CI) (kc : KCls K PK) (pT : PropOf K PK "text" tp tg) (GT : FnOk P w K mg base (L2.CX P w) 1 tg ttd ["self"] (spText K PK)) (bT : L2.Binds K ttd ["self"] [])
    (mW : Meth K CI "written" fwr) (GW : FnOk P w K mg base (L2.CX P w) 4 fwr wrd ["self", "words"] (spWri K CI PK CR)) (bW : L2.Binds K wrd ["self", "words"] []) :
    FnOk P w K mg base (L2.CX P w) 5 f fd ["self", "expression", "turned", "kind", "worths", "nets", "names"] (spII K CI PK CR) := by
  have sc : FnScope NIi ["self", "expression", "turned", "kind", "worths", "nets", "names"] (defScope (sIt 0)) := ⟨rfl, rfl, rfl, by decide +kernel, rfl, by decide +kernel, by decide +kernel⟩
  have hN := sc.nd
  refine F.okX sc (fun vs H Q E h => ?_) (fun cdv A outer s H vs Q E hr h => ?_)
  · obtain ⟨p, dx, kp, dk, x, pins, gss, wt, one, t, b, st, ns, na, z, rfl, _⟩ := h
    rfl
  · obtain ⟨p, dx, kp, dk, x, pins, gss, wt, one, t, b, st, ns, na, z, rfl, hp, pk, inr, few, p900, hst, n10, n20, hwt, hone, pt, pb, hna, fin⟩ := h
    have cS : ∀ C, C = PK → Cls K C ∧ PropOf K C "text" tp tg := fun C h => by rw [h]; exact ⟨kc.cl, pT⟩
    refine ⟨_, pss_cons (ps_fld (pv 0) (pv 1) rfl) (pss_cons (ps_fld (pv 0) (pv 2) rfl) (pss_cons (ps_fld (pv 0) (pv 3) rfl)
      (pss_cons (ps_fld (pv 0) (pe_cmpR op_isN (pv 3) pe_non (nomark _)) rfl) (pss_cons (ps_fld (pv 0) (pv 4) rfl)
      (pss_cons (ps_fld (pv 0) (pe_callTy call_tuple_of (by rfl) T.tuple (by decide +kernel) (pa_cons (pe_callBK (cr_sortKS hr.units) (by rfl) T.sorted (by decide +kernel) (pa_cons (pv 6) pa_nil) (pk_cons (pe_bltn (v := .ty "str") (by rfl) T.str (by decide +kernel) rfl) pk_nil)) pa_nil)) rfl)
      (pss_cons (ps_fld (pv 0) (pe_ix ix_tup (pe_fld (pv 0) rfl) pe_int (fun _ _ => rfl)) rfl)
      (pss_one (ps_if (pt_val (pe_fld (pv 0) rfl)) pss_never
        (pss_cons (ps_fld (pv 0) (pe_tup pa_nil) rfl) (pss_cons (ps_fld (pv 0) (pv 5) rfl)
        (pss_cons (ps_fld (pv 0) (pe_joined (.cons pe_str (.cons (pe_fmt (pe_propC (S := fun C => C = PK) (E := E0) (pv 3) cS GT (hr.mono (by decide)) bT passL rfl)) .nil))) rfl)
        (pss_one (ps_fld (pv 0) (pe_meth (E := E0) (pv 0) U.cl mW GW (hr.mono (by decide)) bW .nil passL (pa_cons (pe_dc (own := [("net", 7)]) (g := gName 7) (tt := tYes) (tk := tVar 7) (tv := tVar 7) rfl hN (pi_tup (pv 5)) (blkOk_by (N := NIi) (sc := defScope (sIt 0)) (by decide +kernel)) (fun _ _ _ _ _ => pg_name (i := 7) hN rfl (Or.inl rfl)) (fun _ _ _ _ _ => pts_nil) (fun _ _ _ _ _ => pv 7) (fun _ _ _ _ _ => pv 7)) pa_nil)) rfl))))))))))))), ?_⟩
    have no : ∀ {b : Addr} {o : HO} {G : Hp}, SameX p H G → H b = some o → (∀ C dx fs, o ≠ .ins C dx fs) → G b = some o := fun {b o G} s e n => s _ _ (fun z => by rw [z, hp] at e; exact n _ _ _ (Option.some.inj e).symm) e
    have line : 1000 ≤ sizeLine := by decide
    -- expression .. worths
    refine ⟨_, rfl, _, rfl, p, CI, dx, _, rfl, hp, U.cl, U.n1, plt p0, ?_⟩
    have m1 := (Mkg.start hp).put (fs' := putF "expression" .non [])
    generalize upd H p (.ins CI dx (putF "expression" .non [])) = G1 at m1 ⊢
    refine ⟨_, rfl, _, rfl, p, CI, dx, _, rfl, m1.at_, U.cl, U.n2, plt (pl p0), ?_⟩
    have m2 := m1.put (fs' := putF "_turned" .non (putF "expression" .non []))
    generalize upd G1 p (.ins CI dx (putF "_turned" .non (putF "expression" .non []))) = G2 at m2 ⊢
    refine ⟨_, rfl, _, rfl, p, CI, dx, _, rfl, m2.at_, U.cl, U.n3, plt (pl (pl p0)), ?_⟩
    have m3 := m2.put (fs' := putF "kind" (.ref kp) (putF "_turned" .non (putF "expression" .non [])))
    generalize upd G2 p (.ins CI dx (putF "kind" (.ref kp) (putF "_turned" .non (putF "expression" .non [])))) = G3 at m3 ⊢
    refine ⟨_, rfl, rfl, _, rfl, p, CI, dx, _, rfl, m3.at_, U.cl, U.n4, plt (pl (pl (pl p0))), ?_⟩
    rw [decide_eq_false (show ¬ (V.ref kp = V.non) from fun z => by cases z)]
    have m4 := m3.put (fs' := putF "is_branch" (.bl false) (putF "kind" (.ref kp) (putF "_turned" .non (putF "expression" .non []))))
    generalize upd G3 p (.ins CI dx (putF "is_branch" (.bl false) (putF "kind" (.ref kp) (putF "_turned" .non (putF "expression" .non []))))) = G4 at m4 ⊢
    refine ⟨_, rfl, _, rfl, p, CI, dx, _, rfl, m4.at_, U.cl, U.n5, plt (pl (pl (pl (pl p0)))), ?_⟩
    have e5 : putF "worths" (.ref wt) (putF "is_branch" (.bl false) (putF "kind" (.ref kp) (putF "_turned" .non (putF "expression" .non [])))) = ([("expression", .non), ("_turned", .non), ("kind", .ref kp), ("is_branch", .bl false), ("worths", .ref wt)] : List (Str × V)) := by kernel_rfl
    rw [e5]
    have m5 := m4.put (fs' := ([("expression", .non), ("_turned", .non), ("kind", .ref kp), ("is_branch", .bl false), ("worths", .ref wt)] : List (Str × V)))
    generalize upd G4 p (.ins CI dx ([("expression", .non), ("_turned", .non), ("kind", .ref kp), ("is_branch", .bl false), ("worths", .ref wt)] : List (Str × V))) = G5 at m5 ⊢
    clear m1 m2 m3 m4 e5
    -- names, id
    refine ⟨_, rfl, na, [z], rfl, rfl, SqL.of (no m5.sm hna (fun _ _ _ z => by cases z)), fun l nl => ?_⟩
    rw [srt_one]
    have m6 := m5.new nl (o := .lst ([z].map V.str))
    have hl : (upd G5 l (.lst ([z].map V.str))) l = some (.lst ([z].map V.str)) := upd_same
    generalize upd G5 l (.lst ([z].map V.str)) = G6 at m6 hl ⊢
    refine ⟨l, _, rfl, .inl ⟨SqL.of hl, fun u nu => ?_⟩⟩
    have m7 := m6.new nu (o := .tup ([z].map V.str))
    have hu : (upd G6 u (.tup ([z].map V.str))) u = some (.tup ([z].map V.str)) := upd_same
    generalize upd G6 u (.tup ([z].map V.str)) = G7 at m7 hu ⊢
    refine ⟨_, rfl, p, CI, dx, _, rfl, m7.at_, U.cl, U.n6, (by show 5 < 1000; decide), ?_⟩
    rw [show putF "names" (.ref u) ([("expression", .non), ("_turned", .non), ("kind", .ref kp), ("is_branch", .bl false), ("worths", .ref wt)] : List (Str × V)) = ([("expression", .non), ("_turned", .non), ("kind", .ref kp), ("is_branch", .bl false), ("worths", .ref wt), ("names", .ref u)] : List (Str × V)) from by kernel_rfl]
    have m8 := m7.put (fs' := ([("expression", .non), ("_turned", .non), ("kind", .ref kp), ("is_branch", .bl false), ("worths", .ref wt), ("names", .ref u)] : List (Str × V)))
    have hu8 := put_ne hu m7.at_ (by intro _ _ _ z; cases z) (u := .ins CI dx ([("expression", .non), ("_turned", .non), ("kind", .ref kp), ("is_branch", .bl false), ("worths", .ref wt), ("names", .ref u)] : List (Str × V)))
    generalize upd G7 p (.ins CI dx ([("expression", .non), ("_turned", .non), ("kind", .ref kp), ("is_branch", .bl false), ("worths", .ref wt), ("names", .ref u)] : List (Str × V))) = G8 at m8 hu8 ⊢
    refine ⟨_, rfl, p, CI, dx, _, _, rfl, m8.at_, U.cl, U.n6, (by kernel_rfl), u, _, _, _, rfl, rfl, SqT.of hu8, at_of (j := 0) rfl rfl, _, rfl, p, CI, dx, _, rfl, m8.at_, U.cl, U.n7, (by show 6 < 1000; decide), ?_⟩
    rw [show putF "id" (.str z) ([("expression", .non), ("_turned", .non), ("kind", .ref kp), ("is_branch", .bl false), ("worths", .ref wt), ("names", .ref u)] : List (Str × V)) = ([("expression", .non), ("_turned", .non), ("kind", .ref kp), ("is_branch", .bl false), ("worths", .ref wt), ("names", .ref u), ("id", .str z)] : List (Str × V)) from by kernel_rfl]
    have m9 := m8.put (fs' := ([("expression", .non), ("_turned", .non), ("kind", .ref kp), ("is_branch", .bl false), ("worths", .ref wt), ("names", .ref u), ("id", .str z)] : List (Str × V)))
    generalize upd G8 p (.ins CI dx ([("expression", .non), ("_turned", .non), ("kind", .ref kp), ("is_branch", .bl false), ("worths", .ref wt), ("names", .ref u), ("id", .str z)] : List (Str × V))) = G9 at m9 ⊢
    refine ⟨_, rfl, p, CI, dx, _, _, rfl, m9.at_, U.cl, U.n4, (by kernel_rfl), _, rfl, if_neg' rfl ?_⟩
    refine ⟨(by show 0 ≤ sizeLine; exact Nat.zero_le _), fun en nen => ⟨_, rfl, p, CI, dx, _, rfl, (m9.new nen).at_, U.cl, U.n8, (by show 7 < 1000; decide), ?_⟩⟩
    have m10 := m9.new nen (o := .tup [])
    generalize upd G9 en (.tup []) = G10 at m10 ⊢
    rw [show putF "ends" (.ref en) ([("expression", .non), ("_turned", .non), ("kind", .ref kp), ("is_branch", .bl false), ("worths", .ref wt), ("names", .ref u), ("id", .str z)] : List (Str × V)) = ([("expression", .non), ("_turned", .non), ("kind", .ref kp), ("is_branch", .bl false), ("worths", .ref wt), ("names", .ref u), ("id", .str z), ("ends", .ref en)] : List (Str × V)) from by kernel_rfl]
    have m11 := m10.put (fs' := ([("expression", .non), ("_turned", .non), ("kind", .ref kp), ("is_branch", .bl false), ("worths", .ref wt), ("names", .ref u), ("id", .str z), ("ends", .ref en)] : List (Str × V)))
    generalize upd G10 p (.ins CI dx ([("expression", .non), ("_turned", .non), ("kind", .ref kp), ("is_branch", .bl false), ("worths", .ref wt), ("names", .ref u), ("id", .str z), ("ends", .ref en)] : List (Str × V))) = G11 at m11 ⊢
    refine ⟨_, rfl, _, rfl, p, CI, dx, _, rfl, m11.at_, U.cl, U.n9, (by show 8 < 1000; decide), ?_⟩
    rw [show putF "slots" (.ref st) ([("expression", .non), ("_turned", .non), ("kind", .ref kp), ("is_branch", .bl false), ("worths", .ref wt), ("names", .ref u), ("id", .str z), ("ends", .ref en)] : List (Str × V)) = ([("expression", .non), ("_turned", .non), ("kind", .ref kp), ("is_branch", .bl false), ("worths", .ref wt), ("names", .ref u), ("id", .str z), ("ends", .ref en), ("slots", .ref st)] : List (Str × V)) from by kernel_rfl]
    have m12 := m11.put (fs' := ([("expression", .non), ("_turned", .non), ("kind", .ref kp), ("is_branch", .bl false), ("worths", .ref wt), ("names", .ref u), ("id", .str z), ("ends", .ref en), ("slots", .ref st)] : List (Str × V)))
    generalize upd G11 p (.ins CI dx ([("expression", .non), ("_turned", .non), ("kind", .ref kp), ("is_branch", .bl false), ("worths", .ref wt), ("names", .ref u), ("id", .str z), ("ends", .ref en), ("slots", .ref st)] : List (Str × V))) = G12 at m12 ⊢
    have pk12 := pk.sameX hp rfl m12.sm
    obtain ⟨pa, ca, oa, ga, k1, _⟩ := id pk12.ex
    refine ⟨("single " : Str), rfl, ?_, _, rfl, kp, PK, dk, _, rfl, k1, rfl, kp, _, rfl, pk12.ln, .inl ⟨_, rfl, by omega, _, rfl, ?_, _, rfl, p, CI, dx, _, rfl, m12.at_, U.cl, U.n10, (by show 9 < 1000; decide), ?_⟩⟩
    · rw [R50r.app_len, R50r.len0]
      exact Nat.le_trans (by decide +kernel : 0 + (Str.ofString "single ").length ≤ 1000) line
    · rw [R50r.app_len, R50r.app_len, R50r.len0, show (Str.ofString "single ").length = 7 by decide +kernel]
      omega
    rw [show putF "shape" (.str (Str.empty ++ ("single " : Str) ++ pinT x pins gss)) ([("expression", .non), ("_turned", .non), ("kind", .ref kp), ("is_branch", .bl false), ("worths", .ref wt), ("names", .ref u), ("id", .str z), ("ends", .ref en), ("slots", .ref st)] : List (Str × V)) = ([("expression", .non), ("_turned", .non), ("kind", .ref kp), ("is_branch", .bl false), ("worths", .ref wt), ("names", .ref u), ("id", .str z), ("ends", .ref en), ("slots", .ref st), ("shape", .str (shpT x pins gss))] : List (Str × V)) from by kernel_rfl]
    have m13 := m12.put (fs' := ([("expression", .non), ("_turned", .non), ("kind", .ref kp), ("is_branch", .bl false), ("worths", .ref wt), ("names", .ref u), ("id", .str z), ("ends", .ref en), ("slots", .ref st), ("shape", .str (shpT x pins gss))] : List (Str × V)))
    generalize upd G12 p (.ins CI dx ([("expression", .non), ("_turned", .non), ("kind", .ref kp), ("is_branch", .bl false), ("worths", .ref wt), ("names", .ref u), ("id", .str z), ("ends", .ref en), ("slots", .ref st), ("shape", .str (shpT x pins gss))] : List (Str × V))) = G13 at m13 ⊢
    have hst13 := no m13.sm hst (fun _ _ _ z => by cases z)
    refine ⟨_, rfl, p, dx, _, rfl, m13.at_, (by kernel_rfl), _, rfl, st, rfl, ⟨_, SqT.of hst13⟩, fun D nD => ?_⟩
    refine walk_it (walk_tup (K := K) (a := st) (xs := ns.map V.str)) (fun i G => Same G13 G ∧ ∃ kvs, G D = some (.dK kvs) ∧ kvs.length ≤ i ∧ ∀ y ∈ ns.take i, valV kvs (Sum.inr y) = some (.str y)) ⟨same_upd nD, [], upd_same, Nat.le_refl _, fun y hy => by cases hy⟩ (fun i G _ ⟨sm, _⟩ => SqT.of (sm _ _ hst13)) (fun i v G G' hi ⟨sm, kvs, hD, lk, hk⟩ ⟨e, hx⟩ => ?_) (fun G ⟨sm, kvs, hD, lk, hk⟩ => ?_)
    · subst e
      obtain ⟨y, hy, rfl⟩ := map_some hx
      rw [List.length_map] at hi
      refine ⟨rfl, yes_go (iteT ⟨_, rfl, _, rfl, kvs, Sum.inr y, rfl, hD, ?_, same_put sm nD, _, upd_same, Nat.le_trans (putK_len _ _ _) (Nat.succ_le_succ lk), fun y' hy' => ?_⟩)⟩
      · exact Nat.lt_of_le_of_lt lk (Nat.lt_of_lt_of_le (show i < 1000 by omega) line)
      · rw [valV_put]
        by_cases e : (Sum.inr y' : Key) = Sum.inr y
        · rw [if_pos e]
          cases e
          rfl
        · rw [if_neg e]
          rw [take_succ_at hy] at hy'
          rcases List.mem_append.mp hy' with q | q
          · exact hk y' q
          · exact absurd (congrArg Sum.inr (List.mem_singleton.mp q)) e
    rw [List.length_map, List.take_length] at hk
    have m14 := m13.same sm
    have pk14 := pk.sameX hp rfl m14.sm
    obtain ⟨do_, ho⟩ := id hone
    have ho14 : R50r.Rat CR G one t b := ⟨do_, m14.sm _ _ (fun z => by rw [z, hp] at ho; have e := Option.some.inj ho; cases e) ho⟩
    refine ⟨p, D, dx, _, kp, dk, x, pins, gss, wt, one, t, b, st, ns, shpT x pins gss, kvs, rfl, m14.at_, (by kernel_rfl), (by kernel_rfl), (by kernel_rfl), (by kernel_rfl), (by kernel_rfl), (by kernel_rfl), pk14, inr, few, no m14.sm hst (fun _ _ _ z => by cases z), n10, n20, no m14.sm hwt (fun _ _ _ z => by cases z), ho14, pt, pb, ?_, hD, hk, fun ky H' s' => ?_⟩
    · unfold shpT
      rw [R50r.app_len, R50r.app_len, R50r.len0, show (Str.ofString "single ").length = 7 by decide +kernel]
      omega
    have m15 := m14.same (show Same G H' from s')
    refine ⟨_, rfl, p, CI, dx, _, rfl, m15.at_, U.cl, U.n11, (by show 10 < 1000; decide), ?_⟩
    rw [show putF "key" (.str ky) ([("expression", .non), ("_turned", .non), ("kind", .ref kp), ("is_branch", .bl false), ("worths", .ref wt), ("names", .ref u), ("id", .str z), ("ends", .ref en), ("slots", .ref st), ("shape", .str (shpT x pins gss))] : List (Str × V)) = ([("expression", .non), ("_turned", .non), ("kind", .ref kp), ("is_branch", .bl false), ("worths", .ref wt), ("names", .ref u), ("id", .str z), ("ends", .ref en), ("slots", .ref st), ("shape", .str (shpT x pins gss)), ("key", .str ky)] : List (Str × V)) from by kernel_rfl]
    have m16 := m15.put (fs' := ([("expression", .non), ("_turned", .non), ("kind", .ref kp), ("is_branch", .bl false), ("worths", .ref wt), ("names", .ref u), ("id", .str z), ("ends", .ref en), ("slots", .ref st), ("shape", .str (shpT x pins gss)), ("key", .str ky)] : List (Str × V)))
    have hw16 := no m16.sm hwt (fun _ _ _ z => by cases z)
    exact fin ky _ m16.sm ⟨dx, _, wt, .ref one, m16.at_, (by kernel_rfl), (by kernel_rfl), (by kernel_rfl), hw16, (by kernel_rfl), (by kernel_rfl)⟩
end
end R50
end

-- OwnStat
section
set_option Elab.async false
set_option linter.all false
set_option maxRecDepth 100000
/-! C.m(..), m a staticmethod of the class at C. -/
namespace OwnOps
open PySem L2
structure SMet (K : PySem.W.Frag) (C : Addr) (m : Str) (p f : Addr) : Prop where
  rd : ∃ mc, PySem.W.typeIn K (.ref C) = some mc ∧ PySem.W.readsIn K C mc = true ∧ PySem.W.findCls K (.ref C) mc m = some (.get (.builtin "staticmethod.__get__") (.ref p) .none (.ref C))
  ga : PySem.W.specialIn K (.ref C) "__getattribute__" = some (some (.builtin "type.__getattribute__"))
  rc : ∃ rest, PySem.W.recIn K p "staticmethod" = some (.ref f :: rest)
  kp : PySem.W.keepIn K (.ref f) = true
def tSM (C : Addr) (sp : Sp) (E : XK) (ta : TE) (t : TA) : TE := fun σ H Q => ta σ H fun x H1 => x = .ref C ∧ t σ H1 fun vs H2 => sp vs H2 Q E
section
variable {X : Cx} {CX : CXT} {C p f : Addr} {k : Nat} {fd : FuncData} {ps : List Str} {sp : Sp} {E : XK} {m : Str} {o e : Expr} {es : List Expr} {apos pos : Pos} {ta : TE} {t : TA}
theorem pe_smeth {pl : Sem Bool} (he : PE X o ta) (c : SMet X.K C m p f) (F : FnOk X.prog X.w X.K X.mg X.base CX k f fd ps sp) (hr : Room k X.A) (hb : L2.Binds X.K fd ps []) (hx : Passes CX X E) (ha : PA X (e :: es) t)
    (hst : starEach (e :: es) X.env = (false, eval e X.env) :: starEach es X.env := by rfl) (hpl : (backTo pos (starEach es X.env)).any (·.1) = false := by rfl)
    (ht : eval (.Call (.Attribute o m apos) (e :: es) [] pos) X.env = (do
      let ov ← eval o X.env
      standAt apos.atName
      let (f, first) ← holding [ov] (getMethod ov m pl)
      callWith pos f first (backTo pos (starEach (e :: es) X.env)) (backToKw pos (keywordEach [] X.env))) := by rfl) :
    PE X (.Call (.Attribute o m apos) (e :: es) [] pos) (tSM C sp E ta t) := by
  refine ⟨fun pins s σ H Q I h => ?_⟩
  refine PySem.W.methodCall_KW (pl := pl) (thn (he.run pins s σ H _ I h) fun u s1 ⟨x, H1, I1, rx, ex, q⟩ => ?_) ht
  subst ex
  obtain rfl : u = Value.ref C := rx
  obtain ⟨m0, hF⟩ := I1.fr
  obtain ⟨mc, h1, h2, h3⟩ := c.rd
  obtain ⟨rest, h4⟩ := c.rc
  refine PySem.W.method_of_cls hF I1.ok.mod.kin c.ga (PySem.W.cls_sm hF I1.ok.mod.kin h1 h2 h3 h4 rfl ?_)
  have I2 : L2.Inv X pins σ H1 { s1 with toks := s1.toks + 1 } := I1.tok _
  refine PySem.W.callWith_K (h₀ := X.base) I2.ok.mod.kin c.kp (thn (ha.run pos pins _ σ H1 _ I2 q) fun us s3 hh => ?_) hst hpl
  obtain ⟨vs, H3, I3, r3, q3⟩ := hh
  refine ⟨I3.kIn, ?_⟩
  exact run_any F hr I3.env0 hb hx I3 r3 q3
end
end OwnOps
end

-- Y5v
section
set_option Elab.async false
set_option linter.all false
set_option maxRecDepth 100000
set_option exponentiation.threshold 10000
namespace R50
open PySem L2 OwnOps OwnNe G1 StX SupX SortStr
/-! _check_part_names, Item.single -/
abbrev sCpn : Stmt := top 60
/-- of the class Kind and of pin kinds, for isinstance -/
structure KIs (K : PySem.W.Frag) (mg : Str → Option Value) (DK PK : Addr) : Prop where
  gK : mg "Kind" = some (.ref DK)
  ha : PySem.W.findIn K (.ref PK) "__class__" = some (some (.builtin "object.__class__"))
  hn : PySem.W.specialIn K (.builtin "object.__class__") "__get__" = some (some (.builtin "getset_descriptor.__get__"))
  htk : PySem.W.takesIn K (.builtin "object.__class__") = some true
  hm : PySem.W.mroIn K PK (.type "object") = some true
  kK : PySem.W.kitOne K (.ref PK) (.ref DK) = some true
abbrev NSi : List Str := ["kind", "value", "nets", "names", "worth"]
section
variable {P : Program} {w : World} {K : PySem.W.Frag} {mg : Str → Option Value} {base : Heap} {CI PK DK CR CN : Addr}
def spCpn : Sp := fun vs H Q _ => ∃ a z, vs = [.ref a] ∧ H a = some (.lst [.str z]) ∧ nm z = true ∧ shB z = true ∧ ∀ H', Same H H' → Q .non H'
theorem ok_cpn {f : Addr} {fd : FuncData} (F : Fun K "_check_part_names" "_check_part_names" sCpn f fd) (T : Bi mg) (GN : Glb P w K mg base "are_names" 3 ["values", "many"] spNames) : FnOk P w K mg base (L2.CX P w) 4 f fd ["names"] spCpn := by
  obtain ⟨_, _, mN, kN, GN, bN⟩ := GN.ex
  have sc : FnScope ["names"] ["names"] (defScope sCpn) := ⟨rfl, rfl, rfl, by decide +kernel, rfl, by decide +kernel, by decide +kernel⟩
  refine F.okX sc (fun vs H Q E h => ?_) (fun cdv A outer s H vs Q E hr h => ?_)
  · obtain ⟨a, z, rfl, _⟩ := h
    rfl
  · obtain ⟨a, z, rfl, ha, nz, sz, fin⟩ := h
    refine ⟨_, pss_cons (ps_if (PW.pt (pw_or (pt_not (pt_val (pe_callB call_isiT (by rfl) T.isi (by decide +kernel) (pa_cons (pv 0) (pa_cons (pe_tup (pa_cons (pe_bltn (v := .ty "list") (by rfl) T.list (by decide +kernel) rfl) (pa_cons (pe_bltn (v := .ty "tuple") (by rfl) T.tuple (by decide +kernel) rfl) pa_nil))) pa_nil)))))
        (pw_or1 (pt_cmpR op_eq (pe_callB call_len_seq (by rfl) T.len PySem.boot_len (pa_cons (pv 0) pa_nil)) pe_int (nomark _))))) pss_never pss_nil)
      (pss_one (ps_if (PW.pt (pw_or (pt_not (pt_val (pe_call (E := E0) GN (hr.mono (by decide)) (by rfl) mN kN bN .nil passL (pa_cons (pv 0) (pa_cons (pe_callB call_len_seq (by rfl) T.len PySem.boot_len (pa_cons (pv 0) pa_nil)) pa_nil)))))
        (pw_or1 (pt_cmpR op_lt (SetStr.pe_lenT (by rfl) T.len (by rfl) T.set (pv 0)) (pe_callB call_len_seq (by rfl) T.len PySem.boot_len (pa_cons (pv 0) pa_nil)) (nomark _))))) pss_never pss_nil)), ?_⟩
    refine ⟨_, rfl, (by show 2 ≤ sizeLine; decide), fun tp ht => ?_⟩
    have s1 : Same H (upd H tp (.tup [.ty "list", .ty "tuple"])) := same_upd ht
    have h1 : (upd H tp (.tup [.ty "list", .ty "tuple"])) tp = some (.tup [.ty "list", .ty "tuple"]) := upd_same
    generalize upd H tp (.tup [.ty "list", .ty "tuple"]) = H1 at s1 h1 ⊢
    have ha1 := s1 _ _ ha
    refine ⟨.ref a, tp, [.ty "list", .ty "tuple"], _, _, true, rfl, h1, .cons (.ty _) (.cons (.ty _) .nil), .base (.lst ha1), kitAny_cons (b := true) (kit_ty (by decide +kernel)) (fun h => nomatch h) (fun _ => rfl), _, rfl, ?_⟩
    refine if_neg' rfl ⟨_, rfl, a, _, rfl, .inl (SqL.of ha1), rfl, _, rfl, if_neg' (decide_eq_false fun q => by cases (V.int.inj q)) ?_⟩
    refine ⟨_, rfl, _, rfl, a, _, rfl, .inl (SqL.of ha1), a, [.str z], _, rfl, ha1, (show 1 ≤ 100 by decide), fun y hy => ?_, fun H2 s2 => ?_⟩
    · rw [List.mem_singleton.mp hy]
      exact ⟨.str z, sz⟩
    have s2 : Same H1 H2 := s2
    have e : namesB [V.str z] (([V.str z] : List V).length : Int) = true := by
      unfold namesB
      rw [decide_eq_true rfl]
      show (true && (nm z && true)) = true
      rw [nz]
      rfl
    refine ⟨_, rfl, if_neg' (by rw [e]; rfl) ⟨_, rfl, a, [z], rfl, .inl (SqL.of (s2 _ _ ha1)), (show 1 ≤ 4000 by decide), _, rfl, a, _, rfl, .inl (SqL.of (s2 _ _ ha1)), _, _, rfl, rfl, _, rfl, if_neg' ?_ (fin _ (s1.trans s2))⟩⟩
    rw [SetStr.cnt_nodup (xs := [z]) (List.nodup_cons.mpr ⟨(fun h => by cases h), List.nodup_nil⟩) _ (Nat.le_refl _)]
    exact decide_eq_false (Int.lt_irrefl _)
/-- nets as they are drawn -/
def Nets (ns : List Str) : Prop := ∀ y ∈ ns, nm y = true ∧ shB y = true ∧ y.length ≤ 20
theorem gix_in {pins : List Str} {gss : List (List Str)} (h : ∀ g ∈ gss, ∀ z ∈ g, z ∈ pins) {n : Nat} (hn : n = pins.length) : InR (gss.map (gix pins)) n := fun c hc i hi => by
  obtain ⟨g, hg, rfl⟩ := List.mem_map.mp hc
  obtain ⟨z, hz, rfl⟩ := List.mem_map.mp hi
  refine ⟨Int.natCast_nonneg _, ?_⟩
  rw [hn]
  exact Int.ofNat_lt.mpr (List.findIdx_lt_length_of_exists ⟨z, h g hg z hz, by simp⟩)
/-- a kind of pins of a size that is met -/
structure PinS (x : Str) (pins : List Str) (gss : List (List Str)) : Prop where
  sub : ∀ g ∈ gss, ∀ z ∈ g, z ∈ pins
  six : ∀ g ∈ gss, g.length ≤ 6
  len : pins.length ≤ 6
  txt : (pinT x pins gss).length ≤ 900
def spSgl (K : PySem.W.Frag) (CI PK : Addr) : Sp := fun vs H Q _ => ∃ kp dk x pins gss v na ns nn z, vs = [.ref kp, .int v, .ref na, .ref nn] ∧ PinI K H kp PK dk x pins gss ∧ PinS x pins gss ∧ 0 < v ∧ R50r.Pr v ∧ H na = some (.lst ((ns : List Str).map V.str)) ∧ ns.length = pins.length ∧ Nets ns ∧ H nn = some (.lst [.str z]) ∧ nm z = true ∧ shB z = true ∧
  ∀ q ky H', Same H H' → ItmI H' CI q kp (shpT x pins gss) ky → Q (.ref q) H'
set_option maxHeartbeats 4000000 in
theorem ok_sgl {f fi fw : Addr} {fd fid fwd : FuncData} (F : Fun K "single" "Item.single" (sIt 2) f fd) (T : Bi mg) (I : KIs K mg DK PK) (kc : KCls K PK) (gI : mg "Item" = some (.ref CI)) (GV : Glb P w K mg base "value_of" 5 ["value"] (R50r.spVal CR CN)) (GN : Glb P w K mg base "are_names" 3 ["values", "many"] spNames) (GC : Glb P w K mg base "_check_part_names" 4 ["names"] spCpn)
    (MI : Mk K CI fi) (GI : FnOk P w K mg base (L2.CX P w) 5 fi fid ["self", "expression", "turned", "kind", "worths", "nets", "names"] (spII K CI PK CR)) (bI : L2.Binds K fid ["self", "expression", "turned", "kind", "worths", "nets", "names"] [])
    (mF : Meth K PK "first_writing" fw) (GF : FnOk P w K mg base (L2.CX P w) 1 fw fwd ["self", "words"] (spFW K)) (bF : L2.Binds K fwd ["self", "words"] []) :
    FnOk P w K mg base (L2.CX P w) 7 f fd ["kind", "value", "nets", "names"] (spSgl K CI PK) := by
  obtain ⟨_, _, mV, kV, GV, bV⟩ := GV.ex
  obtain ⟨_, _, mN, kN, GN, bN⟩ := GN.ex
  obtain ⟨_, _, mC, kC, GC, bC⟩ := GC.ex
  have sc : FnScope NSi ["kind", "value", "nets", "names"] (defScope (sIt 2)) := ⟨rfl, rfl, rfl, by decide +kernel, rfl, by decide +kernel, by decide +kernel⟩
  have hN := sc.nd
  refine F.okX sc (fun vs H Q E h => ?_) (fun cdv A outer s H vs Q E hr h => ?_)
  · obtain ⟨kp, dk, x, pins, gss, v, na, ns, nn, z, rfl, _⟩ := h
    rfl
  · obtain ⟨kp, dk, x, pins, gss, v, na, ns, nn, z, rfl, pk, ps, v0, pv_, hna, ln, nets, hnn, nz, sz, fin⟩ := h
    refine ⟨_, pss_cons (ps_if (PW.pt (pw_or (pt_not (pt_val (pe_callB call_isi (by rfl) T.isi (by decide +kernel) (pa_cons (pv 0) (pa_cons (pe_glob (v := .ref DK) (by rfl) I.gK rfl) pa_nil))))) (pw_or1 (pt_val (pe_fld (pv 0) rfl))))) pss_never pss_nil)
      (pss_cons (ps_set (i := 4) hN rfl (Or.inl rfl) (pe_call (E := E0) GV (hr.mono (by decide)) (by rfl) mV kV bV .nil passL (pa_cons (pv 1) pa_nil)))
      (pss_cons (ps_if (pt_not (pt_val (pe_call (E := E0) GN (hr.mono (by decide)) (by rfl) mN kN bN .nil passL (pa_cons (pv 2) (pa_cons (pe_callB call_len_seq (by rfl) T.len PySem.boot_len (pa_cons (pe_fld (pv 0) rfl) pa_nil)) pa_nil))))) pss_never pss_nil)
      (pss_cons (ps_expr (pe_call (E := E0) GC (hr.mono (by decide)) (by rfl) mC kC bC .nil passL (pa_cons (pv 3) pa_nil)))
      (pss_one (ps_ret (pe_make (E := E0) MI GI (hr.mono (by decide)) (by rfl) gI bI .nil passL (pa_cons pe_non (pa_cons pe_non (pa_cons (pv 0) (pa_cons (pe_tup (pa_cons (pv 4) pa_nil)) (pa_cons (pe_meth (E := E0) (pv 0) kc.cl mF GF (hr.mono (by decide)) bF .nil passL (pa_cons (pv 2) pa_nil)) (pa_cons (pv 3) pa_nil)))))))))))), ?_⟩
    obtain ⟨pa, ca, oa, ga, k1, k2, k3, k4, rs, k5⟩ := id pk.ex
    refine ⟨_, rfl, _, _, _, _, _, rfl, .own DK, .base (.ins k1 kc.cl I.ha I.hn I.htk I.hm), I.kK, _, rfl, if_neg' rfl ?_⟩
    refine ⟨_, rfl, kp, PK, dk, _, _, rfl, k1, kc.cl, kc.n4, (by kernel_rfl), _, rfl, if_neg' rfl ?_⟩
    refine ⟨_, rfl, .int v, rfl, .inl ⟨v, 1, ⟨.inr ⟨rfl, rfl⟩, by decide, v0, Nat.one_lt_two_pow (by decide), (RatM.nt_one v).1, (RatM.nt_one v).2⟩, fun one H1 s1 ho => ?_⟩⟩
    have s1 : Same H H1 := s1
    have k2' : SqT K H1 pa (pins.map V.str) := Same.tupS s1 k2
    refine ⟨_, rfl, _, rfl, kp, PK, dk, _, _, rfl, s1 _ _ k1, kc.cl, kc.n2, (by kernel_rfl), pa, _, rfl, .inr k2', na, ns.map V.str, _, rfl, s1 _ _ hna, ?_, fun y hy => ?_, fun H2 s2 => ?_⟩
    · rw [List.length_map, ln]
      have := ps.len
      omega
    · obtain ⟨y', hy', rfl⟩ := List.mem_map.mp hy
      exact ⟨.str y', (nets y' hy').2.1⟩
    have s2 : Same H1 H2 := s2
    have e : namesB (ns.map V.str) (((pins.map V.str).length : Nat) : Int) = true := by
      unfold namesB
      rw [List.length_map, List.length_map, ln, decide_eq_true rfl, Bool.true_and, List.all_map, List.all_eq_true]
      exact fun y hy => (nets y hy).1
    refine ⟨_, rfl, if_neg' (by rw [e]; rfl) ?_⟩
    have s12 := s1.trans s2
    refine ⟨_, rfl, nn, z, rfl, s12 _ _ hnn, nz, sz, fun H3 s3 => ?_⟩
    have s3 : Same H2 H3 := s3
    have s13 := s12.trans s3
    refine ⟨_, rfl, _, rfl, (by show 1 ≤ sizeLine; decide), fun wt nwt => ?_⟩
    have s4 := same_upd (o := .tup [.ref one]) nwt
    have hwt : (upd H3 wt (.tup [.ref one])) wt = some (.tup [.ref one]) := upd_same
    generalize upd H3 wt (.tup [.ref one]) = H4 at s4 hwt ⊢
    have s14 := s13.trans s4
    have inr := gix_in ps.sub ln
    refine ⟨_, rfl, kp, dk, _, rfl, s14 _ _ k1, (by kernel_rfl), _, rfl, kp, na, PK, dk, _, ga, _, rs, ns, rfl, s14 _ _ k1, kc, (by kernel_rfl), k5.same s14, s14 _ _ hna, inr, fun c hc => ?_, fun st H5 ws s5 lw mw hst => ?_⟩
    · obtain ⟨g, hg, rfl⟩ := List.mem_map.mp hc
      unfold gix
      rw [List.length_map]
      have := ps.six g hg
      omega
    have s5 : Same H4 H5 := s5
    have s15 := s14.trans s5
    refine ⟨_, rfl, fun q dq hq hdq ne => ?_⟩
    have s6 := same_new (C := CI) hq hdq
    have s16 := s15.trans s6
    have ho1 : R50r.Rat CR H5 one v 1 := ho.same ((s2.trans s3).trans (s4.trans s5))
    have up : ∀ {b : Addr} {u : HO}, H5 b = some u → (upd (upd H5 dq (.own q)) q (.ins CI dq [])) b = some u := fun {b u} e => s6 b u e
    refine ⟨q, dq, kp, dk, x, pins, gss, wt, one, v, 1, st, ws, nn, z, rfl, upd_same, (pk.same s16), (by rw [lw]; exact inr), ps.six, ps.txt, up hst, ?_, fun y hy => (nets y (mw y hy)).2.2, up (s5 _ _ hwt), ho1.same s6, pv_, (by unfold R50r.Pr; decide +kernel), s16 _ _ hnn, fun ky H' sx it => ⟨rfl, fin q ky H' (s15.trans fun b u e => sx b u (ne_of_none e hq) (up e)) it⟩⟩
    rw [lw, ln]
    have := ps.len
    omega
end
end R50
end

-- Y5x
section
set_option Elab.async false
set_option linter.all false
set_option maxRecDepth 100000
set_option exponentiation.threshold 10000
namespace R50
open PySem L2 OwnOps OwnNe G1 StX SupX SortStr GenE
/-! ways, of singles -/
abbrev sWay : Stmt := top 53
abbrev NWa : List Str := ["item", "other", "many", "there", "told", "ends", "sign", "pairs", "leaves", "order", "_", "place"]
/-- a list of ways: an order and (0,) each -/
def WayL (H : Hp) (D : Addr) (os : List (List Int)) : Prop := ∃ ts : List (Addr × Addr × Addr), H D = some (.lst (ts.map fun t => V.ref t.1)) ∧ ts.length = os.length ∧ ∀ (i : Nat) (t : Addr × Addr × Addr), ts[i]? = some t → ∃ o, os[i]? = some o ∧ H t.1 = some (.tup [.ref t.2.1, .ref t.2.2]) ∧ H t.2.1 = some (.tup (o.map V.int)) ∧ H t.2.2 = some (.tup [.int 0])
theorem WayL.same {H H' : Hp} {D : Addr} {os : List (List Int)} (h : WayL H D os) (s : Same H H') : WayL H' D os :=
  let ⟨ts, a, b, c⟩ := h
  ⟨ts, s _ _ a, b, fun i t ht => let ⟨o, h1, h2, h3, h4⟩ := c i t ht; ⟨o, h1, s _ _ h2, s _ _ h3, s _ _ h4⟩⟩
section
variable {P : Program} {w : World} {K : PySem.W.Frag} {mg : Str → Option Value} {base : Heap} {CI PK : Addr}
def spWay (K : PySem.W.Frag) (CI PK : Addr) : Sp := fun vs H Q _ => ∃ p q kp kq dk x pins gss sh ky ky', vs = [.ref p, .ref q] ∧ ItmI H CI p kp (shpT x pins gss) ky ∧ ItmI H CI q kq sh ky' ∧ PinI K H kp PK dk x pins gss ∧ (pinO pins gss).length ≤ 1000 ∧
  ((shpT x pins gss ≠ sh ∧ ∀ D H', Same H H' → H' D = some (.lst []) → Q (.ref D) H') ∨ (shpT x pins gss = sh ∧ ∀ D H', Same H H' → H D = none → WayL H' D (pinO pins gss) → Q (.ref D) H'))
set_option maxHeartbeats 4000000 in
theorem ok_way {f ex : Addr} {fd exd : FuncData} (F : Fun K "ways" "ways" sWay f fd) (T : Bi mg) (U : ItC K CI) (kc : KCls K PK) (m5 : ∃ t, mg "MOST_LEAVES" = some (.int 5 t)) (mE : Meth K PK "exchanges" ex) (GE : GFnE P w K mg base 1 False ex exd ["self"] (spExE K)) (bE : L2.Binds K exd ["self"] []) :
    FnOk P w K mg base (L2.CX P w) 3 f fd ["item", "other"] (spWay K CI PK) := by
  obtain ⟨t5, m5⟩ := m5
  have sc : FnScope NWa ["item", "other"] (defScope sWay) := ⟨rfl, rfl, rfl, by decide +kernel, rfl, by decide +kernel, by decide +kernel⟩
  have hN := sc.nd
  refine F.okX sc (fun vs H Q E h => ?_) (fun cdv A outer s H vs Q E hr h => ?_)
  · obtain ⟨p, q, kp, kq, dk, x, pins, gss, sh, ky, ky', rfl, _⟩ := h
    rfl
  · obtain ⟨p, q, kp, kq, dk, x, pins, gss, sh, ky, ky', rfl, ip, iq, pk, ol, k⟩ := h
    have cS : ∀ C, C = PK → Cls K C ∧ Meth K C "exchanges" ex := fun C h => by rw [h]; exact ⟨kc.cl, mE⟩
    refine ⟨_, pss_cons (ps_set (i := 2) hN rfl (Or.inl rfl) (pe_callB (call_max2 rfl) (by rfl) T.max (by decide +kernel) (pa_cons (pe_callB call_len_seq (by rfl) T.len PySem.boot_len (pa_cons (pe_fld (pv 0) rfl) pa_nil)) (pa_cons (pe_callB call_len_seq (by rfl) T.len PySem.boot_len (pa_cons (pe_fld (pv 1) rfl) pa_nil)) pa_nil))))
      (pss_cons (ps_if (pt_cmpR op_gt (pv 2) (pe_glob (v := .int 5) (by rfl) m5 ⟨_, rfl⟩) (nomark _)) pss_never pss_nil)
      (pss_cons (ps_if (pt_cmpR op_ne (pe_fld (pv 0) rfl) (pe_fld (pv 1) rfl) (nomark _)) (pss_one (ps_ret (pe_lst pa_nil))) pss_nil)
      (pss_cons (ps_if (pt_not (pt_val (pe_fld (pv 0) rfl)))
        (pss_one (ps_ret (pe_lcT (own := [("order", 9)]) (pgenE_meth0 (S := fun C => C = PK) (pe_fld (pv 0) rfl) cS GE (fun vs H n Ab Fin h => by obtain ⟨_, _, _, _, _, _, rfl, _⟩ := h; rfl) (hr.mono (by decide)) bE) rfl (hr.mono (by decide)) (blkOk_by (N := NWa) (sc := defScope sWay) (by decide +kernel)) (fun _ _ => rfl) (fun _ _ _ => rfl) (fun _ _ _ => rfl)))) pss_nil)
      pss_never))), ?_⟩
    obtain ⟨dp, fs, wt, one, a1, a2, a3, a4, a5, a6, a7⟩ := ip.ex
    obtain ⟨dq, fq, wq, one', b1, b2, b3, b4, b5, b6, b7⟩ := iq.ex
    obtain ⟨pa, ca, oa, ga, k1, k2, k3, k4, rs, k5⟩ := id pk.ex
    refine ⟨_, rfl, p, CI, dp, fs, _, rfl, a1, U.cl, U.n5, a4, wt, _, rfl, .inr (SqT.of a5), _, rfl, q, CI, dq, fq, _, rfl, b1, U.cl, U.n5, b4, wq, _, rfl, .inr (SqT.of b5), _, _, rfl, ?_⟩
    refine ⟨_, rfl, _, _, rfl, rfl, _, rfl, if_neg' (by show decide ((5 : Int) < (if ((1 : Nat) : Int) > ((1 : Nat) : Int) then ((1 : Nat) : Int) else ((1 : Nat) : Int))) = false; decide) ?_⟩
    refine ⟨_, rfl, p, CI, dp, fs, _, rfl, a1, U.cl, U.n10, a6, _, rfl, q, CI, dq, fq, _, rfl, b1, U.cl, U.n10, b6, rfl, _, rfl, ?_⟩
    rcases k with ⟨nes, k⟩ | ⟨es, k⟩
    · refine if_pos' (by rw [decide_eq_false fun z => nes (V.str.inj z)]; rfl) ⟨(by show 0 ≤ sizeLine; exact Nat.zero_le _), fun D nD => k D _ (same_upd nD) upd_same⟩
    · refine if_neg' (by rw [es, decide_eq_true rfl]; rfl) ?_
      refine ⟨_, rfl, p, CI, dp, fs, _, rfl, a1, U.cl, U.n4, a3, _, rfl, if_pos' rfl ?_⟩
      obtain ⟨as, o1, o2, o3⟩ := id k4
      have lo : (as.map V.ref).length ≤ sizeLine := by
        have l : 1000 ≤ sizeLine := by decide
        rw [List.length_map, o2]
        omega
      refine ⟨(as.map V.ref).length, (fun i _ y => (as.map V.ref)[i]? = some y), (fun G => Same H G), as.map V.ref, lo, rfl, fun i G y h => h, ?_, _, rfl, p, CI, dp, fs, _, rfl, a1, U.cl, U.n3, a2, kp, PK, dk, _, rfl, k1, rfl, (by kernel_rfl), kp, PK, dk, _, oa, _, rfl, k1, kc, (by kernel_rfl), SqT.of o1, rfl, rfl, rfl⟩
      intro G hG G' D rows hs hr hrow nD hD
      have sG : Same H G := hG
      have len : rows.length = as.length := by
        have := congrArg List.length hr
        rw [List.length_map, List.length_map] at this
        exact this
      refine k D G' (sG.trans hs) (Same.none sG nD) ⟨(rows.zip as).map fun z => (z.1.T, z.2, z.1.Z), ?_, ?_, fun i t ht => ?_⟩
      · rw [hD, List.map_map]
        congr 2
        have : (rows.zip as).map (fun z => z.1) = rows := by
          rw [List.map_fst_zip]
          omega
        conv => lhs; rw [← this]
        rw [List.map_map]
        rfl
      · rw [List.length_map, List.length_zip, len, Nat.min_self, o2]
      · obtain ⟨z, hz, rfl⟩ := map_some ht
        obtain ⟨r, a⟩ := z
        rw [List.getElem?_zip_eq_some] at hz
        obtain ⟨z1, z2⟩ := hz
        obtain ⟨h1, h2⟩ := hrow r (List.mem_of_getElem? z1)
        have ex : r.x = .ref a := by
          have e1 : (rows.map RowT.x)[i]? = some r.x := by rw [List.getElem?_map, z1]; rfl
          rw [hr, List.getElem?_map, z2] at e1
          exact (Option.some.inj e1).symm
        obtain ⟨o, g1, g2⟩ := o3 i a z2
        rw [ex] at h1
        exact ⟨o, g1, h1, hs _ _ (sG _ _ g2), h2⟩
end
end R50
end

-- Y5d
section
set_option Elab.async false
set_option linter.all false
set_option maxRecDepth 100000
set_option exponentiation.threshold 10000
namespace R50
open PySem L2 OwnOps RatM OwnNe G1 StX SupX R50r
/-! the law's draws -/
abbrev sStart : Stmt := top 62
abbrev sDraw : Stmt := top 63
/-- the state of the law's draws -/
def St (H : Hp) (l ls : Addr) : Prop := ∃ (ns : List Int) (at' rest seed : Int), ls ≠ l ∧ 0 ≤ at' ∧ H ls = some (.lst (ns.map V.int)) ∧ H l = some (.lst [.ref ls, .int at', .int rest, .int seed])
theorem St.same {H H' : Hp} {l ls : Addr} (h : St H l ls) (s : Same H H') : St H' l ls :=
  let ⟨ns, a, r, sd, n, a0, h1, h2⟩ := h
  ⟨ns, a, r, sd, n, a0, s _ _ h1, s _ _ h2⟩
structure Nms (mg : Str → Option Value) : Prop where
  len : mg "len" = none
  range : mg "range" = none
  list : mg "list" = none
  all : mg "all" = none
theorem mod_nn {x : Int} {u : Int} (h : 0 < u) : 0 ≤ x % u ∧ x % u < u := ⟨Int.emod_nonneg _ (Int.ne_of_gt h), Int.emod_lt_of_pos _ h⟩
theorem ns_at {ns : List Int} {a : Int} (a0 : 0 ≤ a) (h : decide (a < ((ns.map V.int).length : Int)) = true) : ∃ z, atI (ns.map V.int) a = some (.int z) := by
  have h := of_decide_eq_true h
  rw [List.length_map] at h
  obtain ⟨j, hj⟩ : ∃ j : Nat, a = j := ⟨_, (Int.toNat_of_nonneg a0).symm⟩
  have h3 : j < ns.length := by omega
  refine ⟨ns[j], at_of hj ?_⟩
  rw [List.getElem?_map, List.getElem?_eq_getElem h3]
  rfl
section
variable {P : Program} {w : World} {K : PySem.W.Frag} {mg : Str → Option Value} {base : Heap} {C CI fCI CZ fCZ : Addr}
def spDraw : Sp := fun vs H Q _ => ∃ (l ls : Addr) (u : Int), vs = [.ref l, .int u] ∧ 0 < u ∧ u.natAbs < 2 ^ 9000 ∧ St H l ls ∧
  ∀ d H', 0 ≤ d → d < u → SameX l H H' → St H' l ls → Q (.int d) H'
theorem ok_draw {f : Addr} {fd : FuncData} (F : Fun K "_law_draw" "_law_draw" sDraw f fd) (int : mg "int" = none) (N : Nms mg) :
    FnOk P w K mg base (L2.CX P w) 1 f fd ["_law_state", "_law_many"] spDraw := by
  have sc : FnScope ["_law_state", "_law_many", "_law_digit", "_law_cell"] ["_law_state", "_law_many"] (defScope sDraw) := ⟨rfl, rfl, rfl, by decide +kernel, rfl, by decide +kernel, by decide +kernel⟩
  refine F.okX sc (fun vs H Q E h => ?_) (fun cdv A outer s H vs Q E hr h => ?_)
  · obtain ⟨l, ls, u, rfl, _⟩ := h
    rfl
  · obtain ⟨l, ls, u, rfl, u0, u1, ⟨ns, a, r, sd, n, a0, h1, h2⟩, fin⟩ := h
    refine ⟨_, pss_cons (ps_if (pt_cmpR op_gt (pe_ix ix_list (pv 0) pe_int (fun _ _ => rfl)) pe_int (nomark _))
        (pss_cons (ps_set (i := 2) sc.nd rfl (Or.inl rfl) (pe_op op_mod (pe_callTy call_int1 (by rfl) int (by decide +kernel) (pa_cons (pe_ix ix_list (pv 0) pe_int (fun _ _ => rfl)) pa_nil)) (pv 1)))
        (pss_cons (ps_asg (pe_op op_fdivG (pe_ix ix_list (pv 0) pe_int (fun _ _ => rfl)) (pv 1)) (pg_sub (pv 0) pe_int set_list))
        (pss_one (ps_ret (pv 2))))) pss_nil)
      (pss_cons (ps_set (i := 3) sc.nd rfl (Or.inl rfl) (pe_ifExp (pt_cmpR op_lt (pe_ix ix_list (pv 0) pe_int (fun _ _ => rfl)) (pe_callB call_len_seq (by rfl) N.len PySem.boot_len (pa_cons (pe_ix ix_list (pv 0) pe_int (fun _ _ => rfl)) pa_nil)) (nomark _))
          (pe_ix ix_list (pe_ix ix_list (pv 0) pe_int (fun _ _ => rfl)) (pe_ix ix_list (pv 0) pe_int (fun _ _ => rfl)) (fun _ _ => rfl)) pe_int))
      (pss_cons (ps_asg (pe_op op_add (pe_ix ix_list (pv 0) pe_int (fun _ _ => rfl)) pe_int) (pg_sub (pv 0) pe_int set_list))
      (pss_cons (ps_if (pt_cmpR op_ge (pv 3) (pe_op op_pow pe_int pe_int) (nomark _))
        (pss_cons (ps_asg (pe_op op_fdivG (pv 3) (pv 1)) (pg_sub (pv 0) pe_int set_list))
        (pss_one (ps_ret (pe_op op_mod (pe_callTy call_int1 (by rfl) int (by decide +kernel) (pa_cons (pv 3) pa_nil)) (pv 1))))) pss_nil)
      (pss_cons (ps_asg (pe_op op_mod (pe_callTy call_int1 (by rfl) int (by decide +kernel) (pa_cons (pe_op op_add (pe_op op_add (pe_op op_add (pe_op op_mul (pe_ix ix_list (pv 0) pe_int (fun _ _ => rfl)) pe_int) (pe_op op_mul (pv 3) pe_int)) (pe_op op_mul (pe_ix ix_list (pv 0) pe_int (fun _ _ => rfl)) pe_int)) pe_int) pa_nil)) pe_int) (pg_sub (pv 0) pe_int set_list))
      (pss_one (ps_ret (pe_op op_mod (pe_callTy call_int1 (by rfl) int (by decide +kernel) (pa_cons (pe_op op_mod (pe_callTy call_int1 (by rfl) int (by decide +kernel) (pa_cons (pe_op op_add (pe_op op_mul (pe_ix ix_list (pv 0) pe_int (fun _ _ => rfl)) pe_int) pe_int) pa_nil)) pe_int) pa_nil)) (pv 1)))))))), ?_⟩
    have dv : ∀ x, CDivG x u := fun x => wide_divG (Int.ne_of_gt u0) u1 (by decide) (by decide)
    have kp : ∀ {o : HO} {H0 : Hp}, SameX l H H0 → (L2.upd H0 l o) ls = some (.lst (ns.map V.int)) := fun {o H0} s0 => by
      rw [upd_ne n]
      exact s0 _ _ n h1
    have p18 : ((10 : Int) ^ (18 : Int).toNat) = 1000000000000000000 := by decide +kernel
    refine ⟨_, rfl, l, _, _, _, rfl, rfl, SqL.of h2, at_of (j := 2) rfl rfl, _, _, rfl, rfl, _, rfl, ?_⟩
    refine ite2 (fun _ => ?_) (fun _ => ?_)
    · refine ⟨_, rfl, l, _, _, _, rfl, rfl, SqL.of h2, at_of (j := 2) rfl rfl, .inl ⟨_, rfl, _, rfl, _, _, rfl, rfl, u0, ?_⟩⟩
      refine ⟨_, rfl, l, _, _, _, rfl, rfl, SqL.of h2, at_of (j := 2) rfl rfl, _, rfl, _, _, rfl, rfl, dv _, _, rfl, l, _, _, 2, rfl, rfl, h2, rfl, _, rfl, ?_⟩
      exact fin _ _ (mod_nn u0).1 (mod_nn u0).2 SameX.upd ⟨ns, a, _, sd, n, a0, kp (SameX.refl l H), upd_same⟩
    · refine ⟨_, rfl, l, _, _, _, rfl, rfl, SqL.of h2, at_of (j := 1) rfl rfl, _, rfl, l, _, _, _, rfl, rfl, SqL.of h2, at_of (j := 0) rfl rfl, ls, _, rfl, .inl (SqL.of h1), _, _, rfl, rfl, _, rfl, ?_⟩
      refine ite2 (fun hin => ?_) (fun _ => ?_)
      · obtain ⟨z, hz⟩ := ns_at a0 hin
        refine ⟨_, rfl, l, _, _, _, rfl, rfl, SqL.of h2, at_of (j := 0) rfl rfl, _, rfl, l, _, _, _, rfl, rfl, SqL.of h2, at_of (j := 1) rfl rfl, ls, _, _, _, rfl, rfl, SqL.of h1, hz, ?_⟩
        refine ⟨_, rfl, l, _, _, _, rfl, rfl, SqL.of h2, at_of (j := 1) rfl rfl, _, _, rfl, rfl, _, rfl, l, _, _, 1, rfl, rfl, h2, rfl, ?_⟩
        have h3 : (L2.upd H l (.lst [.ref ls, .int (a + 1), .int r, .int sd])) l = some (.lst [.ref ls, .int (a + 1), .int r, .int sd]) := upd_same
        refine ⟨_, rfl, _, _, rfl, rfl, ⟨by decide, by decide, by decide +kernel⟩, _, _, rfl, rfl, _, rfl, ?_⟩
        refine ite2 (fun _ => ?_) (fun _ => ?_)
        · refine ⟨_, rfl, _, rfl, _, _, rfl, rfl, dv _, _, rfl, l, _, _, 2, rfl, rfl, h3, rfl, ?_⟩
          refine ⟨_, rfl, .inl ⟨_, rfl, _, rfl, _, _, rfl, rfl, u0, ?_⟩⟩
          exact fin _ _ (mod_nn u0).1 (mod_nn u0).2 (SameX.upd.trans SameX.upd) ⟨ns, a + 1, _, sd, n, by omega, kp SameX.upd, upd_same⟩
        · refine ⟨_, rfl, l, _, _, _, rfl, rfl, SqL.of h3, at_of (j := 3) rfl rfl, _, _, rfl, rfl, .inr ⟨by decide, by decide⟩, _, rfl, _, _, rfl, rfl, .inr ⟨by decide, by decide⟩, _, _, rfl, rfl,
            _, rfl, l, _, _, _, rfl, rfl, SqL.of h3, at_of (j := 1) rfl rfl, _, _, rfl, rfl, .inr ⟨by decide, by decide⟩, _, _, rfl, rfl, _, _, rfl, rfl, .inl ⟨_, rfl, _, _, rfl, rfl, (by show (0 : Int) < 2147483647; decide), _, rfl, l, _, _, 3, rfl, rfl, h3, rfl, ?_⟩⟩
          refine ⟨_, rfl, l, _, _, _, rfl, rfl, SqL.of upd_same, at_of (j := 3) rfl rfl, _, _, rfl, rfl, .inr ⟨by decide, by decide⟩, _, _, rfl, rfl, .inl ⟨_, rfl, _, _, rfl, rfl, (by show (0 : Int) < 2147483399; decide), .inl ⟨_, rfl, _, rfl, _, _, rfl, rfl, u0, ?_⟩⟩⟩
          exact fin _ _ (mod_nn u0).1 (mod_nn u0).2 (SameX.upd.trans SameX.upd) ⟨ns, a + 1, r, _, n, by omega, kp SameX.upd, upd_same⟩
      · skip
        refine ⟨_, rfl, l, _, _, _, rfl, rfl, SqL.of h2, at_of (j := 1) rfl rfl, _, _, rfl, rfl, _, rfl, l, _, _, 1, rfl, rfl, h2, rfl, ?_⟩
        have h3 : (L2.upd H l (.lst [.ref ls, .int (a + 1), .int r, .int sd])) l = some (.lst [.ref ls, .int (a + 1), .int r, .int sd]) := upd_same
        refine ⟨_, rfl, _, _, rfl, rfl, ⟨by decide, by decide, by decide +kernel⟩, _, _, rfl, rfl, _, rfl, ?_⟩
        refine ite2 (fun _ => ?_) (fun _ => ?_)
        · refine ⟨_, rfl, _, rfl, _, _, rfl, rfl, dv _, _, rfl, l, _, _, 2, rfl, rfl, h3, rfl, ?_⟩
          refine ⟨_, rfl, .inl ⟨_, rfl, _, rfl, _, _, rfl, rfl, u0, ?_⟩⟩
          exact fin _ _ (mod_nn u0).1 (mod_nn u0).2 (SameX.upd.trans SameX.upd) ⟨ns, a + 1, _, sd, n, by omega, kp SameX.upd, upd_same⟩
        · refine ⟨_, rfl, l, _, _, _, rfl, rfl, SqL.of h3, at_of (j := 3) rfl rfl, _, _, rfl, rfl, .inr ⟨by decide, by decide⟩, _, rfl, _, _, rfl, rfl, .inr ⟨by decide, by decide⟩, _, _, rfl, rfl,
            _, rfl, l, _, _, _, rfl, rfl, SqL.of h3, at_of (j := 1) rfl rfl, _, _, rfl, rfl, .inr ⟨by decide, by decide⟩, _, _, rfl, rfl, _, _, rfl, rfl, .inl ⟨_, rfl, _, _, rfl, rfl, (by show (0 : Int) < 2147483647; decide), _, rfl, l, _, _, 3, rfl, rfl, h3, rfl, ?_⟩⟩
          refine ⟨_, rfl, l, _, _, _, rfl, rfl, SqL.of upd_same, at_of (j := 3) rfl rfl, _, _, rfl, rfl, .inr ⟨by decide, by decide⟩, _, _, rfl, rfl, .inl ⟨_, rfl, _, _, rfl, rfl, (by show (0 : Int) < 2147483399; decide), .inl ⟨_, rfl, _, rfl, _, _, rfl, rfl, u0, ?_⟩⟩⟩
          exact fin _ _ (mod_nn u0).1 (mod_nn u0).2 (SameX.upd.trans SameX.upd) ⟨ns, a + 1, r, _, n, by omega, kp SameX.upd, upd_same⟩
end
section
variable {P : Program} {w : World} {K : PySem.W.Frag} {mg : Str → Option Value} {base : Heap}
def spStart (K : PySem.W.Frag) : Sp := fun vs H Q _ => ∃ (a : Addr) (ns : List Int), vs = [.ref a] ∧ SqL K H a (ns.map V.int) ∧ ∀ l ls H', Same H H' → St H' l ls → H l = none → H ls = none → Q (.ref l) H'
theorem ok_start {f : Addr} {fd : FuncData} (F : Fun K "_law_start" "_law_start" sStart f fd) (N : Nms mg) : FnOk P w K mg base (L2.CX P w) 1 f fd ["_law_script"] (spStart K) := by
  have sc : FnScope ["_law_script"] ["_law_script"] (defScope sStart) := ⟨rfl, rfl, rfl, by decide +kernel, rfl, by decide +kernel, by decide +kernel⟩
  refine F.okX sc (fun vs H Q E h => ?_) (fun cdv A outer s H vs Q E hr h => ?_)
  · obtain ⟨a, ns, rfl, _⟩ := h
    rfl
  · obtain ⟨a, ns, rfl, hS, k⟩ := h
    refine ⟨_, pss_one (ps_ret (pe_lst (pa_cons (pe_callTy call_list_of (by rfl) N.list (by decide +kernel) (pa_cons (pv 0) pa_nil)) (pa_cons pe_int (pa_cons pe_int (pa_cons pe_int pa_nil)))))), ?_⟩
    refine ⟨_, rfl, a, _, rfl, .inl hS, fun ls nls => ⟨(by show 4 ≤ sizeLine; decide), fun l nl => ?_⟩⟩
    have s1 := G1.same_upd (o := .lst (ns.map V.int)) nls
    have s2 := G1.same_upd (o := .lst [V.ref ls, .int 0, .int 0, .int 7]) nl
    exact k l ls _ (s1.trans s2) ⟨ns, 0, 0, 7, ne_of_none upd_same nl, Int.le_refl 0, s2 _ _ upd_same, upd_same⟩ (Same.none s1 nl) nls
end
theorem sx_put {l D : Addr} {H G : Hp} {o : HO} (s : SameX l H G) (h : H D = none) : SameX l H (upd G D o) := fun b u n e => by
  rw [upd_ne (ne_of_none e h)]
  exact s b u n e
theorem sm9 {u : Int} (h : u.natAbs < 2 ^ 128) : u.natAbs < 2 ^ 9000 := Nat.lt_of_lt_of_le h (Nat.pow_le_pow_right (by decide) (by decide))
theorem St.put {H : Hp} {l ls : Addr} {D : Addr} {o : HO} (h : St H l ls) (hl : D ≠ l) (hs : D ≠ ls) : St (upd H D o) l ls := by
  obtain ⟨ns, a, r, sd, n, a0, h1, h2⟩ := h
  exact ⟨ns, a, r, sd, n, a0, by rw [upd_ne hs.symm]; exact h1, by rw [upd_ne hl.symm]; exact h2⟩
theorem St.l {H : Hp} {l ls : Addr} (h : St H l ls) : (H l).isSome = true ∧ (H ls).isSome = true := by
  obtain ⟨ns, a, r, sd, n, a0, h1, h2⟩ := h
  rw [h1, h2]
  exact ⟨rfl, rfl⟩
theorem St.ne {H : Hp} {l ls D : Addr} (h : St H l ls) (n : H D = none) : D ≠ l ∧ D ≠ ls := by
  obtain ⟨h1, h2⟩ := h.l
  exact ⟨fun z => (by rw [z] at n; rw [n] at h1; cases h1), fun z => (by rw [z] at n; rw [n] at h2; cases h2)⟩
theorem sameX_none {l x : Addr} {H G : Hp} (s : SameX l H G) (n : x ≠ l) (h : G x = none) : H x = none := by
  cases e : H x with
  | none => rfl
  | some o =>
    rw [s x o n e] at h
    cases h
end R50
end

-- Y5y
section
set_option Elab.async false
set_option linter.all false
set_option maxRecDepth 100000
set_option exponentiation.threshold 10000
namespace R50
open PySem L2 OwnOps OwnNe G1 StX SupX
/-! the law's five kinds -/
abbrev sLKd : Stmt := top 65
def kx (n : Nat) : Str := match n with
  | 0 => "p"
  | 1 => "q"
  | 2 => "s"
  | 3 => "t"
  | _ => "u"
def kps (n : Nat) : List Str := match n with
  | 0 => ["x", "y", "z"]
  | 1 => ["x"]
  | 2 => ["v", "w", "x", "y"]
  | 3 => ["v", "w", "x", "y", "z"]
  | _ => ["x", "y"]
def ksw (n : Nat) : List (List Str) := match n with
  | 0 => [["x", "z"]]
  | 1 => []
  | 2 => [["v", "w"], ["x", "y"]]
  | 3 => [["w", "x", "z"]]
  | _ => []
def kgi (n : Nat) : List (List Int) := match n with
  | 0 => [[0, 2]]
  | 1 => []
  | 2 => [[0, 1], [2, 3]]
  | 3 => [[1, 2, 4]]
  | _ => []
def kgs (n : Nat) : List (List Str) := gsOf (kps n) ((ksw n).map some)
theorem kgi_eq : ∀ n, n < 5 → (kgs n).map (gix (kps n)) = kgi n := by decide +kernel
theorem kps_len : ∀ n, n < 5 → 1 ≤ (kps n).length ∧ (kps n).length ≤ 5 := by decide +kernel
/-- what _law_kind tells of a number -/
structure KDI (K : PySem.W.Frag) (PK : Addr) (H : Hp) (T q : Addr) (n : Nat) : Prop where
  ex : ∃ dq L rs, H T = some (.tup [.ref q, .ref L, .int ((kps n).length : Nat)]) ∧ PinI K H q PK dq (kx n) (kps n) (kgs n) ∧ LIs H L (kgi n) rs
theorem KDI.same {K : PySem.W.Frag} {PK : Addr} {H H' : Hp} {T q : Addr} {n : Nat} (h : KDI K PK H T q n) (s : Same H H') : KDI K PK H' T q n :=
  let ⟨dq, L, rs, a, b, c⟩ := h.ex
  ⟨dq, L, rs, s _ _ a, b.same s, c.same s⟩
/-- its lists are new -/
structure KFr (H H' : Hp) (T q : Addr) : Prop where
  g : GFr H H' q
  l : ∀ L x, H' T = some (.tup [.ref q, .ref L, x]) → H L = none
theorem kfr_of {K : PySem.W.Frag} {H GT H1 JT : Hp} {T q C dq L : Addr} {x : Str} {pins : List Str} {gss : List (List Str)} {n : V} (sG : Same H GT) (fr : GFr GT H1 q) (pi : PinI K H1 q C dq x pins gss) (s2 : Same H1 JT) (gT : JT T = some (.tup [.ref q, .ref L, n])) (nL : H L = none) : KFr H JT T q := by
  obtain ⟨pa, ca, oa, ga, k1, _⟩ := pi.ex
  refine ⟨fun C' dx' fs' ga' e1 e2 => ?_, fun L' x' e => ?_⟩
  · rw [s2 _ _ k1] at e1
    cases e1
    exact Same.none sG (fr _ _ _ _ k1 e2)
  · rw [gT] at e
    cases e
    exact nL
theorem one_it {α : Type} {a : α} {p : Nat → α → Prop} (h : p 0 a) : ∀ (i : Nat) (v : α), [a][i]? = some v → p i v
  | 0, v, e => by cases e; exact h
  | i + 1, v, e => by cases e
theorem two_it {α : Type} {a b : α} {p : Nat → α → Prop} (h : p 0 a) (h1 : p 1 b) : ∀ (i : Nat) (v : α), [a, b][i]? = some v → p i v
  | 0, v, e => by cases e; exact h
  | 1, v, e => by cases e; exact h1
  | i + 2, v, e => by cases e
section
variable {P : Program} {w : World} {K : PySem.W.Frag} {mg : Str → Option Value} {base : Heap} {CN CK PK gK fP sd : Addr}
def spLKd (K : PySem.W.Frag) (PK : Addr) : Sp := fun vs H Q _ => ∃ n : Nat, vs = [.int (n : Int)] ∧ n < 5 ∧ ∀ T q H', Same H H' → KDI K PK H' T q n → KFr H H' T q → Q (.ref T) H'
set_option maxHeartbeats 4000000 in
theorem ok_lkd {f : Addr} {fd : FuncData} (F : Fun K "_law_kind" "_law_kind" sLKd f fd) (gP : mg "PinKind" = some (.ref PK)) (MP : Mk K PK fP) (kc : KCls K PK) (so : SupAt K PK PK "__init__" gK) (hsd : ∀ H : Hp, SqT K H sd []) (FP : FnA P w K mg base (L2.CX P w) 6 fP (saPin K CN CK PK gK sd)) :
    FnOk P w K mg base (L2.CX P w) 8 f fd ["_law_number"] (spLKd K PK) := by
  have sc : FnScope ["_law_number"] ["_law_number"] (defScope sLKd) := ⟨rfl, rfl, rfl, by decide +kernel, rfl, by decide +kernel, by decide +kernel⟩
  refine F.okX sc (fun vs H Q E h => ?_) (fun cdv A outer s H vs Q E hr h => ?_)
  · obtain ⟨n, rfl, _⟩ := h
    rfl
  · obtain ⟨n, rfl, n5, fin⟩ := h
    have two : 1000 ≤ sizeLine := by decide
    refine ⟨_, pss_cons (ps_if (pt_cmpR op_eq (pv 0) pe_int (nomark _)) (pss_one (ps_ret (pe_tup (pa_cons (SupX.pe_makeA (ks := ["swaps"]) (E := E0) MP FP (hr.mono (by decide)) (by rfl) gP passL (pa_cons pe_str (pa_cons pe_str (pa_cons pe_str (pa_cons pe_str pa_nil)))) (pk_cons (pe_tup (pa_cons (pe_tup (pa_cons pe_str (pa_cons pe_str pa_nil))) pa_nil)) pk_nil)) (pa_cons (pe_lst (pa_cons (pe_lst (pa_cons pe_int (pa_cons pe_int pa_nil))) pa_nil)) (pa_cons pe_int pa_nil)))))) pss_nil)
      (pss_cons (ps_if (pt_cmpR op_eq (pv 0) pe_int (nomark _)) (pss_one (ps_ret (pe_tup (pa_cons (SupX.pe_makeA0 (E := E0) MP FP (hr.mono (by decide)) (by rfl) gP passL (pa_cons pe_str (pa_cons pe_str pa_nil))) (pa_cons (pe_lst pa_nil) (pa_cons pe_int pa_nil)))))) pss_nil)
      (pss_cons (ps_if (pt_cmpR op_eq (pv 0) pe_int (nomark _)) (pss_one (ps_ret (pe_tup (pa_cons (SupX.pe_makeA (ks := ["swaps"]) (E := E0) MP FP (hr.mono (by decide)) (by rfl) gP passL (pa_cons pe_str (pa_cons pe_str (pa_cons pe_str (pa_cons pe_str (pa_cons pe_str pa_nil))))) (pk_cons (pe_tup (pa_cons (pe_tup (pa_cons pe_str (pa_cons pe_str pa_nil))) (pa_cons (pe_tup (pa_cons pe_str (pa_cons pe_str pa_nil))) pa_nil))) pk_nil)) (pa_cons (pe_lst (pa_cons (pe_lst (pa_cons pe_int (pa_cons pe_int pa_nil))) (pa_cons (pe_lst (pa_cons pe_int (pa_cons pe_int pa_nil))) pa_nil))) (pa_cons pe_int pa_nil)))))) pss_nil)
      (pss_cons (ps_if (pt_cmpR op_eq (pv 0) pe_int (nomark _)) (pss_one (ps_ret (pe_tup (pa_cons (SupX.pe_makeA (ks := ["swaps"]) (E := E0) MP FP (hr.mono (by decide)) (by rfl) gP passL (pa_cons pe_str (pa_cons pe_str (pa_cons pe_str (pa_cons pe_str (pa_cons pe_str (pa_cons pe_str pa_nil)))))) (pk_cons (pe_tup (pa_cons (pe_tup (pa_cons pe_str (pa_cons pe_str (pa_cons pe_str pa_nil)))) pa_nil)) pk_nil)) (pa_cons (pe_lst (pa_cons (pe_lst (pa_cons pe_int (pa_cons pe_int (pa_cons pe_int pa_nil)))) pa_nil)) (pa_cons pe_int pa_nil)))))) pss_nil)
      (pss_one (ps_ret (pe_tup (pa_cons (SupX.pe_makeA0 (E := E0) MP FP (hr.mono (by decide)) (by rfl) gP passL (pa_cons pe_str (pa_cons pe_str (pa_cons pe_str pa_nil)))) (pa_cons (pe_lst pa_nil) (pa_cons pe_int pa_nil))))))))), ?_⟩
    match n, n5 with
    | 0, _ =>
      refine ⟨_, rfl, rfl, _, rfl, if_pos' (by decide) ?_⟩
      refine ⟨(by show 2 ≤ sizeLine; omega), fun t0 nt0 => ⟨(by show 1 ≤ sizeLine; omega), fun tt ntt => ⟨rfl, fun q b hq hb ne => ?_⟩⟩⟩
      have s0 : Same H (upd H t0 (.tup [.str "x", .str "z"])) := same_upd nt0
      have e0 : (upd H t0 (.tup [.str "x", .str "z"])) t0 = some (.tup [.str "x", .str "z"]) := upd_same
      generalize upd H t0 (.tup [.str "x", .str "z"]) = G0 at s0 e0  ntt hq hb ⊢
      have st : Same G0 (upd G0 tt (.tup [.ref t0])) := same_upd ntt
      have et : (upd G0 tt (.tup [.ref t0])) tt = some (.tup [.ref t0]) := upd_same
      generalize upd G0 tt (.tup [.ref t0]) = GT at st et hq hb ⊢
      have gr : Grs K GT tt [.ref t0] [some ["x", "z"]] := ⟨SqT.of et, rfl, one_it ⟨some ["x", "z"], rfl, .tup (st _ _ (e0))⟩⟩
      refine mk_pin (x := "p") (pins := ["x", "y", "z"]) hq hb ne kc so (by decide +kernel) (by decide) (by decide) (by decide +kernel) (by decide +kernel) gr (by show 1 ≤ 10; decide) (by decide +kernel) (by decide +kernel) (by decide +kernel) fun H1 s1_ pi fr => ⟨rfl, ?_⟩
      refine ⟨(by show 2 ≤ sizeLine; omega), fun l0 nl0 => ⟨(by show 1 ≤ sizeLine; omega), fun L nL => ⟨(by show 3 ≤ sizeLine; omega), fun T nT => ?_⟩⟩⟩
      have f0 := same_upd (o := .lst [.int 0, .int 2]) nl0
      have g0 : (upd H1 l0 (.lst [.int 0, .int 2])) l0 = some (.lst [.int 0, .int 2]) := upd_same
      generalize upd H1 l0 (.lst [.int 0, .int 2]) = J0 at f0 g0  nL nT ⊢
      have fL := same_upd (o := .lst [.ref l0]) nL
      have gL : (upd J0 L (.lst [.ref l0])) L = some (.lst [.ref l0]) := upd_same
      generalize upd J0 L (.lst [.ref l0]) = JL at fL gL nT ⊢
      have fT := same_upd (o := .tup [.ref q, .ref L, .int 3]) nT
      have gT : (upd JL T (.tup [.ref q, .ref L, .int 3])) T = some (.tup [.ref q, .ref L, .int 3]) := upd_same
      generalize upd JL T (.tup [.ref q, .ref L, .int 3]) = JT at fT gT ⊢
      exact fin T q _ ((((((s0).trans st).trans s1_).trans f0).trans fL).trans fT) ⟨b, L, [l0], gT, pi.same (((f0).trans fL).trans fT), fT _ _ gL, rfl, one_it ⟨[0, 2], rfl, fT _ _ (fL _ _ (g0))⟩⟩ (kfr_of ((s0).trans st) fr pi (((f0).trans fL).trans fT) gT (Same.none ((((s0).trans st).trans s1_).trans f0) nL))
    | 1, _ =>
      refine ⟨_, rfl, rfl, _, rfl, if_neg' (by decide) ?_⟩
      refine ⟨_, rfl, rfl, _, rfl, if_pos' (by decide) ?_⟩
      refine ⟨rfl, fun q b hq hb ne => mk_pin0 (x := "q") (pins := ["x"]) hq hb ne kc so (by decide +kernel) (by decide) (by decide) (by decide +kernel) (by decide +kernel) hsd (by decide +kernel) fun H1 s1_ pi fr => ⟨rfl, ?_⟩⟩
      refine ⟨(by show 0 ≤ sizeLine; omega), fun L nL => ⟨(by show 3 ≤ sizeLine; omega), fun T nT => ?_⟩⟩
      have fL := same_upd (o := .lst []) nL
      have gL : (upd H1 L (.lst [])) L = some (.lst []) := upd_same
      generalize upd H1 L (.lst []) = JL at fL gL nT ⊢
      have fT := same_upd (o := .tup [.ref q, .ref L, .int 1]) nT
      have gT : (upd JL T (.tup [.ref q, .ref L, .int 1])) T = some (.tup [.ref q, .ref L, .int 1]) := upd_same
      generalize upd JL T (.tup [.ref q, .ref L, .int 1]) = JT at fT gT ⊢
      exact fin T q _ (((s1_).trans fL).trans fT) ⟨b, L, [], gT, pi.same ((fL).trans fT), fT _ _ gL, rfl, fun i a h => by cases h⟩ (kfr_of (Same.refl _) fr pi ((fL).trans fT) gT (Same.none (s1_) nL))
    | 2, _ =>
      refine ⟨_, rfl, rfl, _, rfl, if_neg' (by decide) ?_⟩
      refine ⟨_, rfl, rfl, _, rfl, if_neg' (by decide) ?_⟩
      refine ⟨_, rfl, rfl, _, rfl, if_pos' (by decide) ?_⟩
      refine ⟨(by show 2 ≤ sizeLine; omega), fun t0 nt0 => ⟨(by show 2 ≤ sizeLine; omega), fun t1 nt1 => ⟨(by show 2 ≤ sizeLine; omega), fun tt ntt => ⟨rfl, fun q b hq hb ne => ?_⟩⟩⟩⟩
      have s0 : Same H (upd H t0 (.tup [.str "v", .str "w"])) := same_upd nt0
      have e0 : (upd H t0 (.tup [.str "v", .str "w"])) t0 = some (.tup [.str "v", .str "w"]) := upd_same
      generalize upd H t0 (.tup [.str "v", .str "w"]) = G0 at s0 e0 nt1 ntt hq hb ⊢
      have s1 : Same G0 (upd G0 t1 (.tup [.str "x", .str "y"])) := same_upd nt1
      have e1 : (upd G0 t1 (.tup [.str "x", .str "y"])) t1 = some (.tup [.str "x", .str "y"]) := upd_same
      generalize upd G0 t1 (.tup [.str "x", .str "y"]) = G1 at s1 e1  ntt hq hb ⊢
      have st : Same G1 (upd G1 tt (.tup [.ref t0, .ref t1])) := same_upd ntt
      have et : (upd G1 tt (.tup [.ref t0, .ref t1])) tt = some (.tup [.ref t0, .ref t1]) := upd_same
      generalize upd G1 tt (.tup [.ref t0, .ref t1]) = GT at st et hq hb ⊢
      have gr : Grs K GT tt [.ref t0, .ref t1] [some ["v", "w"], some ["x", "y"]] := ⟨SqT.of et, rfl, two_it ⟨some ["v", "w"], rfl, .tup (st _ _ (s1 _ _ (e0)))⟩ ⟨some ["x", "y"], rfl, .tup (st _ _ (e1))⟩⟩
      refine mk_pin (x := "s") (pins := ["v", "w", "x", "y"]) hq hb ne kc so (by decide +kernel) (by decide) (by decide) (by decide +kernel) (by decide +kernel) gr (by show 2 ≤ 10; decide) (by decide +kernel) (by decide +kernel) (by decide +kernel) fun H1 s1_ pi fr => ⟨rfl, ?_⟩
      refine ⟨(by show 2 ≤ sizeLine; omega), fun l0 nl0 => ⟨(by show 2 ≤ sizeLine; omega), fun l1 nl1 => ⟨(by show 2 ≤ sizeLine; omega), fun L nL => ⟨(by show 3 ≤ sizeLine; omega), fun T nT => ?_⟩⟩⟩⟩
      have f0 := same_upd (o := .lst [.int 0, .int 1]) nl0
      have g0 : (upd H1 l0 (.lst [.int 0, .int 1])) l0 = some (.lst [.int 0, .int 1]) := upd_same
      generalize upd H1 l0 (.lst [.int 0, .int 1]) = J0 at f0 g0 nl1 nL nT ⊢
      have f1 := same_upd (o := .lst [.int 2, .int 3]) nl1
      have g1 : (upd J0 l1 (.lst [.int 2, .int 3])) l1 = some (.lst [.int 2, .int 3]) := upd_same
      generalize upd J0 l1 (.lst [.int 2, .int 3]) = J1 at f1 g1  nL nT ⊢
      have fL := same_upd (o := .lst [.ref l0, .ref l1]) nL
      have gL : (upd J1 L (.lst [.ref l0, .ref l1])) L = some (.lst [.ref l0, .ref l1]) := upd_same
      generalize upd J1 L (.lst [.ref l0, .ref l1]) = JL at fL gL nT ⊢
      have fT := same_upd (o := .tup [.ref q, .ref L, .int 4]) nT
      have gT : (upd JL T (.tup [.ref q, .ref L, .int 4])) T = some (.tup [.ref q, .ref L, .int 4]) := upd_same
      generalize upd JL T (.tup [.ref q, .ref L, .int 4]) = JT at fT gT ⊢
      exact fin T q _ ((((((((s0).trans s1).trans st).trans s1_).trans f0).trans f1).trans fL).trans fT) ⟨b, L, [l0, l1], gT, pi.same ((((f0).trans f1).trans fL).trans fT), fT _ _ gL, rfl, two_it ⟨[0, 1], rfl, fT _ _ (fL _ _ (f1 _ _ (g0)))⟩ ⟨[2, 3], rfl, fT _ _ (fL _ _ (g1))⟩⟩ (kfr_of (((s0).trans s1).trans st) fr pi ((((f0).trans f1).trans fL).trans fT) gT (Same.none ((((((s0).trans s1).trans st).trans s1_).trans f0).trans f1) nL))
    | 3, _ =>
      refine ⟨_, rfl, rfl, _, rfl, if_neg' (by decide) ?_⟩
      refine ⟨_, rfl, rfl, _, rfl, if_neg' (by decide) ?_⟩
      refine ⟨_, rfl, rfl, _, rfl, if_neg' (by decide) ?_⟩
      refine ⟨_, rfl, rfl, _, rfl, if_pos' (by decide) ?_⟩
      refine ⟨(by show 3 ≤ sizeLine; omega), fun t0 nt0 => ⟨(by show 1 ≤ sizeLine; omega), fun tt ntt => ⟨rfl, fun q b hq hb ne => ?_⟩⟩⟩
      have s0 : Same H (upd H t0 (.tup [.str "w", .str "x", .str "z"])) := same_upd nt0
      have e0 : (upd H t0 (.tup [.str "w", .str "x", .str "z"])) t0 = some (.tup [.str "w", .str "x", .str "z"]) := upd_same
      generalize upd H t0 (.tup [.str "w", .str "x", .str "z"]) = G0 at s0 e0  ntt hq hb ⊢
      have st : Same G0 (upd G0 tt (.tup [.ref t0])) := same_upd ntt
      have et : (upd G0 tt (.tup [.ref t0])) tt = some (.tup [.ref t0]) := upd_same
      generalize upd G0 tt (.tup [.ref t0]) = GT at st et hq hb ⊢
      have gr : Grs K GT tt [.ref t0] [some ["w", "x", "z"]] := ⟨SqT.of et, rfl, one_it ⟨some ["w", "x", "z"], rfl, .tup (st _ _ (e0))⟩⟩
      refine mk_pin (x := "t") (pins := ["v", "w", "x", "y", "z"]) hq hb ne kc so (by decide +kernel) (by decide) (by decide) (by decide +kernel) (by decide +kernel) gr (by show 1 ≤ 10; decide) (by decide +kernel) (by decide +kernel) (by decide +kernel) fun H1 s1_ pi fr => ⟨rfl, ?_⟩
      refine ⟨(by show 3 ≤ sizeLine; omega), fun l0 nl0 => ⟨(by show 1 ≤ sizeLine; omega), fun L nL => ⟨(by show 3 ≤ sizeLine; omega), fun T nT => ?_⟩⟩⟩
      have f0 := same_upd (o := .lst [.int 1, .int 2, .int 4]) nl0
      have g0 : (upd H1 l0 (.lst [.int 1, .int 2, .int 4])) l0 = some (.lst [.int 1, .int 2, .int 4]) := upd_same
      generalize upd H1 l0 (.lst [.int 1, .int 2, .int 4]) = J0 at f0 g0  nL nT ⊢
      have fL := same_upd (o := .lst [.ref l0]) nL
      have gL : (upd J0 L (.lst [.ref l0])) L = some (.lst [.ref l0]) := upd_same
      generalize upd J0 L (.lst [.ref l0]) = JL at fL gL nT ⊢
      have fT := same_upd (o := .tup [.ref q, .ref L, .int 5]) nT
      have gT : (upd JL T (.tup [.ref q, .ref L, .int 5])) T = some (.tup [.ref q, .ref L, .int 5]) := upd_same
      generalize upd JL T (.tup [.ref q, .ref L, .int 5]) = JT at fT gT ⊢
      exact fin T q _ ((((((s0).trans st).trans s1_).trans f0).trans fL).trans fT) ⟨b, L, [l0], gT, pi.same (((f0).trans fL).trans fT), fT _ _ gL, rfl, one_it ⟨[1, 2, 4], rfl, fT _ _ (fL _ _ (g0))⟩⟩ (kfr_of ((s0).trans st) fr pi (((f0).trans fL).trans fT) gT (Same.none ((((s0).trans st).trans s1_).trans f0) nL))
    | 4, _ =>
      refine ⟨_, rfl, rfl, _, rfl, if_neg' (by decide) ?_⟩
      refine ⟨_, rfl, rfl, _, rfl, if_neg' (by decide) ?_⟩
      refine ⟨_, rfl, rfl, _, rfl, if_neg' (by decide) ?_⟩
      refine ⟨_, rfl, rfl, _, rfl, if_neg' (by decide) ?_⟩
      refine ⟨rfl, fun q b hq hb ne => mk_pin0 (x := "u") (pins := ["x", "y"]) hq hb ne kc so (by decide +kernel) (by decide) (by decide) (by decide +kernel) (by decide +kernel) hsd (by decide +kernel) fun H1 s1_ pi fr => ⟨rfl, ?_⟩⟩
      refine ⟨(by show 0 ≤ sizeLine; omega), fun L nL => ⟨(by show 3 ≤ sizeLine; omega), fun T nT => ?_⟩⟩
      have fL := same_upd (o := .lst []) nL
      have gL : (upd H1 L (.lst [])) L = some (.lst []) := upd_same
      generalize upd H1 L (.lst []) = JL at fL gL nT ⊢
      have fT := same_upd (o := .tup [.ref q, .ref L, .int 2]) nT
      have gT : (upd JL T (.tup [.ref q, .ref L, .int 2])) T = some (.tup [.ref q, .ref L, .int 2]) := upd_same
      generalize upd JL T (.tup [.ref q, .ref L, .int 2]) = JT at fT gT ⊢
      exact fin T q _ (((s1_).trans fL).trans fT) ⟨b, L, [], gT, pi.same ((fL).trans fT), fT _ _ gL, rfl, fun i a h => by cases h⟩ (kfr_of (Same.refl _) fr pi ((fL).trans fT) gT (Same.none (s1_) nL))
end
end R50
end

-- Y5z
section
set_option Elab.async false
set_option linter.all false
set_option maxRecDepth 100000
set_option exponentiation.threshold 10000
namespace R50
open PySem L2 OwnOps OwnNe G1 StX SupX
/-! _law_single -/
abbrev sLsg : Stmt := top 66
abbrev NSg : List Str := ["_law_state", "_law_kind_here", "_law_name", "_law_nets", "_law_k"]
theorem St.no {H : Hp} {l ls : Addr} (h : St H l ls) {b : Addr} {o : HO} (e : H b = some o) (n : ∀ xs, o = .lst xs → xs = [] ∨ (∃ a r, xs = V.int a :: r) ∨ (∃ a b r, xs = V.ref a :: V.ref b :: r) ∨ (∃ a, xs = [V.ref a])) : b ≠ l := fun z => by
  obtain ⟨ns, a, r, sd, ne, a0, h1, h2⟩ := h
  rw [z, h2] at e
  rcases n _ (Option.some.inj e).symm with q | ⟨_, _, q⟩ | ⟨_, _, _, q⟩ | ⟨_, q⟩ <;> cases q
theorem lst_refs (qs : List Addr) : ∀ xs, HO.lst (qs.map V.ref) = .lst xs → xs = [] ∨ (∃ a r, xs = V.int a :: r) ∨ (∃ a b r, xs = V.ref a :: V.ref b :: r) ∨ (∃ a, xs = [V.ref a]) := fun xs e => by
  cases e
  match qs with
  | [] => exact .inl rfl
  | [a] => exact .inr (.inr (.inr ⟨a, rfl⟩))
  | a :: b :: r => exact .inr (.inr (.inl ⟨a, b, r.map V.ref, rfl⟩))
theorem lst_ints (c : List Int) : ∀ xs, HO.lst (c.map V.int) = .lst xs → xs = [] ∨ (∃ a r, xs = V.int a :: r) ∨ (∃ a b r, xs = V.ref a :: V.ref b :: r) ∨ (∃ a, xs = [V.ref a]) := fun xs e => by
  cases e
  match c with
  | [] => exact .inl rfl
  | a :: r => exact .inr (.inl ⟨a, r.map V.int, rfl⟩)
section
variable {K : PySem.W.Frag} {H H' : Hp} {l ls : Addr}
theorem LIs.sameL {a : Addr} {css : List (List Int)} {rs : List Addr} (g : LIs H a css rs) (st : St H l ls) (s : SameX l H H') : LIs H' a css rs :=
  ⟨s _ _ (st.no g.at_ (lst_refs rs)) g.at_, g.len, fun i q h => let ⟨c, h1, h2⟩ := g.it i q h; ⟨c, h1, s _ _ (st.no h2 (lst_ints c)) h2⟩⟩
theorem sqt_sameL {a : Addr} {xs : List V} (h : SqT K H a xs) (st : St H l ls) (s : SameX l H H') : SqT K H' a xs := by
  rcases h with (h | ⟨o, h⟩) | h
  · exact .inl (.inl (s _ _ (st.no h fun _ z => by cases z) h))
  · exact .inl (.inr ⟨o, s _ _ (st.no h fun _ z => by cases z) h⟩)
  · exact .inr h
theorem TT.sameL {a : Addr} {os : List (List Int)} (h : TT H a os) (st : St H l ls) (s : SameX l H H') : TT H' a os := by
  obtain ⟨as, h1, h2, h3⟩ := h
  exact ⟨as, s _ _ (st.no h1 fun _ z => by cases z) h1, h2, fun i q hq => let ⟨o, a, b⟩ := h3 i q hq; ⟨o, a, s _ _ (st.no b fun _ z => by cases z) b⟩⟩
theorem PinI.sameL {q D dy : Addr} {x : Str} {pins : List Str} {gss : List (List Str)} (h : PinI K H q D dy x pins gss) (st : St H l ls) (s : SameX l H H') : PinI K H' q D dy x pins gss := by
  obtain ⟨pa, ca, oa, ga, k1, k2, k3, k4, rs, k5⟩ := h.ex
  exact ⟨pa, ca, oa, ga, s _ _ (st.no k1 fun _ z => by cases z) k1, sqt_sameL k2 st s, s _ _ (st.no k3 fun _ z => by cases z) k3, TT.sameL k4 st s, rs, LIs.sameL k5 st s⟩
theorem KDI.sameL {PK T q : Addr} {n : Nat} (h : KDI K PK H T q n) (st : St H l ls) (s : SameX l H H') : KDI K PK H' T q n := by
  obtain ⟨dq, L, rs, a, b, c⟩ := h.ex
  exact ⟨dq, L, rs, s _ _ (st.no a fun _ z => by cases z) a, b.sameL st s, LIs.sameL c st s⟩
theorem ItmI.sameL {CI p kp : Addr} {sh ky : Str} (h : ItmI H CI p kp sh ky) (st : St H l ls) (s : SameX l H H') : ItmI H' CI p kp sh ky := by
  obtain ⟨dx, fs, wt, one, a, b, c, d, e, f, g⟩ := h.ex
  exact ⟨dx, fs, wt, one, s _ _ (st.no a fun _ z => by cases z) a, b, c, d, s _ _ (st.no e fun _ z => by cases z) e, f, g⟩
end
def nDg (d : Int) : Str := Str.empty ++ ("n" : Str) ++ R50r.ts d
theorem nDg_ok : ∀ d : Nat, d < 4 → nm (nDg d) = true ∧ shB (nDg d) = true ∧ (nDg d).length ≤ 20 := by decide +kernel
theorem kinds_ok : ∀ n, n < 5 → (∀ g ∈ kgs n, ∀ z ∈ g, z ∈ kps n) ∧ (∀ g ∈ kgs n, g.length ≤ 6) ∧ (kps n).length ≤ 6 ∧ (pinT (kx n) (kps n) (kgs n)).length ≤ 900 := by decide +kernel
section
variable {P : Program} {w : World} {K : PySem.W.Frag} {mg : Str → Option Value} {base : Heap} {CI PK : Addr}
def spLsg (K : PySem.W.Frag) (CI PK : Addr) : Sp := fun vs H Q _ => ∃ l ls T q n z, vs = [.ref l, .ref T, .str z] ∧ n < 5 ∧ KDI K PK H T q n ∧ St H l ls ∧ nm z = true ∧ shB z = true ∧
  ∀ p ky H', SameX l H H' → St H' l ls → ItmI H' CI p q (shpT (kx n) (kps n) (kgs n)) ky → Q (.ref p) H'
set_option maxHeartbeats 4000000 in
theorem ok_lsg {f sp_ ss : Addr} {fd ssd : FuncData} (F : Fun K "_law_single" "_law_single" sLsg f fd) (T : Bi mg) (gI : mg "Item" = some (.ref CI)) (SM : SMet K CI "single" sp_ ss) (GS : FnOk P w K mg base (L2.CX P w) 7 ss ssd ["kind", "value", "nets", "names"] (spSgl K CI PK)) (bS : L2.Binds K ssd ["kind", "value", "nets", "names"] []) (GD : Glb P w K mg base "_law_draw" 1 ["_law_state", "_law_many"] spDraw) :
    FnOk P w K mg base (L2.CX P w) 8 f fd ["_law_state", "_law_kind_here", "_law_name"] (spLsg K CI PK) := by
  obtain ⟨_, _, mD, kD, GD, bD⟩ := GD.ex
  have sc : FnScope NSg ["_law_state", "_law_kind_here", "_law_name"] (defScope sLsg) := ⟨rfl, rfl, rfl, by decide +kernel, rfl, by decide +kernel, by decide +kernel⟩
  have hN := sc.nd
  refine F.okX sc (fun vs H Q E h => ?_) (fun cdv A outer s H vs Q E hr h => ?_)
  · obtain ⟨l, ls, T, q, n, z, rfl, _⟩ := h
    rfl
  · obtain ⟨l, ls, U, q, n, z, rfl, n5, kd, st, nz, sz, fin⟩ := h
    refine ⟨_, pss_cons (ps_setLc (i := 3) (own := [("_law_k", 4)]) (g := gName 4) (tt := tYes) rfl hN rfl rfl rfl (pi_range1 rfl T.range (pa_cons (pe_ix ix_tup (pv 1) pe_int (fun _ _ => rfl)) pa_nil)) (blkOk_by (N := NSg) (sc := defScope sLsg) (by decide +kernel)) (fun _ _ _ _ _ => pg_name (i := 4) hN rfl (Or.inl rfl)) (fun _ _ _ _ _ => pts_nil)
        (fun _ _ _ _ _ => pe_joined (.cons pe_str (.cons (pe_fmt (pe_call GD (hr.mono (by decide)) (by rfl) mD kD bD .nil passL (pa_cons (pv 0) (pa_cons pe_int pa_nil)))) .nil))))
      (pss_one (ps_ret (pe_smeth (C := CI) (E := E0) (pe_glob (v := .ref CI) (by rfl) gI rfl) SM GS (hr.mono (by decide)) bS passL (pa_cons (pe_ix ix_tup (pv 1) pe_int (fun _ _ => rfl)) (pa_cons (pe_op op_add pe_int (pe_call GD (hr.mono (by decide)) (by rfl) mD kD bD .nil passL (pa_cons (pv 0) (pa_cons (pe_op op_sub (pe_op op_pow pe_int pe_int) pe_int) pa_nil)))) (pa_cons (pv 3) (pa_cons (pe_lst (pa_cons (pv 2) pa_nil)) pa_nil))))))), ?_⟩
    obtain ⟨dq, L, rs, hT, pk, li⟩ := id kd.ex
    obtain ⟨k1, k2, k3, k4⟩ := kinds_ok n n5
    have pS : PinS (kx n) (kps n) (kgs n) := ⟨k1, k2, k3, k4⟩
    have line : 1000 ≤ sizeLine := by decide
    have en : ((kps n).length : Int).toNat = (kps n).length := Int.toNat_natCast _
    refine ⟨_, rfl, U, _, _, _, rfl, rfl, SqT.of hT, at_of (j := 2) rfl rfl, (kps n).length, rfl, by omega, by omega, fun D nD => ?_⟩
    obtain ⟨Dl, Ds⟩ := st.ne nD
    refine walk_it walk_range (fun j G => SameX l H G ∧ St G l ls ∧ ∃ ns : List Str, G D = some (.lst (ns.map V.str)) ∧ ns.length = j ∧ Nets ns) ⟨(SameX.refl l H).put nD, st.put Dl Ds, [], upd_same, rfl, fun y hy => by cases hy⟩ (fun _ _ _ _ => trivial) (fun j x G G' hj ⟨sx, st1, ns, hD, lj, nt⟩ ⟨e, hx⟩ => ?_) (fun G ⟨sx, st1, ns, hD, lj, nt⟩ => ?_)
    · subst e
      subst hx
      rw [en] at hj
      refine ⟨rfl, yes_go (iteT ⟨("n" : Str), rfl, ?_, _, rfl, l, ls, 4, rfl, by decide, sm9 (by decide), st1, fun d H2 d0 d4 sx2 st2 => ?_⟩)⟩
      · rw [R50r.app_len, R50r.len0]
        exact Nat.le_trans (by decide +kernel : 0 + (Str.ofString "n").length ≤ 1000) line
      obtain ⟨e, rfl⟩ : ∃ e : Nat, d = e := ⟨d.toNat, (Int.toNat_of_nonneg d0).symm⟩
      obtain ⟨q1, q2, q3⟩ := nDg_ok e (by omega)
      have pe : R50r.Pr (e : Int) := by
        have : ∀ e : Nat, e < 4 → R50r.Pr (e : Int) := by unfold R50r.Pr; decide +kernel
        exact this e (by omega)
      refine .inr ⟨_, rfl, pe, _, rfl, ?_, ?_⟩
      · show (nDg e).length ≤ sizeLine
        omega
      · refine ⟨_, sx2 _ _ Dl hD, ?_, sx_put (sx.trans sx2) nD, st2.put Dl Ds, ns ++ [nDg e], ?_, ?_, fun y hy => ?_⟩
        · rw [List.length_map, lj]
          omega
        · rw [upd_same, List.map_append]
          rfl
        · rw [List.length_append, lj]
          rfl
        · rcases List.mem_append.mp hy with h | h
          · exact nt y h
          · rw [List.mem_singleton.mp h]
            exact ⟨q1, q2, q3⟩
    rw [en] at lj
    have kd1 := kd.sameL st sx
    obtain ⟨dq1, L1, rs1, hT1, pk1, li1⟩ := id kd1.ex
    refine ⟨rfl, _, rfl, U, _, _, _, rfl, rfl, SqT.of hT1, at_of (j := 0) rfl rfl, ?_⟩
    have p30 : ((10 : Int) ^ (30 : Int).toNat) = 1000000000000000000000000000000 := by decide +kernel
    refine ⟨_, rfl, _, _, rfl, rfl, ⟨by decide, by decide, by decide +kernel⟩, _, _, rfl, rfl, l, ls, _, rfl, ?_, ?_, st1, fun d H2 d0 d1 sx2 st2 => ?_⟩
    · rw [p30]; decide
    · rw [p30]; exact sm9 (by decide +kernel)
    rw [p30] at d1
    have D2 := sx2 _ _ Dl hD
    have kd2 := kd1.sameL st1 sx2
    obtain ⟨dq2, L2, rs2, hT2, pk2, li2⟩ := id kd2.ex
    refine ⟨_, _, rfl, rfl, _, rfl, _, rfl, (by show 1 ≤ sizeLine; decide), fun N nN => ?_⟩
    have sN := same_upd (o := .lst [.str z]) nN
    obtain ⟨Nl, Ns⟩ := st2.ne nN
    have stN := st2.put (o := .lst [.str z]) Nl Ns
    refine ⟨q, dq2, kx n, kps n, kgs n, 1 + d, D, ns, N, z, rfl, pk2.same sN, pS, by omega, ?_, sN _ _ D2, lj, nt, upd_same, nz, sz, fun p ky H' s' it => fin p ky H' (fun b u nb e => s' _ _ (sN _ _ (sx2 _ _ nb (sx _ _ nb e)))) (stN.same s') it⟩
    unfold R50r.Pr
    have h1 : (1 + d).natAbs < 2 ^ 1920 := by
      have : (1 + d).natAbs < 2 ^ 120 := by
        have : (2 : Nat) ^ 120 = 1329227995784915872903807060280344576 := by decide +kernel
        omega
      exact Nat.lt_of_lt_of_le this (Nat.pow_le_pow_right (by decide) (by decide))
    exact (Nat.log2_lt (by omega)).mpr h1
end
end R50
end

-- Y5o
section
set_option Elab.async false
set_option linter.all false
set_option maxRecDepth 100000
set_option exponentiation.threshold 10000
namespace R50
open PySem L2 OwnOps OwnNe G1 StX SupX
/-! _law_orders -/
abbrev sLor : Stmt := top 64
abbrev NLo : List Str := ["_law_many", "_law_found", "_law_step", "_law_longer", "_law_row", "_law_k"]
def upL (n : Nat) : List Int := (List.range n).map fun (i : Nat) => (i : Int)
def allC (n : Nat) : List (List Int) := List.replicate n (upL n)
theorem upL_len (n : Nat) : (upL n).length = n := by unfold upL; rw [List.length_map, List.length_range]
theorem upL_at {n m : Nat} (h : m < n) : (upL n)[m]? = some (m : Int) := by
  unfold upL
  rw [List.getElem?_map, List.getElem?_range h]
  rfl
theorem allC_at {n i : Nat} (h : i < n) : (allC n)[i]? = some (upL n) := by
  unfold allC
  rw [List.getElem?_replicate, if_pos h]
theorem LIs.app {G : Hp} {b D R : Addr} {xs ys : List (List Int)} {bs ds : List Addr} (h : LIs G b xs bs) (g : LIs G D ys ds) (nR : G R = none) : LIs (upd G R (.lst (bs.map V.ref ++ ds.map V.ref))) R (xs ++ ys) (bs ++ ds) := by
  have s := same_upd (o := .lst (bs.map V.ref ++ ds.map V.ref)) nR
  refine ⟨by rw [upd_same, List.map_append], by rw [List.length_append, List.length_append, h.len, g.len], fun i q hq => ?_⟩
  by_cases lt : i < bs.length
  · rw [List.getElem?_append_left lt] at hq
    obtain ⟨c, h1, h2⟩ := h.it i q hq
    exact ⟨c, by rw [List.getElem?_append_left (by rw [← h.len]; exact lt)]; exact h1, s _ _ h2⟩
  · rw [List.getElem?_append_right (by omega)] at hq
    obtain ⟨c, h1, h2⟩ := g.it _ q hq
    exact ⟨c, by rw [List.getElem?_append_right (by rw [← h.len]; omega), ← h.len]; exact h1, s _ _ h2⟩
section
variable {P : Program} {w : World} {K : PySem.W.Frag} {mg : Str → Option Value} {base : Heap}
def spLor : Sp := fun vs H Q _ => ∃ n : Nat, vs = [.int (n : Int)] ∧ n ≤ 5 ∧ ∀ a rs H', Same H H' → LIs H' a (ordersT (allC n)) rs → Q (.ref a) H'
set_option maxHeartbeats 2000000 in
theorem ok_lor {f : Addr} {fd : FuncData} (F : Fun K "_law_orders" "_law_orders" sLor f fd) (T : Bi mg) : FnOk P w K mg base (L2.CX P w) 1 f fd ["_law_many"] spLor := by
  have sc : FnScope NLo ["_law_many"] (defScope sLor) := ⟨rfl, rfl, rfl, by decide +kernel, rfl, by decide +kernel, by decide +kernel⟩
  have hN := sc.nd
  refine F.okX sc (fun vs H Q E h => ?_) (fun cdv A outer s H vs Q E hr h => ?_)
  · obtain ⟨n, rfl, _⟩ := h
    rfl
  · obtain ⟨n, rfl, n5, k⟩ := h
    refine ⟨_, pss_cons (ps_set (i := 1) hN rfl (Or.inl rfl) (pe_lst (pa_cons (pe_lst pa_nil) pa_nil)))
      (pss_cons (ps_for passOwn rfl (pi_range1 rfl T.range (pa_cons (pv 0) pa_nil)) (pg_name (i := 2) hN rfl (Or.inl rfl))
        (pss_cons (ps_set (i := 3) hN rfl (Or.inl rfl) (pe_lst pa_nil))
        (pss_cons (ps_for passOwn rfl (pi_list (pv 1)) (pg_name (i := 4) hN rfl (Or.inr rfl))
          (pss_one (ps_set (i := 3) hN rfl (Or.inl rfl) (pe_op op_cat (pv 3) (pe_lc (own := [("_law_k", 5)]) (g := gName 5) (tt := tTest (tOp (rIn K true) (tVar 5) (tVar 4))) (te := tOp rCat (tVar 4) (tLst (tCons (tVar 5) tNil))) rfl hN (pi_range1 rfl T.range (pa_cons (pv 0) pa_nil)) (blkOk_by (N := NLo) (sc := defScope sLor) (by decide +kernel)) (fun _ _ _ _ _ => pg_name (i := 5) hN rfl (Or.inl rfl)) (fun _ _ _ _ _ => pts_one (pt_cmpR op_notIn_seq (pv 5) (pv 4) (by rfl)))
            (fun _ _ _ _ _ => pe_op op_cat (pv 4) (pe_lst (pa_cons (pv 5) pa_nil))))))))
        (pss_one (ps_set (i := 1) hN rfl (Or.inl rfl) (pv 3))))))
      (pss_one (ps_ret (pv 1)))), ?_⟩
    have line : 300000 ≤ sizeLine := by decide
    have en : ((n : Nat) : Int).toNat = n := Int.toNat_natCast _
    have n6 : ∀ c ∈ allC n, c.length ≤ 6 := fun c hc => by
      rw [List.eq_of_mem_replicate hc, upL_len]
      omega
    refine ⟨by show 0 ≤ sizeLine; omega, fun e ne => ⟨by show 1 ≤ sizeLine; omega, fun a0 na0 => ?_⟩⟩
    have s0 : Same H (upd (upd H e (.lst [])) a0 (.lst [V.ref e])) := (same_upd ne).trans (same_upd na0)
    have l0 : LIs (upd (upd H e (.lst [])) a0 (.lst [V.ref e])) a0 (ordersT ((allC n).take 0)) [e] := by
      refine ⟨upd_same, rfl, fun i q hq => ?_⟩
      match i, hq with
      | 0, hq => cases hq; exact ⟨[], rfl, same_upd na0 _ _ upd_same⟩
    generalize upd (upd H e (.lst [])) a0 (.lst [V.ref e]) = H1 at s0 l0 ⊢
    refine ⟨_, rfl, (n : Int), rfl, by omega, by omega, for_it walk_range (fun i σ G => (∃ a rs v2 v3 v4, σ = [some (.int (n : Int)), some (.ref a), v2, v3, v4, none] ∧ LIs G a (ordersT ((allC n).take i)) rs) ∧ Same H G) ⟨⟨a0, [e], _, _, _, rfl, l0⟩, s0⟩ (fun _ _ _ _ _ => trivial) (fun i v σ G G' hi ⟨⟨a, rs, v2, v3, v4, eσ, lt⟩, sm⟩ ⟨eG, hx⟩ => ?_) (fun σ G ⟨⟨a, rs, v2, v3, v4, eσ, lt⟩, sm⟩ => ?_)⟩
    · subst eσ eG hx
      rw [en] at hi
      have o6 := orders_len n6 i
      rw [orders_succ (allC_at hi)]
      have oL : ∀ o ∈ ordersT ((allC n).take i), o.length ≤ i := fun o h => orders_each i o h
      generalize ordersT ((allC n).take i) = os at lt o6 oL
      have p6 : 6 ^ i ≤ 46656 := Nat.le_trans (Nat.pow_le_pow_right (by decide) (show i ≤ 6 by omega)) (by decide)
      have few : os.length ≤ 46656 := Nat.le_trans o6 p6
      have c6 : (upL n).length ≤ 6 := by rw [upL_len]; omega
      refine ⟨by show 0 ≤ sizeLine; omega, fun b nb => ?_⟩
      have sb := same_upd (o := .lst []) nb
      have lb : LIs (upd G' b (.lst [])) b (stepO (os.take 0) (upL n)) [] := ⟨upd_same, rfl, fun i q h => by cases h⟩
      generalize upd G' b (.lst []) = G1 at sb lb ⊢
      dsimp only [gName]
      simp only [List.set_cons_succ, List.set_cons_zero]
      refine ⟨_, rfl, a, rfl, ⟨_, SqL.of (sb _ _ lt.at_)⟩, for_it (walk_list (K := K) (a := a) (xs := rs.map V.ref)) (fun j σ G2 => (∃ b bs v4, σ = [some (.int (n : Int)), some (.ref a), some (.int (0 + (i : Nat))), some (.ref b), v4, none] ∧ LIs G2 b (stepO (os.take j) (upL n)) bs) ∧ Same G' G2) ⟨⟨b, [], _, rfl, lb⟩, sb⟩ (fun j σ G2 _ ⟨_, s2⟩ => SqL.of (s2 _ _ lt.at_)) (fun j v σ G2 G3 hj ⟨⟨b, bs, v4, eσ, hb⟩, s2⟩ ⟨eG, hy⟩ => ?_) (fun σ G2 ⟨⟨b, bs, v4, eσ, hb⟩, s2⟩ => ?_)⟩
      · subst eσ eG
        obtain ⟨p, hp, rfl⟩ := map_some hy
        obtain ⟨o, hoj, hpo⟩ := lt.it j p hp
        have hj' : j < os.length := by rw [List.length_map, lt.len] at hj; exact hj
        have bl := stepO_len c6 (os.take j)
        rw [List.length_take] at bl
        rw [stepO_succ hoj]
        generalize stepO (os.take j) (upL n) = pre at hb bl
        dsimp only [gName]
        simp only [List.set_cons_succ, List.set_cons_zero]
        have hpG := s2 _ _ hpo
        refine ⟨_, rfl, _, rfl, (n : Int), rfl, by omega, by omega, fun D nD => ?_⟩
        refine walk_it walk_range (fun m G4 => Same G3 G4 ∧ ∃ ds, LIs G4 D (extO o ((upL n).take m)) ds) ⟨same_upd nD, [], upd_same, rfl, fun i q h => by cases h⟩ (fun _ _ _ _ => trivial) (fun m y G4 G5 hm ⟨s4, ds, hd⟩ ⟨eG, hz⟩ => ?_) (fun G4 ⟨s4, ds, hd⟩ => ?_)
        · subst eG hz
          rw [en] at hm
          have el := extO_len o ((upL n).take m)
          rw [List.length_take, upL_len] at el
          have hp4 := s4 _ _ hpG
          refine ⟨rfl, _, rfl, _, rfl, p, _, rfl, .inl (SqL.of hp4), rfl, flat_ints _, _, rfl, ?_⟩
          dsimp only
          rw [show (if true = true then !inV (V.int (0 + (m : Int))) (List.map V.int o) else inV (V.int (0 + (m : Int))) (List.map V.int o)) = !o.contains (m : Int) from by rw [Int.zero_add]; exact notin_b _ _, extO_succ (upL_at hm)]
          cases hz2 : o.contains (m : Int) with
          | true => exact iteF ⟨s4, ds, by simpa using hd⟩
          | false =>
            refine iteT ⟨_, rfl, _, rfl, (by show 1 ≤ sizeLine; omega), fun t nt => ⟨p, t, _, _, rfl, rfl, same_upd nt _ _ hp4, upd_same, ?_, fun r nr => ?_⟩⟩
            · rw [List.length_map]
              have := oL o (List.mem_of_getElem? hoj)
              show _ + 1 ≤ _
              omega
            · have st := same_upd (o := .lst [V.int (0 + (m : Nat))]) nt
              have sr := same_upd (o := .lst (o.map V.int ++ [V.int (0 + (m : Nat))])) nr
              have e2 : o.map V.int ++ [V.int (0 + (m : Int))] = (o ++ [(m : Int)]).map V.int := by rw [Int.zero_add, List.map_append]; rfl
              have hr2 : (upd (upd G5 t (.lst [V.int (0 + (m : Nat))])) r (.lst (o.map V.int ++ [V.int (0 + (m : Nat))]))) r = some (.lst ((o ++ [(m : Int)]).map V.int)) := by rw [upd_same, e2]
              have hd2 := hd.same (st.trans sr)
              have nD2 : r ≠ D := fun z => by rw [z, st _ _ hd.at_] at nr; cases nr
              refine ⟨_, hd2.at_, ?_, same_put (s4.trans (st.trans sr)) nD, ds ++ [r], hd2.push hr2 nD2⟩
              rw [List.length_map, hd.len]
              omega
        · rw [en] at hd
          have ft : (upL n).take n = upL n := List.take_of_length_le (by rw [upL_len]; exact Nat.le_refl _)
          rw [ft] at hd
          have hb4 := hb.same s4
          have el := extO_len o (upL n)
          refine ⟨b, D, _, _, rfl, rfl, hb4.at_, hd.at_, ?_, fun R nR => ?_⟩
          · rw [List.length_map, List.length_map, hb.len, hd.len]
            omega
          · exact ⟨⟨R, bs ++ ds, _, rfl, hb4.app hd nR⟩, s2.trans (s4.trans (same_upd nR))⟩
      · subst eσ
        rw [List.length_map, lt.len, List.take_length] at hb
        refine ⟨_, rfl, ⟨b, bs, _, _, _, rfl, hb⟩, sm.trans s2⟩
    · subst eσ
      rw [en, show (allC n).take n = allC n from List.take_of_length_le (by unfold allC; rw [List.length_replicate]; exact Nat.le_refl _)] at lt
      exact ⟨_, rfl, k a rs _ sm lt⟩
end
end R50
end

-- Y5p
section
set_option Elab.async false
set_option linter.all false
set_option maxRecDepth 100000
set_option exponentiation.threshold 10000
namespace R50
open PySem L2 OwnOps OwnNe G1 StX SupX
/-! data: lists of lists of ints, ways -/
def LyN (n : Nat) (d : PyData) : Prop := d.canLay0 = true ∧ d.depth ≤ n
def LyA (n : Nat) (ds : List PyData) : Prop := PyData.canLayAll0 ds = true ∧ PyData.depthAll ds ≤ n
theorem LyA.nil {n : Nat} : LyA n [] := ⟨by simp [PyData.canLayAll0], by simp [PyData.depthAll]⟩
theorem LyA.cons {n : Nat} {d : PyData} {ds : List PyData} (h : LyN n d) (t : LyA n ds) : LyA n (d :: ds) := by
  refine ⟨?_, ?_⟩
  · simp only [PyData.canLayAll0, h.1, t.1, Bool.and_self]
  · have h1 := h.2
    have h2 := t.2
    simp only [PyData.depthAll]
    omega
theorem LyN.lst {n : Nat} {ds : List PyData} (h : LyA n ds) : LyN (n + 1) (.list ds) := by
  refine ⟨by simp only [PyData.canLay0, h.1], ?_⟩
  have h1 := h.2
  simp only [PyData.depth]
  omega
theorem LyN.tup {n : Nat} {ds : List PyData} (h : LyA n ds) : LyN (n + 1) (.tuple ds) := by
  refine ⟨by simp only [PyData.canLay0, h.1], ?_⟩
  have h1 := h.2
  simp only [PyData.depth]
  omega
theorem LyN.mono {n m : Nat} {d : PyData} (h : LyN n d) (le : n ≤ m) : LyN m d := ⟨h.1, Nat.le_trans h.2 le⟩
theorem LyN.str {n : Nat} {x : Str} (h : PyData.strOk x = true) : LyN n (.str x) := ⟨by simp only [PyData.canLay0, h], by simp [PyData.depth]⟩
theorem LyN.shp {n : Nat} {d : PyData} (h : LyN n d) (le : n ≤ 64) : SeqAt.shaped d = true := by
  show (d.canLay0 && decide (d.depth ≤ 64)) = true
  rw [Bool.and_eq_true]
  exact ⟨h.1, decide_eq_true (Nat.le_trans h.2 le)⟩
theorem LyN.ne {n : Nat} {d : PyData} (h : LyN n d) : (!PyData.eqv d d) = false := by rw [SeqAt.eqv_refl d h.1]; rfl
theorem LyN.eq {n : Nat} {d : PyData} (h : LyN n d) : PyData.eqv d d = true := SeqAt.eqv_refl d h.1
theorem LyN.non {n : Nat} : LyN n .none := ⟨by simp [PyData.canLay0], by simp [PyData.depth]⟩
theorem LyN.int {n : Nat} {i : Int} : LyN n (.int i) := ⟨by simp [PyData.canLay0], by simp [PyData.depth]⟩
theorem ly_ints (c : List Int) : LyA 0 (c.map PyData.int) := by
  induction c with
  | nil => exact .nil
  | cons i c ih => exact .cons .int ih
def dLL (cs : List (List Int)) : PyData := .list (cs.map fun c => .list (c.map .int))
theorem ly_LL (cs : List (List Int)) : LyN 2 (dLL cs) := by
  refine .lst ?_
  induction cs with
  | nil => exact .nil
  | cons c cs ih => exact .cons (.lst (ly_ints c)) ih
def dW (o : List Int) : PyData := .tuple [.tuple (o.map .int), .tuple [.int 0]]
def dWs (os : List (List Int)) : PyData := .list (os.map dW)
theorem ly_W (o : List Int) : LyN 2 (dW o) := .tup (.cons (.tup (ly_ints o)) (.cons (.tup (.cons .int .nil)) .nil))
theorem ly_Ws (os : List (List Int)) : LyN 3 (dWs os) := by
  refine .lst ?_
  induction os with
  | nil => exact .nil
  | cons o os ih => exact .cons (ly_W o) ih
theorem dp_ints {K : PySem.W.Frag} {H : Hp} : ∀ ns : List Int, DpAll K H (ns.map V.int) (ns.map PyData.int)
  | [] => .nil
  | n :: r => .cons (.int n) (dp_ints r)
theorem LIs.dp {K : PySem.W.Frag} {H : Hp} {a : Addr} {cs : List (List Int)} {rs : List Addr} (h : LIs H a cs rs) : Dp K H (.ref a) (dLL cs) := by
  refine .lst (SqL.of h.at_) ?_
  have key : ∀ (rs : List Addr) (cs : List (List Int)), rs.length = cs.length → (∀ (i : Nat) (q : Addr), rs[i]? = some q → ∃ c, cs[i]? = some c ∧ H q = some (.lst (c.map V.int))) → DpAll K H (rs.map V.ref) (cs.map fun c => PyData.list (c.map .int)) := by
    intro rs
    induction rs with
    | nil => intro cs l _; cases cs with
      | nil => exact .nil
      | cons c cs => cases l
    | cons q rs ih => intro cs l it; cases cs with
      | nil => cases l
      | cons c cs =>
        obtain ⟨c', e, hq⟩ := it 0 q rfl
        cases e
        exact .cons (.lst (SqL.of hq) (dp_ints c)) (ih cs (Nat.succ.inj l) fun i q' h => it (i + 1) q' h)
  exact key rs cs h.len h.it
theorem way_dp {K : PySem.W.Frag} {H : Hp} {a : Addr} {os : List (List Int)} (h : WayL H a os) : Dp K H (.ref a) (dWs os) := by
  obtain ⟨ts, h1, h2, h3⟩ := h
  refine .lst (SqL.of h1) ?_
  have key : ∀ (ts : List (Addr × Addr × Addr)) (os : List (List Int)), ts.length = os.length → (∀ (i : Nat) (t : Addr × Addr × Addr), ts[i]? = some t → ∃ o, os[i]? = some o ∧ H t.1 = some (.tup [.ref t.2.1, .ref t.2.2]) ∧ H t.2.1 = some (.tup (o.map V.int)) ∧ H t.2.2 = some (.tup [.int 0])) → DpAll K H (ts.map fun t => V.ref t.1) (os.map dW) := by
    intro ts
    induction ts with
    | nil => intro os l _; cases os with
      | nil => exact .nil
      | cons c cs => cases l
    | cons t ts ih => intro os l it; cases os with
      | nil => cases l
      | cons o os =>
        obtain ⟨o', e, q1, q2, q3⟩ := it 0 t rfl
        cases e
        exact .cons (.tup (SqT.of q1) (.cons (.tup (SqT.of q2) (dp_ints o)) (.cons (.tup (SqT.of q3) (.cons (.int 0) .nil)) .nil))) (ih os (Nat.succ.inj l) fun i q' h => it (i + 1) q' h)
  exact key ts os h2 h3
end R50
end

-- Y5h
section
set_option Elab.async false
set_option linter.all false
set_option maxRecDepth 100000
set_option exponentiation.threshold 10000
namespace R50
open PySem L2 OwnOps OwnNe G1 StX SupX
/-! _law_kept -/
abbrev sLkp : Stmt := top 67
abbrev NLk : List Str := ["_law_kind_here", "_law_order", "_law_at", "_law_group", "_law_some"]
def grpAt (gi : List (List Int)) (i : Nat) : List (List Int) := gi.filter fun g => g.contains (i : Int)
def keptP (gi : List (List Int)) (o : List Int) (i : Nat) : Bool := !(!decide (o.getD i 0 = (i : Int)) && (decide (grpAt gi i = []) || !((grpAt gi i).headD []).contains (o.getD i 0)))
def keptB (gi : List (List Int)) (o : List Int) : Bool := (List.range o.length).all (keptP gi o)
theorem kgi_len : ∀ n, n < 5 → (kgi n).length ≤ 2 := by decide +kernel
theorem grpAt_succ {gi : List (List Int)} {m i : Nat} {c : List Int} (h : gi[m]? = some c) : grpAt (gi.take (m + 1)) i = grpAt (gi.take m) i ++ (if c.contains (i : Int) = true then [c] else []) := by
  unfold grpAt
  rw [take_succ_at h, List.filter_append]
  congr 1
  by_cases hc : (i : Int) ∈ c
  · simp [List.filter_cons, hc]
  · simp [List.filter_cons, hc]
section
variable {P : Program} {w : World} {K : PySem.W.Frag} {mg : Str → Option Value} {base : Heap} {PK : Addr}
def spLkp (K : PySem.W.Frag) (PK : Addr) : Sp := fun vs H Q _ => ∃ T q n a o, vs = [.ref T, .ref a] ∧ n < 5 ∧ KDI K PK H T q n ∧ H a = some (.lst ((o : List Int).map V.int)) ∧ o.length = (kps n).length ∧ ∀ H', Same H H' → Q (.bl (keptB (kgi n) o)) H'
set_option maxHeartbeats 4000000 in
theorem ok_lkp {f : Addr} {fd : FuncData} (F : Fun K "_law_kept" "_law_kept" sLkp f fd) (T : Bi mg) : FnOk P w K mg base (L2.CX P w) 1 f fd ["_law_kind_here", "_law_order"] (spLkp K PK) := by
  have sc : FnScope NLk ["_law_kind_here", "_law_order"] (defScope sLkp) := ⟨rfl, rfl, rfl, by decide +kernel, rfl, by decide +kernel, by decide +kernel⟩
  have hN := sc.nd
  refine F.okX sc (fun vs H Q E h => ?_) (fun cdv A outer s H vs Q E hr h => ?_)
  · obtain ⟨U, q, n, a, o, rfl, _⟩ := h
    rfl
  · obtain ⟨U, q, n, a, o, rfl, n5, kd, ha, lo, k⟩ := h
    refine ⟨_, pss_cons (ps_for passOwn rfl (pi_range1 rfl T.range (pa_cons (pe_ix ix_tup (pv 0) pe_int (fun _ _ => rfl)) pa_nil)) (pg_name (i := 2) hN rfl (Or.inr rfl))
        (pss_cons (ps_setLc (i := 3) (own := [("_law_some", 4)]) (g := gName 4) (tt := tTest (tOp (rIn K false) (tVar 2) (tVar 4))) (te := tVar 4) rfl hN rfl rfl rfl (pi_list (pe_ix ix_tup (pv 0) pe_int (fun _ _ => rfl))) (blkOk_by (N := NLk) (sc := defScope sLkp) (by decide +kernel)) (fun _ _ _ _ _ => pg_name (i := 4) hN rfl (Or.inl rfl)) (fun _ _ _ _ _ => pts_one (pt_cmpR op_in_seq (pv 2) (pv 4) (by rfl))) (fun _ _ _ _ _ => pv 4))
        (pss_one (ps_if (PW.pt (pw_and (pt_cmpR op_ne (pe_ix ix_list (pv 1) (pv 2) (fun _ _ => rfl)) (pv 2) (nomark _)) (pw_and1 (PW.pt (pw_or (pt_cmpR (op_eqD hr.units) (pv 3) (pe_lst pa_nil) (nomark _)) (pw_or1 (pt_cmpR op_notIn_seq (pe_ix ix_list (pv 1) (pv 2) (fun _ _ => rfl)) (pe_ix ix_list (pv 3) pe_int (fun _ _ => rfl)) (by rfl)))))))) (pss_one (ps_ret pe_bl)) pss_nil))))
      (pss_one (ps_ret pe_bl)), ?_⟩
    obtain ⟨dq, L, rs, hT, pk, li⟩ := id kd.ex
    have en : ((kps n).length : Int).toNat = (kps n).length := Int.toNat_natCast _
    have k5 := (kps_len n n5).2
    have line : 1000 ≤ sizeLine := by decide
    have bad : ∀ i, i < (kps n).length → keptP (kgi n) o i = false → keptB (kgi n) o = false := fun i hi h => by
      unfold keptB
      rw [List.all_eq_false]
      exact ⟨i, List.mem_range.mpr (by omega), by rw [h]; exact Bool.false_ne_true⟩
    refine ⟨_, rfl, U, _, _, _, rfl, rfl, SqT.of hT, at_of (j := 2) rfl rfl, (kps n).length, rfl, by omega, by omega, for_it walk_range (fun i σ G => (∃ v2 v3, σ = [some (.ref U), some (.ref a), v2, v3, none]) ∧ Same H G ∧ (List.range i).all (keptP (kgi n) o) = true) ⟨⟨_, _, rfl⟩, Same.refl _, rfl⟩ (fun _ _ _ _ _ => trivial) (fun i v σ G G' hi ⟨⟨v2, v3, eσ⟩, sm, al⟩ ⟨eG, hx⟩ => ?_) (fun σ G ⟨⟨v2, v3, eσ⟩, sm, al⟩ => ?_)⟩
    · subst eσ eG hx
      rw [en] at hi
      dsimp only [gName]
      simp only [List.set_cons_succ, List.set_cons_zero]
      have li1 := li.same sm
      refine ⟨_, rfl, U, _, _, _, rfl, rfl, SqT.of (sm _ _ hT), at_of (j := 1) rfl rfl, L, rfl, ⟨_, SqL.of li1.at_⟩, fun D nD => ?_⟩
      refine walk_it (walk_list (K := K) (a := L) (xs := rs.map V.ref)) (fun m G1 => Same G' G1 ∧ ∃ ds, LIs G1 D (grpAt ((kgi n).take m) i) ds ∧ ds.length ≤ m) ⟨same_upd nD, [], ⟨upd_same, rfl, fun i q h => by cases h⟩, Nat.le_refl _⟩ (fun m G1 _ ⟨s1, _⟩ => SqL.of (s1 _ _ li1.at_)) (fun m y G1 G2 hm ⟨s1, ds, hd, dl⟩ ⟨eG, hy⟩ => ?_) (fun G1 ⟨s1, ds, hd, dl⟩ => ?_)
      · subst eG
        obtain ⟨q', hq', rfl⟩ := map_some hy
        obtain ⟨c, hc, hqc⟩ := li1.it m q' hq'
        have hq2 := s1 _ _ hqc
        refine ⟨rfl, _, rfl, _, rfl, q', _, rfl, .inl (SqL.of hq2), rfl, flat_ints _, _, rfl, ?_⟩
        dsimp only
        have b0 : (if false = true then !inV (V.int (0 + (i : Int))) (c.map V.int) else inV (V.int (0 + (i : Int))) (c.map V.int)) = c.contains (i : Int) := by
          rw [if_neg Bool.false_ne_true, Int.zero_add]
          exact inV_int _ _
        rw [b0, grpAt_succ hc]
        cases hcc : c.contains (i : Int) with
        | false => exact iteF ⟨s1, ds, by simpa using hd, Nat.le_succ_of_le dl⟩
        | true =>
          have ne : q' ≠ D := fun z => by
            have := hqc
            rw [z, nD] at this
            cases this
          refine iteT ⟨_, rfl, _, hd.at_, ?_, same_put s1 nD, ds ++ [q'], hd.push hq2 ne, ?_⟩
          · rw [List.length_map]
            have := li.len
            have kg : (kgi n).length ≤ 2 := kgi_len n n5
            rw [List.length_map] at hm
            omega
          · rw [List.length_append]
            exact Nat.succ_le_succ dl
      rw [List.length_map, li.len, List.take_length] at hd
      dsimp only [gName]
      simp only [List.set_cons_succ, List.set_cons_zero]
      have s2 := sm.trans s1
      have ox : atI (o.map V.int) (0 + (i : Int)) = some (.int (o.getD i 0)) := by
        rw [Int.zero_add]
        refine at_of rfl ?_
        rw [List.getElem?_map, List.getElem?_eq_getElem (by omega), List.getD_eq_getElem?_getD, List.getElem?_eq_getElem (by omega)]
        rfl
      have al' : keptP (kgi n) o i = true → (List.range (i + 1)).all (keptP (kgi n) o) = true := fun h => by
        rw [List.range_succ, List.all_append, al]
        show (true && (keptP (kgi n) o i && true)) = true
        rw [h]
        rfl
      refine ⟨_, rfl, _, rfl, a, _, _, _, rfl, rfl, SqL.of (s2 _ _ ha), ox, _, rfl, rfl, _, rfl, ?_⟩
      have dx : (!decide (V.int (o.getD i 0) = V.int (0 + (i : Int)))) = !decide (o.getD i 0 = (i : Int)) := by
        rw [Int.zero_add]
        congr 1
        rw [decide_eq_decide]
        exact ⟨fun h => V.int.inj h, fun h => by rw [h]⟩
      rw [dx]
      generalize hgg : grpAt (kgi n) i = gg at hd
      cases hxi : decide (o.getD i 0 = (i : Int)) with
      | true =>
        refine if_neg' rfl (if_neg' rfl ⟨⟨_, _, rfl⟩, s2, al' ?_⟩)
        unfold keptP
        rw [hxi]
        rfl
      | false =>
      refine if_pos' rfl ⟨_, rfl, (by show 0 ≤ sizeLine; omega), fun t nt => ?_⟩
      have st := same_upd (o := .lst []) nt
      have hd2 := hd.same st
      have s3 := s2.trans st
      refine ⟨dLL gg, .list [], hd2.dp, .lst (SqL.of upd_same) .nil, (ly_LL gg).shp (by decide), by decide +kernel, _, rfl, ?_⟩
      cases gg with
      | nil =>
        refine if_pos' rfl (if_pos' rfl ?_)
        have z := k _ s3
        rw [bad i hi (by unfold keptP; rw [hxi, hgg]; rfl)] at z
        exact z
      | cons c r =>
        refine if_neg' rfl ?_
        obtain ⟨d0, e0⟩ : ∃ d0, ds[0]? = some d0 := by
          cases ds with
          | nil => exact absurd hd.len (by simp)
          | cons d0 _ => exact ⟨d0, rfl⟩
        obtain ⟨c', hc', hd0⟩ := hd2.it 0 d0 e0
        cases hc'
        have gx : atI (ds.map V.ref) 0 = some (.ref d0) := at_of (j := 0) rfl (by rw [List.getElem?_map, e0]; rfl)
        refine ⟨_, rfl, _, rfl, a, _, _, _, rfl, rfl, SqL.of (s3 _ _ ha), ox, _, rfl, D, _, _, _, rfl, rfl, SqL.of hd2.at_, gx, d0, _, rfl, .inl (SqL.of hd0), rfl, flat_ints _, _, rfl, ?_⟩
        rw [notin_b]
        cases hcx : c.contains (o.getD i 0) with
        | false =>
          refine if_pos' rfl ?_
          have z := k _ s3
          rw [bad i hi (by unfold keptP; rw [hxi, hgg]; show (!(!false && (decide (c :: r = []) || !c.contains (o.getD i 0)))) = false; rw [hcx]; simp)] at z
          exact z
        | true =>
          refine if_neg' rfl ⟨⟨_, _, rfl⟩, s3, al' ?_⟩
          unfold keptP
          rw [hxi, hgg]
          show (!(!false && (decide (c :: r = []) || !c.contains (o.getD i 0)))) = true
          rw [hcx, decide_eq_false (by intro z; cases z)]
          rfl
    · subst eσ
      rw [en, ← lo] at al
      exact (by
        have z := k G sm
        unfold keptB at z
        rw [al] at z
        exact z)
end
end R50
end

-- Y5ca
section
set_option Elab.async false
set_option linter.all false
set_option maxRecDepth 100000
set_option exponentiation.threshold 10000
namespace R50
open PySem L2 OwnOps OwnNe G1 StX SupX SortStr
/-! _law_canonical -/
abbrev sLca : Stmt := top 68
abbrev NCa : List Str := ["_law_kind_here", "_law_nets", "_law_row", "_law_group", "_law_at", "_law_some", "_law_k"]
def putG (ws : List Str) (c : List Int) (S : List Str) : Nat → List Str
  | 0 => ws
  | k + 1 => (putG ws c S k).set (c.getD k 0).toNat (S.getD k Str.empty)
def canG (ws : List Str) (c : List Int) : List Str := putG ws c (srtS (wix ws c)) c.length
def canF (css : List (List Int)) (ws : List Str) : List Str := css.foldl canG ws
theorem putG_len (ws : List Str) (c : List Int) (S : List Str) : ∀ k, (putG ws c S k).length = ws.length
  | 0 => rfl
  | k + 1 => by
    show ((putG ws c S k).set _ _).length = _
    rw [List.length_set, putG_len ws c S k]
theorem canG_len (ws : List Str) (c : List Int) : (canG ws c).length = ws.length := putG_len ..
theorem canF_len : ∀ (css : List (List Int)) (ws : List Str), (canF css ws).length = ws.length
  | [], _ => rfl
  | c :: css, ws => by
    show (canF css (canG ws c)).length = _
    rw [canF_len css, canG_len]
theorem canF_succ {css : List (List Int)} {ws : List Str} {i : Nat} {c : List Int} (h : css[i]? = some c) : canF (css.take (i + 1)) ws = canG (canF (css.take i) ws) c := by
  unfold canF
  rw [take_succ_at h, List.foldl_append]
  rfl
theorem kgi_five : ∀ n, n < 5 → ∀ c ∈ kgi n, c.length ≤ 5 := by decide +kernel
theorem kgi_in : ∀ n, n < 5 → InR (kgi n) (kps n).length := by unfold InR; decide +kernel
section
variable {P : Program} {w : World} {K : PySem.W.Frag} {mg : Str → Option Value} {base : Heap} {PK : Addr}
def spCan (K : PySem.W.Frag) (PK : Addr) : Sp := fun vs H Q _ => ∃ T q n a ws, vs = [.ref T, .ref a] ∧ n < 5 ∧ KDI K PK H T q n ∧ H a = some (.lst ((ws : List Str).map V.str)) ∧ ws.length = (kps n).length ∧ ∀ r H', Same H H' → H' r = some (.lst ((canF (kgi n) ws).map V.str)) → Q (.ref r) H'
set_option maxHeartbeats 4000000 in
theorem ok_can {f : Addr} {fd : FuncData} (F : Fun K "_law_canonical" "_law_canonical" sLca f fd) (T : Bi mg) : FnOk P w K mg base (L2.CX P w) 1 f fd ["_law_kind_here", "_law_nets"] (spCan K PK) := by
  have sc : FnScope NCa ["_law_kind_here", "_law_nets"] (defScope sLca) := ⟨rfl, rfl, rfl, by decide +kernel, rfl, by decide +kernel, by decide +kernel⟩
  have hN := sc.nd
  refine F.okX sc (fun vs H Q E h => ?_) (fun cdv A outer s H vs Q E hr h => ?_)
  · obtain ⟨U, q, n, a, ws, rfl, _⟩ := h
    rfl
  · obtain ⟨U, q, n, a, ws, rfl, n5, kd, ha, lw, k⟩ := h
    refine ⟨_, pss_cons (ps_set (i := 2) hN rfl (Or.inr rfl) (pe_callTy call_list_of (by rfl) T.list (by decide +kernel) (pa_cons (pv 1) pa_nil)))
      (pss_cons (ps_for passOwn rfl (pi_list (pe_ix ix_tup (pv 0) pe_int (fun _ _ => rfl))) (pg_name (i := 3) hN rfl (Or.inl rfl))
        (pss_cons (ps_set (i := 5) hN rfl (Or.inl rfl) (pe_callB cr_sortedS (by rfl) T.sorted (by decide +kernel) (pa_cons (pe_lc (own := [("_law_at", 4)]) (g := gName 4) (tt := tYes) (te := tCB (fun xs H Q => ∃ a, xs = [.str a] ∧ Q (.str a) H) (tCons (tOp (rIxL K) (tVar 2) (tVar 4)) tNil)) rfl hN (pi_list (pv 3)) (blkOk_by (N := NCa) (sc := defScope sLca) (by decide +kernel)) (fun _ _ _ _ _ => pg_name (i := 4) hN rfl (Or.inl rfl)) (fun _ _ _ _ _ => pts_nil)
            (fun _ _ _ _ _ => pe_callTy SkE.call_str_str (by rfl) T.str (by decide +kernel) (pa_cons (pe_ix (show IxR _ (rIxL K) from ix_list) (pv 2) (pv 4) (fun _ _ => rfl)) pa_nil))) pa_nil)))
        (pss_one (ps_for passOwn rfl (pi_enum (by rfl) T.enum (pa_cons (pv 3) pa_nil)) (pg_two (i := 6) (j := 4) rfl hN rfl (Or.inl rfl) rfl (Or.inl rfl))
          (pss_one (ps_asg (pe_ix ix_list (pv 5) (pv 6) (fun _ _ => rfl)) (pg_sub (pv 2) (pv 4) set_list)))))))
      (pss_one (ps_ret (pv 2)))), ?_⟩
    obtain ⟨dq, L, rs, hT, pk, li⟩ := id kd.ex
    have k5 := (kps_len n n5).2
    have kin := kgi_in n n5
    have line : 1000 ≤ sizeLine := by decide
    refine ⟨_, rfl, a, _, rfl, .inl (SqL.of ha), fun l nl => ?_⟩
    have s1 := same_upd (o := .lst (ws.map V.str)) nl
    have hl : (upd H l (.lst (ws.map V.str))) l = some (.lst (ws.map V.str)) := upd_same
    generalize upd H l (.lst (ws.map V.str)) = H1 at s1 hl ⊢
    have n_l : H l = none := nl
    rw [show L2.start NCa [V.ref U, V.ref a] = [some (.ref U), some (.ref a), none, none, none, none, none] from rfl]
    dsimp only [gName]
    simp only [List.set_cons_succ, List.set_cons_zero]
    refine ⟨_, rfl, U, _, _, _, rfl, rfl, SqT.of (s1 _ _ hT), at_of (j := 1) rfl rfl, L, rfl, ⟨_, SqL.of (s1 _ _ li.at_)⟩, for_list (K := K) (a := L) (xs := rs.map V.ref) (fun j σ G => (∃ y3 y4 y5 y6, σ = [some (.ref U), some (.ref a), some (.ref l), y3, y4, y5, y6]) ∧ Same H G ∧ G l = some (.lst ((canF ((kgi n).take j) ws).map V.str))) ⟨⟨_, _, _, _, rfl⟩, s1, hl⟩ (fun j σ G _ ⟨_, sm, _⟩ => SqL.of (sm _ _ li.at_)) ?_ ?_⟩
    · rintro j x σ G hx ⟨⟨y3, y4, y5, y6, rfl⟩, sm, hw⟩
      obtain ⟨q', hq, rfl⟩ := map_some hx
      obtain ⟨c, hc, hqc⟩ := li.it j q' hq
      have cin := kin c (List.mem_of_getElem? hc)
      rw [canF_succ hc]
      have lcw : (canF ((kgi n).take j) ws).length = (kps n).length := by rw [canF_len, lw]
      generalize canF ((kgi n).take j) ws = cw at hw lcw ⊢
      dsimp only [gName]
      simp only [List.set_cons_succ, List.set_cons_zero]
      have c5 : c.length ≤ 5 := kgi_five n n5 c (List.mem_of_getElem? hc)
      rw [← lcw] at cin
      refine ⟨_, rfl, q', rfl, ⟨_, SqL.of (sm _ _ hqc)⟩, fun D nD => ?_⟩
      refine walk_it (walk_list (K := K) (a := q') (xs := c.map V.int)) (fun i G1 => Same G G1 ∧ G1 D = some (.lst ((wix cw (c.take i)).map V.str))) ⟨same_upd nD, upd_same⟩ (fun i G1 _ ⟨s2, _⟩ => SqL.of (s2 _ _ (sm _ _ hqc))) (fun i v G1 G2 hi ⟨s2, hD⟩ ⟨e, hx⟩ => ?_) (fun G1 ⟨s2, hD⟩ => ?_)
      · subst e
        obtain ⟨z, hz, rfl⟩ := map_some hx
        obtain ⟨z0, z1⟩ := cin z (List.mem_of_getElem? hz)
        rw [List.length_map] at hi
        refine ⟨rfl, yes_go (iteT ⟨_, rfl, _, rfl, l, _, _, _, rfl, rfl, SqL.of (s2 _ _ hw), wix_at z0 z1, _, rfl, _, hD, ?_, same_put s2 nD, ?_⟩)⟩
        · unfold wix
          rw [List.length_map, List.length_map, List.length_take]
          exact small1000 (by omega)
        · rw [upd_same]
          unfold wix
          rw [take_succ_at hz, List.map_append, List.map_append]
          rfl
      rw [List.length_map, List.take_length] at hD
      refine ⟨D, _, rfl, SqL.of hD, ?_, fun ys o pe so no => ?_⟩
      · unfold wix
        rw [List.length_map]
        omega
      obtain rfl : ys = srtS (wix cw c) := srtS_uniq so pe
      dsimp only [gName]
      simp only [List.set_cons_succ, List.set_cons_zero]
      have lS : (srtS (wix cw c)).length = c.length := by rw [srtS_len]; unfold wix; rw [List.length_map]
      have hcan : canG cw c = putG cw c (srtS (wix cw c)) c.length := rfl
      rw [hcan]
      generalize srtS (wix cw c) = S at lS
      have s3 := s2.trans (same_upd (o := .lst (S.map V.str)) no)
      have ho : (upd G1 o (.lst (S.map V.str))) o = some (.lst (S.map V.str)) := upd_same
      generalize upd G1 o (.lst (S.map V.str)) = G3 at s3 ho ⊢
      have nol : o ≠ l := fun z => by
        rw [z, s2 _ _ hw] at no
        cases no
      refine ⟨_, rfl, q', _, rfl, SqL.of (s3 _ _ (sm _ _ hqc)), for_it (walk_enum (K := K) (a := q') (xs := c.map V.int)) (fun i σ G4 => (∃ y4 y6, σ = [some (.ref U), some (.ref a), some (.ref l), some (.ref q'), y4, some (.ref o), y6]) ∧ Same H G4 ∧ G4 o = some (.lst (S.map V.str)) ∧ G4 l = some (.lst ((putG cw c S i).map V.str))) ⟨⟨_, _, rfl⟩, sm.trans s3, ho, s3 _ _ hw⟩ (fun i σ G4 _ ⟨_, s4, _, _⟩ => SqL.of (s4 _ _ hqc)) (fun i v σ G4 G5 hi ⟨⟨y4, y6, eσ⟩, s4, ho4, hw4⟩ ⟨W, x, y, ev, nW, eG, hx, hy⟩ => ?_) (fun σ G4 ⟨⟨y4, y6, eσ⟩, s4, ho4, hw4⟩ => ?_)⟩
      · subst eσ ev eG
        cases hx
        obtain ⟨z, hz, rfl⟩ := map_some hy
        obtain ⟨z0, z1⟩ := cin z (List.mem_of_getElem? hz)
        rw [List.length_map] at hi
        have s5 := same_upd (o := .tup [.int (i : Nat), .int z]) nW
        refine ⟨W, _, rfl, SqT.of upd_same, rfl, _, _, rfl, _, _, rfl, rfl, ?_⟩
        have sS : atI (S.map V.str) ((i : Nat) : Int) = some (.str (S.getD i Str.empty)) := by
          refine at_of rfl ?_
          rw [List.getElem?_map, List.getElem?_eq_getElem (by omega), List.getD_eq_getElem?_getD, List.getElem?_eq_getElem (by omega)]
          rfl
        refine ⟨_, rfl, _, rfl, o, _, _, _, rfl, rfl, SqL.of (s5 _ _ ho4), sS, _, rfl, _, rfl, l, _, _, z.toNat, rfl, rfl, s5 _ _ hw4, ?_, ⟨_, _, rfl⟩, same_put (s4.trans s5) n_l, ?_, ?_⟩
        · unfold ixN
          rw [List.length_map, putG_len, if_pos z0, if_pos z1]
        · rw [upd_ne nol]
          exact s5 _ _ ho4
        · rw [upd_same]
          show some (HO.lst (((putG cw c S i).map V.str).set z.toNat (V.str (S.getD i Str.empty)))) = some (HO.lst (((putG cw c S i).set (c.getD i 0).toNat (S.getD i Str.empty)).map V.str))
          rw [List.map_set, List.getD_eq_getElem?_getD (l := c), hz]
          rfl
      · subst eσ
        rw [List.length_map] at hw4
        exact ⟨⟨_, _, _, _, rfl⟩, s4, hw4⟩
    · rintro σ G ⟨⟨y3, y4, y5, y6, rfl⟩, sm, hw⟩
      rw [List.length_map, li.len, List.take_length] at hw
      exact ⟨_, rfl, k l G sm hw⟩
end
end R50
end

-- Y5fa
section
set_option Elab.async false
set_option linter.all false
set_option maxRecDepth 100000
set_option exponentiation.threshold 10000
namespace R50
open PySem L2 OwnOps OwnNe G1 StX SupX SortStr
/-! facts of the five kinds -/
def labT (i : Int) : Str := Str.empty ++ ("m" : Str) ++ R50r.ts i
def labs (n : Nat) : List Str := (List.range (kps n).length).map fun (i : Nat) => labT (i : Int)
def orsT (n : Nat) : List (List Int) := pinO (kps n) (kgs n)
def shN (n : Nat) : Str := shpT (kx n) (kps n) (kgs n)
theorem due_eq : ∀ n, n < 5 → (ordersT (allC (kps n).length)).filter (keptB (kgi n)) = orsT n := by decide +kernel
theorem all_len : ∀ m, m < 6 → ∀ o ∈ ordersT (allC m), o.length = m := by decide +kernel
theorem ors_in : ∀ n, n < 5 → ∀ o ∈ orsT n, o.length = (kps n).length ∧ ∀ i ∈ o, 0 ≤ i ∧ i < ((kps n).length : Int) := by decide +kernel
theorem ors_len : ∀ n, n < 5 → (orsT n).length ≤ 10 := by decide +kernel
theorem sh_ne : ∀ n, n < 5 → ∀ m, m < 5 → n ≠ m → shN n ≠ shN m := by decide +kernel
theorem labs_ok : ∀ n, n < 5 → ∀ i, i < 5 → (labT (i : Nat)).length ≤ 20 := by decide +kernel
/-! sorting, by hand -/
def insS (x : Str) : List Str → List Str
  | [] => [x]
  | y :: r => if PyProof.Rows.sortedS [x, y] then x :: y :: r else y :: insS x r
def isrt : List Str → List Str
  | [] => []
  | x :: r => insS x (isrt r)
theorem insS_perm (x : Str) : ∀ l, (insS x l).Perm (x :: l)
  | [] => List.Perm.refl _
  | y :: r => by
    unfold insS
    split
    · exact List.Perm.refl _
    · exact ((insS_perm x r).cons y).trans (List.Perm.swap x y r)
theorem isrt_perm : ∀ l, (isrt l).Perm l
  | [] => List.Perm.refl _
  | x :: r => (insS_perm x (isrt r)).trans ((isrt_perm r).cons x)
theorem srt_is {xs : List Str} (h : PyProof.Rows.sortedS (isrt xs) = true) : srtS xs = isrt xs := (srtS_uniq h (isrt_perm xs)).symm
def canI : List (List Int) → List Str → Option (List Str)
  | [], ws => some ws
  | c :: css, ws => if PyProof.Rows.sortedS (isrt (wix ws c)) = true then canI css (putG ws c (isrt (wix ws c)) c.length) else none
theorem canI_ok : ∀ {css : List (List Int)} {ws r : List Str}, canI css ws = some r → canF css ws = r
  | [], ws, r, h => Option.some.inj h
  | c :: css, ws, r, h => by
    unfold canI at h
    by_cases q : PyProof.Rows.sortedS (isrt (wix ws c)) = true
    · rw [if_pos q] at h
      show canF css (canG ws c) = r
      unfold canG
      rw [srt_is q]
      exact canI_ok h
    · rw [if_neg q] at h
      cases h
theorem can_dec : ∀ n, n < 5 → ∀ o ∈ orsT n, canI (kgi n) (labs n) = canI (kgi n) (putG (labs n) o (labs n) o.length) ∧ (canI (kgi n) (labs n)).isSome = true := by decide +kernel
theorem can_str : ∀ n, n < 5 → ((canI (kgi n) (labs n)).getD []).all PyData.strOk = true := by decide +kernel
theorem can_eq {n : Nat} (h : n < 5) {o : List Int} (ho : o ∈ orsT n) : canF (kgi n) (labs n) = canF (kgi n) (putG (labs n) o (labs n) o.length) := by
  obtain ⟨e, s⟩ := can_dec n h o ho
  cases q : canI (kgi n) (labs n) with
  | none => rw [q] at s; cases s
  | some r =>
    rw [canI_ok q, canI_ok (e.symm.trans q)]
theorem can_ok {n : Nat} (h : n < 5) {o : List Int} (ho : o ∈ orsT n) : (canF (kgi n) (labs n)).all PyData.strOk = true := by
  obtain ⟨e, s⟩ := can_dec n h o ho
  have k := can_str n h
  cases q : canI (kgi n) (labs n) with
  | none => rw [q] at s; cases s
  | some r =>
    rw [q] at k
    rw [canI_ok q]
    exact k
def dSs (xs : List Str) : PyData := .list (xs.map .str)
theorem ly_Ss {xs : List Str} (h : xs.all PyData.strOk = true) : LyN 1 (dSs xs) := by
  refine .lst ?_
  induction xs with
  | nil => exact .nil
  | cons x xs ih =>
    rw [List.all_cons, Bool.and_eq_true] at h
    exact .cons (.str h.1) (ih h.2)
theorem dp_strs {K : PySem.W.Frag} {H : Hp} : ∀ xs : List Str, DpAll K H (xs.map V.str) (xs.map PyData.str)
  | [] => .nil
  | n :: r => .cons (.str n) (dp_strs r)
theorem labs_len (n : Nat) : (labs n).length = (kps n).length := by unfold labs; rw [List.length_map, List.length_range]
theorem labs_at {n i : Nat} (h : i < (kps n).length) : (labs n)[i]? = some (labT (i : Nat)) := by
  unfold labs
  rw [List.getElem?_map, List.getElem?_range h]
  rfl
end R50
end

-- Y5la
section
set_option Elab.async false
set_option linter.all false
set_option maxRecDepth 100000
set_option exponentiation.threshold 10000
namespace R50
open PySem L2 OwnOps OwnNe G1 StX SupX
/-! law -/
abbrev sLaw : Stmt := top 69
abbrev NLw : List Str := ["_law_script", "_law_state", "_law_numbers", "_law_kinds", "_law_items", "_law_told", "_law_keys", "_law_due", "_law_way", "_law_at", "_law_labels", "_law_placed_labels", "_law_pin", "_law_number", "_law_order"]
theorem kg_ne : ∀ n, n < 5 → (∀ c ∈ kgi n, c ≠ []) ∧ ∀ g ∈ kgs n, g ≠ [] := by decide +kernel
/-- D is none of the lists of that kind -/
structure Apt (D : Addr) (H : Hp) (T q : Addr) : Prop where
  g : ∀ C dx fs ga, H q = some (.ins C dx fs) → fs.lookup ("_groups" : Str) = some (.ref ga) → D ≠ ga
  l : ∀ L x, H T = some (.tup [.ref q, .ref L, x]) → D ≠ L
section
variable {K : PySem.W.Frag} {PK D T q : Addr} {H H' : Hp} {n : Nat}
theorem Apt.to (a : Apt D H T q) (h : KDI K PK H T q n) (h1 : H' q = H q) (h2 : H' T = H T) : Apt D H' T q :=
  ⟨fun C dx fs ga e1 e2 => a.g C dx fs ga (h1 ▸ e1) e2, fun L x e => a.l L x (h2 ▸ e)⟩
theorem Apt.same (a : Apt D H T q) (h : KDI K PK H T q n) (s : Same H H') : Apt D H' T q := by
  obtain ⟨dq, L, rs, e1, pk, li⟩ := h.ex
  obtain ⟨pa, ca, oa, ga, k1, _⟩ := pk.ex
  exact a.to h ((s _ _ k1).trans k1.symm) ((s _ _ e1).trans e1.symm)
theorem KDI.putD {o : HO} {ds : List Addr} (h : KDI K PK H T q n) (n5 : n < 5) (a : Apt D H T q) (hD : H D = some (.lst (ds.map V.ref))) : KDI K PK (upd H D o) T q n ∧ Apt D (upd H D o) T q := by
  obtain ⟨dq, L, rs, e1, pk, li⟩ := id h.ex
  obtain ⟨pa, ca, oa, ga, k1, k2, k3, k4, rg, k5⟩ := id pk.ex
  obtain ⟨c1, c2⟩ := kg_ne n n5
  have nt : ∀ {b : Addr} {u : HO}, H b = some u → (∀ xs, u ≠ .lst xs) → (upd H D o) b = some u := fun {b u} e ne => by
    rw [upd_ne (fun z => by rw [z, hD] at e; exact ne _ (Option.some.inj e).symm)]
    exact e
  have ni : ∀ {b : Addr} {c : List Int}, c ≠ [] → H b = some (.lst (c.map V.int)) → (upd H D o) b = some (.lst (c.map V.int)) := fun {b c} ne e => by
    rw [upd_ne (fun z => by
      rw [z, hD] at e
      cases ds with
      | nil => cases c with
        | nil => exact ne rfl
        | cons i c => cases e
      | cons d ds => cases c with
        | nil => exact ne rfl
        | cons i c => cases e)]
    exact e
  have na : ∀ {b : Addr} {u : HO}, D ≠ b → H b = some u → (upd H D o) b = some u := fun {b u} ne e => by rw [upd_ne (Ne.symm ne)]; exact e
  have gne : D ≠ ga := a.g _ _ _ _ k1 (by kernel_rfl)
  have lne : D ≠ L := a.l _ _ e1
  have q1 := nt k1 (fun xs z => by cases z)
  have q2 := nt e1 (fun xs z => by cases z)
  refine ⟨⟨dq, L, rs, q2, ⟨pa, ca, oa, ga, q1, ?_, nt k3 (fun xs z => by cases z), ?_, rg, na gne k5.at_, k5.len, fun i b hb => ?_⟩, na lne li.at_, li.len, fun i b hb => ?_⟩, a.to h (q1.trans k1.symm) (q2.trans e1.symm)⟩
  · rcases k2 with (k2 | ⟨z, k2⟩) | k2
    · exact .inl (.inl (nt k2 fun xs z => by cases z))
    · exact .inl (.inr ⟨z, nt k2 fun xs z => by cases z⟩)
    · exact .inr k2
  · obtain ⟨as, a1, a2, a3⟩ := k4
    exact ⟨as, nt a1 (fun xs z => by cases z), a2, fun i b hb => let ⟨w, w1, w2⟩ := a3 i b hb; ⟨w, w1, nt w2 fun xs z => by cases z⟩⟩
  · obtain ⟨c, h1, h2⟩ := k5.it i b hb
    refine ⟨c, h1, ni ?_ h2⟩
    obtain ⟨g, hg, rfl⟩ := map_some h1
    intro z
    exact c2 g (List.mem_of_getElem? hg) (List.map_eq_nil_iff.mp z)
  · obtain ⟨c, h1, h2⟩ := li.it i b hb
    exact ⟨c, h1, ni (c1 c (List.mem_of_getElem? h1)) h2⟩
end
theorem WayL.off {H : Hp} {D E : Addr} {os : List (List Int)} {ys : List V} {o : HO} (h : WayL H D os) (ne : D ≠ E) (hE : H E = some (.lst ys)) : WayL (upd H E o) D os := by
  obtain ⟨ts, h1, h2, h3⟩ := h
  have nt : ∀ {b : Addr} {xs : List V}, H b = some (.tup xs) → (upd H E o) b = some (.tup xs) := fun {b xs} e => by
    rw [upd_ne (fun z => by rw [z, hE] at e; cases e)]
    exact e
  exact ⟨ts, by rw [upd_ne ne]; exact h1, h2, fun i t ht => let ⟨o', q1, q2, q3, q4⟩ := h3 i t ht; ⟨o', q1, nt q2, nt q3, nt q4⟩⟩
theorem WayL.put {H : Hp} {D : Addr} {os : List (List Int)} {ts : List (Addr × Addr × Addr)} {W t Z : Addr} {o : List Int} (hD : H D = some (.lst (ts.map fun t => V.ref t.1))) (ln : ts.length = os.length) (it : ∀ (i : Nat) (t : Addr × Addr × Addr), ts[i]? = some t → ∃ o, os[i]? = some o ∧ H t.1 = some (.tup [.ref t.2.1, .ref t.2.2]) ∧ H t.2.1 = some (.tup (o.map V.int)) ∧ H t.2.2 = some (.tup [.int 0]))
    (hW : H W = some (.tup [.ref t, .ref Z])) (ht : H t = some (.tup (o.map V.int))) (hZ : H Z = some (.tup [.int 0])) : WayL (upd H D (.lst (ts.map (fun t => V.ref t.1) ++ [V.ref W]))) D (os ++ [o]) := by
  have nt : ∀ {b : Addr} {xs : List V}, H b = some (.tup xs) → (upd H D (.lst (ts.map (fun t => V.ref t.1) ++ [V.ref W]))) b = some (.tup xs) := fun {b xs} e => by
    rw [upd_ne (fun z => by rw [z, hD] at e; cases e)]
    exact e
  refine ⟨ts ++ [(W, t, Z)], by rw [upd_same, List.map_append]; rfl, by rw [List.length_append, List.length_append, ln]; rfl, fun i u hu => ?_⟩
  by_cases hi : i < ts.length
  · rw [List.getElem?_append_left hi] at hu
    obtain ⟨o', h1, h2, h3, h4⟩ := it i u hu
    exact ⟨o', by rw [List.getElem?_append_left (by omega)]; exact h1, nt h2, nt h3, nt h4⟩
  · rw [List.getElem?_append_right (by omega)] at hu
    have h0 : i - ts.length = 0 := by
      have := (List.getElem?_eq_some_iff.mp hu).1
      simp at this
      omega
    rw [h0] at hu
    cases hu
    refine ⟨o, ?_, nt hW, nt ht, nt hZ⟩
    rw [List.getElem?_append_right (by omega), show i - os.length = 0 by omega]
    rfl
theorem seq_if {tt : L2.TT} {ts tr : TS} {D : Ends} {σ : L2.St} {H : Hp} {C : L2.St → Hp → Prop} (next : ∀ σ' H', C σ' H' → tr D σ' H') (body : ∀ N : L2.St → Hp → Prop, (∀ σ' H', C σ' H' → N σ' H') → (tIfS tt ts tNext) { D with nx := N } σ H) : tSeq (tIfS tt ts tNext) tr D σ H := body (fun σ' H' => tr D σ' H') next
section
variable {P : Program} {w : World} {K : PySem.W.Frag} {mg : Str → Option Value} {base : Heap} {CI PK : Addr}
def spLaw (K : PySem.W.Frag) : Sp := fun vs H Q _ => ∃ (a : Addr) (ns : List Int), vs = [.ref a] ∧ SqL K H a (ns.map V.int) ∧ ∀ H', Same H H' → Q (.bl true) H'
set_option maxHeartbeats 8000000 in
theorem ok_law {f : Addr} {fd : FuncData} (F : Fun K "law" "law" sLaw f fd) (T : Bi mg) (U : ItC K CI)
    (GS : Glb P w K mg base "_law_start" 1 ["_law_script"] (spStart K)) (GD : Glb P w K mg base "_law_draw" 1 ["_law_state", "_law_many"] spDraw) (GO : Glb P w K mg base "_law_orders" 1 ["_law_many"] spLor) (GK : Glb P w K mg base "_law_kind" 8 ["_law_number"] (spLKd K PK))
    (GI : Glb P w K mg base "_law_single" 8 ["_law_state", "_law_kind_here", "_law_name"] (spLsg K CI PK)) (GP : Glb P w K mg base "_law_kept" 1 ["_law_kind_here", "_law_order"] (spLkp K PK)) (GC : Glb P w K mg base "_law_canonical" 1 ["_law_kind_here", "_law_nets"] (spCan K PK)) (GW : Glb P w K mg base "ways" 3 ["item", "other"] (spWay K CI PK)) :
    FnOk P w K mg base (L2.CX P w) 9 f fd ["_law_script"] (spLaw K) := by
  obtain ⟨_, _, mS, kS, GS, bS⟩ := GS.ex
  obtain ⟨_, _, mD, kD, GD, bD⟩ := GD.ex
  obtain ⟨_, _, mO, kO, GO, bO⟩ := GO.ex
  obtain ⟨_, _, mK, kK, GK, bK⟩ := GK.ex
  obtain ⟨_, _, mI, kI, GI, bI⟩ := GI.ex
  obtain ⟨_, _, mP, kP, GP, bP⟩ := GP.ex
  obtain ⟨_, _, mC, kC, GC, bC⟩ := GC.ex
  obtain ⟨_, _, mW, kW, GW, bW⟩ := GW.ex
  have sc : FnScope NLw ["_law_script"] (defScope sLaw) := ⟨rfl, rfl, rfl, by decide +kernel, rfl, by decide +kernel, by decide +kernel⟩
  have hN := sc.nd
  refine F.okX sc (fun vs H Q E h => ?_) (fun cdv A outer s H vs Q E hr h => ?_)
  · obtain ⟨a, ns, rfl, _⟩ := h
    rfl
  · obtain ⟨a, ns, rfl, hS, fin⟩ := h
    refine ⟨_, pss_cons (ps_set (i := 1) hN rfl (Or.inl rfl) (pe_call (E := E0) GS (hr.mono (by decide)) (by rfl) mS kS bS .nil passL (pa_cons (pv 0) pa_nil)))
      (pss_cons (ps_set (i := 2) hN rfl (Or.inl rfl) (pe_lst (pa_cons (pe_call (E := E0) GD (hr.mono (by decide)) (by rfl) mD kD bD .nil passL (pa_cons (pv 1) (pa_cons pe_int pa_nil))) (pa_cons (pe_call (E := E0) GD (hr.mono (by decide)) (by rfl) mD kD bD .nil passL (pa_cons (pv 1) (pa_cons pe_int pa_nil))) pa_nil))))
      (pss_cons (ps_if (pt_cmpR op_gt (pe_call (E := E0) GD (hr.mono (by decide)) (by rfl) mD kD bD .nil passL (pa_cons (pv 1) (pa_cons pe_int pa_nil))) pe_int (nomark _)) (pss_one (ps_asg (pe_ix ix_list (pv 2) pe_int (fun _ _ => rfl)) (pg_sub (pv 2) pe_int set_list))) pss_nil)
      (pss_cons (ps_set (i := 3) hN rfl (Or.inr rfl) (pe_lc (own := [("_law_number", 13)]) (g := gName 13) (tt := tYes) (te := tCall (spLKd K PK) [] E0 (tCons (tVar 13) tNil)) rfl hN (pi_list (pv 2)) (blkOk_by (N := NLw) (sc := defScope sLaw) (by decide +kernel)) (fun _ _ _ _ _ => pg_name (i := 13) hN rfl (Or.inl rfl)) (fun _ _ _ _ _ => pts_nil) (fun _ _ _ _ _ => pe_call GK (hr.mono (by decide)) (by rfl) mK kK bK .nil passL (pa_cons (pv 13) pa_nil))))
      (pss_cons (ps_set (i := 4) hN rfl (Or.inl rfl) (pe_lst (pa_cons (pe_call (E := E0) GI (hr.mono (by decide)) (by rfl) mI kI bI .nil passL (pa_cons (pv 1) (pa_cons (pe_ix ix_list (pv 3) pe_int (fun _ _ => rfl)) (pa_cons pe_str pa_nil)))) (pa_cons (pe_call (E := E0) GI (hr.mono (by decide)) (by rfl) mI kI bI .nil passL (pa_cons (pv 1) (pa_cons (pe_ix ix_list (pv 3) pe_int (fun _ _ => rfl)) (pa_cons pe_str pa_nil)))) pa_nil))))
      (pss_cons (ps_set (i := 5) hN rfl (Or.inl rfl) (pe_call (E := E0) GW (hr.mono (by decide)) (by rfl) mW kW bW .nil passL (pa_cons (pe_ix ix_list (pv 4) pe_int (fun _ _ => rfl)) (pa_cons (pe_ix ix_list (pv 4) pe_int (fun _ _ => rfl)) pa_nil))))
      (pss_cons (ps_set (i := 6) hN rfl (Or.inl rfl) (pe_lst (pa_cons (pe_fld (pe_ix ix_list (pv 4) pe_int (fun _ _ => rfl)) rfl) (pa_cons (pe_fld (pe_ix ix_list (pv 4) pe_int (fun _ _ => rfl)) rfl) pa_nil))))
      (pss_cons (ps_if (pt_cmpR op_ne (pe_ix ix_list (pv 2) pe_int (fun _ _ => rfl)) (pe_ix ix_list (pv 2) pe_int (fun _ _ => rfl)) (nomark _))
          (pss_one (ps_ret (pe_and (pe_cmpR (op_eqD hr.units) (pv 5) (pe_lst pa_nil) (nomark _)) (pe_one (pe_cmpR (op_eqD hr.units) (pe_call (E := E0) GW (hr.mono (by decide)) (by rfl) mW kW bW .nil passL (pa_cons (pe_ix ix_list (pv 4) pe_int (fun _ _ => rfl)) (pa_cons (pe_ix ix_list (pv 4) pe_int (fun _ _ => rfl)) pa_nil))) (pe_lst pa_nil) (nomark _)))))) pss_nil)
      (pss_cons (ps_setLc (i := 7) (own := [("_law_order", 14)]) (g := gName 14) (tt := tB (tCall (spLkp K PK) [] E0 (tCons (tOp (rIxL K) (tVar 3) (tC (.int 0))) (tCons (tVar 14) tNil)))) (te := tTup (tCons (tThen (tVar 14) (kTup K)) (tCons (tTup (tCons (tC (.int 0)) tNil)) tNil))) rfl hN rfl rfl rfl (pi_list (pe_call (E := E0) GO (hr.mono (by decide)) (by rfl) mO kO bO .nil passL (pa_cons (pe_ix ix_tup (pe_ix ix_list (pv 3) pe_int (fun _ _ => rfl)) pe_int (fun _ _ => rfl)) pa_nil))) (blkOk_by (N := NLw) (sc := defScope sLaw) (by decide +kernel)) (fun _ _ _ _ _ => pg_name (i := 14) hN rfl (Or.inl rfl))
          (fun _ _ _ _ _ => pts_one (pt_val (pe_call GP (hr.mono (by decide)) (by rfl) mP kP bP .nil passL (pa_cons (pe_ix (show IxR _ (rIxL K) from ix_list) (pv 3) pe_int (fun _ _ => rfl)) (pa_cons (pv 14) pa_nil))))) (fun _ _ _ _ _ => pe_tup (pa_cons (pe_tupleOf (by rfl) T.tuple (pv 14)) (pa_cons (pe_tup (pa_cons pe_int pa_nil)) pa_nil))))
      (pss_cons (ps_if (PW.pt (pw_or (pt_not (pt_val (pe_callB call_isi (by rfl) T.isi (by decide +kernel) (pa_cons (pv 5) (pa_cons (pe_bltn (v := .ty "list") (by rfl) T.list (by decide +kernel) rfl) pa_nil))))) (pw_or (pt_cmpR (op_neD hr.units) (pv 5) (pv 7) (nomark _))
          (pw_or1 (pt_not (pt_val (pe_callB (cr_all rfl) (by rfl) T.all (by decide +kernel) (pa_cons (pe_lc (own := [("_law_way", 8)]) (g := gName 8) (tt := tYes) (te := tCB (rIsi K) (tCons (tVar 8) (tCons (tC (.ty "tuple")) tNil))) rfl hN (pi_list (pv 5)) (blkOk_by (N := NLw) (sc := defScope sLaw) (by decide +kernel)) (fun _ _ _ _ _ => pg_name (i := 8) hN rfl (Or.inl rfl)) (fun _ _ _ _ _ => pts_nil)
            (fun _ _ _ _ _ => pe_callB (id := "isinstance") (show CallR _ (.builtin "isinstance") (rIsi K) from call_isi) (by rfl) T.isi (by decide +kernel) (pa_cons (pv 8) (pa_cons (pe_bltn (v := .ty "tuple") (by rfl) T.tuple (by decide +kernel) rfl) pa_nil)))) pa_nil)))))))) pss_never pss_nil)
      (pss_cons (ps_setLc (i := 10) (own := [("_law_at", 9)]) (g := gName 9) (tt := tYes) (te := fun σ H Q => tJs [tC (.str "m"), tFmt (tVar 9)] Str.empty σ H fun out H1 => Q (.str out) H1) rfl hN rfl rfl rfl (pi_range1 rfl T.range (pa_cons (pe_ix ix_tup (pe_ix ix_list (pv 3) pe_int (fun _ _ => rfl)) pe_int (fun _ _ => rfl)) pa_nil)) (blkOk_by (N := NLw) (sc := defScope sLaw) (by decide +kernel)) (fun _ _ _ _ _ => pg_name (i := 9) hN rfl (Or.inl rfl)) (fun _ _ _ _ _ => pts_nil) (fun _ _ _ _ _ => pe_joined (.cons pe_str (.cons (pe_fmt (pv 9)) .nil))))
      (pss_cons (ps_for passOwn rfl (pi_list (pv 5)) (pg_name (i := 8) hN rfl (Or.inl rfl))
          (pss_cons (ps_set (i := 11) hN rfl (Or.inl rfl) (pe_callTy call_list_of (by rfl) T.list (by decide +kernel) (pa_cons (pv 10) pa_nil)))
          (pss_cons (ps_for passOwn rfl (EnumT.pi_enumT (by rfl) T.enum (pa_cons (pe_ix ix_tup (pv 8) pe_int (fun _ _ => rfl)) pa_nil)) (pg_two (i := 9) (j := 12) rfl hN rfl (Or.inl rfl) rfl (Or.inl rfl)) (pss_one (ps_asg (pe_ix ix_list (pv 10) (pv 9) (fun _ _ => rfl)) (pg_sub (pv 11) (pv 12) set_list))))
          (pss_one (ps_if (pt_cmpR (op_neD hr.units) (pe_call (E := E0) GC (hr.mono (by decide)) (by rfl) mC kC bC .nil passL (pa_cons (pe_ix ix_list (pv 3) pe_int (fun _ _ => rfl)) (pa_cons (pv 10) pa_nil))) (pe_call (E := E0) GC (hr.mono (by decide)) (by rfl) mC kC bC .nil passL (pa_cons (pe_ix ix_list (pv 3) pe_int (fun _ _ => rfl)) (pa_cons (pv 11) pa_nil))) (nomark _)) pss_never pss_nil)))))
      (pss_cons (ps_expr (pe_bm0 PySem.F.plainAttrs_list PySem.F.slot_list_clear PySem.F.type_list_clear mt_clear (pv 5)))
      (pss_one (ps_ret (pe_and (pe_cmpR (op_eqD hr.units) (pe_call (E := E0) GW (hr.mono (by decide)) (by rfl) mW kW bW .nil passL (pa_cons (pe_ix ix_list (pv 4) pe_int (fun _ _ => rfl)) (pa_cons (pe_ix ix_list (pv 4) pe_int (fun _ _ => rfl)) pa_nil))) (pv 7) (nomark _)) (pe_one (pe_cmpR (op_eqV hr.units) (pe_lst (pa_cons (pe_fld (pe_ix ix_list (pv 4) pe_int (fun _ _ => rfl)) rfl) (pa_cons (pe_fld (pe_ix ix_list (pv 4) pe_int (fun _ _ => rfl)) rfl) pa_nil))) (pv 6) (nomark _)))))))))))))))))), ?_⟩
    have two : 1000 ≤ sizeLine := by decide
    refine ⟨_, rfl, a, ns, rfl, hS, fun l ls H1 s1 st1 nl nls => ?_⟩
    have s1 : Same H H1 := s1
    refine ⟨_, rfl, l, ls, 5, rfl, by decide, sm9 (by decide), st1, fun d0 H2 d00 d05 sx2 st2 => ?_⟩
    refine ⟨_, rfl, l, ls, 5, rfl, by decide, sm9 (by decide), st2, fun d1 H3 d10 d15 sx3 st3 => ?_⟩
    refine ⟨by show 2 ≤ sizeLine; omega, fun N nN => ?_⟩
    obtain ⟨m0, rfl⟩ : ∃ m : Nat, d0 = m := ⟨d0.toNat, (Int.toNat_of_nonneg d00).symm⟩
    obtain ⟨m1, rfl⟩ : ∃ m : Nat, d1 = m := ⟨d1.toNat, (Int.toNat_of_nonneg d10).symm⟩
    obtain ⟨Nl, Ns⟩ := st3.ne nN
    have st4 := st3.put (o := .lst [.int m0, .int m1]) Nl Ns
    have sx4 : SameX l H (upd H3 N (.lst [.int m0, .int m1])) := (((SameX.of s1).trans sx2).trans sx3).put nN
    have hNn : H N = none := sameX_none (((SameX.of s1).trans sx2).trans sx3) Nl nN
    have hN4 : (upd H3 N (.lst [.int m0, .int m1])) N = some (.lst [.int m0, .int m1]) := upd_same
    generalize upd H3 N (.lst [.int m0, .int m1]) = H4 at st4 sx4 hN4 ⊢
    clear sx2 st2 sx3 st3 s1 st1 nN
    rw [show L2.start NLw [V.ref a] = [some (.ref a), none, none, none, none, none, none, none, none, none, none, none, none, none, none] from rfl]
    dsimp only [gName]
    simp only [List.set_cons_succ, List.set_cons_zero]
    refine seq_if (C := fun σ G => ∃ n0 n1 : Nat, σ = [some (.ref a), some (.ref l), some (.ref N), none, none, none, none, none, none, none, none, none, none, none, none] ∧ n0 < 5 ∧ n1 < 5 ∧ SameX l H G ∧ St G l ls ∧ G N = some (.lst [.int (n0 : Nat), .int (n1 : Nat)])) ?_ fun nxt hn => ?_
    case refine_2 =>
      refine ⟨_, rfl, l, ls, 3, rfl, by decide, sm9 (by decide), st4, fun d H5 e0 e1 sx5 st5 => ?_⟩
      have hN5 := sx5 _ _ Nl hN4
      have sxH := sx4.trans sx5
      refine ⟨_, _, rfl, rfl, _, rfl, ?_⟩
      refine ite2 (fun _ => ?_) (fun _ => ?_)
      · refine ⟨_, rfl, N, _, _, _, rfl, rfl, SqL.of hN5, at_of (j := 0) rfl rfl, _, rfl, N, _, _, 1, rfl, rfl, hN5, rfl, hn _ _ ⟨m0, m0, rfl, by omega, by omega, ?_, ?_, upd_same⟩⟩
        · exact fun b u nb e => by
            by_cases hb : b = N
            · rw [hb, hNn] at e
              cases e
            · rw [upd_ne hb]
              exact sxH b u nb e
        · exact st5.put Nl Ns
      · exact hn _ _ ⟨m0, m1, rfl, by omega, by omega, sxH, st5, hN5⟩
    rintro σ G ⟨n0, n1, rfl, b0, b1, sx, st, hN⟩
    clear st4 sx4 hN4 d00 d05 d10 d15
    -- kinds
    refine ⟨_, rfl, N, rfl, ⟨_, SqL.of hN⟩, fun D nD => ?_⟩
    obtain ⟨Dl, Ds⟩ := st.ne nD
    refine walk_it (walk_list (K := K) (a := N) (xs := [V.int (n0 : Nat), V.int (n1 : Nat)])) (fun i G1 => Same G G1 ∧ ∃ ts : List (Addr × Addr), G1 D = some (.lst (ts.map fun t => V.ref t.1)) ∧ ts.length = i ∧ ∀ (j : Nat) (t : Addr × Addr), ts[j]? = some t → ∃ m, [n0, n1][j]? = some m ∧ m < 5 ∧ KDI K PK G1 t.1 t.2 m ∧ Apt D G1 t.1 t.2) ⟨same_upd nD, [], upd_same, rfl, fun j t h => by cases h⟩ (fun i G1 _ ⟨sm, _⟩ => SqL.of (sm _ _ hN)) (fun i v G1 G2 hi ⟨sm, ts, hD, lt, it⟩ ⟨e, hx⟩ => ?_) (fun G1 ⟨sm, ts, hD, lt, it⟩ => ?_)
    · subst e
      have hi2 : i < 2 := hi
      obtain ⟨m, hm, m5, ev⟩ : ∃ m : Nat, [n0, n1][i]? = some m ∧ m < 5 ∧ v = .int (m : Nat) := by
        match i, hi2, hx with
        | 0, _, hx => exact ⟨n0, rfl, b0, (Option.some.inj hx).symm⟩
        | 1, _, hx => exact ⟨n1, rfl, b1, (Option.some.inj hx).symm⟩
      subst ev
      refine ⟨rfl, yes_go (iteT ⟨_, rfl, m, rfl, m5, fun T0 q0 G3 s3 kd kf => ?_⟩)⟩
      have s3 : Same G2 G3 := s3
      have hD3 := s3 _ _ hD
      have eD : (ts.map fun t => V.ref t.1) = (ts.map (·.1)).map V.ref := by rw [List.map_map]; rfl
      rw [eD] at hD3
      have nn : ∀ {b : Addr}, G2 b = none → D ≠ b := fun {b} h z => by rw [← z, hD] at h; cases h
      have ap : Apt D G3 T0 q0 := ⟨fun C dx fs ga e1 e2 => nn (kf.g C dx fs ga e1 e2), fun L x e => nn (kf.l L x e)⟩
      refine ⟨_, hD3, ?_, same_put (sm.trans s3) nD, ts ++ [(T0, q0)], ?_, ?_, ?_⟩
      · rw [List.length_map, List.length_map, lt]
        omega
      · rw [upd_same, List.map_append, ← eD]
        rfl
      · rw [List.length_append, lt]
        rfl
      · intro j t ht
        by_cases hj : j < ts.length
        · rw [List.getElem?_append_left hj] at ht
          obtain ⟨m', e1, e2, e3, e4⟩ := it j t ht
          obtain ⟨u1, u2⟩ := (e3.same s3).putD (o := .lst ((ts.map (·.1)).map V.ref ++ [V.ref T0])) e2 (e4.same e3 s3) hD3
          exact ⟨m', e1, e2, u1, u2⟩
        · rw [List.getElem?_append_right (by omega)] at ht
          have hj0 : j - ts.length = 0 := by
            have := (List.getElem?_eq_some_iff.mp ht).1
            simp at this
            omega
          rw [hj0] at ht
          cases ht
          obtain ⟨u1, u2⟩ := kd.putD (o := .lst ((ts.map (·.1)).map V.ref ++ [V.ref T0])) m5 ap hD3
          have ji : j = i := by omega
          rw [ji]
          exact ⟨m, hm, m5, u1, u2⟩
    obtain ⟨⟨T0, q0⟩, ⟨T1, q1⟩, rfl⟩ : ∃ t0 t1, ts = [t0, t1] := by
      match ts, lt with
      | [t0, t1], _ => exact ⟨t0, t1, rfl⟩
    obtain ⟨_, e0, _, kd0, _⟩ := it 0 _ rfl
    cases e0
    obtain ⟨_, e1, _, kd1, _⟩ := it 1 _ rfl
    cases e1
    have hD : G1 D = some (.lst [.ref T0, .ref T1]) := hD
    have kd0 : KDI K PK G1 T0 q0 n0 := kd0
    have kd1 : KDI K PK G1 T1 q1 n1 := kd1
    have st1 := st.same sm
    have hN1 := sm _ _ hN
    have sx1 : SameX l H G1 := sx.trans (SameX.of sm)
    clear it lt nD sm hN st sx
    dsimp only [gName]
    simp only [List.set_cons_succ, List.set_cons_zero]
    -- items
    refine ⟨_, rfl, _, rfl, D, _, _, _, rfl, rfl, SqL.of hD, at_of (j := 0) rfl rfl, l, ls, T0, q0, n0, "a", rfl, b0, kd0, st1, by decide +kernel, by decide +kernel, fun p0 ky0 G2 sx2 st2 it0 => ?_⟩
    have kd0 := kd0.sameL st1 sx2
    have kd1 := kd1.sameL st1 sx2
    have hD2 := sx2 _ _ Dl hD
    have hN2 := sx2 _ _ Nl hN1
    have sx2 := sx1.trans sx2
    refine ⟨_, rfl, _, rfl, D, _, _, _, rfl, rfl, SqL.of hD2, at_of (j := 1) rfl rfl, l, ls, T1, q1, n1, "b", rfl, b1, kd1, st2, by decide +kernel, by decide +kernel, fun p1 ky1 G3 sx3 st3 it1 => ?_⟩
    have kd0 := kd0.sameL st2 sx3
    have kd1 := kd1.sameL st2 sx3
    have it0 := it0.sameL st2 sx3
    have hD3 := sx3 _ _ Dl hD2
    have hN3 := sx3 _ _ Nl hN2
    have sx3 := sx2.trans sx3
    have s3 : Same H G3 := fun b u e => sx3 b u (ne_of_none e nl) e
    clear sx2 sx1 st1 hD hD2 hN1 hN2 st2 st3
    refine ⟨by show 2 ≤ sizeLine; omega, fun I nI => ?_⟩
    have sI := same_upd (o := .lst [.ref p0, .ref p1]) nI
    have hI : (upd G3 I (.lst [.ref p0, .ref p1])) I = some (.lst [.ref p0, .ref p1]) := upd_same
    have kd0 := kd0.same sI
    have kd1 := kd1.same sI
    have it0 := it0.same sI
    have it1 := it1.same sI
    have hD := sI _ _ hD3
    have hN := sI _ _ hN3
    have sH := s3.trans sI
    generalize upd G3 I (.lst [.ref p0, .ref p1]) = G at kd0 kd1 it0 it1 hD hN hI sH ⊢
    clear sx3 s3 sI nI hD3 hN3
    dsimp only [gName]
    simp only [List.set_cons_succ, List.set_cons_zero]
    obtain ⟨dq0, L0, rs0, hT0, pk0, li0⟩ := id kd0.ex
    obtain ⟨dq1, L1, rs1, hT1, pk1, li1⟩ := id kd1.ex
    have ol0 : (pinO (kps n0) (kgs n0)).length ≤ 1000 := Nat.le_trans (ors_len n0 b0) (by decide)
    have ol1 : (pinO (kps n1) (kgs n1)).length ≤ 1000 := Nat.le_trans (ors_len n1 b1) (by decide)
    have e00 : PyData.eqv (.list []) (.list []) = true := by decide +kernel
    have shp0 : SeqAt.shaped (.list []) = true := by decide +kernel
    by_cases hne : n0 = n1
    case neg =>
      refine ⟨_, rfl, I, _, _, _, rfl, rfl, SqL.of hI, at_of (j := 0) rfl rfl, _, rfl, I, _, _, _, rfl, rfl, SqL.of hI, at_of (j := 1) rfl rfl, p0, p1, q0, q1, dq0, kx n0, kps n0, kgs n0, shN n1, ky0, ky1, rfl, it0, it1, pk0, ol0, .inl ⟨sh_ne n0 b0 n1 b1 hne, fun Dt G1 s1 hDt => ?_⟩⟩
      have s1 : Same G G1 := s1
      obtain ⟨dx0, fs0, _, _, f1, _, _, _, _, _, f7⟩ := (it0.same s1).ex
      obtain ⟨dx1, fs1, _, _, g1, _, _, _, _, _, g7⟩ := (it1.same s1).ex
      refine ⟨_, rfl, I, _, _, _, rfl, rfl, SqL.of (s1 _ _ hI), at_of (j := 0) rfl rfl, p0, CI, dx0, fs0, _, rfl, f1, U.cl, U.n11, f7, _, rfl, I, _, _, _, rfl, rfl, SqL.of (s1 _ _ hI), at_of (j := 1) rfl rfl, p1, CI, dx1, fs1, _, rfl, g1, U.cl, U.n11, g7, (by show 2 ≤ sizeLine; omega), fun Ky nKy => ?_⟩
      have s2 := s1.trans (same_upd (o := .lst [.str ky0, .str ky1]) nKy)
      have hDt2 := same_upd (o := .lst [.str ky0, .str ky1]) nKy _ _ hDt
      generalize upd G1 Ky (.lst [.str ky0, .str ky1]) = G2 at s2 hDt2 ⊢
      refine ⟨_, rfl, N, _, _, _, rfl, rfl, SqL.of (s2 _ _ hN), at_of (j := 0) rfl rfl, _, rfl, N, _, _, _, rfl, rfl, SqL.of (s2 _ _ hN), at_of (j := 1) rfl rfl, rfl, _, rfl, if_pos' ?_ ?_⟩
      · rw [decide_eq_false fun z => hne (by have := V.int.inj z; omega)]
        rfl
      refine ⟨_, rfl, (by show 0 ≤ sizeLine; omega), fun e ne => ⟨.list [], .list [], .lst (SqL.of (same_upd ne _ _ hDt2)) .nil, .lst (SqL.of upd_same) .nil, shp0, shp0, _, rfl, if_pos' e00 ?_⟩⟩
      have s3 := s2.trans (same_upd (o := .lst []) ne)
      refine ⟨_, rfl, I, _, _, _, rfl, rfl, SqL.of (s3 _ _ hI), at_of (j := 1) rfl rfl, _, rfl, I, _, _, _, rfl, rfl, SqL.of (s3 _ _ hI), at_of (j := 0) rfl rfl, p1, p0, q1, q0, dq1, kx n1, kps n1, kgs n1, shN n0, ky1, ky0, rfl, it1.same s3, it0.same s3, pk1.same s3, ol1, .inl ⟨sh_ne n1 b1 n0 b0 (fun z => hne z.symm), fun D2 G3 s4 hD2 => ?_⟩⟩
      refine ⟨(by show 0 ≤ sizeLine; omega), fun e2 ne2 => ⟨.list [], .list [], .lst (SqL.of (same_upd ne2 _ _ hD2)) .nil, .lst (SqL.of upd_same) .nil, shp0, shp0, ?_⟩⟩
      rw [e00]
      exact fin _ (sH.trans (s3.trans (Same.trans s4 (same_upd ne2))))
    subst hne
    refine ⟨_, rfl, I, _, _, _, rfl, rfl, SqL.of hI, at_of (j := 0) rfl rfl, _, rfl, I, _, _, _, rfl, rfl, SqL.of hI, at_of (j := 1) rfl rfl, p0, p1, q0, q1, dq0, kx n0, kps n0, kgs n0, shN n0, ky0, ky1, rfl, it0, it1, pk0, ol0, .inr ⟨rfl, fun Dt G1 s1 nDt way => ?_⟩⟩
    have s1 : Same G G1 := s1
    have nDt : G Dt = none := nDt
    obtain ⟨dx0, fs0, _, _, f1, _, _, _, _, _, f7⟩ := (it0.same s1).ex
    obtain ⟨dx1, fs1, _, _, g1, _, _, _, _, _, g7⟩ := (it1.same s1).ex
    refine ⟨_, rfl, I, _, _, _, rfl, rfl, SqL.of (s1 _ _ hI), at_of (j := 0) rfl rfl, p0, CI, dx0, fs0, _, rfl, f1, U.cl, U.n11, f7, _, rfl, I, _, _, _, rfl, rfl, SqL.of (s1 _ _ hI), at_of (j := 1) rfl rfl, p1, CI, dx1, fs1, _, rfl, g1, U.cl, U.n11, g7, (by show 2 ≤ sizeLine; omega), fun Ky nKy => ?_⟩
    have sk := same_upd (o := .lst [.str ky0, .str ky1]) nKy
    have s2 := s1.trans sk
    have hKy : (upd G1 Ky (.lst [.str ky0, .str ky1])) Ky = some (.lst [.str ky0, .str ky1]) := upd_same
    have nKD : Ky ≠ Dt := fun z => by
      obtain ⟨ts, h1, _⟩ := way
      rw [z, h1] at nKy
      cases nKy
    have way := way.same sk
    generalize upd G1 Ky (.lst [.str ky0, .str ky1]) = G2 at s2 hKy way ⊢
    clear sk s1 f1 f7 g1 g7 nKy
    refine ⟨_, rfl, N, _, _, _, rfl, rfl, SqL.of (s2 _ _ hN), at_of (j := 0) rfl rfl, _, rfl, N, _, _, _, rfl, rfl, SqL.of (s2 _ _ hN), at_of (j := 1) rfl rfl, rfl, _, rfl, if_neg' (by rw [decide_eq_true rfl]; rfl) ?_⟩
    -- due
    have k5 := (kps_len n0 b0).2
    refine ⟨_, rfl, D, _, _, _, rfl, rfl, SqL.of (s2 _ _ hD), at_of (j := 0) rfl rfl, T0, _, _, _, rfl, rfl, SqT.of (s2 _ _ hT0), at_of (j := 2) rfl rfl, (kps n0).length, rfl, k5, fun Lo os_ G3 s3 lo => ?_⟩
    have s3 : Same G2 G3 := s3
    have s23 := s2.trans s3
    refine ⟨Lo, rfl, ⟨_, SqL.of lo.at_⟩, fun Du nDu => ?_⟩
    have oll := all_len (kps n0).length (by omega)
    have odue := due_eq n0 b0
    have ob : (ordersT (allC (kps n0).length)).length ≤ 46656 := by
      have h6 : ∀ c ∈ allC (kps n0).length, c.length ≤ 6 := fun c hc => by
        rw [List.eq_of_mem_replicate hc, upL_len]
        omega
      have h7 := orders_len h6 (kps n0).length
      rw [List.take_of_length_le (by unfold allC; rw [List.length_replicate]; exact Nat.le_refl _)] at h7
      exact Nat.le_trans h7 (Nat.le_trans (Nat.pow_le_pow_right (by decide) (show (kps n0).length ≤ 6 by omega)) (by decide))
    generalize ordersT (allC (kps n0).length) = os at lo oll odue ob
    refine walk_it (walk_list (K := K) (a := Lo) (xs := os_.map V.ref)) (fun i G4 => Same G3 G4 ∧ WayL G4 Du ((os.take i).filter (keptB (kgi n0)))) ⟨same_upd nDu, [], upd_same, rfl, fun i t h => by cases h⟩ (fun i G4 _ ⟨s4, _⟩ => SqL.of (s4 _ _ lo.at_)) (fun i v G4 G5 hi ⟨s4, wy⟩ ⟨e, hx⟩ => ?_) (fun G4 ⟨s4, wy⟩ => ?_)
    · subst e
      obtain ⟨q', hq', rfl⟩ := map_some hx
      obtain ⟨o, ho, hqo⟩ := lo.it i q' hq'
      have s24 := s23.trans s4
      refine ⟨rfl, _, rfl, D, _, _, _, rfl, rfl, SqL.of (s24 _ _ hD), at_of (j := 0) rfl rfl, _, rfl, T0, q0, n0, q', o, rfl, b0, kd0.same s24, s4 _ _ hqo, oll o (List.mem_of_getElem? ho), fun G6 s6 => ⟨_, rfl, ?_⟩⟩
      have s6 : Same G5 G6 := s6
      have wy6 := wy.same s6
      have ft : (os.take (i + 1)).filter (keptB (kgi n0)) = (os.take i).filter (keptB (kgi n0)) ++ (if keptB (kgi n0) o = true then [o] else []) := by
        rw [take_succ_at ho, List.filter_append]
        congr 1
        cases hk : keptB (kgi n0) o <;> simp [List.filter_cons, hk]
      rw [ft]
      cases hk : keptB (kgi n0) o with
      | false => exact iteF ⟨s4.trans s6, by simpa using wy6⟩
      | true =>
        obtain ⟨ts, w1, w2, w3⟩ := id wy6
        have hq6 := s6 _ _ (s4 _ _ hqo)
        refine iteT ⟨_, rfl, .inl ⟨q', _, rfl, SqL.of hq6, fun t nt => ⟨(by show 1 ≤ sizeLine; omega), fun Z nZ => ⟨(by show 2 ≤ sizeLine; omega), fun W nW => ?_⟩⟩⟩⟩
        have a1 := same_upd (o := .tup (o.map V.int)) nt
        have e1 : (upd G6 t (.tup (o.map V.int))) t = some (.tup (o.map V.int)) := upd_same
        generalize upd G6 t (.tup (o.map V.int)) = J1 at a1 e1 nZ nW ⊢
        have a2 := same_upd (o := .tup [.int 0]) nZ
        have e2 : (upd J1 Z (.tup [.int 0])) Z = some (.tup [.int 0]) := upd_same
        generalize upd J1 Z (.tup [.int 0]) = J2 at a2 e2 nW ⊢
        have a3 := same_upd (o := .tup [.ref t, .ref Z]) nW
        have e3 : (upd J2 W (.tup [.ref t, .ref Z])) W = some (.tup [.ref t, .ref Z]) := upd_same
        generalize upd J2 W (.tup [.ref t, .ref Z]) = J3 at a3 e3 ⊢
        have a13 := a1.trans (a2.trans a3)
        refine ⟨_, a13 _ _ w1, ?_, same_put (s4.trans (s6.trans a13)) nDu, ?_⟩
        · rw [List.length_map, w2]
          have h1 := List.length_filter_le (keptB (kgi n0)) (os.take i)
          rw [List.length_take] at h1
          have : 46657 ≤ sizeLine := by decide
          omega
        · exact WayL.put (a13 _ _ w1) w2 (fun i u hu => let ⟨o', h1, h2, h3, h4⟩ := w3 i u hu; ⟨o', h1, a13 _ _ h2, a13 _ _ h3, a13 _ _ h4⟩) e3 (a3 _ _ (a2 _ _ e1)) (a3 _ _ e2)
    rw [List.length_map, lo.len, List.take_length, odue] at wy
    have s34 := s23.trans s4
    have way4 := way.same (s3.trans s4)
    have hKy4 := s4 _ _ (s3 _ _ hKy)
    obtain ⟨ts, w1, w2, w3⟩ := id way4
    have nDD : Du ≠ Dt := fun z => by
      rw [z] at nDu
      obtain ⟨ts', h1, _⟩ := way.same s3
      rw [h1] at nDu
      cases nDu
    clear way hKy lo oll ob odue s2
    dsimp only [gName]
    simp only [List.set_cons_succ, List.set_cons_zero]
    refine ⟨_, rfl, _, _, _, _, _, rfl, .ty _, .base (.lst w1), kit_ty (r := true) (by decide +kernel), _, rfl, if_neg' rfl ?_⟩
    refine ⟨_, rfl, _, rfl, dWs (orsT n0), dWs (orsT n0), way_dp way4, way_dp wy, (ly_Ws _).shp (by decide), (ly_Ws _).shp (by decide), _, rfl, if_neg' (ly_Ws _).ne ?_⟩
    refine ⟨_, rfl, Dt, rfl, ⟨_, SqL.of w1⟩, fun B nB => ?_⟩
    refine walk_it (walk_list (K := K) (a := Dt) (xs := ts.map fun t => V.ref t.1)) (fun i G5 => Same G4 G5 ∧ G5 B = some (.lst ((List.replicate i true).map V.bl))) ⟨same_upd nB, upd_same⟩ (fun i G5 _ ⟨s5, _⟩ => SqL.of (s5 _ _ w1)) (fun i v G5 G6 hi ⟨s5, hB⟩ ⟨e, hx⟩ => ?_) (fun G5 ⟨s5, hB⟩ => ?_)
    · subst e
      obtain ⟨t, ht, rfl⟩ := map_some hx
      obtain ⟨o, h1, h2, h3, h4⟩ := w3 i t ht
      refine ⟨rfl, yes_go (iteT ⟨_, rfl, _, _, _, _, _, rfl, .ty _, .base (.tup (s5 _ _ h2)), kit_ty (r := true) (by decide +kernel), _, hB, ?_, same_put s5 nB, ?_⟩)⟩
      · rw [List.length_map, List.length_replicate]
        rw [List.length_map, w2] at hi
        have := ors_len n0 b0
        omega
      · rw [upd_same, List.replicate_succ', List.map_append]
        rfl
    refine ⟨B, _, rfl, SqL.of hB, _, rfl, if_neg' ?_ ?_⟩
    · rw [show (List.replicate (ts.map fun t => V.ref t.1).length true).all id = true from List.all_eq_true.mpr fun b hb => List.eq_of_mem_replicate hb]
      rfl
    have s35 := s34.trans s5
    -- labels
    refine ⟨_, rfl, D, _, _, _, rfl, rfl, SqL.of (s35 _ _ hD), at_of (j := 0) rfl rfl, T0, _, _, _, rfl, rfl, SqT.of (s35 _ _ hT0), at_of (j := 2) rfl rfl, (kps n0).length, rfl, by omega, by omega, fun La nLa => ?_⟩
    have en : ((kps n0).length : Int).toNat = (kps n0).length := Int.toNat_natCast _
    refine walk_it walk_range (fun j G6 => Same G5 G6 ∧ G6 La = some (.lst (((List.range j).map fun (i : Nat) => labT (i : Int)).map V.str))) ⟨same_upd nLa, upd_same⟩ (fun _ _ _ _ => trivial) (fun j v G6 G7 hj ⟨s6, hLa⟩ ⟨e, hx⟩ => ?_) (fun G6 ⟨s6, hLa⟩ => ?_)
    · subst e hx
      rw [en] at hj
      have pe : R50r.Pr ((0 : Int) + (j : Nat)) := by
        have : ∀ j : Nat, j < 5 → R50r.Pr ((0 : Int) + (j : Nat)) := by unfold R50r.Pr; decide +kernel
        exact this j (by omega)
      have lj := labs_ok n0 b0 j (by omega)
      refine ⟨rfl, yes_go (iteT ⟨("m" : Str), rfl, ?_, _, rfl, .inr ⟨_, rfl, pe, _, rfl, ?_, ?_⟩⟩)⟩
      · rw [R50r.app_len, R50r.len0]
        exact Nat.le_trans (by decide +kernel : 0 + (Str.ofString "m").length ≤ 1000) two
      · try dsimp only
        rw [Int.zero_add]
        show (labT (j : Nat)).length ≤ sizeLine
        omega
      · refine ⟨_, hLa, ?_, same_put s6 nLa, ?_⟩
        · rw [List.length_map, List.length_map, List.length_range]
          omega
        · rw [upd_same, List.range_succ, List.map_append, List.map_append]
          try dsimp only
          rw [Int.zero_add]
          rfl
    rw [en] at hLa
    have hLa : G6 La = some (.lst ((labs n0).map V.str)) := hLa
    have s36 := s35.trans s6
    have s46 := s5.trans s6
    have w16 := s46 _ _ w1
    dsimp only [gName]
    simp only [List.set_cons_succ, List.set_cons_zero]
    refine ⟨_, rfl, Dt, rfl, ⟨_, SqL.of w16⟩, for_list (K := K) (a := Dt) (xs := ts.map fun t => V.ref t.1) (fun j σ G7 => (∃ v8 v9 v11 v12, σ = [some (.ref a), some (.ref l), some (.ref N), some (.ref D), some (.ref I), some (.ref Dt), some (.ref Ky), some (.ref Du), v8, v9, some (.ref La), v11, v12, none, none]) ∧ Same G6 G7) ⟨⟨_, _, _, _, rfl⟩, Same.refl _⟩ (fun j σ G7 _ ⟨_, s7⟩ => SqL.of (s7 _ _ w16)) ?_ ?_⟩
    · rintro j x σ G7 hx ⟨⟨v8, v9, v11, v12, rfl⟩, s7⟩
      obtain ⟨t, ht, rfl⟩ := map_some hx
      obtain ⟨o, h1, h2, h3, h4⟩ := w3 j t ht
      have oo : o ∈ orsT n0 := List.mem_of_getElem? h1
      obtain ⟨lo, io⟩ := ors_in n0 b0 o oo
      have s47 := s46.trans s7
      have s37 := s36.trans s7
      have h2 := s47 _ _ h2
      have h3 := s47 _ _ h3
      dsimp only [gName]
      simp only [List.set_cons_succ, List.set_cons_zero]
      refine ⟨_, rfl, La, _, rfl, .inl (SqL.of (s7 _ _ hLa)), fun Pl nPl => ?_⟩
      have sp := same_upd (o := .lst ((labs n0).map V.str)) nPl
      have hPl : (upd G7 Pl (.lst ((labs n0).map V.str))) Pl = some (.lst ((labs n0).map V.str)) := upd_same
      generalize upd G7 Pl (.lst ((labs n0).map V.str)) = G8 at sp hPl ⊢
      dsimp only [gName]
      simp only [List.set_cons_succ, List.set_cons_zero]
      refine ⟨_, rfl, t.1, _, _, _, rfl, rfl, SqT.of (sp _ _ h2), at_of (j := 0) rfl rfl, t.2.1, _, rfl, SqT.of (sp _ _ h3), for_it (walk_enumT (K := K) (a := t.2.1) (xs := o.map V.int)) (fun i σ G9 => (∃ v9 v12, σ = [some (.ref a), some (.ref l), some (.ref N), some (.ref D), some (.ref I), some (.ref Dt), some (.ref Ky), some (.ref Du), some (.ref t.1), v9, some (.ref La), some (.ref Pl), v12, none, none]) ∧ Same G7 G9 ∧ G9 Pl = some (.lst ((putG (labs n0) o (labs n0) i).map V.str))) ⟨⟨_, _, rfl⟩, sp, hPl⟩ (fun i σ G9 _ ⟨_, s9, _⟩ => SqT.of (s9 _ _ h3)) (fun i v σ G9 GA hi ⟨⟨v9, v12, eσ⟩, s9, hP⟩ ⟨W, x, y, ev, nW, eG, hx, hy⟩ => ?_) (fun σ G9 ⟨⟨v9, v12, eσ⟩, s9, hP⟩ => ?_)⟩
      · subst eσ ev eG
        cases hx
        obtain ⟨z, hz, rfl⟩ := map_some hy
        obtain ⟨z0, z1⟩ := io z (List.mem_of_getElem? hz)
        rw [List.length_map, lo] at hi
        have sw := same_upd (o := .tup [.int (i : Nat), .int z]) nW
        have la := labs_at hi
        have aL : atI ((labs n0).map V.str) ((i : Nat) : Int) = some (.str ((labs n0).getD i Str.empty)) := by
          refine at_of rfl ?_
          rw [List.getElem?_map, la, List.getD_eq_getElem?_getD, la]
          rfl
        refine ⟨W, _, rfl, SqT.of upd_same, rfl, _, _, rfl, _, _, rfl, rfl, ?_⟩
        refine ⟨_, rfl, _, rfl, La, _, _, _, rfl, rfl, SqL.of (sw _ _ (s9 _ _ (s7 _ _ hLa))), aL, _, rfl, _, rfl, Pl, _, _, z.toNat, rfl, rfl, sw _ _ hP, ?_, ⟨_, _, rfl⟩, same_put (s9.trans sw) nPl, ?_⟩
        · unfold ixN
          rw [List.length_map, putG_len, labs_len, if_pos z0, if_pos z1]
        · rw [upd_same]
          show some (HO.lst (((putG (labs n0) o (labs n0) i).map V.str).set z.toNat (V.str ((labs n0).getD i Str.empty)))) = some (HO.lst (((putG (labs n0) o (labs n0) i).set (o.getD i 0).toNat ((labs n0).getD i Str.empty)).map V.str))
          rw [List.map_set, List.getD_eq_getElem?_getD (l := o), hz]
          rfl
      · subst eσ
        rw [List.length_map] at hP
        have s39 := s37.trans s9
        refine ⟨_, rfl, D, _, _, _, rfl, rfl, SqL.of (s39 _ _ hD), at_of (j := 0) rfl rfl, _, rfl, T0, q0, n0, La, labs n0, rfl, b0, kd0.same s39, s9 _ _ (s7 _ _ hLa), labs_len n0, fun r1 GB sb hr1 => ?_⟩
        have sb : Same G9 GB := sb
        have s3b := s39.trans sb
        refine ⟨_, rfl, D, _, _, _, rfl, rfl, SqL.of (s3b _ _ hD), at_of (j := 0) rfl rfl, _, rfl, T0, q0, n0, Pl, putG (labs n0) o (labs n0) o.length, rfl, b0, kd0.same s3b, sb _ _ hP, (putG_len ..).trans (labs_len n0), fun r2 GC sc hr2 => ?_⟩
        have sc : Same GB GC := sc
        rw [← can_eq b0 oo] at hr2
        have lyc := ly_Ss (can_ok b0 oo)
        refine ⟨dSs (canF (kgi n0) (labs n0)), dSs (canF (kgi n0) (labs n0)), .lst (SqL.of (sc _ _ hr1)) (dp_strs _), .lst (SqL.of hr2) (dp_strs _), lyc.shp (by decide), lyc.shp (by decide), _, rfl, if_neg' lyc.ne ⟨⟨_, _, _, _, rfl⟩, (s7.trans s9).trans (sb.trans sc)⟩⟩
    · rintro σ G7 ⟨⟨v8, v9, v11, v12, rfl⟩, s7⟩
      have s47 := s46.trans s7
      have s37 := s36.trans s7
      have hDt := s47 _ _ w1
      have hKy7 := s47 _ _ hKy4
      have hDu7 := wy.same s47
      refine ⟨_, rfl, .inl ⟨rfl, _, SqL.of hDt⟩, Dt, _, rfl, rfl, hDt, ?_⟩
      have sGX : Same G (upd G7 Dt (.lst [])) := fun b u e => by
        rw [upd_ne (fun z => by rw [z, nDt] at e; cases e)]
        exact s37 b u e
      have hKyX : (upd G7 Dt (.lst [])) Ky = some (.lst [.str ky0, .str ky1]) := by rw [upd_ne nKD]; exact hKy7
      have hDuX := hDu7.off (o := .lst []) nDD hDt
      generalize upd G7 Dt (.lst []) = GX at sGX hKyX hDuX ⊢
      refine ⟨_, rfl, I, _, _, _, rfl, rfl, SqL.of (sGX _ _ hI), at_of (j := 0) rfl rfl, _, rfl, I, _, _, _, rfl, rfl, SqL.of (sGX _ _ hI), at_of (j := 1) rfl rfl, p0, p1, q0, q1, dq0, kx n0, kps n0, kgs n0, shN n0, ky0, ky1, rfl, it0.same sGX, it1.same sGX, pk0.same sGX, ol0, .inr ⟨rfl, fun D2 GY sy _ wy2 => ?_⟩⟩
      have sy : Same GX GY := sy
      have sGY := sGX.trans sy
      refine ⟨_, rfl, dWs (orsT n0), dWs (orsT n0), way_dp wy2, way_dp (hDuX.same sy), (ly_Ws _).shp (by decide), (ly_Ws _).shp (by decide), _, rfl, if_pos' (ly_Ws _).eq ?_⟩
      obtain ⟨dx0, fs0, _, _, f1, _, _, _, _, _, f7⟩ := (it0.same sGY).ex
      obtain ⟨dx1, fs1, _, _, g1, _, _, _, _, _, g7⟩ := (it1.same sGY).ex
      refine ⟨_, rfl, I, _, _, _, rfl, rfl, SqL.of (sGY _ _ hI), at_of (j := 0) rfl rfl, p0, CI, dx0, fs0, _, rfl, f1, U.cl, U.n11, f7, _, rfl, I, _, _, _, rfl, rfl, SqL.of (sGY _ _ hI), at_of (j := 1) rfl rfl, p1, CI, dx1, fs1, _, rfl, g1, U.cl, U.n11, g7, (by show 2 ≤ sizeLine; omega), fun E nE => ?_⟩
      have sE := same_upd (o := .lst [.str ky0, .str ky1]) nE
      have fin2 := fin _ (sH.trans (sGY.trans sE))
      refine ⟨_, rfl, 1, by decide, .inl ⟨E, Ky, _, _, rfl, rfl, SqL.of upd_same, SqL.of (sE _ _ (sy _ _ hKyX)), ?_⟩, fin2⟩
      exact .cons (.inl ⟨rfl, rfl⟩) (.cons (.inl ⟨rfl, rfl⟩) .nil)
end
end R50
end

-- Y599
section
set_option Elab.async false
set_option linter.all false
set_option maxRecDepth 100000
set_option maxHeartbeats 0
namespace R50
open PySem PySem.Spec PyProof.Rows L2 He HdB HdS OwnOps SupX OwnNe G1 StX GenFor GenE
section
variable {P : Program} {w : World} {K : PySem.W.Frag} {mg : Str → Option Value} {base : Heap} {CX : CXT} {k : Nat} {f : Addr} {fd : FuncData} {ps : List Str} {sp : Sp}
theorem fnR_of (F : FnOk P w K mg base CX k f fd ps sp) (hb : L2.Binds K fd ps []) : FnR P w K mg base CX k f sp := fun A outer s H us vs Q E hr e0 r hs => by
  have KX : K.In s.heap := e0.mod.kin.keeps fun b o e => (e0.bs b o e).1
  have len : (us ++ []).length = ps.length := by
    rw [List.append_nil]
    exact r.length.symm.trans (F.len _ _ _ _ hs)
  have b := hb s us KX len
  rw [List.append_nil] at b
  exact F.run A outer s H ⟨us, []⟩ us vs Q E hr e0 b r hs
theorem KB.kc {C DK tp f gK : Addr} (b : KB K C DK tp f gK) : KCls K C := ⟨⟨b.pg, b.hd, b.po, b.sa⟩, b.n1, b.n2, b.n3, b.n4, b.n5, b.n6, b.n7, b.n8⟩
theorem KB.mk_ {C DK tp f gK : Addr} (b : KB K C DK tp f gK) : Mk K C f := ⟨b.mks, b.ini, b.fi, b.kp⟩
theorem IB.ic {C f : Addr} (b : IB K C f) : ItC K C := ⟨⟨b.pg, b.hd, b.po, b.sa⟩, b.n1, b.n2, b.n3, b.n4, b.n5, b.n6, b.n7, b.n8, b.n9, b.n10, b.n11⟩
theorem IB.mk_ {C f : Addr} (b : IB K C f) : Mk K C f := ⟨b.mks, b.ini, b.fi, b.kp⟩
theorem glbD {x : Str} {st : Stmt} {h : Heap} (X : K.In h) (G : h.Ns mainGlobals mg) (e : PySem.W.nsIn K mainGlobals x = some (some (.ref f))) (F : ∃ fd, Fun K x x st f fd) (ok : ∀ fd, Fun K x x st f fd → FnOk P w K mg base (L2.CX P w) k f fd ps sp)
    (b : ∀ fd, Fun K x x st f fd → L2.Binds K fd ps []) : Glb P w K mg base x k ps sp :=
  let ⟨fd, F⟩ := F
  ⟨f, fd, PySem.W.mg_of X G e, F.kp, ok fd F, b fd F⟩
theorem empty_tup {a : Addr} (h : (match K.lookup a with | some ⟨.type "tuple", _, .seq its _, _⟩ => its.size == 0 | _ => false) = true) (H : Hp) : SqT K H a [] := by
  cases q : K.lookup a with
  | none => rw [q] at h; cases h
  | some ob =>
    obtain ⟨cl, dd, dt, sl⟩ := ob
    rw [q] at h
    split at h
    · rename_i its n sl2 e
      cases e
      have hz : its.size = 0 := beq_iff_eq.mp h
      have he : its = #[] := Array.eq_empty_of_size_eq_zero hz
      subst he
      exact .inr ⟨_, #[], _, q, rfl, rfl, Nat.zero_le _, .nil⟩
    · cases h
end
set_option maxHeartbeats 0 in
theorem ends {w : World} {K : PySem.W.Frag} {h : Heap} {mg : Str → Option Value} {fa : Addr} (X : K.In h) (G : h.Ns mainGlobals mg) (hfa : mg "law" = some (.ref fa)) (c : SaysS ck fn sn pn K) :
    ∃ fd : FuncData, (∀ (s : Shared) (v : Value), BindsTo s fd ⟨[v], []⟩ [("_law_script", v)]) ∧ ∀ base : Heap, K.In base → base.Ns mainGlobals mg → FnGd.FnG (PySem.Challenge.rw_wishedwires_k50_ways_of_singles).prog w K mg base (L2.CX (PySem.Challenge.rw_wishedwires_k50_ways_of_singles).prog w) 9 fa fd ["_law_script"] (spLaw K) := by
  have e := hfa.symm.trans (PySem.W.mg_of X G (c.b.isP 64 (p := Fc64)))
  cases e
  obtain ⟨fdL, FL⟩ : ∃ fd, Fun K "law" "law" sLaw (gaX K "law") fd := funOf (c.b.def_ 19)
  refine ⟨fdL, fun s v => ?_, fun base KX KG => ?_⟩
  · obtain ⟨oc, od, kV, doc, pm, an, cdv, ct, osl, rfl, _, _⟩ := FL.ex
    exact .of_eq rfl
  have T : Bi mg := { isi := PySem.W.mg_none_of KX KG (c.b.isP 65 (p := Fc65)), int := PySem.W.mg_none_of KX KG (c.b.isP 66 (p := Fc66)), str := PySem.W.mg_none_of KX KG (c.b.isP 67 (p := Fc67)), len := PySem.W.mg_none_of KX KG (c.b.isP 68 (p := Fc68)), all := PySem.W.mg_none_of KX KG (c.b.isP 69 (p := Fc69)), set := PySem.W.mg_none_of KX KG (c.b.isP 70 (p := Fc70)), tuple := PySem.W.mg_none_of KX KG (c.b.isP 71 (p := Fc71)), list := PySem.W.mg_none_of KX KG (c.b.isP 72 (p := Fc72)), dict := PySem.W.mg_none_of KX KG (c.b.isP 73 (p := Fc73)), min := PySem.W.mg_none_of KX KG (c.b.isP 74 (p := Fc74)), max := PySem.W.mg_none_of KX KG (c.b.isP 75 (p := Fc75)), range := PySem.W.mg_none_of KX KG (c.b.isP 76 (p := Fc76)), enum := PySem.W.mg_none_of KX KG (c.b.isP 77 (p := Fc77)), zip := PySem.W.mg_none_of KX KG (c.b.isP 78 (p := Fc78)), sorted := PySem.W.mg_none_of KX KG (c.b.isP 79 (p := Fc79)), sup := PySem.W.mg_none_of KX KG (c.b.isP 80 (p := Fc80)) }
  have T3 : Nms mg := { len := PySem.W.mg_none_of KX KG (c.b.isP 68 (p := Fc68)), range := PySem.W.mg_none_of KX KG (c.b.isP 76 (p := Fc76)), list := PySem.W.mg_none_of KX KG (c.b.isP 72 (p := Fc72)), all := PySem.W.mg_none_of KX KG (c.b.isP 69 (p := Fc69)) }
  have Nm : Nums mg := ⟨int_ok KX KG (c.b.isP 23 (p := Fc23)), int_ok KX KG (c.b.isP 24 (p := Fc24)), int_ok KX KG (c.b.isP 25 (p := Fc25))⟩
  have Nm2 : Nums2 mg := ⟨int_ok KX KG (c.b.isP 26 (p := Fc26))⟩
  have eK := ErrB.txt (c.b.isP 40 (p := Fc40)) (c.b.def_ 26) mg (PySem.W.mg_of KX KG (c.b.isP 40 (p := Fc40)).here)
  have eN := ErrB.txt (c.b.isP 41 (p := Fc41)) (c.b.def_ 27) mg (PySem.W.mg_of KX KG (c.b.isP 41 (p := Fc41)).here)
  have eV := ErrB.txt (c.b.isP 42 (p := Fc42)) (c.b.def_ 28) mg (PySem.W.mg_of KX KG (c.b.isP 42 (p := Fc42)).here)
  have eI := ErrB.txt (c.b.isP 43 (p := Fc43)) (c.b.def_ 29) mg (PySem.W.mg_of KX KG (c.b.isP 43 (p := Fc43)).here)
  have eZ := ErrB.txt (c.b.isP 44 (p := Fc44)) (c.b.def_ 30) mg (PySem.W.mg_of KX KG (c.b.isP 44 (p := Fc44)).here)
  have U : RTxt K mg 0 (gaX K "InvalidKind") _ := ⟨eK⟩
  have TR : R50r.Txt K mg (gaX K "Ratio") (gaX K "InvalidNumber") _ (gaX K "NoDivision") _ := { cl := (c.b.isP 29 (p := Fc29)), nT := (c.b.isP 30 (p := Fc30)), nB := (c.b.isP 31 (p := Fc31)), gC := (PySem.W.mg_of KX KG (c.b.isP 5 (p := Fc5))), eI := eI, eZ := eZ, ha := (c.b.isP 32 (p := Fc32)), hn := (c.b.isP 9 (p := Fc9)), htk := (c.b.isP 10 (p := Fc10)), hm := (c.b.isP 33 (p := Fc33)), kCC := (c.b.isP 36 (p := Fc36)), kCi := (c.b.isP 37 (p := Fc37)), kiC := (c.b.isP 35 (p := Fc35)) "int" (by simp), kbC := (c.b.isP 35 (p := Fc35)) "bool" (by simp), knC := (c.b.isP 35 (p := Fc35)) "NoneType" (by simp), ksC := (c.b.isP 35 (p := Fc35)) "str" (by simp), klC := (c.b.isP 35 (p := Fc35)) "list" (by simp), ktC := (c.b.isP 35 (p := Fc35)) "tuple" (by simp), isi := PySem.W.mg_none_of KX KG (c.b.isP 65 (p := Fc65)), int := PySem.W.mg_none_of KX KG (c.b.isP 66 (p := Fc66)), bool := PySem.W.mg_none_of KX KG (c.b.isP 81 (p := Fc81)), abs := PySem.W.mg_none_of KX KG (c.b.isP 82 (p := Fc82)), str := PySem.W.mg_none_of KX KG (c.b.isP 67 (p := Fc67)), repr := PySem.W.mg_none_of KX KG (c.b.isP 83 (p := Fc83)), gcd := (PySem.W.mg_of KX KG (c.b.isP 38 (p := Fc38))) }
  have GWh : Glb (PySem.Challenge.rw_wishedwires_k50_ways_of_singles).prog w K mg base "is_whole" 1 ["value"] (R50r.spWhole (gaX K "Ratio")) := glbD (st := top 16) KX KG (c.b.isP 45 (p := Fc45)) (funOf (c.b.def_ 0)) (fun fd F => R50r.ok_whole F TR) (fun fd F => F.binds (ps := ["value"]) fun _ _ _ _ _ _ us hl => match us, hl with | [_], _ => rfl)
  obtain ⟨fdRi, FRi⟩ : ∃ fd, R50r.InitD K (maX K "Ratio" "__init__") fd := (c.b.def_ 31)
  obtain ⟨rm1, rm2, rm3, rm4⟩ := (c.b.isP 34 (p := Fc34))
  have MR : R50r.Mak (PySem.Challenge.rw_wishedwires_k50_ways_of_singles).prog w K mg base (gaX K "Ratio") (gaX K "InvalidNumber") (gaX K "NoDivision") := by
    obtain ⟨fW, fdW, mW, kW, okW, bW⟩ := GWh.ex
    obtain ⟨ds3, v3, b3⟩ := FRi.binds1 (ps := ["self", "top", "bottom"]) 3 1 (by simp) rfl fun _ _ _ _ _ _ _ us its hu hi => match us, its, hu, hi with | [_, _, _], [_], _, _ => ⟨_, rfl, rfl⟩
    obtain ⟨ds2, v2, b2⟩ := FRi.binds1 (ps := ["self", "top", "bottom"]) 2 0 (by simp) rfl fun _ _ _ _ _ _ _ us its hu hi => match us, its, hu, hi with | [_, _], [_], _, _ => ⟨_, rfl, rfl⟩
    cases v3
    exact ⟨_, fdRi, ds2, ⟨rm1, rm3, rm4, rm2⟩, R50r.ok_init FRi TR okW mW kW bW, b3, v2, b2⟩
  have GV : Glb (PySem.Challenge.rw_wishedwires_k50_ways_of_singles).prog w K mg base "value_of" 5 ["value"] (R50r.spVal (gaX K "Ratio") (gaX K "NotPositive")) := glbD (st := top 23) KX KG (c.b.isP 50 (p := Fc50)) (funOf (c.b.def_ 5)) (fun fd F => R50r.ok_val F TR MR eV GWh) (fun fd F => F.binds (ps := ["value"]) fun _ _ _ _ _ _ us hl => match us, hl with | [_], _ => rfl)
  have GW : Glb (PySem.Challenge.rw_wishedwires_k50_ways_of_singles).prog w K mg base "is_word" 1 ["value"] (spWord) := glbD (st := top 17) KX KG (c.b.isP 46 (p := Fc46)) (funOf (c.b.def_ 1)) (fun fd F => ok_word F T Nm) (fun fd F => F.binds (ps := ["value"]) fun _ _ _ _ _ _ us hl => match us, hl with | [_], _ => rfl)
  have GNa : Glb (PySem.Challenge.rw_wishedwires_k50_ways_of_singles).prog w K mg base "is_name" 2 ["value"] (spName) := glbD (st := top 18) KX KG (c.b.isP 47 (p := Fc47)) (funOf (c.b.def_ 2)) (fun fd F => ok_name F T Nm2 GW) (fun fd F => F.binds (ps := ["value"]) fun _ _ _ _ _ _ us hl => match us, hl with | [_], _ => rfl)
  have GNs : Glb (PySem.Challenge.rw_wishedwires_k50_ways_of_singles).prog w K mg base "are_names" 3 ["values", "many"] (spNames) := glbD (st := top 20) KX KG (c.b.isP 49 (p := Fc49)) (funOf (c.b.def_ 4)) (fun fd F => ok_names F T GNa) (fun fd F => F.binds (ps := ["values", "many"]) fun _ _ _ _ _ _ us hl => match us, hl with | [_, _], _ => rfl)
  have GCp : Glb (PySem.Challenge.rw_wishedwires_k50_ways_of_singles).prog w K mg base "_check_part_names" 4 ["names"] (spCpn) := glbD (st := top 60) KX KG (c.b.isP 55 (p := Fc55)) (funOf (c.b.def_ 10)) (fun fd F => ok_cpn F T GNs) (fun fd F => F.binds (ps := ["names"]) fun _ _ _ _ _ _ us hl => match us, hl with | [_], _ => rfl)
  have GDi : Glb (PySem.Challenge.rw_wishedwires_k50_ways_of_singles).prog w K mg base "are_different_words" 2 ["values"] (spDiff K) := glbD (st := top 19) KX KG (c.b.isP 48 (p := Fc48)) (funOf (c.b.def_ 3)) (fun fd F => ok_diff F T GW) (fun fd F => F.binds (ps := ["values"]) fun _ _ _ _ _ _ us hl => match us, hl with | [_], _ => rfl)
  have GWr : Glb (PySem.Challenge.rw_wishedwires_k50_ways_of_singles).prog w K mg base "_worded" 1 ["words", "tail"] (spWrd K) := glbD (st := top 40) KX KG (c.b.isP 54 (p := Fc54)) (funOf (c.b.def_ 9)) (fun fd F => ok_wrd F) (fun fd F => F.binds (ps := ["words", "tail"]) fun _ _ _ _ _ _ us hl => match us, hl with | [_, _], _ => rfl)
  obtain ⟨fdK, FK⟩ : ∃ fd, Fun K "__init__" "Kind.__init__" (sKi 1) (maX K "Kind" "__init__") fd := funOf (c.b.def_ 20)
  have okK : FnOk (PySem.Challenge.rw_wishedwires_k50_ways_of_singles).prog w K mg base (L2.CX (PySem.Challenge.rw_wishedwires_k50_ways_of_singles).prog w) 3 (maX K "Kind" "__init__") fdK ["self", "name"] (spKI K (gaX K "InvalidName")) := ok_ki FK eN GW
  have GKR := fnR_of okK (FK.binds (ps := ["self", "name"]) fun _ _ _ _ _ _ us hl => match us, hl with | [_, _], _ => rfl)
  have GGr : Glb (PySem.Challenge.rw_wishedwires_k50_ways_of_singles).prog w K mg base "_are_groups" 3 ["swaps", "pins"] (spGrp K) := glbD (st := top 36) KX KG (c.b.isP 51 (p := Fc51)) (funOf (c.b.def_ 6)) (fun fd F => ok_grp F T GDi) (fun fd F => F.binds (ps := ["swaps", "pins"]) fun _ _ _ _ _ _ us hl => match us, hl with | [_, _], _ => rfl)
  have GMa : Glb (PySem.Challenge.rw_wishedwires_k50_ways_of_singles).prog w K mg base "_mates" 3 ["pin", "pins", "groups"] (spMat K) := glbD (st := top 37) KX KG (c.b.isP 52 (p := Fc52)) (funOf (c.b.def_ 7)) (fun fd F => ok_mat F T) (fun fd F => F.binds (ps := ["pin", "pins", "groups"]) fun _ _ _ _ _ _ us hl => match us, hl with | [_, _, _], _ => rfl)
  have GOr : Glb (PySem.Challenge.rw_wishedwires_k50_ways_of_singles).prog w K mg base "_orders" 3 ["choices"] (spOrd) := glbD (st := top 38) KX KG (c.b.isP 53 (p := Fc53)) (funOf (c.b.def_ 8)) (fun fd F => ok_ord F T) (fun fd F => F.binds (ps := ["choices"]) fun _ _ _ _ _ _ us hl => match us, hl with | [_], _ => rfl)
  have SG : SupG K (PySem.Challenge.rw_wishedwires_k50_ways_of_singles).prog := ⟨(c.b.isP 20 (p := Fc20)), (c.b.isP 21 (p := Fc21)), by kernel_rfl⟩
  have SDI : SDef K (PySem.Challenge.rw_wishedwires_k50_ways_of_singles).prog "PinKind.__init__" (sPin 0) [(("swaps" : Str), V.ref (kwAd K (maX K "PinKind" "__init__") "swaps"))] (maX K "PinKind" "__init__") (gaX K "PinKind") := by
    obtain ⟨oc, od, kV, doc, pm, an, cda, ct, cc, osl, l1, l2, l3, ⟨cl, od2, vs, sl, file, tf, e1, e2, e3⟩, l5⟩ := c.sdef 0
    exact ⟨⟨oc, od, kV, doc, pm, an, cda, ct, cc, osl, l1, l2, l3, ⟨cl, od2, vs, sl, file, tf, e1, e2, beq_iff_eq.mpr e3.symm⟩, l5⟩, (c.b.isP 22 (p := Fc22))⟩
  obtain ⟨tK1, tK2⟩ := (c.b.isP 19 (p := Fc19))
  have FIn : FnA (PySem.Challenge.rw_wishedwires_k50_ways_of_singles).prog w K mg base (L2.CX (PySem.Challenge.rw_wishedwires_k50_ways_of_singles).prog w) 6 (maX K "PinKind" "__init__") (saPin K (gaX K "InvalidName") (gaX K "InvalidKind") (gaX K "PinKind") (maX K "Kind" "__init__") (kwAd K (maX K "PinKind" "__init__") "swaps")) := ok_pin SDI SG T Nm U GKR tK1 tK2 GDi GGr GMa GOr GWr
  have bP := (c.b.isP 0 (p := Fc0))
  have bI := (c.b.isP 1 (p := Fc1))
  obtain ⟨pk1, pk2⟩ := (c.b.isP 6 (p := Fc6))
  obtain ⟨fdT, FT⟩ : ∃ fd, Fun K "text" "Kind.text" (sKi 4) (pgX K "Kind" "text" "property") fd := funOf (c.pdef 0)
  have okT : FnOk (PySem.Challenge.rw_wishedwires_k50_ways_of_singles).prog w K mg base (L2.CX (PySem.Challenge.rw_wishedwires_k50_ways_of_singles).prog w) 1 (pgX K "Kind" "text" "property") fdT ["self"] (spText K (gaX K "PinKind")) := ok_text FT bP.kc
  have bT := (FT.binds (ps := ["self"]) fun _ _ _ _ _ _ us hl => match us, hl with | [_], _ => rfl)
  have pT : PropOf K (gaX K "PinKind") "text" (maX K "Kind" "text") (pgX K "Kind" "text" "property") := ⟨bP.tx, pk1, pk2, recB_ok (c.b.isP 7 (p := Fc7))⟩
  obtain ⟨fdF, FF⟩ : ∃ fd, Fun K "first_writing" "PinKind.first_writing" (sPin 1) (maX K "PinKind" "first_writing") fd := funOf (c.b.def_ 22)
  have okF : FnOk (PySem.Challenge.rw_wishedwires_k50_ways_of_singles).prog w K mg base (L2.CX (PySem.Challenge.rw_wishedwires_k50_ways_of_singles).prog w) 1 (maX K "PinKind" "first_writing") fdF ["self", "words"] (spFW K) := ok_fw FF T
  have bF := (FF.binds (ps := ["self", "words"]) fun _ _ _ _ _ _ us hl => match us, hl with | [_, _], _ => rfl)
  obtain ⟨mf1, mf2, mf3⟩ := (c.b.isP 11 (p := Fc11))
  have mF : Meth K (gaX K "PinKind") "first_writing" (maX K "PinKind" "first_writing") := ⟨mf1, mf2, mf3⟩
  obtain ⟨fdX, FX⟩ : ∃ fd, Fun K "exchanges" "Kind.exchanges" (sKi 2) (maX K "Kind" "exchanges") fd := funOf (c.b.def_ 21)
  have okX : GFnE (PySem.Challenge.rw_wishedwires_k50_ways_of_singles).prog w K mg base 1 False (maX K "Kind" "exchanges") fdX ["self"] (spExE K) := ok_exE FX
  have bX := (FX.binds (ps := ["self"]) fun _ _ _ _ _ _ us hl => match us, hl with | [_], _ => rfl)
  obtain ⟨mx1, mx2, mx3⟩ := (c.b.isP 12 (p := Fc12))
  have mX : Meth K (gaX K "PinKind") "exchanges" (maX K "Kind" "exchanges") := ⟨mx1, mx2, mx3⟩
  obtain ⟨fdS, FS⟩ : ∃ fd, Fun K "__str__" "Ratio.__str__" (R50r.sRat 18) (maX K "Ratio" "__str__") fd := funOf (c.b.def_ 25)
  have okS : FnOk (PySem.Challenge.rw_wishedwires_k50_ways_of_singles).prog w K mg base (L2.CX (PySem.Challenge.rw_wishedwires_k50_ways_of_singles).prog w) 1 (maX K "Ratio" "__str__") fdS ["self"] (R50r.spStr (gaX K "Ratio") R50r.strT) := R50r.ok_str FS TR
  have bS := (FS.binds (ps := ["self"]) fun _ _ _ _ _ _ us hl => match us, hl with | [_], _ => rfl)
  obtain ⟨rs1, rs2⟩ := (c.b.isP 39 (p := Fc39))
  obtain ⟨fdWr, FWr⟩ : ∃ fd, Fun K "written" "Item.written" (sIt 4) (maX K "Item" "written") fd := funOf (c.b.def_ 24)
  have okWr : FnOk (PySem.Challenge.rw_wishedwires_k50_ways_of_singles).prog w K mg base (L2.CX (PySem.Challenge.rw_wishedwires_k50_ways_of_singles).prog w) 4 (maX K "Item" "written") fdWr ["self", "words"] (spWri K (gaX K "Item") (gaX K "PinKind") (gaX K "Ratio")) := ok_wri (fd' := 0) FWr T bI.ic bP.kc mF okF bF rs1 rs2 okS bS
  have bWr := (FWr.binds (ps := ["self", "words"]) fun _ _ _ _ _ _ us hl => match us, hl with | [_, _], _ => rfl)
  obtain ⟨mw1, mw2, mw3⟩ := (c.b.isP 13 (p := Fc13))
  have mWr : Meth K (gaX K "Item") "written" (maX K "Item" "written") := ⟨mw1, mw2, mw3⟩
  obtain ⟨fdIi, FIi⟩ : ∃ fd, Fun K "__init__" "Item.__init__" (sIt 0) (maX K "Item" "__init__") fd := funOf (c.b.def_ 23)
  have okIi : FnOk (PySem.Challenge.rw_wishedwires_k50_ways_of_singles).prog w K mg base (L2.CX (PySem.Challenge.rw_wishedwires_k50_ways_of_singles).prog w) 5 (maX K "Item" "__init__") fdIi ["self", "expression", "turned", "kind", "worths", "nets", "names"] (spII K (gaX K "Item") (gaX K "PinKind") (gaX K "Ratio")) := ok_ii (tgd := 0) FIi T bI.ic bP.kc pT okT bT mWr okWr bWr
  have bIi := (FIi.binds (ps := ["self", "expression", "turned", "kind", "worths", "nets", "names"]) fun _ _ _ _ _ _ us hl => match us, hl with | [_, _, _, _, _, _, _], _ => rfl)
  have KI : KIs K mg (gaX K "Kind") (gaX K "PinKind") := ⟨(PySem.W.mg_of KX KG (c.b.isP 3 (p := Fc3))), bP.ha, (c.b.isP 9 (p := Fc9)), (c.b.isP 10 (p := Fc10)), bP.hm, bP.kK⟩
  obtain ⟨fdSg, FSg⟩ : ∃ fd, Fun K "single" "Item.single" (sIt 2) (pgX K "Item" "single" "staticmethod") fd := funOf (c.pdef 1)
  have okSg : FnOk (PySem.Challenge.rw_wishedwires_k50_ways_of_singles).prog w K mg base (L2.CX (PySem.Challenge.rw_wishedwires_k50_ways_of_singles).prog w) 7 (pgX K "Item" "single" "staticmethod") fdSg ["kind", "value", "nets", "names"] (spSgl K (gaX K "Item") (gaX K "PinKind")) := ok_sgl FSg T KI bP.kc (PySem.W.mg_of KX KG (c.b.isP 4 (p := Fc4))) GV GNs GCp bI.mk_ okIi bIi mF okF bF
  have bSg := (FSg.binds (ps := ["kind", "value", "nets", "names"]) fun _ _ _ _ _ _ us hl => match us, hl with | [_, _, _, _], _ => rfl)
  have SM : SMet K (gaX K "Item") "single" (maX K "Item" "single") (pgX K "Item" "single" "staticmethod") := ⟨⟨_, (c.b.isP 14 (p := Fc14)), (c.b.isP 15 (p := Fc15)), smB_ok (c.b.isP 16 (p := Fc16))⟩, (c.b.isP 17 (p := Fc17)), recB_ok (c.b.isP 8 (p := Fc8)), (c.b.isP 18 (p := Fc18))⟩
  have GWy : Glb (PySem.Challenge.rw_wishedwires_k50_ways_of_singles).prog w K mg base "ways" 3 ["item", "other"] (spWay K (gaX K "Item") (gaX K "PinKind")) := glbD (st := top 53) KX KG (c.b.isP 56 (p := Fc56)) (funOf (c.b.def_ 11)) (fun fd F => ok_way F T bI.ic bP.kc (int_ok KX KG (c.b.isP 27 (p := Fc27))) mX okX bX) (fun fd F => F.binds (ps := ["item", "other"]) fun _ _ _ _ _ _ us hl => match us, hl with | [_, _], _ => rfl)
  have GLs : Glb (PySem.Challenge.rw_wishedwires_k50_ways_of_singles).prog w K mg base "_law_start" 1 ["_law_script"] (spStart K) := glbD (st := top 62) KX KG (c.b.isP 57 (p := Fc57)) (funOf (c.b.def_ 12)) (fun fd F => ok_start F T3) (fun fd F => F.binds (ps := ["_law_script"]) fun _ _ _ _ _ _ us hl => match us, hl with | [_], _ => rfl)
  have GLd : Glb (PySem.Challenge.rw_wishedwires_k50_ways_of_singles).prog w K mg base "_law_draw" 1 ["_law_state", "_law_many"] (spDraw) := glbD (st := top 63) KX KG (c.b.isP 58 (p := Fc58)) (funOf (c.b.def_ 13)) (fun fd F => ok_draw F T.int T3) (fun fd F => F.binds (ps := ["_law_state", "_law_many"]) fun _ _ _ _ _ _ us hl => match us, hl with | [_, _], _ => rfl)
  have GLo : Glb (PySem.Challenge.rw_wishedwires_k50_ways_of_singles).prog w K mg base "_law_orders" 1 ["_law_many"] (spLor) := glbD (st := top 64) KX KG (c.b.isP 59 (p := Fc59)) (funOf (c.b.def_ 14)) (fun fd F => ok_lor F T) (fun fd F => F.binds (ps := ["_law_many"]) fun _ _ _ _ _ _ us hl => match us, hl with | [_], _ => rfl)
  have GLk : Glb (PySem.Challenge.rw_wishedwires_k50_ways_of_singles).prog w K mg base "_law_kind" 8 ["_law_number"] (spLKd K (gaX K "PinKind")) := glbD (st := top 65) KX KG (c.b.isP 60 (p := Fc60)) (funOf (c.b.def_ 15)) (fun fd F => ok_lkd F (PySem.W.mg_of KX KG (c.b.isP 2 (p := Fc2))) bP.mk_ bP.kc bP.so (empty_tup (c.b.isP 28 (p := Fc28))) FIn) (fun fd F => F.binds (ps := ["_law_number"]) fun _ _ _ _ _ _ us hl => match us, hl with | [_], _ => rfl)
  have GLi : Glb (PySem.Challenge.rw_wishedwires_k50_ways_of_singles).prog w K mg base "_law_single" 8 ["_law_state", "_law_kind_here", "_law_name"] (spLsg K (gaX K "Item") (gaX K "PinKind")) := glbD (st := top 66) KX KG (c.b.isP 61 (p := Fc61)) (funOf (c.b.def_ 16)) (fun fd F => ok_lsg F T (PySem.W.mg_of KX KG (c.b.isP 4 (p := Fc4))) SM okSg bSg GLd) (fun fd F => F.binds (ps := ["_law_state", "_law_kind_here", "_law_name"]) fun _ _ _ _ _ _ us hl => match us, hl with | [_, _, _], _ => rfl)
  have GLp : Glb (PySem.Challenge.rw_wishedwires_k50_ways_of_singles).prog w K mg base "_law_kept" 1 ["_law_kind_here", "_law_order"] (spLkp K (gaX K "PinKind")) := glbD (st := top 67) KX KG (c.b.isP 62 (p := Fc62)) (funOf (c.b.def_ 17)) (fun fd F => ok_lkp F T) (fun fd F => F.binds (ps := ["_law_kind_here", "_law_order"]) fun _ _ _ _ _ _ us hl => match us, hl with | [_, _], _ => rfl)
  have GLc : Glb (PySem.Challenge.rw_wishedwires_k50_ways_of_singles).prog w K mg base "_law_canonical" 1 ["_law_kind_here", "_law_nets"] (spCan K (gaX K "PinKind")) := glbD (st := top 68) KX KG (c.b.isP 63 (p := Fc63)) (funOf (c.b.def_ 18)) (fun fd F => ok_can F T) (fun fd F => F.binds (ps := ["_law_kind_here", "_law_nets"]) fun _ _ _ _ _ _ us hl => match us, hl with | [_, _], _ => rfl)
  exact FnGd.FnG.of (ok_law FL T bI.ic GLs GLd GLo GLk GLi GLp GLc GWy)
end R50
end

-- Y59end
section
set_option Elab.async false
set_option linter.all false
open PySem PySem.W PyProof.Rows
set_option maxRecDepth 100000 in
set_option maxHeartbeats 0 in
theorem PySem.Challenge.cw_wishedwires_k50_ways_of_singles_holds : PySem.Challenge.rw_wishedwires_k50_ways_of_singles.Holds := by
  w_on; o_law
  refine HdI.head_imp (r := PySem.W.OpenLaw.row PySem.Challenge.rw_wishedwires_k50_ways_of_singles) (q := PySem.W.view (PySem.W.OpenLaw.row PySem.Challenge.rw_wishedwires_k50_ways_of_singles).prog [69]) (H := R50.hk) (ob := R50.ob) (M1 := 3000) (M := 20000) (loose := R50.names) (d := HandSHeadRun.topDef (PySem.W.OpenLaw.row PySem.Challenge.rw_wishedwires_k50_ways_of_singles).prog 69) (kwd := []) R50.ob_eq
    R50.run (by kernel_rfl) (by kernel_rfl) (by kernel_rfl) (by rfl) (by first | assumption | decide +kernel) (by decide +kernel) ⟨rfl, rfl, rfl, rfl, rfl, by decide +kernel⟩ ?hw ?hc
  case hw => w_witness2
  case hc =>
    refine HdB.walk_ofB (n := 63) (k := 9) (x := "_law_script") (CX := fun w => L2.CX (PySem.Challenge.rw_wishedwires_k50_ways_of_singles).prog w) rfl (by decide) (by kernel_rfl) ⟨rfl, by decide, by decide⟩ ?F fun w H s e s' z => ?g
    case F =>
      intro w mg fa h Y G hmg
      obtain ⟨K, KX, c⟩ := Y
      have hfa : mg ("law" : PySem.Str) = some (.ref fa) := by
        have e : (HandSHeadRun.topDef (OpenLaw.row PySem.Challenge.rw_wishedwires_k50_ways_of_singles).prog 69).name = ("law" : PySem.Str) := by kernel_rfl
        rw [← e]
        exact hmg
      obtain ⟨fd, hb, hF⟩ := R50.ends (w := w) KX G hfa c
      exact ⟨K, fd, R50.spLaw K, KX, hb, fun H a ns hl _ hS => ⟨a, ns, rfl, hS, fun _ _ => rfl⟩, hF⟩
    case g =>
      obtain ⟨_, _, _, _, _, _, _, _, _, _, _, _, z⟩ := z
      exact z
end
