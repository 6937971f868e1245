import PyProof.Rows.All
import Wide.All
import OpenK.AllK
import Wide.FinOn
import HandS.ForExc
import KE.KOpsOwn
import KE.KCallOwn
import HandS.OwnEq
import KE.SortKeyHeap
import HandS.SortKw
import HandS.RaiseMore
import HandS.Strs
import HandS.Zip
import HandS.Star
import HandS.ListItems
import HandS.Conv
import HandS.IterVal
import HandS.OwnIter
import PyProof.NeKinds
import HandS.TryMany
import KE.KExcInit
import HandS.ExcOwn
import HandS.ExcValue
import HandS.IsInst
import KE.KExcIs
import HandS.Comp
import HandS.DictComp
import HandS.Walk
import HandS.Defaults
import HandS.Finally
import HandS.WordsDict
import HandS.Wide
import HandS.Steps
import HandS.Iter
import HandS.NoneIn
import KE.KDictCopyH
import KE.KDictSum
import PyProof.DictFindH
import KE.KEqDict
import HandS.DeepEq
import HandS.Small
import HandS.CallLocal
import HandS.HotCalls
import HandS.WordsExc
import HandS.Style
import HandS.ExcIs
import PySem.Challenge.RW_wishedwires_k38_matchings_refused
-- OwnOps
section
set_option Elab.async false
set_option linter.all false
set_option maxRecDepth 100000
/-! Operators of own classes, as rules over values: by this text's own hand. -/
namespace OwnOps
open PySem L2

section
variable {X : Cx} {pins : List (Addr × Obj)} {σ : St} {H : Hp} {s : Shared} {a b C dx dy g : Addr} {fs fs' : List (Str × V)}

theorem inst_at (I : Inv X pins σ H s) (e : H a = some (.ins C dx fs)) : ∃ od, PySem.W.InstAt s.heap a (PySem.W.instObj C dx) C (some od) := by
  obtain ⟨mA, O, _⟩ := ins_get I.hok e
  obtain ⟨od, J, _⟩ := O.look
  exact ⟨od, J⟩

theorem back_of {Q : Value → Shared → Prop} {s' : Shared} {v : V} {u : Value} (r : RelV v u) (q : Q u s') : PySem.W.CmpBack Q u s' := by
  cases v with
  | non => cases (show u = Value.none from r); exact q
  | bl b => cases (show u = Value.bool b from r); exact q
  | int i => obtain ⟨t, rfl⟩ := (show ∃ t, u = Value.int i t from r); exact q
  | str y => obtain ⟨t, rfl⟩ := (show ∃ t, u = Value.str y t from r); exact q
  | byt y => obtain ⟨t, rfl⟩ := (show ∃ t, u = Value.bytes y t from r); exact q
  | flt y => obtain ⟨t, rfl⟩ := (show ∃ t, u = Value.float y t from r); exact q
  | ref c => cases (show u = Value.ref c from r); exact q
  | ty n => cases (show u = Value.type n from r); exact q

variable {CX : CXT} {k : Nat} {fd : FuncData} {ps : List Str} {sp : Sp} {E : XK} {A : Around}

/-- a def's call wherever the builtins around it stand -/
theorem run_any {Q : VK} {us : List Value} {vs : List V} (F : FnOk X.prog X.w X.K X.mg X.base CX k g fd ps sp) (hr : Room k A) (e0 : Env0 X.prog X.w X.K X.mg X.base A X.stack s H)
    (hb : Binds X.K fd ps []) (hx : Passes CX X E) (I : Inv X pins σ H s) (r : Vals vs us) (h : sp vs H Q E) :
    wpAny (model X.prog X.w) A (call (.ref g) us) (EP X pins σ Q) X.xe s := by
  have hl : (us ++ []).length = ps.length := by rw [List.append_nil, ← r.length]; exact F.len _ _ _ _ h
  have hb' := hb s us I.kIn hl
  rw [List.append_nil] at hb'
  refine wpAny_call (codeAny_mono (F.run A X.stack s H ⟨us, []⟩ us vs Q E hr e0 hb' r h) fun res s' hq => ?_)
  cases res with
  | error e => exact hx pins σ H s e s' I hq
  | ok fl =>
    cases fl with
    | ret u => exact I.after hq
    | next => exact False.elim hq
    | brk => exact False.elim hq
    | cont => exact False.elim hq
end

/-- what an own class says of a two-place operator: its def, of this class -/
structure Op2 (K : PySem.W.Frag) (C g : Addr) (nm : String) : Prop where
  at_ : PySem.W.findIn K (.ref C) (PySem.dunder nm) = some (some (.ref g))
  rf : ∃ rc, PySem.W.findIn K (.ref C) (PySem.dunderR nm) = some rc ∧ (rc = none ∨ ∃ q : Addr, rc = some (.ref q))
  fn : PySem.W.isFn K (.ref g) = true
  first : PySem.W.selfFirst K C = true
/-- what is known of a built-in type beside the class at C, for the operator -/
structure Ty2 (K : PySem.W.Frag) (C : Addr) (nm T : String) : Prop where
  lf : ∃ fo, PySem.W.findIn K (.type T) (PySem.dunder nm) = some fo
  rt : ∃ ro, PySem.W.findIn K (.type T) (PySem.dunderR nm) = some ro
  sub : PySem.W.subIn K (.type T) (.ref C) = some false

/-- the reading of x op y by x's own def -/
def rOwn2 (C : Addr) (R : V → Hp → Prop) (sp : Sp) (E : XK) : R2 := fun x y H Q => ∃ a dx fs, x = .ref a ∧ H a = some (.ins C dx fs) ∧ R y H ∧ sp [x, y] H Q E
def RIns (C : Addr) : V → Hp → Prop := fun y H => ∃ b dy fs, y = .ref b ∧ H b = some (.ins C dy fs)
def RInt : V → Hp → Prop := fun y _ => ∃ i, y = .int i

section
variable {X : Cx} {CX : CXT} {C g : Addr} {k : Nat} {fd : FuncData} {ps : List Str} {sp : Sp} {E : XK} {op : Operator} {T : String}

/-- x op y, both of the class at C -/
theorem op_ins (O : Op2 X.K C g op.info.2) (F : FnOk X.prog X.w X.K X.mg X.base CX k g fd ps sp) (hr : Room k X.A) (hb : Binds X.K fd ps []) (hx : Passes CX X E) :
    OpR X (binaryOp op) (rOwn2 C (RIns C) sp E) := by
  intro pins s σ H x y v u Q I rx ry h
  obtain ⟨a, dx, fs, rfl, ha, ⟨b, dy, fs', rfl, hb'⟩, q⟩ := h
  cases (show v = Value.ref a from rx)
  cases (show u = Value.ref b from ry)
  obtain ⟨od, J⟩ := inst_at I ha
  obtain ⟨od', J'⟩ := inst_at I hb'
  obtain ⟨m, hF⟩ := I.fr
  refine PySem.W.binop_K hF I.ok.mod.kin J J'.type O.first O.at_ O.fn ?_
  refine wpAny_mono (run_any (us := [.ref a, .ref b]) (vs := [.ref a, .ref b]) F hr I.env0 hb hx I (.cons rfl (.cons rfl .nil)) q) (fun w s' z => ?_) fun _ _ e => e
  obtain ⟨z', H', I', rz, qz⟩ := id z
  exact back_of rz z

/-- x op y, y of a built-in type that tells its type at once -/
theorem op_val (O : Op2 X.K C g op.info.2) (Y : Ty2 X.K C op.info.2 T) (F : FnOk X.prog X.w X.K X.mg X.base CX k g fd ps sp) (hr : Room k X.A) (hb : Binds X.K fd ps []) (hx : Passes CX X E)
    {R : V → Hp → Prop} (hR : ∀ {y : V} {H : Hp} {u : Value}, R y H → RelV y u → typeOf u = pure (.type T)) :
    OpR X (binaryOp op) (rOwn2 C R sp E) := by
  intro pins s σ H x y v u Q I rx ry h
  obtain ⟨a, dx, fs, rfl, ha, hy, q⟩ := h
  cases (show v = Value.ref a from rx)
  obtain ⟨od, J⟩ := inst_at I ha
  obtain ⟨m, hF⟩ := I.fr
  obtain ⟨fo, hfo⟩ := Y.lf
  obtain ⟨ro, hro⟩ := Y.rt
  obtain ⟨rc, hrc, hp⟩ := O.rf
  refine PySem.W.ksp_binT hF I.ok.mod.kin J (hR hy ry) O.first O.at_ O.fn hrc hp hfo hro Y.sub ?_
  refine wpAny_mono (run_any (us := [.ref a, u]) (vs := [.ref a, y]) F hr I.env0 hb hx I (.cons rfl (.cons ry .nil)) q) (fun w s' z => ?_) fun _ _ e => e
  obtain ⟨z', H', I', rz, qz⟩ := id z
  exact back_of rz z
end
end OwnOps
end

-- OwnOps2
section
set_option Elab.async false
set_option linter.all false
set_option maxRecDepth 100000
namespace OwnOps
open PySem L2

section
variable {prog : Program} {w : World} {A : Around} {E : Value → Shared → Prop} {s : Shared} {K : PySem.W.Frag} {y C f g : Addr} {oy : Obj} {od : Option Obj} {u : Value} {T : String}

/-- u op y by y's reflected def: u's own type has no slot for it, or declines -/
theorem refl_K {op : Operator} {left : Bool} {Q : Value → Shared → Prop} (Y : K.In s.heap) (I : PySem.W.InstAt s.heap y oy C od)
    (ht : PySem.W.Looks (model prog w) s.heap (typeOf u) (.type T)) (hc : PySem.W.selfFirst K C = true)
    (hs : PySem.W.findIn K (.ref C) (PySem.dunder op.info.2) = some (some (.ref f))) (hr : PySem.W.findIn K (.ref C) (PySem.dunderR op.info.2) = some (some (.ref g)))
    (hg : PySem.W.isFn K (.ref g) = true) (hl : PySem.W.Looks (model prog w) s.heap (fillsNumberSlot (.type T) op.info.2) left)
    (hsub : PySem.W.subIn K (.ref C) (.type T) = some false)
    (hd : left = true → ∀ {Q : Option Value → Shared → Prop}, Q none s → wpAny (model prog w) A (tryMethod u (PySem.dunder op.info.2) (.ref y)) Q E s)
    (h : wpAny (model prog w) A (call (.ref g) [.ref y, u]) (PySem.W.CmpBack Q) E s) : wpAny (model prog w) A (binaryOp op u (.ref y)) Q E s := by
  obtain ⟨cd, rest, hcd, hm⟩ := PySem.W.ksp_first hc
  rcases hi : op.info with ⟨sym, nm⟩
  rw [hi] at hs hr hl hd
  dsimp only at hs hr hl hd
  have one := PySem.W.ksp_try Y I hr hg h
  obtain ⟨hh, gg, d, tt, os⟩ := s
  have L1 : PySem.W.Looks (model prog w) hh (typeOf (.ref y)) (.ref C) := I.type
  have L3 : PySem.W.Looks (model prog w) hh (fillsNumberSlot (.ref C) nm) true := PySem.W.fills_K Y hcd hm hs
  have L5 : PySem.W.Looks (model prog w) hh (isSubtype (.ref C) (.type T)) false := PySem.W.looks_subIn Y hsub
  have L7 : PySem.W.Looks (model prog w) hh (numberSlotInPython (.type T) nm) false := PySem.W.Looks.of_pure rfl
  have hne : (Value.type T == Value.ref C) = false := Bool.eq_false_iff.mpr fun q => by cases beq_iff_eq.mp q
  simp only [binaryOp, hi]
  refine wpAny_holding (wpAny_bind ?_)
  unfold binaryOp1
  refine wpAny_bind (ht.at (wpAny_bind (L1.at (wpAny_bind (hl.at ?_)))))
  simp only [hne, Bool.false_eq_true, if_false]
  cases left with
  | false =>
    ksp_lk
    refine wpAny_mono one (fun r s' hr' => ?_) fun _ _ e => e
    obtain ⟨v, rfl, hq⟩ := hr'
    ksp_lk
    exact hq
  | true =>
    ksp_lk
    refine hd rfl ?_
    ksp_lk
    refine wpAny_mono one (fun r s' hr' => ?_) fun _ _ e => e
    obtain ⟨v, rfl, hq⟩ := hr'
    ksp_lk
    exact hq
end
end OwnOps
end

-- OwnOps3
section
set_option Elab.async false
set_option linter.all false
set_option maxRecDepth 100000
namespace OwnOps
open PySem L2

section
variable {prog : Program} {w : World} {A : Around} {E : Value → Shared → Prop} {s : Shared} {K : PySem.W.Frag} {y C f g : Addr} {oy : Obj} {od : Option Obj} {n : Int} {t : Tok}
open MeetsSeq MeetsSeq2 MeetsSeq3 SeqRoads2 AutoSeq1
theorem int_call_add {Q : Value → Shared → Prop} (hy : s.heap.get? y = some oy) (hp : oy.data = .plain) (h : Q .notImplemented s) :
    wpAny (model prog w) A (call (.builtin "int.__add__") [.int n t, .ref y]) Q E s := by
  refine GQ.call_here F.slot_int_add (typeIs_int s n t) F.entry_int_add (F.args_int_add_2 _ _) ?_
  obtain ⟨c, dd, dt, sl⟩ := oy
  cases hp
  obtain ⟨hh, gg, d, tt, os⟩ := s
  wp_walk using wpAny_loadPart' hy
  exact h
theorem int_call_sub {Q : Value → Shared → Prop} (hy : s.heap.get? y = some oy) (hp : oy.data = .plain) (h : Q .notImplemented s) :
    wpAny (model prog w) A (call (.builtin "int.__sub__") [.int n t, .ref y]) Q E s := by
  refine GQ.call_here F.slot_int_sub (typeIs_int s n t) F.entry_int_sub (F.args_int_sub_2 _ _) ?_
  obtain ⟨c, dd, dt, sl⟩ := oy
  cases hp
  obtain ⟨hh, gg, d, tt, os⟩ := s
  wp_walk using wpAny_loadPart' hy
  exact h
theorem int_call_mul {Q : Value → Shared → Prop} (hy : s.heap.get? y = some oy) (hp : oy.data = .plain) (h : Q .notImplemented s) :
    wpAny (model prog w) A (call (.builtin "int.__mul__") [.int n t, .ref y]) Q E s := by
  refine GQ.call_here F.slot_int_mul (typeIs_int s n t) F.entry_int_mul (F.args_int_mul_2 _ _) ?_
  obtain ⟨c, dd, dt, sl⟩ := oy
  cases hp
  obtain ⟨hh, gg, d, tt, os⟩ := s
  wp_walk using wpAny_loadPart' hy
  exact h
theorem bool_call_mul {k : Bool} {Q : Value → Shared → Prop} (hy : s.heap.get? y = some oy) (hp : oy.data = .plain) (h : Q .notImplemented s) :
    wpAny (model prog w) A (call (.builtin "int.__mul__") [.bool k, .ref y]) Q E s := by
  refine GQ.call_here F.slot_bool_mul (typeIs_bool s k) F.entry_int_mul (F.args_int_mul_2 _ _) ?_
  obtain ⟨c, dd, dt, sl⟩ := oy
  cases hp
  obtain ⟨hh, gg, d, tt, os⟩ := s
  wp_walk using wpAny_loadPart' hy
  exact h
/-- how an int meets an instance of no built-in kind -/
theorem int_cmp_eq {Q : Value → Shared → Prop} (hy : s.heap.get? y = some oy) (hp : oy.data = .plain) (h : Q .notImplemented s) :
    wpAny (model prog w) A (call (.builtin "int.__eq__") [.int n t, .ref y]) Q E s := by
  refine GQ.call_here F.slot_int_eq (typeIs_int s n t) F.entry_int_eq (F.args_int_eq_2 _ _) ?_
  obtain ⟨c, dd, dt, sl⟩ := oy
  cases hp
  obtain ⟨hh, gg, d, tt, os⟩ := s
  wp_walk using wpAny_loadPart' hy
  exact h
theorem int_cmp_ne {Q : Value → Shared → Prop} (hy : s.heap.get? y = some oy) (hp : oy.data = .plain) (h : Q .notImplemented s) :
    wpAny (model prog w) A (call (.builtin "int.__ne__") [.int n t, .ref y]) Q E s := by
  refine GQ.call_here F.slot_int_ne (typeIs_int s n t) F.entry_int_ne (F.args_int_ne_2 _ _) ?_
  obtain ⟨c, dd, dt, sl⟩ := oy
  cases hp
  obtain ⟨hh, gg, d, tt, os⟩ := s
  wp_walk using wpAny_loadPart' hy
  exact h
theorem int_cmp_lt {Q : Value → Shared → Prop} (hy : s.heap.get? y = some oy) (hp : oy.data = .plain) (h : Q .notImplemented s) :
    wpAny (model prog w) A (call (.builtin "int.__lt__") [.int n t, .ref y]) Q E s := by
  refine GQ.call_here F.slot_int_lt (typeIs_int s n t) F.entry_int_lt (F.args_int_lt_2 _ _) ?_
  obtain ⟨c, dd, dt, sl⟩ := oy
  cases hp
  obtain ⟨hh, gg, d, tt, os⟩ := s
  wp_walk using wpAny_loadPart' hy
  exact h
theorem int_cmp_le {Q : Value → Shared → Prop} (hy : s.heap.get? y = some oy) (hp : oy.data = .plain) (h : Q .notImplemented s) :
    wpAny (model prog w) A (call (.builtin "int.__le__") [.int n t, .ref y]) Q E s := by
  refine GQ.call_here F.slot_int_le (typeIs_int s n t) F.entry_int_le (F.args_int_le_2 _ _) ?_
  obtain ⟨c, dd, dt, sl⟩ := oy
  cases hp
  obtain ⟨hh, gg, d, tt, os⟩ := s
  wp_walk using wpAny_loadPart' hy
  exact h
theorem int_cmp_gt {Q : Value → Shared → Prop} (hy : s.heap.get? y = some oy) (hp : oy.data = .plain) (h : Q .notImplemented s) :
    wpAny (model prog w) A (call (.builtin "int.__gt__") [.int n t, .ref y]) Q E s := by
  refine GQ.call_here F.slot_int_gt (typeIs_int s n t) F.entry_int_gt (F.args_int_gt_2 _ _) ?_
  obtain ⟨c, dd, dt, sl⟩ := oy
  cases hp
  obtain ⟨hh, gg, d, tt, os⟩ := s
  wp_walk using wpAny_loadPart' hy
  exact h
theorem int_cmp_ge {Q : Value → Shared → Prop} (hy : s.heap.get? y = some oy) (hp : oy.data = .plain) (h : Q .notImplemented s) :
    wpAny (model prog w) A (call (.builtin "int.__ge__") [.int n t, .ref y]) Q E s := by
  refine GQ.call_here F.slot_int_ge (typeIs_int s n t) F.entry_int_ge (F.args_int_ge_2 _ _) ?_
  obtain ⟨c, dd, dt, sl⟩ := oy
  cases hp
  obtain ⟨hh, gg, d, tt, os⟩ := s
  wp_walk using wpAny_loadPart' hy
  exact h
end
/-- int op instance, declined -/
def IntDec (op : CmpOp) : Prop := ∀ {prog : Program} {w : World} {A : Around} {E : Value → Shared → Prop} {s : Shared} {y : Addr} {oy : Obj} {n : Int} {t : Tok} {Q : Option Value → Shared → Prop}, s.heap.get? y = some oy → oy.data = .plain → Q none s →
  wpAny (model prog w) A (tryCompare (.int n t) (cmpInfo op).2.1 (.ref y)) Q E s
theorem dec_eq : IntDec .Eq := fun hy hp h => wpAny_tryCompare_declines (typeIs_int _ _ _) F.slot_int_eq (int_cmp_eq hy hp ⟨rfl, h⟩)
theorem dec_ne : IntDec .NotEq := fun hy hp h => wpAny_tryCompare_declines (typeIs_int _ _ _) F.slot_int_ne (int_cmp_ne hy hp ⟨rfl, h⟩)
theorem dec_lt : IntDec .Lt := fun hy hp h => wpAny_tryCompare_declines (typeIs_int _ _ _) F.slot_int_lt (int_cmp_lt hy hp ⟨rfl, h⟩)
theorem dec_le : IntDec .LtE := fun hy hp h => wpAny_tryCompare_declines (typeIs_int _ _ _) F.slot_int_le (int_cmp_le hy hp ⟨rfl, h⟩)
theorem dec_gt : IntDec .Gt := fun hy hp h => wpAny_tryCompare_declines (typeIs_int _ _ _) F.slot_int_gt (int_cmp_gt hy hp ⟨rfl, h⟩)
theorem dec_ge : IntDec .GtE := fun hy hp h => wpAny_tryCompare_declines (typeIs_int _ _ _) F.slot_int_ge (int_cmp_ge hy hp ⟨rfl, h⟩)
def IntDecB (op : Operator) : Prop := ∀ {prog : Program} {w : World} {A : Around} {E : Value → Shared → Prop} {s : Shared} {y : Addr} {oy : Obj} {n : Int} {t : Tok} {Q : Option Value → Shared → Prop}, s.heap.get? y = some oy → oy.data = .plain → Q none s →
  wpAny (model prog w) A (tryMethod (.int n t) (PySem.dunder op.info.2) (.ref y)) Q E s
theorem dec_add : IntDecB .Add := by
  intro prog w A E s y oy n t Q hy hp h
  show wpAny (model prog w) A (tryMethod (.int n t) (PySem.dunder "add") (.ref y)) Q E s
  have hc : wpAny (model prog w) A (call (.builtin "int.__add__") [.int n t, .ref y]) (fun v s' => v = .notImplemented ∧ Q none s') E s := int_call_add hy hp ⟨rfl, h⟩
  exact wpAny_tryMethod_declines (name := PySem.dunder "add") (id := "int.__add__") (typeIs_int s n t) F.slot_int_add hc
theorem dec_sub : IntDecB .Sub := by
  intro prog w A E s y oy n t Q hy hp h
  show wpAny (model prog w) A (tryMethod (.int n t) (PySem.dunder "sub") (.ref y)) Q E s
  have hc : wpAny (model prog w) A (call (.builtin "int.__sub__") [.int n t, .ref y]) (fun v s' => v = .notImplemented ∧ Q none s') E s := int_call_sub hy hp ⟨rfl, h⟩
  exact wpAny_tryMethod_declines (name := PySem.dunder "sub") (id := "int.__sub__") (typeIs_int s n t) F.slot_int_sub hc
theorem dec_mul : IntDecB .Mult := by
  intro prog w A E s y oy n t Q hy hp h
  show wpAny (model prog w) A (tryMethod (.int n t) (PySem.dunder "mul") (.ref y)) Q E s
  have hc : wpAny (model prog w) A (call (.builtin "int.__mul__") [.int n t, .ref y]) (fun v s' => v = .notImplemented ∧ Q none s') E s := int_call_mul hy hp ⟨rfl, h⟩
  exact wpAny_tryMethod_declines (name := PySem.dunder "mul") (id := "int.__mul__") (typeIs_int s n t) F.slot_int_mul hc

section
variable {prog : Program} {w : World} {A : Around} {E : Value → Shared → Prop} {s : Shared} {K : PySem.W.Frag} {y C f g : Addr} {oy : Obj} {od : Option Obj} {n : Int} {t : Tok}
/-- n op y by y's def for the comparison turned round -/
theorem cmp_refl {op : CmpOp} {Q : Value → Shared → Prop} (hu : A.units < cLine) (Y : K.In s.heap) (I : PySem.W.InstAt s.heap y oy C od) (hp : oy.data = .plain) (dec : IntDec op)
    (hsub : PySem.W.subIn K (.ref C) (.type "int") = some false) (hr : PySem.W.findIn K (.ref C) (cmpInfo op).2.2 = some (some (.ref g))) (hg : PySem.W.isFn K (.ref g) = true)
    (h : wpAny (model prog w) A (call (.ref g) [.ref y, .int n t]) (PySem.W.CmpBack Q) E s) : wpAny (model prog w) A (richCompare op (.int n t) (.ref y)) Q E s := by
  have one : wpAny (model prog w) A (tryCompare (.ref y) (cmpInfo op).2.2 (.int n t)) (fun r s' => ∃ v, r = some v ∧ Q v s') E s := by
    unfold tryCompare
    refine wpAny_bind (PySem.W.ifBound_K Y I hr hg (wpAny_mono h (fun v s' hv => ?_) fun _ _ e => e))
    cases v <;> first | exact hv.elim | exact wpAny_pure ⟨_, rfl, hv⟩
  have h1 : oneThing? op (.int n t) (.ref y) = none := rfl
  have hne : (Value.type "int" != Value.ref C) = true := rfl
  unfold richCompare
  simp only [h1]
  refine wpAny_holding (wpAny_bind (wpAny_cRoomFor hu ?_))
  refine wpAny_bind ((PySem.W.Looks.of_pure rfl : PySem.W.Looks (model prog w) s.heap (typeOf (.int n t)) (.type "int")).here (wpAny_bind (I.type.here ?_)))
  rw [hne]
  simp only [if_true]
  refine wpAny_bind ((PySem.W.looks_subIn Y hsub).here ?_)
  simp only [Bool.false_eq_true, if_false]
  refine wpAny_bind (dec I.at_ hp ?_)
  simp only [Bool.not_false, if_true]
  refine wpAny_bind (wpAny_mono one (fun r s' z => ?_) fun _ _ e => e)
  obtain ⟨v, rfl, hq⟩ := z
  exact wpAny_pure hq
end
end OwnOps
end

-- OwnOps4
section
set_option Elab.async false
set_option linter.all false
set_option maxRecDepth 100000
namespace OwnOps
open PySem L2

section
variable {X : Cx} {CX : CXT} {C g f : Addr} {k : Nat} {fd : FuncData} {ps : List Str} {sp : Sp} {E : XK} {op : Operator} {T : String}

/-- the reading of n op y by y's def -/
def rRef2 (C : Addr) (sp : Sp) (E : XK) : R2 := fun x y H Q => ∃ (i : Int) (b dy : Addr) (fs : List (Str × V)), x = .int i ∧ y = .ref b ∧ H b = some (.ins C dy fs) ∧ sp [y, x] H Q E

theorem op_refl {nm : String} (hnm : op.info.2 = nm) (O : Op2 X.K C f nm) (hrf : PySem.W.findIn X.K (.ref C) (PySem.dunderR nm) = some (some (.ref g))) (hg : PySem.W.isFn X.K (.ref g) = true) (hl : fillsNumberSlot (.type "int") nm = pure true)
    (hsub : PySem.W.subIn X.K (.ref C) (.type "int") = some false) (dec : IntDecB op)
    (F : FnOk X.prog X.w X.K X.mg X.base CX k g fd ps sp) (hr : Room k X.A) (hb : Binds X.K fd ps []) (hx : Passes CX X E) : OpR X (binaryOp op) (rRef2 C sp E) := by
  subst hnm
  intro pins s σ H x y v u Q I rx ry h
  obtain ⟨i, b, dy, fs, rfl, rfl, hb', q⟩ := h
  obtain ⟨t, rfl⟩ := (show ∃ t, v = Value.int i t from rx)
  cases (show u = Value.ref b from ry)
  obtain ⟨od, J⟩ := inst_at I hb'
  refine refl_K I.kIn J (PySem.W.Looks.of_pure rfl) O.first O.at_ hrf hg (PySem.W.Looks.of_pure hl) hsub (fun _ Q' q' => dec J.at_ rfl q') ?_
  refine wpAny_mono (run_any (us := [.ref b, .int i t]) (vs := [.ref b, .int i]) F hr I.env0 hb hx I (.cons rfl (.cons ⟨t, rfl⟩ .nil)) q) (fun w s' z => ?_) fun _ _ e => e
  obtain ⟨z', H', I', rz, qz⟩ := id z
  exact back_of rz z

/-- x op y (a comparison), x of the class at C -/
theorem cmp_own {op : CmpOp} (hop : ∀ a b, compareOp op a b = richCompare op a b) (hs : PySem.W.findIn X.K (.ref C) (cmpInfo op).2.1 = some (some (.ref g))) (hf : PySem.W.isFn X.K (.ref g) = true)
    (F : FnOk X.prog X.w X.K X.mg X.base CX k g fd ps sp) (hr : Room k X.A) (hb : Binds X.K fd ps []) (hx : Passes CX X E)
    {R : V → Hp → Prop} (hR : ∀ {y : V} {H : Hp} {u : Value} {pins : List (Addr × Obj)} {σ : St} {s : Shared}, L2.Inv X pins σ H s → R y H → RelV y u → ∃ tb, PySem.W.Looks (model X.prog X.w) s.heap (typeOf u) tb ∧ PySem.W.notFirst X.K C tb = true) :
    OpR X (compareOp op) (rOwn2 C R sp E) := by
  intro pins s σ H x y v u Q I rx ry h
  obtain ⟨a, dx, fs, rfl, ha, hy, q⟩ := h
  cases (show v = Value.ref a from rx)
  obtain ⟨od, J⟩ := inst_at I ha
  obtain ⟨m, hF⟩ := I.fr
  obtain ⟨tb, ht, hn⟩ := hR I hy ry
  rw [hop]
  refine PySem.W.cmp_K (op := op) hr.units0 hF I.ok.mod.kin J ht hn hs hf ?_
  refine wpAny_mono (run_any (us := [.ref a, u]) (vs := [.ref a, y]) F hr I.env0 hb hx I (.cons rfl (.cons ry .nil)) q) (fun w s' z => ?_) fun _ _ e => e
  obtain ⟨z', H', I', rz, qz⟩ := id z
  exact back_of rz z
theorem looks_ins (hsame : PySem.W.notFirst X.K C (.ref C) = true) {y : V} {H : Hp} {u : Value} {pins : List (Addr × Obj)} {σ : St} {s : Shared} (I : L2.Inv X pins σ H s) (h : RIns C y H) (ry : RelV y u) :
    ∃ tb, PySem.W.Looks (model X.prog X.w) s.heap (typeOf u) tb ∧ PySem.W.notFirst X.K C tb = true := by
  obtain ⟨b, dy, fs, rfl, hb⟩ := h
  cases (show u = Value.ref b from ry)
  obtain ⟨od, J⟩ := inst_at I hb
  exact ⟨_, J.type, hsame⟩
theorem looks_int (hi : PySem.W.notFirst X.K C (.type "int") = true) {y : V} {H : Hp} {u : Value} {pins : List (Addr × Obj)} {σ : St} {s : Shared} (I : L2.Inv X pins σ H s) (h : RInt y H) (ry : RelV y u) :
    ∃ tb, PySem.W.Looks (model X.prog X.w) s.heap (typeOf u) tb ∧ PySem.W.notFirst X.K C tb = true := by
  obtain ⟨i, rfl⟩ := h
  obtain ⟨t, rfl⟩ := (show ∃ t, u = Value.int i t from ry)
  exact ⟨_, PySem.W.Looks.of_pure rfl, hi⟩

theorem cmp_refl2 {op : CmpOp} (hop : ∀ a b, compareOp op a b = richCompare op a b) (dec : IntDec op) (hs : PySem.W.findIn X.K (.ref C) (cmpInfo op).2.2 = some (some (.ref g))) (hf : PySem.W.isFn X.K (.ref g) = true)
    (hsub : PySem.W.subIn X.K (.ref C) (.type "int") = some false)
    (F : FnOk X.prog X.w X.K X.mg X.base CX k g fd ps sp) (hr : Room k X.A) (hb : Binds X.K fd ps []) (hx : Passes CX X E) : OpR X (compareOp op) (rRef2 C sp E) := by
  intro pins s σ H x y v u Q I rx ry h
  obtain ⟨i, b, dy, fs, rfl, rfl, hb', q⟩ := h
  obtain ⟨t, rfl⟩ := (show ∃ t, v = Value.int i t from rx)
  cases (show u = Value.ref b from ry)
  obtain ⟨od, J⟩ := inst_at I hb'
  rw [hop]
  refine cmp_refl hr.units0 I.kIn J rfl dec hsub hs hf ?_
  refine wpAny_mono (run_any (us := [.ref b, .int i t]) (vs := [.ref b, .int i]) F hr I.env0 hb hx I (.cons rfl (.cons ⟨t, rfl⟩ .nil)) q) (fun w s' z => ?_) fun _ _ e => e
  obtain ⟨z', H', I', rz, qz⟩ := id z
  exact back_of rz z

/-- one-place: what x's own def hands back -/
def rOwn1 (C : Addr) (sp : Sp) (E : XK) (R : V → Prop) : V → Hp → VK → Prop := fun x H Q => ∃ a dx fs, x = .ref a ∧ H a = some (.ins C dx fs) ∧ sp [x] H (fun z H' => R z ∧ Q z H') E
theorem neg_own (hs : PySem.W.findIn X.K (.ref C) "__neg__" = some (some (.ref g))) (hf : PySem.W.isFn X.K (.ref g) = true)
    (F : FnOk X.prog X.w X.K X.mg X.base CX k g fd ps sp) (hr : Room k X.A) (hb : Binds X.K fd ps []) (hx : Passes CX X E) : UnR X (unaryOp .USub) (rOwn1 C sp E fun _ => True) := by
  intro pins s σ H x v Q I rx h
  obtain ⟨a, dx, fs, rfl, ha, q⟩ := h
  cases (show v = Value.ref a from rx)
  obtain ⟨od, J⟩ := inst_at I ha
  obtain ⟨m, hF⟩ := I.fr
  refine PySem.W.ksp_neg hF I.ok.mod.kin J hs hf ?_
  refine wpAny_mono (run_any (us := [.ref a]) (vs := [.ref a]) F hr I.env0 hb hx I (.cons rfl .nil) q) (fun w s' z => ?_) fun _ _ e => e
  obtain ⟨z', H', I', rz, _, qz⟩ := z
  exact ⟨z', H', I', rz, qz⟩

open Builtin in
theorem abs_K {prog : Program} {w : World} {A : Around} {E : Value → Shared → Prop} {s : Shared} {K : PySem.W.Frag} {x C f : Addr} {ox : Obj} {od : Option Obj} {Q : Value → Shared → Prop} (Y : K.In s.heap) (I : PySem.W.InstAt s.heap x ox C od)
    (hs : PySem.W.findIn K (.ref C) "__abs__" = some (some (.ref f))) (hf : PySem.W.isFn K (.ref f) = true)
    (h : wpAny (model prog w) A.in1 (call (.ref f) [.ref x]) Q E s) : wpAny (model prog w) A (call (.builtin "abs") [.ref x]) Q E s := by
  refine Calls.call_function_entry PyProof.Rows.kind_abs PyProof.Rows.plain_abs PyProof.Rows.entry_abs (PyProof.Rows.args_abs _) ?_
  unfold Builtin.«abs»
  refine wpAny_bind (m := oneArg "abs" _) (wpAny_pure ?_)
  refine wpAny_bind (m := callSpecial? (.ref x) (Str.ofString "__abs__")) (PySem.W.special_fn Y I hs (beq_iff_eq.mp hf) (wpAny_mono h (fun r s' z => ?_) fun _ _ e => e))
  exact wpAny_pure ⟨_, rfl, z⟩

theorem room2 {k : Nat} {A : Around} (r : Room (k + 2) A) : Room k A.in1.in1 := (Room.in1 (r.in1))

theorem call_absO (hs : PySem.W.findIn X.K (.ref C) "__abs__" = some (some (.ref g))) (hf : PySem.W.isFn X.K (.ref g) = true)
    (F : FnOk X.prog X.w X.K X.mg X.base CX k g fd ps sp) (hr : Room (k + 1) X.A) (hb : Binds X.K fd ps []) (hx : Passes CX X E) : CallR X (.builtin "abs") (fun xs H Q => ∃ x, xs = [x] ∧ rOwn1 C sp E (fun _ => True) x H Q) := by
  intro pins s σ H xs us Q I rx h
  obtain ⟨x, rfl, a, dx, fs, rfl, ha, q⟩ := h
  obtain ⟨u, rfl, ru⟩ := vals1 rx
  cases (show u = Value.ref a from ru)
  obtain ⟨od, J⟩ := inst_at I ha
  refine abs_K I.kIn J hs hf ?_
  refine wpAny_mono (run_any (us := [.ref a]) (vs := [.ref a]) F hr.in1 I.env0.in1 hb hx I (.cons rfl .nil) q) (fun w s' z => ?_) fun _ _ e => e
  obtain ⟨z', H', I', rz, _, qz⟩ := z
  exact ⟨z', H', I', rz, qz⟩

def IsStr : V → Prop := fun z => ∃ y, z = .str y
theorem strback {Q : Value → Shared → Prop} {z : V} {u : Value} {s' : Shared} (hz : IsStr z) (r : RelV z u) (q : Q u s') : PySem.W.StrBack Q u s' := by
  obtain ⟨y, rfl⟩ := hz
  obtain ⟨t, rfl⟩ := (show ∃ t, u = Value.str y t from r)
  exact q
theorem call_reprO (hs : PySem.W.findIn X.K (.ref C) "__repr__" = some (some (.ref g))) (hf : PySem.W.isFn X.K (.ref g) = true)
    (F : FnOk X.prog X.w X.K X.mg X.base CX k g fd ps sp) (hr : Room (k + 1) X.A) (hb : Binds X.K fd ps []) (hx : Passes CX X E) : CallR X (.builtin "repr") (fun xs H Q => ∃ x, xs = [x] ∧ rOwn1 C sp E IsStr x H Q) := by
  intro pins s σ H xs us Q I rx h
  obtain ⟨x, rfl, a, dx, fs, rfl, ha, q⟩ := h
  obtain ⟨u, rfl, ru⟩ := vals1 rx
  cases (show u = Value.ref a from ru)
  obtain ⟨od, J⟩ := inst_at I ha
  obtain ⟨m, hF⟩ := I.fr
  refine PySem.W.repr_K hr.in1.units0 hF I.ok.mod.kin J hs hf ?_
  refine wpAny_mono (run_any (us := [.ref a]) (vs := [.ref a]) F hr.in1 I.env0.in1 hb hx I (.cons rfl .nil) q) (fun w s' z => ?_) fun _ _ e => e
  obtain ⟨z', H', I', rz, hz, qz⟩ := z
  exact strback hz rz ⟨z', H', I', rz, qz⟩
theorem call_strO (hs : PySem.W.findIn X.K (.ref C) "__str__" = some (some (.ref g))) (hf : PySem.W.isFn X.K (.ref g) = true)
    (F : FnOk X.prog X.w X.K X.mg X.base CX k g fd ps sp) (hr : Room (k + 2) X.A) (hb : Binds X.K fd ps []) (hx : Passes CX X E) : CallR X (.type "str") (fun xs H Q => ∃ x, xs = [x] ∧ rOwn1 C sp E IsStr x H Q) := by
  intro pins s σ H xs us Q I rx h
  obtain ⟨x, rfl, a, dx, fs, rfl, ha, q⟩ := h
  obtain ⟨u, rfl, ru⟩ := vals1 rx
  cases (show u = Value.ref a from ru)
  obtain ⟨od, J⟩ := inst_at I ha
  refine PySem.W.kso_call (room2 hr).units0 I.kIn J hs hf ?_
  refine wpAny_mono (run_any (us := [.ref a]) (vs := [.ref a]) F (room2 hr) I.env0.in1.in1 hb hx I (.cons rfl .nil) q) (fun w s' z => ?_) fun _ _ e => e
  obtain ⟨z', H', I', rz, hz, qz⟩ := z
  exact strback hz rz ⟨z', H', I', rz, qz⟩

open Builtin in
theorem bool_K {prog : Program} {w : World} {A : Around} {E : Value → Shared → Prop} {s : Shared} {K : PySem.W.Frag} {x C f : Addr} {ox : Obj} {od : Option Obj} {Q : Value → Shared → Prop} {m : Str → Option Value} {h₀ : Heap} {L : Addr} (F : PyProof.Rows.Fr h₀ L s.heap m) (Y : K.In h₀) (I : PySem.W.InstAt s.heap x ox C od)
    (hs : PySem.W.findIn K (.ref C) "__bool__" = some (some (.ref f))) (hf : PySem.W.isFn K (.ref f) = true)
    (h : wpAny (model prog w) A.in1.in1 (call (.ref f) [.ref x]) (PySem.W.BoolBack fun b s' => Q (.bool b) s') E s) : wpAny (model prog w) A (call (.type "bool") [.ref x]) Q E s := by
  refine callType_codes (T := "bool") (Bi := Builtin.«object.__init__») (Q₁ := fun r s₁ => ∃ y, r = .bool y ∧ Q r s₁) PySem.F.called_bool (PySem.F.typeCall_bool_1 _) PySem.F.entry_object_init ?_ ?_
  · refine codeAny_of_tree ?_
    show wpAny _ A.in1.in1 (do checkBuiltinCall "bool.__new__" ⟨[.type "bool", .ref x], []⟩; again (.builtin "bool.__new__" ⟨[.type "bool", .ref x], []⟩)) _ _ s
    refine wpAny_bind (wpAny_of_eq (PySem.F.newCall_bool_1 _) (wpAny_pure ⟨plainId_quiet (by decide +kernel) _, codeAny_builtin PySem.F.entry_bool_new ?_⟩))
    rw [Around.under_plainId (by decide +kernel) _]
    have key : wpAny (model prog w) A.in1.in1 (truthy (.ref x)) (fun b s₁ => Q (.bool b) s₁) E s := PySem.W.truthy_K F Y I hs hf h
    have f1 := PySem.F.conv_sub_bool
    obtain ⟨hp, gg, d, tk, os⟩ := s
    repeat (any_goals (first | assumption | (with_reducible refine wpAny_bind (wpAny_mono key (fun b s1 z => ?_) fun _ _ e => e)) | wp_step))
    all_goals first | exact ⟨_, rfl, z⟩ | exact ⟨_, rfl, _, rfl, z⟩ | skip
  · rintro obj s₁ ⟨y, rfl, hq⟩
    exact ⟨typeIs_bool _ _, PySem.F.args_object_init_2 _ _, object_init_meets PySem.F.called_bool.init.lookup PySem.F.called_bool.made (by decide) prog w A.in1 _ s₁ ⟨typeIs_bool _ _, rfl, hq⟩⟩
end
end OwnOps
end

-- OwnOps5
section
set_option Elab.async false
set_option linter.all false
set_option maxRecDepth 100000
namespace OwnOps
open PySem L2

section
variable {prog : Program} {w : World} {A : Around} {E : Value → Shared → Prop} {s : Shared} {K : PySem.W.Frag} {x C g : Addr} {ox : Obj} {od : Option Obj} {u : Value} {T : String}
/-- x op u by x's own def, u of a built-in type that is told by a look -/
theorem left_K {op : Operator} {fo ro rc : Option Value} {Q : Value → Shared → Prop} (Y : K.In s.heap) (I : PySem.W.InstAt s.heap x ox C od)
    (ht : PySem.W.Looks (model prog w) s.heap (typeOf u) (.type T)) (hc : PySem.W.selfFirst K C = true)
    (hs : PySem.W.findIn K (.ref C) (PySem.dunder op.info.2) = some (some (.ref g))) (hg : PySem.W.isFn K (.ref g) = true)
    (hrc : PySem.W.findIn K (.ref C) (PySem.dunderR op.info.2) = some rc) (hp : rc = none ∨ ∃ q : Addr, rc = some (.ref q))
    (hfo : PySem.W.findIn K (.type T) (PySem.dunder op.info.2) = some fo) (hro : PySem.W.findIn K (.type T) (PySem.dunderR op.info.2) = some ro) (hsub : PySem.W.subIn K (.type T) (.ref C) = some false)
    (h : wpAny (model prog w) A (call (.ref g) [.ref x, u]) (PySem.W.CmpBack Q) E s) : wpAny (model prog w) A (binaryOp op (.ref x) u) Q E s := by
  obtain ⟨dat, tl, hcd, hmro⟩ := PySem.W.ksp_first hc
  rcases hi : op.info with ⟨sy, nam⟩
  rw [hi] at hs hrc hfo hro
  dsimp only at hs hrc hfo hro
  have one := PySem.W.ksp_try Y I hs hg h
  obtain ⟨hh, gg, d, tt, os⟩ := s
  have M1 : PySem.W.Looks (model prog w) hh (typeOf (.ref x)) (.ref C) := I.type
  have M3 : PySem.W.Looks (model prog w) hh (fillsNumberSlot (.ref C) nam) true := PySem.W.fills_K Y hcd hmro hs
  have M4 : PySem.W.Looks (model prog w) hh (fillsNumberSlot (.type T) nam) ((fo.isSome && !isSeqSlot fo) || (ro.isSome && !isSeqSlot ro)) := PySem.W.ksp_fillsT Y hfo hro
  have M5 : PySem.W.Looks (model prog w) hh (isSubtype (.type T) (.ref C)) false := PySem.W.looks_subIn Y hsub
  have M6 : PySem.W.Looks (model prog w) hh (numberSlotInPython (.ref C) nam) true := PySem.W.ksp_inPy Y hs hrc hp
  have M7 : PySem.W.Looks (model prog w) hh (numberSlotInPython (.type T) nam) false := PySem.W.Looks.of_pure rfl
  have M8 : PySem.W.Looks (model prog w) hh (typeLookup (.type T) (PySem.dunderR nam)) ro := PySem.W.looks_findIn Y hro
  generalize ((fo.isSome && !isSeqSlot fo) || (ro.isSome && !isSeqSlot ro)) = fills at M4
  have differ : (Value.ref C == Value.type T) = false := Bool.eq_false_iff.mpr fun q => by cases beq_iff_eq.mp q
  simp only [binaryOp, hi]
  refine wpAny_holding (wpAny_bind ?_)
  unfold binaryOp1
  refine wpAny_bind (M1.at (wpAny_bind (ht.at (wpAny_bind (M3.at ?_)))))
  simp only [differ, Bool.false_eq_true, if_false]
  cases fills
  all_goals
    ksp_lk
    refine wpAny_mono one (fun r s' back => ?_) fun _ _ e => e
    obtain ⟨v, rfl, hq⟩ := back
    ksp_lk
    exact hq
end
end OwnOps
end

-- SortStr
section
set_option Elab.async false
set_option linter.all false
set_option maxRecDepth 100000
/-! sorted(xs, key=str), xs texts. -/
namespace SortStr
open PySem L2 PySem.W PyProof.Rows
/-- the texts in order -/
def srtS (xs : List Str) : List Str := xs.mergeSort (dataLe false PyData.str)
theorem alikeS (xs : List Str) : AllAlike (xs.map PyData.str) := fun d hd d' hd' => by
  obtain ⟨x, _, rfl⟩ := List.mem_map.mp hd
  obtain ⟨y, _, rfl⟩ := List.mem_map.mp hd'
  rfl
theorem sortableS (xs : List Str) : Sortable (xs.map PyData.str) := .inr fun d hd => by
  obtain ⟨x, _, rfl⟩ := List.mem_map.mp hd
  exact ⟨fun e => (by cases e), fun _ e => (by cases e)⟩
theorem each_strs : ∀ {xs : List Str} {us : List Value}, Vals (xs.map V.str) us → EachIs (fun v x => ∃ t, v = Value.str x t) us xs
  | [], _, r => by cases r; exact .nil
  | x :: xs, _, r => by
    cases r with
    | cons a b => exact .cons a (each_strs b)
theorem strs_each : ∀ {xs : List Str} {us : List Value}, EachIs (fun v x => ∃ t, v = Value.str x t) us xs → Vals (xs.map V.str) us
  | _, _, .nil => .nil
  | _, _, .cons a b => .cons a (strs_each b)
def rKS (K : PySem.W.Frag) : List V → List V → Hp → VK → Prop := fun vs zs H Q => ∃ (a : Addr) (xs : List Str), vs = [.ref a] ∧ zs = [.ty "str"] ∧ SqL K H a (xs.map V.str) ∧ ∀ p, H p = none → Q (.ref p) (upd H p (.lst ((srtS xs).map V.str)))
theorem cr_sortKS {X : Cx} (hu : X.A.units + 64 < cLine) : CallRK X (.builtin "sorted") [Str.ofString "key"] (rKS X.K) := by
  intro pins s σ H vs zs us ws Q I r rz h
  obtain ⟨a, xs, rfl, rfl, hs, q⟩ := h
  obtain rfl := Vals.ref1 r
  obtain ⟨w1, rfl, e1⟩ := vals1 rz
  obtain rfl : w1 = Value.type "str" := e1
  obtain ⟨its, rv, hl, hz⟩ := I.list hs
  rw [List.length_map] at hz
  refine sorted_key_data (bs := xs) (R := fun v x => ∃ t, v = Value.str x t) (f := .type "str") (b := false) PyData.str hl.isList (each_strs rv) (alikeS xs) (sortableS xs) hz (fun x _ => ?_) (PyProof.Rows.ksk_s1 _ _) (fun _ => PyProof.Rows.ksk_l1 _ _) (fun _ => rfl)
    (fun v x hv _ h tk kp => ?_) (fun out c h' tk kp fresh at_ len each => ?_)
  · show X.A.units + 2 + PyData.depth (.str x) < cLine
    have : PyData.depth (.str x) ≤ 1 := by first | exact Nat.le_refl _ | exact Nat.zero_le _ | decide
    omega
  · obtain ⟨t, rfl⟩ := hv
    exact PySem.P.str_of_str ⟨h, tk, rfl, fun _ _ e => e, .str x t⟩
  · have e : out.length = (srtS xs).length := by rw [len]; exact (List.length_mergeSort xs).symm
    exact ⟨.ref _, upd H (s.heap.objs.size + 1) (.lst ((srtS xs).map V.str)), I.laid (t' := tk) kp (Nat.le_succ _) ⟨by rw [List.length_map, ← e, len]; exact hz, out, c, strs_each each, at_⟩, rfl, q _ (I.hok.fresh (Nat.le_succ _))⟩
/-- sorted(d, key=str), d a dict with text keys -/
def rKD : List V → List V → Hp → VK → Prop := fun vs zs H Q => ∃ (a : Addr) (kvs : List (Key × V)) (xs : List Str), vs = [.ref a] ∧ zs = [.ty "str"] ∧ Rd H a (.dK kvs) ∧ kvs.map (·.1) = xs.map Sum.inr ∧ ∀ p, H p = none → Q (.ref p) (upd H p (.lst ((srtS xs).map V.str)))
theorem cr_sortKD {X : Cx} (calm : X.calm = true) (hu : X.A.units + 64 < cLine) : CallRK X (.builtin "sorted") [Str.ofString "key"] rKD := by
  intro pins s σ H vs zs us ws Q I r rz h
  obtain ⟨a, kvs, xs, rfl, rfl, hd, hks, q⟩ := h
  obtain rfl := Vals.ref1 r
  obtain ⟨w1, rfl, e1⟩ := vals1 rz
  obtain rfl : w1 = Value.type "str" := e1
  obtain ⟨z, lo, es, rel, dd⟩ := dk_rd I.hok hd
  obtain ⟨ep, at0⟩ := dd.dictAt
  have keys : es.map (·.1) = xs.map Sum.inr := rel.keys.symm.trans hks
  have size : es.length = xs.length := by
    have e := congrArg List.length keys
    rwa [List.length_map, List.length_map] at e
  have z0 : kvs.length = xs.length := by
    have e := congrArg List.length hks
    rwa [List.length_map, List.length_map] at e
  have z16 : es.length ≤ sizeLine := by rw [size, ← z0]; exact z
  refine PyProof.Rows.call_function_entry_kw PyProof.Rows.kind_sorted PyProof.Rows.plain_sorted PyProof.Rows.entry_sorted (PyProof.Rows.ksk_s1 _ _) ?_
  unfold Builtin.«sorted»
  refine wpAny_bind (m := checkCount "sorted" 1 1 _) (wpAny_pure (wpAny_bind (kdu_collect (A := X.A.in1) (kdl_dict (knd := mixKind X.prog X.w) (kvs := es) (ep := ep) lo) (I.ok.hd calm) at0 z16 fun h1 tk acc kp got => ?_)))
  have len : acc.toList.length = xs.length := by rw [Array.length_toList, got.1, size]
  have txts : EachIs (fun v x => ∃ t, v = Value.str x t) acc.toList xs := by
    refine EachIs.of_zip len fun p hp => ?_
    obtain ⟨j, hj, ej⟩ := List.getElem_of_mem hp
    have hj1 : j < acc.toList.length := by rw [List.length_zip] at hj; omega
    have hj2 : j < xs.length := by omega
    rw [List.getElem_zip] at ej
    subst ej
    obtain ⟨k, x, e1, e2⟩ := got.2 j acc.toList[j] (by rw [← Array.getElem?_toList]; exact List.getElem?_eq_getElem hj1)
    have e3 : (es.map (·.1))[j]? = some k := by rw [List.getElem?_map, e1] <;> rfl
    rw [keys, List.getElem?_map, List.getElem?_eq_getElem hj2] at e3
    cases (show some (Sum.inr xs[j]) = some k from e3)
    exact Value.isStrOf_shape (x := xs[j]) (v := acc.toList[j]) e2
  have lenZ : acc.toList.length ≤ sizeLine := by rw [len, ← size]; exact z16
  have I1 : L2.Inv X pins σ H { s with heap := h1, toks := tk } := I.kept kp
  refine wpAny_bind (wpAny_newList ?_ lenZ)
  have newl : (h1.push (seqObj "list" acc.toList.toArray 0)).get? h1.objs.size = some (seqObj "list" acc.toList.toArray 0) := Heap.get?_push_size _ rfl
  show wpAny _ _ _ _ _ { s with heap := h1.push (seqObj "list" acc.toList.toArray 0), toks := tk }
  refine wpAny_bind (wpAny_holding ?_)
  refine list_sort_key_data (s := { s with heap := h1.push (seqObj "list" acc.toList.toArray 0), toks := tk }) (bs := xs) (R := fun v x => ∃ t, v = Value.str x t) (f := .type "str") (b := false) PyData.str newl txts (alikeS xs) (sortableS xs)
    (by rw [← len]; exact lenZ) (fun x _ => ?_) (PyProof.Rows.ksk_l1 _ _) rfl (fun v x hv _ h tk kp => ?_) (fun out c h' tk' kp' at_ len' each => ?_)
  · show X.A.units + 1 + 1 + PyData.depth (.str x) < cLine
    have : PyData.depth (.str x) ≤ 1 := by first | exact Nat.le_refl _ | exact Nat.zero_le _ | decide
    omega
  · obtain ⟨t, rfl⟩ := hv
    exact PySem.P.str_of_str ⟨h, tk, rfl, fun _ _ e => e, .str x t⟩
  · have e : out.length = (srtS xs).length := by rw [len']; exact (List.length_mergeSort xs).symm
    have old : ∀ b o, h1.get? b = some o → h'.get? b = some o := fun b o hb => kp' b o (Nat.ne_of_lt (Heap.lt_size hb)) (Heap.get?_push_of_some _ hb)
    refine wpAny_pure ⟨_, rfl, .ref h1.objs.size, upd H h1.objs.size (.lst ((srtS xs).map V.str)), I1.laid (t' := tk') old (Nat.le_refl _) ⟨by rw [List.length_map, ← e, len', ← len]; exact lenZ, out, c, strs_each each, at_⟩, rfl, q _ (I1.hok.fresh (Nat.le_refl _))⟩
theorem srtS_perm (xs : List Str) : (srtS xs).Perm xs := List.mergeSort_perm xs _
theorem srtS_len (xs : List Str) : (srtS xs).length = xs.length := List.length_mergeSort xs
end SortStr
end

-- SetStr
section
set_option Elab.async false
set_option linter.all false
set_option maxRecDepth 100000
/-! len(set(xs)), xs any texts (up to 4000). -/
namespace SetStr
open PySem PySem.Spec PyProof.Rows
/-- how many unlike ones stand among the first i -/
def cnt (xs : List Str) : Nat → Nat
  | 0 => 0
  | i + 1 => if xs.getD i Str.empty ∈ xs.take i then cnt xs i else cnt xs i + 1
theorem cnt_succ (xs : List Str) (i : Nat) : cnt xs (i + 1) = if xs.getD i Str.empty ∈ xs.take i then cnt xs i else cnt xs i + 1 := rfl
theorem cnt_le (xs : List Str) : ∀ i, cnt xs i ≤ i
  | 0 => Nat.le_refl _
  | i + 1 => by
    rw [cnt_succ]
    have := cnt_le xs i
    split <;> omega
theorem cnt_nodup {xs : List Str} (h : xs.Nodup) : ∀ i, i ≤ xs.length → cnt xs i = i
  | 0, _ => rfl
  | i + 1, hi => by
    rw [cnt_succ]
    have hl : i < xs.length := hi
    have e : xs.getD i Str.empty = xs[i] := by rw [List.getD_eq_getElem?_getD, List.getElem?_eq_getElem hl] <;> rfl
    rw [if_neg, cnt_nodup h i (by omega)]
    rw [e]
    intro z
    obtain ⟨j, hj, ej⟩ := List.getElem_of_mem z
    have hj' : j < i := by rw [List.length_take] at hj; omega
    rw [List.getElem_take] at ej
    have := (List.getElem_inj h).mp ej
    omega
theorem cnt_bad {xs : List Str} {i j : Nat} (hij : i < j) (hj : j < xs.length) (e : xs.getD i Str.empty = xs.getD j Str.empty) : ∀ k, j < k → cnt xs k < k
  | 0, h => by omega
  | k + 1, h => by
    rw [cnt_succ]
    by_cases hk : k = j
    · subst hk
      have m : xs.getD k Str.empty ∈ xs.take k := by
        rw [← e]
        have hi : i < xs.length := by omega
        have e2 : xs.getD i Str.empty = xs[i] := by rw [List.getD_eq_getElem?_getD, List.getElem?_eq_getElem hi] <;> rfl
        rw [e2, List.mem_take_iff_getElem]
        exact ⟨i, by omega, rfl⟩
      rw [if_pos m]
      have := cnt_le xs k
      omega
    · have := cnt_bad hij hj e k (by omega)
      split <;> omega
abbrev mem (xs : List Str) (i : Nat) : Str → Bool := fun k => decide (k ∈ xs.take i)
theorem mem_succ {xs : List Str} {i : Nat} (h : i < xs.length) (k : Str) : mem xs (i + 1) k = (mem xs i k || decide (k = xs.getD i Str.empty)) := by
  have e : xs.getD i Str.empty = xs[i] := by rw [List.getD_eq_getElem?_getD, List.getElem?_eq_getElem h] <;> rfl
  rw [e, ← Bool.decide_or]
  exact decide_eq_decide.mpr (by rw [List.take_succ_eq_append_getElem h, List.mem_append, List.mem_singleton])
section
variable {prog : Program} {w : World} {A : Around} {R : Result → Shared → Prop} {it : Addr} {fp wr : List Addr} {G : Array GenState → Array GenState → Prop} {n : Nat} {T : Nat → Value → Prop} {Z : Nat → Shared → Prop}
theorem fill (W : WalksS prog w A.in1 it fp wr G n T Z) (a : Addr) (out : a ∉ fp) (xs : List Str) (len : xs.length = n) (few : n ≤ 4000) (txt : ∀ i v, T i v → ∃ t, v = .str (xs.getD i Str.empty) t) :
    ∀ (k i : Nat) (s : Shared), n - i = k → i ≤ n → Z i s → s.heap.SetOf (strKind prog w) a (mem xs i) (cnt xs i) →
      (∀ s', Moved (a :: wr) G s s' → s'.heap.SetOf (strKind prog w) a (mem xs n) (cnt xs n) → R (.ok (.ret .none)) s') → codeAny (model prog w) A (.builtin "set.update.loop" ⟨[.ref a, .ref it], []⟩) R s := by
  have out' : a ∉ wr := fun h => out (W.sub _ h)
  intro k
  induction k with
  | zero =>
    intro i s hk hi hst hS fin
    cases (show n = i by omega)
    refine codeAny_builtin F.entry_set_update_loop (by
      rw [Around.under_plainId F.plain_set_update_loop _]
      refine wpAny_bind (m := pyNext (.ref it)) (W.done s _ _ hst fun s' hm => ?_)
      refine wpAny_pure (fin s' (hm.mono fun b h => List.mem_cons_of_mem _ h) ?_)
      obtain ⟨o, es, ep, t, ho, rest⟩ := hS
      exact ⟨o, es, ep, t, hm.heap a _ out' ho, rest⟩)
  | succ k ih =>
    intro i s hk hi hst hS fin
    have lt : i < n := by omega
    refine codeAny_builtin F.entry_set_update_loop (by
      rw [Around.under_plainId F.plain_set_update_loop _]
      refine wpAny_bind (m := pyNext (.ref it)) (W.item i s _ _ lt hst fun v s1 hv st1 hm => ?_)
      obtain ⟨t, rfl⟩ := txt i v hv
      have S1 : s1.heap.SetOf (strKind prog w) a (mem xs i) (cnt xs i) := let ⟨o, es, ep, tb, ho, rest⟩ := hS; ⟨o, es, ep, tb, hm.heap a _ out' ho, rest⟩
      refine wpAny_bind (m := holding [Value.str (xs.getD i Str.empty) t] (setAdd a (.str (xs.getD i Str.empty) t))) (wpAny_holding ?_)
      unfold setAdd
      refine wpAny_holding (wpAny_bind ((strKind prog w).pyHash (k := xs.getD i Str.empty) (strKind_is _ _ _ _) ?_))
      have room : cnt xs i + 1 < scanBound := by
        have := cnt_le xs i
        unfold scanBound
        omega
      refine wpAny_setAddHashed_of (knd := strKind prog w) (s := { s1 with toks := s1.toks + 1 }) (strKind_is _ _ _ _) rfl S1 room fun h' sb S2 => ?_
      have S3 : h'.SetOf (strKind prog w) a (mem xs (i + 1)) (cnt xs (i + 1)) := SetOf_congr S2 (fun k' => (mem_succ (by omega) k').symm) (by
        rw [cnt_succ]
        by_cases hm : xs.getD i Str.empty ∈ xs.take i
        · rw [if_pos hm, if_pos (decide_eq_true hm)]
        · rw [if_neg hm, if_neg (fun z => hm (of_decide_eq_true z))])
      refine wpAny_pure ⟨plainId_quiet F.plain_set_update_loop _, ih (i + 1) _ (by omega) lt (W.frame _ s1 _ _ st1 (Nat.le_succ _) fun b hb o e => (sb.2 b fun h : b = a => out (h ▸ hb)).trans e) S3 fun s2 m2 S4 => fin s2 ?_ S4⟩
      exact Moved.trans W.gtrans ((hm.mono fun b h => List.mem_cons_of_mem _ h).then_heap (Nat.le_succ _) fun b o hb e => (sb.2 b fun h : b = a => hb (h ▸ List.mem_cons_self)).trans e) m2)
end
section
variable {prog : Program} {w : World} {A : Around} {E : Value → Shared → Prop} {s : Shared}
/-- a set that holds nothing yet -/
abbrev bare (led : Bool) : Obj := { cls := .type "set", dict := none, data := .set #[] 0 (.fresh 0 0 led) }
abbrev made (s : Shared) (led : Bool) : Shared := { s with heap := s.heap.push (bare led) }
/-- what stands behind set(xs) -/
def Filled (prog : Program) (w : World) (s : Shared) (xs : List Str) (h : Heap) : Prop :=
  h.SetOf (strKind prog w) s.heap.objs.size (mem xs xs.length) (cnt xs xs.length) ∧ ∀ b o, b < s.heap.objs.size → s.heap.get? b = some o → h.get? b = some o
theorem init_set {l : Addr} {items : Array Value} {xs : List Str} {led : Bool} (calm : A.handled = none) (hl : s.heap.IsList l items) (ht : StrsAre items.toList xs) (few : xs.length ≤ 4000)
    {Q : PySem.Fin → Shared → Prop} (fin : ∀ h' tk, Filled prog w s xs h' → Q (.done (.ret .none)) { s with heap := h', toks := tk }) :
    wpAny (model prog w) A (Builtin.«set.__init__» ⟨[Value.ref s.heap.objs.size, Value.ref l], []⟩) Q E (made s led) := by
  have new : (made s led).heap.get? s.heap.objs.size = some (bare led) := Heap.get?_push_size _ rfl
  obtain ⟨o, ho, hc, nl, hd⟩ := hl
  obtain ⟨oc, od, oe, os⟩ := o
  cases hc
  cases hd
  have hl : s.heap.IsList l items := ⟨_, ho, rfl, nl, rfl⟩
  have ho1 : (made s led).heap.get? l = some { cls := .type "list", dict := od, data := .seq items nl, slots := os } := Heap.get?_push_of_some _ ho
  have hl1 : (made s led).heap.IsList l items := ⟨_, ho1, rfl, nl, rfl⟩
  have f1 := F.sub_list_set
  have f2 := F.sub_list_frozenset
  have f3 : (Value.type "list" == Value.type "dict") = false := by decide
  have lt : l < s.heap.objs.size := Heap.lt_size ho
  have sz : (made s led).heap.objs.size = s.heap.objs.size + 1 := Heap.size_push _ _
  have tx : xs.length = items.size := by rw [← StrsAre.len_eq ht, Array.length_toList]
  unfold Builtin.«set.__init__» noKeywords Builtin.Frozenset.updateFrom
  unfold made at *
  generalize hPI : pyIter = PI
  wp_walk
  subst hPI
  refine wpAny_pyIter_list hl1 (wpAny_bind (wpAny_runValue ?_))
  have apart : l ≠ (s.heap.push (bare led)).objs.size := by rw [sz]; exact Nat.ne_of_lt (Nat.lt_succ_of_lt lt)
  have out : s.heap.objs.size ∉ [(s.heap.push (bare led)).objs.size, l] := by
    rw [sz]
    simp only [List.mem_cons, List.not_mem_nil, or_false, not_or]
    exact ⟨Nat.ne_of_lt (Nat.lt_succ_self _), Nat.ne_of_gt lt⟩
  have at0 : ((s.heap.push (bare led)).push { cls := .type "list_iterator", data := .fields #[.ref l, .int 0 0] }).get? s.heap.objs.size = some (bare led) := Heap.get?_push_of_some _ new
  refine fill ((Walks.list (by simp [calm]) _ l apart items).toS) s.heap.objs.size out xs tx (by omega) (fun i v hv => SS.strs_at ht i v (by rw [Array.getElem?_toList]; exact hv)) (items.size - 0) 0 _ (by omega) (Nat.zero_le _) ⟨⟨_, Heap.get?_push_size _ rfl, rfl, rfl⟩, (hl1.push _)⟩
    (SetOf_congr ((setObjOf_fresh (knd := strKind prog w) led).setOf at0 (by unfold scanBound; omega)) (fun _ => rfl) rfl) fun s2 mv S2 => ?_
  obtain ⟨h2, g2, d2, tk, os2⟩ := s2
  cases (show g2 = s.gens from mv.gens)
  cases (show d2 = s.drawn from mv.drawn)
  cases (show os2 = s.os from mv.os)
  refine wpAny_pure (wpAny_pure (fin h2 tk ⟨by rw [tx]; exact S2, fun b o hb e => mv.heap b o ?_ (Heap.get?_push_of_some _ (Heap.get?_push_of_some _ e))⟩))
  simp only [List.mem_cons, List.not_mem_nil, or_false, not_or]
  exact ⟨Nat.ne_of_lt hb, by rw [sz]; exact Nat.ne_of_lt (Nat.lt_succ_of_lt hb)⟩
set_option maxHeartbeats 1600000 in
theorem call_set {l : Addr} {items : Array Value} {xs : List Str} {Q : Value → Shared → Prop} (calm : A.handled = none) (hl : s.heap.IsList l items) (ht : StrsAre items.toList xs) (few : xs.length ≤ 4000)
    (fin : ∀ (h' : Heap) (tk : Nat), Filled prog w s xs h' → Q (.ref s.heap.objs.size) { s with heap := h', toks := tk }) : wpAny (model prog w) A (call (.type "set") [.ref l]) Q E s := by
  obtain ⟨c, tl, hmro⟩ := F.called_set.mro
  have k1 := F.called_set.made
  have k2 := F.called_set.sub
  have k3 := F.called_set.notType
  have k4 := F.called_set.canCreate
  have k5 := F.typeCall_set_1 (.ref l)
  refine wpAny_call (codeAny_of_tree (wpAny_pure (M := model prog w) ⟨Code.quiet_builtin _ (by decide +kernel), codeAny_builtin F.entry_type_call ?_⟩))
  rw [Around.under_plain (weight_type_call_type "set" [.ref l] []) rfl]
  repeat (any_goals (first | assumption | wp_step))
  refine codeAny_mono (code_set_new_1 (.ref l) (E := E) (Q₁ := fun x s1 => ∃ led : Bool, x = .ref s.heap.objs.size ∧ s1 = made s led) fun led => ⟨led, rfl, rfl⟩) fun r s1 hr => ?_
  rcases r with e | (_ | _ | _ | x)
  · exact hr
  · exact hr.elim
  · exact hr.elim
  · exact hr.elim
  obtain ⟨led, rfl, rfl⟩ := hr
  have ty : Shared.TypeIs (made s led) (.ref s.heap.objs.size) "set" := ⟨_, Heap.get?_push_size _ rfl, rfl⟩
  have b1 := F.called_set.init.lookup
  have b2 := F.called_set.init.bind (.ref s.heap.objs.size)
  repeat (any_goals (first | assumption | wp_step))
  refine codeAny_call_builtin F.called_set.init.plain F.entry_set_init (check_set_init_1 ty (init_set (by simp [calm]) hl ht few fun h' tk fl => ?_))
  refine wpAny_pure ?_
  repeat (any_goals (first | assumption | wp_step))
  exact fin _ _ fl
end
section
variable {X : L2.Cx}
open L2
theorem strsAre : ∀ {xs : List Str} {us : List Value}, Vals (xs.map V.str) us → StrsAre us xs
  | [], _, r => by cases r; exact .nil
  | x :: xs, _, r => by
    cases r with
    | cons a b =>
      obtain ⟨t, rfl⟩ := a
      exact .cons x t (strsAre b)
/-- len(set(xs)), xs a list of texts -/
def tLenS (K : PySem.W.Frag) (ta : TE) : TE := fun σ H Q => ta σ H fun x H1 => ∃ (l : Addr) (xs : List Str), x = .ref l ∧ SqL K H1 l (xs.map V.str) ∧ xs.length ≤ 4000 ∧ Q (.int (cnt xs xs.length : Nat)) H1
theorem pe_lenS {a : Expr} {ta : TE} {p p2 q pos : Pos} (hg : Gl X "len") (hm : X.mg "len" = none) (hg2 : Gl X "set") (hm2 : X.mg "set" = none) (ha : PE X a ta) (calm : X.calm = true := by rfl)
    (one : starEach [a] X.env = (false, eval a X.env) :: starEach [] X.env := by rfl) : PE X (.Call (.Name "len" p) [.Call (.Name "set" p2) [a] [] q] [] pos) (tLenS X.K ta) := by
  refine ⟨fun pins s σ H Q I h => Call_ (ld_blt I hg hm boot_len (callWith_builtin1 (args_cons (Call_ (ld_blt I hg2 hm2 boot_set ?_)) rfl) rfl rfl))⟩
  refine callWith_type1 (args_cons (thn (ha.run pins s σ H _ I h) fun v s1 ⟨x, H1, I1, r1, l, xs, e, hq, few, fin⟩ => args_nil ?_) one) one rfl
  subst e
  cases r1
  obtain ⟨its, r, pl, hz⟩ := I1.list hq
  refine call_set (I1.ok.hd calm) pl.isList (by simpa using strsAre r) few fun h' tk fl => args_nil ?_
  obtain ⟨⟨o, es, ep, t, ho, hex, hd, _, _, _, hf, hn⟩, hk⟩ := fl
  have small : cnt xs xs.length ≤ 4000 := Nat.le_trans (cnt_le xs _) few
  have I2 : L2.Inv X pins σ H1 { s1 with heap := h', toks := tk } := I1.kept fun b o e => hk b o (Heap.lt_size e) e
  exact call_len_set ho hex hd hf (by rw [hn]; omega) ⟨.int (cnt xs xs.length : Nat), H1, I2.tok _, ⟨_, by rw [hn]⟩, fin⟩
end
end SetStr
end

-- DictList
section
set_option Elab.async false
set_option linter.all false
set_option maxRecDepth 100000
/-! list(d.values()); a star of a dict in a display. -/
namespace DictList
open PySem L2 PySem.W PyProof.Rows
theorem vals_kv : ∀ {kvs : List (Key × V)} {vs : List (Key × Value)}, KV kvs vs → Vals (kvs.map (·.2)) (vs.map (·.2))
  | _, _, .nil => .nil
  | _, _, .cons r t => .cons r.2 (vals_kv t)
section
variable {X : Cx}
/-- list(e.values()) -/
def tListV (te : TE) : TE := fun σ H Q => te σ H fun x H1 => ∃ (d : Addr) (kvs : List (Key × V)), x = .ref d ∧ Rd H1 d (.dK kvs) ∧ ∀ p, H1 p = none → Q (.ref p) (upd H1 p (.lst (kvs.map (·.2))))
theorem pe_listV {e : Expr} {te : TE} {p apos cpos pos : Pos} (he : PE X e te) (hg : Gl X "list") (hm : X.mg "list" = none) (calm : X.calm = true := by rfl) (hv : bootBuiltins "list" = some (.type "list") := by decide +kernel)
    (hbase : attributeBase e "values" X.env (eval e X.env) = eval e X.env := by rfl) (hline : (apos.endLine == cpos.line) = true := by rfl)
    (hs : starEach [.Call (.Attribute e "values" apos) [] [] cpos] X.env = (false, eval (.Call (.Attribute e "values" apos) [] [] cpos) X.env) :: starEach [] X.env := by rfl) :
    PE X (.Call (.Name "list" p) [.Call (.Attribute e "values" apos) [] [] cpos] [] pos) (tListV te) := by
  refine ⟨fun pins s σ H Q I hq => wpAny_Call_Name_kw (ld_blt I hg hm hv (callWith_type1 (by
    rw [hs]
    refine Calls.spliced_cons (wpAny_Call_method (T := "dict") (id := "dict.values") hbase rfl hline F.plainAttrs_dict F.slot_dict_values F.type_dict_values (thn (he.run pins s σ H _ I hq) fun u s1 ⟨x, H1, I1, rx, d, kvs, ex, hd, q⟩ => ?_))
    subst ex
    obtain rfl : u = Value.ref d := rx
    obtain ⟨hz, lo, vs, kv, hdo⟩ := dk_rd I1.hok hd
    obtain ⟨ep, hat⟩ := hdo.dictAt
    have lk : kvs.length = vs.length := Paired.length kv
    have I2 : L2.Inv X pins σ H1 { s1 with heap := s1.heap.push { cls := .type "dict_values", data := .fields #[.ref d] } } := I1.kept (t' := s1.toks) fun b ob q => Heap.get?_push_of_some _ q
    refine ⟨hdo.typeIs, hdo.mapOf.noDict, ?_⟩
    refine method_meetsIn F.slot_dict_values F.entry_dict_values rfl (PySem.evalArgs_none ⟨rfl, hdo.typeIs, F.args_dict_values_1 _, _, meets_dict_values (mixKind X.prog X.w) d lo, ⟨vs, hdo⟩, Calls.spliced_nil ?_⟩)
    refine kdl_call (kdl_values (knd := mixKind X.prog X.w) (kvs := vs) (ep := ep)) (I1.ok.hd calm) ⟨⟨_, Heap.get?_push_size _ rfl, rfl, rfl⟩, hat.push _⟩ (by rw [← lk]; exact hz) fun h' tk acc c hk hS got => ?_
    have e : acc.toList = vs.map (·.2) := kdl_vals_eq (kvs := vs) acc.toList (by rw [Array.length_toList]; exact got.1) fun j v hj => got.2 j v (by rw [← Array.getElem?_toList]; exact hj)
    have rv : Vals (kvs.map (·.2)) acc.toList := by rw [e]; exact vals_kv kv
    exact ⟨.ref _, upd H1 _ (.lst (kvs.map (·.2))), I2.laid (t' := tk) hk (Nat.le_refl _) ⟨by rw [List.length_map]; exact hz, acc.toList, c, rv, by rw [Array.toArray_toList]; exact hS⟩, rfl, q _ (I2.hok.fresh (Nat.le_refl _))⟩) hs rfl))⟩
/-- *e in a display, e a dict -/
def tStarD (te : TE) (t : TA) : TA := fun σ H Q => te σ H fun x H1 => ∃ (d : Addr) (kvs : List (Key × V)), x = V.ref d ∧ Rd H1 d (.dK kvs) ∧ t σ H1 fun ys H2 => Q (kvs.map (fun p => kV p.1) ++ ys) H2
theorem pa_starD {e : Expr} {es : List Expr} {te : TE} {t : TA} {p : Pos} (he : PE X e te) (hr : PA X es t) (calm : X.calm = true := by rfl) (hs : starEach (.Starred e p :: es) X.env = (true, eval e X.env) :: starEach es X.env := by rfl) : PA X (.Starred e p :: es) (tStarD te t) := by
  refine ⟨fun pos pins s σ H Q I h => items_star (thn (he.run pins s σ H _ I h) fun v s1 ⟨y, H1, I1, ry, d, kvs, ey, hd, q⟩ => ?_) hs⟩
  subst ey
  obtain rfl : v = Value.ref d := ry
  obtain ⟨hz, lo, vs, kv, hdo⟩ := dk_rd I1.hok hd
  obtain ⟨ep, hat⟩ := hdo.dictAt
  have lk : kvs.length = vs.length := Paired.length kv
  unfold StarOf notIterableAtAll
  refine wpAny_bind (wpAny_specialOf hdo.typeIs F.slot_dict_iter.lookup (wpAny_pure ⟨rfl, ?_⟩))
  refine kdu_collect (kdl_dict (knd := mixKind X.prog X.w) (kvs := vs) (ep := ep) lo) (I1.ok.hd calm) hat (by rw [← lk]; exact hz) fun h' tk acc kp got => ?_
  have I2 : L2.Inv X pins σ H1 { s1 with heap := h', toks := tk } := I1.kept kp
  have rv : Vals (kvs.map fun p => kV p.1) acc.toList := by
    refine vals_of_at (by rw [List.length_map, Array.length_toList]; exact lk.trans got.1.symm) fun j x u hx hu => ?_
    obtain ⟨k, x0, e1, e2⟩ := got.2 j u (by rw [← Array.getElem?_toList]; exact hu)
    rw [List.getElem?_map] at hx
    cases e3 : kvs[j]? with
    | none => rw [e3] at hx; cases hx
    | some kv0 =>
      rw [e3] at hx
      cases hx
      obtain ⟨y, e4, e5⟩ := LiI.paired_get kv e3
      rw [e1] at e4
      cases e4
      show RelV (kV kv0.1) u
      rw [show kv0.1 = k from e5.1]
      exact keyIs_rel e2
  exact thn (hr.run pos pins _ σ H1 _ I2 q) fun ws s3 ⟨vs3, H3, I3, r3, q3⟩ => ⟨_ ++ vs3, H3, I3, rv.append r3, q3⟩
end
end DictList
end

-- IterOwn
section
set_option Elab.async false
set_option linter.all false
set_option maxRecDepth 100000
/-! for x in o, o an instance whose __iter__ hands back a list's iterator: defs whose promise knows how many objects stood at the call. -/
namespace IterOwn
open PySem PySem.Spec L2 PyProof.Rows OwnOps
/-- a def's promise that may speak of the number of objects at the call -/
def FnY (P : Program) (w : World) (K : PySem.W.Frag) (mg : Str → Option Value) (base : Heap) (CX : CXT) (k : Nat) (f : Addr) (fd : FuncData) (ps : List Str) (sp : Nat → Sp) : Prop :=
  ∀ (A : Around) (outer : List Env) (s : Shared) (H : Hp) (args : Args) (us : List Value) (vs : List V) (Q : VK) (E : XK), Room k A → Env0 P w K mg base A outer s H → BindsTo s fd args (ps.zip us) → Vals vs us → us.length = ps.length →
    sp s.heap.objs.size vs H Q E → codeAny (model P w) A (.call (.ref f) args) (CR CX outer P w H s Q E) s
section
variable {P : Program} {w : World} {K : PySem.W.Frag} {mg : Str → Option Value} {base : Heap}
theorem okY {x qual : Str} {st : Stmt} {f : Addr} {fd : FuncData} {N ps : List Str} {k : Nat} {sp : Nat → Sp} (F : Fun K x qual st f fd) (S : FnScope N ps (defScope st))
    (body : ∀ (cdv : Value) (A : Around) (outer : List Env) (s : Shared) (H : Hp) (vs : List V) (Q : VK) (E : XK), Room k (A.deeper (envOfC qual (defScope st) s.heap.objs.size f cdv)) → sp s.heap.objs.size vs H Q E →
      ∃ t, PSs (cxOf (L2.CX P w) P w K mg base N qual (defScope st) f cdv A outer s H E) (defBody st) t ∧ t { nx := fun _ H' => Q .non H', rt := Q } (start N vs) H) : FnY P w K mg base (L2.CX P w) (k + 1) f fd ps sp := by
  obtain ⟨oc, od, kV, doc, pm, an, cdv, ct, osl, rfl, lk, code⟩ := F.ex
  intro A outer s H args us vs Q E room e0 bound rel len want
  have live : ∀ b o, base.get? b = some o → s.heap.get? b = some o := fun b o e => (e0.bs b o e).1
  have KX : K.In s.heap := e0.mod.kin.keeps live
  have kinds : ∀ y ∈ ps.zip us, (defScope st).names.lookup y.1 = some .local ∨ ((defScope st).names.lookup y.1 = some .cell ∧ ((cellsFrom (s.heap.objs.size + 1) (defScope st).names []).lookup y.1).isSome = true) := by
    rintro ⟨n, v⟩ hy
    exact (S.par n (List.of_mem_zip hy).1).imp id fun q => ⟨q, PySem.W.cellsFrom_some _ _ _ (.inl q)⟩
  refine codeAny_call_function room.depth (KX _ _ lk) rfl S.co S.gen rfl (PySem.W.codeRec_of KX code) (bound _ _ _ _ (wpAny_newFunctionEnv_cells S.kind kinds fun env he s1 x => ?_))
  subst he
  obtain ⟨t, run, got⟩ := body cdv A outer s H vs Q E (room.deeper _) want
  have I : L2.Inv (cxOf (L2.CX P w) P w K mg base N qual (defScope st) f cdv A outer s H E) [] (start N vs) H s1 := inv_start S room.hd e0 (rel.length.trans len) rel x
  refine ⟨(e0.mod.nolimit.keeps live).keeps x.toInCall.keep, codeAny_func (wpAny_mono (run.run [] s1 (start N vs) H _ I got) (fun fl s' hs => ?_) fun _ _ z => z)⟩
  rcases fl with _ | _ | _ | u
  · obtain ⟨_, H', J, q⟩ := hs
    exact ⟨V.non, H', J.os, J.bare, J.base, J.hok, rfl, q⟩
  · exact hs.choose_spec.choose_spec.2.elim
  · exact hs.choose_spec.choose_spec.2.elim
  · obtain ⟨v, _, H', J, rv, q⟩ := hs
    exact ⟨v, H', J.os, J.bare, J.base, J.hok, rv, q⟩
end
section
variable {X : Cx} {pins : List (Addr × Obj)} {σ : L2.St} {H : Hp} {s : Shared} {g : Addr} {fd : FuncData} {ps : List Str} {k : Nat} {sp : Nat → Sp} {E : XK} {A : Around}
theorem run_Y {Q : VK} {us : List Value} {vs : List V} (F : FnY X.prog X.w X.K X.mg X.base (L2.CX X.prog X.w) k g fd ps sp) (hr : Room k A) (e0 : Env0 X.prog X.w X.K X.mg X.base A X.stack s H)
    (hb : L2.Binds X.K fd ps []) (hx : Passes (L2.CX X.prog X.w) X E) (I : L2.Inv X pins σ H s) (r : Vals vs us) (len : us.length = ps.length) (h : sp s.heap.objs.size vs H Q E) :
    wpAny (model X.prog X.w) A (call (.ref g) us) (EP X pins σ Q) X.xe s := by
  have bd := hb s us I.kIn (by rw [List.append_nil]; exact len)
  rw [List.append_nil] at bd
  refine wpAny_call (codeAny_mono (F A X.stack s H ⟨us, []⟩ us vs Q E hr e0 bd r len h) fun res s' hq => ?_)
  rcases res with e | (_ | _ | _ | u)
  · exact hx pins σ H s e s' I hq
  · exact hq.elim
  · exact hq.elim
  · exact hq.elim
  · exact I.after hq
/-- an own __iter__ -/
structure ItL (K : PySem.W.Frag) (C fi : Addr) : Prop where
  it : PySem.W.findIn K (.ref C) "__iter__" = some (some (.ref fi))
  fn : PySem.W.isFn K (.ref fi) = true
def iOwn (n : Nat) (K : PySem.W.Frag) (C : Addr) (sp : Nat → Sp) (E : XK) (te : TE) : TI := fun σ H R => te σ H fun x H1 => ∃ (a dx : Addr) (fs : List (Str × V)), x = .ref a ∧ H1 a = some (.ins C dx fs) ∧
  ∀ m, n ≤ m → sp m [.ref a] H1 (fun v H2 => ∃ (it l : Addr) (i0 : Nat), v = .ref it ∧ H2 it = some (ItO l it i0) ∧ m ≤ it ∧ R (ItX.ItlF K l i0) (ItX.dropH H2 it)) E
theorem pi_own {C : Addr} {tg e : Expr} {te : TE} (he : PE X e te) (hc : ItL X.K C g) (F : FnY X.prog X.w X.K X.mg X.base (L2.CX X.prog X.w) k g fd ["self"] sp) (hr : Room k X.A) (hb : L2.Binds X.K fd ["self"] []) (hx : Passes (L2.CX X.prog X.w) X E) :
    PI X tg e (iOwn X.s_0.heap.objs.size X.K C sp E te) := by
  refine ⟨fun pins s σ H R I h => thn (he.run pins s σ H _ I h) fun u s1 ⟨x, H1, I1, r1, a, dx, fs, ex, ha, q⟩ => ?_⟩
  subst ex
  cases r1
  obtain ⟨mA, J, _⟩ := ins_get I1.hok ha
  obtain ⟨od, J, _⟩ := J.look
  obtain ⟨m0, hF⟩ := I1.fr
  refine PySem.W.owit_iter hF I1.ok.mod.kin J hc.it hc.fn (thn (run_Y (us := [.ref a]) (vs := [.ref a]) F hr I1.env0 hb hx I1 (.cons rfl .nil) rfl (q _ I1.sz)) fun u s2 ⟨v, H2, I2, r2, it, l, i0, ev, hi, yn, fin⟩ => ?_)
  subst ev
  cases r2
  have eo := itO_get I2 hi
  have ty : s2.TypeIs (.ref it) "list_iterator" := ⟨_, eo, rfl⟩
  have st : s2.heap.IsListIter it l (i0 + 0) := ⟨_, eo, rfl, rfl⟩
  unfold PySem.W.OwitIt
  refine wpAny_specialOf (name := Str.ofString "__next__") ty slot_listiter_next.lookup ⟨it, [it], _, _, ItX.dropH H2 it, rfl, ItX.inv_drop I2 hi, ItX.turn_listF l it i0, st, fun b hb => ?_, fin⟩
  rw [List.mem_singleton.mp hb]
  exact ItX.inv_fp I2 hi (Nat.le_trans I1.sz yn)
end
end IterOwn
end

-- OwnNe
section
set_option Elab.async false
set_option linter.all false
set_option maxRecDepth 100000
/-! != of two lists that are equal item by item, by an own == too. -/
namespace OwnNe
open PySem PySem.SeqAt GQ
open AutoSeq1 (wpAny_loadPart')
open MeetsSeq MeetsSeq2 MeetsSeq3 SeqRoads2
section
variable {prog : Program} {w : World} {A : Around} {R : Result → Shared → Prop} {E : Value → Shared → Prop}
/-- the loop over the items, from i on: all are equal, so the answer is no -/
theorem loopN (l b : Addr) (N : Nat) (I : Nat → Shared → Prop) (hl : ListI prog w A (fun e s' => R (.error e) s') l b N I) (fin : ∀ s, I N s → R (.ok (.ret (.bool false))) s) :
    ∀ (k i : Nat), N - i = k → i ≤ N → ∀ s, I i s → wpAny (model prog w) A.in1 (Builtin.«list.__eq__.loop» ⟨[.ref l, .ref b, rawInt i, rawInt 3], []⟩) (FinOf prog w A R) (fun e s' => R (.error e) s') s
  | 0, i, hk, hi, s, h => by
    obtain ⟨xs, ys, n, n2, hl1, hb1, z1, z2, _⟩ := hl _ _ h
    have last : i = N := by omega
    have done : R (.ok (.ret (.bool false))) s := fin s (last ▸ h)
    obtain ⟨hp, g, d, tk, os⟩ := s
    wp_walk using wpAny_loadPart' hl1, wpAny_loadPart' hb1
    have no1 : xs[((i : Nat) : Int).toNat]? = none := by simp; omega
    have no2 : ys[((i : Nat) : Int).toNat]? = none := by simp; omega
    rw [no1, no2]
    wp_walk using wpAny_loadPart' hl1, wpAny_loadPart' hb1
    show R (.ok (.ret (.bool (xs.size != ys.size)))) _
    rw [z1, z2]
    simpa using done
  | k + 1, i, hk, hi, s, h => by
    obtain ⟨xs, ys, n, n2, hl1, hb1, z1, z2, one⟩ := hl _ _ h
    have lt1 : i < xs.size := by omega
    have lt2 : i < ys.size := by omega
    have here := one lt1 lt2
    obtain ⟨hp, g, d, tk, os⟩ := s
    wp_walk using wpAny_loadPart' hl1, wpAny_loadPart' hb1
    have is1 : xs[((i : Nat) : Int).toNat]? = some xs[i] := by simp [lt1]
    have is2 : ys[((i : Nat) : Int).toNat]? = some ys[i] := by simp [lt2]
    have up : ((i : Int) + 1) = ((i + 1 : Nat) : Int) := by omega
    rw [is1, is2]
    refine wpAny_bind (wpAny_mono here (fun r s2 q => ?_) fun _ _ x => x)
    obtain ⟨hr, q⟩ := q
    subst hr
    have rest := loopN l b N I hl fin k (i + 1) (by omega) (by omega) s2 q
    obtain ⟨hp2, g2, d2, tk2, os2⟩ := s2
    wp_walk
    rw [up]
    exact ⟨plainId_quiet plain_eq_loop _, codeAny_builtin entry_eq_loop (by rw [Around.under_plainId plain_eq_loop _] <;> exact rest)⟩
theorem listN (l b : Addr) (N : Nat) (I : Nat → Shared → Prop) (hl : ListI prog w A (fun e s' => R (.error e) s') l b N I) (fin : ∀ s, I N s → R (.ok (.ret (.bool false))) s) {s : Shared} (h : I 0 s) :
    wpAny (model prog w) A.in1 (Builtin.«list.__ne__» ⟨[.ref l, .ref b], []⟩) (FinOf prog w A R) (fun e s' => R (.error e) s') s := by
  obtain ⟨xs, ys, n, n2, hl1, hb1, z1, z2, _⟩ := hl _ _ h
  have rest := loopN (A := A) (R := R) l b N I hl fin _ 0 rfl (Nat.zero_le _) s h
  obtain ⟨hp, g, d, tk, os⟩ := s
  have sub := AutoSeq1.sub_list_list
  have same : ¬ (xs.size != ys.size) = true := by simp [z1, z2]
  wp_walk using wpAny_loadPart' hl1, wpAny_loadPart' hb1
  exact ⟨plainId_quiet plain_eq_loop _, codeAny_builtin entry_eq_loop (by rw [Around.under_plainId plain_eq_loop _] <;> exact rest)⟩
theorem rcN {l b : Addr} {N : Nat} {Q : Value → Shared → Prop} {s : Shared} (hu : A.units < cLine) (I : Nat → Shared → Prop) (hl : ListI prog w A E l b N I)
    (fin : ∀ s, I N s → Q (.bool false) s) (h : I 0 s) : wpAny (model prog w) A (richCompare .NotEq (.ref l) (.ref b)) Q E s := by
  obtain ⟨xs, ys, n, n2, hl1, hb1, _, _, _⟩ := hl _ _ h
  refine wpAny_richCompare_same_room (op := .NotEq) ⟨_, hl1, rfl⟩ ⟨_, hb1, rfl⟩ F.slot_list_ne (call_here F.slot_list_ne ⟨_, hl1, rfl⟩ F.entry_list_ne (F.args_list_ne_2 _ _) ?_) hu
  exact listN (R := wants (fun v s' => v ≠ .notImplemented ∧ Q v s') E) l b N I hl (fun s' q => ⟨(fun x => nomatch x), fin s' q⟩) h
end
open L2
/-- x != y of two lists, item by item equal -/
def rNeG (D : Eqv) : R2 := fun x y H Q => DList D x y H ∧ ∀ H', Ext H H' → Q (.bl false) H'
theorem op_neG {X : Cx} {n : Nat} {D : Eqv} (hD : Mon D) (h : EqG X n D) (hr : Room (n + 1) X.A) : OpR X (compareOp .NotEq) (rNeG D) := by
  intro pins s σ H x y v u Q I rx ry hq
  obtain ⟨⟨a, b, xs, ys, rfl, rfl, ha, hb, p⟩, q⟩ := hq
  cases rx
  cases ry
  have sb : Sub X (n + 1) X.A := ⟨hr, rfl⟩
  show wpAny (model X.prog X.w) X.A (richCompare .NotEq (.ref a) (.ref b)) (EP X pins σ Q) X.xe s
  refine rcN (N := xs.length) hr.units0 (fun _ s' => LoopI X pins σ H s') (fun i s' z => ?_) (fun s' ⟨H', I', e⟩ => ⟨.bl false, H', I', rfl, q H' e⟩) ⟨H, I, Ext.rfl'⟩
  obtain ⟨H1, I1, e1⟩ := id z
  obtain ⟨zz, its, k, r, e⟩ := I1.hok a _ (e1 _ _ ha)
  obtain ⟨zz2, its2, k2, r2, e2⟩ := I1.hok b _ (e1 _ _ hb)
  refine ⟨its.toArray, its2.toArray, k, k2, e, e2, by rw [List.size_toArray, ← r.length], by rw [List.size_toArray, ← r2.length, ← p.1], fun h1 h2 => ?_⟩
  exact turnG hD h sb p r r2 i h1 h2 s' z
/-- the same thing -/
def DSame : Eqv := fun x y _ => x = y ∧ ∃ a, x = .ref a
theorem mon_same : Mon DSame := fun _ _ _ _ _ d => d
theorem eqG_same {X : Cx} {n : Nat} : EqG X n DSame := by
  intro A pins s σ H x y u v sb I rx ry d
  obtain ⟨rfl, a, rfl⟩ := d
  cases rx
  cases ry
  exact SeqAt.EqAt.same (A := A) (s := s) (.ref a) X.prog X.w X.xe _ ⟨rfl, H, I, Ext.rfl'⟩
end OwnNe
end

-- OwnNe2
section
set_option Elab.async false
set_option linter.all false
set_option maxRecDepth 100000
namespace OwnNe
open PySem L2
def rNeEmp : R2 := fun x y H Q => ∃ l b xs, x = .ref l ∧ y = .ref b ∧ H l = some (.lst xs) ∧ H b = some (.lst []) ∧ Q (.bl (!xs.isEmpty)) H
/-- a list != [] -/
theorem op_neEmp {X : Cx} (hu : X.A.units < cLine) : OpR X (compareOp .NotEq) rNeEmp := by
  intro pins s σ H x y v u Q I rx ry h
  obtain ⟨l, b, xs, rfl, rfl, hl, hb, q⟩ := h
  cases rx
  cases ry
  obtain ⟨_, its, n, r, _, e⟩ := I.lstM hl
  obtain ⟨_, its2, n2, r2, _, e2⟩ := I.lstM hb
  cases r2
  have L1 : s.heap.IsList l its.toArray := ⟨_, e, rfl, n, rfl⟩
  have L2' : s.heap.IsList b ([] : List Value).toArray := ⟨_, e2, rfl, n2, rfl⟩
  show wpAny (model X.prog X.w) X.A (richCompare .NotEq (.ref l) (.ref b)) (EP X pins σ Q) X.xe s
  cases r with
  | nil => exact PySem.SeqAt.RcNeAt.lists (e := fun _ => true) L1 L2' rfl hu (fun j h1 _ => absurd h1 (by simp)) X.prog X.w X.xe _ ⟨.bl false, H, I, rfl, q⟩
  | cons a r => exact PySem.SeqAt.RcNeAt.lists_lengths L1 L2' (by simp) hu X.prog X.w X.xe _ ⟨.bl true, H, I, rfl, q⟩
end OwnNe
end

-- OwnNe3
section
set_option Elab.async false
set_option linter.all false
set_option maxRecDepth 100000
/-! Either of two rules; != by an own == alone; == of two lists, told as a truth. -/
namespace OwnNe
open PySem PySem.SeqAt GQ L2 OwnOps
open AutoSeq1 (wpAny_loadPart')
open MeetsSeq MeetsSeq2 MeetsSeq3 SeqRoads2
theorem op_or {X : Cx} {f : Value → Value → Sem Value} {r1 r2 : R2} (h1 : OpR X f r1) (h2 : OpR X f r2) : OpR X f (fun x y H Q => r1 x y H Q ∨ r2 x y H Q) := by
  intro pins s σ H x y v u Q I rx ry h
  rcases h with h | h
  · exact h1 pins s σ H x y v u Q I rx ry h
  · exact h2 pins s σ H x y v u Q I rx ry h
section
variable {prog : Program} {w : World} {A : Around} {E : Value → Shared → Prop} {s : Shared} {K : PySem.W.Frag} {x C L f : Addr} {h₀ : Heap} {m : Str → Option Value} {ox : Obj} {od : Option Obj} {b tb : Value}
theorem entry_ne {Q : Fin → Shared → Prop} (hu : A.units < cLine) (X : K.In s.heap) (I : PySem.W.InstAt s.heap x ox C od) (he : PySem.W.findIn K (.ref C) "__eq__" = some (some (.ref f))) (hf : PySem.W.isFn K (.ref f) = true)
    (h : wpAny (model prog w) A (call (.ref f) [.ref x, b]) (fun v s' => ∃ r, v = .bool r ∧ Q (.done (.ret (.bool (!r)))) s') E s) :
    wpAny (model prog w) A (Builtin.«object.__ne__» ⟨[.ref x, b], []⟩) Q E s := by
  unfold Builtin.«object.__ne__»
  repeat (first
    | with_reducible refine wpAny_cRoomFor hu ?_
    | (refine wpAny_bind (m := callSpecialIfBound? (.ref x) (Str.ofString "__eq__") [b])
        (PySem.W.ifBound_K X I he hf (wpAny_mono h (fun r s' hr => by
          obtain ⟨b, rfl, hq⟩ := hr
          repeat (first | exact hq | exact wpAny_pure hq | exact wpAny_truthy_bool hq | (refine wpAny_bind (m := truthy (.bool _)) (wpAny_truthy_bool ?_)) | wp_step)) fun _ _ e => e)))
    | wp_step)
theorem ifBound_ne {M : Model} {args : List Value} {Q : Option Value → Shared → Prop} (X : K.In s.heap) (I : PySem.W.InstAt s.heap x ox C od) (hs : PySem.W.findIn K (.ref C) "__ne__" = some (some (.builtin "object.__ne__")))
    (h : wpAny M A (call (.builtin "object.__ne__") (.ref x :: args)) (fun v => Q (some v)) E s) : wpAny M A (callSpecialIfBound? (.ref x) "__ne__" args) Q E s := by
  simp only [callSpecialIfBound?, bindSpecialIfBound?]
  refine wpAny_holding (wpAny_bind (wpAny_bind (wpAny_bind (I.type.here ((PySem.W.looks_findIn X hs).here ?_)))))
  refine wpAny_bind (wpAny_askSetting (wpAny_ite ?_))
  have fin : wpAny M A (call (.builtin "object.__ne__") ([.ref x] ++ args) >>= fun v => pure (some v)) Q E s := wpAny_bind (wpAny_mono h (fun v s' h' => wpAny_pure h') fun _ _ h' => h')
  split
  · exact wpAny_bind (wpAny_of_eq (F.cmp_object.ne.bind _) (wpAny_pure (by exact fin)))
  · exact wpAny_tryCatch (wpAny_bind (wpAny_of_eq (F.cmp_object.ne.bind _) (wpAny_pure (by exact fin))))
/-- x != b by x's own ==: the class has no != of its own -/
theorem rc_neK {Q : Value → Shared → Prop} (hu : A.units + 1 < cLine) (X : K.In s.heap) (I : PySem.W.InstAt s.heap x ox C od) (hb : PySem.W.Looks (model prog w) s.heap (typeOf b) tb) (hn : PySem.W.notFirst K C tb = true)
    (hm : PySem.W.mroIn K C (.type "object") = some true) (hs : PySem.W.findIn K (.ref C) "__ne__" = some (some (.builtin "object.__ne__"))) (he : PySem.W.findIn K (.ref C) "__eq__" = some (some (.ref f))) (hf : PySem.W.isFn K (.ref f) = true)
    (h : wpAny (model prog w) A.in1 (call (.ref f) [.ref x, b]) (fun v s' => ∃ r, v = .bool r ∧ Q (.bool (!r)) s') E s) : wpAny (model prog w) A (richCompare .NotEq (.ref x) b) Q E s := by
  have one : wpAny (model prog w) A (tryCompare (.ref x) (cmpInfo .NotEq).2.1 b) (fun r s' => ∃ v, r = some v ∧ Q v s') E s := by
    show wpAny (model prog w) A (tryCompare (.ref x) "__ne__" b) _ E s
    unfold tryCompare
    refine wpAny_bind (ifBound_ne X I hs (wpAny_call (codeAny_call_builtin F.cmp_object.ne.plain F.cmpEntry_ne
      (PySem.W.check_slot F.cmpKind_ne F.cmpSplit_ne (I.type.andThen (PySem.W.looks_mroIn X hm)) (F.cmpArgs_ne _ _) (entry_ne (A := A.in1) hu X I he hf (wpAny_mono h (fun v s' hv => ?_) fun _ _ e => e))))))
    obtain ⟨r, rfl, q⟩ := hv
    first
      | exact ⟨r, rfl, wpAny_pure ⟨_, rfl, q⟩⟩
      | exact ⟨r, rfl, wpAny_pure (wpAny_pure ⟨_, rfl, q⟩)⟩
      | exact ⟨r, rfl, ⟨_, rfl, q⟩⟩
  unfold richCompare
  simp only [oneThing_ref]
  refine wpAny_holding (wpAny_bind (wpAny_cRoomFor (by omega) ?_))
  refine wpAny_bind (I.type.here (wpAny_bind (hb.here ?_)))
  split
  · rename_i q
    have e : PySem.W.subIn K tb (.ref C) = some false := by
      rcases Bool.or_eq_true_iff.mp hn with e | e
      · rw [beq_iff_eq.mp e] at q; simp at q
      · exact beq_iff_eq.mp e
    refine wpAny_bind ((PySem.W.looks_subIn X e).here ?_)
    simp only [Bool.false_eq_true, if_false]
    refine wpAny_bind (wpAny_mono one (fun r s' z => ?_) fun _ _ e => e)
    obtain ⟨v, rfl, hq⟩ := z
    exact wpAny_pure hq
  · refine wpAny_bind (wpAny_pure ?_)
    simp only [Bool.false_eq_true, if_false]
    refine wpAny_bind (wpAny_mono one (fun r s' z => ?_) fun _ _ e => e)
    obtain ⟨v, rfl, hq⟩ := z
    exact wpAny_pure hq
end
/-- x != y by x's own == -/
def rNeOwn (C : Addr) (R : V → Hp → Prop) (sp : Sp) (E : XK) : R2 := fun x y H Q => ∃ a dx fs, x = .ref a ∧ H a = some (.ins C dx fs) ∧ R y H ∧ sp [x, y] H (fun v H' => ∃ r, v = .bl r ∧ Q (.bl (!r)) H') E
theorem op_neOwn {X : Cx} {CX : CXT} {C g : Addr} {k : Nat} {fd : FuncData} {ps : List Str} {sp : Sp} {E : XK} (hm : PySem.W.mroIn X.K C (.type "object") = some true) (hn : PySem.W.findIn X.K (.ref C) "__ne__" = some (some (.builtin "object.__ne__")))
    (hs : PySem.W.findIn X.K (.ref C) "__eq__" = some (some (.ref g))) (hf : PySem.W.isFn X.K (.ref g) = true)
    (F : FnOk X.prog X.w X.K X.mg X.base CX k g fd ps sp) (hr : Room (k + 1) X.A) (hb : Binds X.K fd ps []) (hx : Passes CX X E)
    {R : V → Hp → Prop} (hR : ∀ {y : V} {H : Hp} {u : Value} {pins : List (Addr × Obj)} {σ : L2.St} {s : Shared}, L2.Inv X pins σ H s → R y H → RelV y u → ∃ tb, PySem.W.Looks (model X.prog X.w) s.heap (typeOf u) tb ∧ PySem.W.notFirst X.K C tb = true) :
    OpR X (compareOp .NotEq) (rNeOwn C R sp E) := by
  intro pins s σ H x y v u Q I rx ry h
  obtain ⟨a, dx, fs, rfl, ha, hy, q⟩ := h
  cases (show v = Value.ref a from rx)
  obtain ⟨od, J⟩ := inst_at I ha
  obtain ⟨tb, ht, hn2⟩ := hR I hy ry
  show wpAny (model X.prog X.w) X.A (richCompare .NotEq (.ref a) u) (EP X pins σ Q) X.xe s
  refine rc_neK (show X.A.units + 1 < cLine from hr.in1.units0) I.kIn J ht hn2 hm hn hs hf ?_
  refine wpAny_mono (run_any (us := [.ref a, u]) (vs := [.ref a, y]) F hr.in1 I.env0.in1 hb hx I (.cons rfl (.cons ry .nil)) q) (fun w s' z => ?_) fun _ _ e => e
  obtain ⟨z', H', I', rz, r, rfl, qz⟩ := id z
  cases (show w = Value.bool r from rz)
  exact ⟨r, rfl, .bl (!r), H', I', rfl, qz⟩
section
variable {prog : Program} {w : World} {A : Around} {R : Result → Shared → Prop} {E : Value → Shared → Prop}
/-- at each turn the two lists are read anew: N items each, the i-th two equal as r i says -/
def ListB (prog : Program) (w : World) (A : Around) (E : Value → Shared → Prop) (l b : Addr) (N : Nat) (r : Nat → Bool) (I : Nat → Shared → Prop) : Prop :=
  ∀ i s, I i s → ∃ (xs ys : Array Value) (n n2 : Nat), s.heap.get? l = some { cls := .type "list", data := .seq xs n } ∧ s.heap.get? b = some { cls := .type "list", data := .seq ys n2 } ∧ xs.size = N ∧ ys.size = N ∧
    ∀ (h1 : i < xs.size) (h2 : i < ys.size), wpAny (model prog w) A.in1 (eqBool xs[i] ys[i]) (fun q s' => q = r i ∧ I (i + 1) s') E s
theorem loopB (l b : Addr) (N : Nat) (r : Nat → Bool) (I : Nat → Shared → Prop) (hl : ListB prog w A (fun e s' => R (.error e) s') l b N r I)
    (fin : (∀ j, j < N → r j = true) → ∀ s, I N s → R (.ok (.ret (.bool true))) s) (bad : ∀ j, j < N → r j = false → ∀ s, I (j + 1) s → R (.ok (.ret (.bool false))) s) :
    ∀ (k i : Nat), N - i = k → i ≤ N → (∀ j, j < i → r j = true) → ∀ s, I i s → wpAny (model prog w) A.in1 (Builtin.«list.__eq__.loop» ⟨[.ref l, .ref b, rawInt i, rawInt 2], []⟩) (FinOf prog w A R) (fun e s' => R (.error e) s') s
  | 0, i, hk, hi, all, s, h => by
    obtain ⟨xs, ys, n, n2, hl1, hb1, z1, z2, _⟩ := hl _ _ h
    have last : i = N := by omega
    have done : R (.ok (.ret (.bool true))) s := fin (fun j hj => all j (by omega)) s (last ▸ h)
    obtain ⟨hp, g, d, tk, os⟩ := s
    wp_walk using wpAny_loadPart' hl1, wpAny_loadPart' hb1
    have no1 : xs[((i : Nat) : Int).toNat]? = none := by simp; omega
    have no2 : ys[((i : Nat) : Int).toNat]? = none := by simp; omega
    rw [no1, no2]
    wp_walk using wpAny_loadPart' hl1, wpAny_loadPart' hb1
    show R (.ok (.ret (.bool (xs.size == ys.size)))) _
    rw [z1, z2]
    simpa using done
  | k + 1, i, hk, hi, all, s, h => by
    obtain ⟨xs, ys, n, n2, hl1, hb1, z1, z2, one⟩ := hl _ _ h
    have lt1 : i < xs.size := by omega
    have lt2 : i < ys.size := by omega
    have here := one lt1 lt2
    obtain ⟨hp, g, d, tk, os⟩ := s
    wp_walk using wpAny_loadPart' hl1, wpAny_loadPart' hb1
    have is1 : xs[((i : Nat) : Int).toNat]? = some xs[i] := by simp [lt1]
    have is2 : ys[((i : Nat) : Int).toNat]? = some ys[i] := by simp [lt2]
    have up : ((i : Int) + 1) = ((i + 1 : Nat) : Int) := by omega
    rw [is1, is2]
    refine wpAny_bind (wpAny_mono here (fun q s2 hq => ?_) fun _ _ x => x)
    obtain ⟨hr, hq⟩ := hq
    subst hr
    cases hb : r i with
    | true =>
      have rest := loopB l b N r I hl fin bad k (i + 1) (by omega) (by omega) (fun j hj => if e : j = i then by rw [e]; exact hb else all j (by omega)) s2 hq
      obtain ⟨hp2, g2, d2, tk2, os2⟩ := s2
      wp_walk
      rw [up]
      exact ⟨plainId_quiet plain_eq_loop _, codeAny_builtin entry_eq_loop (by rw [Around.under_plainId plain_eq_loop _] <;> exact rest)⟩
    | false =>
      have done := bad i (by omega) hb s2 hq
      obtain ⟨xs2, ys2, m, m2, hl2, hb2, z3, z4, _⟩ := hl _ _ hq
      have is3 : xs2[((i : Nat) : Int).toNat]? = some (xs2[i]'(by omega)) := by
        have : i < xs2.size := by omega
        simp [this]
      have is4 : ys2[((i : Nat) : Int).toNat]? = some (ys2[i]'(by omega)) := by
        have : i < ys2.size := by omega
        simp [this]
      obtain ⟨hp2, g2, d2, tk2, os2⟩ := s2
      wp_walk using wpAny_loadPart' hl2, wpAny_loadPart' hb2
      rw [is3, is4]
      wp_walk
      exact done
theorem listB (l b : Addr) (N : Nat) (r : Nat → Bool) (I : Nat → Shared → Prop) (hl : ListB prog w A (fun e s' => R (.error e) s') l b N r I)
    (fin : (∀ j, j < N → r j = true) → ∀ s, I N s → R (.ok (.ret (.bool true))) s) (bad : ∀ j, j < N → r j = false → ∀ s, I (j + 1) s → R (.ok (.ret (.bool false))) s) {s : Shared} (h : I 0 s) :
    wpAny (model prog w) A.in1 (Builtin.«list.__eq__» ⟨[.ref l, .ref b], []⟩) (FinOf prog w A R) (fun e s' => R (.error e) s') s := by
  obtain ⟨xs, ys, n, n2, hl1, hb1, z1, z2, _⟩ := hl _ _ h
  have rest := loopB (A := A) (R := R) l b N r I hl fin bad _ 0 rfl (Nat.zero_le _) (fun j hj => absurd hj (by omega)) s h
  obtain ⟨hp, g, d, tk, os⟩ := s
  have sub := AutoSeq1.sub_list_list
  have same : ¬ (xs.size != ys.size) = true := by simp [z1, z2]
  wp_walk using wpAny_loadPart' hl1, wpAny_loadPart' hb1
  exact ⟨plainId_quiet plain_eq_loop _, codeAny_builtin entry_eq_loop (by rw [Around.under_plainId plain_eq_loop _] <;> exact rest)⟩
theorem rcB {l b : Addr} {N : Nat} {Q : Value → Shared → Prop} {s : Shared} (hu : A.units < cLine) (r : Nat → Bool) (I : Nat → Shared → Prop) (hl : ListB prog w A E l b N r I)
    (fin : (∀ j, j < N → r j = true) → ∀ s, I N s → Q (.bool true) s) (bad : ∀ j, j < N → r j = false → ∀ s, I (j + 1) s → Q (.bool false) s) (h : I 0 s) : wpAny (model prog w) A (richCompare .Eq (.ref l) (.ref b)) Q E s := by
  obtain ⟨xs, ys, n, n2, hl1, hb1, _, _, _⟩ := hl _ _ h
  refine wpAny_richCompare_same_room (op := .Eq) ⟨_, hl1, rfl⟩ ⟨_, hb1, rfl⟩ F.slot_list_eq (call_here F.slot_list_eq ⟨_, hl1, rfl⟩ F.entry_list_eq (F.args_list_eq_2 _ _) ?_) hu
  exact listB (R := wants (fun v s' => v ≠ .notImplemented ∧ Q v s') E) l b N r I hl (fun a s' q => ⟨(fun x => nomatch x), fin a s' q⟩) (fun j a b s' q => ⟨(fun x => nomatch x), bad j a b s' q⟩) h
end
/-- == gives what D says, and only makes objects -/
def EqB (X : Cx) (n : Nat) (D : V → V → Hp → Bool → Prop) : Prop :=
  ∀ (A : Around) (pins : List (Addr × Obj)) (s : Shared) (σ : L2.St) (H : Hp) (x y : V) (u v : Value) (b : Bool), Sub X n A → Inv X pins σ H s → RelV x u → RelV y v → D x y H b →
    wpAny (model X.prog X.w) A (eqBool u v) (fun r s' => r = b ∧ ∃ H', Inv X pins σ H' s' ∧ Ext H H') X.xe s
theorem EqB.eqG {X : Cx} {n : Nat} {D : V → V → Hp → Bool → Prop} (h : EqB X n D) : EqG X n (fun x y H => D x y H true) := fun A pins s σ H x y u v sb I rx ry d => h A pins s σ H x y u v true sb I rx ry d
/-- x == y of two lists of the same length -/
def rEqB (D : V → V → Hp → Bool → Prop) : R2 := fun x y H Q => ∃ a b xs ys, x = .ref a ∧ y = .ref b ∧ H a = some (.lst xs) ∧ H b = some (.lst ys) ∧ xs.length = ys.length ∧ ∃ r : Nat → Bool,
  (∀ (i : Nat) x y, xs[i]? = some x → ys[i]? = some y → D x y H (r i)) ∧ ∀ H' c, Ext H H' → (c = true ↔ ∀ j, j < xs.length → r j = true) → Q (.bl c) H'
theorem op_eqB {X : Cx} {n : Nat} {D : V → V → Hp → Bool → Prop} (hD : ∀ x y H H' b, Ext H H' → D x y H b → D x y H' b) (h : EqB X n D) (hr : Room (n + 1) X.A) : OpR X (compareOp .Eq) (rEqB D) := by
  intro pins s σ H x y v u Q I rx ry hq
  obtain ⟨a, b, xs, ys, rfl, rfl, ha, hb, len, r, p, q⟩ := hq
  cases rx
  cases ry
  have sb : Sub X (n + 1) X.A := ⟨hr, rfl⟩
  show wpAny (model X.prog X.w) X.A (richCompare .Eq (.ref a) (.ref b)) (EP X pins σ Q) X.xe s
  refine rcB (N := xs.length) hr.units0 r (fun _ s' => LoopI X pins σ H s') (fun i s' z => ?_) (fun al s' ⟨H', I', e⟩ => ⟨.bl true, H', I', rfl, q H' true e ⟨fun _ => al, fun _ => rfl⟩⟩)
    (fun j hj rj s' ⟨H', I', e⟩ => ⟨.bl false, H', I', rfl, q H' false e ⟨fun z => (nomatch z), fun al => by rw [al j hj] at rj; cases rj⟩⟩) ⟨H, I, Ext.rfl'⟩
  obtain ⟨H1, I1, e1⟩ := id z
  obtain ⟨zz, its, k, rr, e⟩ := I1.hok a _ (e1 _ _ ha)
  obtain ⟨zz2, its2, k2, rr2, e2⟩ := I1.hok b _ (e1 _ _ hb)
  refine ⟨its.toArray, its2.toArray, k, k2, e, e2, by rw [List.size_toArray, ← rr.length], by rw [List.size_toArray, ← rr2.length, ← len], fun h1 h2 => ?_⟩
  have g1 : its[i]? = some its.toArray[i] := by
    have h1' : i < its.length := by simpa using h1
    rw [List.getElem?_eq_getElem h1'] <;> simp
  have g2 : its2[i]? = some its2.toArray[i] := by
    have h2' : i < its2.length := by simpa using h2
    rw [List.getElem?_eq_getElem h2'] <;> simp
  have k1 : i < xs.length := by rw [rr.length]; simpa using h1
  have k3 : i < ys.length := by rw [rr2.length]; simpa using h2
  obtain ⟨u, hu, ru⟩ := rr.get (List.getElem?_eq_getElem k1)
  obtain ⟨v, hv, rv⟩ := rr2.get (List.getElem?_eq_getElem k3)
  rw [g1] at hu
  rw [g2] at hv
  rw [Option.some.inj hu, Option.some.inj hv]
  refine wpAny_mono (h X.A.in1 pins s' σ H1 _ _ u v _ sb.in1 I1 ru rv (hD _ _ _ _ _ e1 (p i _ _ (List.getElem?_eq_getElem k1) (List.getElem?_eq_getElem k3)))) (fun r' s2 q' => ?_) fun _ _ x => x
  obtain ⟨hr', H2, I2, e2'⟩ := q'
  exact ⟨hr', H2, I2, e1.trans e2'⟩
end OwnNe
end

-- TryAs
section
set_option Elab.async false
set_option linter.all false
set_option maxRecDepth 100000
/-! try: with several clauses «except X as n». -/
namespace TryAs
open PySem L2
/-- the ends of a clause's suite: slot i is emptied on every way out -/
def endsAs (D : Ends) (i : Nat) : Ends where
  nx := fun t K => D.nx (t.set i none) K
  rt := D.rt
  bk := fun t K => D.bk (t.set i none) K
  ct := fun t K => D.ct (t.set i none) K
abbrev Cl := Value × Nat × (Addr → Value → Option Addr → TS)
def wAll (K : PySem.W.Frag) (Wout : WX) (D : Ends) : List Cl → WX
  | [] => Wout
  | (c, i, ts) :: r => fun cls d σ H => ∃ b, PySem.W.exmOne K cls c = some b ∧
      (b = true → ∀ a, H a = none → ts a cls d (endsAs D i) (σ.set i (some (.ref a))) H) ∧ (b = false → wAll K Wout D r cls d σ H)
inductive Clauses (X : Cx) : List ExceptHandler → List Cl → Prop
  | nil : Clauses X [] []
  | cons {x n : Str} {c : Value} {i : Nat} {ts : Addr → Value → Option Addr → TS} {fst : Stmt} {suite : List Stmt} {np hpos : Pos} {hds : List ExceptHandler} {l : List Cl}
      (at_ : X.N[i]? = some n) (loc : X.env.kindOf n = some .local) (nam : Names X x c)
      (run : ∀ (a : Addr) (oe : Obj) (cls : Value) (d : Option Addr) (pn : List (Addr × Obj)), Zc cls d oe → (∃ vs, oe.data = .fields vs) → PSs (X.suite a ((a, oe) :: pn)) (fst :: suite) (ts a cls d))
      (more : Clauses X hds l) : Clauses X (.ExceptHandler (some (.Name x np)) (some n) (fst :: suite) hpos :: hds) ((c, i, ts) :: l)
section
variable {X : Cx} {body : List Stmt} {hd0 : ExceptHandler} {hds : List ExceptHandler} {l : List Cl} {pos : Pos} {tb : WX → TS} {Wout : WX}
theorem ps_try_all (stk : X.stack = X.env :: X.outer) (frm : X.env.frame = some X.env.locals) (nod : X.N.Nodup) (tk : Takes X Wout)
    (hb : ∀ (W : WX) (pn : List (Addr × Obj)) (xe : Value → Shared → Prop), Takes (X.tr pn xe) W → PassesOwn (model X.prog X.w) X.A X.env xe → PSs (X.tr pn xe) body (tb W))
    (cl : Clauses X (hd0 :: hds) l) : PS X (.Try body (hd0 :: hds) [] [] pos) (fun D σ H => tb (wAll X.K Wout D l) D σ H) := by
  constructor
  intro pins s σ H D I h
  have okX := I.ok
  have frs2 : X.A.frames = some (X.env :: X.outer) := by rw [okX.frames, stk]
  refine wpAny_Try_except ?_
  refine wpAny_mono ((hb (wAll X.K Wout D l) (X.pn ++ pins)
    (fun e s₁ => wpAny (model X.prog X.w) X.A (noteFrame e X.env)
      (fun _ s₂ => wpAny (model X.prog X.w) X.A (setFlight e none)
        (fun _ s₃ => wpAny (model X.prog X.w) X.A (handleBy e X.env (hd0 :: hds)) (SP X pins D) X.xe s₃) X.xe s₂) X.xe s₁)
    (fun u s' xx => ?_) PassesOwn.looking).run [] s σ H D (I.toTry _) h) (fun f s1 hsp => ?_) (fun e s1 he => he)
  · obtain ⟨a, B, sI, pins1, σ1, H1, cls, d, rfl, J0, nb, up, sky, na, os, ag, w⟩ := xx
    have J1 : L2.Inv X pins σ1 H1 sI := J0.ofTry okX
    have sky1 : Sky B (X.env :: X.outer) a (Zc cls d) X.env.locals s'.heap := by rw [← stk]; exact sky
    show wpAny (model X.prog X.w) X.A (noteFrame (.ref a) X.env) _ _ _
    refine Sky.land Zc.steady frs2 frm sky1 fun h3 fl3 up3 => ?_
    have J3 : L2.Inv X pins σ1 H1 { s' with heap := h3 } := J1.landed nb fl3.1 (up.trans up3) os ag
    obtain ⟨oe3, vs3, he3, hz3, hd3⟩ := fl3.there
    have apart : a ∉ frs (X.env :: X.outer) := fun hm => by
      obtain ⟨_, o', e', hnf⟩ := fl3.2.2.1.mem hm
      have q : some o' = some oe3 := e'.symm.trans he3
      cases q
      exact hnf _ hd3
    have notL : a ≠ X.env.locals := fun z => apart (List.mem_filterMap.mpr ⟨X.env, List.mem_cons_self, by rw [frm, z]⟩)
    have notF : a ∉ X.fs := fun hm => by
      obtain ⟨e, he, q⟩ := List.mem_filterMap.mp hm
      exact apart (List.mem_filterMap.mpr ⟨e, List.mem_cons_of_mem _ he, q⟩)
    have S3 := J3.suite he3 hd3 na notL notF
    have go : ∀ {hs2 : List ExceptHandler} {l2 : List Cl}, Clauses X hs2 l2 → wAll X.K Wout D l2 cls d σ1 H1 →
        wpAny (model X.prog X.w) X.A (handleBy (.ref a) X.env hs2) (SP X pins D) X.xe { s' with heap := h3 } := by
      intro hs2 l2 hk
      induction hk with
      | nil =>
        intro w
        refine wpAny_handleBy_nil ?_
        obtain ⟨k1, k2, k3, oe, vs, T, oT, ts', he, hz, hd, h1, hr⟩ := id fl3
        unfold PySem.passOn
        refine wpAny_bind (wpAny_field he hd h1 ?_)
        have tn : ¬ ((Value.ref T == Value.none) = true) := by simp
        rw [if_neg tn]
        have fin : wpAny (model X.prog X.w) X.A (setFlight (.ref a) X.env.frame) (fun _ s4 => wpAny (model X.prog X.w) X.A (throw (.ref a) : Sem Flow) (SP X pins D) X.xe s4) X.xe { s' with heap := h3 } := by
          rw [frm]
          refine HandSPX.setFlight_upZ fl3 fun h4 hh4 up4 => wpAny_throw (tk _ _ ?_)
          exact ⟨a, B, sI, pins, σ1, H1, cls, d, rfl, J1, nb, (up.trans up3).trans up4, .inr (.inr (by rw [stk]; exact hh4)), na, os, ag, w⟩
        first | exact (wpAny_bind (wpAny_pure (wpAny_bind fin))) | exact (wpAny_bind fin)
      | @cons x n c i ts fst suite np hpos hs3 l3 at_ loc nam run more ih =>
        intro w
        obtain ⟨b, hb1, yes, no⟩ := w
        have slot : Loc X.env.scope n := .inl loc
        refine wpAny_handleBy_cons (codeAny_handlers_test ?_) (by intro q; cases q)
        have Lty : PySem.W.Looks (model X.prog X.w) h3 (typeOf (.ref a)) cls := fun A Q E s k q => wpAny_typeOf_ref (k _ _ he3) (by rw [hz3.1]; exact q)
        have Lex := PySem.W.exm_one (M := model X.prog X.w) (J3.kIn) Lty hb1
        have tst : ∀ {Q : Value → Shared → Prop} {E : Value → Shared → Prop}, Q c { s' with heap := h3 } → wpAny (model X.prog X.w) (X.A.mark (some (.ref a))) (eval (.Name x np) X.env) Q E { s' with heap := h3 } := fun {Q E} q => by
          obtain ⟨hg, ndb, hm | ⟨hm, hv, nn⟩⟩ := nam
          · exact (ld_glob (X := X.suite a ((a, oe3) :: (X.pn ++ pins))) S3 hg hm q ndb)
          · exact (ld_blt (X := X.suite a ((a, oe3) :: (X.pn ++ pins))) S3 hg hm hv q nn ndb)
        refine tst (Lex.here ?_)
        cases b with
        | true =>
          refine codeAny_handlers_suite_as ?_
          refine HandSPX.lands_againZ fl3 fun h4 fl4 up4 => ?_
          have J4 : L2.Inv X pins σ1 H1 { s' with heap := h4 } := J1.landed nb fl4.1 ((up.trans up3).trans up4) os ag
          obtain ⟨oe4, vs4, he4, hz4, hd4⟩ := fl4.there
          have S4 := J4.suite he4 hd4 na notL notF
          refine store_ok (X := X.suite a ((a, oe4) :: (X.pn ++ pins))) (v := .ref a) S4 nod at_ slot rfl (fun s5 S5 => ?_) (.inr loc)
          refine wpAny_mono ((run a oe4 cls d (X.pn ++ pins) hz4 ⟨_, hd4⟩).run [] s5 _ H1 _ S5 (yes rfl a na)) (fun f s6 hsp => ?_) (fun _ _ z => False.elim z)
          have wipe : ∀ {t6 : L2.St} {K6 : Hp} {Q : Shared → Prop}, L2.Inv (X.suite a ((a, oe4) :: (X.pn ++ pins))) [] t6 K6 s6 → (∀ s7, L2.Inv X pins (t6.set i none) K6 s7 → Q s7) →
              wpAny (model X.prog X.w) X.A (do bindName X.env n .none; unbindBehindTheSuite X.env n hpos) (fun _ s7 => Q s7) X.xe s6 := fun {t6 K6 Q} S6 hq => gone_ok (S6.unsuite okX) nod at_ loc hq
          cases f with
          | next =>
            obtain ⟨t6, K6, S6, q6⟩ := hsp
            exact (wipe S6 fun s7 J7 => ⟨_, _, J7, q6⟩)
          | brk =>
            obtain ⟨t6, K6, S6, q6⟩ := hsp
            exact (wipe S6 fun s7 J7 => ⟨_, _, J7, q6⟩)
          | cont =>
            obtain ⟨t6, K6, S6, q6⟩ := hsp
            exact (wipe S6 fun s7 J7 => ⟨_, _, J7, q6⟩)
          | ret u =>
            obtain ⟨v6, t6, K6, S6, r6, q6⟩ := hsp
            exact (wipe S6 fun s7 J7 => ⟨_, _, _, J7, r6, q6⟩)
        | false =>
          show wpAny _ X.A (handleBy (.ref a) X.env hs3) _ _ _
          exact ih (no rfl)
    exact go cl w
  · cases f with
    | next =>
      obtain ⟨t1, K1, J1, q⟩ := hsp
      exact wpAny_execs_nil ⟨t1, K1, J1.ofTry okX, q⟩
    | brk =>
      obtain ⟨t1, K1, J1, q⟩ := hsp
      exact ⟨t1, K1, J1.ofTry okX, q⟩
    | cont =>
      obtain ⟨t1, K1, J1, q⟩ := hsp
      exact ⟨t1, K1, J1.ofTry okX, q⟩
    | ret u =>
      obtain ⟨v1, t1, K1, J1, r, q⟩ := hsp
      exact ⟨v1, t1, K1, J1.ofTry okX, r, q⟩
/-- an exception of a callee, wished for at every state of the slots that fits -/
def EAll (X : Cx) (W : WX) : XK := fun cls d H' => ∀ t : L2.St, t.length = X.N.length → W cls d t H'
theorem pass_all {W : WX} (tk : Takes X W) : Passes (L2.CX X.prog X.w) X (EAll X W) := fun _ _ _ _ _ _ I c =>
  tk _ _ (XE.of_call I (fun _ _ _ z => z _ I.len) c)
end
end TryAs
end

-- GivErr
section
set_option Elab.async false
set_option linter.all false
set_option maxRecDepth 100000
set_option maxHeartbeats 2000000
/-! An own error class, over any of three built-in ones, that keeps its one argument in the field `given`. -/
namespace PySem
namespace Giv
open PySem.W PySem.Calls PyProof.Rows PySem.HandSPX Builtin Builtin.ObjectAttr
/-- own classes, then the given tail -/
def tailIs (bt : List Value) : List Value → Bool
  | .ref _ :: r => tailIs bt r
  | l => l == bt
theorem tail_cases (bt : List Value) : ∀ l : List Value, tailIs bt l = true → (∃ c r, l = .ref c :: r ∧ tailIs bt r = true) ∨ l = bt := fun l e => by
  cases l with
  | nil => exact .inr (beq_iff_eq.mp e)
  | cons a r => cases a <;> first | exact .inl ⟨_, _, rfl, e⟩ | exact .inr (beq_iff_eq.mp e)
theorem tail_pass {bt : List Value} (hb : ∀ self, refuseLoop self "__setattr__" bt = pure ()) (self : Value) : ∀ l : List Value, tailIs bt l = true → refuseLoop self "__setattr__" l = pure () := fun l => by
  induction l with
  | nil => intro e; rcases tail_cases bt _ e with ⟨_, _, q, _⟩ | q; cases q; rw [q]; exact hb self
  | cons a r ih =>
    intro e
    rcases tail_cases bt (a :: r) e with ⟨c, r', q, h⟩ | q
    · cases q; rw [refuseLoop_ref]; exact ih h
    · rw [q]; exact hb self
theorem tail_has {bt : List Value} (Y : String) : ∀ l : List Value, tailIs bt l = true → l.contains (.type Y) = bt.contains (.type Y) := fun l => by
  induction l with
  | nil => intro e; rcases tail_cases bt _ e with ⟨_, _, q, _⟩ | q; cases q; rw [q]
  | cons a r ih =>
    intro e
    rcases tail_cases bt (a :: r) e with ⟨c, r', q, h⟩ | q
    · cases q; rw [List.contains_cons, ih h]; rfl
    · rw [q]
/-- what is used of the built-in base -/
structure BaseOk (B newId initId : String) (bt : List Value) : Prop where
  facts : ExcBaseFacts B newId initId bt
  pass : ∀ self, refuseLoop self "__setattr__" bt = pure ()
  obj : bt.contains (.type "object") = true
theorem ok_VE : BaseOk "ValueError" "ValueError.__new__" "ValueError.__init__" [.type "ValueError", .type "Exception", .type "BaseException", .type "object"] :=
  ⟨F.excBase_ValueError, fun self => F.store_ValueError.passes self, by decide +kernel⟩
theorem ok_ZD : BaseOk "ZeroDivisionError" "ZeroDivisionError.__new__" "ZeroDivisionError.__init__" [.type "ZeroDivisionError", .type "ArithmeticError", .type "Exception", .type "BaseException", .type "object"] :=
  ⟨F.excBase_ZeroDivisionError, fun self => F.store_ZeroDivisionError.passes self, by decide +kernel⟩

section
variable {prog : Program} {w : World} {A : Around} {E : Value → Shared → Prop} {R : Result → Shared → Prop} {hp : Heap} {g : Array GenState} {d : Drawn} {t : Nat} {os : OsState}
/-- self.name = v on a new exception -/
theorem osa_giv {K : W.Frag} {name : Str} {tk : Tok} {v : Value} {x C : Addr} {fv : Array Value} {cd : ClassData} {bt bm : List Value} (hb : ∀ self, refuseLoop self "__setattr__" bt = pure ()) (hbo : bt.contains (.type "object") = true)
    (Y : K.In hp) (hx : hp.get? x = some { cls := .ref C, data := .fields fv }) (hcd : W.clsIn K C = some cd) (hm : cd.mro = .ref C :: bm) (htl : tailIs bt bm = true) (hh : cd.hasDict = true) (hno : W.findIn K (.ref C) name = some none)
    (fin : ∀ h' tk' dx, (∀ b o, b ≠ x → hp.get? b = some o → h'.get? b = some o) → hp.objs.size ≤ dx → dx ≠ x → h'.get? x = some { cls := .ref C, dict := some dx, data := .fields fv } →
      h'.Ns1 dx (fun y => if y = name then some v else none) → R (.ok (.ret .none)) ⟨h', g, d, tk', os⟩) :
    codeAny (model prog w) A (.call (.builtin "object.__setattr__") ⟨[.ref x, .str name tk, v], []⟩) R ⟨hp, g, d, t, os⟩ := by
  have J : W.InstAt hp x { cls := .ref C, data := .fields fv } C none := ⟨hx, rfl, rfl, trivial⟩
  have SO := F.store_object
  have htail : tailIs bt cd.mro = true := by rw [hm]; exact htl
  have hob2 : cd.mro.contains (.type "object") = true := by rw [tail_has "object" _ htail]; exact hbo
  have hemp : cd.mro.isEmpty = false := by rw [hm]; rfl
  have apart : x ≠ hp.objs.size := Nat.ne_of_lt (Heap.lt_size hx)
  have Lsub : W.Looks (model prog w) hp (isInstance (.ref x) (.type "object")) true :=
    J.type.andThen (W.looks_mroIn Y (by unfold W.mroIn; rw [hcd, Option.bind_some, if_neg (by rw [hemp]; decide), hob2]))
  refine codeAny_call_builtin SO.slot.plain SO.entry (@W.check_slot (model prog w) _ _ ⟨hp, g, d, t, os⟩ "object.__setattr__" "object" "__setattr__" (.ref x)
    [.str name tk, v] [] _ SO.kind SO.split Lsub (SO.args (.ref x) (.str name tk) v) ?_)
  have Lmro : W.Looks (model prog w) hp (mroOf (.ref C)) cd.mro := (W.looks_clsIn Y hcd).andThen .now
  have Lno : W.Looks (model prog w) hp (storeTaker? none) none := .now
  have Lcd : W.Looks (model prog w) hp (classData C) cd := W.looks_clsIn Y hcd
  rw [W.osa_eq, refuse_eq]
  refine wpAny_bind (wpAny_bind (J.type.at (wpAny_bind (Lmro.at ?_))))
  rw [tail_pass hb _ _ htail]
  refine wpAny_pure (wpAny_bind (J.type.at (wpAny_bind ((W.looks_findIn Y hno).at (wpAny_bind (Lno.at ?_))))))
  show wpAny _ _ (storeInOwnDict (.ref x) (.ref C) (.str name tk) name v false) _ _ _
  obtain ⟨c1, c2, c3, c4, c5, c6, c7, c8, c9, c10, c11⟩ := cd
  dsimp only at hh
  subst hh
  unfold storeInOwnDict ownDictForStores
  repeat (first | (with_reducible refine store_in_new ?_ ?_) | (with_reducible refine wpAny_loadPart_at hx ?_) | (with_reducible refine Lcd.at ?_) | wp_step)
  · exact ⟨_, #[], _, (Heap.get?_update_ne _ _ _ _ apart.symm).trans (Heap.get?_push_at rfl rfl), rfl, fun e he => absurd he (by simp), fun _ => rfl⟩
  · intro h' tk' hn' hs
    have hx1 : (hp.push { cls := .type "dict", data := .dict #[] }).get? x = some { cls := .ref C, data := .fields fv } := Heap.get?_push_of_some _ hx
    refine fin h' tk' hp.objs.size (fun b o hb ho => ?_) (Nat.le_refl _) apart.symm ?_ hn'
    · exact (hs.2 b (Nat.ne_of_lt (Heap.lt_size ho))).trans ((Heap.get?_update_ne _ _ _ _ hb).trans (Heap.get?_push_of_some _ ho))
    · exact (hs.2 x apart).trans (Heap.get?_update_self _ hx1 rfl)
end

/-! ### the text of __init__ -/
def gA (p1 p2 : Pos) : Arguments := { posonlyargs := [], args := [{ arg := "self", annotation := none, pos := p1 }, { arg := "given", annotation := none, pos := p2 }], vararg := none, kwonlyargs := [], kw_defaults := [], kwarg := none, defaults := [] }
def gB (q1 q2 q3 q4 : Pos) : List Stmt := [.Assign [.Attribute (.Name "self" q1) "given" q2] (.Name "given" q3) q4]
def gS : Scope := { kind := .function, names := [(PySem.Str.ofString "self", .local), (PySem.Str.ofString "given", .local)], isGenerator := false, isCoroutine := false, more := [] }
/-- what the written part says of the class called cn, at C, and of its __init__, at fI -/
structure ErrTxt (K : Frag) (mg : Str → Option Value) (cn qn : Str) (newId : String) (bt : List Value) (C fI : Addr) : Prop where
  gC : mg cn = some (.ref C)
  cls : ∃ nm q N bs bm sn sub ab col dd k0 k1 k2 k3 k5, K.lookup C = some (excClassObj nm q C N bs bm true sn sub ab col dd k0 k1 k2 k3 k5 newId) ∧ tailIs bt bm = true
  sa : findIn K (.ref C) "__setattr__" = some (some (.builtin "object.__setattr__"))
  ga : findIn K (.ref C) "__getattribute__" = some (some (.builtin "BaseException.__getattribute__"))
  gg : findIn K (.ref C) "__getattr__" = some none
  noN : findIn K (.ref C) "given" = some none
  iC : findIn K (.ref C) "__init__" = some (some (.ref fI))
  tC : typeIn K (.ref fI) = some (.type "function")
  kC : keepIn K (.ref C) = true
  exC : subIn K (.ref C) (.type "BaseException") = some true
  tyC : typeIn K (.ref C) = some (.type "type")
  hdC : hasDictIn K C = true
  te : exmOne K (.ref C) (.ref C) = some true
  fn : ∃ (oc : Value) (od : Option Addr) (doc pm : Value) (an : Option Addr) (cdv ct : Value) (osl : Array (Option Value)) (p1 p2 q1 q2 q3 q4 : Pos),
    K.lookup fI = some ⟨oc, od, .func (fnOf "__init__" qn (gA p1 p2) (gB q1 q2 q3 q4) gS .none .none doc pm an cdv ct), osl⟩ ∧ codeIn K cdv qn = true
theorem one_fits (v : Value) : [v].length ≤ sizeLine := by
  rw [sizeLine_eq]
  exact (by decide : 1 ≤ 16777216)
theorem ldG {M : Model} {s : Shared} {name : Str} {scope : Scope} {L a : Addr} {cd : Value} {m : Str → Option Value} {x : Str} {pos : Pos} {v : Value} {Q : Value → Shared → Prop} {A : Around} {E : Value → Shared → Prop} (hn : s.heap.Ns L m) (hv : m x = some v) (h : Q v s)
    (hk : scope.kind = .function := by rfl) (hl : (envOfC name scope L a cd).kindOf x = some .local := by rfl) (hd : (x == ("__debug__" : Str)) = false := by decide) :
    wpAny M A (eval (.Name x pos) (envOfC name scope L a cd)) Q E s := wpAny_Name (wpAny_loadName_local hk hl hn hv h) hd
/-- what __init__ leaves -/
structure GivEnd (h h' : Heap) (x C dx t1 : Addr) (v : Value) : Prop where
  keep : ∀ b o, b ≠ x → h.get? b = some o → h'.get? b = some o
  obj : h'.get? x = some { cls := .ref C, dict := some dx, data := .fields #[.ref t1, .none, .none, .none, .bool false, .none] }
  dbig : h.objs.size ≤ dx
  dne : dx ≠ x
  ns : h'.Ns1 dx (fun y => if y = "given" then some v else none)
/-- a made one -/
structure GivMade (h h' : Heap) (e C d : Addr) (v : Value) : Prop where
  keep : ∀ b o, h.get? b = some o → h'.get? b = some o
  new : h.objs.size ≤ e
  obj : ∃ oe vs, h'.get? e = some oe ∧ oe.cls = .ref C ∧ oe.dict = some d ∧ oe.data = .fields vs ∧ vs[1]? = some .none
  dbig : h.objs.size ≤ d
  dne : d ≠ e
  ns : h'.Ns1 d (fun y => if y = "given" then some v else none)
section
variable {prog : Program} {w : World} {A : Around} {E : Value → Shared → Prop} {R : Result → Shared → Prop} {s : Shared} {K : Frag} {mg : Str → Option Value} {C fI : Addr} {cn qn : Str} {B newId initId : String} {bt : List Value}
theorem giv_init (Z : BaseOk B newId initId bt) (T : ErrTxt K mg cn qn newId bt C fI) {x t0 : Addr} {v : Value} (X : K.In s.heap) (hlim : s.heap.NoLimit) (hx : s.heap.get? x = some (excO C t0)) (hroom : A.depth < recursionLimit)
    (hq : ∀ h' tk dx, GivEnd s.heap h' x C dx t0 v → R (.ok (.ret .none)) { s with heap := h', toks := tk }) :
    codeAny (model prog w) A (.call (.ref fI) ⟨[.ref x, v], []⟩) R s := by
  obtain ⟨oc, od, doc, pm, an, cdv, ct, osl, p1, p2, q1, q2, q3, q4, ho, hcd⟩ := T.fn
  obtain ⟨nm, q, N, bs, bm, sn, sub, ab, col, dd, k0, k1, k2, k3, k5, hC, hbm⟩ := T.cls
  have hcl : clsIn K C = some { name := nm, bases := bs, mro := .ref C :: bm, ns := N, qualname := q, hasDict := true, slotNames := sn, subclasses := sub, abstract := ab, collection := col, hasDel := false } := by unfold clsIn; rw [hC] <;> rfl
  refine Att.call_fn (binds := [("self", .ref x), ("given", v)]) X hlim ho hcd hroom (BindsTo.of_eq (by first | rfl | with_unfolding_all rfl)) (by first | rfl | decide | with_unfolding_all rfl) (fun s₁ IC => ?_) rfl rfl rfl
  obtain ⟨h₁, tk₁, rfl⟩ := IC.toInCall.same
  have k : ∀ b o, s.heap.get? b = some o → h₁.get? b = some o := IC.toInCall.keep
  have hn := IC.toInCall.ns
  have X₁ : K.In h₁ := X.keeps k
  have hx₁ := k _ _ hx
  show wpAny _ _ (execs _ _) _ _ _
  refine wpAny_execs_cons (plainObj_wpAny_Assign_Attribute ?_)
  refine ldG (v := v) hn (by first | rfl | with_unfolding_all rfl | kernel_rfl) (ldG (v := .ref x) hn (by first | rfl | with_unfolding_all rfl | kernel_rfl) ?_)
  refine set_plain X₁ (ox := excO C t0) (od := none) ⟨hx₁, rfl, rfl, trivial⟩ T.sa ?_
  refine osa_giv Z.pass Z.obj X₁ hx₁ hcl rfl hbm rfl T.noN (fun h₃ tk₃ dx k₃ dn dne hx₃ hn₃ => ?_)
  show wpAny _ _ (execs _ _) _ _ _
  have z : s.heap.objs.size < h₁.objs.size := hn.lt
  exact wpAny_execs_nil (hq h₃ tk₃ dx ⟨fun b o hb e => k₃ b o hb (k b o e), hx₃, Nat.le_of_lt (Nat.lt_of_lt_of_le z dn), dne, hn₃⟩)
theorem giv_made (Z : BaseOk B newId initId bt) (T : ErrTxt K mg cn qn newId bt C fI) {v : Value} (X : K.In s.heap) (hlim : s.heap.NoLimit) (hroom : A.depth + 1 < recursionLimit)
    (hq : ∀ h' tk e d, GivMade s.heap h' e C d v → R (.ok (.ret (.ref e))) { s with heap := h', toks := tk }) :
    codeAny (model prog w) A (.call (.ref C) ⟨[v], []⟩) R s := by
  obtain ⟨nm, q, N, bs, bm, sn, sub, ab, col, dd, k0, k1, k2, k3, k5, hC, hbm⟩ := T.cls
  obtain ⟨hp, g, dr, tk, os⟩ := s
  have k : ∀ b o, hp.get? b = some o → ((hp.push (kdv_tup [v])).push (excO C hp.objs.size)).get? b = some o := fun b o e => Heap.get?_push_of_some _ (Heap.get?_push_of_some _ e)
  have hget : ((hp.push (kdv_tup [v])).push (excO C hp.objs.size)).get? (hp.objs.size + 1) = some (excO C hp.objs.size) := by heap_get
  refine call_own Z.facts (fun X => tail_has X bm hbm) (X _ _ hC) (looks_findIn X T.iC) (fun self => bind_fn X self T.tC) (one_fits v) ?_
  refine giv_init (s := ⟨(hp.push (kdv_tup [v])).push (excO C hp.objs.size), g, dr, tk, os⟩) Z T (X.keeps k) (hlim.keeps k) hget ?_ fun h' tk' dx ⟨k', hx, dn, dne, hns⟩ => ?_
  · show A.depth + 1 < recursionLimit
    exact hroom
  · have old : ∀ b o, hp.get? b = some o → h'.get? b = some o := fun b o e => k' b o (Nat.ne_of_lt (Nat.lt_succ_of_lt (Heap.lt_size e))) (k b o e)
    have z : hp.objs.size + 1 + 1 ≤ dx := by
      first
        | (simpa only [Heap.size_push] using dn)
        | exact dn
        | (have q := dn; rw [Heap.size_push, Heap.size_push] at q; exact q)
    exact ⟨rfl, hq h' tk' (hp.objs.size + 1) dx ⟨old, Nat.le_succ _, ⟨_, _, hx, rfl, rfl, rfl, rfl⟩, Nat.le_trans (Nat.le_trans (Nat.le_succ _) (Nat.le_succ _)) z, dne, hns⟩⟩
end
end Giv
end PySem
end

-- GivErr2
section
set_option Elab.async false
set_option linter.all false
set_option maxRecDepth 100000
set_option maxHeartbeats 2000000
namespace L2
open PySem PySem.Spec PyProof.Rows
theorem relO_giv {v : V} {v' : Value} (r : RelV v v') (f : Str) : RelO (List.lookup f [(("given" : Str), v)]) (if f = "given" then some v' else none) := by
  by_cases hw : f = "given"
  · subst hw
    rw [if_pos rfl]
    have q : List.lookup ("given" : Str) [(("given" : Str), v)] = some v := by simp [List.lookup]
    rw [q]
    exact r
  · rw [if_neg hw]
    have qw : (f == ("given" : Str)) = false := by simpa using hw
    have q2 : List.lookup f [(("given" : Str), v)] = none := by simp [List.lookup, qw]
    rw [q2]
    trivial
section
variable {X : Cx} {C fI : Addr} {cn qn : Str} {B newId initId : String} {bt : List Value}
/-- Err(e) -/
def tMkGiv (C : Addr) (ta : TA) : L2.St → Hp → XK → Prop := fun σ H Q => ta σ H fun vs H1 => ∃ v, vs = [v] ∧ ∀ d, H1 d = none → Q (.ref C) (some d) (upd H1 d (.xd [(("given" : Str), v)]))
theorem pmk_giv {a : Expr} {ta : TA} {p pos : Pos} {k : Nat} (Z : PySem.Giv.BaseOk B newId initId bt) (T : PySem.Giv.ErrTxt X.K X.mg cn qn newId bt C fI) (hr : Room k X.A) (ha : PA X [a] ta) (hg : Gl X cn) (hdb : (cn == ("__debug__" : Str)) = false)
    (he : starEach (a :: []) X.env = (false, eval a X.env) :: starEach [] X.env := by rfl) (hpl : (backTo pos (starEach [] X.env)).any (·.1) = false := by rfl) :
    PMk X (.Call (.Name cn p) [a] [] pos) (tMkGiv C ta) := by
  intro pins s σ H Q I h
  refine wpAny_Call_Name_kw (ld_glob I hg T.gC ?_ hdb)
  refine PySem.W.callWith_K (h₀ := X.base) I.ok.mod.kin T.kC (thn (ha.run pos pins s σ H _ I h) fun us s1 hh => ?_) he hpl
  obtain ⟨vs, H1, I1, r1, v, ev, q1⟩ := hh
  subst ev
  refine ⟨I1.kIn, ?_⟩
  cases r1 with
  | cons rv rn =>
    rename_i v' us'
    cases rn
    show wpAny _ _ (call (.ref C) [v']) _ _ _
    have hlim := I1.nolimit
    obtain ⟨hp, g, dr, tk, os⟩ := s1
    refine wpAny_call (PySem.Giv.giv_made Z T I1.kIn hlim (by have := hr.dp; omega) fun h' tk' e d M => ?_)
    show MkP X pins σ Q (.ref e) ⟨h', g, dr, tk', os⟩
    obtain ⟨oe, fv, hoe, hc, hd, hdat, h1⟩ := M.obj
    have hns := M.ns
    obtain ⟨G', g1, g2⟩ := restrict h' fun b => decide (b ≠ e)
    have gk : ∀ b, b ≠ e → G'.get? b = h'.get? b := fun b hb => g1 b (decide_eq_true hb)
    have ge : G'.get? e = none := g2 e (by simp)
    have old : ∀ b o, hp.get? b = some o → G'.get? b = some o := fun b o q => (gk b (Nat.ne_of_lt (Nat.lt_of_lt_of_le (Heap.lt_size q) M.new))).trans (M.keep b o q)
    have ob : ObjOk X.prog X.w (upd H1 d (.xd [(("given" : Str), v)])) G' d (.xd [(("given" : Str), v)]) :=
      ⟨_, hns.at (fun o q => (gk d M.dne).trans q), fun f => relO_giv rv f⟩
    have J : L2.Inv X pins σ (upd H1 d (.xd [(("given" : Str), v)])) ⟨G', g, dr, tk', os⟩ := I1.laid (t' := tk') old M.dbig ob
    refine ⟨e, oe, fv, ⟨G', g, dr, tk', os⟩, _, .ref C, some d, rfl, J, fun b o q => ?_, ge, hoe, ⟨hc, hd⟩, hdat, h1, ?_, rfl, I1.bare, raises_own T.exC T.tyC, q1 d (I1.hok.fresh M.dbig)⟩
    · by_cases hb : b = e
      · have q' : G'.get? b = some o := q
        rw [hb, ge] at q'; cases q'
      · exact (gk b hb).symm.trans q
    · rw [upd_ne (Ne.symm M.dne)]
      exact I1.hok.fresh M.new
/-- raise Err(e) -/
def tRaiseGiv (C : Addr) (W : WX) (ta : TA) : TS := fun _ σ H => tMkGiv C ta σ H fun cls d H' => W cls d σ H'
theorem ps_raiseGiv {a : Expr} {ta : TA} {W : WX} {p pos pos2 : Pos} {k : Nat} (hc : X.calm = true) (Z : PySem.Giv.BaseOk B newId initId bt) (T : PySem.Giv.ErrTxt X.K X.mg cn qn newId bt C fI) (hr : Room k X.A) (tk : Takes X W) (ha : PA X [a] ta) (hg : Gl X cn) (hdb : (cn == ("__debug__" : Str)) = false := by decide)
    (he : starEach (a :: []) X.env = (false, eval a X.env) :: starEach [] X.env := by rfl) (hpl : (backTo pos (starEach [] X.env)).any (·.1) = false := by rfl) :
    PS X (.Raise (some (.Call (.Name cn p) [a] [] pos)) none pos2) (tRaiseGiv C W ta) := ps_raise hc tk (pmk_giv Z T hr ha hg hdb he hpl)
/-- err.given, err the exception that the suite holds (at a; its class cls, its dict d) -/
def tByGiv (C : Addr) (a : Addr) (cls : Value) (d : Option Addr) (te : TE) : TE := fun σ H Q => te σ H fun x H1 => x = .ref a ∧ cls = .ref C ∧ ∃ (dd : Addr) (v : V), d = some dd ∧ H1 dd = some (.xd [(("given" : Str), v)]) ∧ Q v H1
theorem pe_byGiv {a : Addr} {oe : Obj} {cls : Value} {d : Option Addr} {pn : List (Addr × Obj)} {e : Expr} {te : TE} {pos : Pos} (T : PySem.Giv.ErrTxt X.K X.mg cn qn newId bt C fI) (hz : Zc cls d oe) (hf : ∃ vs, oe.data = .fields vs) (he : PE (X.suite a ((a, oe) :: pn)) e te)
    (hb : attributeBase e "given" X.env (eval e X.env) = eval e X.env := by rfl) :
    PE (X.suite a ((a, oe) :: pn)) (.Attribute e "given" pos) (tByGiv C a cls d te) := by
  refine ⟨fun pins s σ H Q I h => ?_⟩
  refine attr_of hb (thn (he.run pins s σ H _ I h) fun u s1 hh => ?_)
  obtain ⟨x, H1, I1, rx, ex, ec, dd, v, ed, ea, q⟩ := hh
  subst ex
  obtain rfl : u = Value.ref a := rx
  subst ec
  subst ed
  obtain ⟨ha, _⟩ := I1.pin (a, oe) (List.mem_append_left _ List.mem_cons_self)
  obtain ⟨vs, hd⟩ := hf
  have hx : ObjOk X.prog X.w H1 s1.heap dd (.xd [(("given" : Str), v)]) := I1.hok dd _ ea
  obtain ⟨mA, hns, hr⟩ := hx
  obtain ⟨od, ho, hl⟩ := lookIn_ns hns
  have l : List.lookup ("given" : Str) [(("given" : Str), v)] = some v := by simp [List.lookup]
  obtain ⟨u, hu, ru⟩ := RelO.some_of (v := v) (o := mA "given") (by rw [← l]; exact hr "given")
  have J : PySem.W.InstAt s1.heap a oe C (some od) := ⟨ha, hz.1, by unfold PySem.W.notCls; rw [hd] <;> rfl, by rw [hz.2]; exact ho⟩
  exact HandSPX.exc_get I1.kIn J T.ga T.gg T.exC (PySem.W.findObj_own T.hdC T.noN rfl (by rw [hl, hu])) (handed_of ru) ⟨v, H1, I1.tok _, ru, q⟩
end
end L2
end

-- ErrVal
section
set_option Elab.async false
set_option linter.all false
set_option maxRecDepth 100000
set_option maxHeartbeats 2000000
/-! An own error with the field `given`, held as a value. -/
namespace L2
open PySem PySem.Spec PyProof.Rows
/-- an error of the class cls at e, its dict at d -/
def ExG (cls : Value) (e d : Addr) : HO := .ext fun h => ∃ (oe : Obj) (vs : Array Value), h.get? e = some oe ∧ Zc cls (some d) oe ∧ oe.data = .fields vs ∧ vs[1]? = some .none
section
variable {X : Cx} {C fI : Addr} {cn qn : Str} {B newId initId : String} {bt : List Value}
/-- Err(x), as a value -/
theorem pe_mkGiv {a : Expr} {ta : TA} {p pos : Pos} {k : Nat} (Z : PySem.Giv.BaseOk B newId initId bt) (T : PySem.Giv.ErrTxt X.K X.mg cn qn newId bt C fI) (hr : Room k X.A) (ha : PA X [a] ta) (hg : Gl X cn) (hdb : (cn == ("__debug__" : Str)) = false := by decide)
    (he : starEach (a :: []) X.env = (false, eval a X.env) :: starEach [] X.env := by rfl) (hpl : (backTo pos (starEach [] X.env)).any (·.1) = false := by rfl) :
    PE X (.Call (.Name cn p) [a] [] pos) (fun σ H Q => ta σ H fun vs H1 => ∃ v, vs = [v] ∧ ∀ e d, H1 e = none → H1 d = none → d ≠ e → Q (.ref e) (upd (upd H1 d (.xd [(("given" : Str), v)])) e (ExG (.ref C) e d))) := by
  refine ⟨fun pins s σ H Q I h => ?_⟩
  refine wpAny_Call_Name_kw (ld_glob I hg T.gC ?_ hdb)
  refine PySem.W.callWith_K (h₀ := X.base) I.ok.mod.kin T.kC (thn (ha.run pos pins s σ H _ I h) fun us s1 hh => ?_) he hpl
  obtain ⟨vs, H1, I1, r1, v, ev, q1⟩ := hh
  subst ev
  refine ⟨I1.kIn, ?_⟩
  cases r1 with
  | cons rv rn =>
    rename_i v' us'
    cases rn
    show wpAny _ _ (call (.ref C) [v']) _ _ _
    have hlim := I1.nolimit
    obtain ⟨hp, g, dr, tk, os⟩ := s1
    refine wpAny_call (PySem.Giv.giv_made Z T I1.kIn hlim (by have := hr.dp; omega) fun h' tk' e d M => ?_)
    show EP X pins σ Q (.ref e) ⟨h', g, dr, tk', os⟩
    obtain ⟨oe, fv, hoe, hc, hd, hdat, h1⟩ := M.obj
    have hns := M.ns
    obtain ⟨G', g1, g2⟩ := restrict h' fun b => decide (b ≠ e)
    have gk : ∀ b, b ≠ e → G'.get? b = h'.get? b := fun b hb => g1 b (decide_eq_true hb)
    have ge : G'.get? e = none := g2 e (by simp)
    have old : ∀ b o, hp.get? b = some o → G'.get? b = some o := fun b o q => (gk b (Nat.ne_of_lt (Nat.lt_of_lt_of_le (Heap.lt_size q) M.new))).trans (M.keep b o q)
    have ob : ObjOk X.prog X.w (upd H1 d (.xd [(("given" : Str), v)])) G' d (.xd [(("given" : Str), v)]) :=
      ⟨_, hns.at (fun o q => (gk d M.dne).trans q), fun f => relO_giv rv f⟩
    have J : L2.Inv X pins σ (upd H1 d (.xd [(("given" : Str), v)])) ⟨G', g, dr, tk', os⟩ := I1.laid (t' := tk') old M.dbig ob
    have en : (upd H1 d (.xd [(("given" : Str), v)])) e = none := by
      rw [upd_ne (Ne.symm M.dne)]
      exact I1.hok.fresh M.new
    have J2 : L2.Inv X pins σ (upd (upd H1 d (.xd [(("given" : Str), v)])) e (ExG (.ref C) e d)) ⟨h', g, dr, tk', os⟩ := J.laidN (t' := tk') (fun b o q => by
      by_cases hb : b = e
      · rw [hb, ge] at q; cases q
      · exact (gk b hb).symm.trans q) ge en ⟨⟨oe, fv, hoe, ⟨hc, hd⟩, hdat, h1⟩, ⟨oe, hoe⟩, fun _ _ ⟨o, u, q, r⟩ k => ⟨o, u, k o q, r⟩⟩
    exact ⟨.ref e, _, J2, rfl, q1 e d (I1.hok.fresh M.new) (I1.hok.fresh M.dbig) M.dne⟩
/-- err.given, err an error held as a value -/
theorem pe_givVal {e : Expr} {te : TE} {pos : Pos} (T : PySem.Giv.ErrTxt X.K X.mg cn qn newId bt C fI) (he : PE X e te) (hb : attributeBase e "given" X.env (eval e X.env) = eval e X.env := by rfl) :
    PE X (.Attribute e "given" pos) (fun σ H Q => te σ H fun x H1 => ∃ a d v, x = .ref a ∧ H1 a = some (ExG (.ref C) a d) ∧ H1 d = some (.xd [(("given" : Str), v)]) ∧ Q v H1) := by
  refine ⟨fun pins s σ H Q I h => ?_⟩
  refine attr_of hb (thn (he.run pins s σ H _ I h) fun u s1 hh => ?_)
  obtain ⟨x, H1, I1, rx, a, d, v, ex, ea, ed, q⟩ := hh
  subst ex
  obtain rfl : u = Value.ref a := rx
  obtain ⟨⟨oe, vs, ha, hz, hd, h1⟩, _, _⟩ := (show ObjOk X.prog X.w H1 s1.heap a (ExG (.ref C) a d) from I1.hok a _ ea)
  have hx : ObjOk X.prog X.w H1 s1.heap d (.xd [(("given" : Str), v)]) := I1.hok d _ ed
  obtain ⟨mA, hns, hr⟩ := hx
  obtain ⟨od, ho, hl⟩ := lookIn_ns hns
  have l : List.lookup ("given" : Str) [(("given" : Str), v)] = some v := by simp [List.lookup]
  obtain ⟨u, hu, ru⟩ := RelO.some_of (v := v) (o := mA "given") (by rw [← l]; exact hr "given")
  have J : PySem.W.InstAt s1.heap a oe C (some od) := ⟨ha, hz.1, by unfold PySem.W.notCls; rw [hd] <;> rfl, by rw [hz.2]; exact ho⟩
  exact HandSPX.exc_get I1.kIn J T.ga T.gg T.exC (PySem.W.findObj_own T.hdC T.noN rfl (by rw [hl, hu])) (handed_of ru) ⟨v, H1, I1.tok _, ru, q⟩
end
end L2
end

-- ErrVal2
section
set_option Elab.async false
set_option linter.all false
set_option maxRecDepth 100000
/-! isinstance of an error held as a value. -/
namespace L2
open PySem PySem.Spec PyProof.Rows
/-- what is known of the error class at C for isinstance -/
structure KitG (K : PySem.W.Frag) (C : Addr) : Prop where
  ic : PySem.W.isClsIn K C = true
  ga : PySem.W.findIn K (.ref C) "__getattribute__" = some (some (.builtin "BaseException.__getattribute__"))
  gg : ∃ gt, PySem.W.findIn K (.ref C) "__getattr__" = some gt
  ex : PySem.W.subIn K (.ref C) (.type "BaseException") = some true
  ha : PySem.W.findIn K (.ref C) "__class__" = some (some (.builtin "object.__class__"))
  hn : PySem.W.specialIn K (.builtin "object.__class__") "__get__" = some (some (.builtin "getset_descriptor.__get__"))
  htk : PySem.W.takesIn K (.builtin "object.__class__") = some true
  hm : PySem.W.mroIn K C (.type "object") = some true
def rIsiG (K : PySem.W.Frag) : List V → Hp → VK → Prop := fun xs H Q => ∃ (a d C : Addr) (fs : List (Str × V)) (c : V) (u : Value) (b : Bool), xs = [.ref a, c] ∧ H a = some (ExG (.ref C) a d) ∧ H d = some (.xd fs) ∧ KitG K C ∧ ClsV c u ∧ PySem.W.kitOne K (.ref C) u = some b ∧ Q (.bl b) H
theorem call_isiG {X : Cx} : CallR X (.builtin "isinstance") (rIsiG X.K) := by
  intro pins s σ H xs us Q I r h
  obtain ⟨a, d, C, fs, c, u, b, rfl, ea, ed, G, k, e, q⟩ := h
  obtain ⟨u1, u2, rfl, r1, r2⟩ := vals2 r
  cases (show u1 = Value.ref a from r1)
  have e2 := k.eq r2
  subst e2
  obtain ⟨⟨oe, vs, ha, hz, hd, h1⟩, _, _⟩ := (show ObjOk X.prog X.w H s.heap a (ExG (.ref C) a d) from I.hok a _ ea)
  have hx : ObjOk X.prog X.w H s.heap d (.xd fs) := I.hok d _ ed
  obtain ⟨mA, hns, hr⟩ := hx
  obtain ⟨od, ho, hl⟩ := lookIn_ns hns
  have J : PySem.W.InstAt s.heap a oe C (some od) := ⟨ha, hz.1, by unfold PySem.W.notCls; rw [hd] <;> rfl, by rw [hz.2]; exact ho⟩
  obtain ⟨gt, hgt⟩ := G.gg
  exact PySem.W.kia_one (PySem.W.kitx_exc (ox := oe) (od := some od) G.ic G.ga hgt G.ex G.ha G.hn G.htk G.hm) I.kIn J e (fun z => nomatch z) fun tk => ⟨.bl b, H, I.tok tk, rfl, q⟩
end L2
end

-- OwnTry
section
set_option Elab.async false
set_option linter.all false
set_option maxRecDepth 100000
/-! Calls whose exception is wished for at just these slots; isinstance of a held error with a dict. -/
namespace OwnTry
open PySem L2
/-- W at the slots σ -/
def EA (W : WX) (σ : L2.St) : XK := fun cls d H' => W cls d σ H'
section
variable {X : Cx} {k : Nat} {f C : Addr} {fd : FuncData} {ps : List Str} {sp : Sp} {dvs : List V} {ds : List Value} {W : WX} {x m : Str} {p pos apos : Pos} {e o : Expr} {es : List Expr} {ta : TE} {t : TA}
theorem out_at {pins : List (Addr × Obj)} {σ : L2.St} {H : Hp} {s : Shared} (tk : Takes X W) (I : L2.Inv X pins σ H s) {u : Value} {s' : Shared} (c : L2.CX X.prog X.w X.stack H s (EA W σ) u s') : X.xe u s' :=
  tk _ _ (XE.of_call I (fun _ _ _ z => z) c)
/-- a def called, W wished for if it raises -/
theorem run_at {A : Around} {pins : List (Addr × Obj)} {σ : L2.St} {H : Hp} {s : Shared} {Q : VK} {us : List Value} {vs : List V} (F : FnOk X.prog X.w X.K X.mg X.base (L2.CX X.prog X.w) k f fd ps sp) (room : Room k A)
    (e0 : Env0 X.prog X.w X.K X.mg X.base A X.stack s H) (bi : L2.Binds X.K fd ps ds) (dv : Vals dvs ds) (tk : Takes X W)
    (I : L2.Inv X pins σ H s) (rel : Vals vs us) (h : sp (vs ++ dvs) H Q (EA W σ)) : wpAny (model X.prog X.w) A (call (.ref f) us) (EP X pins σ Q) X.xe s := by
  have both := rel.append dv
  have size : (us ++ ds).length = ps.length := both.length.symm.trans (F.len _ _ _ _ h)
  have body := F.run A X.stack s H ⟨us, []⟩ (us ++ ds) (vs ++ dvs) Q (EA W σ) room e0 (bi s us I.kIn size) both h
  refine wpAny_call (codeAny_mono body fun res s' got => ?_)
  match res, got with
  | .error u, got => exact out_at tk I got
  | .ok (.ret u), got => exact I.after got
  | .ok .next, got => exact got.elim
  | .ok .brk, got => exact got.elim
  | .ok .cont, got => exact got.elim
/-- o.m(e, ..) in a try -/
def tMethA (C : Addr) (m : Str) (sp : Sp) (dvs : List V) (W : WX) (ta : TE) (t : TA) : TE := fun σ H Q => ta σ H fun x H1 => ∃ a dx fs, x = .ref a ∧ H1 a = some (.ins C dx fs) ∧ fs.lookup m = none ∧ t σ H1 fun vs H2 => sp (.ref a :: (vs ++ dvs)) H2 Q (EA W σ)
theorem pe_methA {pl : Sem Bool} (he : PE X o ta) (c : Cls X.K C) (hm : Meth X.K C m f) (F : FnOk X.prog X.w X.K X.mg X.base (L2.CX X.prog X.w) k f fd ps sp) (room : Room k X.A) (bi : L2.Binds X.K fd ps ds) (dv : Vals dvs ds) (tk : Takes X W) (ha : PA X (e :: es) t)
    (hst : starEach (e :: es) X.env = (false, eval e X.env) :: starEach es X.env := by rfl) (hpl : (backTo pos (starEach es X.env)).any (·.1) = false := by rfl)
    (ht : eval (.Call (.Attribute o m apos) (e :: es) [] pos) X.env = (do
      let ov ← eval o X.env
      standAt apos.atName
      let (f, first) ← holding [ov] (getMethod ov m pl)
      callWith pos f first (backTo pos (starEach (e :: es) X.env)) (backToKw pos (keywordEach [] X.env))) := by rfl) :
    PE X (.Call (.Attribute o m apos) (e :: es) [] pos) (tMethA C m sp dvs W ta t) := by
  refine ⟨fun pins s σ H Q I h => ?_⟩
  refine PySem.W.methodCall_KW (pl := pl) (thn (he.run pins s σ H _ I h) fun u s1 hh => ?_) ht
  obtain ⟨x, H1, I1, rx, a, dx, fs, ex, ea, l, q⟩ := hh
  subst ex
  obtain rfl : u = Value.ref a := rx
  refine getmeth_ok I1 ea c hm l ?_
  refine PySem.W.callWith_K (first := [.ref a]) (h₀ := X.base) I.ok.mod.kin hm.kp (thn (ha.run pos pins s1 σ H1 _ I1 q) fun us s2 h2 => ?_) hst hpl
  obtain ⟨vs, H2, I2, r, q2⟩ := h2
  exact ⟨I2.kIn, run_at (us := .ref a :: us) (vs := .ref a :: vs) F room I2.env0 bi dv tk I2 (.cons rfl r) q2⟩
end
/-- isinstance(e, c), e the error with a dict that the suite holds -/
def rIsiH (K : PySem.W.Frag) (a : Addr) (cls : Value) (d : Option Addr) : List V → Hp → VK → Prop := fun xs H Q => ∃ (C dd : Addr) (fs : List (Str × V)) (c : V) (u : Value) (b : Bool),
  xs = [.ref a, c] ∧ cls = .ref C ∧ d = some dd ∧ H dd = some (.xd fs) ∧ KitG K C ∧ ClsV c u ∧ PySem.W.kitOne K (.ref C) u = some b ∧ Q (.bl b) H
theorem call_isiH {X : Cx} {a : Addr} {oe : Obj} {cls : Value} {d : Option Addr} {pn : List (Addr × Obj)} (hz : Zc cls d oe) (hf : ∃ vs, oe.data = .fields vs) : CallR (X.suite a ((a, oe) :: pn)) (.builtin "isinstance") (rIsiH X.K a cls d) := by
  intro pins s σ H xs us Q I r h
  obtain ⟨C, dd, fs, c, u, b, rfl, rfl, rfl, ed, G, k, e, q⟩ := h
  obtain ⟨u1, u2, rfl, r1, r2⟩ := vals2 r
  cases (show u1 = Value.ref a from r1)
  have e2 := k.eq r2
  subst e2
  obtain ⟨ha, _⟩ := I.pin (a, oe) (List.mem_append_left _ List.mem_cons_self)
  obtain ⟨vs, hd⟩ := hf
  have hx : ObjOk X.prog X.w H s.heap dd (.xd fs) := I.hok dd _ ed
  obtain ⟨mA, hns, hr⟩ := hx
  obtain ⟨od, ho, hl⟩ := lookIn_ns hns
  have J : PySem.W.InstAt s.heap a oe C (some od) := ⟨ha, hz.1, by unfold PySem.W.notCls; rw [hd] <;> rfl, by rw [hz.2]; exact ho⟩
  obtain ⟨gt, hgt⟩ := G.gg
  exact PySem.W.kia_one (PySem.W.kitx_exc (ox := oe) (od := some od) G.ic G.ga hgt G.ex G.ha G.hn G.htk G.hm) I.kIn J e (fun z => nomatch z) fun tk => ⟨.bl b, H, I.tok tk, rfl, q⟩
end OwnTry
end

-- Gen1
section
set_option Elab.async false
set_option linter.all false
set_option maxRecDepth 100000
/-! what every law's text wants again. -/
namespace G1
open PySem L2 OwnOps
theorem if_pos' {c : Bool} {A B : Prop} (hc : c = true) (h : A) : if c = true then A else B := by
  rw [if_pos hc]
  exact h
theorem if_neg' {c : Bool} {A B : Prop} (hc : c = false) (h : B) : if c = true then A else B := by
  rw [hc, if_neg Bool.false_ne_true]
  exact h
theorem same_upd {H : Hp} {p : Addr} {o : HO} (h : H p = none) : Same H (upd H p o) := fun b u e => by
  rw [upd_ne (ne_of_none e h)]
  exact e
theorem same_put {H G : Hp} {D : Addr} {o : HO} (s : Same H G) (h : H D = none) : Same H (upd G D o) := fun b u e => by
  rw [upd_ne (ne_of_none e h)]
  exact s b u e
/-- a new instance in making -/
theorem same_new {H : Hp} {x dx C : Addr} (hx : H x = none) (hd : H dx = none) : Same H (upd (upd H dx (.own x)) x (.ins C dx [])) := fun b u e => by
  rw [upd_ne (ne_of_none e hx), upd_ne (ne_of_none e hd)]
  exact e
/-- all stands but at l -/
def SameX (l : Addr) (H H' : Hp) : Prop := ∀ b u, b ≠ l → H b = some u → H' b = some u
theorem SameX.refl (l : Addr) (H : Hp) : SameX l H H := fun _ _ _ e => e
theorem SameX.trans {l : Addr} {H H1 H2 : Hp} (a : SameX l H H1) (b : SameX l H1 H2) : SameX l H H2 := fun c o n h => b c o n (a c o n h)
theorem SameX.of {l : Addr} {H H' : Hp} (a : Same H H') : SameX l H H' := fun c o _ h => a c o h
theorem SameX.upd {l : Addr} {H : Hp} {o : HO} : SameX l H (upd H l o) := fun c u n h => by
  rw [upd_ne n]
  exact h
theorem SameX.put {l a : Addr} {H H1 : Hp} {o : HO} (s : SameX l H H1) (h : H1 a = none) : SameX l H (L2.upd H1 a o) := fun c u n e => by
  rw [upd_ne (ne_of_none (s c u n e) h)]
  exact s c u n e
theorem same_made {H H' : Hp} {C x dx : Addr} (hx : H x = none) (hd : H dx = none) (sx : SameX x (upd (upd H dx (.own x)) x (.ins C dx [])) H') : Same H H' := fun b u e =>
  sx b u (ne_of_none e hx) (same_new hx hd b u e)
/-- a def of the module, called by its name -/
structure Glb (P : Program) (w : World) (K : PySem.W.Frag) (mg : Str → Option Value) (base : Heap) (x : Str) (k : Nat) (ps : List Str) (sp : Sp) : Prop where
  ex : ∃ (f : Addr) (fd : FuncData), mg x = some (.ref f) ∧ PySem.W.keepIn K (.ref f) = true ∧ FnOk P w K mg base (L2.CX P w) k f fd ps sp ∧ L2.Binds K fd ps []
/-- a method of the class, by its name -/
structure Dun (P : Program) (w : World) (K : PySem.W.Frag) (mg : Str → Option Value) (base : Heap) (C : Addr) (nm : Str) (k : Nat) (ps : List Str) (sp : Sp) : Prop where
  ex : ∃ (f : Addr) (fd : FuncData), PySem.W.findIn K (.ref C) nm = some (some (.ref f)) ∧ PySem.W.isFn K (.ref f) = true ∧ PySem.W.keepIn K (.ref f) = true ∧ FnOk P w K mg base (L2.CX P w) k f fd ps sp ∧ L2.Binds K fd ps []
section
variable {prog : Program} {w : World} {A : Around} {E : Value → Shared → Prop} {s : Shared}
theorem eqBool_rc {l : Addr} {v : Value} {Q : Bool → Shared → Prop} (ne : (Value.ref l == v) = false)
    (h : wpAny (model prog w) A (richCompare .Eq (.ref l) v) (fun x s' => ∃ r, x = .bool r ∧ Q r s') E s) : wpAny (model prog w) A (eqBool (.ref l) v) Q E s := by
  unfold eqBool
  refine wpAny_holding (wpAny_ite_split (fun z => absurd z (by rw [ne]; decide)) fun _ => wpAny_bind (wpAny_mono h ?_ fun _ _ x => x))
  rintro x s' ⟨r, rfl, q⟩
  exact wpAny_truthy_bool q
end
abbrev Fs := List (Str × V)
theorem putF_ne {n m : Str} {x y : V} {r : Fs} (h : ¬ m = n) : putF n y ((m, x) :: r) = (m, x) :: putF n y r := by
  show (if m = n then _ else _) = _
  rw [if_neg h] <;> rfl
theorem putF_eq {n : Str} {x y : V} {r : Fs} : putF n y ((n, x) :: r) = (n, y) :: r := by
  show (if n = n then _ else _) = _
  rw [if_pos rfl] <;> rfl
theorem lk_cons {n m : Str} {v : V} {l : List (Str × V)} (h : ¬ m = n) : ((m, v) :: l).lookup n = l.lookup n := by
  rw [List.lookup_cons, beq_false_of_ne (fun e => h e.symm)] <;> rfl
theorem lk_here {n : Str} {v : V} {l : List (Str × V)} : ((n, v) :: l).lookup n = some v := by
  rw [List.lookup_cons, beq_self_eq_true] <;> rfl
/-- all so far were true -/
def AllI (H : Hp) (D : Addr) (j : Nat) : Hp → Prop := fun G => Same H G ∧ G D = some (.lst ((List.replicate j true).map V.bl))
theorem all0 {H : Hp} {D : Addr} (h : H D = none) : AllI H D 0 (upd H D (.lst [])) := ⟨same_upd h, upd_same⟩
theorem AllI.step {H G G' : Hp} {D : Addr} {j : Nat} (i : AllI H D j G) (h : H D = none) (s : Same G G') : G' D = some (.lst ((List.replicate j true).map V.bl)) ∧ AllI H D (j + 1) (upd G' D (.lst ((List.replicate j true).map V.bl ++ [.bl true]))) := by
  refine ⟨s _ _ i.2, same_put (i.1.trans s) h, ?_⟩
  rw [upd_same, List.replicate_succ', List.map_append]
  rfl
theorem rep_len {j : Nat} (h : j < sizeLine) : ((List.replicate j true).map V.bl).length < sizeLine := by
  rw [List.length_map, List.length_replicate]
  exact h
theorem rep_all (j : Nat) : (List.replicate j true).all id = true := by
  rw [List.all_eq_true]
  intro x h
  rw [(List.mem_replicate.mp h).2]
  rfl
theorem map_at {xs : List Str} {j : Nat} {x : V} (h : (xs.map V.str)[j]? = some x) : ∃ t, xs[j]? = some t ∧ x = .str t := by
  rw [List.getElem?_map] at h
  cases e : xs[j]? with
  | none => rw [e] at h; cases h
  | some t =>
    rw [e] at h
    cases h
    exact ⟨t, rfl, rfl⟩
theorem yes_go {σ : L2.St} {H : Hp} {Q : Bool → Hp → Prop} (h : Q true H) : tYes σ H Q := h
end G1
end

-- EqDict
section
set_option Elab.async false
set_option linter.all false
set_option maxRecDepth 100000
/-! == of two dicts with flat values, whatever comes of it; of lists of such dicts. -/
namespace EqDict
open PySem L2 PySem.W OwnNe
abbrev Ent := List (Key × V)
/-- the same entries -/
def at1 (ls : Ent) (p : Key × V) : Bool := match valV ls p.1 with
  | none => false
  | some y => eqV p.2 y
def dEq (ks ls : Ent) : Bool := (ks.length == ls.length) && ks.all (at1 ls)
def Flt (ks : Ent) : Prop := ∀ p ∈ ks, flatV p.2 = true
theorem valV_mem {ls : Ent} {k : Key} {y : V} (h : valV ls k = some y) : ∃ p ∈ ls, p.2 = y := by
  unfold valV at h
  cases e : ls.find? (fun p => p.1 = k) with
  | none => rw [e] at h; cases h
  | some p =>
    rw [e] at h
    cases h
    exact ⟨p, List.mem_of_find?_eq_some e, rfl⟩
theorem hits {A : Around} {s : Shared} {ls : Ent} {vb : List (Key × Value)} (rb : KV ls vb) (fl : Flt ls) : ∀ {ks : Ent} {va : List (Key × Value)}, KV ks va → Flt ks →
    KeqHits A s vb va (ks.all (at1 ls))
  | _, _, .nil, _ => .nil
  | (k, x) :: ks, (k', u) :: va, .cons r t, f => by
    obtain ⟨r1, r2⟩ := r
    cases (show k = k' from r1)
    have rest := hits (A := A) (s := s) rb fl t fun p h => f p (List.mem_cons_of_mem _ h)
    rw [List.all_cons]
    unfold at1
    dsimp only
    have ro : RelO (valV ls k) (valueAt vb k) := rb.val k
    cases e : valV ls k with
    | none =>
      rw [e] at ro
      exact .miss (RelO.none_of ro)
    | some y =>
      rw [e] at ro
      obtain ⟨v, hv, rv⟩ := ro.some_of
      obtain ⟨p, hp, rfl⟩ := valV_mem e
      exact .hit hv (eqAt_V r2 rv (f _ List.mem_cons_self) (fl p hp)) rest
section
variable {X : Cx}
def rEqD (neg : Bool) : R2 := fun x y H Q => ∃ a b ks ls, x = .ref a ∧ y = .ref b ∧ Rd H a (.dK ks) ∧ Rd H b (.dK ls) ∧ Flt ks ∧ Flt ls ∧ Q (.bl (if neg then !dEq ks ls else dEq ks ls)) H
theorem op_eqDT (hu : X.A.units < cLine) : OpR X (compareOp .Eq) (rEqD false) := by
  intro pins s σ H x y v u Q I rx ry h
  obtain ⟨a, b, ks, ls, rfl, rfl, ea, eb, f1, f2, q⟩ := h
  cases rx
  cases ry
  obtain ⟨_, ya, va, ra, da⟩ := dk_rd I.hok ea
  obtain ⟨_, yb, vb, rb, db⟩ := dk_rd I.hok eb
  refine keq_eq (knd := mixKind X.prog X.w) ya yb da db hu (fun _ => hits rb f2 ra f1) ⟨.bl (dEq ks ls), H, I, ?_, q⟩
  unfold dEq
  rw [show ks.length = va.length from Paired.length ra, show ls.length = vb.length from Paired.length rb]
  rfl
theorem op_neDT (hu : X.A.units < cLine) : OpR X (compareOp .NotEq) (rEqD true) := by
  intro pins s σ H x y v u Q I rx ry h
  obtain ⟨a, b, ks, ls, rfl, rfl, ea, eb, f1, f2, q⟩ := h
  cases rx
  cases ry
  obtain ⟨_, ya, va, ra, da⟩ := dk_rd I.hok ea
  obtain ⟨_, yb, vb, rb, db⟩ := dk_rd I.hok eb
  refine keq_ne (knd := mixKind X.prog X.w) ya yb da db hu (fun _ => hits rb f2 ra f1) ⟨.bl (!dEq ks ls), H, I, ?_, q⟩
  unfold dEq
  rw [show ks.length = va.length from Paired.length ra, show ls.length = vb.length from Paired.length rb]
  rfl
/-- two dicts, apart -/
def DD : V → V → Hp → Bool → Prop := fun x y H r => ∃ a b ks ls, x = .ref a ∧ y = .ref b ∧ a ≠ b ∧ H a = some (.dK ks) ∧ H b = some (.dK ls) ∧ Flt ks ∧ Flt ls ∧ r = dEq ks ls
theorem mon_DD : ∀ x y H H' b, Ext H H' → DD x y H b → DD x y H' b := fun _ _ _ _ _ e ⟨a, b, ks, ls, h1, h2, n, h3, h4, r⟩ => ⟨a, b, ks, ls, h1, h2, n, e _ _ h3, e _ _ h4, r⟩
theorem eqB_DD : EqB X 1 DD := by
  intro A pins s σ H x y u v r sb I rx ry d
  obtain ⟨a, b, ks, ls, rfl, rfl, ne, ea, eb, f1, f2, rfl⟩ := d
  cases rx
  cases ry
  refine G1.eqBool_rc (beq_eq_false_iff_ne.mpr fun z => ne (Value.ref.inj z)) ?_
  obtain ⟨_, ya, va, ra, da⟩ := dk_rd I.hok (.inl ea)
  obtain ⟨_, yb, vb, rb, db⟩ := dk_rd I.hok (.inl eb)
  refine keq_eq (knd := mixKind X.prog X.w) ya yb da db sb.room.units0 (fun _ => hits rb f2 ra f1) ⟨_, rfl, ?_, H, I, Ext.rfl'⟩
  unfold dEq
  rw [show ks.length = va.length from Paired.length ra, show ls.length = vb.length from Paired.length rb]
end
end EqDict
end

-- OwnInv
section
set_option Elab.async false
set_option linter.all false
set_option maxRecDepth 100000
/-! own ~x and len(x). -/
namespace OwnOps
open PySem L2
section
variable {X : Cx} {CX : CXT} {C g f : Addr} {k : Nat} {fd : FuncData} {ps : List Str} {sp : Sp} {E : XK}
theorem inv_own (hs : PySem.W.findIn X.K (.ref C) "__invert__" = some (some (.ref g))) (hf : PySem.W.isFn X.K (.ref g) = true) (F : FnOk X.prog X.w X.K X.mg X.base CX k g fd ps sp) (hr : Room k X.A) (hb : Binds X.K fd ps []) (hx : Passes CX X E) :
    UnR X (unaryOp .Invert) (rOwn1 C sp E fun _ => True) := by
  intro pins s σ H x v Q I rx ⟨a, dx, fs, e, ha, q⟩
  subst e
  cases (show v = Value.ref a from rx)
  obtain ⟨od, J⟩ := inst_at I ha
  obtain ⟨m, hF⟩ := I.fr
  refine PySem.W.ksp_inv hF I.ok.mod.kin J hs hf (wpAny_mono (run_any (us := [.ref a]) (vs := [.ref a]) F hr I.env0 hb hx I (.cons rfl .nil) q) (fun w s' ⟨z', H', I', rz, _, qz⟩ => ⟨z', H', I', rz, qz⟩) fun _ _ e => e)
/-- len(x) by x's own def -/
def rLenO (C : Addr) (sp : Sp) (E : XK) : List V → Hp → VK → Prop := fun xs H Q => ∃ a dx fs, xs = [.ref a] ∧ H a = some (.ins C dx fs) ∧ sp [.ref a] H (fun v H' => ∃ n : Int, v = .int n ∧ 0 ≤ n ∧ n < 2 ^ 63 ∧ Q (.int n) H') E
theorem call_lenO (hs : PySem.W.findIn X.K (.ref C) "__len__" = some (some (.ref g))) (hf : PySem.W.isFn X.K (.ref g) = true) (F : FnOk X.prog X.w X.K X.mg X.base CX k g fd ps sp) (hr : Room (k + 1) X.A) (hb : Binds X.K fd ps []) (hx : Passes CX X E) :
    CallR X (.builtin "len") (rLenO C sp E) := by
  intro pins s σ H xs us Q I rx ⟨a, dx, fs, e, ha, q⟩
  subst e
  obtain ⟨u, rfl, ru⟩ := vals1 rx
  cases (show u = Value.ref a from ru)
  obtain ⟨od, J⟩ := inst_at I ha
  obtain ⟨m, hF⟩ := I.fr
  refine PySem.W.len_K hF I.ok.mod.kin J hs hf (wpAny_mono (run_any (us := [.ref a]) (vs := [.ref a]) F hr.in1 I.env0.in1 hb hx I (.cons rfl .nil) q) (fun w s' ⟨z', H', I', rz, n, e, n0, n1, qz⟩ => ?_) fun _ _ e => e)
  subst e
  obtain ⟨t, rfl⟩ := rz
  exact ⟨⟨n0, n1⟩, .int n, H', I'.tok _, ⟨_, rfl⟩, qz⟩
end
end OwnOps
end

-- M6m
section
set_option Elab.async false
set_option linter.all false
set_option maxRecDepth 100000
/-! maps of texts to texts. -/
namespace R6
open PySem L2 SortStr EqDict
abbrev Mp := List (Str × Str)
def dS (m : Mp) : Ent := m.map fun p => (Sum.inr p.1, V.str p.2)
abbrev ks (m : Mp) : List Str := m.map (·.1)
abbrev vs (m : Mp) : List Str := m.map (·.2)
structure One (m : Mp) : Prop where
  kn : (ks m).Nodup
  vn : (vs m).Nodup
  few : m.length ≤ 1000
theorem dS_keys (m : Mp) : (dS m).map (·.1) = (ks m).map Sum.inr := by
  unfold dS ks
  rw [List.map_map, List.map_map]
  rfl
theorem dS_kV (m : Mp) : (dS m).map (fun p => kV p.1) = (ks m).map V.str := by
  unfold dS ks
  rw [List.map_map, List.map_map]
  rfl
theorem dS_vals (m : Mp) : (dS m).map (·.2) = (vs m).map V.str := by
  unfold dS vs
  rw [List.map_map, List.map_map]
  rfl
theorem dS_len (m : Mp) : (dS m).length = m.length := List.length_map _
theorem dS_flt (m : Mp) : Flt (dS m) := fun p h => by
  obtain ⟨q, _, rfl⟩ := List.mem_map.mp h
  rfl
theorem One.line {m : Mp} (o : One m) : (dS m).length ≤ sizeLine := by
  rw [dS_len]
  exact Nat.le_trans o.few (by decide)
/-- what stands at k -/
def at_ (m : Mp) (k : Str) : Option Str := (m.find? fun p => decide (p.1 = k)).map (·.2)
theorem dS_at (m : Mp) (k : Str) : valV (dS m) (Sum.inr k) = (at_ m k).map V.str := by
  unfold valV at_ dS
  rw [List.find?_map, Option.map_map, Option.map_map]
  have e : ((fun kv : Key × V => decide (kv.1 = Sum.inr k)) ∘ fun p : Str × Str => ((Sum.inr p.1 : Key), V.str p.2)) = fun p => decide (p.1 = k) := by
    funext p
    show decide ((Sum.inr p.1 : Key) = Sum.inr k) = _
    exact decide_eq_decide.mpr ⟨fun h => Sum.inr.inj h, fun h => by rw [h]⟩
  rw [e]
  rfl
theorem at_mem {m : Mp} (h : (ks m).Nodup) {p : Str × Str} (hp : p ∈ m) : at_ m p.1 = some p.2 := by
  unfold at_
  induction m with
  | nil => cases hp
  | cons q r ih =>
    obtain ⟨h1, h2⟩ := List.nodup_cons.mp (show (q.1 :: ks r).Nodup from h)
    rw [List.find?_cons]
    by_cases e : q.1 = p.1
    · rcases List.mem_cons.mp hp with rfl | hm
      · rw [decide_eq_true rfl] <;> rfl
      · exact absurd (List.mem_map.mpr ⟨p, hm, e.symm⟩) h1
    · rw [decide_eq_false e]
      rcases List.mem_cons.mp hp with rfl | hm
      · exact absurd rfl e
      · exact ih h2 hm
theorem at_none {m : Mp} {k : Str} (h : k ∉ ks m) : at_ m k = none := by
  unfold at_
  rw [List.find?_eq_none.mpr] <;> first | rfl | skip
  intro p hp z
  exact h (List.mem_map.mpr ⟨p, hp, of_decide_eq_true z⟩)
theorem at_some {m : Mp} {k v : Str} (h : at_ m k = some v) : (k, v) ∈ m := by
  unfold at_ at h
  cases e : m.find? fun p => decide (p.1 = k) with
  | none => rw [e] at h; cases h
  | some p =>
    rw [e] at h
    cases h
    have := List.find?_some e
    rw [← of_decide_eq_true this]
    exact List.mem_of_find?_eq_some e
theorem at_key {m : Mp} {k : Str} (h : k ∈ ks m) : ∃ v, at_ m k = some v ∧ (k, v) ∈ m := by
  obtain ⟨p, hp, rfl⟩ := List.mem_map.mp h
  cases e : at_ m p.1 with
  | none =>
    unfold at_ at e
    rw [Option.map_eq_none_iff, List.find?_eq_none] at e
    exact absurd (decide_eq_true rfl) (e p hp)
  | some v => exact ⟨v, rfl, at_some e⟩
theorem dS_put {m : Mp} {k v : Str} (h : k ∉ ks m) : putK (dS m) (Sum.inr k) (.str v) = dS (m ++ [(k, v)]) := by
  unfold putK
  rw [if_neg]
  · unfold dS
    rw [List.map_append]
    rfl
  · intro z
    obtain ⟨q, hq, e⟩ := List.any_eq_true.mp z
    obtain ⟨p, hp, rfl⟩ := List.mem_map.mp hq
    exact h (List.mem_map.mpr ⟨p, hp, Sum.inr.inj (of_decide_eq_true e)⟩)
/-- m, then l -/
def thn (m l : Mp) : Mp := m.map fun p => (p.1, (at_ l p.2).getD Str.empty)
def inv (m : Mp) : Mp := m.map fun p => (p.2, p.1)
def isId (m : Mp) : Bool := m.all fun p => decide (p.1 = p.2)
theorem ks_inv (m : Mp) : ks (inv m) = vs m := by
  unfold inv
  rw [show ks (m.map fun p => (p.2, p.1)) = vs m from List.map_map ..]
theorem vs_inv (m : Mp) : vs (inv m) = ks m := by
  unfold inv
  rw [show vs (m.map fun p => (p.2, p.1)) = ks m from List.map_map ..]
theorem ks_thn (m l : Mp) : ks (thn m l) = ks m := List.map_map ..
theorem One.inv {m : Mp} (o : One m) : One (inv m) := ⟨by rw [ks_inv]; exact o.vn, by rw [vs_inv]; exact o.kn, by rw [show (R6.inv m).length = m.length from List.length_map _]; exact o.few⟩
/-- l begins where m ends -/
def Fol (m l : Mp) : Prop := (vs m).Perm (ks l)
theorem at_inj {l : Mp} (o : One l) {a b : Str} (ha : a ∈ ks l) (hb : b ∈ ks l) (e : (at_ l a).getD Str.empty = (at_ l b).getD Str.empty) : a = b := by
  obtain ⟨x, hx, mx⟩ := at_key ha
  obtain ⟨y, hy, my⟩ := at_key hb
  rw [hx, hy] at e
  have e : x = y := e
  subst e
  obtain ⟨i, hi, ei⟩ := List.getElem_of_mem mx
  obtain ⟨j, hj, ej⟩ := List.getElem_of_mem my
  have vi : (vs l)[i]'(by rw [List.length_map]; exact hi) = x := by rw [List.getElem_map, ei]
  have vj : (vs l)[j]'(by rw [List.length_map]; exact hj) = x := by rw [List.getElem_map, ej]
  have ij := (List.getElem_inj o.vn).mp (vi.trans vj.symm)
  subst ij
  rw [ei] at ej
  exact (Prod.mk.inj ej).1
theorem One.thn {m l : Mp} (o : One m) (ol : One l) (f : Fol m l) : One (thn m l) := by
  refine ⟨by rw [ks_thn]; exact o.kn, ?_, by rw [show (R6.thn m l).length = m.length from List.length_map _]; exact o.few⟩
  have e : vs (R6.thn m l) = (vs m).map fun v => (at_ l v).getD Str.empty := by
    unfold R6.thn vs
    rw [List.map_map, List.map_map]
    rfl
  rw [e]
  refine List.Pairwise.map _ (fun a b h => h) (List.Pairwise.imp_of_mem (fun {a b} ha hb ne z => ?_) o.vn)
  exact ne (at_inj ol (f.mem_iff.mp ha) (f.mem_iff.mp hb) z)
end R6
end

-- SrtEq
section
set_option Elab.async false
set_option linter.all false
set_option maxRecDepth 100000
namespace SortStr
open PySem L2 PySem.W PyProof.Rows
theorem srtS_eq {xs ys : List Str} (h : xs.Perm ys) : srtS xs = srtS ys := by
  have le : dataLe false PyData.str = fun a b : Str => decide (a.cps.toList ≤ b.cps.toList) := dataLe_str (fun b : Str => b)
  unfold srtS
  rw [le]
  have tr : ∀ a b c : Str, decide (a.cps.toList ≤ b.cps.toList) = true → decide (b.cps.toList ≤ c.cps.toList) = true → decide (a.cps.toList ≤ c.cps.toList) = true := fun a b c p q => decide_eq_true (List.le_trans (of_decide_eq_true p) (of_decide_eq_true q))
  have tot : ∀ a b : Str, (decide (a.cps.toList ≤ b.cps.toList) || decide (b.cps.toList ≤ a.cps.toList)) = true := fun a b => by
    rcases List.le_total a.cps.toList b.cps.toList with z | z
    · rw [decide_eq_true z] <;> rfl
    · rw [decide_eq_true z, Bool.or_true]
  refine List.Perm.eq_of_pairwise (le := fun a b : Str => decide (a.cps.toList ≤ b.cps.toList) = true) (fun a b _ _ p q => ?_) (List.pairwise_mergeSort tr tot xs) (List.pairwise_mergeSort tr tot ys) (((List.mergeSort_perm xs _).trans h).trans (List.mergeSort_perm ys _).symm)
  have e : a.cps.toList = b.cps.toList := List.le_antisymm (of_decide_eq_true p) (of_decide_eq_true q)
  cases a
  cases b
  congr
  exact Array.toList_inj.mp e
end SortStr
end

-- S8a
section
set_option Elab.async false
set_option linter.all false
set_option maxRecDepth 100000
namespace R6
open PySem L2 OwnOps OwnNe SortStr EqDict SetStr DictList StX
open G1
def top (i : Nat) : Stmt := PySem.Challenge.pw_wishedwires_k38_matchings_refused.main.body.getD i (.Pass ⟨0, 0, 0, 0⟩)
abbrev sMat (j : Nat) : Stmt := inClass (top 6) j
abbrev sOne : Stmt := top 7
abbrev sFol : Stmt := top 8
/-- what is known of the names -/
structure Txt (K : PySem.W.Frag) (mg : Str → Option Value) (C : Addr) : Prop where
  cl : Cls K C
  n1 : NoAttr K C "_net_map"
  n2 : NoAttr K C "_id_map"
  n3 : NoAttr K C "_pairs"
  n4 : NoAttr K C "is_identity"
  gC : mg "Matching" = some (.ref C)
  ha : PySem.W.findIn K (.ref C) "__class__" = some (some (.builtin "object.__class__"))
  hn : PySem.W.specialIn K (.builtin "object.__class__") "__get__" = some (some (.builtin "getset_descriptor.__get__"))
  htk : PySem.W.takesIn K (.builtin "object.__class__") = some true
  hm : PySem.W.mroIn K C (.type "object") = some true
  kCC : PySem.W.kitOne K (.ref C) (.ref C) = some true
  kdC : PySem.W.kitOne K (.type "dict") (.ref C) = some false
  isi : mg "isinstance" = none
  str : mg "str" = none
  dict : mg "dict" = none
  list : mg "list" = none
  len : mg "len" = none
  set : mg "set" = none
  all : mg "all" = none
  iter : mg "iter" = none
  sorted : mg "sorted" = none
  int : mg "int" = none
  enum : mg "enumerate" = none
section
variable {P : Program} {w : World} {K : PySem.W.Frag} {mg : Str → Option Value} {base : Heap} {C : Addr}
/-! ### _is_one_to_one -/
def spOne : Sp := fun vs H Q _ => ∃ (a : Addr) (m : Mp), vs = [.ref a] ∧ H a = some (.dK (dS m)) ∧ One m ∧ ∀ H', Same H H' → Q (.bl true) H'
theorem ok_one {f : Addr} {fd : FuncData} (F : Fun K "_is_one_to_one" "_is_one_to_one" sOne f fd) (T : Txt K mg C) : FnOk P w K mg base (L2.CX P w) 1 f fd ["told"] spOne := by
  have sc : FnScope ["told", "places", "text"] ["told"] (defScope sOne) := ⟨rfl, rfl, rfl, by decide +kernel, rfl, by decide +kernel, by decide +kernel⟩
  refine F.okX sc (fun vs H Q E h => ?_) (fun cdv A outer s H vs Q E hr h => ?_)
  · obtain ⟨a, m, rfl, _⟩ := h
    rfl
  · obtain ⟨a, m, rfl, ha, o, k⟩ := h
    refine ⟨_, pss_cons (ps_if (pt_not (pt_val (pe_callB call_isi (by rfl) T.isi (by decide +kernel) (pa_cons (pv 0) (pa_cons (pe_bltn (v := .ty "dict") (by rfl) T.dict (by decide +kernel) rfl) pa_nil))))) (pss_one (ps_ret pe_bl)) pss_nil)
      (pss_cons (ps_set (i := 1) sc.nd rfl (Or.inl rfl) (pe_listV (pv 0) (by rfl) T.list))
      (pss_one (ps_ret (pe_and (pe_callB (cr_all rfl) (by rfl) T.all (by decide +kernel) (pa_cons (pe_lc (own := [("text", 2)]) (g := gName 2) (tt := tYes) rfl sc.nd (pi_list (pe_lst (pa_starD (pv 0) (pa_star (pv 1) pa_nil)))) (blkOk_by (N := ["told", "places", "text"]) (sc := defScope sOne) (by decide +kernel)) (fun _ _ _ _ _ => pg_name (i := 2) sc.nd rfl (Or.inl rfl)) (fun _ _ _ _ _ => pts_nil)
          (fun _ _ _ _ _ => pe_callB (id := "isinstance") (show CallR _ (.builtin "isinstance") (rIsi K) from call_isi) (by rfl) T.isi (by decide +kernel) (pa_cons (pv 2) (pa_cons (pe_bltn (v := .ty "str") (by rfl) T.str (by decide +kernel) rfl) pa_nil)))) pa_nil))
        (pe_one (pe_cmpR op_eq (pe_lenS (by rfl) T.len (by rfl) T.set (pv 1)) (pe_callB call_len_seq (by rfl) T.len PySem.boot_len (pa_cons (pv 1) pa_nil)) (nomark _))))))), ?_⟩
    refine ⟨_, rfl, _, _, _, _, _, rfl, .ty _, .base (.dK ha), kit_ty (r := true) (by decide +kernel), _, rfl, if_neg' rfl ?_⟩
    refine ⟨_, rfl, a, dS m, rfl, .inl ha, fun p hp => ?_⟩
    rw [dS_vals]
    have s1 : Same H (upd H p (.lst ((vs m).map V.str))) := same_upd hp
    have h1 : (upd H p (.lst ((vs m).map V.str))) p = some (.lst ((vs m).map V.str)) := upd_same
    generalize upd H p (.lst ((vs m).map V.str)) = H1 at s1 h1 ⊢
    refine ⟨_, rfl, a, dS m, rfl, .inl (s1 _ _ ha), _, rfl, p, _, rfl, .inr (SqL.of h1), ?_⟩
    have e : (dS m).map (fun p => kV p.1) ++ ((vs m).map V.str ++ []) = (ks m ++ vs m).map V.str := by rw [dS_kV, List.append_nil, List.map_append]
    have n : (ks m ++ vs m).length ≤ 2000 := by
      rw [List.length_append, List.length_map, List.length_map]
      have := o.few
      omega
    refine ⟨by rw [e, List.length_map]; exact Nat.le_trans n (by decide), fun q hq => ?_⟩
    rw [e]
    refine ⟨q, rfl, ⟨_, SqL.of upd_same⟩, fun D hD => ?_⟩
    have s2 : Same H1 (upd H1 q (.lst ((ks m ++ vs m).map V.str))) := same_upd hq
    have h2 : (upd H1 q (.lst ((ks m ++ vs m).map V.str))) q = some (.lst ((ks m ++ vs m).map V.str)) := upd_same
    generalize upd H1 q (.lst ((ks m ++ vs m).map V.str)) = H2 at s2 h2 hD ⊢
    refine lc_list (K := K) (a := q) (xs := (ks m ++ vs m).map V.str) (fun j G => AllI H2 D j G ∧ j ≤ 2000) ⟨all0 hD, by decide⟩ (fun j G _ i => SqL.of (i.1.1 _ _ h2)) (fun j x G hx ⟨i, _⟩ => ⟨rfl, yes_go ?_⟩) (fun G ⟨i, _⟩ => ?_)
    · obtain ⟨t, ht, rfl⟩ := map_at hx
      have lt : j < (ks m ++ vs m).length := (List.getElem?_eq_some_iff.mp ht).1
      obtain ⟨f1, f2⟩ := i.step hD (Same.refl G)
      exact iteT ⟨_, rfl, _, _, _, _, _, rfl, .ty _, .base (.str t), kit_ty (r := true) (by decide +kernel), _, f1, rep_len (Nat.lt_of_lt_of_le lt (Nat.le_trans n (by decide))), f2, by omega⟩
    · refine ⟨D, _, rfl, SqL.of i.2, _, rfl, if_pos' (rep_all _) ?_⟩
      have n2 : (vs m).length = m.length := List.length_map _
      have h3 := i.1 _ _ (s2 _ _ h1)
      refine ⟨_, rfl, p, vs m, rfl, SqL.of h3, by rw [n2]; exact Nat.le_trans o.few (by decide), _, rfl, p, _, rfl, .inl (SqL.of h3), rfl, ?_⟩
      have e9 : cnt (vs m) (vs m).length = ((vs m).map V.str).length := (cnt_nodup o.vn _ (Nat.le_refl _)).trans (List.length_map (f := V.str)).symm
      rw [e9, decide_eq_true rfl]
      exact k G (s1.trans (s2.trans i.1))
/-! ### _follow -/
def fol (m l : Mp) : Bool := decide (srtS (vs m) = srtS (ks l))
theorem fol_yes {m l : Mp} (f : Fol m l) : fol m l = true := decide_eq_true (srtS_eq f)
def DB : V → V → Hp → Bool → Prop := fun x y _ b => flatV x = true ∧ flatV y = true ∧ b = eqV x y
theorem mon_DB : ∀ x y H H' b, Ext H H' → DB x y H b → DB x y H' b := fun _ _ _ _ _ _ d => d
theorem eqB_flat {X : Cx} : EqB X 0 DB := by
  intro A pins s σ H x y u v b sb I rx ry d
  obtain ⟨fx, fy, e⟩ := d
  subst e
  exact eqAt_V (A := A) (s := s) rx ry fx fy X.prog X.w X.xe _ ⟨rfl, H, I, Ext.rfl'⟩
theorem eq_all {xs ys : List Str} (l : xs.length = ys.length) : (∀ j, j < (xs.map V.str).length → (fun j => eqV ((xs.map V.str).getD j .non) ((ys.map V.str).getD j .non)) j = true) ↔ xs = ys := by
  constructor
  · intro h
    refine List.ext_getElem l fun j h1 h2 => ?_
    have := h j (by rw [List.length_map]; exact h1)
    dsimp only at this
    rw [List.getD_eq_getElem?_getD, List.getD_eq_getElem?_getD, List.getElem?_map, List.getElem?_map, List.getElem?_eq_getElem h1, List.getElem?_eq_getElem h2] at this
    exact beq_iff_eq.mp (show (xs[j] == ys[j]) = true from this)
  · rintro rfl j hj
    rw [List.length_map] at hj
    dsimp only
    rw [List.getD_eq_getElem?_getD, List.getElem?_map, List.getElem?_eq_getElem hj]
    exact beq_self_eq_true _
def spFol : Sp := fun vs H Q _ => ∃ (a b : Addr) (m l : Mp), vs = [.ref a, .ref b] ∧ Rd H a (.dK (dS m)) ∧ Rd H b (.dK (dS l)) ∧ m.length = l.length ∧ ∀ H', Same H H' → Q (.bl (fol m l)) H'
theorem rd_same {H H' : Hp} {a : Addr} {u : HO} (r : Rd H a u) (s : Same H H') : Rd H' a u := r.elim (fun h => .inl (s _ _ h)) fun ⟨o, h⟩ => .inr ⟨o, s _ _ h⟩
theorem ok_fol {f : Addr} {fd : FuncData} (F : Fun K "_follow" "_follow" sFol f fd) (T : Txt K mg C) : FnOk P w K mg base (L2.CX P w) 2 f fd ["told", "following"] spFol := by
  have sc : FnScope ["told", "following"] ["told", "following"] (defScope sFol) := ⟨rfl, rfl, rfl, by decide +kernel, rfl, by decide +kernel, by decide +kernel⟩
  refine F.okX sc (fun vs H Q E h => ?_) (fun cdv A outer s H vs Q E hr h => ?_)
  · obtain ⟨a, b, m, l, rfl, _⟩ := h
    rfl
  · obtain ⟨a, b, m, l, rfl, ha, hb, len, k⟩ := h
    refine ⟨_, pss_one (ps_ret (pe_cmpR (op_eqB (n := 0) mon_DB eqB_flat hr)
      (pe_callBK (cr_sortKS hr.units) (by rfl) T.sorted (by decide +kernel) (pa_cons (pe_listV (pv 0) (by rfl) T.list) pa_nil) (pk_cons (pe_bltn (v := .ty "str") (by rfl) T.str (by decide +kernel) rfl) pk_nil))
      (pe_callBK (cr_sortKD rfl hr.units) (by rfl) T.sorted (by decide +kernel) (pa_cons (pv 1) pa_nil) (pk_cons (pe_bltn (v := .ty "str") (by rfl) T.str (by decide +kernel) rfl) pk_nil)) (nomark _))), ?_⟩
    refine ⟨_, rfl, a, dS m, rfl, ha, fun p hp => ?_⟩
    rw [dS_vals]
    have s1 : Same H (upd H p (.lst ((vs m).map V.str))) := same_upd hp
    have h1 : (upd H p (.lst ((vs m).map V.str))) p = some (.lst ((vs m).map V.str)) := upd_same
    generalize upd H p (.lst ((vs m).map V.str)) = H1 at s1 h1 ⊢
    refine ⟨p, vs m, rfl, rfl, SqL.of h1, fun q hq => ?_⟩
    have s2 : Same H1 (upd H1 q (.lst ((srtS (vs m)).map V.str))) := same_upd hq
    have h2 : (upd H1 q (.lst ((srtS (vs m)).map V.str))) q = some (.lst ((srtS (vs m)).map V.str)) := upd_same
    generalize upd H1 q (.lst ((srtS (vs m)).map V.str)) = H2 at s2 h2 ⊢
    refine ⟨_, rfl, b, dS l, ks l, rfl, rfl, rd_same hb (s1.trans s2), dS_keys l, fun r hr2 => ?_⟩
    have s3 : Same H2 (upd H2 r (.lst ((srtS (ks l)).map V.str))) := same_upd hr2
    have h3 : (upd H2 r (.lst ((srtS (ks l)).map V.str))) r = some (.lst ((srtS (ks l)).map V.str)) := upd_same
    generalize upd H2 r (.lst ((srtS (ks l)).map V.str)) = H3 at s3 h3 ⊢
    have L : (srtS (vs m)).length = (srtS (ks l)).length := by rw [srtS_len, srtS_len, List.length_map, List.length_map, len]
    refine ⟨q, r, _, _, rfl, rfl, s3 _ _ h2, h3, by rw [List.length_map, List.length_map, L], fun j => eqV (((srtS (vs m)).map V.str).getD j .non) (((srtS (ks l)).map V.str).getD j .non), fun i x y hx hy => ?_, fun H' c e hc => ?_⟩
    · obtain ⟨t, _, rfl⟩ := map_at hx
      obtain ⟨u, _, rfl⟩ := map_at hy
      refine ⟨rfl, rfl, ?_⟩
      dsimp only
      rw [List.getD_eq_getElem?_getD, List.getD_eq_getElem?_getD, hx, hy]
      rfl
    · have e2 : c = fol m l := by
        unfold fol
        have := hc.trans (eq_all L)
        cases c with
        | true => exact (decide_eq_true (this.mp rfl)).symm
        | false => exact (decide_eq_false fun z => Bool.false_ne_true (this.mpr z)).symm
      rw [e2]
      exact k H' (s1.trans (s2.trans (s3.trans e)))
end
end R6
end

-- WalkIt
section
set_option Elab.async false
set_option linter.all false
set_option maxRecDepth 100000
namespace G1
open PySem L2 OwnOps
theorem pg_two {X : Cx} {i j : Nat} {x y : Str} {p1 p2 pos : Pos} {kk : Nat} (hc : X.calm = true) (hN : X.N.Nodup) (hi : X.N[i]? = some x) (hx : Loc X.env.scope x) (hj : X.N[j]? = some y) (hy : Loc X.env.scope y)
    (hf : X.fn x = true ∨ X.env.scope.names.lookup x = some .local := by first | exact .inl rfl | exact .inr rfl) (hg : X.fn y = true ∨ X.env.scope.names.lookup y = some .local := by first | exact .inl rfl | exact .inr rfl) :
    PG X (.Tuple [.Name x p1, .Name y p2] kk pos) (gTup X.K 2 (gCons (gName i) (gCons (gName j) gNil))) := pg_tup hc (pgs_cons (pg_name (i := i) hN hi hx hf) (pgs_cons (pg_name (i := j) hN hj hy hg) pgs_nil))
/-- a walk, whatever its turn is -/
theorem walk_it {J : It} {n : Nat} {G : Hp → Prop} {Y : Nat → Hp → V → Hp → Prop} (w : Walk J n G Y) {turn : V → Hp → (Hp → Prop) → Prop} {Fin : Hp → Prop} {H0 : Hp} (Pv : Nat → Hp → Prop) (h0 : Pv 0 H0) (hG : ∀ i H, i ≤ n → Pv i H → G H)
    (hs : ∀ i x H H', i < n → Pv i H → Y i H x H' → turn x H' (Pv (i + 1))) (hd : ∀ H, Pv n H → Fin H) :
    ∃ W : Nat → Nat → Hp → Prop, (∃ m, W 0 m H0) ∧ ∀ i m H, W i m H → (J.stop i H ∧ Fin H) ∨ (J.go i H ∧ ∃ Nx : Hp → Prop, (∀ H', Nx H' → ∃ m', m' < m ∧ W (i + 1) m' H') ∧ ∀ x H', J.yld i H x H' → turn x H' Nx) := by
  refine ⟨fun i m H => m + i = n ∧ Pv i H, ⟨n, rfl, h0⟩, fun i m H ⟨e, p⟩ => ?_⟩
  have q := hG i H (by omega) p
  by_cases lt : i < n
  · exact .inr ⟨w.goes i H lt q, Pv (i + 1), fun H' p' => ⟨m - 1, by omega, by omega, p'⟩, fun x H' y => hs i x H H' lt p (w.yields i H x H' lt q y)⟩
  · cases (show i = n by omega)
    exact .inl ⟨w.stops H q, hd H p⟩
theorem same_unlock {H G : Hp} {d : Addr} {u : HO} {od : Obj} (hd : H d = some u) (s : Same (upd H d (.frz od u)) G) : G d = some (.frz od u) ∧ Same H (upd G d u) := by
  refine ⟨s _ _ upd_same, fun b o e => ?_⟩
  by_cases h : b = d
  · subst h
    rw [hd] at e
    cases e
    exact upd_same
  · rw [upd_ne h]
    exact s b o (by rw [upd_ne h]; exact e)
theorem rd_lock {H : Hp} {d a : Addr} {u v : HO} {od : Obj} (hd : H d = some u) (m : Mut (some u)) (r : Rd H a v) : Rd (upd H d (.frz od u)) a v := by
  by_cases h : a = d
  · subst h
    rcases r with r | ⟨o, r⟩
    · rw [hd] at r
      cases r
      exact .inr ⟨od, upd_same⟩
    · rw [hd] at r
      cases r
      exact m.elim
  · rcases r with r | ⟨o, r⟩
    · exact .inl (by rw [upd_ne h]; exact r)
    · exact .inr ⟨o, by rw [upd_ne h]; exact r⟩
theorem SameX.none {p x : Addr} {H G : Hp} {u : HO} (s : SameX p H G) (hp : G p = some u) (h : G x = none) : H x = none := by
  cases e : H x with
  | none => rfl
  | some o =>
    by_cases n : x = p
    · subst n
      rw [hp] at h
      cases h
    · rw [s x o n e] at h
      cases h
theorem Same.none {x : Addr} {H G : Hp} (s : Same H G) (h : G x = none) : H x = none := by
  cases e : H x with
  | none => rfl
  | some o =>
    rw [s x o e] at h
    cases h
end G1
end

-- S8b
section
set_option Elab.async false
set_option linter.all false
set_option maxRecDepth 100000
namespace R6
open PySem L2 OwnOps OwnNe SortStr EqDict SetStr DictList StX G1
/-! ### an instance of the class -/
def mf (dn di lp : Addr) (b : Bool) : Fs := [("_net_map", .ref dn), ("_id_map", .ref di), ("_pairs", .ref lp), ("is_identity", .bl b)]
theorem n12 : ¬ (("_net_map" : Str) = "_id_map") := by decide +kernel
theorem n13 : ¬ (("_net_map" : Str) = "_pairs") := by decide +kernel
theorem n14 : ¬ (("_net_map" : Str) = "is_identity") := by decide +kernel
theorem n23 : ¬ (("_id_map" : Str) = "_pairs") := by decide +kernel
theorem n24 : ¬ (("_id_map" : Str) = "is_identity") := by decide +kernel
theorem n34 : ¬ (("_pairs" : Str) = "is_identity") := by decide +kernel
theorem mF1 {a : V} : putF "_net_map" a [] = ([("_net_map", a)] : Fs) := rfl
theorem mF2 {a b : V} : putF "_id_map" b ([("_net_map", a)] : Fs) = ([("_net_map", a), ("_id_map", b)] : Fs) := putF_ne n12
theorem mF3 {a b c : V} : putF "_pairs" c ([("_net_map", a), ("_id_map", b)] : Fs) = ([("_net_map", a), ("_id_map", b), ("_pairs", c)] : Fs) := (putF_ne n13).trans (congrArg _ (putF_ne n23))
theorem mF4 {a b c d : V} : putF "is_identity" d ([("_net_map", a), ("_id_map", b), ("_pairs", c)] : Fs) = ([("_net_map", a), ("_id_map", b), ("_pairs", c), ("is_identity", d)] : Fs) :=
  (putF_ne n14).trans (congrArg _ ((putF_ne n24).trans (congrArg _ (putF_ne n34))))
section
variable {dn di lp : Addr} {b : Bool}
theorem lk1 : (mf dn di lp b).lookup ("_net_map" : Str) = some (.ref dn) := lk_here
theorem lk2 : (mf dn di lp b).lookup ("_id_map" : Str) = some (.ref di) := (lk_cons n12).trans lk_here
theorem lk3 : (mf dn di lp b).lookup ("_pairs" : Str) = some (.ref lp) := (lk_cons n13).trans ((lk_cons n23).trans lk_here)
theorem lk4 : (mf dn di lp b).lookup ("is_identity" : Str) = some (.bl b) := (lk_cons n14).trans ((lk_cons n24).trans ((lk_cons n34).trans lk_here))
end
/-- its pairs, ascending -/
def pairs (n : Mp) : Mp := (srtS (ks n)).map fun k => (k, (at_ n k).getD Str.empty)
structure PrsAt (H : Hp) (us : List Addr) (ps : Mp) : Prop where
  len : us.length = ps.length
  at_ : ∀ (j : Nat) u p, us[j]? = some u → ps[j]? = some p → H u = some (.tup [.str p.1, .str p.2])
/-- at p stands the matching of these two maps; F are its things -/
def Mat (C : Addr) (H : Hp) (p : Addr) (n i : Mp) (F : List Addr) : Prop := ∃ (dx dn di lp : Addr) (us : List Addr), F = p :: dn :: di :: lp :: us ∧ H p = some (.ins C dx (mf dn di lp (isId n && isId i))) ∧ H dn = some (.dK (dS n)) ∧ H di = some (.dK (dS i)) ∧
  H lp = some (.lst (us.map V.ref)) ∧ PrsAt H us (pairs n) ∧ One n ∧ One i
def Keep (F : List Addr) (H H' : Hp) : Prop := ∀ b ∈ F, ∀ u, H b = some u → H' b = some u
theorem Mat.keep {C : Addr} {H H' : Hp} {p : Addr} {n i : Mp} {F : List Addr} (m : Mat C H p n i F) (k : Keep F H H') : Mat C H' p n i F := by
  obtain ⟨dx, dn, di, lp, us, e, h1, h2, h3, h4, ⟨h5, h6⟩, o1, o2⟩ := m
  subst e
  exact ⟨dx, dn, di, lp, us, rfl, k _ (by simp) _ h1, k _ (by simp) _ h2, k _ (by simp) _ h3, k _ (by simp) _ h4, ⟨h5, fun j u q a b => k u (by simp [List.mem_of_getElem? a]) _ (h6 j u q a b)⟩, o1, o2⟩
theorem Mat.same {C : Addr} {H H' : Hp} {p : Addr} {n i : Mp} {F : List Addr} (m : Mat C H p n i F) (s : Same H H') : Mat C H' p n i F := m.keep fun b _ u e => s b u e
/-- new things -/
def New (F : List Addr) (H : Hp) : Prop := ∀ b ∈ F, H b = none
theorem it_at {m : Mp} {j : Nat} {u v : V} (h1 : ((dS m)[j]?.map fun kv => kV kv.1) = some u) (h2 : (dS m)[j]?.map Prod.snd = some v) : ∃ r, m[j]? = some r ∧ u = .str r.1 ∧ v = .str r.2 := by
  unfold dS at h1 h2
  rw [List.getElem?_map] at h1 h2
  cases e : m[j]? with
  | none => rw [e] at h1; cases h1
  | some r =>
    rw [e] at h1 h2
    cases h1
    cases h2
    exact ⟨r, rfl, rfl, rfl⟩
def pick {α : Type} (x y : α) : Nat → α
  | 0 => x
  | _ + 1 => y
/-- whether each is carried to itself -/
def bl (m : Mp) : List Bool := m.map fun p => decide (V.str p.1 = V.str p.2)
theorem bl_all (m : Mp) : (bl m).all id = isId m := by
  unfold bl isId
  rw [List.all_map]
  congr 1
  funext p
  exact decide_eq_decide.mpr ⟨fun h => V.str.inj h, fun h => by rw [h]⟩
def cat (mm : Nat → Mp) : Nat → List Bool
  | 0 => []
  | j + 1 => cat mm j ++ bl (mm j)
theorem cat_len {mm : Nat → Mp} (h : ∀ j, (mm j).length ≤ 1000) : ∀ j, (cat mm j).length ≤ 1000 * j
  | 0 => Nat.le_refl _
  | j + 1 => by
    show (cat mm j ++ bl (mm j)).length ≤ _
    rw [List.length_append, show (bl (mm j)).length = (mm j).length from List.length_map _]
    have := cat_len h j
    have := h j
    omega
def spMI (C : Addr) : Sp := fun vs H Q _ => ∃ (p dx a b : Addr) (n i : Mp), vs = [.ref p, .ref a, .ref b] ∧ H p = some (.ins C dx []) ∧ H a = some (.dK (dS n)) ∧ H b = some (.dK (dS i)) ∧ a ≠ b ∧ One n ∧ One i ∧
  ∀ H' F, SameX p H H' → Mat C H' p n i F → (∀ x ∈ F, x ≠ p → H x = none) → Q .non H'
section
variable {P : Program} {w : World} {K : PySem.W.Frag} {mg : Str → Option Value} {base : Heap} {C : Addr}
abbrev NI : List Str := ["self", "nets", "ids", "net", "told", "one", "other"]
theorem ok_init {f : Addr} {fd : FuncData} (F : Fun K "__init__" "Matching.__init__" (sMat 0) f fd) (T : Txt K mg C) (GO : Glb P w K mg base "_is_one_to_one" 1 ["told"] spOne) :
    FnOk P w K mg base (L2.CX P w) 2 f fd ["self", "nets", "ids"] (spMI C) := by
  obtain ⟨fO, fdO, mO, kO, GO, bO⟩ := GO.ex
  have sc : FnScope NI ["self", "nets", "ids"] (defScope (sMat 0)) := ⟨rfl, rfl, rfl, by decide +kernel, rfl, by decide +kernel, by decide +kernel⟩
  refine F.okX sc (fun vs H Q E h => ?_) (fun cdv A outer s H vs Q E hr h => ?_)
  · obtain ⟨p, dx, a, b, n, i, rfl, _⟩ := h
    rfl
  · obtain ⟨p, dx, a, b, n, i, rfl, hp, ha, hb, ab, on, oi, k⟩ := h
    have hu : (cxOf (L2.CX P w) P w K mg base NI "Matching.__init__" (defScope (sMat 0)) f cdv A outer s H E).A.units + 1 < cLine := hu_of hr
    refine ⟨_, pss_cons (ps_if (pt_not (pt_val (pe_call GO hr (by rfl) mO kO bO .nil passL (pa_cons (pv 1) pa_nil)))) (pss_one ps_never) pss_nil)
      (pss_cons (ps_if (pt_not (pt_val (pe_call GO hr (by rfl) mO kO bO .nil passL (pa_cons (pv 2) pa_nil)))) (pss_one ps_never) pss_nil)
      (pss_cons (ps_fld (pv 0) (pe_callTy call_dictD (by rfl) T.dict (by decide +kernel) (pa_cons (pv 1) pa_nil)) rfl)
      (pss_cons (ps_fld (pv 0) (pe_callTy call_dictD (by rfl) T.dict (by decide +kernel) (pa_cons (pv 2) pa_nil)) rfl)
      (pss_cons (ps_fld (pv 0) (pe_lc (own := [("net", 3)]) (g := gName 3) (tt := tYes) rfl sc.nd (pi_list (pe_callBK (cr_sortKD rfl hr.units) (by rfl) T.sorted (by decide +kernel) (pa_cons (pv 1) pa_nil) (pk_cons (pe_bltn (v := .ty "str") (by rfl) T.str (by decide +kernel) rfl) pk_nil)))
          (blkOk_by (N := NI) (sc := defScope (sMat 0)) (by decide +kernel)) (fun _ _ _ _ _ => pg_name (i := 3) sc.nd rfl (Or.inl rfl)) (fun _ _ _ _ _ => pts_nil) (fun _ _ _ _ _ => pe_tup (pa_cons (pv 3) (pa_cons (pe_dget hu (pv 1) (pv 3) (fun _ _ => rfl)) pa_nil)))) rfl)
      (pss_one (ps_fld (pv 0) (pe_callB (cr_all rfl) (by rfl) T.all (by decide +kernel) (pa_cons (pe_lock (pe_lock (pe_lc2 (own := [("told", 4), ("one", 5), ("other", 6)]) (vs1 := [5, 6]) (g := gName 4) (g1 := gTup K 2 (gCons (gName 5) (gCons (gName 6) gNil))) (tt := tYes) (tt1 := tYes) rfl sc.nd (pi_tup (pe_tup (pa_cons (pv 1) (pa_cons (pv 2) pa_nil))))
          (blkOk_by (N := NI) (sc := defScope (sMat 0)) (by decide +kernel)) (by decide) (fun _ _ _ _ _ => pg_name (i := 4) sc.nd rfl (Or.inl rfl)) (fun _ _ _ _ _ => pts_nil) (fun _ _ _ _ _ => pi_items (pv 4))
          (fun _ _ _ _ _ => pg_two (i := 5) (j := 6) rfl sc.nd rfl (Or.inl rfl) rfl (Or.inl rfl)) (fun _ _ _ _ _ => pts_nil) (fun _ _ _ _ _ => pe_cmpR op_eq (pv 5) (pv 6) (nomark _))))) pa_nil)) rfl)))))), ?_⟩
    refine ⟨_, rfl, a, n, rfl, ha, on, fun H1 s1 => ⟨_, rfl, if_neg' rfl ?_⟩⟩
    refine ⟨_, rfl, b, i, rfl, s1 _ _ hb, oi, fun H2 s2 => ⟨_, rfl, if_neg' rfl ?_⟩⟩
    have s02 := s1.trans s2
    have hp2 := s02 _ _ hp
    -- the two dicts
    refine ⟨_, rfl, a, dS n, rfl, .inl (s02 _ _ ha), fun dn ndn => ⟨_, rfl, p, C, dx, _, rfl, same_upd ndn _ _ hp2, T.cl, T.n1, (by show 0 < 1000; decide), ?_⟩⟩
    rw [mF1]
    have x3 : SameX p H (upd (upd H2 dn (.dK (dS n))) p (.ins C dx [("_net_map", .ref dn)])) := ((SameX.of s02).put ndn).trans SameX.upd
    have p3 : (upd (upd H2 dn (.dK (dS n))) p (.ins C dx [("_net_map", .ref dn)])) p = some (.ins C dx [("_net_map", .ref dn)]) := upd_same
    have dp : dn ≠ p := fun z => by rw [z, hp2] at ndn; cases ndn
    have d3 : (upd (upd H2 dn (.dK (dS n))) p (.ins C dx [("_net_map", .ref dn)])) dn = some (.dK (dS n)) := by rw [upd_ne dp, upd_same]
    have ndn0 : H dn = none := Same.none s02 ndn
    have ap : a ≠ p := ne_of ha hp (by intro z; cases z)
    have bp : b ≠ p := ne_of hb hp (by intro z; cases z)
    generalize upd (upd H2 dn (.dK (dS n))) p (.ins C dx [("_net_map", .ref dn)]) = H3 at x3 p3 d3 ⊢
    refine ⟨_, rfl, b, dS i, rfl, .inl (x3 _ _ bp hb), fun di ndi => ⟨_, rfl, p, C, dx, _, rfl, same_upd ndi _ _ p3, T.cl, T.n2, (by show 1 < 1000; decide), ?_⟩⟩
    rw [mF2]
    have x4 : SameX p H3 (upd (upd H3 di (.dK (dS i))) p (.ins C dx [("_net_map", .ref dn), ("_id_map", .ref di)])) := ((SameX.refl p H3).put ndi).trans SameX.upd
    have p4 : (upd (upd H3 di (.dK (dS i))) p (.ins C dx [("_net_map", .ref dn), ("_id_map", .ref di)])) p = some (.ins C dx [("_net_map", .ref dn), ("_id_map", .ref di)]) := upd_same
    have dip : di ≠ p := fun z => by rw [z, p3] at ndi; cases ndi
    have d4 : (upd (upd H3 di (.dK (dS i))) p (.ins C dx [("_net_map", .ref dn), ("_id_map", .ref di)])) di = some (.dK (dS i)) := by rw [upd_ne dip, upd_same]
    have ndi0 : H di = none := SameX.none x3 p3 ndi
    generalize upd (upd H3 di (.dK (dS i))) p (.ins C dx [("_net_map", .ref dn), ("_id_map", .ref di)]) = H4 at x4 p4 d4 ⊢
    have x04 := x3.trans x4
    -- the pairs
    refine ⟨_, rfl, a, dS n, ks n, rfl, rfl, .inl (x04 _ _ ap ha), dS_keys n, fun q nq => ?_⟩
    have s5 : Same H4 (upd H4 q (.lst ((srtS (ks n)).map V.str))) := same_upd nq
    have q5 : (upd H4 q (.lst ((srtS (ks n)).map V.str))) q = some (.lst ((srtS (ks n)).map V.str)) := upd_same
    generalize upd H4 q (.lst ((srtS (ks n)).map V.str)) = H5 at s5 q5 ⊢
    have a5 := s5 _ _ (x04 _ _ ap ha)
    refine ⟨q, rfl, ⟨_, SqL.of q5⟩, fun lp nlp => ?_⟩
    have few : (srtS (ks n)).length ≤ 1000 := by
      rw [srtS_len, List.length_map]
      exact on.few
    refine lc_list (K := K) (a := q) (xs := (srtS (ks n)).map V.str) (fun j G => Same H5 G ∧ ∃ us, G lp = some (.lst (us.map V.ref)) ∧ us.length = j ∧ (∀ u ∈ us, H5 u = none) ∧ PrsAt G us ((pairs n).take j)) ⟨same_upd nlp, [], upd_same, rfl, fun _ h => (nomatch h), ⟨rfl, fun j u p h => by simp at h⟩⟩
      (fun j G _ ⟨sm, _⟩ => SqL.of (sm _ _ q5)) (fun j x G hx ⟨sm, us, hl, len, nu, pa⟩ => ⟨rfl, yes_go ?_⟩) (fun G ⟨sm, us, hl, len, nu, pa⟩ => ?_)
    · obtain ⟨t, ht, rfl⟩ := map_at hx
      have lt : j < (srtS (ks n)).length := (List.getElem?_eq_some_iff.mp ht).1
      have mem : t ∈ ks n := (srtS_perm _).mem_iff.mp (List.mem_of_getElem? ht)
      obtain ⟨v, hv, _⟩ := at_key mem
      have pj : (pairs n)[j]? = some (t, v) := by
        unfold pairs
        rw [List.getElem?_map, ht]
        show some (t, (at_ n t).getD Str.empty) = _
        rw [hv] <;> rfl
      refine iteT ⟨_, rfl, _, rfl, _, rfl, a, .str v, rfl, .inl ⟨dS n, Sum.inr t, .inl (sm _ _ a5), rfl, by rw [dS_at, hv] <;> rfl⟩, (by show 2 ≤ sizeLine; decide), fun T nT => ?_⟩
      have lT : (upd G T (.tup [.str t, .str v])) lp = some (.lst (us.map V.ref)) := same_upd nT _ _ hl
      refine ⟨_, lT, by rw [List.length_map, len]; exact Nat.lt_of_lt_of_le lt (Nat.le_trans few (by decide)), same_put (sm.trans (same_upd nT)) nlp, us ++ [T], ?_, ?_, ?_, ?_⟩
      · rw [upd_same, List.map_append]
        rfl
      · rw [List.length_append, len]
        rfl
      · intro u hu'
        rcases List.mem_append.mp hu' with h | h
        · exact nu u h
        · rw [List.mem_singleton.mp h]
          exact Same.none sm nT
      · have hT : (upd (upd G T (.tup [.str t, .str v])) lp (.lst (us.map V.ref ++ [V.ref T]))) T = some (.tup [.str t, .str v]) := by
          rw [upd_ne (fun z => by rw [z, hl] at nT; cases nT), upd_same]
        refine ⟨?_, fun m u p hm hp' => ?_⟩
        · rw [List.length_append, pa.len, List.length_take, List.length_take]
          have : j < (pairs n).length := (List.getElem?_eq_some_iff.mp pj).1
          show min j _ + 1 = _
          omega
        · by_cases hmj : m < us.length
          · rw [List.getElem?_append_left hmj] at hm
            have hp2 : ((pairs n).take j)[m]? = some p := by
              rw [List.getElem?_take] at hp' ⊢
              rw [if_pos (by omega)] at hp' ⊢
              exact hp'
            have z := pa.at_ m u p hm hp2
            rw [upd_ne (ne_of z hl (by intro w; cases w))]
            exact same_upd nT _ _ z
          · have e2 : m = j := by
              have := (List.getElem?_eq_some_iff.mp hm).1
              rw [List.length_append] at this
              have : m < us.length + 1 := this
              omega
            subst e2
            rw [List.getElem?_append_right (by omega), len, Nat.sub_self] at hm
            cases hm
            rw [List.getElem?_take, if_pos (by omega), pj] at hp'
            cases hp'
            exact hT
    have p6 := sm _ _ (s5 _ _ p4)
    refine ⟨_, rfl, p, C, dx, _, rfl, p6, T.cl, T.n3, (by show 2 < 1000; decide), ?_⟩
    rw [mF3]
    have x7 : SameX p H4 (upd G p (.ins C dx [("_net_map", .ref dn), ("_id_map", .ref di), ("_pairs", .ref lp)])) := (SameX.of (s5.trans sm)).trans SameX.upd
    have x57 : SameX p H5 (upd G p (.ins C dx [("_net_map", .ref dn), ("_id_map", .ref di), ("_pairs", .ref lp)])) := (SameX.of sm).trans SameX.upd
    have xG : SameX p G (upd G p (.ins C dx [("_net_map", .ref dn), ("_id_map", .ref di), ("_pairs", .ref lp)])) := SameX.upd
    have p7 : (upd G p (.ins C dx [("_net_map", .ref dn), ("_id_map", .ref di), ("_pairs", .ref lp)])) p = some (.ins C dx [("_net_map", .ref dn), ("_id_map", .ref di), ("_pairs", .ref lp)]) := upd_same
    have lpp : lp ≠ p := fun z => by rw [z, s5 _ _ p4] at nlp; cases nlp
    generalize upd G p (.ins C dx [("_net_map", .ref dn), ("_id_map", .ref di), ("_pairs", .ref lp)]) = H7 at x7 x57 xG p7 ⊢
    have a7 := x7 _ _ ap (x04 _ _ ap ha)
    have b7 := x7 _ _ bp (x04 _ _ bp hb)
    -- is_identity
    refine ⟨a, .dK (dS n), a7, trivial, fun oa => ⟨b, .dK (dS i), (by rw [upd_ne ab.symm]; exact b7), trivial, fun ob => ?_⟩⟩
    have b7' : (upd H7 a (.frz oa (.dK (dS n)))) b = some (.dK (dS i)) := by rw [upd_ne ab.symm]; exact b7
    have fa : (upd (upd H7 a (.frz oa (.dK (dS n)))) b (.frz ob (.dK (dS i)))) a = some (.frz oa (.dK (dS n))) := by rw [upd_ne ab, upd_same]
    have fb : (upd (upd H7 a (.frz oa (.dK (dS n)))) b (.frz ob (.dK (dS i)))) b = some (.frz ob (.dK (dS i))) := upd_same
    have un : ∀ {G : Hp}, Same (upd (upd H7 a (.frz oa (.dK (dS n)))) b (.frz ob (.dK (dS i)))) G → G b = some (.frz ob (.dK (dS i))) ∧ (upd G b (.dK (dS i))) a = some (.frz oa (.dK (dS n))) ∧ Same H7 (upd (upd G b (.dK (dS i))) a (.dK (dS n))) := fun {G} s => by
      obtain ⟨e1, s1⟩ := same_unlock b7' s
      obtain ⟨e2, s2⟩ := same_unlock a7 s1
      exact ⟨e1, e2, s2⟩
    generalize upd (upd H7 a (.frz oa (.dK (dS n)))) b (.frz ob (.dK (dS i))) = HL at fa fb un ⊢
    refine ⟨_, rfl, _, rfl, (by show 2 ≤ sizeLine; decide), fun tp ntp => ⟨tp, rfl, ⟨_, SqT.of upd_same⟩, fun D nD => ?_⟩⟩
    have sB : Same HL (upd HL tp (.tup [.ref a, .ref b])) := same_upd ntp
    have tB : (upd HL tp (.tup [.ref a, .ref b])) tp = some (.tup [.ref a, .ref b]) := upd_same
    generalize upd HL tp (.tup [.ref a, .ref b]) = B at sB tB nD ⊢
    have few2 : ∀ j, (pick n i j).length ≤ 1000 := fun j => match j with | 0 => on.few | _ + 1 => oi.few
    have frz : ∀ {G : Hp} (j : Nat), Same B G → G (pick a b j) = some (.frz (pick oa ob j) (.dK (dS (pick n i j)))) := fun {G} j s => match j with
      | 0 => s _ _ (sB _ _ fa)
      | _ + 1 => s _ _ (sB _ _ fb)
    refine walk_it (walk_tup (K := K) (a := tp) (xs := [.ref a, .ref b])) (fun j G => Same B G ∧ G D = some (.lst ((cat (pick n i) j).map V.bl))) ⟨same_upd nD, upd_same⟩ (fun j G _ ⟨sm2, _⟩ => SqT.of (sm2 _ _ tB)) (fun j x G G' hj ⟨sm2, hD⟩ ⟨e, hx⟩ => ?_) (fun G2 ⟨sm2, hD⟩ => ?_)
    · subst e
      have e : x = .ref (pick a b j) := by
        match j, hj with
        | 0, _ => exact (Option.some.inj hx).symm
        | 1, _ => exact (Option.some.inj hx).symm
      subst e
      refine ⟨rfl, yes_go (iteT ⟨_, rfl, pick a b j, pick oa ob j, dS (pick n i j), rfl, frz j sm2, ?_⟩)⟩
      refine walk_it walk_items (fun m G => Same B G ∧ G D = some (.lst ((cat (pick n i) j ++ (bl (pick n i j)).take m).map V.bl))) ⟨sm2, by rw [List.take_zero, List.append_nil]; exact hD⟩ (fun m G _ ⟨sm3, _⟩ => frz j sm3) (fun m x G G' hm ⟨sm3, hD3⟩ ⟨T, u, v, e1, nT, e2, hu', hv'⟩ => ?_) (fun G3 ⟨sm3, hD3⟩ => ?_)
      · subst e1 e2
        obtain ⟨r, hr', rfl, rfl⟩ := it_at hu' hv'
        have D4 := same_upd (o := .tup [.str r.1, .str r.2]) nT _ _ hD3
        refine ⟨T, _, rfl, SqT.of upd_same, rfl, _, _, rfl, _, _, rfl, rfl, rfl, yes_go (iteT ⟨_, rfl, _, rfl, rfl, _, D4, ?_, same_put (sm3.trans (same_upd nT)) nD, ?_⟩)⟩
        · rw [List.length_map, List.length_append, List.length_take]
          have h1 := cat_len few2 j
          have h2 := few2 j
          have h3 : j < 2 := hj
          have h4 : m < (pick n i j).length := by rw [← dS_len]; exact hm
          have : min m (bl (pick n i j)).length ≤ m := Nat.min_le_left _ _
          refine Nat.lt_of_lt_of_le (m := 4000) (by omega) (by decide)
        · rw [upd_same, List.take_succ, show (bl (pick n i j))[m]? = some (decide (V.str r.1 = V.str r.2)) from by
            unfold bl
            rw [List.getElem?_map, hr'] <;> rfl, ← List.append_assoc, List.map_append (l₂ := (some (decide (V.str r.1 = V.str r.2))).toList)]
          rfl
      · refine ⟨sm3, ?_⟩
        rw [dS_len] at hD3
        rw [hD3, List.take_of_length_le (by rw [show (bl (pick n i j)).length = (pick n i j).length from List.length_map _]; exact Nat.le_refl _)]
        rfl
    obtain ⟨e1, e2, s8⟩ := un (sB.trans sm2)
    refine ⟨e1, e2, ?_⟩
    have Da : D ≠ a := fun z => by rw [z, sB _ _ fa] at nD; cases nD
    have Db : D ≠ b := fun z => by rw [z, sB _ _ fb] at nD; cases nD
    have D8 : (upd (upd G2 b (.dK (dS i))) a (.dK (dS n))) D = some (.lst ((cat (pick n i) 2).map V.bl)) := by rw [upd_ne Da, upd_ne Db]; exact hD
    generalize upd (upd G2 b (.dK (dS i))) a (.dK (dS n)) = H8 at s8 D8 ⊢
    have al : (cat (pick n i) 2).all id = (isId n && isId i) := by
      show (([] ++ bl n) ++ bl i).all id = _
      rw [List.nil_append, List.all_append, bl_all, bl_all]
    refine ⟨D, _, rfl, SqL.of D8, _, rfl, p, C, dx, _, rfl, s8 _ _ p7, T.cl, T.n4, (by show 3 < 1000; decide), ?_⟩
    rw [mF4, al]
    have x9 : SameX p H7 (upd H8 p (.ins C dx (mf dn di lp (isId n && isId i)))) := (SameX.of s8).trans SameX.upd
    have p9 : (upd H8 p (.ins C dx (mf dn di lp (isId n && isId i)))) p = some (.ins C dx (mf dn di lp (isId n && isId i))) := upd_same
    show { nx := fun _ H' => Q .non H', rt := Q : Ends }.nx _ (upd H8 p (.ins C dx (mf dn di lp (isId n && isId i))))
    generalize upd H8 p (.ins C dx (mf dn di lp (isId n && isId i))) = H9 at x9 p9 ⊢
    have x49 : SameX p H4 H9 := x7.trans x9
    have nus : ∀ u ∈ us, H u = none := fun u hu' => SameX.none x04 p4 (Same.none s5 (nu u hu'))
    refine k H9 (p :: dn :: di :: lp :: us) (x04.trans x49) ⟨dx, dn, di, lp, us, rfl, p9, x49 _ _ dp (x4 _ _ dp d3), x49 _ _ dip d4, (xG.trans x9) _ _ lpp hl, ⟨?_, fun j u r h1 h2 => ?_⟩, on, oi⟩ (fun x hx ne => ?_)
    · rw [pa.len, List.length_take, List.length_map]
      unfold pairs
      rw [List.length_map]
      exact Nat.min_self _
    · have z := pa.at_ j u r h1 (by
        rw [List.length_map, List.take_of_length_le (by unfold pairs; rw [List.length_map]; exact Nat.le_refl _)]
        exact h2)
      exact (xG.trans x9) _ _ (fun w => by rw [w, p6] at z; cases z) z
    · rcases List.mem_cons.mp hx with h | h
      · exact absurd h ne
      rcases List.mem_cons.mp h with h | h
      · rw [h]; exact ndn0
      rcases List.mem_cons.mp h with h | h
      · rw [h]; exact ndi0
      rcases List.mem_cons.mp h with h | h
      · rw [h]; exact SameX.none x04 p4 (Same.none s5 nlp)
      · exact nus x h
end
end R6
end

-- DictSet
section
set_option Elab.async false
set_option linter.all false
set_option maxRecDepth 100000
/-! y = {k: v for ..}, y a plain local name. -/
namespace G1
open PySem L2
theorem swD {kx vx : Expr} {gs : List Comprehension} {scope : Scope} {pos py : Pos} {y : Str} {l : Nat} {env : Env} (hk : env.scope.kind = .function) (hy : env.scope.names.lookup y = some .local) (hl : (py.line == pos.line) = true)
    (ha : (scope.names.any fun (n, k) => n == y && (k == .local || k == .cell)) = false) : swapsWith (.DictComp kx vx gs scope pos) (some (.Name y py)) l env = pure true := by
  have e1 : env.kindOf y = some .local := hy
  have e2 : env.blockKind = .function := by
    unfold Env.blockKind
    rw [hk]
    rfl
  unfold swapsWith
  simp only [e2, e1, ha, Expr.pos, hl]
  rfl
section
variable {X : Cx}
theorem ps_setDc {i : Nat} {y : Str} {py : Pos} {kx vx tg iter : Expr} {ifs : List Expr} {scope : Scope} {own : List (Str × Nat)} {pos spos : Pos} {wi : TI} {g : TG} {tt : TT} {tk tv : TE} (hc : X.calm = true) (hN : X.N.Nodup) (hy : X.N[i]? = some y) (loc : X.env.scope.names.lookup y = some .local)
    (sw : swapsWith (.DictComp kx vx [⟨tg, iter, ifs, 0⟩] scope pos) (some (.Name y py)) spos.line X.env = pure true) (hi : PI X tg iter wi) (ok : BlkOk X.N X.env.scope scope own)
    (hg : ∀ (s : Shared) (H : Hp) (C : Addr) (cl : List (Str × Addr)) (fp : List Addr), PG (X.blk s H scope (compEnvC scope cl C X.env) fp) tg g) (ht : ∀ (s : Shared) (H : Hp) (C : Addr) (cl : List (Str × Addr)) (fp : List Addr), PTs (X.blk s H scope (compEnvC scope cl C X.env) fp) ifs tt)
    (hk : ∀ (s : Shared) (H : Hp) (C : Addr) (cl : List (Str × Addr)) (fp : List Addr), PE (X.blk s H scope (compEnvC scope cl C X.env) fp) kx tk) (he : ∀ (s : Shared) (H : Hp) (C : Addr) (cl : List (Str × Addr)) (fp : List Addr), PE (X.blk s H scope (compEnvC scope cl C X.env) fp) vx tv)
    (hs : ∀ x, foldedSetIterable iter X.env x = pure x := by intro _; rfl) : PS X (.Assign [.Name y py] (.DictComp kx vx [⟨tg, iter, ifs, 0⟩] scope pos) spos) (tAsg (tDc wi g tt tk tv (own.map (·.2))) (gName i)) := by
  refine ⟨fun pins s σ H D I h => ?_⟩
  rw [exec_Assign_Name_used _ _ _ _ sw]
  have h : tDc wi g tt tk tv (own.map (·.2)) σ H (fun x H1 => gName i x σ H1 D.nx) := h
  refine wpAny_bind (wpAny_standAt (wpAny_bind (wpAny_bind (m := comprehension (.DictComp kx vx [⟨tg, iter, ifs, 0⟩] scope pos) scope X.env (firstIterPos [⟨tg, iter, ifs, 0⟩] pos) newDict false (eval iter X.env) (some (assign (.Name y py) X.env)))
    (L2.thn (dc_core (Qf := fun _ s' => SP X pins D .next s') hc hN I hi ok hg ht hk he hs h fun L C s' m H' I' q hn f => ?_) fun _ s' hq => wpAny_pure (wpAny_pure hq)))))
  refine wpAny_assign_Name (store_ok2 (v := V.ref L) I' hN hy (.inl loc) rfl (fun s2 I2 ⟨a, sb, ha⟩ => ?_) (.inr loc))
  obtain ⟨f0, f1, f2, f3, f4, f5⟩ := f
  exact ⟨m, hn.sameBut sb (ha.elim (fun z => z ▸ f1) fun z e => f4 y a z e.symm), fun h3 sb3 => ⟨_, H', I2.turned (t' := s2.toks) (fun b o hb e => (sb3.2 b hb).trans e) f0 f1 f3 f4 f5, q⟩⟩
end
end G1
end

-- S8c
section
set_option Elab.async false
set_option linter.all false
set_option maxRecDepth 100000
namespace R6
open PySem L2 OwnOps OwnNe SortStr EqDict SetStr DictList StX G1
/-- a dict made by a walk over another one's entries -/
theorem dcW {K : PySem.W.Frag} {B : Hp} {d D : Addr} {od : Obj} {m : Mp} {φ : Str × Str → Str × Str} {i j : Nat} {ws : List Nat} {σ : L2.St} {tk tv : TE} {Fin : Hp → Prop} (few : m.length ≤ 1000) (nd : (ks (m.map φ)).Nodup) (fz : B d = some (.frz od (.dK (dS m)))) (nD : B D = none)
    (wp : ∀ a b, wipe (((wipe σ ws).set i a).set j b) ws = wipe σ ws)
    (turn : ∀ r ∈ m, ∀ G, Same B G → ∀ R : V → V → Hp → Prop, R (.str (φ r).1) (.str (φ r).2) G → tk (((wipe σ ws).set i (some (.str r.1))).set j (some (.str r.2))) G fun y H4 => tv (((wipe σ ws).set i (some (.str r.1))).set j (some (.str r.2))) H4 fun z H5 => R y z H5)
    (fin : ∀ G, Same B G → G D = some (.dK (dS (m.map φ))) → Fin G) :
    ∃ W : Nat → Nat → Hp → Prop, (∃ m, W 0 m (upd B D (.dK []))) ∧ ∀ t k H, W t k H →
      ((Iti d od (dS m)).stop t H ∧ Fin H) ∨ ((Iti d od (dS m)).go t H ∧ ∃ Nx : Hp → Prop, (∀ H', Nx H' → ∃ k', k' < k ∧ W (t + 1) k' H') ∧ ∀ x H', (Iti d od (dS m)).yld t H x H' → gTup K 2 (gCons (gName i) (gCons (gName j) gNil)) x (wipe σ ws) H' fun σ2 H2 => wipe σ2 ws = wipe σ ws ∧ tYes σ2 H2 fun b H3 =>
        if b = true then tk σ2 H3 fun y H4 => tv σ2 H4 fun z H5 => ∃ kvs k, y = kV k ∧ H5 D = some (.dK kvs) ∧ kvs.length < sizeLine ∧ Nx (upd H5 D (.dK (putK kvs k z))) else Nx H3) := by
  refine walk_it walk_items (fun t G => Same B G ∧ G D = some (.dK (dS ((m.take t).map φ)))) ⟨same_upd nD, upd_same⟩ (fun t G _ ⟨sm, _⟩ => sm _ _ fz) (fun t x G G' ht ⟨sm, hD⟩ ⟨T, u, v, e1, nT, e2, hu, hv⟩ => ?_) (fun G ⟨sm, hD⟩ => fin G sm ?_)
  · subst e1 e2
    obtain ⟨r, hr, rfl, rfl⟩ := it_at hu hv
    have lt : t < m.length := (List.getElem?_eq_some_iff.mp hr).1
    have sm2 : Same G (upd G T (.tup [.str r.1, .str r.2])) := same_upd nT
    refine ⟨T, _, rfl, SqT.of upd_same, rfl, _, _, rfl, _, _, rfl, rfl, wp _ _, yes_go (iteT (turn r (List.mem_of_getElem? hr) _ (sm.trans sm2) _ ⟨dS ((m.take t).map φ), Sum.inr (φ r).1, rfl, sm2 _ _ hD, ?_, same_put (sm.trans sm2) nD, ?_⟩))⟩
    · rw [dS_len, List.length_map, List.length_take]
      exact Nat.lt_of_le_of_lt (Nat.min_le_left _ _) (Nat.lt_of_lt_of_le (Nat.lt_of_lt_of_le lt few) (by decide))
    · have e3 : (m.take (t + 1)).map φ = (m.take t).map φ ++ [φ r] := by
        rw [List.take_succ, hr, List.map_append]
        rfl
      have nd2 : (ks ((m.take (t + 1)).map φ)).Nodup := by
        refine List.Nodup.sublist ?_ nd
        exact ((List.take_sublist _ _).map φ).map _
      rw [e3] at nd2 ⊢
      have no : (φ r).1 ∉ ks ((m.take t).map φ) := by
        unfold ks at nd2
        rw [List.map_append] at nd2
        intro z
        exact (List.nodup_append.mp nd2).2.2 _ z _ (List.mem_singleton.mpr rfl) rfl
      rw [upd_same, dS_put no]
  · rw [hD, dS_len, List.take_length]
/-- what is known of the class's making -/
structure Mak (P : Program) (w : World) (K : PySem.W.Frag) (mg : Str → Option Value) (base : Heap) (C : Addr) : Prop where
  ex : ∃ (fI : Addr) (fd : FuncData), Mk K C fI ∧ FnOk P w K mg base (L2.CX P w) 2 fI fd ["self", "nets", "ids"] (spMI C) ∧ L2.Binds K fd ["self", "nets", "ids"] []
section
variable {C : Addr} {H : Hp} {Q : VK} {E : XK}
theorem mk_mat {a b : Addr} {n i : Mp} (ha : H a = some (.dK (dS n))) (hb : H b = some (.dK (dS i))) (ab : a ≠ b) (on : One n) (oi : One i) (k : ∀ x H' F, Same H H' → Mat C H' x n i F → New F H → Q (.ref x) H') :
    ∀ x dx, H x = none → H dx = none → dx ≠ x → spMI C [.ref x, .ref a, .ref b] (upd (upd H dx (.own x)) x (.ins C dx [])) (fun v H2 => v = .non ∧ Q (.ref x) H2) E := by
  intro x dx hx hd ne
  have sn := same_new (C := C) hx hd
  refine ⟨x, dx, a, b, n, i, rfl, upd_same, sn _ _ ha, sn _ _ hb, ab, on, oi, fun H' F sx m nw => ⟨rfl, k x H' F (same_made hx hd sx) m fun y hy => ?_⟩⟩
  by_cases h : y = x
  · rw [h]
    exact hx
  · exact Same.none sn (nw y hy h)
end
section
variable {P : Program} {w : World} {K : PySem.W.Frag} {mg : Str → Option Value} {base : Heap} {C : Addr}
/-- told by a name -/
def spCall (C : Addr) (sel : Mp → Mp → Mp) : Sp := fun vs H Q _ => ∃ (p : Addr) (k v : Str) (n i : Mp) (F : List Addr), vs = [.ref p, .str k] ∧ Mat C H p n i F ∧ at_ (sel n i) k = some v ∧ Q (.str v) H
theorem ok_call {f : Addr} {fd : FuncData} (F : Fun K "__call__" "Matching.__call__" (sMat 2) f fd) (T : Txt K mg C) : FnOk P w K mg base (L2.CX P w) 2 f fd ["self", "net"] (spCall C fun n _ => n) := by
  have sc : FnScope ["self", "net"] ["self", "net"] (defScope (sMat 2)) := ⟨rfl, rfl, rfl, by decide +kernel, rfl, by decide +kernel, by decide +kernel⟩
  refine F.okX sc (fun vs H Q E h => ?_) (fun cdv A outer s H vs Q E hr h => ?_)
  · obtain ⟨p, k, v, n, i, F, rfl, _⟩ := h
    rfl
  · obtain ⟨p, k, v, n, i, F, rfl, ⟨dx, dn, di, lp, us, _, hp, hn, _⟩, hv, q⟩ := h
    have hu := hu_of hr
    refine ⟨_, pss_cons (ps_if (PW.pt (pw_or (pt_not (pt_val (pe_callB call_isi (by rfl) T.isi (by decide +kernel) (pa_cons (pv 1) (pa_cons (pe_bltn (v := .ty "str") (by rfl) T.str (by decide +kernel) rfl) pa_nil))))) (pw_or1 (pt_cmp (pc_dnotin hu (pv 1) (pe_fld (pv 0) rfl)))))) (pss_one ps_never) pss_nil)
      (pss_one (ps_ret (pe_dget hu (pe_fld (pv 0) rfl) (pv 1) (fun _ _ => rfl)))), ?_⟩
    have g : DGet H dn (.str k) (some (.str v)) := .inl ⟨dS n, Sum.inr k, .inl hn, rfl, by rw [dS_at, hv] <;> rfl⟩
    refine ⟨_, rfl, _, _, _, _, _, rfl, .ty _, .base (.str k), kit_ty (r := true) (by decide +kernel), _, rfl, if_neg' rfl ⟨_, rfl, _, rfl, p, C, dx, _, _, rfl, hp, T.cl, T.n1, lk1, dn, _, rfl, g, _, rfl, if_neg' rfl ?_⟩⟩
    exact ⟨_, rfl, p, C, dx, _, _, rfl, hp, T.cl, T.n1, lk1, _, rfl, dn, _, rfl, g, q⟩
theorem ok_idof {f : Addr} {fd : FuncData} (F : Fun K "id_of" "Matching.id_of" (sMat 3) f fd) (T : Txt K mg C) : FnOk P w K mg base (L2.CX P w) 2 f fd ["self", "name"] (spCall C fun _ i => i) := by
  have sc : FnScope ["self", "name"] ["self", "name"] (defScope (sMat 3)) := ⟨rfl, rfl, rfl, by decide +kernel, rfl, by decide +kernel, by decide +kernel⟩
  refine F.okX sc (fun vs H Q E h => ?_) (fun cdv A outer s H vs Q E hr h => ?_)
  · obtain ⟨p, k, v, n, i, F, rfl, _⟩ := h
    rfl
  · obtain ⟨p, k, v, n, i, F, rfl, ⟨dx, dn, di, lp, us, _, hp, _, hi, _⟩, hv, q⟩ := h
    have hu := hu_of hr
    refine ⟨_, pss_cons (ps_if (PW.pt (pw_or (pt_not (pt_val (pe_callB call_isi (by rfl) T.isi (by decide +kernel) (pa_cons (pv 1) (pa_cons (pe_bltn (v := .ty "str") (by rfl) T.str (by decide +kernel) rfl) pa_nil))))) (pw_or1 (pt_cmp (pc_dnotin hu (pv 1) (pe_fld (pv 0) rfl)))))) (pss_one ps_never) pss_nil)
      (pss_one (ps_ret (pe_dget hu (pe_fld (pv 0) rfl) (pv 1) (fun _ _ => rfl)))), ?_⟩
    have g : DGet H di (.str k) (some (.str v)) := .inl ⟨dS i, Sum.inr k, .inl hi, rfl, by rw [dS_at, hv] <;> rfl⟩
    refine ⟨_, rfl, _, _, _, _, _, rfl, .ty _, .base (.str k), kit_ty (r := true) (by decide +kernel), _, rfl, if_neg' rfl ⟨_, rfl, _, rfl, p, C, dx, _, _, rfl, hp, T.cl, T.n2, lk2, di, _, rfl, g, _, rfl, if_neg' rfl ?_⟩⟩
    exact ⟨_, rfl, p, C, dx, _, _, rfl, hp, T.cl, T.n2, lk2, _, rfl, di, _, rfl, g, q⟩
/-- a copy of a map -/
def spCop (C : Addr) (sel : Mp → Mp → Mp) : Sp := fun vs H Q _ => ∃ (p : Addr) (n i : Mp) (F : List Addr), vs = [.ref p] ∧ Mat C H p n i F ∧ ∀ q, H q = none → Q (.ref q) (upd H q (.dK (dS (sel n i))))
theorem ok_netmap {f : Addr} {fd : FuncData} (F : Fun K "net_map" "Matching.net_map" (sMat 4) f fd) (T : Txt K mg C) : FnOk P w K mg base (L2.CX P w) 1 f fd ["self"] (spCop C fun n _ => n) := by
  have sc : FnScope ["self"] ["self"] (defScope (sMat 4)) := ⟨rfl, rfl, rfl, by decide +kernel, rfl, by decide +kernel, by decide +kernel⟩
  refine F.okX sc (fun vs H Q E h => ?_) (fun cdv A outer s H vs Q E hr h => ?_)
  · obtain ⟨p, n, i, F, rfl, _⟩ := h
    rfl
  · obtain ⟨p, n, i, F, rfl, ⟨dx, dn, di, lp, us, _, hp, hn, hi, _⟩, q⟩ := h
    exact ⟨_, pss_one (ps_ret (pe_callTy call_dictD (by rfl) T.dict (by decide +kernel) (pa_cons (pe_fld (pv 0) rfl) pa_nil))), _, rfl, p, C, dx, _, _, rfl, hp, T.cl, T.n1, lk1, dn, _, rfl, .inl hn, q⟩
theorem ok_idmap {f : Addr} {fd : FuncData} (F : Fun K "id_map" "Matching.id_map" (sMat 5) f fd) (T : Txt K mg C) : FnOk P w K mg base (L2.CX P w) 1 f fd ["self"] (spCop C fun _ i => i) := by
  have sc : FnScope ["self"] ["self"] (defScope (sMat 5)) := ⟨rfl, rfl, rfl, by decide +kernel, rfl, by decide +kernel, by decide +kernel⟩
  refine F.okX sc (fun vs H Q E h => ?_) (fun cdv A outer s H vs Q E hr h => ?_)
  · obtain ⟨p, n, i, F, rfl, _⟩ := h
    rfl
  · obtain ⟨p, n, i, F, rfl, ⟨dx, dn, di, lp, us, _, hp, hn, hi, _⟩, q⟩ := h
    exact ⟨_, pss_one (ps_ret (pe_callTy call_dictD (by rfl) T.dict (by decide +kernel) (pa_cons (pe_fld (pv 0) rfl) pa_nil))), _, rfl, p, C, dx, _, _, rfl, hp, T.cl, T.n2, lk2, di, _, rfl, .inl hi, q⟩
/-- its length -/
def spLen (C : Addr) : Sp := fun vs H Q _ => ∃ (p : Addr) (n i : Mp) (F : List Addr), vs = [.ref p] ∧ Mat C H p n i F ∧ Q (.int (n.length : Nat)) H
theorem ok_len {f : Addr} {fd : FuncData} (F : Fun K "__len__" "Matching.__len__" (sMat 10) f fd) (T : Txt K mg C) : FnOk P w K mg base (L2.CX P w) 1 f fd ["self"] (spLen C) := by
  have sc : FnScope ["self"] ["self"] (defScope (sMat 10)) := ⟨rfl, rfl, rfl, by decide +kernel, rfl, by decide +kernel, by decide +kernel⟩
  refine F.okX sc (fun vs H Q E h => ?_) (fun cdv A outer s H vs Q E hr h => ?_)
  · obtain ⟨p, n, i, F, rfl, _⟩ := h
    rfl
  · obtain ⟨p, n, i, F, rfl, ⟨dx, dn, di, lp, us, _, hp, hn, hi, _⟩, q⟩ := h
    rw [← dS_len] at q
    exact ⟨_, pss_one (ps_ret (pe_callB call_lenD (by rfl) T.len PySem.boot_len (pa_cons (pe_fld (pv 0) rfl) pa_nil))), _, rfl, p, C, dx, _, _, rfl, hp, T.cl, T.n1, lk1, dn, dS n, rfl, hn, q⟩
theorem fol_len {m l : Mp} (f : Fol m l) : m.length = l.length := by
  have := List.Perm.length_eq f
  rw [List.length_map, List.length_map] at this
  exact this
theorem mem_vs {m : Mp} {r : Str × Str} (h : r ∈ m) : r.2 ∈ vs m := List.mem_map.mpr ⟨r, h, rfl⟩
theorem get_thn {H : Hp} {d : Addr} {m l : Mp} {r : Str × Str} (hr : r ∈ m) (f : Fol m l) (h : Rd H d (.dK (dS l))) : DGet H d (.str r.2) (some (.str ((at_ l r.2).getD Str.empty))) := by
  obtain ⟨v, hv, _⟩ := at_key (f.mem_iff.mp (mem_vs hr))
  refine .inl ⟨dS l, Sum.inr r.2, h, rfl, ?_⟩
  rw [dS_at, hv]
  rfl
/-! ### m * n, ~m, m == n -/
def spMul (C : Addr) : Sp := fun vs H Q _ => ∃ (p q : Addr) (n i n' i' : Mp) (F F' : List Addr), vs = [.ref p, .ref q] ∧ Mat C H p n i F ∧ Mat C H q n' i' F' ∧ Fol n n' ∧ Fol i i' ∧ ∀ r H' G, Same H H' → Mat C H' r (thn n n') (thn i i') G → New G H → Q (.ref r) H'
theorem ok_mul {f : Addr} {fd : FuncData} (F : Fun K "__mul__" "Matching.__mul__" (sMat 7) f fd) (T : Txt K mg C) (M : Mak P w K mg base C) (GF : Glb P w K mg base "_follow" 2 ["told", "following"] spFol) : FnOk P w K mg base (L2.CX P w) 4 f fd ["self", "other"] (spMul C) := by
  obtain ⟨fF, fdF, mF, kF, GF, bF⟩ := GF.ex
  obtain ⟨fI, fdI, mk, GI, bI⟩ := M.ex
  have sc : FnScope ["self", "other", "nets", "net", "there", "name"] ["self", "other"] (defScope (sMat 7)) := ⟨rfl, rfl, rfl, by decide +kernel, rfl, by decide +kernel, by decide +kernel⟩
  refine F.okX sc (fun vs H Q E h => ?_) (fun cdv A outer s H vs Q E hr h => ?_)
  · obtain ⟨p, q, n, i, n', i', F, F', rfl, _⟩ := h
    rfl
  · obtain ⟨p, q, n, i, n', i', F, F', rfl, mp, mq, fn, fi, k⟩ := h
    have hu : (cxOf (L2.CX P w) P w K mg base ["self", "other", "nets", "net", "there", "name"] "Matching.__mul__" (defScope (sMat 7)) f cdv A outer s H E).A.units + 1 < cLine := hu_of hr
    refine ⟨_, pss_cons (ps_if (pt_not (pt_val (pe_callB call_isi (by rfl) T.isi (by decide +kernel) (pa_cons (pv 1) (pa_cons (pe_glob (v := .ref C) (by rfl) T.gC rfl) pa_nil))))) (pss_one ps_never) pss_nil)
      (pss_cons (ps_if (PW.pt (pw_or (pt_not (pt_val (pe_call GF (hr.mono (by decide)) (by rfl) mF kF bF .nil passL (pa_cons (pe_fld (pv 0) rfl) (pa_cons (pe_fld (pv 1) rfl) pa_nil))))) (pw_or1 (pt_not (pt_val (pe_call GF (hr.mono (by decide)) (by rfl) mF kF bF .nil passL (pa_cons (pe_fld (pv 0) rfl) (pa_cons (pe_fld (pv 1) rfl) pa_nil)))))))) (pss_one ps_never) pss_nil)
      (pss_cons (ps_lock (ps_setDc (i := 2) (own := [("net", 3), ("there", 4)]) (g := gTup K 2 (gCons (gName 3) (gCons (gName 4) gNil))) (tt := tYes) (tv := tDGet (tFld K (tVar 1) "_net_map") (tVar 4)) rfl sc.nd rfl rfl (swD rfl rfl rfl (by decide +kernel)) (pi_items (pe_fld (pv 0) rfl))
          (blkOk_by (N := ["self", "other", "nets", "net", "there", "name"]) (sc := defScope (sMat 7)) (by decide +kernel)) (fun _ _ _ _ _ => pg_two (i := 3) (j := 4) rfl sc.nd rfl (Or.inl rfl) rfl (Or.inl rfl)) (fun _ _ _ _ _ => pts_nil) (fun _ _ _ _ _ => pv 3) (fun _ _ _ _ _ => pe_dget hu (pe_fld (pv 1) rfl) (pv 4) (fun _ _ => rfl))))
      (pss_one (ps_ret (pe_make mk GI hr (by rfl) T.gC bI .nil passL (pa_cons (pv 2) (pa_cons (pe_lock (pe_dc (own := [("name", 5), ("there", 4)]) (g := gTup K 2 (gCons (gName 5) (gCons (gName 4) gNil))) (tt := tYes) (tv := tDGet (tFld K (tVar 1) "_id_map") (tVar 4)) rfl sc.nd (pi_items (pe_fld (pv 0) rfl))
          (blkOk_by (N := ["self", "other", "nets", "net", "there", "name"]) (sc := defScope (sMat 7)) (by decide +kernel)) (fun _ _ _ _ _ => pg_two (i := 5) (j := 4) rfl sc.nd rfl (Or.inl rfl) rfl (Or.inl rfl)) (fun _ _ _ _ _ => pts_nil) (fun _ _ _ _ _ => pv 5) (fun _ _ _ _ _ => pe_dget hu (pe_fld (pv 1) rfl) (pv 4) (fun _ _ => rfl)))) pa_nil))))))), ?_⟩
    obtain ⟨dx, dn, di, lp, us, _, hp, hn, hi, _, _, on, oi⟩ := mp
    obtain ⟨dy, dn', di', lp', us', _, hq, hn', hi', _, _, on', oi'⟩ := mq
    refine ⟨_, rfl, _, _, _, _, _, rfl, .own C, .base (.ins hq T.cl T.ha T.hn T.htk T.hm), T.kCC, _, rfl, if_neg' rfl ?_⟩
    refine ⟨_, rfl, p, C, dx, _, _, rfl, hp, T.cl, T.n1, lk1, _, rfl, q, C, dy, _, _, rfl, hq, T.cl, T.n1, lk1, dn, dn', n, n', rfl, .inl hn, .inl hn', fol_len fn, fun H1 s1 => ⟨_, rfl, if_neg' (by rw [fol_yes fn]; rfl) ?_⟩⟩
    refine ⟨_, rfl, p, C, dx, _, _, rfl, s1 _ _ hp, T.cl, T.n2, lk2, _, rfl, q, C, dy, _, _, rfl, s1 _ _ hq, T.cl, T.n2, lk2, di, di', i, i', rfl, .inl (s1 _ _ hi), .inl (s1 _ _ hi'), fol_len fi, fun H2 s2 => ⟨_, rfl, if_neg' (by rw [fol_yes fi]; rfl) ?_⟩⟩
    have s02 := s1.trans s2
    have hn2 := s02 _ _ hn
    have hp2 := s02 _ _ hp
    have hq2 := s02 _ _ hq
    refine ⟨dn, .dK (dS n), hn2, trivial, fun od => ?_⟩
    have hpB : (upd H2 dn (.frz od (.dK (dS n)))) p = some (.ins C dx (mf dn di lp (isId n && isId i))) := by rw [upd_ne (ne_of hp2 hn2 (by intro z; cases z))]; exact hp2
    have hqB : (upd H2 dn (.frz od (.dK (dS n)))) q = some (.ins C dy (mf dn' di' lp' (isId n' && isId i'))) := by rw [upd_ne (ne_of hq2 hn2 (by intro z; cases z))]; exact hq2
    have rB : Rd (upd H2 dn (.frz od (.dK (dS n)))) dn' (.dK (dS n')) := rd_lock hn2 trivial (.inl (s02 _ _ hn'))
    refine ⟨_, rfl, p, C, dx, _, _, rfl, hpB, T.cl, T.n1, lk1, dn, od, dS n, rfl, upd_same, fun D nD => dcW (K := K) (φ := fun r => (r.1, (at_ n' r.2).getD Str.empty)) on.few (by show (ks (thn n n')).Nodup; rw [ks_thn]; exact on.kn) upd_same nD (fun _ _ => rfl) (fun r hr' G sm R hR => ?_) (fun G sm hD => ?_)⟩
    · exact ⟨_, rfl, _, rfl, q, C, dy, _, _, rfl, sm _ _ hqB, T.cl, T.n1, lk1, _, rfl, dn', _, rfl, get_thn hr' fn (rd_same rB sm), hR⟩
    obtain ⟨e1, s3⟩ := same_unlock hn2 sm
    refine ⟨e1, ?_⟩
    have Dn : D ≠ dn := fun z => by rw [z, upd_same] at nD; cases nD
    have D3 : (upd G dn (.dK (dS n))) D = some (.dK (dS (thn n n'))) := by rw [upd_ne Dn]; exact hD
    generalize upd G dn (.dK (dS n)) = H3 at s3 D3 ⊢
    have s03 := s02.trans s3
    have hi3 := s03 _ _ hi
    have hp3 := s03 _ _ hp
    have hq3 := s03 _ _ hq
    refine ⟨_, rfl, di, .dK (dS i), hi3, trivial, fun od2 => ?_⟩
    have hpB2 : (upd H3 di (.frz od2 (.dK (dS i)))) p = some (.ins C dx (mf dn di lp (isId n && isId i))) := by rw [upd_ne (ne_of hp3 hi3 (by intro z; cases z))]; exact hp3
    have hqB2 : (upd H3 di (.frz od2 (.dK (dS i)))) q = some (.ins C dy (mf dn' di' lp' (isId n' && isId i'))) := by rw [upd_ne (ne_of hq3 hi3 (by intro z; cases z))]; exact hq3
    have rB2 : Rd (upd H3 di (.frz od2 (.dK (dS i)))) di' (.dK (dS i')) := rd_lock hi3 trivial (.inl (s03 _ _ hi'))
    refine ⟨_, rfl, p, C, dx, _, _, rfl, hpB2, T.cl, T.n2, lk2, di, od2, dS i, rfl, upd_same, fun D2 nD2 => dcW (K := K) (φ := fun r => (r.1, (at_ i' r.2).getD Str.empty)) oi.few (by show (ks (thn i i')).Nodup; rw [ks_thn]; exact oi.kn) upd_same nD2 (fun _ _ => rfl) (fun r hr' G sm R hR => ?_) (fun G2 sm2 hD2 => ?_)⟩
    · exact ⟨_, rfl, _, rfl, q, C, dy, _, _, rfl, sm _ _ hqB2, T.cl, T.n2, lk2, _, rfl, di', _, rfl, get_thn hr' fi (rd_same rB2 sm), hR⟩
    obtain ⟨e2, s4⟩ := same_unlock hi3 sm2
    refine ⟨e2, ?_⟩
    have Dn2 : D2 ≠ di := fun z => by rw [z, upd_same] at nD2; cases nD2
    have D4 : (upd G2 di (.dK (dS i))) D2 = some (.dK (dS (thn i i'))) := by rw [upd_ne Dn2]; exact hD2
    have DD2 : D ≠ D2 := fun z => by
      have w : H3 D2 = none := by rw [← upd_ne (H := H3) (o := .frz od2 (.dK (dS i))) Dn2]; exact nD2
      rw [z] at D3
      rw [D3] at w
      cases w
    generalize upd G2 di (.dK (dS i)) = H4 at s4 D4 ⊢
    exact mk_mat (s4 _ _ D3) D4 DD2 (on.thn on' fn) (oi.thn oi' fi) fun x H' F sm m nw => k x H' F (s03.trans (s4.trans sm)) m fun y hy => Same.none (s03.trans s4) (nw y hy)
end
end R6
end

-- S8d
section
set_option Elab.async false
set_option linter.all false
set_option maxRecDepth 100000
namespace R6
open PySem L2 OwnOps OwnNe SortStr EqDict SetStr DictList StX G1
section
variable {P : Program} {w : World} {K : PySem.W.Frag} {mg : Str → Option Value} {base : Heap} {C : Addr}
def spInv (C : Addr) : Sp := fun vs H Q _ => ∃ (p : Addr) (n i : Mp) (F : List Addr), vs = [.ref p] ∧ Mat C H p n i F ∧ ∀ r H' G, Same H H' → Mat C H' r (inv n) (inv i) G → New G H → Q (.ref r) H'
theorem ok_inv {f : Addr} {fd : FuncData} (F : Fun K "__invert__" "Matching.__invert__" (sMat 8) f fd) (T : Txt K mg C) (M : Mak P w K mg base C) : FnOk P w K mg base (L2.CX P w) 4 f fd ["self"] (spInv C) := by
  obtain ⟨fI, fdI, mk, GI, bI⟩ := M.ex
  have sc : FnScope ["self", "nets", "net", "there", "name"] ["self"] (defScope (sMat 8)) := ⟨rfl, rfl, rfl, by decide +kernel, rfl, by decide +kernel, by decide +kernel⟩
  refine F.okX sc (fun vs H Q E h => ?_) (fun cdv A outer s H vs Q E hr h => ?_)
  · obtain ⟨p, n, i, F, rfl, _⟩ := h
    rfl
  · obtain ⟨p, n, i, F, rfl, mp, k⟩ := h
    refine ⟨_, pss_cons (ps_lock (ps_setDc (i := 1) (own := [("net", 2), ("there", 3)]) (g := gTup K 2 (gCons (gName 2) (gCons (gName 3) gNil))) (tt := tYes) rfl sc.nd rfl rfl (swD rfl rfl rfl (by decide +kernel)) (pi_items (pe_fld (pv 0) rfl))
          (blkOk_by (N := ["self", "nets", "net", "there", "name"]) (sc := defScope (sMat 8)) (by decide +kernel)) (fun _ _ _ _ _ => pg_two (i := 2) (j := 3) rfl sc.nd rfl (Or.inl rfl) rfl (Or.inl rfl)) (fun _ _ _ _ _ => pts_nil) (fun _ _ _ _ _ => pv 3) (fun _ _ _ _ _ => pv 2)))
      (pss_one (ps_ret (pe_make mk GI (hr.mono (by decide)) (by rfl) T.gC bI .nil passL (pa_cons (pv 1) (pa_cons (pe_lock (pe_dc (own := [("name", 4), ("there", 3)]) (g := gTup K 2 (gCons (gName 4) (gCons (gName 3) gNil))) (tt := tYes) rfl sc.nd (pi_items (pe_fld (pv 0) rfl))
          (blkOk_by (N := ["self", "nets", "net", "there", "name"]) (sc := defScope (sMat 8)) (by decide +kernel)) (fun _ _ _ _ _ => pg_two (i := 4) (j := 3) rfl sc.nd rfl (Or.inl rfl) rfl (Or.inl rfl)) (fun _ _ _ _ _ => pts_nil) (fun _ _ _ _ _ => pv 3) (fun _ _ _ _ _ => pv 4))) pa_nil))))), ?_⟩
    obtain ⟨dx, dn, di, lp, us, _, hp, hn, hi, _, _, on, oi⟩ := mp
    refine ⟨dn, .dK (dS n), hn, trivial, fun od => ?_⟩
    have hpB : (upd H dn (.frz od (.dK (dS n)))) p = some (.ins C dx (mf dn di lp (isId n && isId i))) := by rw [upd_ne (ne_of hp hn (by intro z; cases z))]; exact hp
    refine ⟨_, rfl, p, C, dx, _, _, rfl, hpB, T.cl, T.n1, lk1, dn, od, dS n, rfl, upd_same, fun D nD => dcW (K := K) (φ := fun r => (r.2, r.1)) on.few on.inv.kn upd_same nD (fun _ _ => rfl) (fun r hr' G sm R hR => ?_) (fun G sm hD => ?_)⟩
    · exact ⟨_, rfl, _, rfl, hR⟩
    obtain ⟨e1, s3⟩ := same_unlock hn sm
    refine ⟨e1, ?_⟩
    have Dn : D ≠ dn := fun z => by rw [z, upd_same] at nD; cases nD
    have D3 : (upd G dn (.dK (dS n))) D = some (.dK (dS (inv n))) := by rw [upd_ne Dn]; exact hD
    generalize upd G dn (.dK (dS n)) = H3 at s3 D3 ⊢
    have hi3 := s3 _ _ hi
    have hp3 := s3 _ _ hp
    refine ⟨_, rfl, di, .dK (dS i), hi3, trivial, fun od2 => ?_⟩
    have hpB2 : (upd H3 di (.frz od2 (.dK (dS i)))) p = some (.ins C dx (mf dn di lp (isId n && isId i))) := by rw [upd_ne (ne_of hp3 hi3 (by intro z; cases z))]; exact hp3
    refine ⟨_, rfl, p, C, dx, _, _, rfl, hpB2, T.cl, T.n2, lk2, di, od2, dS i, rfl, upd_same, fun D2 nD2 => dcW (K := K) (φ := fun r => (r.2, r.1)) oi.few oi.inv.kn upd_same nD2 (fun _ _ => rfl) (fun r hr' G sm R hR => ?_) (fun G2 sm2 hD2 => ?_)⟩
    · exact ⟨_, rfl, _, rfl, hR⟩
    obtain ⟨e2, s4⟩ := same_unlock hi3 sm2
    refine ⟨e2, ?_⟩
    have Dn2 : D2 ≠ di := fun z => by rw [z, upd_same] at nD2; cases nD2
    have D4 : (upd G2 di (.dK (dS i))) D2 = some (.dK (dS (inv i))) := by rw [upd_ne Dn2]; exact hD2
    have DD2 : D ≠ D2 := fun z => by
      have w : H3 D2 = none := by rw [← upd_ne (H := H3) (o := .frz od2 (.dK (dS i))) Dn2]; exact nD2
      rw [z] at D3
      rw [D3] at w
      cases w
    generalize upd G2 di (.dK (dS i)) = H4 at s4 D4 ⊢
    exact mk_mat (s4 _ _ D3) D4 DD2 on.inv oi.inv fun x H' F sm m nw => k x H' F (s3.trans (s4.trans sm)) m fun y hy => Same.none (s3.trans s4) (nw y hy)
/-- the same maps -/
def eq2 (n i n' i' : Mp) : Bool := dEq (dS n) (dS n') && dEq (dS i) (dS i')
def spEq (C : Addr) : Sp := fun vs H Q _ => ∃ (p : Addr) (y : V) (n i : Mp) (F : List Addr), vs = [.ref p, y] ∧ Mat C H p n i F ∧ ((∃ q n' i' F', y = .ref q ∧ Mat C H q n' i' F' ∧ Q (.bl (eq2 n i n' i')) H) ∨ (∃ d m, y = .ref d ∧ H d = some (.dK m) ∧ Q (.bl false) H))
theorem ok_eq {f : Addr} {fd : FuncData} (F : Fun K "__eq__" "Matching.__eq__" (sMat 11) f fd) (T : Txt K mg C) : FnOk P w K mg base (L2.CX P w) 1 f fd ["self", "other"] (spEq C) := by
  have sc : FnScope ["self", "other"] ["self", "other"] (defScope (sMat 11)) := ⟨rfl, rfl, rfl, by decide +kernel, rfl, by decide +kernel, by decide +kernel⟩
  refine F.okX sc (fun vs H Q E h => ?_) (fun cdv A outer s H vs Q E hr h => ?_)
  · obtain ⟨p, y, n, i, F, rfl, _⟩ := h
    rfl
  · obtain ⟨p, y, n, i, F, rfl, ⟨dx, dn, di, lp, us, _, hp, hn, hi, _⟩, k⟩ := h
    refine ⟨_, pss_one (ps_ret (pe_and (pe_callB call_isi (by rfl) T.isi (by decide +kernel) (pa_cons (pv 1) (pa_cons (pe_glob (v := .ref C) (by rfl) T.gC rfl) pa_nil)))
      (pe_and (pe_cmpR (op_eqDT hr.units0) (pe_fld (pv 0) rfl) (pe_fld (pv 1) rfl) (nomark _)) (pe_one (pe_cmpR (op_eqDT hr.units0) (pe_fld (pv 0) rfl) (pe_fld (pv 1) rfl) (nomark _)))))), ?_⟩
    rcases k with ⟨q, n', i', F', rfl, ⟨dy, dn', di', lp', us', _, hq, hn', hi', _⟩, k⟩ | ⟨d, m, rfl, hd, k⟩
    · refine ⟨_, rfl, _, _, _, _, _, rfl, .own C, .base (.ins hq T.cl T.ha T.hn T.htk T.hm), T.kCC, _, rfl, iteT ?_⟩
      refine ⟨_, rfl, p, C, dx, _, _, rfl, hp, T.cl, T.n1, lk1, _, rfl, q, C, dy, _, _, rfl, hq, T.cl, T.n1, lk1, dn, dn', dS n, dS n', rfl, rfl, .inl hn, .inl hn', dS_flt n, dS_flt n', _, rfl, ?_⟩
      unfold eq2 at k
      show if dEq (dS n) (dS n') = true then _ else _
      cases e : dEq (dS n) (dS n')
      · rw [e] at k
        exact iteF k
      · rw [e, Bool.true_and] at k
        exact iteT ⟨_, rfl, p, C, dx, _, _, rfl, hp, T.cl, T.n2, lk2, _, rfl, q, C, dy, _, _, rfl, hq, T.cl, T.n2, lk2, di, di', dS i, dS i', rfl, rfl, .inl hi, .inl hi', dS_flt i, dS_flt i', k⟩
    · exact ⟨_, rfl, _, _, _, _, _, rfl, .own C, .base (.dK hd), T.kdC, _, rfl, iteF k⟩
end
end R6
end

-- S8g
section
set_option Elab.async false
set_option linter.all false
set_option maxRecDepth 100000
set_option exponentiation.threshold 10000
namespace R6
open PySem L2 OwnOps OwnNe SortStr EqDict SetStr DictList StX G1
abbrev sStart : Stmt := top 11
abbrev sDraw : Stmt := top 12
def CDivG (_ j : Int) : Prop := j ≠ 0 ∧ j.natAbs.log2 < 9000
theorem op_fdivG {X : Cx} : OpR X (binaryOp .FloorDiv) (rI CDivG fun i j => .int (i.fdiv j)) := opI fun i j _ _ _ _ _ hc q =>
  PyProof.Rows.floordiv_int hc.1 q (.inl (PyProof.noPylong_of_log2 hc.2))
theorem wide_divG {i j : Int} {n : Nat} (h : j ≠ 0) (hb : j.natAbs < 2 ^ n) (h0 : 0 < n) (h9 : n ≤ 9000) : CDivG i j := ⟨h, Nat.lt_of_lt_of_le (PySem.Flt.log2_lt_of h0 hb) h9⟩
/-- the state of the law's draws -/
def St (H : Hp) (l ls : Addr) : Prop := ∃ (ns : List Int) (at' rest seed : Int), ls ≠ l ∧ 0 ≤ at' ∧ H ls = some (.lst (ns.map V.int)) ∧ H l = some (.lst [.ref ls, .int at', .int rest, .int seed])
theorem St.same {H H' : Hp} {l ls : Addr} (h : St H l ls) (s : Same H H') : St H' l ls :=
  let ⟨ns, a, r, sd, n, a0, h1, h2⟩ := h
  ⟨ns, a, r, sd, n, a0, s _ _ h1, s _ _ h2⟩
structure Nms (mg : Str → Option Value) : Prop where
  len : mg "len" = none
  range : mg "range" = none
  list : mg "list" = none
  all : mg "all" = none
theorem mod_nn {x : Int} {u : Int} (h : 0 < u) : 0 ≤ x % u ∧ x % u < u := ⟨Int.emod_nonneg _ (Int.ne_of_gt h), Int.emod_lt_of_pos _ h⟩
theorem ns_at {ns : List Int} {a : Int} (a0 : 0 ≤ a) (h : decide (a < ((ns.map V.int).length : Int)) = true) : ∃ z, atI (ns.map V.int) a = some (.int z) := by
  have h := of_decide_eq_true h
  rw [List.length_map] at h
  obtain ⟨j, hj⟩ : ∃ j : Nat, a = j := ⟨_, (Int.toNat_of_nonneg a0).symm⟩
  have h3 : j < ns.length := by omega
  refine ⟨ns[j], at_of hj ?_⟩
  rw [List.getElem?_map, List.getElem?_eq_getElem h3]
  rfl
section
variable {P : Program} {w : World} {K : PySem.W.Frag} {mg : Str → Option Value} {base : Heap} {C CI fCI CZ fCZ : Addr}
def spDraw : Sp := fun vs H Q _ => ∃ (l ls : Addr) (u : Int), vs = [.ref l, .int u] ∧ 0 < u ∧ u.natAbs < 2 ^ 9000 ∧ St H l ls ∧
  ∀ d H', 0 ≤ d → d < u → SameX l H H' → St H' l ls → Q (.int d) H'
theorem ok_draw {f : Addr} {fd : FuncData} (F : Fun K "_law_draw" "_law_draw" sDraw f fd) (int : mg "int" = none) (N : Nms mg) :
    FnOk P w K mg base (L2.CX P w) 1 f fd ["_law_state", "_law_many"] spDraw := by
  have sc : FnScope ["_law_state", "_law_many", "_law_digit", "_law_cell"] ["_law_state", "_law_many"] (defScope sDraw) := ⟨rfl, rfl, rfl, by decide +kernel, rfl, by decide +kernel, by decide +kernel⟩
  refine F.okX sc (fun vs H Q E h => ?_) (fun cdv A outer s H vs Q E hr h => ?_)
  · obtain ⟨l, ls, u, rfl, _⟩ := h
    rfl
  · obtain ⟨l, ls, u, rfl, u0, u1, ⟨ns, a, r, sd, n, a0, h1, h2⟩, fin⟩ := h
    refine ⟨_, pss_cons (ps_if (pt_cmpR op_gt (pe_ix ix_list (pv 0) pe_int (fun _ _ => rfl)) pe_int (nomark _))
        (pss_cons (ps_set (i := 2) sc.nd rfl (Or.inl rfl) (pe_op op_mod (pe_callTy call_int1 (by rfl) int (by decide +kernel) (pa_cons (pe_ix ix_list (pv 0) pe_int (fun _ _ => rfl)) pa_nil)) (pv 1)))
        (pss_cons (ps_asg (pe_op op_fdivG (pe_ix ix_list (pv 0) pe_int (fun _ _ => rfl)) (pv 1)) (pg_sub (pv 0) pe_int set_list))
        (pss_one (ps_ret (pv 2))))) pss_nil)
      (pss_cons (ps_set (i := 3) sc.nd rfl (Or.inl rfl) (pe_ifExp (pt_cmpR op_lt (pe_ix ix_list (pv 0) pe_int (fun _ _ => rfl)) (pe_callB call_len_seq (by rfl) N.len PySem.boot_len (pa_cons (pe_ix ix_list (pv 0) pe_int (fun _ _ => rfl)) pa_nil)) (nomark _))
          (pe_ix ix_list (pe_ix ix_list (pv 0) pe_int (fun _ _ => rfl)) (pe_ix ix_list (pv 0) pe_int (fun _ _ => rfl)) (fun _ _ => rfl)) pe_int))
      (pss_cons (ps_asg (pe_op op_add (pe_ix ix_list (pv 0) pe_int (fun _ _ => rfl)) pe_int) (pg_sub (pv 0) pe_int set_list))
      (pss_cons (ps_if (pt_cmpR op_ge (pv 3) (pe_op op_pow pe_int pe_int) (nomark _))
        (pss_cons (ps_asg (pe_op op_fdivG (pv 3) (pv 1)) (pg_sub (pv 0) pe_int set_list))
        (pss_one (ps_ret (pe_op op_mod (pe_callTy call_int1 (by rfl) int (by decide +kernel) (pa_cons (pv 3) pa_nil)) (pv 1))))) pss_nil)
      (pss_cons (ps_asg (pe_op op_mod (pe_callTy call_int1 (by rfl) int (by decide +kernel) (pa_cons (pe_op op_add (pe_op op_add (pe_op op_add (pe_op op_mul (pe_ix ix_list (pv 0) pe_int (fun _ _ => rfl)) pe_int) (pe_op op_mul (pv 3) pe_int)) (pe_op op_mul (pe_ix ix_list (pv 0) pe_int (fun _ _ => rfl)) pe_int)) pe_int) pa_nil)) pe_int) (pg_sub (pv 0) pe_int set_list))
      (pss_one (ps_ret (pe_op op_mod (pe_callTy call_int1 (by rfl) int (by decide +kernel) (pa_cons (pe_op op_mod (pe_callTy call_int1 (by rfl) int (by decide +kernel) (pa_cons (pe_op op_add (pe_op op_mul (pe_ix ix_list (pv 0) pe_int (fun _ _ => rfl)) pe_int) pe_int) pa_nil)) pe_int) pa_nil)) (pv 1)))))))), ?_⟩
    have dv : ∀ x, CDivG x u := fun x => wide_divG (Int.ne_of_gt u0) u1 (by decide) (by decide)
    have kp : ∀ {o : HO} {H0 : Hp}, SameX l H H0 → (L2.upd H0 l o) ls = some (.lst (ns.map V.int)) := fun {o H0} s0 => by
      rw [upd_ne n]
      exact s0 _ _ n h1
    have p18 : ((10 : Int) ^ (18 : Int).toNat) = 1000000000000000000 := by decide +kernel
    refine ⟨_, rfl, l, _, _, _, rfl, rfl, SqL.of h2, at_of (j := 2) rfl rfl, _, _, rfl, rfl, _, rfl, ?_⟩
    refine ite2 (fun _ => ?_) (fun _ => ?_)
    · refine ⟨_, rfl, l, _, _, _, rfl, rfl, SqL.of h2, at_of (j := 2) rfl rfl, .inl ⟨_, rfl, _, rfl, _, _, rfl, rfl, u0, ?_⟩⟩
      refine ⟨_, rfl, l, _, _, _, rfl, rfl, SqL.of h2, at_of (j := 2) rfl rfl, _, rfl, _, _, rfl, rfl, dv _, _, rfl, l, _, _, 2, rfl, rfl, h2, rfl, _, rfl, ?_⟩
      exact fin _ _ (mod_nn u0).1 (mod_nn u0).2 SameX.upd ⟨ns, a, _, sd, n, a0, kp (SameX.refl l H), upd_same⟩
    · refine ⟨_, rfl, l, _, _, _, rfl, rfl, SqL.of h2, at_of (j := 1) rfl rfl, _, rfl, l, _, _, _, rfl, rfl, SqL.of h2, at_of (j := 0) rfl rfl, ls, _, rfl, .inl (SqL.of h1), _, _, rfl, rfl, _, rfl, ?_⟩
      refine ite2 (fun hin => ?_) (fun _ => ?_)
      · obtain ⟨z, hz⟩ := ns_at a0 hin
        refine ⟨_, rfl, l, _, _, _, rfl, rfl, SqL.of h2, at_of (j := 0) rfl rfl, _, rfl, l, _, _, _, rfl, rfl, SqL.of h2, at_of (j := 1) rfl rfl, ls, _, _, _, rfl, rfl, SqL.of h1, hz, ?_⟩
        refine ⟨_, rfl, l, _, _, _, rfl, rfl, SqL.of h2, at_of (j := 1) rfl rfl, _, _, rfl, rfl, _, rfl, l, _, _, 1, rfl, rfl, h2, rfl, ?_⟩
        have h3 : (L2.upd H l (.lst [.ref ls, .int (a + 1), .int r, .int sd])) l = some (.lst [.ref ls, .int (a + 1), .int r, .int sd]) := upd_same
        refine ⟨_, rfl, _, _, rfl, rfl, ⟨by decide, by decide, by decide +kernel⟩, _, _, rfl, rfl, _, rfl, ?_⟩
        refine ite2 (fun _ => ?_) (fun _ => ?_)
        · refine ⟨_, rfl, _, rfl, _, _, rfl, rfl, dv _, _, rfl, l, _, _, 2, rfl, rfl, h3, rfl, ?_⟩
          refine ⟨_, rfl, .inl ⟨_, rfl, _, rfl, _, _, rfl, rfl, u0, ?_⟩⟩
          exact fin _ _ (mod_nn u0).1 (mod_nn u0).2 (SameX.upd.trans SameX.upd) ⟨ns, a + 1, _, sd, n, by omega, kp SameX.upd, upd_same⟩
        · refine ⟨_, rfl, l, _, _, _, rfl, rfl, SqL.of h3, at_of (j := 3) rfl rfl, _, _, rfl, rfl, .inr ⟨by decide, by decide⟩, _, rfl, _, _, rfl, rfl, .inr ⟨by decide, by decide⟩, _, _, rfl, rfl,
            _, rfl, l, _, _, _, rfl, rfl, SqL.of h3, at_of (j := 1) rfl rfl, _, _, rfl, rfl, .inr ⟨by decide, by decide⟩, _, _, rfl, rfl, _, _, rfl, rfl, .inl ⟨_, rfl, _, _, rfl, rfl, (by show (0 : Int) < 2147483647; decide), _, rfl, l, _, _, 3, rfl, rfl, h3, rfl, ?_⟩⟩
          refine ⟨_, rfl, l, _, _, _, rfl, rfl, SqL.of upd_same, at_of (j := 3) rfl rfl, _, _, rfl, rfl, .inr ⟨by decide, by decide⟩, _, _, rfl, rfl, .inl ⟨_, rfl, _, _, rfl, rfl, (by show (0 : Int) < 2147483399; decide), .inl ⟨_, rfl, _, rfl, _, _, rfl, rfl, u0, ?_⟩⟩⟩
          exact fin _ _ (mod_nn u0).1 (mod_nn u0).2 (SameX.upd.trans SameX.upd) ⟨ns, a + 1, r, _, n, by omega, kp SameX.upd, upd_same⟩
      · skip
        refine ⟨_, rfl, l, _, _, _, rfl, rfl, SqL.of h2, at_of (j := 1) rfl rfl, _, _, rfl, rfl, _, rfl, l, _, _, 1, rfl, rfl, h2, rfl, ?_⟩
        have h3 : (L2.upd H l (.lst [.ref ls, .int (a + 1), .int r, .int sd])) l = some (.lst [.ref ls, .int (a + 1), .int r, .int sd]) := upd_same
        refine ⟨_, rfl, _, _, rfl, rfl, ⟨by decide, by decide, by decide +kernel⟩, _, _, rfl, rfl, _, rfl, ?_⟩
        refine ite2 (fun _ => ?_) (fun _ => ?_)
        · refine ⟨_, rfl, _, rfl, _, _, rfl, rfl, dv _, _, rfl, l, _, _, 2, rfl, rfl, h3, rfl, ?_⟩
          refine ⟨_, rfl, .inl ⟨_, rfl, _, rfl, _, _, rfl, rfl, u0, ?_⟩⟩
          exact fin _ _ (mod_nn u0).1 (mod_nn u0).2 (SameX.upd.trans SameX.upd) ⟨ns, a + 1, _, sd, n, by omega, kp SameX.upd, upd_same⟩
        · refine ⟨_, rfl, l, _, _, _, rfl, rfl, SqL.of h3, at_of (j := 3) rfl rfl, _, _, rfl, rfl, .inr ⟨by decide, by decide⟩, _, rfl, _, _, rfl, rfl, .inr ⟨by decide, by decide⟩, _, _, rfl, rfl,
            _, rfl, l, _, _, _, rfl, rfl, SqL.of h3, at_of (j := 1) rfl rfl, _, _, rfl, rfl, .inr ⟨by decide, by decide⟩, _, _, rfl, rfl, _, _, rfl, rfl, .inl ⟨_, rfl, _, _, rfl, rfl, (by show (0 : Int) < 2147483647; decide), _, rfl, l, _, _, 3, rfl, rfl, h3, rfl, ?_⟩⟩
          refine ⟨_, rfl, l, _, _, _, rfl, rfl, SqL.of upd_same, at_of (j := 3) rfl rfl, _, _, rfl, rfl, .inr ⟨by decide, by decide⟩, _, _, rfl, rfl, .inl ⟨_, rfl, _, _, rfl, rfl, (by show (0 : Int) < 2147483399; decide), .inl ⟨_, rfl, _, rfl, _, _, rfl, rfl, u0, ?_⟩⟩⟩
          exact fin _ _ (mod_nn u0).1 (mod_nn u0).2 (SameX.upd.trans SameX.upd) ⟨ns, a + 1, r, _, n, by omega, kp SameX.upd, upd_same⟩
end
end R6
end

-- S8h
section
set_option Elab.async false
set_option linter.all false
set_option maxRecDepth 100000
set_option exponentiation.threshold 10000
namespace R6
open PySem L2 OwnOps OwnNe SortStr EqDict SetStr DictList StX G1
abbrev sNames : Stmt := top 13
abbrev dg (i : Int) : Str := ((toString i : String) : Str)
theorem dg_len : ∀ n : Fin 60, (dg ((n.val : Nat) : Int)).length ≤ 3 := by decide +kernel
theorem dg_log : ∀ n : Fin 60, (((n.val : Nat) : Int)).natAbs.log2 < 1920 := by decide +kernel
theorem sx_put {l D : Addr} {H G : Hp} {o : HO} (s : SameX l H G) (h : H D = none) : SameX l H (upd G D o) := fun b u n e => by
  rw [upd_ne (ne_of_none e h)]
  exact s b u n e
theorem dg_inj : ∀ a b : Fin 60, dg ((a.val : Nat) : Int) = dg ((b.val : Nat) : Int) → a = b := by decide +kernel
theorem dg_lt {i : Int} (h0 : 0 ≤ i) (h : i < 60) : ∃ n : Fin 60, i = ((n.val : Nat) : Int) := ⟨⟨i.toNat, by omega⟩, by show i = (i.toNat : Int); omega⟩
theorem app_inj {c x y : Str} (h : c ++ x = c ++ y) : x = y := by
  cases x with
  | mk x =>
    cases y with
    | mk y =>
      have h : c.cps ++ x = c.cps ++ y := congrArg Str.cps h
      rw [Array.append_right_inj] at h
      rw [h]
/-- the k-th name -/
def nm (c : Str) (ds : Nat → Int) (k : Nat) : Str := c ++ dg (7 * (k : Int) + ds k)
theorem nm_inj {c : Str} {ds : Nat → Int} {j k : Nat} (hj : j < 6) (hk : k < 6) (d0 : 0 ≤ ds j) (d1 : ds j < 7) (e0 : 0 ≤ ds k) (e1 : ds k < 7) (h : nm c ds j = nm c ds k) : j = k := by
  have h := app_inj h
  obtain ⟨a, ha⟩ := dg_lt (i := 7 * (j : Int) + ds j) (by omega) (by omega)
  obtain ⟨b, hb⟩ := dg_lt (i := 7 * (k : Int) + ds k) (by omega) (by omega)
  rw [ha, hb] at h
  have e := dg_inj a b h
  rw [e, ← hb] at ha
  omega
theorem sm9 {u : Int} (h : u.natAbs < 2 ^ 128) : u.natAbs < 2 ^ 9000 := Nat.lt_of_lt_of_le h (Nat.pow_le_pow_right (by decide) (by decide))
section
variable {P : Program} {w : World} {K : PySem.W.Frag} {mg : Str → Option Value} {base : Heap} {C : Addr}
def spStart (K : PySem.W.Frag) : Sp := fun vs H Q _ => ∃ (a : Addr) (ns : List Int), vs = [.ref a] ∧ SqL K H a (ns.map V.int) ∧ ∀ l ls H', Same H H' → St H' l ls → H l = none → H ls = none → Q (.ref l) H'
theorem ok_start {f : Addr} {fd : FuncData} (F : Fun K "_law_start" "_law_start" sStart f fd) (N : Nms mg) : FnOk P w K mg base (L2.CX P w) 1 f fd ["_law_script"] (spStart K) := by
  have sc : FnScope ["_law_script"] ["_law_script"] (defScope sStart) := ⟨rfl, rfl, rfl, by decide +kernel, rfl, by decide +kernel, by decide +kernel⟩
  refine F.okX sc (fun vs H Q E h => ?_) (fun cdv A outer s H vs Q E hr h => ?_)
  · obtain ⟨a, ns, rfl, _⟩ := h
    rfl
  · obtain ⟨a, ns, rfl, hS, k⟩ := h
    refine ⟨_, pss_one (ps_ret (pe_lst (pa_cons (pe_callTy call_list_of (by rfl) N.list (by decide +kernel) (pa_cons (pv 0) pa_nil)) (pa_cons pe_int (pa_cons pe_int (pa_cons pe_int pa_nil)))))), ?_⟩
    refine ⟨_, rfl, a, _, rfl, .inl hS, fun ls nls => ⟨(by show 4 ≤ sizeLine; decide), fun l nl => ?_⟩⟩
    have s1 := same_upd (o := .lst (ns.map V.int)) nls
    have s2 := same_upd (o := .lst [V.ref ls, .int 0, .int 0, .int 7]) nl
    exact k l ls _ (s1.trans s2) ⟨ns, 0, 0, 7, ne_of_none upd_same nl, Int.le_refl 0, s2 _ _ upd_same, upd_same⟩ (Same.none s1 nl) nls
theorem St.put {H : Hp} {l ls : Addr} {D : Addr} {o : HO} (h : St H l ls) (hl : D ≠ l) (hs : D ≠ ls) : St (upd H D o) l ls := by
  obtain ⟨ns, a, r, sd, n, a0, h1, h2⟩ := h
  exact ⟨ns, a, r, sd, n, a0, by rw [upd_ne hs.symm]; exact h1, by rw [upd_ne hl.symm]; exact h2⟩
theorem St.l {H : Hp} {l ls : Addr} (h : St H l ls) : (H l).isSome = true ∧ (H ls).isSome = true := by
  obtain ⟨ns, a, r, sd, n, a0, h1, h2⟩ := h
  rw [h1, h2]
  exact ⟨rfl, rfl⟩
theorem St.ne {H : Hp} {l ls D : Addr} (h : St H l ls) (n : H D = none) : D ≠ l ∧ D ≠ ls := by
  obtain ⟨h1, h2⟩ := h.l
  exact ⟨fun z => (by rw [z] at n; rw [n] at h1; cases h1), fun z => (by rw [z] at n; rw [n] at h2; cases h2)⟩
theorem sameX_none {l x : Addr} {H G : Hp} (s : SameX l H G) (n : x ≠ l) (h : G x = none) : H x = none := by
  cases e : H x with
  | none => rfl
  | some o =>
    rw [s x o n e] at h
    cases h
def spNames : Sp := fun vs H Q _ => ∃ (l ls : Addr) (c : Str) (m : Int), vs = [.ref l, .int m, .str c] ∧ 0 ≤ m ∧ m ≤ 6 ∧ c.length ≤ 10 ∧ St H l ls ∧
  ∀ (q : Addr) (xs : List Str) (H' : Hp), SameX l H H' → St H' l ls → H q = none → H' q = some (.lst (xs.map V.str)) → xs.length = m.toNat → xs.Nodup → (∀ x ∈ xs, ∃ y, x = c ++ y) → Q (.ref q) H'
theorem ok_names {f : Addr} {fd : FuncData} (F : Fun K "_law_names" "_law_names" sNames f fd) (T : Txt K mg C) (N : Nms mg) (GD : Glb P w K mg base "_law_draw" 1 ["_law_state", "_law_many"] spDraw) : FnOk P w K mg base (L2.CX P w) 2 f fd ["_law_state", "_law_many", "_law_letter"] spNames := by
  obtain ⟨fD, fdD, mD, kD, GD, bD⟩ := GD.ex
  have sc : FnScope ["_law_state", "_law_many", "_law_letter", "_law_k"] ["_law_state", "_law_many", "_law_letter"] (defScope sNames) := ⟨rfl, rfl, rfl, by decide +kernel, rfl, by decide +kernel, by decide +kernel⟩
  refine F.okX sc (fun vs H Q E h => ?_) (fun cdv A outer s H vs Q E hr h => ?_)
  · obtain ⟨l, ls, c, m, rfl, _⟩ := h
    rfl
  · obtain ⟨l, ls, c, m, rfl, m0, m5, cl, st, k⟩ := h
    refine ⟨_, pss_one (ps_ret (pe_lc (own := [("_law_k", 3)]) (g := gName 3) (tt := tYes) rfl sc.nd (pi_range1 rfl N.range (pa_cons (pv 1) pa_nil)) (blkOk_by (N := ["_law_state", "_law_many", "_law_letter", "_law_k"]) (sc := defScope sNames) (by decide +kernel)) (fun _ _ _ _ _ => pg_name (i := 3) sc.nd rfl (Or.inl rfl)) (fun _ _ _ _ _ => pts_nil)
      (fun _ _ _ _ _ => pe_op op_add_str (pv 2) (pe_callTy call_str_int (by rfl) T.str (by decide +kernel) (pa_cons (pe_op op_add (pe_op op_mul pe_int (pv 3)) (pe_call GD hr (by rfl) mD kD bD .nil passL (pa_cons (pv 0) (pa_cons pe_int pa_nil)))) pa_nil))))), ?_⟩
    obtain ⟨M, rfl⟩ : ∃ M : Nat, m = M := ⟨m.toNat, by omega⟩
    have M5 : M ≤ 6 := by omega
    refine ⟨_, rfl, M, rfl, by omega, by omega, fun D nD => ?_⟩
    obtain ⟨Dl, Ds⟩ := st.ne nD
    refine lc_range (lo := 0) (n := M) (fun j G => SameX l H G ∧ St G l ls ∧ ∃ ds : Nat → Int, (∀ i, i < j → 0 ≤ ds i ∧ ds i < 7) ∧ G D = some (.lst (((List.range j).map (nm c ds)).map V.str)) ∧ j ≤ M)
      ⟨(SameX.refl l H).put nD, st.put Dl Ds, fun _ => 0, fun i h => absurd h (Nat.not_lt_zero i), upd_same, Nat.zero_le _⟩ (fun j G hj ⟨sx, st1, ds, hd, hD, _⟩ => ⟨rfl, yes_go ?_⟩) (fun G ⟨sx, st1, ds, hd, hD, _⟩ => ?_)
    · have hj0 : (0 : Int) + (j : Int) = j := Int.zero_add _
      refine iteT ⟨_, rfl, _, rfl, _, _, rfl, rfl, .inr (by omega), _, rfl, l, ls, 7, rfl, by decide, sm9 (by decide), st1, fun d H2 d0 d7 sx2 st2 => ⟨_, _, rfl, rfl, ?_⟩⟩
      rw [hj0]
      obtain ⟨a, ha⟩ := dg_lt (i := 7 * (j : Int) + d) (by omega) (by omega)
      have la := dg_len a
      rw [← ha] at la
      have e1 : ∀ i, i < j → (fun i => if i = j then d else ds i) i = ds i := fun i h => if_neg (Nat.ne_of_lt h)
      refine ⟨_, rfl, ?_, _, _, rfl, rfl, Nat.le_trans (Nat.add_le_add cl la) (by decide), _, sx2 _ _ Dl hD, ?_, sx_put (sx.trans sx2) nD, st2.put Dl Ds, fun i => if i = j then d else ds i, fun i h => ?_, ?_, hj⟩
      · rw [ha]
        exact dg_log a
      · rw [List.length_map, List.length_map, List.length_range]
        exact Nat.lt_of_lt_of_le hj (Nat.le_trans M5 (by decide))
      · by_cases h2 : i = j
        · show 0 ≤ (if i = j then d else ds i) ∧ (if i = j then d else ds i) < 7
          rw [if_pos h2]
          exact ⟨d0, d7⟩
        · show 0 ≤ (if i = j then d else ds i) ∧ (if i = j then d else ds i) < 7
          rw [if_neg h2]
          exact hd i (by omega)
      · rw [upd_same, List.range_succ, List.map_append, List.map_append]
        have e2 : (List.range j).map (nm c fun i => if i = j then d else ds i) = (List.range j).map (nm c ds) := List.map_congr_left fun i hi => by
          show c ++ dg (7 * (i : Int) + (if i = j then d else ds i)) = c ++ dg (7 * (i : Int) + ds i)
          rw [if_neg (Nat.ne_of_lt (List.mem_range.mp hi))]
        rw [e2]
        show some (HO.lst (_ ++ [V.str (c ++ dg (7 * (j : Int) + d))])) = some (HO.lst (_ ++ [V.str (c ++ dg (7 * (j : Int) + (if j = j then d else ds j)))]))
        rw [if_pos rfl]
    · refine k D ((List.range M).map (nm c ds)) G sx st1 nD hD (by rw [List.length_map, List.length_range]; omega) ?_ (fun x hx => by
        obtain ⟨j, _, rfl⟩ := List.mem_map.mp hx
        exact ⟨_, rfl⟩)
      refine List.Pairwise.map _ (fun a b h => h) (List.Pairwise.imp_of_mem (fun {a b} ha hb ne z => ?_) (List.nodup_range (n := M)))
      have ha := List.mem_range.mp ha
      have hb := List.mem_range.mp hb
      exact ne (nm_inj (by omega) (by omega) (hd a ha).1 (hd a ha).2 (hd b hb).1 (hd b hb).2 z)
end
end R6
end

-- S8i
section
set_option Elab.async false
set_option linter.all false
set_option maxRecDepth 100000
set_option exponentiation.threshold 10000
namespace R6
open PySem L2 OwnOps OwnNe SortStr EqDict SetStr DictList StX G1
abbrev sMap : Stmt := top 14
abbrev sThen : Stmt := top 15
abbrev sBack : Stmt := top 16
theorem passOwn {X : Cx} {K : Value → Shared → Prop} {E₁ : Value → Shared → Prop} (hx : X.xe = fun e s' => wpAny (model X.prog X.w) X.A (leaving X.env e) (fun _ s'' => K e s'') E₁ s' := by rfl) : PassesOwn (model X.prog X.w) X.A X.env X.xe := passes_of hx
theorem St.txt {H : Hp} {l ls a : Addr} {xs : List Str} (h : St H l ls) (e : H a = some (.lst (xs.map V.str))) : a ≠ l := fun z => by
  obtain ⟨ns, x, r, sd, n, a0, h1, h2⟩ := h
  rw [z, h2] at e
  cases xs <;> cases e
theorem perm_ins {zs ys : List Str} {y : Str} {n : Nat} (p : zs.Perm ys) : (zs.take n ++ [y] ++ zs.drop n).Perm (ys ++ [y]) := by
  rw [List.append_assoc]
  refine (List.perm_middle (l₁ := zs.take n) (a := y) (l₂ := zs.drop n)).trans ?_
  rw [List.take_append_drop]
  exact (List.Perm.cons y p).trans (List.perm_append_singleton y ys).symm
theorem not_before {xs : List Str} (h : xs.Nodup) {j : Nat} {t : Str} (e : xs[j]? = some t) : t ∉ xs.take j := fun z => by
  obtain ⟨i, hi, ei⟩ := List.getElem_of_mem z
  rw [List.length_take] at hi
  rw [List.getElem_take] at ei
  obtain ⟨hj, ej⟩ := List.getElem?_eq_some_iff.mp e
  have := (List.getElem_inj h).mp (ei.trans ej.symm)
  omega
theorem atS {xs : List Str} {j : Nat} {t : Str} (h : xs[j]? = some t) : atI (xs.map V.str) ((j : Nat) : Int) = some (.str t) := at_of (j := j) rfl (by rw [List.getElem?_map, h] <;> rfl)
section
variable {P : Program} {w : World} {K : PySem.W.Frag} {mg : Str → Option Value} {base : Heap} {C : Addr}
def spMap : Sp := fun vs H Q _ => ∃ (l ls a b : Addr) (xs ys : List Str), vs = [.ref l, .ref a, .ref b] ∧ H a = some (.lst (xs.map V.str)) ∧ H b = some (.lst (ys.map V.str)) ∧ xs.length = ys.length ∧ ys.length ≤ 6 ∧ xs.Nodup ∧ ys.Nodup ∧ St H l ls ∧
  ∀ (d : Addr) (m : Mp) (H' : Hp), SameX l H H' → St H' l ls → H d = none → H' d = some (.dK (dS m)) → ks m = xs → (R6.vs m).Perm ys → One m → Q (.ref d) H'
abbrev NM : List Str := ["_law_state", "_law_names_here", "_law_targets", "_law_order", "_law_k", "_law_found", "_law_name"]
theorem ok_map {f : Addr} {fd : FuncData} (F : Fun K "_law_map" "_law_map" sMap f fd) (T : Txt K mg C) (N : Nms mg) (GD : Glb P w K mg base "_law_draw" 1 ["_law_state", "_law_many"] spDraw) : FnOk P w K mg base (L2.CX P w) 2 f fd ["_law_state", "_law_names_here", "_law_targets"] spMap := by
  obtain ⟨fD, fdD, mD, kD, GD, bD⟩ := GD.ex
  have sc : FnScope NM ["_law_state", "_law_names_here", "_law_targets"] (defScope sMap) := ⟨rfl, rfl, rfl, by decide +kernel, rfl, by decide +kernel, by decide +kernel⟩
  refine F.okX sc (fun vs H Q E h => ?_) (fun cdv A outer s H vs Q E hr h => ?_)
  · obtain ⟨l, ls, a, b, xs, ys, rfl, _⟩ := h
    rfl
  · obtain ⟨l, ls, a, b, xs, ys, rfl, ha, hb, len, l5, xn, yn, st, k⟩ := h
    have hu := hu_of hr
    refine ⟨_, pss_cons (ps_set (i := 3) sc.nd rfl (Or.inl rfl) (pe_lst pa_nil))
      (pss_cons (ps_for passOwn rfl (pi_range1 rfl N.range (pa_cons (pe_callB call_len_seq (by rfl) N.len PySem.boot_len (pa_cons (pv 1) pa_nil)) pa_nil)) (pg_name (i := 4) sc.nd rfl (Or.inl rfl))
        (pss_one (ps_expr (pe_bm PySem.F.plainAttrs_list PySem.F.slot_list_insert PySem.F.type_list_insert mt_insert (pv 3) (pa_cons (pe_call GD hr (by rfl) mD kD bD .nil passL (pa_cons (pv 0) (pa_cons (pe_op op_add (pv 4) pe_int) pa_nil))) (pa_cons (pe_ix ix_list (pv 2) (pv 4) (fun _ _ => rfl)) pa_nil))))))
      (pss_cons (ps_set (i := 5) sc.nd rfl (Or.inl rfl) pe_dnewK)
      (pss_cons (ps_for passOwn rfl (pi_enum (by rfl) T.enum (pa_cons (pv 1) pa_nil)) (pg_two (i := 4) (j := 6) rfl sc.nd rfl (Or.inl rfl) rfl (Or.inl rfl)) (pss_one (ps_dput hu (pv 5) (pv 6) (pe_ix ix_list (pv 3) (pv 4) (fun _ _ => rfl)) rfl)))
      (pss_one (ps_ret (pv 5)))))), ?_⟩
    have al := st.txt ha
    have bl := st.txt hb
    refine ⟨by show 0 ≤ sizeLine; decide, fun o no => ?_⟩
    obtain ⟨ol, os⟩ := st.ne no
    have L : ((xs.map V.str).length : Int) = (ys.length : Nat) := by rw [List.length_map, len]
    refine ⟨_, rfl, a, _, rfl, .inl (SqL.of (same_upd no _ _ ha)), ?_⟩
    rw [L]
    refine ⟨_, rfl, by omega, by omega, for_range (fun j σ G => (∃ v4, σ = [some (.ref l), some (.ref a), some (.ref b), some (.ref o), v4, none, none]) ∧ SameX l H G ∧ St G l ls ∧ j ≤ ys.length ∧ ∃ zs : List Str, G o = some (.lst (zs.map V.str)) ∧ zs.Perm (ys.take j))
      ⟨⟨_, rfl⟩, sx_put (SameX.refl l H) no, st.put ol os, Nat.zero_le _, [], upd_same, List.Perm.refl _⟩ (fun j σ G hj ⟨⟨v4, e⟩, sx, st1, _, zs, hz, pz⟩ => ?_) (fun σ G ⟨⟨v4, e⟩, sx, st1, _, zs, hz, pz⟩ => ?_)⟩
    · subst e
      have y : ys[j]? = some ys[j] := List.getElem?_eq_getElem hj
      refine ⟨_, rfl, .inl ⟨rfl, _, SqL.of hz⟩, _, rfl, _, rfl, _, _, rfl, rfl, l, ls, _, rfl, by omega, sm9 (by omega), st1, fun d H2 d0 d1 sx2 st2 => ?_⟩
      have sx3 := sx.trans sx2
      refine ⟨_, rfl, _, rfl, b, _, _, _, rfl, rfl, SqL.of (sx3 _ _ bl hb), by rw [Int.zero_add]; exact atS y, ?_⟩
      have pl : zs.length = j := by
        have := pz.length_eq
        rw [List.length_take] at this
        omega
      refine ⟨o, _, d, _, rfl, rfl, sx2 _ _ ol hz, by rw [List.length_map, pl]; exact Nat.lt_of_lt_of_le hj (Nat.le_trans l5 (by decide)), d0, by omega, ⟨_, rfl⟩, sx_put sx3 no, st2.put ol os, hj, zs.take d.toNat ++ [ys[j]] ++ zs.drop d.toNat, ?_, ?_⟩
      · rw [upd_same, List.map_append, List.map_append, List.map_take, List.map_drop]
        rfl
      · rw [List.take_succ, y]
        exact perm_ins pz
    · subst e
      rw [Int.toNat_natCast, List.take_length] at pz
      have zl : xs.length = zs.length := len.trans pz.length_eq.symm
      have kz : ks (xs.zip zs) = xs := List.map_fst_zip (Nat.le_of_eq zl)
      have vz : R6.vs (xs.zip zs) = zs := List.map_snd_zip (Nat.le_of_eq zl.symm)
      have zlen : (xs.zip zs).length = xs.length := by rw [List.length_zip]; omega
      intro d nd
      obtain ⟨dl, dls⟩ := st1.ne nd
      have nd0 : H d = none := sameX_none sx dl nd
      have od : o ≠ d := fun z => by rw [z, nd] at hz; cases hz
      have ad : a ≠ d := fun z => by rw [← z, ha] at nd0; cases nd0
      refine ⟨_, rfl, a, _, rfl, SqL.of ((sx_put sx nd0) _ _ al ha), for_it walk_enum (fun j σ G => (∃ v4 v6, σ = [some (.ref l), some (.ref a), some (.ref b), some (.ref o), v4, some (.ref d), v6]) ∧ SameX l H G ∧ St G l ls ∧ G o = some (.lst (zs.map V.str)) ∧ G d = some (.dK (dS ((xs.zip zs).take j))))
        ⟨⟨_, _, rfl⟩, sx_put sx nd0, st1.put dl dls, by rw [upd_ne od]; exact hz, upd_same⟩ (fun j σ G _ ⟨_, sx2, _⟩ => SqL.of (sx2 _ _ al ha)) (fun j x σ G G' hj ⟨⟨v4, v6, e⟩, sx2, st2, ho, hd⟩ ⟨U, u, v, e1, nU, e2, hu', hv'⟩ => ?_) (fun σ G ⟨⟨v4, v6, e⟩, sx2, st2, ho, hd⟩ => ?_)⟩
      · subst e e1 e2
        cases hu'
        obtain ⟨t, ht, rfl⟩ := map_at hv'
        have hj2 : j < xs.length := (List.getElem?_eq_some_iff.mp ht).1
        have hz2 : zs[j]? = some (zs[j]'(by omega)) := List.getElem?_eq_getElem (by omega)
        obtain ⟨Ul, Us⟩ := st2.ne nU
        have sm := same_upd (o := .tup [V.int (j : Nat), .str t]) nU
        have no2 : t ∉ ks ((xs.zip zs).take j) := by
          unfold ks
          rw [List.map_take, show (xs.zip zs).map (·.1) = xs from kz]
          exact not_before xn ht
        refine ⟨U, _, rfl, SqT.of upd_same, rfl, _, _, rfl, _, _, rfl, rfl, _, rfl, _, rfl, o, _, _, _, rfl, rfl, SqL.of (sm _ _ ho), atS hz2, _, rfl, _, rfl, d, _, rfl, .inl ⟨_, Sum.inr t, sm _ _ hd, rfl, ?_, rfl⟩, ⟨_, _, rfl⟩, sx_put (sx2.trans (SameX.of sm)) nd0, (st2.put Ul Us).put dl dls, ?_, ?_⟩
        · rw [dS_len, List.length_take]
          exact Nat.lt_of_le_of_lt (Nat.min_le_left _ _) (Nat.lt_of_lt_of_le hj2 (by rw [len]; exact Nat.le_trans l5 (by decide)))
        · rw [upd_ne od]
          exact sm _ _ ho
        · rw [upd_same, dS_put no2, List.take_succ, show (xs.zip zs)[j]? = some (t, zs[j]'(by omega)) from by
            rw [List.getElem?_zip_eq_some]
            exact ⟨ht, hz2⟩]
          rfl
      · subst e
        rw [List.length_map, ← zlen, List.take_length] at hd
        exact ⟨_, rfl, k d (xs.zip zs) G sx2 st2 nd0 hd kz (by rw [vz]; exact pz) ⟨by rw [kz]; exact xn, by rw [vz]; exact pz.nodup_iff.mpr yn, by omega⟩⟩
end
end R6
end

-- S8j
section
set_option Elab.async false
set_option linter.all false
set_option maxRecDepth 100000
set_option exponentiation.threshold 10000
namespace R6
open PySem L2 OwnOps OwnNe SortStr EqDict SetStr DictList StX G1
/-- the turns of a loop over a dict's keys that fills the dict at d -/
def Fill (B : Hp) (d : Addr) (φ : Str × Str → Str × Str) (m : Mp) (j : Nat) (G : Hp) : Prop := SameX d B G ∧ G d = some (.dK (dS ((m.take j).map φ)))
theorem Fill.next {B G : Hp} {d : Addr} {φ : Str × Str → Str × Str} {m : Mp} {j : Nat} {r : Str × Str} (f : Fill B d φ m j G) (nd : (ks (m.map φ)).Nodup) (hr : m[j]? = some r) : Fill B d φ m (j + 1) (upd G d (.dK (putK (dS ((m.take j).map φ)) (Sum.inr (φ r).1) (.str (φ r).2)))) := by
  have e3 : (m.take (j + 1)).map φ = (m.take j).map φ ++ [φ r] := by
    rw [List.take_succ, hr, List.map_append]
    rfl
  have nd2 : (ks ((m.take (j + 1)).map φ)).Nodup := List.Nodup.sublist (((List.take_sublist _ _).map φ).map _) nd
  refine ⟨f.1.trans SameX.upd, ?_⟩
  rw [e3] at nd2 ⊢
  have no : (φ r).1 ∉ ks ((m.take j).map φ) := by
    unfold ks at nd2
    rw [List.map_append] at nd2
    intro z
    exact (List.nodup_append.mp nd2).2.2 _ z _ (List.mem_singleton.mpr rfl) rfl
  rw [upd_same, dS_put no]
theorem key_at {m : Mp} {j : Nat} {k : Key} {v : V} (h : (dS m)[j]? = some (k, v)) : ∃ r, m[j]? = some r ∧ k = Sum.inr r.1 ∧ v = .str r.2 := by
  unfold dS at h
  rw [List.getElem?_map] at h
  cases e : m[j]? with
  | none => rw [e] at h; cases h
  | some r =>
    rw [e] at h
    cases h
    exact ⟨r, rfl, rfl, rfl⟩
theorem get_own {H : Hp} {d : Addr} {m : Mp} {r : Str × Str} (o : One m) (hr : r ∈ m) (h : Rd H d (.dK (dS m))) : DGet H d (.str r.1) (some (.str r.2)) := by
  refine .inl ⟨dS m, Sum.inr r.1, h, rfl, ?_⟩
  rw [dS_at, at_mem o.kn hr]
  rfl
theorem rd_sameX {H H' : Hp} {a d : Addr} {u : HO} (r : Rd H a u) (s : SameX d H H') (n : a ≠ d) : Rd H' a u := r.elim (fun h => .inl (s _ _ n h)) fun ⟨o, h⟩ => .inr ⟨o, s _ _ n h⟩
theorem rd_ne {H : Hp} {a d : Addr} {u : HO} (r : Rd H a u) (h : H d = none) : a ≠ d := fun z => by
  subst z
  rcases r with r | ⟨o, r⟩ <;> (rw [h] at r; cases r)
/-- behind the lock -/
theorem fill_done {H G : Hp} {a d : Addr} {od : Obj} {m : Mp} {k : Mp} (ha : H a = some (.dK (dS m))) (nd : H d = none) (s : SameX d (upd (upd H d (.dK [])) a (.frz od (.dK (dS m)))) G) (hd : G d = some (.dK (dS k))) :
    G a = some (.frz od (.dK (dS m))) ∧ Same H (upd G a (.dK (dS m))) ∧ (upd G a (.dK (dS m))) d = some (.dK (dS k)) := by
  have ad : a ≠ d := ne_of_none ha nd
  refine ⟨s _ _ ad upd_same, fun b o e => ?_, by rw [upd_ne ad.symm]; exact hd⟩
  by_cases h : b = a
  · subst h
    rw [ha] at e
    cases e
    exact upd_same
  · rw [upd_ne h]
    have bd : b ≠ d := ne_of_none e nd
    exact s b o bd (by rw [upd_ne h, upd_ne bd]; exact e)
theorem mf_no {dn di lp : Addr} {b : Bool} {m : Str} (h1 : ¬ ("_net_map" : Str) = m) (h2 : ¬ ("_id_map" : Str) = m) (h3 : ¬ ("_pairs" : Str) = m) (h4 : ¬ ("is_identity" : Str) = m) : (mf dn di lp b).lookup m = none :=
  (lk_cons h1).trans ((lk_cons h2).trans ((lk_cons h3).trans ((lk_cons h4).trans rfl)))
theorem dEq_refl {m : Mp} (o : One m) : dEq (dS m) (dS m) = true := by
  unfold dEq
  rw [beq_self_eq_true, Bool.true_and, List.all_eq_true]
  intro p hp
  obtain ⟨r, hr, rfl⟩ := List.mem_map.mp hp
  unfold at1
  dsimp only
  rw [dS_at, at_mem o.kn hr]
  show (r.2 == r.2) = true
  exact beq_self_eq_true _
end R6
end

-- P7m
section
set_option Elab.async false
set_option linter.all false
set_option maxRecDepth 100000
/-! powers of a one-to-one map of names onto themselves. -/
namespace R6
open PySem L2 SortStr EqDict
def stp (m : Mp) (x : Str) : Str := (at_ m x).getD Str.empty
def itr (m : Mp) : Nat → Str → Str
  | 0, x => x
  | n + 1, x => stp m (itr m n x)
structure Pm (m : Mp) : Prop where
  one : One m
  fol : Fol m m
theorem itr_add (m : Mp) (a : Nat) (x : Str) : ∀ b, itr m (b + a) x = itr m b (itr m a x)
  | 0 => by rw [Nat.zero_add]; rfl
  | b + 1 => by rw [Nat.succ_add]; exact congrArg (stp m) (itr_add m a x b)
theorem stp_mem {m : Mp} (p : Pm m) {x : Str} (h : x ∈ ks m) : stp m x ∈ ks m := by
  obtain ⟨v, hv, hm⟩ := at_key h
  unfold stp
  rw [hv]
  exact p.fol.mem_iff.mp (List.mem_map.mpr ⟨_, hm, rfl⟩)
theorem stp_get {m : Mp} {x : Str} (h : x ∈ ks m) : at_ m x = some (stp m x) := by
  obtain ⟨v, hv, _⟩ := at_key h
  unfold stp
  rw [hv]
  rfl
theorem itr_mem {m : Mp} (p : Pm m) {x : Str} (h : x ∈ ks m) : ∀ n, itr m n x ∈ ks m
  | 0 => h
  | n + 1 => stp_mem p (itr_mem p h n)
theorem itr_inj {m : Mp} (p : Pm m) {x y : Str} (hx : x ∈ ks m) (hy : y ∈ ks m) : ∀ n, itr m n x = itr m n y → x = y
  | 0, e => e
  | n + 1, e => itr_inj p hx hy n (at_inj p.one (itr_mem p hx n) (itr_mem p hy n) e)
theorem sub_len : ∀ (xs ys : List Str), xs.Nodup → (∀ x ∈ xs, x ∈ ys) → xs.length ≤ ys.length
  | [], _, _, _ => Nat.zero_le _
  | x :: r, ys, n, h => by
    obtain ⟨n1, n2⟩ := List.nodup_cons.mp n
    have hx := h x List.mem_cons_self
    have := sub_len r (ys.erase x) n2 fun y hy => (List.mem_erase_of_ne (fun e => n1 (by rw [← e]; exact hy))).mpr (h y (List.mem_cons_of_mem _ hy))
    rw [List.length_erase_of_mem hx] at this
    have : 0 < ys.length := List.length_pos_of_mem hx
    rw [List.length_cons]
    omega
theorem sub_perm : ∀ (xs ys : List Str), xs.Nodup → (∀ x ∈ xs, x ∈ ys) → ys.length ≤ xs.length → xs.Perm ys
  | [], ys, _, _, l => by
    cases ys with
    | nil => exact .nil
    | cons y r => exact absurd l (by simp)
  | x :: r, ys, n, h, l => by
    obtain ⟨n1, n2⟩ := List.nodup_cons.mp n
    have hx := h x List.mem_cons_self
    have := sub_perm r (ys.erase x) n2 (fun y hy => (List.mem_erase_of_ne (fun e => n1 (by rw [← e]; exact hy))).mpr (h y (List.mem_cons_of_mem _ hy))) (by
      rw [List.length_erase_of_mem hx]
      rw [List.length_cons] at l
      omega)
    exact (List.Perm.cons x this).trans (List.perm_cons_erase hx).symm
/-- the first j names of x's ring -/
def ring (m : Mp) (x : Str) (j : Nat) : List Str := (List.range j).map fun i => itr m i x
theorem ring_succ (m : Mp) (x : Str) (j : Nat) : ring m x (j + 1) = ring m x j ++ [itr m j x] := by
  unfold ring
  rw [List.range_succ, List.map_append]
  rfl
theorem ring_len (m : Mp) (x : Str) (j : Nat) : (ring m x j).length = j := by
  unfold ring
  rw [List.length_map, List.length_range]
theorem ring_get {m : Mp} {x : Str} {j i : Nat} (h : i < j) : (ring m x j)[i]? = some (itr m i x) := by
  unfold ring
  rw [List.getElem?_map, List.getElem?_range h]
  rfl
/-- the ring isn't closed ahead of j -/
def Apart (m : Mp) (x : Str) (j : Nat) : Prop := ∀ i, 0 < i → i < j → itr m i x ≠ x
theorem ring_nodup {m : Mp} (p : Pm m) {x : Str} (h : x ∈ ks m) {j : Nat} (a : Apart m x j) : (ring m x j).Nodup := by
  refine List.Pairwise.map _ (fun a b h => h) (List.Pairwise.imp_of_mem (fun {u v} hu hv ne z => ?_) (List.pairwise_lt_range (n := j)))
  have hv := List.mem_range.mp hv
  refine a (v - u) (by omega) (by omega) ?_
  have e : itr m v x = itr m u (itr m (v - u) x) := by rw [← itr_add]; congr 1; omega
  rw [e] at z
  exact (itr_inj p h (itr_mem p h _) u z).symm
theorem ring_mem {m : Mp} (p : Pm m) {x : Str} (h : x ∈ ks m) {j : Nat} : ∀ y ∈ ring m x j, y ∈ ks m := fun y hy => by
  obtain ⟨i, _, rfl⟩ := List.mem_map.mp hy
  exact itr_mem p h i
theorem ring_le {m : Mp} (p : Pm m) {x : Str} (h : x ∈ ks m) {j : Nat} (a : Apart m x j) : j ≤ m.length := by
  have := sub_len _ _ (ring_nodup p h a) (ring_mem p h)
  rw [ring_len, List.length_map] at this
  exact this
theorem period {m : Mp} (p : Pm m) {x : Str} (h : x ∈ ks m) : ∃ n, 0 < n ∧ itr m n x = x := by
  refine Classical.byContradiction fun c => ?_
  have := ring_le p h (j := m.length + 1) fun i hi _ e => c ⟨i, hi, e⟩
  omega
theorem itr_mul {m : Mp} {x : Str} {n : Nat} (e : itr m n x = x) : ∀ c, itr m (n * c) x = x
  | 0 => rfl
  | c + 1 => by rw [Nat.mul_succ, itr_add, e]; exact itr_mul e c
theorem itr_mod {m : Mp} {x : Str} {n : Nat} (e : itr m n x = x) (a : Nat) : itr m (a % n) x = itr m a x := by
  have := Nat.mod_add_div a n
  rw [← this, itr_add, itr_mul e, Nat.add_mul_mod_self_left, Nat.mod_mod]
/-- N leads each name back to itself -/
structure Per (m : Mp) (N : Nat) : Prop where
  pos : 0 < N
  back : ∀ x ∈ ks m, itr m N x = x
theorem per_some {m : Mp} (p : Pm m) : ∃ N, Per m N := by
  have : ∀ l : List Str, (∀ x ∈ l, x ∈ ks m) → ∃ N, 0 < N ∧ ∀ x ∈ l, itr m N x = x := fun l => by
    induction l with
    | nil => exact fun _ => ⟨1, by decide, fun _ h => (nomatch h)⟩
    | cons x r ih =>
      intro h
      obtain ⟨N, n0, hN⟩ := ih fun y hy => h y (List.mem_cons_of_mem _ hy)
      obtain ⟨n, p0, hn⟩ := period p (h x List.mem_cons_self)
      refine ⟨n * N, Nat.mul_pos p0 n0, fun y hy => ?_⟩
      rcases List.mem_cons.mp hy with rfl | hy
      · exact itr_mul hn N
      · rw [Nat.mul_comm]
        exact itr_mul (hN y hy) n
  obtain ⟨N, n0, hN⟩ := this (ks m) fun _ h => h
  exact ⟨N, n0, hN⟩
/-- as far along as k steps lead -/
def far (m : Mp) (N : Nat) (k : Int) (x : Str) : Str := itr m (k % (N : Int)).toNat x
theorem far_any {m : Mp} {N n : Nat} {x : Str} (n0 : 0 < n) (N0 : 0 < N) (e : itr m n x = x) (e2 : itr m N x = x) (k : Int) : itr m (k % (n : Int)).toNat x = far m N k x := by
  have key : ∀ {n M : Nat}, 0 < n → 0 < M → n ∣ M → itr m n x = x → itr m (k % (n : Int)).toNat x = itr m (k % (M : Int)).toNat x := fun {n M} n0 M0 d e => by
    rw [← itr_mod e (k % (M : Int)).toNat]
    congr 1
    have h0 : 0 ≤ k % (M : Int) := Int.emod_nonneg _ (by omega)
    have h1 : k % (M : Int) % (n : Int) = k % (n : Int) := Int.emod_emod_of_dvd _ (Int.natCast_dvd_natCast.mpr d)
    obtain ⟨c, hc⟩ := Int.eq_ofNat_of_zero_le h0
    rw [hc] at h1 ⊢
    rw [← h1]
    rfl
  unfold far
  rw [key n0 (Nat.mul_pos n0 N0) (Nat.dvd_mul_right n N) e, key N0 (Nat.mul_pos n0 N0) (Nat.dvd_mul_left N n) e2]
theorem far_nat {m : Mp} {N : Nat} (P : Per m N) {x : Str} (h : x ∈ ks m) (a : Nat) : far m N (a : Int) x = itr m a x := by
  unfold far
  rw [← itr_mod (P.back x h) a]
  rfl
theorem far_mem {m : Mp} (p : Pm m) {N : Nat} {x : Str} (h : x ∈ ks m) (k : Int) : far m N k x ∈ ks m := itr_mem p h _
theorem far_add {m : Mp} {N : Nat} (P : Per m N) {x : Str} (h : x ∈ ks m) (a b : Int) : far m N a (far m N b x) = far m N (a + b) x := by
  have n0 : (N : Int) ≠ 0 := by have := P.pos; omega
  obtain ⟨u, hu⟩ := Int.eq_ofNat_of_zero_le (Int.emod_nonneg a n0)
  obtain ⟨v, hv⟩ := Int.eq_ofNat_of_zero_le (Int.emod_nonneg b n0)
  unfold far
  rw [Int.add_emod, hu, hv]
  show itr m u (itr m v x) = itr m ((u + v) % N) x
  rw [itr_mod (P.back x h), itr_add]
theorem far_inj {m : Mp} (p : Pm m) {N : Nat} {x y : Str} (hx : x ∈ ks m) (hy : y ∈ ks m) (k : Int) (e : far m N k x = far m N k y) : x = y := itr_inj p hx hy _ e
/-- the power, its names in the order ys -/
def fm (m : Mp) (N : Nat) (k : Int) (ys : List Str) : Mp := ys.map fun y => (y, far m N k y)
theorem ks_fm (m : Mp) (N : Nat) (k : Int) (ys : List Str) : ks (fm m N k ys) = ys := by
  unfold fm ks
  rw [List.map_map]
  exact (List.map_congr_left fun _ _ => rfl).trans (List.map_id ys)
theorem vs_fm (m : Mp) (N : Nat) (k : Int) (ys : List Str) : vs (fm m N k ys) = ys.map (far m N k) := by
  unfold fm vs
  rw [List.map_map]
  rfl
theorem far_nodup {m : Mp} (p : Pm m) {N : Nat} {ys : List Str} (n : ys.Nodup) (s : ∀ y ∈ ys, y ∈ ks m) (k : Int) : (ys.map (far m N k)).Nodup :=
  List.Pairwise.map _ (fun a b h => h) (List.Pairwise.imp_of_mem (fun {u v} hu hv ne z => ne (far_inj p (s u hu) (s v hv) k z)) n)
theorem far_perm {m : Mp} (p : Pm m) {N : Nat} {ys : List Str} (h : ys.Perm (ks m)) (k : Int) : (ys.map (far m N k)).Perm (ks m) :=
  sub_perm _ _ (far_nodup p (h.nodup_iff.mpr p.one.kn) (fun y hy => h.mem_iff.mp hy) k) (fun x hx => by
    obtain ⟨y, hy, rfl⟩ := List.mem_map.mp hx
    exact far_mem p (h.mem_iff.mp hy) k) (Nat.le_of_eq (h.length_eq.symm.trans (List.length_map _).symm))
theorem fm_one {m : Mp} (p : Pm m) {N : Nat} {ys : List Str} (h : ys.Perm (ks m)) (k : Int) : One (fm m N k ys) :=
  ⟨by rw [ks_fm]; exact h.nodup_iff.mpr p.one.kn, by rw [vs_fm]; exact (far_perm p h k).nodup_iff.mpr p.one.kn, by
    show (ys.map _).length ≤ 1000
    rw [List.length_map, h.length_eq, List.length_map]
    exact p.one.few⟩
theorem fm_at {m : Mp} {N : Nat} {k : Int} {ys : List Str} (n : ys.Nodup) {y : Str} (hy : y ∈ ys) : at_ (fm m N k ys) y = some (far m N k y) :=
  at_mem (m := fm m N k ys) (by rw [ks_fm]; exact n) (p := (y, far m N k y)) (List.mem_map.mpr ⟨y, hy, rfl⟩)
theorem fm_fol {m : Mp} (p : Pm m) {N : Nat} {ys : List Str} (h : ys.Perm (ks m)) (k : Int) : Fol (fm m N k ys) m := by
  unfold Fol
  rw [vs_fm]
  exact far_perm p h k
theorem fm_thn {m : Mp} (p : Pm m) {N : Nat} (P : Per m N) {ys : List Str} (h : ys.Perm (ks m)) (k : Int) : thn (fm m N k ys) m = fm m N (k + 1) ys := by
  unfold thn fm
  rw [List.map_map]
  refine List.map_congr_left fun y hy => ?_
  have hy := h.mem_iff.mp hy
  show (y, stp m (far m N k y)) = (y, far m N (k + 1) y)
  rw [Int.add_comm, ← far_add P hy 1 k]
  exact congrArg (Prod.mk y) (far_nat P (far_mem p hy k) 1).symm
theorem fm_inv {m : Mp} {N : Nat} (P : Per m N) {ys : List Str} (h : ys.Perm (ks m)) (k : Int) : inv (fm m N k ys) = fm m N (0 - k) (ys.map (far m N k)) := by
  unfold inv fm
  rw [List.map_map, List.map_map]
  refine List.map_congr_left fun y hy => ?_
  have hy := h.mem_iff.mp hy
  show (far m N k y, y) = (far m N k y, far m N (0 - k) (far m N k y))
  rw [far_add P hy, show (0 - k + k : Int) = ((0 : Nat) : Int) by omega, far_nat P hy]
  rfl
theorem fm_id {m : Mp} {N : Nat} (P : Per m N) {ys : List Str} (h : ys.Perm (ks m)) : isId (fm m N 0 ys) = true := by
  unfold isId fm
  rw [List.all_map, List.all_eq_true]
  intro y hy
  refine decide_eq_true ?_
  exact (far_nat P (h.mem_iff.mp hy) 0).symm
theorem fm_self {m : Mp} (p : Pm m) {N : Nat} (P : Per m N) : fm m N 1 (ks m) = m := by
  unfold fm ks
  rw [List.map_map]
  refine (List.map_congr_left (g := id) fun q hq => ?_).trans (List.map_id m)
  have hk : q.1 ∈ ks m := List.mem_map.mpr ⟨q, hq, rfl⟩
  show (q.1, far m N ((1 : Nat) : Int) q.1) = q
  rw [far_nat P hk]
  show (q.1, (at_ m q.1).getD Str.empty) = q
  rw [at_mem p.one.kn hq]
  rfl
/-- the same power, whatever the orders -/
theorem fm_eq {m : Mp} {N : Nat} {k : Int} {ys zs : List Str} (n : zs.Nodup) (h : ys.Perm zs) : dEq (dS (fm m N k ys)) (dS (fm m N k zs)) = true := by
  unfold dEq
  rw [dS_len, dS_len, show (fm m N k ys).length = ys.length from List.length_map _, show (fm m N k zs).length = zs.length from List.length_map _, h.length_eq, beq_self_eq_true, Bool.true_and, List.all_eq_true]
  intro q hq
  obtain ⟨r, hr, rfl⟩ := List.mem_map.mp hq
  obtain ⟨y, hy, rfl⟩ := List.mem_map.mp hr
  unfold at1
  dsimp only
  rw [dS_at, fm_at n (h.mem_iff.mp hy)]
  show (far m N k y == far m N k y) = true
  exact beq_self_eq_true _
end R6
end

-- S8e
section
set_option Elab.async false
set_option linter.all false
set_option maxRecDepth 100000
set_option exponentiation.threshold 10000
namespace R6
open PySem L2 OwnOps OwnNe SortStr EqDict SetStr DictList StX G1
abbrev sPow : Stmt := top 9
abbrev NP : List Str := ["told", "k", "places", "first", "cycle", "index", "name"]
/-- what stands in the dict of places -/
structure Pla (m : Mp) (ys : List Str) : Prop where
  nd : ys.Nodup
  sub : ∀ y ∈ ys, y ∈ ks m
  cl : ∀ y ∈ ys, stp m y ∈ ys
theorem Pla.on {m : Mp} {ys : List Str} (p : Pla m ys) {y : Str} (h : y ∈ ys) : ∀ n, itr m n y ∈ ys
  | 0 => h
  | n + 1 => p.cl _ (Pla.on p h n)
theorem Pla.off {m : Mp} {ys : List Str} (p : Pla m ys) {x : Str} {n : Nat} (n0 : 0 < n) (e : itr m n x = x) (h : x ∉ ys) (i : Nat) : itr m i x ∉ ys := fun z => by
  have := p.on z (n * (i + 1) - i)
  rw [← itr_add, show n * (i + 1) - i + i = n * (i + 1) from Nat.sub_add_cancel (Nat.le_trans (Nat.le_succ i) (Nat.le_mul_of_pos_left _ n0)), itr_mul e] at this
  exact h this
theorem Pla.more {m : Mp} {ys : List Str} (p : Pla m ys) (pm : Pm m) {x : Str} (hx : x ∈ ks m) {n : Nat} (n0 : 0 < n) (e : itr m n x = x) (a : Apart m x n) (h : x ∉ ys) : Pla m (ys ++ ring m x n) := by
  refine ⟨List.nodup_append.mpr ⟨p.nd, ring_nodup pm hx a, fun u hu v hv z => ?_⟩, fun y hy => ?_, fun y hy => ?_⟩
  · obtain ⟨i, _, rfl⟩ := List.mem_map.mp hv
    exact p.off n0 e h i (z ▸ hu)
  · rcases List.mem_append.mp hy with h | h
    · exact p.sub y h
    · exact ring_mem pm hx y h
  · rcases List.mem_append.mp hy with h | h
    · exact List.mem_append_left _ (p.cl y h)
    · obtain ⟨i, hi, rfl⟩ := List.mem_map.mp h
      have hi := List.mem_range.mp hi
      refine List.mem_append_right _ ?_
      by_cases l : i + 1 < n
      · exact List.mem_map.mpr ⟨i + 1, List.mem_range.mpr l, rfl⟩
      · have : i + 1 = n := by omega
        exact List.mem_map.mpr ⟨0, List.mem_range.mpr n0, by show x = itr m (i + 1) x; rw [this, e]⟩
theorem ring_in {m : Mp} {x : Str} {n : Nat} (n0 : 0 < n) : x ∈ ring m x n := List.mem_map.mpr ⟨0, List.mem_range.mpr n0, rfl⟩
/-- the length of the list at c -/
def lenAt (H : Hp) (c : Addr) : Nat := match H c with
  | some (.lst xs) => xs.length
  | _ => 0
/-- the next places -/
theorem fm_snoc {m : Mp} {N : Nat} {k : Int} {zs : List Str} {y : Str} (h : y ∉ zs) : putK (dS (fm m N k zs)) (Sum.inr y) (.str (far m N k y)) = dS (fm m N k (zs ++ [y])) := by
  rw [dS_put (by rw [ks_fm]; exact h)]
  unfold fm
  rw [List.map_append]
  rfl
theorem at_ring {m : Mp} {x : Str} {n : Nat} (n0 : 0 < n) {N : Nat} (P : Per m N) (hx : x ∈ ks m) (e : itr m n x = x) (t : Nat) (k : Int) :
    atI ((ring m x n).map V.str) (((t : Int) + k).fmod (n : Int)) = some (.str (far m N k (itr m t x))) := by
  rw [Int.fmod_eq_emod_of_nonneg _ (by omega)]
  have h0 : 0 ≤ ((t : Int) + k) % (n : Int) := Int.emod_nonneg _ (by omega)
  have h1 : ((t : Int) + k) % (n : Int) < n := Int.emod_lt_of_pos _ (by omega)
  obtain ⟨c, hc⟩ := Int.eq_ofNat_of_zero_le h0
  have f := far_any n0 P.pos e (P.back x hx) ((t : Int) + k)
  rw [hc] at f h1 ⊢
  have f : itr m c x = far m N ((t : Int) + k) x := f
  have g : far m N k (itr m t x) = itr m c x := by
    rw [f, Int.add_comm, ← far_add P hx k t, far_nat P hx]
  rw [g]
  exact at_of (j := c) rfl (by rw [List.getElem?_map, ring_get (by omega)]; rfl)
section
variable {P : Program} {w : World} {K : PySem.W.Frag} {mg : Str → Option Value} {base : Heap} {C : Addr}
def spPow : Sp := fun vs H Q _ => ∃ (a : Addr) (m : Mp) (k : Int) (N : Nat), vs = [.ref a, .int k] ∧ H a = some (.dK (dS m)) ∧ Pm m ∧ Per m N ∧ ∀ d ys H', H d = none → Same H H' → H' d = some (.dK (dS (fm m N k ys))) → ys.Perm (ks m) → Q (.ref d) H'
theorem ok_pow {f : Addr} {fd : FuncData} (F : Fun K "_power" "_power" sPow f fd) (T : Txt K mg C) : FnOk P w K mg base (L2.CX P w) 1 f fd ["told", "k"] spPow := by
  have sc : FnScope NP ["told", "k"] (defScope sPow) := ⟨rfl, rfl, rfl, by decide +kernel, rfl, by decide +kernel, by decide +kernel⟩
  refine F.okX sc (fun vs H Q E h => ?_) (fun cdv A outer s H vs Q E hr h => ?_)
  · obtain ⟨a, m, k, N, rfl, _⟩ := h
    rfl
  · obtain ⟨a, m, k, N, rfl, ha, pm, per, fin⟩ := h
    have hu := hu_of hr
    refine ⟨_, pss_cons (ps_set (i := 2) sc.nd rfl (Or.inl rfl) pe_dnewK)
      (pss_cons (ps_lock (ps_for passOwn rfl (pi_keys (pv 0)) (pg_name (i := 3) sc.nd rfl (Or.inl rfl)) (pss_one (ps_if (pt_cmp (pc_dnotin hu (pv 3) (pv 2)))
        (pss_cons (ps_set (i := 4) sc.nd rfl (Or.inl rfl) (pe_lst (pa_cons (pv 3) pa_nil)))
        (pss_cons (ps_while passOwn (pt_cmpR op_ne (pe_dget hu (pv 0) (pe_ix ix_list (pv 4) (pe_un un_neg pe_int) (fun _ _ => rfl)) (fun _ _ => rfl)) (pv 3) (nomark _))
          (pss_one (ps_expr (pe_bm PySem.F.plainAttrs_list PySem.F.slot_list_append PySem.F.type_list_append mt_append (pv 4) (pa_cons (pe_dget hu (pv 0) (pe_ix ix_list (pv 4) (pe_un un_neg pe_int) (fun _ _ => rfl)) (fun _ _ => rfl)) pa_nil)))))
        (pss_one (ps_for passOwn rfl (pi_enum (by rfl) T.enum (pa_cons (pv 4) pa_nil)) (pg_two (i := 5) (j := 6) rfl sc.nd rfl (Or.inl rfl) rfl (Or.inl rfl))
          (pss_one (ps_dput hu (pv 2) (pv 6) (pe_ix ix_list (pv 4) (pe_op op_modN (pe_op op_add (pv 5) (pv 1)) (pe_callB call_len_seq (by rfl) T.len PySem.boot_len (pa_cons (pv 4) pa_nil))) (fun _ _ => rfl)) rfl))))))
        pss_nil))))
      (pss_one (ps_ret (pv 2)))), ?_⟩
    intro d nd
    have ad : a ≠ d := ne_of_none ha nd
    have ha1 := same_upd (o := .dK []) nd _ _ ha
    refine ⟨a, .dK (dS m), ha1, trivial, fun od => ?_⟩
    have rA : Rd (upd (upd H d (.dK [])) a (.frz od (.dK (dS m)))) a (.dK (dS m)) := .inr ⟨od, upd_same⟩
    have hA : (upd (upd H d (.dK [])) a (.frz od (.dK (dS m)))) a = some (.frz od (.dK (dS m))) := upd_same
    have hD : (upd (upd H d (.dK [])) a (.frz od (.dK (dS m)))) d = some (.dK []) := by rw [upd_ne ad.symm, upd_same]
    have done : ∀ {G ys}, SameX d (upd (upd H d (.dK [])) a (.frz od (.dK (dS m)))) G → G d = some (.dK (dS (fm m N k ys))) → ys.Perm (ks m) → G a = some (.frz od (.dK (dS m))) ∧ Q (.ref d) (upd G a (.dK (dS m))) := fun {G ys} sx hd py => by
      obtain ⟨f1, f2, f3⟩ := fill_done ha nd sx hd
      exact ⟨f1, fin d ys _ nd f2 f3 py⟩
    generalize upd (upd H d (.dK [])) a (.frz od (.dK (dS m))) = B at rA hA hD done ⊢
    refine ⟨_, rfl, a, od, rfl, .inl ⟨dS m, hA, for_it walk_keys (fun j σ G => (∃ v3 v4 v5 v6, σ = [some (.ref a), some (.int k), some (.ref d), v3, v4, v5, v6]) ∧ SameX d B G ∧ ∃ ys, G d = some (.dK (dS (fm m N k ys))) ∧ Pla m ys ∧ ∀ x ∈ (ks m).take j, x ∈ ys)
      ⟨⟨_, _, _, _, rfl⟩, SameX.refl _ _, [], hD, ⟨.nil, fun _ h => (nomatch h), fun _ h => (nomatch h)⟩, fun _ h => (nomatch h)⟩ (fun j σ G _ ⟨_, sx, _⟩ => sx _ _ ad hA) (fun j x σ G G' hj ⟨⟨v3, v4, v5, v6, e⟩, sx, ys, hd, pl, al⟩ ⟨e1, ky, v, hk, e2⟩ => ?_) (fun σ G ⟨⟨v3, v4, v5, v6, e⟩, sx, ys, hd, pl, al⟩ => ?_)⟩⟩
    · subst e e1 e2
      obtain ⟨r, hr', rfl, rfl⟩ := key_at hk
      have mem := List.mem_of_getElem? hr'
      have kr : (ks m)[j]? = some r.1 := by
        unfold ks
        rw [List.getElem?_map, hr'] <;> rfl
      have hx : r.1 ∈ ks m := List.mem_of_getElem? kr
      have tk : ∀ zs : List Str, (∀ y ∈ ys, y ∈ zs) → r.1 ∈ zs → ∀ y ∈ (ks m).take (j + 1), y ∈ zs := fun zs s h y hy => by
        rw [List.take_succ, kr] at hy
        rcases List.mem_append.mp hy with hy | hy
        · exact s y (al y hy)
        · rw [List.mem_singleton.mp hy]
          exact h
      generalize r.1 = x at hx tk ⊢
      by_cases hin : x ∈ ys
      · refine ⟨_, rfl, _, rfl, d, _, rfl, .inl ⟨_, Sum.inr x, .inl hd, rfl, by rw [dS_at, fm_at pl.nd hin] <;> rfl⟩, _, rfl, if_neg' rfl ⟨⟨_, _, _, _, rfl⟩, sx, ys, hd, pl, tk ys (fun _ h => h) hin⟩⟩
      · refine ⟨_, rfl, _, rfl, d, _, rfl, .inl ⟨_, Sum.inr x, .inl hd, rfl, by rw [dS_at, at_none (by rw [ks_fm]; exact hin)] <;> rfl⟩, _, rfl, if_pos' rfl ⟨_, rfl, (by show 1 ≤ sizeLine; decide), fun c nc => ?_⟩⟩
        have cd : c ≠ d := fun z => by rw [z, hd] at nc; cases nc
        have ac : a ≠ c := fun z => by rw [← z, sx _ _ ad hA] at nc; cases nc
        have gA := sx _ _ ad hA
        refine while_by (fun σ G2 => (∃ v5 v6, σ = [some (.ref a), some (.int k), some (.ref d), some (.str x), some (.ref c), v5, v6]) ∧ SameX c G' G2 ∧ ∃ n, 0 < n ∧ Apart m x n ∧ G2 c = some (.lst ((ring m x n).map V.str)))
          (fun _ G2 => m.length - lenAt G2 c) ⟨⟨_, _, rfl⟩, SameX.upd, 1, by decide, fun i h1 h2 => absurd h1 (by omega), upd_same⟩ ?_ ?_
        · rintro σ G2 ⟨⟨v5, v6, rfl⟩, sc', n, n0, ap, hc⟩
          obtain ⟨q, rfl⟩ : ∃ q, n = q + 1 := ⟨n - 1, by omega⟩
          have gA' := sc' _ _ ac gA
          have last : atI ((ring m x (q + 1)).map V.str) (-1) = some (.str (itr m q x)) := by
            rw [ring_succ, List.map_append]
            exact atI_last _ _
          have get : DGet G2 a (.str (itr m q x)) (some (.str (itr m (q + 1) x))) := .inl ⟨dS m, Sum.inr _, .inr ⟨od, gA'⟩, rfl, by rw [dS_at, stp_get (itr_mem pm hx q)] <;> rfl⟩
          refine ⟨_, rfl, _, rfl, 1, rfl, c, _, _, _, rfl, rfl, SqL.of hc, last, a, _, rfl, get, _, rfl, rfl, _, rfl, ?_⟩
          by_cases ex : itr m (q + 1) x = x
          · refine if_neg' (by rw [ex, decide_eq_true rfl]; rfl) ?_
            have more := pl.more pm hx n0 ex ap hin
            have lenm := sub_len _ _ more.nd more.sub
            rw [List.length_append, ring_len, List.length_map] at lenm
            have few := pm.one.few
            have L : ((ring m x (q + 1)).map V.str).length = q + 1 := by rw [List.length_map, ring_len]
            have hd2 := sc' _ _ cd.symm hd
            refine ⟨_, rfl, c, _, rfl, SqL.of hc, for_it walk_enum (fun t σ G3 => (∃ v5 v6, σ = [some (.ref a), some (.int k), some (.ref d), some (.str x), some (.ref c), v5, v6]) ∧ SameX d G2 G3 ∧ G3 d = some (.dK (dS (fm m N k (ys ++ ring m x t)))))
              ⟨⟨_, _, rfl⟩, SameX.refl _ _, by rw [show ring m x 0 = [] from rfl, List.append_nil]; exact hd2⟩ (fun t σ G3 _ ⟨_, sx3, _⟩ => SqL.of (sx3 _ _ cd hc)) (fun t y σ G3 G4 ht ⟨⟨v5, v6, e⟩, sx3, hd3⟩ ⟨U, u, v, e1, nU, e2, hu', hv'⟩ => ?_) (fun σ G3 ⟨⟨v5, v6, e⟩, sx3, hd3⟩ => ?_)⟩
            · subst e e1 e2
              cases hu'
              rw [L] at ht
              have hv' : ((ring m x (q + 1)).map V.str)[t]? = some v := hv'
              rw [List.getElem?_map, ring_get ht] at hv'
              cases hv'
              have sm := same_upd (o := .tup [V.int (t : Nat), .str (itr m t x)]) nU
              have no : itr m t x ∉ ys ++ ring m x t := fun h => by
                rcases List.mem_append.mp h with h | h
                · exact pl.off n0 ex hin t h
                · have nd := ring_nodup pm hx (j := t + 1) (fun i h1 h2 => ap i h1 (by omega))
                  rw [ring_succ] at nd
                  exact (List.nodup_append.mp nd).2.2 _ h _ (List.mem_singleton.mpr rfl) rfl
              refine ⟨U, _, rfl, SqT.of upd_same, rfl, _, _, rfl, _, _, rfl, rfl, _, rfl, _, rfl, _, rfl, _, _, rfl, rfl, _, rfl, c, _, rfl, .inl (SqL.of (sm _ _ (sx3 _ _ cd hc))), _, _, rfl, rfl, (by rw [L]; omega), c, _, _, _, rfl, rfl, SqL.of (sm _ _ (sx3 _ _ cd hc)), (by rw [L]; exact at_ring n0 per hx ex t k), _, rfl, _, rfl, d, _, rfl, .inl ⟨_, Sum.inr _, sm _ _ hd3, rfl, ?_, rfl⟩, ⟨_, _, rfl⟩, (sx3.trans (SameX.of sm)).trans SameX.upd, ?_⟩
              · rw [dS_len, show (fm m N k (ys ++ ring m x t)).length = (ys ++ ring m x t).length from List.length_map _, List.length_append, ring_len]
                exact Nat.lt_of_lt_of_le (m := 1001) (by omega) (by decide)
              · rw [upd_same, fm_snoc no, ring_succ, ← List.append_assoc]
            · subst e
              rw [L] at hd3
              exact ⟨⟨_, _, _, _, rfl⟩, fun b u ne h => sx3 b u ne (sc' b u (fun z => by rw [z] at h; have := sx c u (fun w => ne (z.trans w)) h; rw [nc] at this; cases this) (sx b u ne h)), ys ++ ring m x (q + 1), hd3, more, tk _ (fun y h => List.mem_append_left _ h) (List.mem_append_right _ (ring_in n0))⟩
          · refine if_pos' (by rw [decide_eq_false (fun z => ex (V.str.inj z))]; rfl) ?_
            have ap2 : Apart m x (q + 2) := fun i h1 h2 => if h : i = q + 1 then by rw [h]; exact ex else ap i h1 (by omega)
            have le2 := ring_le pm hx ap2
            have le := pm.one.few
            refine ⟨_, rfl, .inl ⟨rfl, _, SqL.of hc⟩, _, rfl, _, rfl, 1, rfl, c, _, _, _, rfl, rfl, SqL.of hc, last, a, _, rfl, get, c, _, _, rfl, rfl, hc, ?_, ⟨⟨_, _, rfl⟩, sc'.trans SameX.upd, q + 2, by omega, ap2, ?_⟩, ?_⟩
            · rw [List.length_map, ring_len]
              exact Nat.lt_of_lt_of_le (m := 1001) (by omega) (by decide)
            · rw [upd_same, ring_succ m x (q + 1), List.map_append]
              rfl
            · unfold lenAt
              rw [upd_same, hc]
              simp only [List.length_append, List.length_map, ring_len, List.length_cons, List.length_nil]
              omega
        · rintro σ G2 Q1 Q2 hq ⟨z1, z2, z3, z4, z5, z6, z7, z8, z9, z10, z11, z12, z13, z14, z15, z16, z17, z18, z19, z20, z21, z22, z23, z24⟩
          exact ⟨z1, z2, z3, z4, z5, z6, z7, z8, z9, z10, z11, z12, z13, z14, z15, z16, z17, z18, z19, z20, z21, z22, z23, hq _ _ z24⟩
    · subst e
      rw [dS_len, List.take_of_length_le (by rw [List.length_map]; exact Nat.le_refl _)] at al
      have py : ys.Perm (ks m) := sub_perm _ _ pl.nd pl.sub (sub_len _ _ pm.one.kn al)
      obtain ⟨f1, f2⟩ := done sx hd py
      exact ⟨f1, _, rfl, f2⟩
end
end R6
end

-- S8f
section
set_option Elab.async false
set_option linter.all false
set_option maxRecDepth 100000
set_option exponentiation.threshold 10000
namespace R6
open PySem L2 OwnOps OwnNe SortStr EqDict SetStr DictList StX G1
abbrev veT : List Value := [.type "ValueError", .type "Exception", .type "BaseException", .type "object"]
abbrev xd (v : V) : HO := .xd [(("given" : Str), v)]
/-- the error -/
abbrev ErrM (K : PySem.W.Frag) (mg : Str → Option Value) (CM fM : Addr) : Prop := PySem.Giv.ErrTxt K mg "InvalidMatching" "InvalidMatching.__init__" "ValueError.__new__" veT CM fM
section
variable {P : Program} {w : World} {K : PySem.W.Frag} {mg : Str → Option Value} {base : Heap} {C CM fM : Addr}
def spPower (C CM : Addr) : Sp := fun vs H Q E => ∃ (p : Addr) (k : Int) (n i : Mp) (F : List Addr), vs = [.ref p, .int k] ∧ Mat C H p n i F ∧
  ((∃ N N', Pm n ∧ Pm i ∧ Per n N ∧ Per i N' ∧ ∀ r H' G ys zs, Same H H' → ys.Perm (ks n) → zs.Perm (ks i) → Mat C H' r (fm n N k ys) (fm i N' k zs) G → New G H → Q (.ref r) H') ∨
   ((fol n n = false ∨ (fol n n = true ∧ fol i i = false)) ∧ ∀ d H', Same H H' → H' d = some (xd (.int k)) → E (.ref CM) (some d) H'))
theorem ok_power {f : Addr} {fd : FuncData} (F : Fun K "power" "Matching.power" (sMat 6) f fd) (T : Txt K mg C) (U : ErrM K mg CM fM) (M : Mak P w K mg base C) (GF : Glb P w K mg base "_follow" 2 ["told", "following"] spFol) (GP : Glb P w K mg base "_power" 1 ["told", "k"] spPow) :
    FnOk P w K mg base (L2.CX P w) 4 f fd ["self", "k"] (spPower C CM) := by
  obtain ⟨fF, fdF, mF, kF, GF, bF⟩ := GF.ex
  obtain ⟨fP, fdP, mP, kP, GP, bP⟩ := GP.ex
  obtain ⟨fI, fdI, mk, GI, bI⟩ := M.ex
  have sc : FnScope ["self", "k"] ["self", "k"] (defScope (sMat 6)) := ⟨rfl, rfl, rfl, by decide +kernel, rfl, by decide +kernel, by decide +kernel⟩
  refine F.okX sc (fun vs H Q E h => ?_) (fun cdv A outer s H vs Q E hr h => ?_)
  · obtain ⟨p, k, n, i, F, rfl, _⟩ := h
    rfl
  · obtain ⟨p, k, n, i, F, rfl, ⟨dx, dn, di, lp, us, _, hp, hn, hi, _⟩, q⟩ := h
    refine ⟨_, pss_cons (ps_if (PW.pt (pw_or (pt_not (pt_val (pe_call GF (hr.mono (by decide)) (by rfl) mF kF bF .nil passL (pa_cons (pe_fld (pv 0) rfl) (pa_cons (pe_fld (pv 0) rfl) pa_nil))))) (pw_or1 (pt_not (pt_val (pe_call GF (hr.mono (by decide)) (by rfl) mF kF bF .nil passL (pa_cons (pe_fld (pv 0) rfl) (pa_cons (pe_fld (pv 0) rfl) pa_nil))))))))
        (pss_one (ps_raiseGiv rfl PySem.Giv.ok_VE U hr (takes_of rfl rfl rfl rfl) (pa_cons (pv 1) pa_nil) (by rfl))) pss_nil)
      (pss_one (ps_ret (pe_make mk GI (hr.mono (by decide)) (by rfl) T.gC bI .nil passL (pa_cons (pe_call GP (hr.mono (by decide)) (by rfl) mP kP bP .nil passL (pa_cons (pe_fld (pv 0) rfl) (pa_cons (pv 1) pa_nil))) (pa_cons (pe_call GP (hr.mono (by decide)) (by rfl) mP kP bP .nil passL (pa_cons (pe_fld (pv 0) rfl) (pa_cons (pv 1) pa_nil))) pa_nil))))), ?_⟩
    rcases q with ⟨N, N', pn, pi, qn, qi, q⟩ | ⟨bad, q⟩
    · refine ⟨_, rfl, p, C, dx, _, _, rfl, hp, T.cl, T.n1, lk1, _, rfl, p, C, dx, _, _, rfl, hp, T.cl, T.n1, lk1, dn, dn, n, n, rfl, .inl hn, .inl hn, rfl, fun H1 s1 => ⟨_, rfl, if_neg' (by rw [fol_yes pn.fol]; rfl) ?_⟩⟩
      refine ⟨_, rfl, p, C, dx, _, _, rfl, s1 _ _ hp, T.cl, T.n2, lk2, _, rfl, p, C, dx, _, _, rfl, s1 _ _ hp, T.cl, T.n2, lk2, di, di, i, i, rfl, .inl (s1 _ _ hi), .inl (s1 _ _ hi), rfl, fun H2 s2 => ⟨_, rfl, if_neg' (by rw [fol_yes pi.fol]; rfl) ?_⟩⟩
      have s02 := s1.trans s2
      refine ⟨_, rfl, p, C, dx, _, _, rfl, s02 _ _ hp, T.cl, T.n1, lk1, _, rfl, dn, n, k, N, rfl, s02 _ _ hn, pn, qn, fun d ys H3 nd s3 hd py => ?_⟩
      have s03 := s02.trans s3
      refine ⟨_, rfl, p, C, dx, _, _, rfl, s03 _ _ hp, T.cl, T.n2, lk2, _, rfl, di, i, k, N', rfl, s03 _ _ hi, pi, qi, fun e zs H4 ne s4 he pz => ?_⟩
      have de : d ≠ e := fun z => by rw [← z, hd] at ne; cases ne
      have s04 := s03.trans s4
      exact mk_mat (s4 _ _ hd) he de (fm_one pn py k) (fm_one pi pz k) fun x H' F sm m nw => q x H' F ys zs (s04.trans sm) py pz m fun y hy => Same.none s04 (nw y hy)
    · have fin : ∀ H1, Same H H1 → ∀ d, H1 d = none → E (.ref CM) (some d) (upd H1 d (xd (.int k))) := fun H1 s1 d hd => q d _ (s1.trans (same_upd hd)) upd_same
      refine ⟨_, rfl, p, C, dx, _, _, rfl, hp, T.cl, T.n1, lk1, _, rfl, p, C, dx, _, _, rfl, hp, T.cl, T.n1, lk1, dn, dn, n, n, rfl, .inl hn, .inl hn, rfl, fun H1 s1 => ⟨_, rfl, ?_⟩⟩
      rcases bad with b | ⟨b, c⟩
      · exact if_pos' (by rw [b]; rfl) ⟨_, rfl, _, rfl, fin H1 s1⟩
      · refine if_neg' (by rw [b]; rfl) ⟨_, rfl, p, C, dx, _, _, rfl, s1 _ _ hp, T.cl, T.n2, lk2, _, rfl, p, C, dx, _, _, rfl, s1 _ _ hp, T.cl, T.n2, lk2, di, di, i, i, rfl, .inl (s1 _ _ hi), .inl (s1 _ _ hi), rfl, fun H2 s2 => ⟨_, rfl, if_pos' (by rw [c]; rfl) ⟨_, rfl, _, rfl, fin H2 (s1.trans s2)⟩⟩⟩
end
end R6
end

-- NoneD
section
set_option Elab.async false
set_option linter.all false
set_option maxRecDepth 100000
/-! dicts with None among their keys. -/
namespace NoneD
open PySem L2 PySem.W PySem.Spec PyProof.Rows EqDict
def kO : Option Key → V
  | none => .non
  | some k => kV k
def NoneO (P : Program) (w : World) (a : Addr) (kvs : List (Option Key × V)) : HO := .ext fun h => kvs.length ≤ sizeLine ∧ (a == sysModules) = false ∧ ∃ vs, KV kvs vs ∧ h.DictOf (noneKind P w) a vs
theorem nk_rel {k : Option Key} {v : Value} (h : nkIs k v = true) : RelV (kO k) v := by
  cases k with
  | none => exact nk_none h
  | some k => exact keyIs_rel h
theorem none_new {P : Program} {w : World} {H : Hp} {h : Heap} {a : Addr} {kvs : List (Option Key × V)} {vs : List (Option Key × Value)} (z : kvs.length ≤ sizeLine) (lo : (a == sysModules) = false) (r : KV kvs vs) (d : h.DictOf (noneKind P w) a vs) : ObjOk P w H h a (NoneO P w a kvs) :=
  ⟨⟨z, lo, vs, r, d⟩, (let ⟨o, _, _, ho, _⟩ := d; ⟨o, ho⟩), fun h1 h2 ⟨z, lo, vs, r, d⟩ k => ⟨z, lo, vs, r, let ⟨o, es, ep, ho, q⟩ := d; ⟨o, es, ep, k o ho, q⟩⟩⟩
theorem lift_pairs {P : Program} {w : World} : ∀ {es : List DictEntry} {vs : List (Key × Value)}, Pairs (mixKind P w) es vs → Pairs (noneKind P w) es (vs.map fun p => (some p.1, p.2))
  | _, _, .nil => .nil
  | _, _, .cons h1 h2 t => .cons h1 h2 (lift_pairs t)
theorem lift_nd : ∀ {vs : List (Key × Value)}, (vs.map (·.1)).Nodup → ((vs.map fun p => ((some p.1 : Option Key), p.2)).map (·.1)).Nodup
  | [], _ => List.nodup_nil
  | p :: vs, h => by
    obtain ⟨h1, h2⟩ := List.nodup_cons.mp (show (p.1 :: vs.map (·.1)).Nodup from h)
    show (some p.1 :: _).Nodup
    refine List.nodup_cons.mpr ⟨fun z => h1 ?_, lift_nd h2⟩
    rw [List.map_map] at z
    obtain ⟨q, hq, e⟩ := List.mem_map.mp z
    exact List.mem_map.mpr ⟨q, hq, Option.some.inj e⟩
theorem lift_none {P : Program} {w : World} {h : Heap} {a : Addr} {vs : List (Key × Value)} (d : h.DictOf (mixKind P w) a vs) : h.DictOf (noneKind P w) a (vs.map fun p => (some p.1, p.2)) := by
  obtain ⟨o, es, ep, ho, hx, hdt, hk, hp, hn⟩ := d
  exact ⟨o, es, ep, ho, hx, hdt, fun e he => let ⟨k, h1, h2⟩ := hk e he; ⟨some k, h1, h2⟩, lift_pairs hp, lift_nd hn⟩
theorem lift_kv : ∀ {kvs : List (Key × V)} {vs : List (Key × Value)}, KV kvs vs → KV (kvs.map fun p => ((some p.1 : Option Key), p.2)) (vs.map fun p => (some p.1, p.2))
  | _, _, .nil => .nil
  | _, _, .cons h t => .cons ⟨congrArg some h.1, h.2⟩ (lift_kv t)
section
variable {X : Cx} {pins : List (Addr × Obj)} {σ : L2.St} {H : Hp} {s : Shared}
theorem none_at (I : L2.Inv X pins σ H s) {a : Addr} {kvs : List (Option Key × V)} (h : H a = some (NoneO X.prog X.w a kvs)) : kvs.length ≤ sizeLine ∧ (a == sysModules) = false ∧ ∃ vs, KV kvs vs ∧ s.heap.DictOf (noneKind X.prog X.w) a vs := (I.hok a _ h).1
end
theorem kv_snoc {kvs : List (Option Key × V)} {vs : List (Option Key × Value)} (h : KV kvs vs) {k : Option Key} {v : V} {u : Value} (r : RelV v u) : KV (kvs ++ [(k, v)]) (vs ++ [(k, u)]) := by
  unfold KV at h
  induction h with
  | nil => exact .cons ⟨rfl, r⟩ .nil
  | cons h _ ih => exact .cons h ih
theorem valueAt_mem {K' : Type} [DecidableEq K'] : ∀ {vs : List (K' × Value)}, (vs.map (·.1)).Nodup → ∀ {k : K'} {u : Value}, (k, u) ∈ vs → valueAt vs k = some u
  | [], _, _, _, h => nomatch h
  | p :: vs, nd, k, u, h => by
    obtain ⟨h1, h2⟩ := List.nodup_cons.mp (show (p.1 :: vs.map (·.1)).Nodup from nd)
    unfold valueAt
    rw [List.find?_cons]
    rcases List.mem_cons.mp h with rfl | h
    · rw [decide_eq_true rfl]; rfl
    · have ne : ¬ p.1 = k := fun e => h1 (by rw [e]; exact List.mem_map.mpr ⟨_, h, rfl⟩)
      rw [decide_eq_false ne]
      exact valueAt_mem h2 h
section
variable {X : Cx}
/-- d[y] = v, y None or a key; the dict's keys were ints and texts -/
def sPutN (P : Program) (w : World) (td ty tv : TE) : TS := fun D σ H => tv σ H fun v H1 => td σ H1 fun x H2 => ty σ H2 fun y H3 => ∃ (a : Addr) (kvs : List (Key × V)), x = .ref a ∧ H3 a = some (.dK kvs) ∧ y = .non ∧ kvs.length < sizeLine ∧ D.nx σ (upd H3 a (NoneO P w a ((kvs.map fun p => ((some p.1 : Option Key), p.2)) ++ [(none, v)])))
theorem ps_putN {o i value : Expr} {td ty tv : TE} {pos pos' : Pos} (ho : PE X o td) (hi : PE X i ty) (hv : PE X value tv) (hs : swapsWith value (some (.Subscript o i pos')) pos.line X.env = pure false) :
    PS X (.Assign [.Subscript o i pos'] value pos) (sPutN X.prog X.w td ty tv) := by
  refine ⟨fun pins s σ H D I h => ?_⟩
  refine wpAny_Assign_Subscript (thn (hv.run pins s σ H _ I h) fun r s1 ⟨v, H1, I1, rv, q1⟩ => thn (ho.run pins s1 σ H1 _ I1 q1) fun u s2 ⟨x, H2, I2, rx, q2⟩ => thn (hi.run pins s2 σ H2 _ I2 q2) fun iv s3 ⟨y, H3, I3, ry, a, kvs, ex, hd, ey, few, q3⟩ => ?_) hs
  subst ex ey
  obtain rfl : u = Value.ref a := rx
  obtain rfl : iv = Value.none := ry
  obtain ⟨z, lo, vs, rel, dd⟩ := dk_of I3.hok hd
  have lk : kvs.length = vs.length := rel.length
  have hz : (vs.map fun p => ((some p.1 : Option Key), p.2)).length ≤ sizeLine := by rw [List.length_map, ← lk]; exact z
  refine wpAny_setItem_pairs (knd := noneKind X.prog X.w) (k := none) (hsz := hz) rfl (lift_none dd) fun h' dd' hs => ?_
  have he : ∃ q, h'.get? a = some q := let ⟨q, _, _, hq, _⟩ := dd'; ⟨q, hq⟩
  have st : stored (vs.map fun p => ((some p.1 : Option Key), p.2)) none r = (vs.map fun p => ((some p.1 : Option Key), p.2)) ++ [(none, r)] := by
    unfold stored
    rw [if_neg]
    intro z
    obtain ⟨q, hq, e⟩ := List.any_eq_true.mp z
    obtain ⟨p, _, rfl⟩ := List.mem_map.mp hq
    exact nomatch (of_decide_eq_true e)
  rw [st] at dd'
  refine ⟨σ, _, d_write I3 (by rw [hd]; exact True.intro) hs he (none_new ?_ lo ?_ dd'), q3⟩
  · rw [List.length_append, List.length_map]
    exact few
  · exact kv_snoc (lift_kv rel) rv
/-- list(e.values()) -/
def tListVN (P : Program) (w : World) (te : TE) : TE := fun σ H Q => te σ H fun x H1 => ∃ (d : Addr) (kvs : List (Option Key × V)), x = .ref d ∧ H1 d = some (NoneO P w d kvs) ∧ ∀ p, H1 p = none → Q (.ref p) (upd H1 p (.lst (kvs.map (·.2))))
theorem vals_kvN : ∀ {kvs : List (Option Key × V)} {vs : List (Option Key × Value)}, KV kvs vs → Vals (kvs.map (·.2)) (vs.map (·.2))
  | _, _, .nil => .nil
  | _, _, .cons h t => .cons h.2 (vals_kvN t)
theorem pe_listVN {e : Expr} {te : TE} {p apos cpos pos : Pos} (he : PE X e te) (hg : Gl X "list") (hm : X.mg "list" = none) (calm : X.calm = true := by rfl) (hv : bootBuiltins "list" = some (.type "list") := by decide +kernel)
    (hbase : attributeBase e "values" X.env (eval e X.env) = eval e X.env := by rfl) (hline : (apos.endLine == cpos.line) = true := by rfl)
    (hs : starEach [.Call (.Attribute e "values" apos) [] [] cpos] X.env = (false, eval (.Call (.Attribute e "values" apos) [] [] cpos) X.env) :: starEach [] X.env := by rfl) :
    PE X (.Call (.Name "list" p) [.Call (.Attribute e "values" apos) [] [] cpos] [] pos) (tListVN X.prog X.w te) := by
  refine ⟨fun pins s σ H Q I hq => wpAny_Call_Name_kw (ld_blt I hg hm hv (callWith_type1 (by
    rw [hs]
    refine Calls.spliced_cons (wpAny_Call_method (T := "dict") (id := "dict.values") hbase rfl hline F.plainAttrs_dict F.slot_dict_values F.type_dict_values (thn (he.run pins s σ H _ I hq) fun u s1 ⟨x, H1, I1, rx, d, kvs, ex, hd, q⟩ => ?_))
    subst ex
    obtain rfl : u = Value.ref d := rx
    obtain ⟨hz, lo, vs, kv, hdo⟩ := none_at I1 hd
    obtain ⟨ep, hat⟩ := hdo.dictAt
    have lk : kvs.length = vs.length := Paired.length kv
    have I2 : L2.Inv X pins σ H1 { s1 with heap := s1.heap.push { cls := .type "dict_values", data := .fields #[.ref d] } } := I1.kept (t' := s1.toks) fun b ob q => Heap.get?_push_of_some _ q
    refine ⟨hdo.typeIs, hdo.mapOf.noDict, ?_⟩
    refine method_meetsIn F.slot_dict_values F.entry_dict_values rfl (PySem.evalArgs_none ⟨rfl, hdo.typeIs, F.args_dict_values_1 _, _, meets_dict_values (noneKind X.prog X.w) d lo, ⟨vs, hdo⟩, Calls.spliced_nil ?_⟩)
    refine kdl_call (kdl_values (knd := noneKind X.prog X.w) (kvs := vs) (ep := ep)) (I1.ok.hd calm) ⟨⟨_, Heap.get?_push_size _ rfl, rfl, rfl⟩, hat.push _⟩ (by rw [← lk]; exact hz) fun h' tk acc c hk hS got => ?_
    have e : acc.toList = vs.map (·.2) := kdl_vals_eq (kvs := vs) acc.toList (by rw [Array.length_toList]; exact got.1) fun j v hj => got.2 j v (by rw [← Array.getElem?_toList]; exact hj)
    have rv : Vals (kvs.map (·.2)) acc.toList := by rw [e]; exact vals_kvN kv
    exact ⟨.ref _, upd H1 _ (.lst (kvs.map (·.2))), I2.laid (t' := tk) hk (Nat.le_refl _) ⟨by rw [List.length_map]; exact hz, acc.toList, c, rv, by rw [Array.toArray_toList]; exact hS⟩, rfl, q _ (I2.hok.fresh (Nat.le_refl _))⟩) hs rfl))⟩
/-- *e in a display -/
def tStarN (P : Program) (w : World) (te : TE) (t : TA) : TA := fun σ H Q => te σ H fun x H1 => ∃ (d : Addr) (kvs : List (Option Key × V)), x = V.ref d ∧ H1 d = some (NoneO P w d kvs) ∧ t σ H1 fun ys H2 => Q (kvs.map (fun p => kO p.1) ++ ys) H2
theorem pa_starN {e : Expr} {es : List Expr} {te : TE} {t : TA} {p : Pos} (he : PE X e te) (hr : PA X es t) (calm : X.calm = true := by rfl) (hs : starEach (.Starred e p :: es) X.env = (true, eval e X.env) :: starEach es X.env := by rfl) : PA X (.Starred e p :: es) (tStarN X.prog X.w te t) := by
  refine ⟨fun pos pins s σ H Q I h => items_star (thn (he.run pins s σ H _ I h) fun v s1 ⟨y, H1, I1, ry, d, kvs, ey, hd, q⟩ => ?_) hs⟩
  subst ey
  obtain rfl : v = Value.ref d := ry
  obtain ⟨hz, lo, vs, kv, hdo⟩ := none_at I1 hd
  obtain ⟨ep, hat⟩ := hdo.dictAt
  have lk : kvs.length = vs.length := Paired.length kv
  unfold StarOf notIterableAtAll
  refine wpAny_bind (wpAny_specialOf hdo.typeIs F.slot_dict_iter.lookup (wpAny_pure ⟨rfl, ?_⟩))
  refine kdu_collect (kdl_dict (knd := noneKind X.prog X.w) (kvs := vs) (ep := ep) lo) (I1.ok.hd calm) hat (by rw [← lk]; exact hz) fun h' tk acc kp got => ?_
  have I2 : L2.Inv X pins σ H1 { s1 with heap := h', toks := tk } := I1.kept kp
  have rv : Vals (kvs.map fun p => kO p.1) acc.toList := by
    refine vals_of_at (by rw [List.length_map, Array.length_toList]; exact lk.trans got.1.symm) fun j x u hx hu => ?_
    obtain ⟨k, x0, e1, e2⟩ := got.2 j u (by rw [← Array.getElem?_toList]; exact hu)
    rw [List.getElem?_map] at hx
    cases e3 : kvs[j]? with
    | none => rw [e3] at hx; cases hx
    | some kv0 =>
      rw [e3] at hx
      cases hx
      obtain ⟨y, e4, e5⟩ := LiI.paired_get kv e3
      rw [e1] at e4
      cases e4
      show RelV (kO kv0.1) u
      rw [show kv0.1 = k from e5.1]
      exact nk_rel e2
  exact thn (hr.run pos pins _ σ H1 _ I2 q) fun ws s3 ⟨vs3, H3, I3, r3, q3⟩ => ⟨_ ++ vs3, H3, I3, rv.append r3, q3⟩
/-- isinstance(x, dict) of such a dict -/
def rIsiN (P : Program) (w : World) (K : PySem.W.Frag) : List V → Hp → VK → Prop := fun xs H Q => ∃ (a : Addr) (kvs : List (Option Key × V)) (c : V) (u : Value) (b : Bool), xs = [.ref a, c] ∧ H a = some (NoneO P w a kvs) ∧ ClsV c u ∧ PySem.W.kitOne K (.type "dict") u = some b ∧ Q (.bl b) H
theorem call_isiN : CallR X (.builtin "isinstance") (rIsiN X.prog X.w X.K) := by
  intro pins s σ H xs us Q I r h
  obtain ⟨a, kvs, c, u, b, rfl, hd, k, e, q⟩ := h
  obtain ⟨u1, u2, rfl, r1, r2⟩ := vals2 r
  have e2 := k.eq r2
  subst e2
  cases (show u1 = Value.ref a from r1)
  obtain ⟨_, _, vs, _, o, es, ep, h1, h2, _⟩ := none_at I hd
  exact PySem.W.kia_one PySem.W.kitx_dict I.kIn (show _ from ⟨o, h1, h2.1⟩) e (fun z => nomatch z) fun tk => ⟨.bl b, H, I.tok tk, rfl, q⟩
/-- d == d -/
def rEqN (P : Program) (w : World) : R2 := fun x y H Q => ∃ (a : Addr) (kvs : List (Option Key × V)), x = .ref a ∧ y = .ref a ∧ H a = some (NoneO P w a kvs) ∧ (∀ p ∈ kvs, flatV p.2 = true) ∧ (kvs.map (·.1)).Nodup ∧ Q (.bl true) H
theorem op_eqN (hu : X.A.units < cLine) : OpR X (compareOp .Eq) (rEqN X.prog X.w) := by
  intro pins s σ H x y v u Q I rx ry h
  obtain ⟨a, kvs, rfl, rfl, hd, fl, nd, q⟩ := h
  cases rx
  cases ry
  obtain ⟨_, lo, vs, r, d⟩ := none_at I hd
  refine keq_eq (knd := noneKind X.prog X.w) (r := true) lo lo d d hu (fun _ => ?_) ⟨.bl true, H, I, ?_, q⟩
  · have nv : (vs.map (·.1)).Nodup := by rw [← KV.keys r]; exact nd
    have : ∀ {ks : List (Option Key × V)} {us : List (Option Key × Value)}, KV ks us → (∀ p ∈ ks, flatV p.2 = true) → (∀ q ∈ us, q ∈ vs) → KeqHits X.A.in1 s vs us true := fun h => by
      unfold KV at h
      induction h with
      | nil => intro _ _; exact .nil
      | @cons p q ps qs r1 _ ih =>
        intro f sub
        have rest := ih (fun p hp => f p (List.mem_cons_of_mem _ hp)) fun q hq => sub q (List.mem_cons_of_mem _ hq)
        have fp := f p List.mem_cons_self
        have hit := KeqHits.hit (valueAt_mem nv (sub q List.mem_cons_self)) (eqAt_V (A := X.A.in1) (s := s) r1.2 r1.2 fp fp) rest
        have ev : eqV p.2 p.2 = true := by
          cases hp : p.2 <;> rw [hp] at fp <;> first | (simp [eqV]; done) | (exact absurd fp (by simp [flatV]))
        rw [ev] at hit
        exact hit
    exact this r fl fun q h => h
  · simp; rfl
end
end NoneD
end

-- RawDict
section
set_option Elab.async false
set_option linter.all false
set_option maxRecDepth 100000
/-! dicts whose keys may be anything (None, a tuple, beside texts): told by their entries. -/
namespace RawD
open PySem L2 PySem.W PySem.Spec PyProof.Rows
/-- the entries stand for these -/
abbrev Ents : List (V × V) → List DictEntry → Prop := Paired fun p e => RelV p.1 e.key ∧ RelV p.2 e.val
def RawO (a : Addr) (kvs : List (V × V)) (φ : Heap → Array DictEntry → Prop) : HO := .ext fun h => kvs.length ≤ sizeLine ∧ (a == sysModules) = false ∧ ∃ es ep, h.DictRaw a es ep ∧ Ents kvs es.toList ∧ φ h es
theorem ents_keys : ∀ {kvs : List (V × V)} {es : List DictEntry}, Ents kvs es → Vals (kvs.map (·.1)) (es.map (·.key))
  | _, _, .nil => .nil
  | _, _, .cons r t => .cons r.1 (ents_keys t)
theorem ents_vals : ∀ {kvs : List (V × V)} {es : List DictEntry}, Ents kvs es → Vals (kvs.map (·.2)) (es.map (·.val))
  | _, _, .nil => .nil
  | _, _, .cons r t => .cons r.2 (ents_vals t)
theorem items_eq {acc : Array Value} {es : Array DictEntry} {f : DictEntry → Value} (got : ItemsOf (fun i v => ∃ hi : i < es.size, v = f es[i]) acc es.size) : acc.toList = es.toList.map f := by
  refine List.ext_getElem? fun j => ?_
  rw [List.getElem?_map]
  cases e : acc.toList[j]? with
  | none =>
    have h1 := List.getElem?_eq_none_iff.mp e
    rw [Array.length_toList, got.1] at h1
    rw [List.getElem?_eq_none_iff.mpr (by rw [Array.length_toList]; exact h1)]
    rfl
  | some v =>
    obtain ⟨hi, rfl⟩ := got.2 j v (by rw [← Array.getElem?_toList]; exact e)
    rw [List.getElem?_eq_getElem (by rw [Array.length_toList]; exact hi)]
    simp
section
variable {X : Cx} {pins : List (Addr × Obj)} {σ : L2.St} {H : Hp} {s : Shared}
theorem raw_at (I : L2.Inv X pins σ H s) {a : Addr} {kvs : List (V × V)} {φ : Heap → Array DictEntry → Prop} (h : H a = some (RawO a kvs φ)) : kvs.length ≤ sizeLine ∧ (a == sysModules) = false ∧ ∃ es ep, s.heap.DictRaw a es ep ∧ Ents kvs es.toList ∧ φ s.heap es := (I.hok a _ h).1
end
section
variable {X : Cx}
/-- list(e.values()), the dict told by its entries -/
def tListVr (te : TE) : TE := fun σ H Q => te σ H fun x H1 => ∃ (d : Addr) (kvs : List (V × V)) (φ : _), x = .ref d ∧ H1 d = some (RawO d kvs φ) ∧ ∀ p, H1 p = none → Q (.ref p) (upd H1 p (.lst (kvs.map (·.2))))
theorem pe_listVr {e : Expr} {te : TE} {p apos cpos pos : Pos} (he : PE X e te) (hg : Gl X "list") (hm : X.mg "list" = none) (calm : X.calm = true := by rfl) (hv : bootBuiltins "list" = some (.type "list") := by decide +kernel)
    (hbase : attributeBase e "values" X.env (eval e X.env) = eval e X.env := by rfl) (hline : (apos.endLine == cpos.line) = true := by rfl)
    (hs : starEach [.Call (.Attribute e "values" apos) [] [] cpos] X.env = (false, eval (.Call (.Attribute e "values" apos) [] [] cpos) X.env) :: starEach [] X.env := by rfl) :
    PE X (.Call (.Name "list" p) [.Call (.Attribute e "values" apos) [] [] cpos] [] pos) (tListVr te) := by
  refine ⟨fun pins s σ H Q I hq => wpAny_Call_Name_kw (ld_blt I hg hm hv (callWith_type1 (by
    rw [hs]
    refine Calls.spliced_cons (wpAny_Call_method (T := "dict") (id := "dict.values") hbase rfl hline F.plainAttrs_dict F.slot_dict_values F.type_dict_values (thn (he.run pins s σ H _ I hq) fun u s1 ⟨x, H1, I1, rx, d, kvs, φ, ex, hd, q⟩ => ?_))
    subst ex
    obtain rfl : u = Value.ref d := rx
    obtain ⟨hz, lo, es, ep, raw, en, _⟩ := raw_at I1 hd
    have lk : kvs.length = es.size := by rw [← Array.length_toList]; exact Paired.length en
    have I2 : L2.Inv X pins σ H1 { s1 with heap := s1.heap.push { cls := .type "dict_values", data := .fields #[.ref d] } } := I1.kept (t' := s1.toks) fun b ob q => Heap.get?_push_of_some _ q
    refine ⟨raw.typeIs, fun b z => ?_, ?_⟩
    · cases z
      obtain ⟨o, ho, hc, hd2⟩ := raw
      exact ⟨o, ho, hc.2.1⟩
    refine method_meetsIn F.slot_dict_values F.entry_dict_values rfl (PySem.evalArgs_none ⟨rfl, raw.typeIs, F.args_dict_values_1 _, _, meets_dict_values_raw d lo, ⟨es, ep, raw⟩, Calls.spliced_nil ?_⟩)
    refine kdl_call (KdlSrc.rawValues (es := es) (ep := ep)) (I1.ok.hd calm) ⟨⟨_, Heap.get?_push_size _ rfl, rfl, rfl⟩, raw.push _⟩ (by rw [← lk]; exact hz) fun h' tk acc c hk hS got => ?_
    have rv : Vals (kvs.map (·.2)) acc.toList := by rw [items_eq (f := fun e => e.val) got]; exact ents_vals en
    exact ⟨.ref _, upd H1 _ (.lst (kvs.map (·.2))), I2.laid (t' := tk) hk (Nat.le_refl _) ⟨by rw [List.length_map]; exact hz, acc.toList, c, rv, by rw [Array.toArray_toList]; exact hS⟩, rfl, q _ (I2.hok.fresh (Nat.le_refl _))⟩) hs rfl))⟩
/-- *e in a display, the same -/
def tStarDr (te : TE) (t : TA) : TA := fun σ H Q => te σ H fun x H1 => ∃ (d : Addr) (kvs : List (V × V)) (φ : _), x = V.ref d ∧ H1 d = some (RawO d kvs φ) ∧ t σ H1 fun ys H2 => Q (kvs.map (·.1) ++ ys) H2
theorem pa_starDr {e : Expr} {es : List Expr} {te : TE} {t : TA} {p : Pos} (he : PE X e te) (hr : PA X es t) (calm : X.calm = true := by rfl) (hs : starEach (.Starred e p :: es) X.env = (true, eval e X.env) :: starEach es X.env := by rfl) : PA X (.Starred e p :: es) (tStarDr te t) := by
  refine ⟨fun pos pins s σ H Q I h => items_star (thn (he.run pins s σ H _ I h) fun v s1 ⟨y, H1, I1, ry, d, kvs, φ, ey, hd, q⟩ => ?_) hs⟩
  subst ey
  obtain rfl : v = Value.ref d := ry
  obtain ⟨hz, lo, ds, ep, raw, en, _⟩ := raw_at I1 hd
  have lk : kvs.length = ds.size := by rw [← Array.length_toList]; exact Paired.length en
  unfold StarOf notIterableAtAll
  refine wpAny_bind (wpAny_specialOf raw.typeIs F.slot_dict_iter.lookup (wpAny_pure ⟨rfl, ?_⟩))
  refine kdu_collect (KdlSrc.rawDict (es := ds) (ep := ep) lo) (I1.ok.hd calm) raw (by rw [← lk]; exact hz) fun h' tk acc kp got => ?_
  have I2 : L2.Inv X pins σ H1 { s1 with heap := h', toks := tk } := I1.kept kp
  have rv : Vals (kvs.map (·.1)) acc.toList := by rw [items_eq (f := fun e => e.key) got]; exact ents_keys en
  exact thn (hr.run pos pins _ σ H1 _ I2 q) fun ws s3 ⟨vs3, H3, I3, r3, q3⟩ => ⟨_ ++ vs3, H3, I3, rv.append r3, q3⟩
end
end RawD
end

-- RawFind
section
set_option Elab.async false
set_option linter.all false
set_option maxRecDepth 100000
/-! a search in a dict whose keys may be anything quiet. -/
namespace RawD
open PySem
section
variable {P : Program} {w : World} {A : Around} {E : Value → Shared → Prop} {s : Shared}
/-- compares by no code -/
def Quiet (P : Program) (w : World) (s : Shared) (v : Value) : Prop := ∀ (A : Around) (E : Value → Shared → Prop) (Q : Bool → Shared → Prop), Q true s → wpAny (model P w) A (eqIsQuiet 8 v) Q E s
theorem quiet_flat {v : Value} (h : carriedByValue v = true) : Quiet P w s v := fun A E Q q => by
  cases v <;> first | exact wpAny_pure q | exact absurd h Bool.false_ne_true
theorem tell_quiet {v : Value} {st : List Value} (hv : Quiet P w s v) (hs : ∀ u ∈ st, Quiet P w s u) {Q : Bool → Shared → Prop} (h : Q false s) : wpAny (model P w) A (tableMayTell v st) Q E s := by
  unfold tableMayTell
  split
  · exact wpAny_pure h
  refine wpAny_bind (hv _ _ _ ?_)
  simp only [Bool.not_true, Bool.false_eq_true, if_false]
  refine wpAny_bind (wpAny_forIn_list _ (fun left r z => z = s ∧ r = (none, ()) ∧ ∀ u ∈ left, Quiet P w s u) _ ?_ ?_ _ _ ⟨rfl, rfl, hs⟩)
  · rintro u left r z ⟨rfl, rfl, all⟩
    refine wpAny_bind (all u List.mem_cons_self _ _ _ ?_)
    simp only [Bool.not_true, Bool.false_eq_true, if_false]
    exact wpAny_pure ⟨rfl, rfl, fun x m => all x (List.mem_cons_of_mem _ m)⟩
  · rintro r z ⟨rfl, rfl, _⟩
    exact wpAny_pure h
/-- the places at which an entry has this hash -/
abbrev plc (es : Array DictEntry) (h : Int) : List Nat := placesWithHash es.size (fun i => es[i]?.map (·.hash)) h
theorem plc_mem {es : Array DictEntry} {h : Int} {i : Nat} (m : i ∈ plc es h) : ∃ e, es[i]? = some e ∧ e.hash = h := by
  unfold plc placesWithHash at m
  obtain ⟨_, m⟩ := List.mem_filter.mp m
  dsimp only at m
  cases q : es[i]? with
  | none => rw [q] at m; simp at m
  | some e =>
    rw [q] at m
    exact ⟨e, rfl, by simpa using m⟩
/-- what the walk over these places finds: b says of a place whether its key is the same -/
def found (b : Nat → Bool) (l : List Nat) : Option Nat := l.find? b
theorem walk_plain {d : Addr} {v : Value} {h : Int} {o : Obj} {es : Array DictEntry} {ep : Nat} {b : Nat → Bool} {Q : Option Nat → Shared → Prop} (ho : s.heap.get? d = some o) (hd : o.data = .dict es ep)
    (eq : ∀ i ∈ plc es h, ∀ e, es[i]? = some e → SeqAt.EqAt A s e.key v (b i)) (q : Q (found b (plc es h)) s) : wpAny (model P w) A (dictWalkPlain d v h es (plc es h)) Q E s := by
  unfold dictWalkPlain
  generalize hl : plc es h = l at eq q
  have mem : ∀ i ∈ l, ∃ e, es[i]? = some e ∧ e.hash = h := fun i m => plc_mem (by rw [hl]; exact m)
  clear hl
  refine wpAny_bind (wpAny_forIn_list _ (fun left r z => z = s ∧ r = (none, ()) ∧ (∀ i ∈ left, i ∈ l) ∧ found b left = found b l) _ ?_ ?_ _ _ ⟨rfl, rfl, fun _ m => m, rfl⟩)
  · rintro i left r z ⟨rfl, rfl, sub, fd⟩
    obtain ⟨e, he, hh⟩ := mem i (sub i List.mem_cons_self)
    rw [he]
    dsimp only
    rw [if_pos (by rw [hh]; exact beq_self_eq_true h)]
    refine wpAny_bind (wpAny_dictEpoch ho hd (wpAny_bind (eq i (sub i List.mem_cons_self) e he P w _ _ (wpAny_bind (wpAny_dictEpoch ho hd ?_)))))
    rw [if_neg (by simp)]
    cases hb : b i with
    | true =>
      rw [if_pos rfl]
      have f : found b l = some i := by rw [← fd]; unfold found; rw [List.find?_cons, hb]
      rw [f] at q
      exact wpAny_bind (wpAny_rule (wpAny_pure (wpAny_pure q)))
    | false =>
      rw [if_neg Bool.false_ne_true]
      have f : found b left = found b l := by rw [← fd]; unfold found; rw [List.find?_cons, hb]
      exact wpAny_bind (wpAny_rule (wpAny_pure ⟨rfl, rfl, fun j m => sub j (List.mem_cons_of_mem _ m), f⟩))
  · rintro r z ⟨rfl, rfl, _, fd⟩
    have : found b l = none := by rw [← fd]; rfl
    rw [this] at q
    exact wpAny_pure q
theorem two_len {l : List Nat} {f : Nat → Option Value} (all : ∀ i ∈ l, (f i).isSome = true) : (l.filterMap f).length = l.length := by
  induction l with
  | nil => rfl
  | cons x l ih =>
    have := all x List.mem_cons_self
    cases h : f x with
    | none => rw [h] at this; cases this
    | some y =>
      rw [List.filterMap_cons, h]
      exact congrArg (· + 1) (ih fun i hi => all i (List.mem_cons_of_mem _ hi))
theorem found_none {b : Nat → Bool} {l : List Nat} (h : ∀ i ∈ l, b i = false) : found b l = none := by
  unfold found
  rw [List.find?_eq_none]
  intro i hi
  rw [h i hi]; simp
theorem found_one {b : Nat → Bool} {l : List Nat} {i : Nat} (hi : i ∈ l) (hb : b i = true) (one : ∀ i ∈ l, ∀ j ∈ l, b i = true → b j = true → i = j) : found b l = some i := by
  unfold found
  cases e : l.find? b with
  | none => exact absurd hb (List.find?_eq_none.mp e i hi)
  | some j => rw [one j (List.mem_of_find?_eq_some e) i hi (List.find?_some e) hb]
/-- the other walk: at most one place has the same key -/
theorem find_quiet {d : Addr} {v : Value} {h : Int} {o : Obj} {es : Array DictEntry} {ep : Nat} {b : Nat → Bool} {Q : Option Nat → Shared → Prop} (ho : s.heap.get? d = some o) (hd : o.data = .dict es ep)
    (eq : ∀ i ∈ plc es h, ∀ e, es[i]? = some e → SeqAt.EqAt A s e.key v (b i)) (one : ∀ i ∈ plc es h, ∀ j ∈ plc es h, b i = true → b j = true → i = j) (nd : (plc es h).Nodup) (qv : Quiet P w s v) (qs : ∀ i ∈ plc es h, ∀ e, es[i]? = some e → Quiet P w s e.key)
    (ns : ∀ x t, v = .str x t → es.all (fun e => isExactStrKey e.key) = false)
    (nv : ∀ u, (∀ x t, u ≠ Value.str x t) → (∀ a, u ≠ .ref a) → u ≠ .none → v ≠ u)
    (fresh : ∀ a, v = .ref a → es.any (fun e => e.key == v && e.hash != h) = false)
    (q : Q (found b (plc es h)) s) : wpAny (model P w) A (dictFind d v h) Q E s := by
  unfold dictFind
  refine wpAny_holding (wpAny_bind (wpAny_dictEntries ho hd ?_))
  by_cases hp : ((v :: (plc es h).filterMap fun i => es[i]?.map (·.key)).all carriedByValue) = true
  · have wp := walk_plain (P := P) (w := w) (A := A) (E := E) (Q := Q) ho hd eq q
    cases v with
    | str x t =>
      dsimp only
      rw [if_neg (by rw [ns x t rfl]; exact Bool.false_ne_true), if_pos hp]
      exact wp
    | ref a => exact absurd hp (by simp [carriedByValue])
    | _ =>
      dsimp only
      rw [if_pos hp]
      exact wp
  · have qst : ∀ u ∈ (plc es h).filterMap (fun i => es[i]?.map (·.key)), Quiet P w s u := fun u hu => by
      obtain ⟨i, hi, e⟩ := List.mem_filterMap.mp hu
      cases he : es[i]? with
      | none => rw [he] at e; cases e
      | some x =>
        rw [he] at e
        cases e
        exact qs i hi x he
    have len : ((plc es h).filterMap fun i => es[i]?.map (·.key)).length = (plc es h).length := two_len fun i hi => by
      obtain ⟨e, he, _⟩ := plc_mem hi
      rw [he]; rfl
    cases v with
    | str x t =>
      dsimp only
      rw [if_neg (by rw [ns x t rfl]; exact Bool.false_ne_true), if_neg hp]
      by_cases hone : (((plc es h).filterMap fun i => es[i]?.map (·.key)) == [Value.str x t]) = true
      · rw [if_pos hone]
        refine wpAny_bind (wpAny_pure ?_)
        simp only [Bool.false_and, Bool.false_eq_true, if_false]
        refine wpAny_bind (wpAny_forIn_list _ (fun left r z => z = s ∧ ∃ hit, r = (none, hit) ∧ (∀ i ∈ left, i ∈ plc es h) ∧ left.Nodup ∧ ((hit = none ∧ found b left = found b (plc es h)) ∨ ∃ i, hit = some i ∧ i ∈ plc es h ∧ b i = true ∧ i ∉ left)) _ ?_ ?_ _ _ ⟨rfl, none, rfl, fun _ m => m, nd, .inl ⟨rfl, rfl⟩⟩)
        · rintro i left r z ⟨rfl, hit, rfl, sub, lnd, st⟩
          obtain ⟨l1, l2⟩ := List.nodup_cons.mp lnd
          have im := sub i List.mem_cons_self
          obtain ⟨e, he, hh⟩ := plc_mem im
          rw [he]
          dsimp only
          rw [if_pos (by rw [hh]; exact beq_self_eq_true h)]
          refine wpAny_bind (wpAny_dictEpoch ho hd (wpAny_bind (eq i im e he P w _ _ (wpAny_bind (wpAny_dictEpoch ho hd ?_)))))
          rw [if_neg (by simp)]
          cases hb : b i with
          | true =>
            have hn : hit = none := by
              rcases st with ⟨z, _⟩ | ⟨j, _, j1, j2, j3⟩
              · exact z
              · exact absurd (by rw [one j j1 i im j2 hb]; exact List.mem_cons_self) j3
            subst hn
            have f := found_one im hb one
            rw [if_pos rfl, if_neg (by simp)]
            refine wpAny_bind (wpAny_rule ?_)
            split
            · rw [f] at q
              exact wpAny_pure (wpAny_pure q)
            · exact wpAny_pure ⟨rfl, some i, rfl, fun j m => sub j (List.mem_cons_of_mem _ m), l2, .inr ⟨i, rfl, im, hb, l1⟩⟩
          | false =>
            rw [if_neg Bool.false_ne_true]
            refine wpAny_bind (wpAny_rule (wpAny_pure ⟨rfl, hit, rfl, fun j m => sub j (List.mem_cons_of_mem _ m), l2, ?_⟩))
            rcases st with ⟨z, fd⟩ | ⟨j, j0, j1, j2, j3⟩
            · exact .inl ⟨z, by rw [← fd]; unfold found; rw [List.find?_cons, hb]⟩
            · exact .inr ⟨j, j0, j1, j2, fun m => j3 (List.mem_cons_of_mem _ m)⟩
        · rintro r z ⟨rfl, hit, rfl, _, _, st⟩
          rcases st with ⟨z, fd⟩ | ⟨j, rfl, j1, j2, _⟩
          · subst z
            have f : found b (plc es h) = none := by rw [← fd]; rfl
            rw [f] at q
            exact wpAny_pure q
          · rw [found_one j1 j2 one] at q
            exact wpAny_pure q
      · rw [if_neg hone]
        refine wpAny_bind (tell_quiet qv qst ?_)
        simp only [Bool.false_and, Bool.false_eq_true, if_false]
        refine wpAny_bind (wpAny_forIn_list _ (fun left r z => z = s ∧ ∃ hit, r = (none, hit) ∧ (∀ i ∈ left, i ∈ plc es h) ∧ left.Nodup ∧ ((hit = none ∧ found b left = found b (plc es h)) ∨ ∃ i, hit = some i ∧ i ∈ plc es h ∧ b i = true ∧ i ∉ left)) _ ?_ ?_ _ _ ⟨rfl, none, rfl, fun _ m => m, nd, .inl ⟨rfl, rfl⟩⟩)
        · rintro i left r z ⟨rfl, hit, rfl, sub, lnd, st⟩
          obtain ⟨l1, l2⟩ := List.nodup_cons.mp lnd
          have im := sub i List.mem_cons_self
          obtain ⟨e, he, hh⟩ := plc_mem im
          rw [he]
          dsimp only
          rw [if_pos (by rw [hh]; exact beq_self_eq_true h)]
          refine wpAny_bind (wpAny_dictEpoch ho hd (wpAny_bind (eq i im e he P w _ _ (wpAny_bind (wpAny_dictEpoch ho hd ?_)))))
          rw [if_neg (by simp)]
          cases hb : b i with
          | true =>
            have hn : hit = none := by
              rcases st with ⟨z, _⟩ | ⟨j, _, j1, j2, j3⟩
              · exact z
              · exact absurd (by rw [one j j1 i im j2 hb]; exact List.mem_cons_self) j3
            subst hn
            have f := found_one im hb one
            rw [if_pos rfl, if_neg (by simp)]
            refine wpAny_bind (wpAny_rule ?_)
            split
            · rw [f] at q
              exact wpAny_pure (wpAny_pure q)
            · exact wpAny_pure ⟨rfl, some i, rfl, fun j m => sub j (List.mem_cons_of_mem _ m), l2, .inr ⟨i, rfl, im, hb, l1⟩⟩
          | false =>
            rw [if_neg Bool.false_ne_true]
            refine wpAny_bind (wpAny_rule (wpAny_pure ⟨rfl, hit, rfl, fun j m => sub j (List.mem_cons_of_mem _ m), l2, ?_⟩))
            rcases st with ⟨z, fd⟩ | ⟨j, j0, j1, j2, j3⟩
            · exact .inl ⟨z, by rw [← fd]; unfold found; rw [List.find?_cons, hb]⟩
            · exact .inr ⟨j, j0, j1, j2, fun m => j3 (List.mem_cons_of_mem _ m)⟩
        · rintro r z ⟨rfl, hit, rfl, _, _, st⟩
          rcases st with ⟨z, fd⟩ | ⟨j, rfl, j1, j2, _⟩
          · subst z
            have f : found b (plc es h) = none := by rw [← fd]; rfl
            rw [f] at q
            exact wpAny_pure q
          · rw [found_one j1 j2 one] at q
            exact wpAny_pure q
    | ref a =>
      dsimp only
      rw [if_neg hp, if_neg (by rw [fresh a rfl]; exact Bool.false_ne_true)]
      by_cases hone : (((plc es h).filterMap fun i => es[i]?.map (·.key)) == [Value.ref a]) = true
      · rw [if_pos hone]
        refine wpAny_bind (wpAny_pure ?_)
        simp only [Bool.false_and, Bool.false_eq_true, if_false]
        refine wpAny_bind (wpAny_forIn_list _ (fun left r z => z = s ∧ ∃ hit, r = (none, hit) ∧ (∀ i ∈ left, i ∈ plc es h) ∧ left.Nodup ∧ ((hit = none ∧ found b left = found b (plc es h)) ∨ ∃ i, hit = some i ∧ i ∈ plc es h ∧ b i = true ∧ i ∉ left)) _ ?_ ?_ _ _ ⟨rfl, none, rfl, fun _ m => m, nd, .inl ⟨rfl, rfl⟩⟩)
        · rintro i left r z ⟨rfl, hit, rfl, sub, lnd, st⟩
          obtain ⟨l1, l2⟩ := List.nodup_cons.mp lnd
          have im := sub i List.mem_cons_self
          obtain ⟨e, he, hh⟩ := plc_mem im
          rw [he]
          dsimp only
          rw [if_pos (by rw [hh]; exact beq_self_eq_true h)]
          refine wpAny_bind (wpAny_dictEpoch ho hd (wpAny_bind (eq i im e he P w _ _ (wpAny_bind (wpAny_dictEpoch ho hd ?_)))))
          rw [if_neg (by simp)]
          cases hb : b i with
          | true =>
            have hn : hit = none := by
              rcases st with ⟨z, _⟩ | ⟨j, _, j1, j2, j3⟩
              · exact z
              · exact absurd (by rw [one j j1 i im j2 hb]; exact List.mem_cons_self) j3
            subst hn
            have f := found_one im hb one
            rw [if_pos rfl, if_neg (by simp)]
            refine wpAny_bind (wpAny_rule ?_)
            split
            · rw [f] at q
              exact wpAny_pure (wpAny_pure q)
            · exact wpAny_pure ⟨rfl, some i, rfl, fun j m => sub j (List.mem_cons_of_mem _ m), l2, .inr ⟨i, rfl, im, hb, l1⟩⟩
          | false =>
            rw [if_neg Bool.false_ne_true]
            refine wpAny_bind (wpAny_rule (wpAny_pure ⟨rfl, hit, rfl, fun j m => sub j (List.mem_cons_of_mem _ m), l2, ?_⟩))
            rcases st with ⟨z, fd⟩ | ⟨j, j0, j1, j2, j3⟩
            · exact .inl ⟨z, by rw [← fd]; unfold found; rw [List.find?_cons, hb]⟩
            · exact .inr ⟨j, j0, j1, j2, fun m => j3 (List.mem_cons_of_mem _ m)⟩
        · rintro r z ⟨rfl, hit, rfl, _, _, st⟩
          rcases st with ⟨z, fd⟩ | ⟨j, rfl, j1, j2, _⟩
          · subst z
            have f : found b (plc es h) = none := by rw [← fd]; rfl
            rw [f] at q
            exact wpAny_pure q
          · rw [found_one j1 j2 one] at q
            exact wpAny_pure q
      · rw [if_neg hone]
        refine wpAny_bind (tell_quiet qv qst ?_)
        simp only [Bool.false_and, Bool.false_eq_true, if_false]
        refine wpAny_bind (wpAny_forIn_list _ (fun left r z => z = s ∧ ∃ hit, r = (none, hit) ∧ (∀ i ∈ left, i ∈ plc es h) ∧ left.Nodup ∧ ((hit = none ∧ found b left = found b (plc es h)) ∨ ∃ i, hit = some i ∧ i ∈ plc es h ∧ b i = true ∧ i ∉ left)) _ ?_ ?_ _ _ ⟨rfl, none, rfl, fun _ m => m, nd, .inl ⟨rfl, rfl⟩⟩)
        · rintro i left r z ⟨rfl, hit, rfl, sub, lnd, st⟩
          obtain ⟨l1, l2⟩ := List.nodup_cons.mp lnd
          have im := sub i List.mem_cons_self
          obtain ⟨e, he, hh⟩ := plc_mem im
          rw [he]
          dsimp only
          rw [if_pos (by rw [hh]; exact beq_self_eq_true h)]
          refine wpAny_bind (wpAny_dictEpoch ho hd (wpAny_bind (eq i im e he P w _ _ (wpAny_bind (wpAny_dictEpoch ho hd ?_)))))
          rw [if_neg (by simp)]
          cases hb : b i with
          | true =>
            have hn : hit = none := by
              rcases st with ⟨z, _⟩ | ⟨j, _, j1, j2, j3⟩
              · exact z
              · exact absurd (by rw [one j j1 i im j2 hb]; exact List.mem_cons_self) j3
            subst hn
            have f := found_one im hb one
            rw [if_pos rfl, if_neg (by simp)]
            refine wpAny_bind (wpAny_rule ?_)
            split
            · rw [f] at q
              exact wpAny_pure (wpAny_pure q)
            · exact wpAny_pure ⟨rfl, some i, rfl, fun j m => sub j (List.mem_cons_of_mem _ m), l2, .inr ⟨i, rfl, im, hb, l1⟩⟩
          | false =>
            rw [if_neg Bool.false_ne_true]
            refine wpAny_bind (wpAny_rule (wpAny_pure ⟨rfl, hit, rfl, fun j m => sub j (List.mem_cons_of_mem _ m), l2, ?_⟩))
            rcases st with ⟨z, fd⟩ | ⟨j, j0, j1, j2, j3⟩
            · exact .inl ⟨z, by rw [← fd]; unfold found; rw [List.find?_cons, hb]⟩
            · exact .inr ⟨j, j0, j1, j2, fun m => j3 (List.mem_cons_of_mem _ m)⟩
        · rintro r z ⟨rfl, hit, rfl, _, _, st⟩
          rcases st with ⟨z, fd⟩ | ⟨j, rfl, j1, j2, _⟩
          · subst z
            have f : found b (plc es h) = none := by rw [← fd]; rfl
            rw [f] at q
            exact wpAny_pure q
          · rw [found_one j1 j2 one] at q
            exact wpAny_pure q
    | none =>
      dsimp only
      rw [if_neg hp]
      by_cases hone : (((plc es h).filterMap fun i => es[i]?.map (·.key)) == [Value.none]) = true
      · rw [if_pos hone]
        refine wpAny_bind (wpAny_pure ?_)
        simp only [Bool.false_and, Bool.false_eq_true, if_false]
        refine wpAny_bind (wpAny_forIn_list _ (fun left r z => z = s ∧ ∃ hit, r = (none, hit) ∧ (∀ i ∈ left, i ∈ plc es h) ∧ left.Nodup ∧ ((hit = none ∧ found b left = found b (plc es h)) ∨ ∃ i, hit = some i ∧ i ∈ plc es h ∧ b i = true ∧ i ∉ left)) _ ?_ ?_ _ _ ⟨rfl, none, rfl, fun _ m => m, nd, .inl ⟨rfl, rfl⟩⟩)
        · rintro i left r z ⟨rfl, hit, rfl, sub, lnd, st⟩
          obtain ⟨l1, l2⟩ := List.nodup_cons.mp lnd
          have im := sub i List.mem_cons_self
          obtain ⟨e, he, hh⟩ := plc_mem im
          rw [he]
          dsimp only
          rw [if_pos (by rw [hh]; exact beq_self_eq_true h)]
          refine wpAny_bind (wpAny_dictEpoch ho hd (wpAny_bind (eq i im e he P w _ _ (wpAny_bind (wpAny_dictEpoch ho hd ?_)))))
          rw [if_neg (by simp)]
          cases hb : b i with
          | true =>
            have hn : hit = none := by
              rcases st with ⟨z, _⟩ | ⟨j, _, j1, j2, j3⟩
              · exact z
              · exact absurd (by rw [one j j1 i im j2 hb]; exact List.mem_cons_self) j3
            subst hn
            have f := found_one im hb one
            rw [if_pos rfl, if_neg (by simp)]
            refine wpAny_bind (wpAny_rule ?_)
            split
            · rw [f] at q
              exact wpAny_pure (wpAny_pure q)
            · exact wpAny_pure ⟨rfl, some i, rfl, fun j m => sub j (List.mem_cons_of_mem _ m), l2, .inr ⟨i, rfl, im, hb, l1⟩⟩
          | false =>
            rw [if_neg Bool.false_ne_true]
            refine wpAny_bind (wpAny_rule (wpAny_pure ⟨rfl, hit, rfl, fun j m => sub j (List.mem_cons_of_mem _ m), l2, ?_⟩))
            rcases st with ⟨z, fd⟩ | ⟨j, j0, j1, j2, j3⟩
            · exact .inl ⟨z, by rw [← fd]; unfold found; rw [List.find?_cons, hb]⟩
            · exact .inr ⟨j, j0, j1, j2, fun m => j3 (List.mem_cons_of_mem _ m)⟩
        · rintro r z ⟨rfl, hit, rfl, _, _, st⟩
          rcases st with ⟨z, fd⟩ | ⟨j, rfl, j1, j2, _⟩
          · subst z
            have f : found b (plc es h) = none := by rw [← fd]; rfl
            rw [f] at q
            exact wpAny_pure q
          · rw [found_one j1 j2 one] at q
            exact wpAny_pure q
      · rw [if_neg hone]
        refine wpAny_bind (tell_quiet qv qst ?_)
        simp only [Bool.false_and, Bool.false_eq_true, if_false]
        refine wpAny_bind (wpAny_forIn_list _ (fun left r z => z = s ∧ ∃ hit, r = (none, hit) ∧ (∀ i ∈ left, i ∈ plc es h) ∧ left.Nodup ∧ ((hit = none ∧ found b left = found b (plc es h)) ∨ ∃ i, hit = some i ∧ i ∈ plc es h ∧ b i = true ∧ i ∉ left)) _ ?_ ?_ _ _ ⟨rfl, none, rfl, fun _ m => m, nd, .inl ⟨rfl, rfl⟩⟩)
        · rintro i left r z ⟨rfl, hit, rfl, sub, lnd, st⟩
          obtain ⟨l1, l2⟩ := List.nodup_cons.mp lnd
          have im := sub i List.mem_cons_self
          obtain ⟨e, he, hh⟩ := plc_mem im
          rw [he]
          dsimp only
          rw [if_pos (by rw [hh]; exact beq_self_eq_true h)]
          refine wpAny_bind (wpAny_dictEpoch ho hd (wpAny_bind (eq i im e he P w _ _ (wpAny_bind (wpAny_dictEpoch ho hd ?_)))))
          rw [if_neg (by simp)]
          cases hb : b i with
          | true =>
            have hn : hit = none := by
              rcases st with ⟨z, _⟩ | ⟨j, _, j1, j2, j3⟩
              · exact z
              · exact absurd (by rw [one j j1 i im j2 hb]; exact List.mem_cons_self) j3
            subst hn
            have f := found_one im hb one
            rw [if_pos rfl, if_neg (by simp)]
            refine wpAny_bind (wpAny_rule ?_)
            split
            · rw [f] at q
              exact wpAny_pure (wpAny_pure q)
            · exact wpAny_pure ⟨rfl, some i, rfl, fun j m => sub j (List.mem_cons_of_mem _ m), l2, .inr ⟨i, rfl, im, hb, l1⟩⟩
          | false =>
            rw [if_neg Bool.false_ne_true]
            refine wpAny_bind (wpAny_rule (wpAny_pure ⟨rfl, hit, rfl, fun j m => sub j (List.mem_cons_of_mem _ m), l2, ?_⟩))
            rcases st with ⟨z, fd⟩ | ⟨j, j0, j1, j2, j3⟩
            · exact .inl ⟨z, by rw [← fd]; unfold found; rw [List.find?_cons, hb]⟩
            · exact .inr ⟨j, j0, j1, j2, fun m => j3 (List.mem_cons_of_mem _ m)⟩
        · rintro r z ⟨rfl, hit, rfl, _, _, st⟩
          rcases st with ⟨z, fd⟩ | ⟨j, rfl, j1, j2, _⟩
          · subst z
            have f : found b (plc es h) = none := by rw [← fd]; rfl
            rw [f] at q
            exact wpAny_pure q
          · rw [found_one j1 j2 one] at q
            exact wpAny_pure q
    | _ => exact absurd rfl (nv _ (fun _ _ z => nomatch z) (fun _ z => nomatch z) (fun z => nomatch z))
end
end RawD
end

-- RawTup
section
set_option Elab.async false
set_option linter.all false
set_option maxRecDepth 100000
/-! d[t] = v, t a tuple of texts and ints, d's keys texts and ints; d == d behind it. -/
namespace RawD
open PySem L2 PySem.W PySem.Spec PyProof.Rows
theorem flat_key {P : Program} {w : World} {k : Key} {v : Value} (h : (mixKind P w).is k v = true) : (∃ i t, v = .int i t) ∨ ∃ x t, v = .str x t := by
  rcases keyIs_shape h with ⟨i, t, _, rfl⟩ | ⟨x, t, _, rfl⟩
  · exact .inl ⟨i, t, rfl⟩
  · exact .inr ⟨x, t, rfl⟩
theorem plc_nd (es : Array DictEntry) (h : Int) : (plc es h).Nodup := by
  unfold plc placesWithHash
  exact List.Nodup.sublist List.filter_sublist List.nodup_range
section
variable {P : Program} {w : World} {A : Around} {E : Value → Shared → Prop} {s : Shared}
theorem quiet_tup {t : Addr} {ks : List Key} (ht : IsTupleKey (mixKind P w) s.heap ks t) : Quiet P w s (.ref t) := fun A E Q q => (tupleKind (mixKind P w)).quiet (k := ks) ht q
theorem put_tup {d t : Addr} {ks : List Key} {vs : List (Key × Value)} {u : Value} {Q : Unit → Shared → Prop} (hu : A.units + 4 < cLine) (ht : IsTupleKey (mixKind P w) s.heap ks t) (hm : s.heap.DictOf (mixKind P w) d vs) (hsz : vs.length ≤ sizeLine)
    (hQ : ∀ h' (es0 : Array DictEntry) ep, h'.DictRaw d (es0.push ⟨tupleKeyHash (mixKind P w) ks, .ref t, u⟩) ep → KeysOf (mixKind P w) es0 → Pairs (mixKind P w) es0.toList vs → Heap.SameBut d s.heap h' → ∀ tk, Q () { s with heap := h', toks := tk }) :
    wpAny (model P w) A (setItem (.ref d) (.ref t) u) Q E s := by
  obtain ⟨o, es, ep, ho, hc, hd, hk, hp, hn⟩ := id hm
  have hes : es.size = vs.length := by rw [← hp.length]; simp
  obtain ⟨to, tits, tn, to1, to2, to3, to4⟩ := id ht
  unfold setItem
  refine wpAny_holding (wpAny_bind (wpAny_sequenceKey hm.typeIs (by decide) ?_))
  refine wpAny_bind (wpAny_callSpecial?_slot (name := Str.ofString "__setitem__") hm.typeIs slot_dict_setitem
    (wpAny_call_entry slot_dict_setitem hm.typeIs entry_dict_setitem ?_ (args_dict_setitem _ _ _)))
  show wpAny _ _ (Builtin.Dict.notOrdered "__setitem__" ⟨[.ref d, .ref t, u], []⟩ >>= _) _ _ s
  refine wpAny_bind (wpAny_notOrdered_dict hm.typeIs ?_)
  show wpAny _ _ (dictSet d (.ref t) u >>= _) _ _ s
  unfold dictSet
  refine wpAny_bind (wpAny_holding (wpAny_bind (wpAny_pyHash_tuple ?_ ht ?_)))
  · first | (show A.units + 1 < cLine; omega) | (show A.units < cLine; omega) | (show A.units + 1 + 1 < cLine; omega)
  unfold dictSetHashed
  have nokey : ∀ e ∈ es, ∀ a, e.key ≠ .ref a := fun e he a z => by
    obtain ⟨k, h1, _⟩ := hk e he
    rcases flat_key h1 with ⟨i, t, q⟩ | ⟨x, t, q⟩ <;> rw [q] at z <;> cases z
  refine wpAny_holding (wpAny_bind (find_quiet (s := { s with toks := s.toks + (ks.length + 1) }) (b := fun _ => false) ho hd (fun i _ e he => ?_) (fun _ _ _ _ z => nomatch z) (plc_nd _ _) (quiet_tup (s := { s with toks := s.toks + (ks.length + 1) }) ht) (fun i _ e he => ?_) (fun _ _ z => nomatch z) (fun u _ h2 _ z => h2 _ z.symm) (fun a z => ?_) ?_))
  · obtain ⟨k, h1, _⟩ := hk e (Array.mem_of_getElem? he)
    rcases flat_key h1 with ⟨i, t', q⟩ | ⟨x, t', q⟩ <;> rw [q]
    · exact SeqAt.EqAt.int_tuple i t' (items := tits) ⟨to, to1, to2, tn, to3⟩ (by first | (show A.units + 1 < cLine; omega) | (show A.units + 1 + 1 < cLine; omega) | (show A.units < cLine; omega))
    · exact SeqAt.EqAt.str_tuple x t' (items := tits) ⟨to, to1, to2, tn, to3⟩ (by first | (show A.units + 1 < cLine; omega) | (show A.units + 1 + 1 < cLine; omega) | (show A.units < cLine; omega))
  · obtain ⟨k, h1, _⟩ := hk e (Array.mem_of_getElem? he)
    exact quiet_flat ((mixKind P w).byValue k _ h1)
  · rw [← Array.any_toList]
    refine List.any_eq_false.mpr fun e he z => ?_
    rw [Bool.and_eq_true, beq_iff_eq] at z
    exact nokey e (Array.mem_toList_iff.mp he) t z.1
  rw [found_none (fun _ _ => rfl)]
  dsimp only
  refine wpAny_bind (wpAny_rule (wpAny_updateDictKeys (hz := by rw [hes]; exact hsz) ho hd ?_))
  refine wpAny_pure ⟨.none, rfl, wpAny_pure (hQ _ es (ep + 1) ⟨_, Heap.get?_update_self _ ho (Obj.isFreed_of_dict (Obj.data_mapDictKeys hd _)), hc.mapDictKeys _, Obj.data_mapDictKeys hd _⟩ hk hp (Heap.SameBut.update ..) _)⟩
end
end RawD
end

-- RawEq
section
set_option Elab.async false
set_option linter.all false
set_option maxRecDepth 100000
namespace RawD
open PySem L2 PySem.W PySem.Spec PyProof.Rows
section
variable {P : Program} {w : World} {A : Around} {E : Value → Shared → Prop} {s : Shared}
theorem pairs_at {es : List DictEntry} {vs : List (Key × Value)} (h : Pairs (mixKind P w) es vs) : ∀ {i : Nat} {e : DictEntry}, es[i]? = some e → ∃ p, vs[i]? = some p ∧ (mixKind P w).is p.1 e.key = true ∧ e.val = p.2 := by
  induction h with
  | nil => intro i e h; simp at h
  | cons h1 h2 _ ih =>
    intro i e h
    cases i with
    | zero =>
      simp at h
      subst h
      exact ⟨_, rfl, h1, h2⟩
    | succ i => exact ih (by simpa using h)
/-- where a key stands -/
theorem find_self {d t : Addr} {ks : List Key} {o : Obj} {es0 : Array DictEntry} {ep : Nat} {u : Value} {vs : List (Key × Value)} {Q : Option Nat → Shared → Prop} (hu : A.units < cLine) (ht : IsTupleKey (mixKind P w) s.heap ks t) (hk : KeysOf (mixKind P w) es0) (hp : Pairs (mixKind P w) es0.toList vs) (hn : (vs.map (·.1)).Nodup) (str : ∀ p ∈ vs, ∃ x, p.1 = Sum.inr x)
    (ho : s.heap.get? d = some o) (hd : o.data = .dict (es0.push ⟨tupleKeyHash (mixKind P w) ks, .ref t, u⟩) ep) {i : Nat} {e : DictEntry} (he : (es0.push ⟨tupleKeyHash (mixKind P w) ks, .ref t, u⟩)[i]? = some e) (q : Q (some i) s) : wpAny (model P w) A (dictFind d e.key e.hash) Q E s := by
  generalize hht : tupleKeyHash (mixKind P w) ks = ht' at hd he
  obtain ⟨to, tits, tn, to1, to2, to3, to4⟩ := id ht
  have tl : s.heap.IsTuple t tits := ⟨to, to1, to2, tn, to3⟩
  have kind : ∀ {j : Nat} {x : DictEntry}, (es0.push ⟨ht', .ref t, u⟩)[j]? = some x → (j < es0.size ∧ ∃ y tk p, x.key = .str y tk ∧ vs[j]? = some p ∧ p.1 = Sum.inr y) ∨ (j = es0.size ∧ x = ⟨ht', .ref t, u⟩) := by
    intro j x hx
    rw [Array.getElem?_push] at hx
    split at hx
    · rename_i c
      exact .inr ⟨c, (Option.some.inj hx).symm⟩
    · obtain ⟨p, h1, h2, _⟩ := pairs_at hp (i := j) (e := x) (by rw [Array.getElem?_toList]; exact hx)
      obtain ⟨y, hy⟩ := str p (List.mem_of_getElem? h1)
      rw [hy] at h2
      rcases keyIs_shape (show keyIs (Sum.inr y) x.key = true from h2) with ⟨_, _, z, _⟩ | ⟨y', tk, z, k⟩
      · cases z
      · cases z
        exact .inl ⟨(Array.getElem?_eq_some_iff.mp hx).1, y, tk, p, k, h1, hy⟩
  have same : ∀ {j k : Nat} {p q : Key × Value}, vs[j]? = some p → vs[k]? = some q → p.1 = q.1 → j = k := by
    intro j k p q h1 h2 e
    obtain ⟨l1, e1⟩ := List.getElem?_eq_some_iff.mp h1
    obtain ⟨l2, e2⟩ := List.getElem?_eq_some_iff.mp h2
    have l1' : j < (vs.map (·.1)).length := by rw [List.length_map]; exact l1
    have l2' : k < (vs.map (·.1)).length := by rw [List.length_map]; exact l2
    have ee : (vs.map (·.1))[j] = (vs.map (·.1))[k] := by rw [List.getElem_map, List.getElem_map, e1, e2, e]
    exact (List.getElem_inj hn).mp ee
  have inP : i ∈ plc (es0.push ⟨ht', .ref t, u⟩) e.hash := by
    unfold plc placesWithHash
    refine List.mem_filter.mpr ⟨List.mem_range.mpr (Array.getElem?_eq_some_iff.mp he).1, ?_⟩
    dsimp only
    rw [he]
    simp
  refine find_quiet (b := fun j => decide (j = i)) ho hd (fun j _ x hx => ?_) (fun j _ k _ h1 h2 => (of_decide_eq_true h1).trans (of_decide_eq_true h2).symm) (plc_nd _ _) ?_ (fun j _ x hx => ?_) (fun x tk z => ?_) ?_ (fun a z => ?_) (by rw [found_one inP (decide_eq_true rfl) fun j _ k _ h1 h2 => (of_decide_eq_true h1).trans (of_decide_eq_true h2).symm]; exact q)
  · rcases kind hx with ⟨jl, y, tk, p, k1, k2, k3⟩ | ⟨jl, rfl⟩ <;> rcases kind he with ⟨il, y', tk', p', m1, m2, m3⟩ | ⟨il, rfl⟩
    · rw [k1, m1]
      have e1 : decide (j = i) = (y == y') := by
        rw [Bool.eq_iff_iff, decide_eq_true_iff, beq_iff_eq]
        refine ⟨fun z => ?_, fun z => same k2 m2 (by rw [k3, m3, z])⟩
        rw [z, m2] at k2
        cases k2
        rw [k3] at m3
        exact Sum.inr.inj m3
      rw [e1]
      exact SeqAt.EqAt.str_str y tk y' tk'
    · rw [k1, decide_eq_false (by omega)]
      exact SeqAt.EqAt.str_tuple y tk tl hu
    · rw [m1, decide_eq_false (by omega)]
      exact SeqAt.EqAt.tuple_str y' tk' tl hu
    · rw [decide_eq_true (by omega)]
      exact SeqAt.EqAt.same _
  · rcases kind he with ⟨_, y, tk, p, k1, _⟩ | ⟨_, rfl⟩
    · rw [k1]; exact quiet_flat rfl
    · exact quiet_tup ht
  · rcases kind hx with ⟨_, y, tk, p, k1, _⟩ | ⟨_, rfl⟩
    · rw [k1]; exact quiet_flat rfl
    · exact quiet_tup ht
  · rw [← Array.all_toList]
    refine Bool.eq_false_iff.mpr fun z => ?_
    have := List.all_eq_true.mp z ⟨ht', .ref t, u⟩ (by simp)
    exact Bool.false_ne_true this
  · intro v h1 h2 h3 z
    rcases kind he with ⟨_, y, tk, p, k1, _⟩ | ⟨_, rfl⟩
    · exact h1 y tk (by rw [← z, k1])
    · exact h2 t z.symm
  · rw [← Array.any_toList]
    refine List.any_eq_false.mpr fun x hx z2 => ?_
    obtain ⟨j, hj⟩ := List.getElem?_of_mem hx
    rw [Array.getElem?_toList] at hj
    rw [Bool.and_eq_true, beq_iff_eq] at z2
    rcases kind he with ⟨_, y, tk, p, k1, _⟩ | ⟨_, rfl⟩
    · rw [k1] at z; cases z
    · rcases kind hj with ⟨_, y, tk, p, k1, _⟩ | ⟨_, rfl⟩
      · rw [k1] at z2; cases z2.1
      · simp at z2
end
end RawD
end

-- RawHand
section
set_option Elab.async false
set_option linter.all false
set_option maxRecDepth 100000
namespace RawD
open PySem L2 PySem.W PySem.Spec PyProof.Rows
section
variable {P : Program} {w : World} {A : Around} {E : Value → Shared → Prop} {s : Shared}
/-- such a dict has the pairs that it has -/
theorem same_self {nm : String} {d : Addr} {o : Obj} {es : Array DictEntry} {ep : Nat} {Q : Bool → Shared → Prop} (lo : (d == sysModules) = false) (ho : s.heap.get? d = some o) (hd : o.data = .dict es ep)
    (find : ∀ (i : Nat) (e : DictEntry), es[i]? = some e → ∀ (E : Value → Shared → Prop) (Q : Option Nat → Shared → Prop), Q (some i) s → wpAny (model P w) A (dictFind d e.key e.hash) Q E s)
    (q : Q true s) : wpAny (model P w) A (Builtin.Dict.samePairs nm d d) Q E s := by
  unfold Builtin.Dict.samePairs Builtin.Dict.showsAll
  have no : ¬ (d == sysModules) = true := by rw [lo]; exact Bool.false_ne_true
  rw [if_neg no]
  refine wpAny_bind (wpAny_pure (wpAny_bind (wpAny_pure (wpAny_bind (wpAny_dictEntries ho hd ?_)))))
  dsimp only
  refine wpAny_bind (wpAny_dictEntries ho hd ?_)
  rw [if_neg (by simp)]
  refine wpAny_bind (wpAny_dictEpoch ho hd (wpAny_bind ?_))
  rw [Std.Legacy.Range.forIn_eq_forIn_range']
  refine wpAny_forIn_list _ (fun left r z => z = s ∧ r = (none, ()) ∧ ∀ i ∈ left, i < es.size) _ ?_ ?_ _ _ ⟨rfl, rfl, fun i hi => ?_⟩
  · rintro i left r z ⟨rfl, rfl, sub⟩
    have lt := sub i List.mem_cons_self
    have he : es[i]? = some es[i] := Array.getElem?_eq_getElem lt
    refine wpAny_bind (wpAny_dictEntries ho hd ?_)
    rw [he]
    dsimp only
    refine wpAny_bind (wpAny_holding (wpAny_bind (find i _ he _ _ ?_)))
    dsimp only
    refine wpAny_bind (wpAny_dictEntries ho hd ?_)
    rw [he]
    dsimp only
    refine wpAny_holding (SeqAt.EqAt.same (A := A) (s := z) es[i].val P w _ _ ?_)
    simp only [Bool.not_true, Bool.false_eq_true, if_false]
    refine wpAny_bind (wpAny_dictEpoch ho hd ?_)
    rw [if_neg (by simp)]
    exact wpAny_pure ⟨rfl, rfl, fun j m => sub j (List.mem_cons_of_mem _ m)⟩
  · rintro r z ⟨rfl, rfl, _⟩
    exact wpAny_pure q
  · have := List.mem_range'.mp hi
    obtain ⟨k, hk, rfl⟩ := this
    simp [Std.Legacy.Range.size] at hk ⊢
    omega
end
/-- texts as keys, and one tuple behind them -/
def OddS (P : Program) (w : World) (t : Addr) (ks : List Key) (es : Array DictEntry) : Prop := ∃ (es0 : Array DictEntry) (u : Value) (vs : List (Key × Value)), es = es0.push ⟨tupleKeyHash (mixKind P w) ks, .ref t, u⟩ ∧ KeysOf (mixKind P w) es0 ∧ Pairs (mixKind P w) es0.toList vs ∧ (vs.map (·.1)).Nodup ∧ ∀ p ∈ vs, ∃ x, p.1 = Sum.inr x
abbrev TupO (P : Program) (w : World) (a t : Addr) (ks : List Key) (kvs : List (V × V)) : HO := RawO a kvs fun _ es => OddS P w t ks es
theorem tup_new {P : Program} {w : World} {H : Hp} {h : Heap} {a t : Addr} {ks : List Key} {kvs : List (V × V)} {es : Array DictEntry} {ep : Nat} (z : kvs.length ≤ sizeLine) (lo : (a == sysModules) = false) (r : h.DictRaw a es ep) (en : Ents kvs es.toList) (od : OddS P w t ks es) : ObjOk P w H h a (TupO P w a t ks kvs) :=
  ⟨⟨z, lo, es, ep, r, en, od⟩, (let ⟨o, ho, _⟩ := r; ⟨o, ho⟩), fun h1 h2 ⟨z, lo, es, ep, r, en, od⟩ k => ⟨z, lo, es, ep, r.at k, en, od⟩⟩
theorem ents_of {P : Program} {w : World} : ∀ {kvs : List (Key × V)} {vs : List (Key × Value)} {es : List DictEntry}, KV kvs vs → Pairs (mixKind P w) es vs → Ents (kvs.map fun p => (kV p.1, p.2)) es
  | _, _, _, .nil, .nil => .nil
  | _, _, _, .cons r t, .cons h1 h2 t2 => by
    refine .cons ⟨?_, ?_⟩ (ents_of t t2)
    · have r1 := r.1
      show RelV (kV _) _
      rw [r1]
      exact keyIs_rel h1
    · rw [h2]
      exact r.2
theorem ents_snoc {kvs : List (V × V)} {es : List DictEntry} (h : Ents kvs es) {x y : V} {e : DictEntry} (rx : RelV x e.key) (ry : RelV y e.val) : Ents (kvs ++ [(x, y)]) (es ++ [e]) := by
  induction h with
  | nil => exact .cons ⟨rx, ry⟩ .nil
  | cons r _ ih => exact .cons r ih
section
variable {X : Cx}
/-- d[t] = v -/
def sPutT (P : Program) (w : World) (td ty tv : TE) : TS := fun D σ H => tv σ H fun v H1 => td σ H1 fun x H2 => ty σ H2 fun y H3 => ∃ (a t : Addr) (ks : List Key) (kvs : List (Key × V)), x = .ref a ∧ H3 a = some (.dK kvs) ∧ y = .ref t ∧ H3 t = some (.tup (ks.map kV)) ∧ kvs.length < sizeLine ∧ (∀ p ∈ kvs, ∃ x, p.1 = Sum.inr x) ∧
  D.nx σ (upd H3 a (TupO P w a t ks ((kvs.map fun p => (kV p.1, p.2)) ++ [(.ref t, v)])))
theorem ps_putT {o i value : Expr} {td ty tv : TE} {pos pos' : Pos} (hun : X.A.units + 4 < cLine) (ho : PE X o td) (hi : PE X i ty) (hv : PE X value tv) (hs : swapsWith value (some (.Subscript o i pos')) pos.line X.env = pure false) :
    PS X (.Assign [.Subscript o i pos'] value pos) (sPutT X.prog X.w td ty tv) := by
  refine ⟨fun pins s σ H D I h => ?_⟩
  refine wpAny_Assign_Subscript (thn (hv.run pins s σ H _ I h) fun r s1 ⟨v, H1, I1, rv, q1⟩ => thn (ho.run pins s1 σ H1 _ I1 q1) fun u s2 ⟨x, H2, I2, rx, q2⟩ => thn (hi.run pins s2 σ H2 _ I2 q2) fun iv s3 ⟨y, H3, I3, ry, a, t, ks, kvs, ex, hd, ey, ht, few, str, q3⟩ => ?_) hs
  subst ex ey
  obtain rfl : u = Value.ref a := rx
  obtain rfl : iv = Value.ref t := ry
  obtain ⟨z, lo, vs, rel, dd⟩ := dk_of I3.hok hd
  have lk : kvs.length = vs.length := rel.length
  have nd : (vs.map (·.1)).Nodup := let ⟨_, _, _, _, _, _, _, _, n⟩ := dd; n
  have kk : kvs.map (·.1) = vs.map (·.1) := rel.keys
  have sv : ∀ p ∈ vs, ∃ x, p.1 = Sum.inr x := fun p hp => by
    have : p.1 ∈ kvs.map (·.1) := by rw [kk]; exact List.mem_map.mpr ⟨p, hp, rfl⟩
    obtain ⟨q, hq, e⟩ := List.mem_map.mp this
    obtain ⟨x, hx⟩ := str q hq
    exact ⟨x, by rw [← e]; exact hx⟩
  refine put_tup hun (key_of I3.hok ht) dd (by rw [← lk]; exact z) fun h' es0 ep raw hk hp sb tk => ?_
  have he : ∃ q, h'.get? a = some q := let ⟨q, hq, _⟩ := raw; ⟨q, hq⟩
  refine ⟨σ, _, d_write I3 (by rw [hd]; exact True.intro) sb he (tup_new ?_ lo raw ?_ ⟨es0, r, vs, rfl, hk, hp, nd, sv⟩), q3⟩
  · rw [List.length_append, List.length_map]
    exact few
  · rw [Array.toList_push]
    exact ents_snoc (ents_of rel hp) rfl rv
/-- isinstance(x, dict) of a dict told by its entries -/
def rIsiR (K : PySem.W.Frag) : List V → Hp → VK → Prop := fun xs H Q => ∃ (a : Addr) (kvs : List (V × V)) (φ : _) (c : V) (u : Value) (b : Bool), xs = [.ref a, c] ∧ H a = some (RawO a kvs φ) ∧ ClsV c u ∧ PySem.W.kitOne K (.type "dict") u = some b ∧ Q (.bl b) H
theorem call_isiR : CallR X (.builtin "isinstance") (rIsiR X.K) := by
  intro pins s σ H xs us Q I r h
  obtain ⟨a, kvs, φ, c, u, b, rfl, hd, k, e, q⟩ := h
  obtain ⟨u1, u2, rfl, r1, r2⟩ := vals2 r
  have e2 := k.eq r2
  subst e2
  cases (show u1 = Value.ref a from r1)
  obtain ⟨_, _, es, ep, ⟨o, h1, h2, _⟩, _⟩ := raw_at I hd
  exact PySem.W.kia_one PySem.W.kitx_dict I.kIn (show _ from ⟨o, h1, h2.1⟩) e (fun z => nomatch z) fun tk => ⟨.bl b, H, I.tok tk, rfl, q⟩
/-- d == d -/
def rEqT (P : Program) (w : World) : R2 := fun x y H Q => ∃ (a t : Addr) (ks : List Key) (kvs : List (V × V)), x = .ref a ∧ y = .ref a ∧ H a = some (TupO P w a t ks kvs) ∧ H t = some (.tup (ks.map kV)) ∧ Q (.bl true) H
theorem op_eqT (hu : X.A.units + 4 < cLine) : OpR X (compareOp .Eq) (rEqT X.prog X.w) := by
  intro pins s σ H x y v u Q I rx ry h
  obtain ⟨a, t, ks, kvs, rfl, rfl, hd, ht, q⟩ := h
  cases rx
  cases ry
  obtain ⟨_, lo, es, ep, raw, _, es0, u0, vs, rfl, hk, hp, nd, sv⟩ := raw_at I hd
  obtain ⟨o, ho, hc, hdt⟩ := id raw
  refine wpAny_richCompare_same_room (op := .Eq) raw.typeIs raw.typeIs PySem.F.slot_dict_eq (wpAny_call_entry PySem.F.slot_dict_eq raw.typeIs PySem.F.entry_dict_eq ?_ (PySem.F.args_dict_eq_2 _ _)) (by omega)
  show wpAny _ _ (Builtin.Dict.dictSlotArgs "__eq__" ⟨[.ref a, .ref a], []⟩ >>= _) _ _ s
  refine wpAny_bind ?_
  unfold Builtin.Dict.dictSlotArgs
  refine wpAny_bind (wpAny_notOrdered_dict raw.typeIs (wpAny_pure ?_))
  refine wpAny_bind (wpAny_isInstance (T := "dict") raw.typeIs PySem.F.sub_dict_dict ?_)
  simp only [Bool.not_true, Bool.false_eq_true, if_false]
  refine wpAny_bind (wpAny_pure (wpAny_bind (wpAny_pure (wpAny_bind (same_self lo ho hdt (fun i e he E Q q => find_self ?_ (key_of I.hok ht) hk hp nd sv ho hdt he q) ?_)))))
  · first | (show X.A.units < cLine; omega) | (show X.A.units + 1 < cLine; omega) | (show X.A.units + 1 + 1 < cLine; omega)
  exact wpAny_pure ⟨_, rfl, (fun z => nomatch z), .bl true, H, I, rfl, q⟩
end
end RawD
end

-- S8o
section
set_option Elab.async false
set_option linter.all false
set_option maxRecDepth 100000
namespace R6
open PySem L2 OwnOps OwnNe SortStr EqDict SetStr DictList StX G1 RawD NoneD
/-- whether x is a text, as isinstance tells it -/
def IsS (K : PySem.W.Frag) (H : Hp) (x : V) (b : Bool) : Prop := ∃ t, TyX K H x t ∧ PySem.W.kitOne K t (.type "str") = some b
/-- all these are told, and not all are texts -/
def Odd (K : PySem.W.Frag) (H : Hp) (xs : List V) : Prop := xs.length ≤ 2000 ∧ ∃ bs : List Bool, bs.length = xs.length ∧ bs.all id = false ∧ ∀ H', Same H H' → ∀ (j : Nat) (x : V) (b : Bool), xs[j]? = some x → bs[j]? = some b → IsS K H' x b
theorem is_str {K : PySem.W.Frag} {H : Hp} {t : Str} : IsS K H (.str t) true := ⟨_, .base (.str t), kit_ty (by decide +kernel)⟩
theorem is_int {K : PySem.W.Frag} {H : Hp} {i : Int} : IsS K H (.int i) false := ⟨_, .base (.int i), kit_ty (by decide +kernel)⟩
theorem is_bl {K : PySem.W.Frag} {H : Hp} {b : Bool} : IsS K H (.bl b) false := ⟨_, .base (.bl b), kit_ty (by decide +kernel)⟩
theorem is_non {K : PySem.W.Frag} {H : Hp} : IsS K H .non false := ⟨_, .base .non, kit_ty (by decide +kernel)⟩
theorem is_lst {K : PySem.W.Frag} {H : Hp} {a : Addr} {xs : List V} (h : H a = some (.lst xs)) : IsS K H (.ref a) false := ⟨_, .base (.lst h), kit_ty (by decide +kernel)⟩
theorem is_tup {K : PySem.W.Frag} {H : Hp} {a : Addr} {xs : List V} (h : H a = some (.tup xs)) : IsS K H (.ref a) false := ⟨_, .base (.tup h), kit_ty (by decide +kernel)⟩
theorem not_dup : ∀ {xs : List Str}, ¬ xs.Nodup → ∃ i j, i < j ∧ j < xs.length ∧ xs.getD i Str.empty = xs.getD j Str.empty := by
  intro xs h
  by_cases ne : ∃ i j, i < j ∧ j < xs.length ∧ xs.getD i Str.empty = xs.getD j Str.empty
  · exact ne
  · refine absurd ?_ h
    refine List.pairwise_iff_getElem.mpr fun i j hi hj hij e => ne ⟨i, j, hij, hj, ?_⟩
    rw [List.getD_eq_getElem?_getD, List.getD_eq_getElem?_getD, List.getElem?_eq_getElem hi, List.getElem?_eq_getElem hj]
    exact e
section
variable {P : Program} {w : World} {K : PySem.W.Frag} {mg : Str → Option Value} {base : Heap} {C : Addr}
/-- what comes of it -/
def OneT (P : Program) (w : World) (K : PySem.W.Frag) (H : Hp) (x : V) (b : Bool) : Prop :=
  (∃ (a : Addr) (m : Mp), x = .ref a ∧ H a = some (.dK (dS m)) ∧ m.length ≤ 1000 ∧ b = decide (vs m).Nodup) ∨
  (∃ (a : Addr) (kvs : List (Key × V)), x = .ref a ∧ H a = some (.dK kvs) ∧ Odd K H (kvs.map (fun p => kV p.1) ++ (kvs.map (·.2) ++ [])) ∧ b = false) ∨
  (∃ (a : Addr) (kvs : List (Option Key × V)), x = .ref a ∧ H a = some (NoneO P w a kvs) ∧ Odd K H (kvs.map (fun p => kO p.1) ++ (kvs.map (·.2) ++ [])) ∧ b = false) ∨
  (∃ (a : Addr) (kvs : List (V × V)) (φ : Heap → Array DictEntry → Prop), x = .ref a ∧ H a = some (RawO a kvs φ) ∧ Odd K H (kvs.map (·.1) ++ (kvs.map (·.2) ++ [])) ∧ b = false) ∨
  (∃ t, TyX K H x t ∧ PySem.W.kitOne K t (.type "dict") = some false ∧ b = false)
def spOneT (P : Program) (w : World) (K : PySem.W.Frag) : Sp := fun vs H Q _ => ∃ (x : V) (b : Bool), vs = [x] ∧ OneT P w K H x b ∧ ∀ H', Same H H' → Q (.bl b) H'
theorem ok_oneT {f : Addr} {fd : FuncData} (F : Fun K "_is_one_to_one" "_is_one_to_one" sOne f fd) (T : Txt K mg C) : FnOk P w K mg base (L2.CX P w) 1 f fd ["told"] (spOneT P w K) := by
  have sc : FnScope ["told", "places", "text"] ["told"] (defScope sOne) := ⟨rfl, rfl, rfl, by decide +kernel, rfl, by decide +kernel, by decide +kernel⟩
  refine F.okX sc (fun vs H Q E h => ?_) (fun cdv A outer s H vs Q E hr h => ?_)
  · obtain ⟨x, b, rfl, _⟩ := h
    rfl
  · obtain ⟨x, b, rfl, o, k⟩ := h
    rcases o with ⟨a, m, rfl, ha, few, rfl⟩ | ⟨a, kvs, rfl, ha, ⟨n, bs, bl, bf, typ⟩, rfl⟩ | ⟨a, kvs, rfl, ha, ⟨n, bs, bl, bf, typ⟩, rfl⟩ | ⟨a, kvs, φ, rfl, ha, ⟨n, bs, bl, bf, typ⟩, rfl⟩ | ⟨t, ty, kt, rfl⟩
    · refine ⟨_, pss_cons (ps_if (pt_not (pt_val (pe_callB (id := "isinstance") (show CallR _ (.builtin "isinstance") (rIsi K) from call_isi) (by rfl) T.isi (by decide +kernel) (pa_cons (pv 0) (pa_cons (pe_bltn (v := .ty "dict") (by rfl) T.dict (by decide +kernel) rfl) pa_nil))))) (pss_one (ps_ret pe_bl)) pss_nil)
        (pss_cons (ps_set (i := 1) sc.nd rfl (Or.inl rfl) (pe_listV (pv 0) (by rfl) T.list))
        (pss_one (ps_ret (pe_and (pe_callB (cr_all rfl) (by rfl) T.all (by decide +kernel) (pa_cons (pe_lc (own := [("text", 2)]) (g := gName 2) (tt := tYes) rfl sc.nd (pi_list (pe_lst (pa_starD (pv 0) (pa_star (pv 1) pa_nil)))) (blkOk_by (N := ["told", "places", "text"]) (sc := defScope sOne) (by decide +kernel)) (fun _ _ _ _ _ => pg_name (i := 2) sc.nd rfl (Or.inl rfl)) (fun _ _ _ _ _ => pts_nil)
            (fun _ _ _ _ _ => pe_callB (id := "isinstance") (show CallR _ (.builtin "isinstance") (rIsi K) from call_isi) (by rfl) T.isi (by decide +kernel) (pa_cons (pv 2) (pa_cons (pe_bltn (v := .ty "str") (by rfl) T.str (by decide +kernel) rfl) pa_nil)))) pa_nil))
          (pe_one (pe_cmpR op_eq (pe_lenS (by rfl) T.len (by rfl) T.set (pv 1)) (pe_callB call_len_seq (by rfl) T.len PySem.boot_len (pa_cons (pv 1) pa_nil)) (nomark _))))))), ?_⟩
      refine ⟨_, rfl, _, _, _, _, _, rfl, .ty _, .base (.dK ha), kit_ty (r := true) (by decide +kernel), _, rfl, if_neg' rfl ?_⟩
      refine ⟨_, rfl, a, dS m, rfl, .inl ha, fun p hp => ?_⟩
      rw [dS_vals]
      have s1 : Same H (upd H p (.lst ((vs m).map V.str))) := same_upd hp
      have h1 : (upd H p (.lst ((vs m).map V.str))) p = some (.lst ((vs m).map V.str)) := upd_same
      generalize upd H p (.lst ((vs m).map V.str)) = H1 at s1 h1 ⊢
      refine ⟨_, rfl, a, dS m, rfl, .inl (s1 _ _ ha), _, rfl, p, _, rfl, .inr (SqL.of h1), ?_⟩
      have e : (dS m).map (fun p => kV p.1) ++ ((vs m).map V.str ++ []) = (ks m ++ vs m).map V.str := by rw [dS_kV, List.append_nil, List.map_append]
      have n : (ks m ++ vs m).length ≤ 2000 := by
        rw [List.length_append, List.length_map, List.length_map]
        have := few
        omega
      refine ⟨by rw [e, List.length_map]; exact Nat.le_trans n (by decide), fun q hq => ?_⟩
      rw [e]
      refine ⟨q, rfl, ⟨_, SqL.of upd_same⟩, fun D hD => ?_⟩
      have s2 : Same H1 (upd H1 q (.lst ((ks m ++ vs m).map V.str))) := same_upd hq
      have h2 : (upd H1 q (.lst ((ks m ++ vs m).map V.str))) q = some (.lst ((ks m ++ vs m).map V.str)) := upd_same
      generalize upd H1 q (.lst ((ks m ++ vs m).map V.str)) = H2 at s2 h2 hD ⊢
      refine lc_list (K := K) (a := q) (xs := (ks m ++ vs m).map V.str) (fun j G => AllI H2 D j G ∧ j ≤ 2000) ⟨all0 hD, by decide⟩ (fun j G _ i => SqL.of (i.1.1 _ _ h2)) (fun j x G hx ⟨i, _⟩ => ⟨rfl, yes_go ?_⟩) (fun G ⟨i, _⟩ => ?_)
      · obtain ⟨t, ht, rfl⟩ := map_at hx
        have lt : j < (ks m ++ vs m).length := (List.getElem?_eq_some_iff.mp ht).1
        obtain ⟨f1, f2⟩ := i.step hD (Same.refl G)
        exact iteT ⟨_, rfl, _, _, _, _, _, rfl, .ty _, .base (.str t), kit_ty (r := true) (by decide +kernel), _, f1, rep_len (Nat.lt_of_lt_of_le lt (Nat.le_trans n (by decide))), f2, by omega⟩
      · refine ⟨D, _, rfl, SqL.of i.2, _, rfl, if_pos' (rep_all _) ?_⟩
        have n2 : (vs m).length = m.length := List.length_map _
        have h3 := i.1 _ _ (s2 _ _ h1)
        refine ⟨_, rfl, p, vs m, rfl, SqL.of h3, by rw [n2]; exact Nat.le_trans few (by decide), _, rfl, p, _, rfl, .inl (SqL.of h3), rfl, ?_⟩
        have L : ((vs m).map V.str).length = (vs m).length := List.length_map _
        have e9 : decide (V.int (cnt (vs m) (vs m).length : Int) = V.int (((vs m).map V.str).length : Int)) = decide (vs m).Nodup := by
          refine decide_eq_decide.mpr ⟨fun e => ?_, fun h => by rw [L, cnt_nodup h _ (Nat.le_refl _)]⟩
          have e := V.int.inj e
          rw [L] at e
          refine Decidable.byContradiction fun h => ?_
          obtain ⟨i, j, hij, hj, e2⟩ := not_dup h
          have := cnt_bad hij hj e2 (vs m).length hj
          omega
        have k2 := k G (s1.trans (s2.trans i.1))
        rw [← e9] at k2
        exact k2
    · refine ⟨_, pss_cons (ps_if (pt_not (pt_val (pe_callB (id := "isinstance") (show CallR _ (.builtin "isinstance") (rIsi K) from call_isi) (by rfl) T.isi (by decide +kernel) (pa_cons (pv 0) (pa_cons (pe_bltn (v := .ty "dict") (by rfl) T.dict (by decide +kernel) rfl) pa_nil))))) (pss_one (ps_ret pe_bl)) pss_nil)
        (pss_cons (ps_set (i := 1) sc.nd rfl (Or.inl rfl) (pe_listV (pv 0) (by rfl) T.list))
        (pss_one (ps_ret (pe_and (pe_callB (cr_all rfl) (by rfl) T.all (by decide +kernel) (pa_cons (pe_lc (own := [("text", 2)]) (g := gName 2) (tt := tYes) rfl sc.nd (pi_list (pe_lst (pa_starD (pv 0) (pa_star (pv 1) pa_nil)))) (blkOk_by (N := ["told", "places", "text"]) (sc := defScope sOne) (by decide +kernel)) (fun _ _ _ _ _ => pg_name (i := 2) sc.nd rfl (Or.inl rfl)) (fun _ _ _ _ _ => pts_nil)
            (fun _ _ _ _ _ => pe_callB (id := "isinstance") (show CallR _ (.builtin "isinstance") (rIsi K) from call_isi) (by rfl) T.isi (by decide +kernel) (pa_cons (pv 2) (pa_cons (pe_bltn (v := .ty "str") (by rfl) T.str (by decide +kernel) rfl) pa_nil)))) pa_nil))
          (pe_one (pe_cmpR op_eq (pe_lenS (by rfl) T.len (by rfl) T.set (pv 1)) (pe_callB call_len_seq (by rfl) T.len PySem.boot_len (pa_cons (pv 1) pa_nil)) (nomark _))))))), ?_⟩
      refine ⟨_, rfl, _, _, _, _, _, rfl, .ty _, .base (.dK ha), kit_ty (r := true) (by decide +kernel), _, rfl, if_neg' rfl ?_⟩
      refine ⟨_, rfl, a, kvs, rfl, .inl ha, fun p hp => ?_⟩
      have s1 : Same H (upd H p (.lst (kvs.map (·.2)))) := same_upd hp
      have h1 : (upd H p (.lst (kvs.map (·.2)))) p = some (.lst (kvs.map (·.2))) := upd_same
      generalize upd H p (.lst (kvs.map (·.2))) = H1 at s1 h1 ⊢
      refine ⟨_, rfl, a, kvs, rfl, .inl (s1 _ _ ha), _, rfl, p, _, rfl, .inr (SqL.of h1), ?_⟩
      refine ⟨Nat.le_trans n (by decide), fun q hq => ?_⟩
      generalize (kvs.map (fun p => kV p.1) ++ (kvs.map (·.2) ++ [])) = xs at n bl typ ⊢
      refine ⟨q, rfl, ⟨_, SqL.of upd_same⟩, fun D hD => ?_⟩
      have s2 : Same H1 (upd H1 q (.lst xs)) := same_upd hq
      have h2 : (upd H1 q (.lst xs)) q = some (.lst xs) := upd_same
      generalize upd H1 q (.lst xs) = H2 at s2 h2 hD ⊢
      refine lc_list (K := K) (a := q) (xs := xs) (fun j G => Same H2 G ∧ G D = some (.lst ((bs.take j).map V.bl))) ⟨same_upd hD, upd_same⟩ (fun j G _ i => SqL.of (i.1 _ _ h2)) (fun j x G hx ⟨i1, i2⟩ => ⟨rfl, yes_go ?_⟩) (fun G ⟨i1, i2⟩ => ?_)
      · have lt : j < xs.length := (List.getElem?_eq_some_iff.mp hx).1
        have hb : bs[j]? = some bs[j] := List.getElem?_eq_getElem (by omega)
        obtain ⟨t, ty, kt⟩ := typ G ((s1.trans s2).trans i1) j x _ hx hb
        refine iteT ⟨_, rfl, _, _, _, _, _, rfl, .ty _, ty, kt, _, i2, ?_, same_put i1 hD, ?_⟩
        · rw [List.length_map, List.length_take]
          have : min j bs.length ≤ j := Nat.min_le_left _ _
          refine Nat.lt_of_lt_of_le (m := 2000) (by omega) (by decide)
        · rw [upd_same, List.take_succ, hb, List.map_append]
          rfl
      · rw [List.take_of_length_le (by omega)] at i2
        refine ⟨D, bs, rfl, SqL.of i2, _, rfl, if_neg' bf ?_⟩
        exact k G ((s1.trans s2).trans i1)
    · refine ⟨_, pss_cons (ps_if (pt_not (pt_val (pe_callB (id := "isinstance") (show CallR _ (.builtin "isinstance") (rIsiN P w K) from call_isiN) (by rfl) T.isi (by decide +kernel) (pa_cons (pv 0) (pa_cons (pe_bltn (v := .ty "dict") (by rfl) T.dict (by decide +kernel) rfl) pa_nil))))) (pss_one (ps_ret pe_bl)) pss_nil)
        (pss_cons (ps_set (i := 1) sc.nd rfl (Or.inl rfl) (pe_listVN (pv 0) (by rfl) T.list))
        (pss_one (ps_ret (pe_and (pe_callB (cr_all rfl) (by rfl) T.all (by decide +kernel) (pa_cons (pe_lc (own := [("text", 2)]) (g := gName 2) (tt := tYes) rfl sc.nd (pi_list (pe_lst (pa_starN (pv 0) (pa_star (pv 1) pa_nil)))) (blkOk_by (N := ["told", "places", "text"]) (sc := defScope sOne) (by decide +kernel)) (fun _ _ _ _ _ => pg_name (i := 2) sc.nd rfl (Or.inl rfl)) (fun _ _ _ _ _ => pts_nil)
            (fun _ _ _ _ _ => pe_callB (id := "isinstance") (show CallR _ (.builtin "isinstance") (rIsi K) from call_isi) (by rfl) T.isi (by decide +kernel) (pa_cons (pv 2) (pa_cons (pe_bltn (v := .ty "str") (by rfl) T.str (by decide +kernel) rfl) pa_nil)))) pa_nil))
          (pe_one (pe_cmpR op_eq (pe_lenS (by rfl) T.len (by rfl) T.set (pv 1)) (pe_callB call_len_seq (by rfl) T.len PySem.boot_len (pa_cons (pv 1) pa_nil)) (nomark _))))))), ?_⟩
      refine ⟨_, rfl, a, kvs, _, _, _, rfl, ha, .ty _, kit_ty (r := true) (by decide +kernel), _, rfl, if_neg' rfl ?_⟩
      refine ⟨_, rfl, a, kvs, rfl, ha, fun p hp => ?_⟩
      have s1 : Same H (upd H p (.lst (kvs.map (·.2)))) := same_upd hp
      have h1 : (upd H p (.lst (kvs.map (·.2)))) p = some (.lst (kvs.map (·.2))) := upd_same
      generalize upd H p (.lst (kvs.map (·.2))) = H1 at s1 h1 ⊢
      refine ⟨_, rfl, a, kvs, rfl, s1 _ _ ha, _, rfl, p, _, rfl, .inr (SqL.of h1), ?_⟩
      refine ⟨Nat.le_trans n (by decide), fun q hq => ?_⟩
      generalize (kvs.map (fun p => kO p.1) ++ (kvs.map (·.2) ++ [])) = xs at n bl typ ⊢
      refine ⟨q, rfl, ⟨_, SqL.of upd_same⟩, fun D hD => ?_⟩
      have s2 : Same H1 (upd H1 q (.lst xs)) := same_upd hq
      have h2 : (upd H1 q (.lst xs)) q = some (.lst xs) := upd_same
      generalize upd H1 q (.lst xs) = H2 at s2 h2 hD ⊢
      refine lc_list (K := K) (a := q) (xs := xs) (fun j G => Same H2 G ∧ G D = some (.lst ((bs.take j).map V.bl))) ⟨same_upd hD, upd_same⟩ (fun j G _ i => SqL.of (i.1 _ _ h2)) (fun j x G hx ⟨i1, i2⟩ => ⟨rfl, yes_go ?_⟩) (fun G ⟨i1, i2⟩ => ?_)
      · have lt : j < xs.length := (List.getElem?_eq_some_iff.mp hx).1
        have hb : bs[j]? = some bs[j] := List.getElem?_eq_getElem (by omega)
        obtain ⟨t, ty, kt⟩ := typ G ((s1.trans s2).trans i1) j x _ hx hb
        refine iteT ⟨_, rfl, _, _, _, _, _, rfl, .ty _, ty, kt, _, i2, ?_, same_put i1 hD, ?_⟩
        · rw [List.length_map, List.length_take]
          have : min j bs.length ≤ j := Nat.min_le_left _ _
          refine Nat.lt_of_lt_of_le (m := 2000) (by omega) (by decide)
        · rw [upd_same, List.take_succ, hb, List.map_append]
          rfl
      · rw [List.take_of_length_le (by omega)] at i2
        refine ⟨D, bs, rfl, SqL.of i2, _, rfl, if_neg' bf ?_⟩
        exact k G ((s1.trans s2).trans i1)
    · refine ⟨_, pss_cons (ps_if (pt_not (pt_val (pe_callB (id := "isinstance") (show CallR _ (.builtin "isinstance") (rIsiR K) from call_isiR) (by rfl) T.isi (by decide +kernel) (pa_cons (pv 0) (pa_cons (pe_bltn (v := .ty "dict") (by rfl) T.dict (by decide +kernel) rfl) pa_nil))))) (pss_one (ps_ret pe_bl)) pss_nil)
        (pss_cons (ps_set (i := 1) sc.nd rfl (Or.inl rfl) (pe_listVr (pv 0) (by rfl) T.list))
        (pss_one (ps_ret (pe_and (pe_callB (cr_all rfl) (by rfl) T.all (by decide +kernel) (pa_cons (pe_lc (own := [("text", 2)]) (g := gName 2) (tt := tYes) rfl sc.nd (pi_list (pe_lst (pa_starDr (pv 0) (pa_star (pv 1) pa_nil)))) (blkOk_by (N := ["told", "places", "text"]) (sc := defScope sOne) (by decide +kernel)) (fun _ _ _ _ _ => pg_name (i := 2) sc.nd rfl (Or.inl rfl)) (fun _ _ _ _ _ => pts_nil)
            (fun _ _ _ _ _ => pe_callB (id := "isinstance") (show CallR _ (.builtin "isinstance") (rIsi K) from call_isi) (by rfl) T.isi (by decide +kernel) (pa_cons (pv 2) (pa_cons (pe_bltn (v := .ty "str") (by rfl) T.str (by decide +kernel) rfl) pa_nil)))) pa_nil))
          (pe_one (pe_cmpR op_eq (pe_lenS (by rfl) T.len (by rfl) T.set (pv 1)) (pe_callB call_len_seq (by rfl) T.len PySem.boot_len (pa_cons (pv 1) pa_nil)) (nomark _))))))), ?_⟩
      refine ⟨_, rfl, a, kvs, φ, _, _, _, rfl, ha, .ty _, kit_ty (r := true) (by decide +kernel), _, rfl, if_neg' rfl ?_⟩
      refine ⟨_, rfl, a, kvs, φ, rfl, ha, fun p hp => ?_⟩
      have s1 : Same H (upd H p (.lst (kvs.map (·.2)))) := same_upd hp
      have h1 : (upd H p (.lst (kvs.map (·.2)))) p = some (.lst (kvs.map (·.2))) := upd_same
      generalize upd H p (.lst (kvs.map (·.2))) = H1 at s1 h1 ⊢
      refine ⟨_, rfl, a, kvs, φ, rfl, s1 _ _ ha, _, rfl, p, _, rfl, .inr (SqL.of h1), ?_⟩
      refine ⟨Nat.le_trans n (by decide), fun q hq => ?_⟩
      generalize (kvs.map (·.1) ++ (kvs.map (·.2) ++ [])) = xs at n bl typ ⊢
      refine ⟨q, rfl, ⟨_, SqL.of upd_same⟩, fun D hD => ?_⟩
      have s2 : Same H1 (upd H1 q (.lst xs)) := same_upd hq
      have h2 : (upd H1 q (.lst xs)) q = some (.lst xs) := upd_same
      generalize upd H1 q (.lst xs) = H2 at s2 h2 hD ⊢
      refine lc_list (K := K) (a := q) (xs := xs) (fun j G => Same H2 G ∧ G D = some (.lst ((bs.take j).map V.bl))) ⟨same_upd hD, upd_same⟩ (fun j G _ i => SqL.of (i.1 _ _ h2)) (fun j x G hx ⟨i1, i2⟩ => ⟨rfl, yes_go ?_⟩) (fun G ⟨i1, i2⟩ => ?_)
      · have lt : j < xs.length := (List.getElem?_eq_some_iff.mp hx).1
        have hb : bs[j]? = some bs[j] := List.getElem?_eq_getElem (by omega)
        obtain ⟨t, ty, kt⟩ := typ G ((s1.trans s2).trans i1) j x _ hx hb
        refine iteT ⟨_, rfl, _, _, _, _, _, rfl, .ty _, ty, kt, _, i2, ?_, same_put i1 hD, ?_⟩
        · rw [List.length_map, List.length_take]
          have : min j bs.length ≤ j := Nat.min_le_left _ _
          refine Nat.lt_of_lt_of_le (m := 2000) (by omega) (by decide)
        · rw [upd_same, List.take_succ, hb, List.map_append]
          rfl
      · rw [List.take_of_length_le (by omega)] at i2
        refine ⟨D, bs, rfl, SqL.of i2, _, rfl, if_neg' bf ?_⟩
        exact k G ((s1.trans s2).trans i1)
    · refine ⟨_, pss_cons (ps_if (pt_not (pt_val (pe_callB (id := "isinstance") (show CallR _ (.builtin "isinstance") (rIsi K) from call_isi) (by rfl) T.isi (by decide +kernel) (pa_cons (pv 0) (pa_cons (pe_bltn (v := .ty "dict") (by rfl) T.dict (by decide +kernel) rfl) pa_nil))))) (pss_one (ps_ret pe_bl)) pss_nil)
        (pss_cons (ps_set (i := 1) sc.nd rfl (Or.inl rfl) (pe_listV (pv 0) (by rfl) T.list))
        (pss_one (ps_ret (pe_and (pe_callB (cr_all rfl) (by rfl) T.all (by decide +kernel) (pa_cons (pe_lc (own := [("text", 2)]) (g := gName 2) (tt := tYes) rfl sc.nd (pi_list (pe_lst (pa_starD (pv 0) (pa_star (pv 1) pa_nil)))) (blkOk_by (N := ["told", "places", "text"]) (sc := defScope sOne) (by decide +kernel)) (fun _ _ _ _ _ => pg_name (i := 2) sc.nd rfl (Or.inl rfl)) (fun _ _ _ _ _ => pts_nil)
            (fun _ _ _ _ _ => pe_callB (id := "isinstance") (show CallR _ (.builtin "isinstance") (rIsi K) from call_isi) (by rfl) T.isi (by decide +kernel) (pa_cons (pv 2) (pa_cons (pe_bltn (v := .ty "str") (by rfl) T.str (by decide +kernel) rfl) pa_nil)))) pa_nil))
          (pe_one (pe_cmpR op_eq (pe_lenS (by rfl) T.len (by rfl) T.set (pv 1)) (pe_callB call_len_seq (by rfl) T.len PySem.boot_len (pa_cons (pv 1) pa_nil)) (nomark _))))))), ?_⟩
      refine ⟨_, rfl, _, _, _, _, _, rfl, .ty _, ty, kt, _, rfl, if_pos' rfl ?_⟩
      exact k H (Same.refl H)
end
end R6
end

-- S8p
section
set_option Elab.async false
set_option linter.all false
set_option maxRecDepth 100000
set_option exponentiation.threshold 10000
namespace R6
open PySem L2 OwnOps OwnNe SortStr EqDict SetStr DictList StX G1
section
variable {P : Program} {w : World} {K : PySem.W.Frag} {mg : Str → Option Value} {base : Heap} {C CM fM : Addr}
/-- a making that is refused -/
def spMIx (P : Program) (w : World) (K : PySem.W.Frag) (C CM : Addr) : Sp := fun vs H Q E => ∃ (p dx : Addr) (x y v : V), vs = [.ref p, x, y] ∧ H p = some (.ins C dx []) ∧
  ((OneT P w K H x false ∧ v = x) ∨ (OneT P w K H x true ∧ (∀ H', Same H H' → OneT P w K H' y false) ∧ v = y)) ∧ ∀ d H', Same H H' → H' d = some (xd v) → E (.ref CM) (some d) H'
def spMI2 (P : Program) (w : World) (K : PySem.W.Frag) (C CM : Addr) : Sp := fun vs H Q E => spMI C vs H Q E ∨ spMIx P w K C CM vs H Q E
theorem ok_init2 {f : Addr} {fd : FuncData} (F : Fun K "__init__" "Matching.__init__" (sMat 0) f fd) (T : Txt K mg C) (U : ErrM K mg CM fM) (GO : Glb P w K mg base "_is_one_to_one" 1 ["told"] (spOneT P w K)) :
    FnOk P w K mg base (L2.CX P w) 2 f fd ["self", "nets", "ids"] (spMI2 P w K C CM) := by
  obtain ⟨fO, fdO, mO, kO, GO, bO⟩ := GO.ex
  have sc : FnScope NI ["self", "nets", "ids"] (defScope (sMat 0)) := ⟨rfl, rfl, rfl, by decide +kernel, rfl, by decide +kernel, by decide +kernel⟩
  refine F.okX sc (fun vs H Q E h => ?_) (fun cdv A outer s H vs Q E hr h => ?_)
  · rcases h with h | h
    · obtain ⟨p, dx, a, b, n, i, rfl, _⟩ := h
      rfl
    · obtain ⟨p, dx, x, y, v, rfl, _⟩ := h
      rfl
  · have hu : (cxOf (L2.CX P w) P w K mg base NI "Matching.__init__" (defScope (sMat 0)) f cdv A outer s H E).A.units + 1 < cLine := hu_of hr
    rcases h with h | h
    · obtain ⟨p, dx, a, b, n, i, rfl, hp, ha, hb, ab, on, oi, k⟩ := h
      refine ⟨_, pss_cons (ps_if (pt_not (pt_val (pe_call GO hr (by rfl) mO kO bO .nil passL (pa_cons (pv 1) pa_nil)))) (pss_one (ps_raiseGiv rfl PySem.Giv.ok_VE U hr (takes_of rfl rfl rfl rfl) (pa_cons (pv 1) pa_nil) (by rfl))) pss_nil)
        (pss_cons (ps_if (pt_not (pt_val (pe_call GO hr (by rfl) mO kO bO .nil passL (pa_cons (pv 2) pa_nil)))) (pss_one (ps_raiseGiv rfl PySem.Giv.ok_VE U hr (takes_of rfl rfl rfl rfl) (pa_cons (pv 2) pa_nil) (by rfl))) pss_nil)
        (pss_cons (ps_fld (pv 0) (pe_callTy call_dictD (by rfl) T.dict (by decide +kernel) (pa_cons (pv 1) pa_nil)) rfl)
        (pss_cons (ps_fld (pv 0) (pe_callTy call_dictD (by rfl) T.dict (by decide +kernel) (pa_cons (pv 2) pa_nil)) rfl)
        (pss_cons (ps_fld (pv 0) (pe_lc (own := [("net", 3)]) (g := gName 3) (tt := tYes) rfl sc.nd (pi_list (pe_callBK (cr_sortKD rfl hr.units) (by rfl) T.sorted (by decide +kernel) (pa_cons (pv 1) pa_nil) (pk_cons (pe_bltn (v := .ty "str") (by rfl) T.str (by decide +kernel) rfl) pk_nil)))
            (blkOk_by (N := NI) (sc := defScope (sMat 0)) (by decide +kernel)) (fun _ _ _ _ _ => pg_name (i := 3) sc.nd rfl (Or.inl rfl)) (fun _ _ _ _ _ => pts_nil) (fun _ _ _ _ _ => pe_tup (pa_cons (pv 3) (pa_cons (pe_dget hu (pv 1) (pv 3) (fun _ _ => rfl)) pa_nil)))) rfl)
        (pss_one (ps_fld (pv 0) (pe_callB (cr_all rfl) (by rfl) T.all (by decide +kernel) (pa_cons (pe_lock (pe_lock (pe_lc2 (own := [("told", 4), ("one", 5), ("other", 6)]) (vs1 := [5, 6]) (g := gName 4) (g1 := gTup K 2 (gCons (gName 5) (gCons (gName 6) gNil))) (tt := tYes) (tt1 := tYes) rfl sc.nd (pi_tup (pe_tup (pa_cons (pv 1) (pa_cons (pv 2) pa_nil))))
            (blkOk_by (N := NI) (sc := defScope (sMat 0)) (by decide +kernel)) (by decide) (fun _ _ _ _ _ => pg_name (i := 4) sc.nd rfl (Or.inl rfl)) (fun _ _ _ _ _ => pts_nil) (fun _ _ _ _ _ => pi_items (pv 4))
            (fun _ _ _ _ _ => pg_two (i := 5) (j := 6) rfl sc.nd rfl (Or.inl rfl) rfl (Or.inl rfl)) (fun _ _ _ _ _ => pts_nil) (fun _ _ _ _ _ => pe_cmpR op_eq (pv 5) (pv 6) (nomark _))))) pa_nil)) rfl)))))), ?_⟩
      refine ⟨_, rfl, _, true, rfl, .inl ⟨a, n, rfl, ha, on.few, (decide_eq_true on.vn).symm⟩, fun H1 s1 => ⟨_, rfl, if_neg' rfl ?_⟩⟩
      refine ⟨_, rfl, _, true, rfl, .inl ⟨b, i, rfl, s1 _ _ hb, oi.few, (decide_eq_true oi.vn).symm⟩, fun H2 s2 => ⟨_, rfl, if_neg' rfl ?_⟩⟩
      have s02 := s1.trans s2
      have hp2 := s02 _ _ hp
      -- the two dicts
      refine ⟨_, rfl, a, dS n, rfl, .inl (s02 _ _ ha), fun dn ndn => ⟨_, rfl, p, C, dx, _, rfl, same_upd ndn _ _ hp2, T.cl, T.n1, (by show 0 < 1000; decide), ?_⟩⟩
      rw [mF1]
      have x3 : SameX p H (upd (upd H2 dn (.dK (dS n))) p (.ins C dx [("_net_map", .ref dn)])) := ((SameX.of s02).put ndn).trans SameX.upd
      have p3 : (upd (upd H2 dn (.dK (dS n))) p (.ins C dx [("_net_map", .ref dn)])) p = some (.ins C dx [("_net_map", .ref dn)]) := upd_same
      have dp : dn ≠ p := fun z => by rw [z, hp2] at ndn; cases ndn
      have d3 : (upd (upd H2 dn (.dK (dS n))) p (.ins C dx [("_net_map", .ref dn)])) dn = some (.dK (dS n)) := by rw [upd_ne dp, upd_same]
      have ndn0 : H dn = none := Same.none s02 ndn
      have ap : a ≠ p := ne_of ha hp (by intro z; cases z)
      have bp : b ≠ p := ne_of hb hp (by intro z; cases z)
      generalize upd (upd H2 dn (.dK (dS n))) p (.ins C dx [("_net_map", .ref dn)]) = H3 at x3 p3 d3 ⊢
      refine ⟨_, rfl, b, dS i, rfl, .inl (x3 _ _ bp hb), fun di ndi => ⟨_, rfl, p, C, dx, _, rfl, same_upd ndi _ _ p3, T.cl, T.n2, (by show 1 < 1000; decide), ?_⟩⟩
      rw [mF2]
      have x4 : SameX p H3 (upd (upd H3 di (.dK (dS i))) p (.ins C dx [("_net_map", .ref dn), ("_id_map", .ref di)])) := ((SameX.refl p H3).put ndi).trans SameX.upd
      have p4 : (upd (upd H3 di (.dK (dS i))) p (.ins C dx [("_net_map", .ref dn), ("_id_map", .ref di)])) p = some (.ins C dx [("_net_map", .ref dn), ("_id_map", .ref di)]) := upd_same
      have dip : di ≠ p := fun z => by rw [z, p3] at ndi; cases ndi
      have d4 : (upd (upd H3 di (.dK (dS i))) p (.ins C dx [("_net_map", .ref dn), ("_id_map", .ref di)])) di = some (.dK (dS i)) := by rw [upd_ne dip, upd_same]
      have ndi0 : H di = none := SameX.none x3 p3 ndi
      generalize upd (upd H3 di (.dK (dS i))) p (.ins C dx [("_net_map", .ref dn), ("_id_map", .ref di)]) = H4 at x4 p4 d4 ⊢
      have x04 := x3.trans x4
      -- the pairs
      refine ⟨_, rfl, a, dS n, ks n, rfl, rfl, .inl (x04 _ _ ap ha), dS_keys n, fun q nq => ?_⟩
      have s5 : Same H4 (upd H4 q (.lst ((srtS (ks n)).map V.str))) := same_upd nq
      have q5 : (upd H4 q (.lst ((srtS (ks n)).map V.str))) q = some (.lst ((srtS (ks n)).map V.str)) := upd_same
      generalize upd H4 q (.lst ((srtS (ks n)).map V.str)) = H5 at s5 q5 ⊢
      have a5 := s5 _ _ (x04 _ _ ap ha)
      refine ⟨q, rfl, ⟨_, SqL.of q5⟩, fun lp nlp => ?_⟩
      have few : (srtS (ks n)).length ≤ 1000 := by
        rw [srtS_len, List.length_map]
        exact on.few
      refine lc_list (K := K) (a := q) (xs := (srtS (ks n)).map V.str) (fun j G => Same H5 G ∧ ∃ us, G lp = some (.lst (us.map V.ref)) ∧ us.length = j ∧ (∀ u ∈ us, H5 u = none) ∧ PrsAt G us ((pairs n).take j)) ⟨same_upd nlp, [], upd_same, rfl, fun _ h => (nomatch h), ⟨rfl, fun j u p h => by simp at h⟩⟩
        (fun j G _ ⟨sm, _⟩ => SqL.of (sm _ _ q5)) (fun j x G hx ⟨sm, us, hl, len, nu, pa⟩ => ⟨rfl, yes_go ?_⟩) (fun G ⟨sm, us, hl, len, nu, pa⟩ => ?_)
      · obtain ⟨t, ht, rfl⟩ := map_at hx
        have lt : j < (srtS (ks n)).length := (List.getElem?_eq_some_iff.mp ht).1
        have mem : t ∈ ks n := (srtS_perm _).mem_iff.mp (List.mem_of_getElem? ht)
        obtain ⟨v, hv, _⟩ := at_key mem
        have pj : (pairs n)[j]? = some (t, v) := by
          unfold pairs
          rw [List.getElem?_map, ht]
          show some (t, (at_ n t).getD Str.empty) = _
          rw [hv] <;> rfl
        refine iteT ⟨_, rfl, _, rfl, _, rfl, a, .str v, rfl, .inl ⟨dS n, Sum.inr t, .inl (sm _ _ a5), rfl, by rw [dS_at, hv] <;> rfl⟩, (by show 2 ≤ sizeLine; decide), fun T nT => ?_⟩
        have lT : (upd G T (.tup [.str t, .str v])) lp = some (.lst (us.map V.ref)) := same_upd nT _ _ hl
        refine ⟨_, lT, by rw [List.length_map, len]; exact Nat.lt_of_lt_of_le lt (Nat.le_trans few (by decide)), same_put (sm.trans (same_upd nT)) nlp, us ++ [T], ?_, ?_, ?_, ?_⟩
        · rw [upd_same, List.map_append]
          rfl
        · rw [List.length_append, len]
          rfl
        · intro u hu'
          rcases List.mem_append.mp hu' with h | h
          · exact nu u h
          · rw [List.mem_singleton.mp h]
            exact Same.none sm nT
        · have hT : (upd (upd G T (.tup [.str t, .str v])) lp (.lst (us.map V.ref ++ [V.ref T]))) T = some (.tup [.str t, .str v]) := by
            rw [upd_ne (fun z => by rw [z, hl] at nT; cases nT), upd_same]
          refine ⟨?_, fun m u p hm hp' => ?_⟩
          · rw [List.length_append, pa.len, List.length_take, List.length_take]
            have : j < (pairs n).length := (List.getElem?_eq_some_iff.mp pj).1
            show min j _ + 1 = _
            omega
          · by_cases hmj : m < us.length
            · rw [List.getElem?_append_left hmj] at hm
              have hp2 : ((pairs n).take j)[m]? = some p := by
                rw [List.getElem?_take] at hp' ⊢
                rw [if_pos (by omega)] at hp' ⊢
                exact hp'
              have z := pa.at_ m u p hm hp2
              rw [upd_ne (ne_of z hl (by intro w; cases w))]
              exact same_upd nT _ _ z
            · have e2 : m = j := by
                have := (List.getElem?_eq_some_iff.mp hm).1
                rw [List.length_append] at this
                have : m < us.length + 1 := this
                omega
              subst e2
              rw [List.getElem?_append_right (by omega), len, Nat.sub_self] at hm
              cases hm
              rw [List.getElem?_take, if_pos (by omega), pj] at hp'
              cases hp'
              exact hT
      have p6 := sm _ _ (s5 _ _ p4)
      refine ⟨_, rfl, p, C, dx, _, rfl, p6, T.cl, T.n3, (by show 2 < 1000; decide), ?_⟩
      rw [mF3]
      have x7 : SameX p H4 (upd G p (.ins C dx [("_net_map", .ref dn), ("_id_map", .ref di), ("_pairs", .ref lp)])) := (SameX.of (s5.trans sm)).trans SameX.upd
      have x57 : SameX p H5 (upd G p (.ins C dx [("_net_map", .ref dn), ("_id_map", .ref di), ("_pairs", .ref lp)])) := (SameX.of sm).trans SameX.upd
      have xG : SameX p G (upd G p (.ins C dx [("_net_map", .ref dn), ("_id_map", .ref di), ("_pairs", .ref lp)])) := SameX.upd
      have p7 : (upd G p (.ins C dx [("_net_map", .ref dn), ("_id_map", .ref di), ("_pairs", .ref lp)])) p = some (.ins C dx [("_net_map", .ref dn), ("_id_map", .ref di), ("_pairs", .ref lp)]) := upd_same
      have lpp : lp ≠ p := fun z => by rw [z, s5 _ _ p4] at nlp; cases nlp
      generalize upd G p (.ins C dx [("_net_map", .ref dn), ("_id_map", .ref di), ("_pairs", .ref lp)]) = H7 at x7 x57 xG p7 ⊢
      have a7 := x7 _ _ ap (x04 _ _ ap ha)
      have b7 := x7 _ _ bp (x04 _ _ bp hb)
      -- is_identity
      refine ⟨a, .dK (dS n), a7, trivial, fun oa => ⟨b, .dK (dS i), (by rw [upd_ne ab.symm]; exact b7), trivial, fun ob => ?_⟩⟩
      have b7' : (upd H7 a (.frz oa (.dK (dS n)))) b = some (.dK (dS i)) := by rw [upd_ne ab.symm]; exact b7
      have fa : (upd (upd H7 a (.frz oa (.dK (dS n)))) b (.frz ob (.dK (dS i)))) a = some (.frz oa (.dK (dS n))) := by rw [upd_ne ab, upd_same]
      have fb : (upd (upd H7 a (.frz oa (.dK (dS n)))) b (.frz ob (.dK (dS i)))) b = some (.frz ob (.dK (dS i))) := upd_same
      have un : ∀ {G : Hp}, Same (upd (upd H7 a (.frz oa (.dK (dS n)))) b (.frz ob (.dK (dS i)))) G → G b = some (.frz ob (.dK (dS i))) ∧ (upd G b (.dK (dS i))) a = some (.frz oa (.dK (dS n))) ∧ Same H7 (upd (upd G b (.dK (dS i))) a (.dK (dS n))) := fun {G} s => by
        obtain ⟨e1, s1⟩ := same_unlock b7' s
        obtain ⟨e2, s2⟩ := same_unlock a7 s1
        exact ⟨e1, e2, s2⟩
      generalize upd (upd H7 a (.frz oa (.dK (dS n)))) b (.frz ob (.dK (dS i))) = HL at fa fb un ⊢
      refine ⟨_, rfl, _, rfl, (by show 2 ≤ sizeLine; decide), fun tp ntp => ⟨tp, rfl, ⟨_, SqT.of upd_same⟩, fun D nD => ?_⟩⟩
      have sB : Same HL (upd HL tp (.tup [.ref a, .ref b])) := same_upd ntp
      have tB : (upd HL tp (.tup [.ref a, .ref b])) tp = some (.tup [.ref a, .ref b]) := upd_same
      generalize upd HL tp (.tup [.ref a, .ref b]) = B at sB tB nD ⊢
      have few2 : ∀ j, (pick n i j).length ≤ 1000 := fun j => match j with | 0 => on.few | _ + 1 => oi.few
      have frz : ∀ {G : Hp} (j : Nat), Same B G → G (pick a b j) = some (.frz (pick oa ob j) (.dK (dS (pick n i j)))) := fun {G} j s => match j with
        | 0 => s _ _ (sB _ _ fa)
        | _ + 1 => s _ _ (sB _ _ fb)
      refine walk_it (walk_tup (K := K) (a := tp) (xs := [.ref a, .ref b])) (fun j G => Same B G ∧ G D = some (.lst ((cat (pick n i) j).map V.bl))) ⟨same_upd nD, upd_same⟩ (fun j G _ ⟨sm2, _⟩ => SqT.of (sm2 _ _ tB)) (fun j x G G' hj ⟨sm2, hD⟩ ⟨e, hx⟩ => ?_) (fun G2 ⟨sm2, hD⟩ => ?_)
      · subst e
        have e : x = .ref (pick a b j) := by
          match j, hj with
          | 0, _ => exact (Option.some.inj hx).symm
          | 1, _ => exact (Option.some.inj hx).symm
        subst e
        refine ⟨rfl, yes_go (iteT ⟨_, rfl, pick a b j, pick oa ob j, dS (pick n i j), rfl, frz j sm2, ?_⟩)⟩
        refine walk_it walk_items (fun m G => Same B G ∧ G D = some (.lst ((cat (pick n i) j ++ (bl (pick n i j)).take m).map V.bl))) ⟨sm2, by rw [List.take_zero, List.append_nil]; exact hD⟩ (fun m G _ ⟨sm3, _⟩ => frz j sm3) (fun m x G G' hm ⟨sm3, hD3⟩ ⟨T, u, v, e1, nT, e2, hu', hv'⟩ => ?_) (fun G3 ⟨sm3, hD3⟩ => ?_)
        · subst e1 e2
          obtain ⟨r, hr', rfl, rfl⟩ := it_at hu' hv'
          have D4 := same_upd (o := .tup [.str r.1, .str r.2]) nT _ _ hD3
          refine ⟨T, _, rfl, SqT.of upd_same, rfl, _, _, rfl, _, _, rfl, rfl, rfl, yes_go (iteT ⟨_, rfl, _, rfl, rfl, _, D4, ?_, same_put (sm3.trans (same_upd nT)) nD, ?_⟩)⟩
          · rw [List.length_map, List.length_append, List.length_take]
            have h1 := cat_len few2 j
            have h2 := few2 j
            have h3 : j < 2 := hj
            have h4 : m < (pick n i j).length := by rw [← dS_len]; exact hm
            have : min m (bl (pick n i j)).length ≤ m := Nat.min_le_left _ _
            refine Nat.lt_of_lt_of_le (m := 4000) (by omega) (by decide)
          · rw [upd_same, List.take_succ, show (bl (pick n i j))[m]? = some (decide (V.str r.1 = V.str r.2)) from by
              unfold bl
              rw [List.getElem?_map, hr'] <;> rfl, ← List.append_assoc, List.map_append (l₂ := (some (decide (V.str r.1 = V.str r.2))).toList)]
            rfl
        · refine ⟨sm3, ?_⟩
          rw [dS_len] at hD3
          rw [hD3, List.take_of_length_le (by rw [show (bl (pick n i j)).length = (pick n i j).length from List.length_map _]; exact Nat.le_refl _)]
          rfl
      obtain ⟨e1, e2, s8⟩ := un (sB.trans sm2)
      refine ⟨e1, e2, ?_⟩
      have Da : D ≠ a := fun z => by rw [z, sB _ _ fa] at nD; cases nD
      have Db : D ≠ b := fun z => by rw [z, sB _ _ fb] at nD; cases nD
      have D8 : (upd (upd G2 b (.dK (dS i))) a (.dK (dS n))) D = some (.lst ((cat (pick n i) 2).map V.bl)) := by rw [upd_ne Da, upd_ne Db]; exact hD
      generalize upd (upd G2 b (.dK (dS i))) a (.dK (dS n)) = H8 at s8 D8 ⊢
      have al : (cat (pick n i) 2).all id = (isId n && isId i) := by
        show (([] ++ bl n) ++ bl i).all id = _
        rw [List.nil_append, List.all_append, bl_all, bl_all]
      refine ⟨D, _, rfl, SqL.of D8, _, rfl, p, C, dx, _, rfl, s8 _ _ p7, T.cl, T.n4, (by show 3 < 1000; decide), ?_⟩
      rw [mF4, al]
      have x9 : SameX p H7 (upd H8 p (.ins C dx (mf dn di lp (isId n && isId i)))) := (SameX.of s8).trans SameX.upd
      have p9 : (upd H8 p (.ins C dx (mf dn di lp (isId n && isId i)))) p = some (.ins C dx (mf dn di lp (isId n && isId i))) := upd_same
      show { nx := fun _ H' => Q .non H', rt := Q : Ends }.nx _ (upd H8 p (.ins C dx (mf dn di lp (isId n && isId i))))
      generalize upd H8 p (.ins C dx (mf dn di lp (isId n && isId i))) = H9 at x9 p9 ⊢
      have x49 : SameX p H4 H9 := x7.trans x9
      have nus : ∀ u ∈ us, H u = none := fun u hu' => SameX.none x04 p4 (Same.none s5 (nu u hu'))
      refine k H9 (p :: dn :: di :: lp :: us) (x04.trans x49) ⟨dx, dn, di, lp, us, rfl, p9, x49 _ _ dp (x4 _ _ dp d3), x49 _ _ dip d4, (xG.trans x9) _ _ lpp hl, ⟨?_, fun j u r h1 h2 => ?_⟩, on, oi⟩ (fun x hx ne => ?_)
      · rw [pa.len, List.length_take, List.length_map]
        unfold pairs
        rw [List.length_map]
        exact Nat.min_self _
      · have z := pa.at_ j u r h1 (by
          rw [List.length_map, List.take_of_length_le (by unfold pairs; rw [List.length_map]; exact Nat.le_refl _)]
          exact h2)
        exact (xG.trans x9) _ _ (fun w => by rw [w, p6] at z; cases z) z
      · rcases List.mem_cons.mp hx with h | h
        · exact absurd h ne
        rcases List.mem_cons.mp h with h | h
        · rw [h]; exact ndn0
        rcases List.mem_cons.mp h with h | h
        · rw [h]; exact ndi0
        rcases List.mem_cons.mp h with h | h
        · rw [h]; exact SameX.none x04 p4 (Same.none s5 nlp)
        · exact nus x h
    · obtain ⟨p, dx, x, y, v, rfl, hp, o, q⟩ := h
      refine ⟨_, pss_cons (ps_if (pt_not (pt_val (pe_call GO hr (by rfl) mO kO bO .nil passL (pa_cons (pv 1) pa_nil)))) (pss_one (ps_raiseGiv rfl PySem.Giv.ok_VE U hr (takes_of rfl rfl rfl rfl) (pa_cons (pv 1) pa_nil) (by rfl))) pss_nil)
        (pss_cons (ps_if (pt_not (pt_val (pe_call GO hr (by rfl) mO kO bO .nil passL (pa_cons (pv 2) pa_nil)))) (pss_one (ps_raiseGiv rfl PySem.Giv.ok_VE U hr (takes_of rfl rfl rfl rfl) (pa_cons (pv 2) pa_nil) (by rfl))) pss_nil)
        (pss_cons (ps_fld (pv 0) (pe_callTy call_dictD (by rfl) T.dict (by decide +kernel) (pa_cons (pv 1) pa_nil)) rfl)
        (pss_cons (ps_fld (pv 0) (pe_callTy call_dictD (by rfl) T.dict (by decide +kernel) (pa_cons (pv 2) pa_nil)) rfl)
        (pss_cons (ps_fld (pv 0) (pe_lc (own := [("net", 3)]) (g := gName 3) (tt := tYes) rfl sc.nd (pi_list (pe_callBK (cr_sortKD rfl hr.units) (by rfl) T.sorted (by decide +kernel) (pa_cons (pv 1) pa_nil) (pk_cons (pe_bltn (v := .ty "str") (by rfl) T.str (by decide +kernel) rfl) pk_nil)))
            (blkOk_by (N := NI) (sc := defScope (sMat 0)) (by decide +kernel)) (fun _ _ _ _ _ => pg_name (i := 3) sc.nd rfl (Or.inl rfl)) (fun _ _ _ _ _ => pts_nil) (fun _ _ _ _ _ => pe_tup (pa_cons (pv 3) (pa_cons (pe_dget hu (pv 1) (pv 3) (fun _ _ => rfl)) pa_nil)))) rfl)
        (pss_one (ps_fld (pv 0) (pe_callB (cr_all rfl) (by rfl) T.all (by decide +kernel) (pa_cons (pe_lock (pe_lock (pe_lc2 (own := [("told", 4), ("one", 5), ("other", 6)]) (vs1 := [5, 6]) (g := gName 4) (g1 := gTup K 2 (gCons (gName 5) (gCons (gName 6) gNil))) (tt := tYes) (tt1 := tYes) rfl sc.nd (pi_tup (pe_tup (pa_cons (pv 1) (pa_cons (pv 2) pa_nil))))
            (blkOk_by (N := NI) (sc := defScope (sMat 0)) (by decide +kernel)) (by decide) (fun _ _ _ _ _ => pg_name (i := 4) sc.nd rfl (Or.inl rfl)) (fun _ _ _ _ _ => pts_nil) (fun _ _ _ _ _ => pi_items (pv 4))
            (fun _ _ _ _ _ => pg_two (i := 5) (j := 6) rfl sc.nd rfl (Or.inl rfl) rfl (Or.inl rfl)) (fun _ _ _ _ _ => pts_nil) (fun _ _ _ _ _ => pe_cmpR op_eq (pv 5) (pv 6) (nomark _))))) pa_nil)) rfl)))))), ?_⟩
      have fin : ∀ H1, Same H H1 → ∀ d, H1 d = none → E (.ref CM) (some d) (upd H1 d (xd v)) := fun H1 s1 d hd => q d _ (s1.trans (same_upd hd)) upd_same
      rcases o with ⟨o, rfl⟩ | ⟨o, o2, rfl⟩
      · exact ⟨_, rfl, _, false, rfl, o, fun H1 s1 => ⟨_, rfl, if_pos' rfl ⟨_, rfl, _, rfl, fin H1 s1⟩⟩⟩
      · exact ⟨_, rfl, _, true, rfl, o, fun H1 s1 => ⟨_, rfl, if_neg' rfl ⟨_, rfl, _, false, rfl, o2 H1 s1, fun H2 s2 => ⟨_, rfl, if_pos' rfl ⟨_, rfl, _, rfl, fin H2 (s1.trans s2)⟩⟩⟩⟩⟩
end
end R6
end

-- KeyErr
section
set_option Elab.async false
set_option linter.all false
set_option maxRecDepth 100000
set_option maxHeartbeats 2000000
/-! An own error class over KeyError: it is made by LookupError's __new__, so its line of classes is longer than that one's. -/
namespace PySem
namespace Giv
open PySem.W PySem.Calls PyProof.Rows PySem.HandSPX Builtin Builtin.ObjectAttr
abbrev keT : List Value := [.type "KeyError", .type "LookupError", .type "Exception", .type "BaseException", .type "object"]
theorem ke_pass (self : Value) : refuseLoop self "__setattr__" keT = pure () := by
  kernel_rfl
section
variable {M : Model} {A : Around} {E : Value → Shared → Prop} {hp : Heap} {gs : Array GenState} {dw : Drawn} {tk : Nat} {ot : OsState}
variable {n1 n2 : Str} {D N : Addr} {bl ln l0 : List Value} {hs : Bool} {sn : List Str} {su : List Value} {ab : Bool} {co : Option Bool} {dd : Option Addr} {j0 j1 j2 j3 j5 : Option Value} {B nw ini : String}
/-- what the class's line of classes is asked -/
structure Line (B : String) (ln : List Value) : Prop where
  own : ln.contains (.type B) = true
  att : ln.contains (.type "AttributeError") = false
  nam : ln.contains (.type "NameError") = false
theorem Line.own' (z : Line B ln) : (Value.ref D :: ln).contains (.type B) = true := by rw [List.contains_cons, z.own, Bool.or_true]
theorem Line.att' (z : Line B ln) : (Value.ref D :: ln).contains (.type "AttributeError") = false := by rw [List.contains_cons, z.att] <;> rfl
theorem Line.nam' (z : Line B ln) : (Value.ref D :: ln).contains (.type "NameError") = false := by rw [List.contains_cons, z.nam] <;> rfl
abbrev clsO (n1 n2 : Str) (D N : Addr) (bl ln : List Value) (hs : Bool) (sn : List Str) (su : List Value) (ab : Bool) (co : Option Bool) (dd : Option Addr) (j0 j1 j2 j3 j5 : Option Value) (nw : String) : Obj := excClassObj n1 n2 D N bl ln hs sn su ab co dd j0 j1 j2 j3 j5 nw
theorem asks_new (Z : ExcBaseFacts B nw ini l0) (z : Line B ln) {more : List Value} {Q : Unit → Shared → Prop} (at_ : hp.get? D = some (clsO n1 n2 D N bl ln hs sn su ab co dd j0 j1 j2 j3 j5 nw)) (q : Q () ⟨hp, gs, dw, tk, ot⟩) :
    wpAny M A (checkBuiltinCall nw ⟨.ref D :: more, []⟩) Q E ⟨hp, gs, dw, tk, ot⟩ := by
  have y := z.own' (D := D)
  have st := Z.noStar
  simp only [checkBuiltinCall, Z.newKind, Z.newSplit, Z.newRow]
  repeat (first
    | refine wpAny_loadPart_at at_ ?_
    | (refine wpAny_isSubtype_exc at_ ?_; rw [y])
    | refine wpAny_staticBase_exc at_ ?_
    | refine wpAny_madeBy_exc at_ ?_
    | simp only [bne_self_eq_false, Bool.false_eq_true, if_false]
    | wp_step)
  exact q
end
section
variable {prog : Program} {w : World} {A : Around} {E : Value → Shared → Prop} {R : Result → Shared → Prop} {hp : Heap} {gs : Array GenState} {dw : Drawn} {tk : Nat} {ot : OsState}
variable {n1 n2 : Str} {D N : Addr} {bl ln l0 : List Value} {hs : Bool} {sn : List Str} {su : List Value} {ab : Bool} {co : Option Bool} {dd : Option Addr} {j0 j1 j2 j3 j5 : Option Value} {B nw ini : String}
theorem runs_new (Z : ExcBaseFacts B nw ini l0) (z : Line B ln) {more : List Value} (at_ : hp.get? D = some (clsO n1 n2 D N bl ln hs sn su ab co dd j0 j1 j2 j3 j5 nw)) (few : more.length ≤ sizeLine)
    (q : R (.ok (.ret (.ref (hp.objs.size + 1)))) ⟨(hp.push (W.kdv_tup more)).push (excO D hp.objs.size), gs, dw, tk, ot⟩) :
    codeAny (model prog w) A (.builtin nw ⟨.ref D :: more, []⟩) R ⟨hp, gs, dw, tk, ot⟩ := by
  have e0 := Z.ends
  have y0 := z.own' (D := D)
  have y1 := z.att' (D := D)
  have y2 := z.nam' (D := D)
  refine codeAny_builtinAt Z.entry ?_
  unfold Builtin.«BaseException.__new__»
  refine wpAt_bind ?_
  show wpAt _ _ _ (stack >>= _) _ _ _
  refine wpAt_bind (wpAt_stack fun _ _ => wpAt_of_wpAny ?_)
  wp_walk
  refine wpAt_of_wpAny ?_
  rw [Z.owner]
  repeat (first
    | with_reducible refine wpAny_madeHere_exc Z.canon at_ ?_
    | with_reducible refine wpAny_loadPart_at at_ ?_
    | (with_reducible refine wpAny_isSubtype_exc at_ ?_
       first | rw [y0] | rw [y1] | rw [y2])
    | wp_step)
  show R _ _
  rw [Heap.size_push]
  exact q
theorem makes (Z : ExcBaseFacts B nw ini l0) (z : Line B ln) {more : List Value} {fi : Addr} {Q : Fin → Shared → Prop} (at_ : hp.get? D = some (clsO n1 n2 D N bl ln hs sn su ab co dd j0 j1 j2 j3 j5 nw)) (few : more.length ≤ sizeLine)
    (li : W.Looks (model prog w) hp (typeLookup (.ref D) "__init__") (some (.ref fi))) (lb : ∀ x, W.Looks (model prog w) hp (bindSpecial (.ref fi) x) (.ref fi, [x]))
    (q : codeAny (model prog w) A (.call (.ref fi) ⟨.ref (hp.objs.size + 1) :: more, []⟩)
      (fun r s' => match r with
        | .ok (.ret v) => v = .none ∧ Q (.done (.ret (.ref (hp.objs.size + 1)))) s'
        | .ok _ => False
        | .error e => E e s') ⟨(hp.push (W.kdv_tup more)).push (excO D hp.objs.size), gs, dw, tk, ot⟩) :
    wpAny (model prog w) A (Builtin.«type.__call__» ⟨.ref D :: more, []⟩) Q E ⟨hp, gs, dw, tk, ot⟩ := by
  repeat (first
    | with_reducible refine wpAny_loadPart_at at_ ?_
    | with_reducible refine wpAny_madeBy_exc at_ ?_
    | wp_step)
  refine codeAny_call_builtin_code (Code.quiet_builtin _ Z.quiet) (asks_new Z z at_ (runs_new Z z at_ few ?_))
  show wpAny _ _ _ _ _ _
  have old : ∀ b o, hp.get? b = some o → ((hp.push (W.kdv_tup more)).push (excO D hp.objs.size)).get? b = some o := fun b o e => Heap.get?_push_of_some _ (Heap.get?_push_of_some _ e)
  have at2 := old _ _ at_
  have new : ((hp.push (W.kdv_tup more)).push (excO D hp.objs.size)).get? (hp.objs.size + 1) = some (excO D hp.objs.size) := by heap_get
  have self : (Value.ref D :: ln).contains (.ref D) = true := by simp
  have l1 := li.keeps old
  have l2 := (lb (.ref (hp.objs.size + 1))).keeps old
  unfold isInstance
  repeat (first
    | with_reducible refine wpAny_loadPart_at new ?_
    | (with_reducible refine wpAny_isSubtype_exc at2 ?_; rw [self])
    | wp_step)
  show wpAny _ _ (typeLookup (.ref D) _) _ _ _
  refine l1.at ?_
  refine wpAny_holding (wpAny_bind (l2.at ?_))
  refine wpAny_bind (wpAny_call (codeAny_mono q fun r s' x => ?_))
  rcases r with e | (v | _ | _ | _) <;> first | exact x | exact x.elim | skip
  obtain ⟨rfl, x⟩ := x
  first | exact wpAny_pure (wpAny_pure x) | (wp_walk; exact x)
theorem called (Z : ExcBaseFacts B nw ini l0) (z : Line B ln) {more : List Value} {fi : Addr} (at_ : hp.get? D = some (clsO n1 n2 D N bl ln hs sn su ab co dd j0 j1 j2 j3 j5 nw)) (few : more.length ≤ sizeLine)
    (li : W.Looks (model prog w) hp (typeLookup (.ref D) "__init__") (some (.ref fi))) (lb : ∀ x, W.Looks (model prog w) hp (bindSpecial (.ref fi) x) (.ref fi, [x]))
    (q : codeAny (model prog w) (A.under (.builtin "type.__call__" ⟨.ref D :: more, []⟩)) (.call (.ref fi) ⟨.ref (hp.objs.size + 1) :: more, []⟩) (W.InitBack (hp.objs.size + 1) R)
      ⟨(hp.push (W.kdv_tup more)).push (excO D hp.objs.size), gs, dw, tk, ot⟩) :
    codeAny (model prog w) A (.call (.ref D) ⟨more, []⟩) R ⟨hp, gs, dw, tk, ot⟩ := by
  have a1 := tc_lookup
  have a2 := tc_bind (.ref D)
  have ty : (⟨hp, gs, dw, tk, ot⟩ : Shared).TypeIs (.ref D) "type" := ⟨_, at_, rfl⟩
  refine codeAny_of_tree ?_
  show wpAny _ _ (callAny (.ref D) _) _ _ _
  repeat (any_goals (first
    | assumption
    | with_reducible refine wpAny_loadPart_at at_ ?_
    | wp_step))
  refine ⟨rfl, ?_⟩
  refine codeAny_call_builtin_at (Code.quiet_builtin _ (by decide +kernel)) entry_typeCall ?_
  refine wpAny_check_type_call_sub at_ (makes Z z at_ few li lb ?_)
  refine codeAny_mono q fun r s' x => ?_
  rcases r with e | (v | _ | _ | _) <;> exact x
end
end Giv
end PySem
end

-- KeyErr2
section
set_option Elab.async false
set_option linter.all false
set_option maxRecDepth 100000
set_option maxHeartbeats 2000000
namespace PySem
namespace Giv
open PySem.W PySem.Calls PyProof.Rows PySem.HandSPX Builtin Builtin.ObjectAttr
theorem line_of {B : String} {bt bm : List Value} (h : tailIs bt bm = true) (z : Line B bt) : Line B bm := ⟨(tail_has _ _ h).trans z.own, (tail_has _ _ h).trans z.att, (tail_has _ _ h).trans z.nam⟩
/-- a class of errors whose line ends with bt, made by newId -/
structure BaseL (newId : String) (bt : List Value) : Prop where
  base : ∃ B ini l0, ExcBaseFacts B newId ini l0 ∧ Line B bt
  pass : ∀ self, refuseLoop self "__setattr__" bt = pure ()
  obj : bt.contains (.type "object") = true
theorem ke_L : BaseL "LookupError.__new__" keT := ⟨⟨_, _, _, F.excBase_LookupError, ⟨by decide +kernel, by decide +kernel, by decide +kernel⟩⟩, ke_pass, by decide +kernel⟩
section
variable {prog : Program} {w : World} {A : Around} {E : Value → Shared → Prop} {R : Result → Shared → Prop} {s : Shared} {K : Frag} {mg : Str → Option Value} {C fI : Addr} {cn qn : Str} {newId : String} {bt : List Value}
theorem giv_initL (Z : BaseL newId bt) (T : ErrTxt K mg cn qn newId bt C fI) {x t0 : Addr} {v : Value} (X : K.In s.heap) (hlim : s.heap.NoLimit) (hx : s.heap.get? x = some (excO C t0)) (hroom : A.depth < recursionLimit)
    (hq : ∀ h' tk dx, GivEnd s.heap h' x C dx t0 v → R (.ok (.ret .none)) { s with heap := h', toks := tk }) :
    codeAny (model prog w) A (.call (.ref fI) ⟨[.ref x, v], []⟩) R s := by
  obtain ⟨oc, od, doc, pm, an, cdv, ct, osl, p1, p2, q1, q2, q3, q4, ho, hcd⟩ := T.fn
  obtain ⟨nm, q, N, bs, bm, sn, sub, ab, col, dd, k0, k1, k2, k3, k5, hC, hbm⟩ := T.cls
  have hcl : clsIn K C = some { name := nm, bases := bs, mro := .ref C :: bm, ns := N, qualname := q, hasDict := true, slotNames := sn, subclasses := sub, abstract := ab, collection := col, hasDel := false } := by unfold clsIn; rw [hC] <;> rfl
  refine Att.call_fn (binds := [("self", .ref x), ("given", v)]) X hlim ho hcd hroom (BindsTo.of_eq (by first | rfl | with_unfolding_all rfl)) (by first | rfl | decide | with_unfolding_all rfl) (fun s₁ IC => ?_) rfl rfl rfl
  obtain ⟨h₁, tk₁, rfl⟩ := IC.toInCall.same
  have k : ∀ b o, s.heap.get? b = some o → h₁.get? b = some o := IC.toInCall.keep
  have hn := IC.toInCall.ns
  have X₁ : K.In h₁ := X.keeps k
  have hx₁ := k _ _ hx
  show wpAny _ _ (execs _ _) _ _ _
  refine wpAny_execs_cons (plainObj_wpAny_Assign_Attribute ?_)
  refine ldG (v := v) hn (by first | rfl | with_unfolding_all rfl | kernel_rfl) (ldG (v := .ref x) hn (by first | rfl | with_unfolding_all rfl | kernel_rfl) ?_)
  refine set_plain X₁ (ox := excO C t0) (od := none) ⟨hx₁, rfl, rfl, trivial⟩ T.sa ?_
  refine osa_giv Z.pass Z.obj X₁ hx₁ hcl rfl hbm rfl T.noN (fun h₃ tk₃ dx k₃ dn dne hx₃ hn₃ => ?_)
  show wpAny _ _ (execs _ _) _ _ _
  have z : s.heap.objs.size < h₁.objs.size := hn.lt
  exact wpAny_execs_nil (hq h₃ tk₃ dx ⟨fun b o hb e => k₃ b o hb (k b o e), hx₃, Nat.le_of_lt (Nat.lt_of_lt_of_le z dn), dne, hn₃⟩)
theorem giv_madeL (Z : BaseL newId bt) (T : ErrTxt K mg cn qn newId bt C fI) {v : Value} (X : K.In s.heap) (hlim : s.heap.NoLimit) (hroom : A.depth + 1 < recursionLimit)
    (hq : ∀ h' tk e d, GivMade s.heap h' e C d v → R (.ok (.ret (.ref e))) { s with heap := h', toks := tk }) :
    codeAny (model prog w) A (.call (.ref C) ⟨[v], []⟩) R s := by
  obtain ⟨nm, q, N, bs, bm, sn, sub, ab, col, dd, k0, k1, k2, k3, k5, hC, hbm⟩ := T.cls
  obtain ⟨B, ini, l0, ZF, ZL⟩ := Z.base
  obtain ⟨hp, g, dr, tk, os⟩ := s
  have k : ∀ b o, hp.get? b = some o → ((hp.push (kdv_tup [v])).push (excO C hp.objs.size)).get? b = some o := fun b o e => Heap.get?_push_of_some _ (Heap.get?_push_of_some _ e)
  have hget : ((hp.push (kdv_tup [v])).push (excO C hp.objs.size)).get? (hp.objs.size + 1) = some (excO C hp.objs.size) := by heap_get
  refine called ZF (line_of hbm ZL) (X _ _ hC) (one_fits v) (looks_findIn X T.iC) (fun self => bind_fn X self T.tC) ?_
  refine giv_initL (s := ⟨(hp.push (kdv_tup [v])).push (excO C hp.objs.size), g, dr, tk, os⟩) Z T (X.keeps k) (hlim.keeps k) hget ?_ fun h' tk' dx ⟨k', hx, dn, dne, hns⟩ => ?_
  · show A.depth + 1 < recursionLimit
    exact hroom
  · have old : ∀ b o, hp.get? b = some o → h'.get? b = some o := fun b o e => k' b o (Nat.ne_of_lt (Nat.lt_succ_of_lt (Heap.lt_size e))) (k b o e)
    have z : hp.objs.size + 1 + 1 ≤ dx := by
      first
        | (simpa only [Heap.size_push] using dn)
        | exact dn
        | (have q := dn; rw [Heap.size_push, Heap.size_push] at q; exact q)
    exact ⟨rfl, hq h' tk' (hp.objs.size + 1) dx ⟨old, Nat.le_succ _, ⟨_, _, hx, rfl, rfl, rfl, rfl⟩, Nat.le_trans (Nat.le_trans (Nat.le_succ _) (Nat.le_succ _)) z, dne, hns⟩⟩
end
end Giv
end PySem
namespace L2
open PySem PySem.Spec PyProof.Rows
section
variable {X : Cx} {C fI : Addr} {cn qn : Str} {newId : String} {bt : List Value}
theorem pmk_givL {a : Expr} {ta : TA} {p pos : Pos} {k : Nat} (Z : PySem.Giv.BaseL newId bt) (T : PySem.Giv.ErrTxt X.K X.mg cn qn newId bt C fI) (hr : Room k X.A) (ha : PA X [a] ta) (hg : Gl X cn) (hdb : (cn == ("__debug__" : Str)) = false)
    (he : starEach (a :: []) X.env = (false, eval a X.env) :: starEach [] X.env := by rfl) (hpl : (backTo pos (starEach [] X.env)).any (·.1) = false := by rfl) :
    PMk X (.Call (.Name cn p) [a] [] pos) (tMkGiv C ta) := by
  intro pins s σ H Q I h
  refine wpAny_Call_Name_kw (ld_glob I hg T.gC ?_ hdb)
  refine PySem.W.callWith_K (h₀ := X.base) I.ok.mod.kin T.kC (thn (ha.run pos pins s σ H _ I h) fun us s1 hh => ?_) he hpl
  obtain ⟨vs, H1, I1, r1, v, ev, q1⟩ := hh
  subst ev
  refine ⟨I1.kIn, ?_⟩
  cases r1 with
  | cons rv rn =>
    rename_i v' us'
    cases rn
    show wpAny _ _ (call (.ref C) [v']) _ _ _
    have hlim := I1.nolimit
    obtain ⟨hp, g, dr, tk, os⟩ := s1
    refine wpAny_call (PySem.Giv.giv_madeL Z T I1.kIn hlim (by have := hr.dp; omega) fun h' tk' e d M => ?_)
    show MkP X pins σ Q (.ref e) ⟨h', g, dr, tk', os⟩
    obtain ⟨oe, fv, hoe, hc, hd, hdat, h1⟩ := M.obj
    have hns := M.ns
    obtain ⟨G', g1, g2⟩ := restrict h' fun b => decide (b ≠ e)
    have gk : ∀ b, b ≠ e → G'.get? b = h'.get? b := fun b hb => g1 b (decide_eq_true hb)
    have ge : G'.get? e = none := g2 e (by simp)
    have old : ∀ b o, hp.get? b = some o → G'.get? b = some o := fun b o q => (gk b (Nat.ne_of_lt (Nat.lt_of_lt_of_le (Heap.lt_size q) M.new))).trans (M.keep b o q)
    have ob : ObjOk X.prog X.w (upd H1 d (.xd [(("given" : Str), v)])) G' d (.xd [(("given" : Str), v)]) :=
      ⟨_, hns.at (fun o q => (gk d M.dne).trans q), fun f => relO_giv rv f⟩
    have J : L2.Inv X pins σ (upd H1 d (.xd [(("given" : Str), v)])) ⟨G', g, dr, tk', os⟩ := I1.laid (t' := tk') old M.dbig ob
    refine ⟨e, oe, fv, ⟨G', g, dr, tk', os⟩, _, .ref C, some d, rfl, J, fun b o q => ?_, ge, hoe, ⟨hc, hd⟩, hdat, h1, ?_, rfl, I1.bare, raises_own T.exC T.tyC, q1 d (I1.hok.fresh M.dbig)⟩
    · by_cases hb : b = e
      · have q' : G'.get? b = some o := q
        rw [hb, ge] at q'; cases q'
      · exact (gk b hb).symm.trans q
    · rw [upd_ne (Ne.symm M.dne)]
      exact I1.hok.fresh M.new
theorem ps_raiseL {a : Expr} {ta : TA} {W : WX} {p pos pos2 : Pos} {k : Nat} (hc : X.calm = true) (Z : PySem.Giv.BaseL newId bt) (T : PySem.Giv.ErrTxt X.K X.mg cn qn newId bt C fI) (hr : Room k X.A) (tk : Takes X W) (ha : PA X [a] ta) (hg : Gl X cn) (hdb : (cn == ("__debug__" : Str)) = false := by decide)
    (he : starEach (a :: []) X.env = (false, eval a X.env) :: starEach [] X.env := by rfl) (hpl : (backTo pos (starEach [] X.env)).any (·.1) = false := by rfl) :
    PS X (.Raise (some (.Call (.Name cn p) [a] [] pos)) none pos2) (tRaiseGiv C W ta) := ps_raise hc tk (pmk_givL Z T hr ha hg hdb he hpl)
end
end L2
end

-- S8q
section
set_option Elab.async false
set_option linter.all false
set_option maxRecDepth 100000
set_option exponentiation.threshold 10000
namespace R6
open PySem L2 OwnOps OwnNe SortStr EqDict SetStr DictList StX G1
/-- the other error -/
abbrev ErrN (K : PySem.W.Frag) (mg : Str → Option Value) (CU fU : Addr) : Prop := PySem.Giv.ErrTxt K mg "UnknownName" "UnknownName.__init__" "LookupError.__new__" PySem.Giv.keT CU fU
section
variable {P : Program} {w : World} {K : PySem.W.Frag} {mg : Str → Option Value} {base : Heap} {C CU fU : Addr}
/-- a name that is not there -/
def spCallX (K : PySem.W.Frag) (C CU : Addr) (sel : Mp → Mp → Mp) : Sp := fun vs H Q E => ∃ (p : Addr) (x : V) (n i : Mp) (F : List Addr), vs = [.ref p, x] ∧ Mat C H p n i F ∧ (IsS K H x false ∨ ∃ t, x = .str t ∧ at_ (sel n i) t = none) ∧ ∀ d, H d = none → E (.ref CU) (some d) (upd H d (xd x))
def spCall2 (K : PySem.W.Frag) (C CU : Addr) (sel : Mp → Mp → Mp) : Sp := fun vs H Q E => spCall C sel vs H Q E ∨ spCallX K C CU sel vs H Q E
theorem ok_call2 {f : Addr} {fd : FuncData} (F : Fun K "__call__" "Matching.__call__" (sMat 2) f fd) (T : Txt K mg C) (U : ErrN K mg CU fU) : FnOk P w K mg base (L2.CX P w) 2 f fd ["self", "net"] (spCall2 K C CU fun n i => n) := by
  have sc : FnScope ["self", "net"] ["self", "net"] (defScope (sMat 2)) := ⟨rfl, rfl, rfl, by decide +kernel, rfl, by decide +kernel, by decide +kernel⟩
  refine F.okX sc (fun vs H Q E h => ?_) (fun cdv A outer s H vs Q E hr h => ?_)
  · rcases h with h | h
    · obtain ⟨p, k, v, n, i, F, rfl, _⟩ := h
      rfl
    · obtain ⟨p, x, n, i, F, rfl, _⟩ := h
      rfl
  · have hu := hu_of hr
    rcases h with h | h
    · obtain ⟨p, k, v, n, i, F, rfl, ⟨dx, dn, di, lp, us, _, hp, hn, hi, _⟩, hv, q⟩ := h
      refine ⟨_, pss_cons (ps_if (PW.pt (pw_or (pt_not (pt_val (pe_callB call_isi (by rfl) T.isi (by decide +kernel) (pa_cons (pv 1) (pa_cons (pe_bltn (v := .ty "str") (by rfl) T.str (by decide +kernel) rfl) pa_nil))))) (pw_or1 (pt_cmp (pc_dnotin hu (pv 1) (pe_fld (pv 0) rfl)))))) (pss_one ps_never) pss_nil)
        (pss_one (ps_ret (pe_dget hu (pe_fld (pv 0) rfl) (pv 1) (fun _ _ => rfl)))), ?_⟩
      have g : DGet H dn (.str k) (some (.str v)) := .inl ⟨dS n, Sum.inr k, .inl hn, rfl, by rw [dS_at, hv] <;> rfl⟩
      refine ⟨_, rfl, _, _, _, _, _, rfl, .ty _, .base (.str k), kit_ty (r := true) (by decide +kernel), _, rfl, if_neg' rfl ⟨_, rfl, _, rfl, p, C, dx, _, _, rfl, hp, T.cl, T.n1, lk1, dn, _, rfl, g, _, rfl, if_neg' rfl ?_⟩⟩
      exact ⟨_, rfl, p, C, dx, _, _, rfl, hp, T.cl, T.n1, lk1, _, rfl, dn, _, rfl, g, q⟩
    · obtain ⟨p, x, n, i, F, rfl, ⟨dx, dn, di, lp, us, _, hp, hn, hi, _⟩, o, q⟩ := h
      refine ⟨_, pss_cons (ps_if (PW.pt (pw_or (pt_not (pt_val (pe_callB call_isi (by rfl) T.isi (by decide +kernel) (pa_cons (pv 1) (pa_cons (pe_bltn (v := .ty "str") (by rfl) T.str (by decide +kernel) rfl) pa_nil))))) (pw_or1 (pt_cmp (pc_dnotin hu (pv 1) (pe_fld (pv 0) rfl)))))) (pss_one (ps_raiseL rfl PySem.Giv.ke_L U hr (takes_of rfl rfl rfl rfl) (pa_cons (pv 1) pa_nil) (by rfl))) pss_nil)
        (pss_one (ps_ret (pe_dget hu (pe_fld (pv 0) rfl) (pv 1) (fun _ _ => rfl)))), ?_⟩
      rcases o with ⟨t, ty, kt⟩ | ⟨t, rfl, hv⟩
      · exact ⟨_, rfl, _, _, _, _, _, rfl, .ty _, ty, kt, _, rfl, if_pos' rfl ⟨_, rfl, _, rfl, q⟩⟩
      · have g : DGet H dn (.str t) none := .inl ⟨dS n, Sum.inr t, .inl hn, rfl, by rw [dS_at, hv] <;> rfl⟩
        exact ⟨_, rfl, _, _, _, _, _, rfl, .ty _, .base (.str t), kit_ty (r := true) (by decide +kernel), _, rfl, if_neg' rfl ⟨_, rfl, _, rfl, p, C, dx, _, _, rfl, hp, T.cl, T.n1, lk1, dn, _, rfl, g, _, rfl, if_pos' rfl ⟨_, rfl, _, rfl, q⟩⟩⟩
theorem ok_idof2 {f : Addr} {fd : FuncData} (F : Fun K "id_of" "Matching.id_of" (sMat 3) f fd) (T : Txt K mg C) (U : ErrN K mg CU fU) : FnOk P w K mg base (L2.CX P w) 2 f fd ["self", "name"] (spCall2 K C CU fun n i => i) := by
  have sc : FnScope ["self", "name"] ["self", "name"] (defScope (sMat 3)) := ⟨rfl, rfl, rfl, by decide +kernel, rfl, by decide +kernel, by decide +kernel⟩
  refine F.okX sc (fun vs H Q E h => ?_) (fun cdv A outer s H vs Q E hr h => ?_)
  · rcases h with h | h
    · obtain ⟨p, k, v, n, i, F, rfl, _⟩ := h
      rfl
    · obtain ⟨p, x, n, i, F, rfl, _⟩ := h
      rfl
  · have hu := hu_of hr
    rcases h with h | h
    · obtain ⟨p, k, v, n, i, F, rfl, ⟨dx, dn, di, lp, us, _, hp, hn, hi, _⟩, hv, q⟩ := h
      refine ⟨_, pss_cons (ps_if (PW.pt (pw_or (pt_not (pt_val (pe_callB call_isi (by rfl) T.isi (by decide +kernel) (pa_cons (pv 1) (pa_cons (pe_bltn (v := .ty "str") (by rfl) T.str (by decide +kernel) rfl) pa_nil))))) (pw_or1 (pt_cmp (pc_dnotin hu (pv 1) (pe_fld (pv 0) rfl)))))) (pss_one ps_never) pss_nil)
        (pss_one (ps_ret (pe_dget hu (pe_fld (pv 0) rfl) (pv 1) (fun _ _ => rfl)))), ?_⟩
      have g : DGet H di (.str k) (some (.str v)) := .inl ⟨dS i, Sum.inr k, .inl hi, rfl, by rw [dS_at, hv] <;> rfl⟩
      refine ⟨_, rfl, _, _, _, _, _, rfl, .ty _, .base (.str k), kit_ty (r := true) (by decide +kernel), _, rfl, if_neg' rfl ⟨_, rfl, _, rfl, p, C, dx, _, _, rfl, hp, T.cl, T.n2, lk2, di, _, rfl, g, _, rfl, if_neg' rfl ?_⟩⟩
      exact ⟨_, rfl, p, C, dx, _, _, rfl, hp, T.cl, T.n2, lk2, _, rfl, di, _, rfl, g, q⟩
    · obtain ⟨p, x, n, i, F, rfl, ⟨dx, dn, di, lp, us, _, hp, hn, hi, _⟩, o, q⟩ := h
      refine ⟨_, pss_cons (ps_if (PW.pt (pw_or (pt_not (pt_val (pe_callB call_isi (by rfl) T.isi (by decide +kernel) (pa_cons (pv 1) (pa_cons (pe_bltn (v := .ty "str") (by rfl) T.str (by decide +kernel) rfl) pa_nil))))) (pw_or1 (pt_cmp (pc_dnotin hu (pv 1) (pe_fld (pv 0) rfl)))))) (pss_one (ps_raiseL rfl PySem.Giv.ke_L U hr (takes_of rfl rfl rfl rfl) (pa_cons (pv 1) pa_nil) (by rfl))) pss_nil)
        (pss_one (ps_ret (pe_dget hu (pe_fld (pv 0) rfl) (pv 1) (fun _ _ => rfl)))), ?_⟩
      rcases o with ⟨t, ty, kt⟩ | ⟨t, rfl, hv⟩
      · exact ⟨_, rfl, _, _, _, _, _, rfl, .ty _, ty, kt, _, rfl, if_pos' rfl ⟨_, rfl, _, rfl, q⟩⟩
      · have g : DGet H di (.str t) none := .inl ⟨dS i, Sum.inr t, .inl hi, rfl, by rw [dS_at, hv] <;> rfl⟩
        exact ⟨_, rfl, _, _, _, _, _, rfl, .ty _, .base (.str t), kit_ty (r := true) (by decide +kernel), _, rfl, if_neg' rfl ⟨_, rfl, _, rfl, p, C, dx, _, _, rfl, hp, T.cl, T.n2, lk2, di, _, rfl, g, _, rfl, if_pos' rfl ⟨_, rfl, _, rfl, q⟩⟩⟩
end
end R6
end

-- MakeA
section
set_option Elab.async false
set_option linter.all false
set_option maxRecDepth 100000
namespace MakeA
open PySem L2 PySem.W PySem.Spec PyProof.Rows OwnTry TryAs
section
variable {X : Cx} {k : Nat} {f C : Addr} {fd : FuncData} {ps : List Str} {ds : List Value} {dvs : List V} {sp : Sp} {x : Str} {p pos : Pos} {e : Expr} {es : List Expr} {t : TA} {W : WX}
/-- C(e, ..) in a try, as run_make in the library goes -/
theorem run_makeA {pins : List (Addr × Obj)} {σ : L2.St} {H : Hp} {s : Shared} {Q : VK} {us : List Value} {vs : List V} (M : Mk X.K C f) (F : FnOk X.prog X.w X.K X.mg X.base (L2.CX X.prog X.w) k f fd ps sp) (hr : Room (k + 1) X.A) (hb : L2.Binds X.K fd ps ds) (hd : Vals dvs ds)
    (tk : Takes X W) (I : L2.Inv X pins σ H s) (r : Vals vs us)
    (h : ∀ x dx, H x = none → H dx = none → dx ≠ x → sp (.ref x :: (vs ++ dvs)) (upd (upd H dx (.own x)) x (.ins C dx [])) (fun v H2 => v = .non ∧ Q (.ref x) H2) (EA W σ)) :
    wpAny (model X.prog X.w) X.A (call (.ref C) us) (EP X pins σ Q) X.xe s := by
  have hq := h (s.heap.objs.size + 1) s.heap.objs.size (I.hok.fresh (Nat.le_succ _)) (I.hok.fresh (Nat.le_refl _)) (Nat.ne_of_lt (Nat.lt_succ_self _))
  have I2 := Inv.made (C := C) I
  have r2 : Vals (V.ref (s.heap.objs.size + 1) :: (vs ++ dvs)) (Value.ref (s.heap.objs.size + 1) :: (us ++ ds)) := .cons rfl (r.append hd)
  have len : (Value.ref (s.heap.objs.size + 1) :: us ++ ds).length = ps.length := r2.length.symm.trans (F.len _ _ _ _ hq)
  have go := F.run _ X.stack _ _ ⟨Value.ref (s.heap.objs.size + 1) :: us, []⟩ (Value.ref (s.heap.objs.size + 1) :: (us ++ ds)) _ _ (EA W σ) (hr.make C us []) (I2.env0.make C us []) (hb _ (Value.ref (s.heap.objs.size + 1) :: us) I2.kIn len) r2 hq
  refine wpAny_call (make_map (f := f) I.kIn M.makes M.init (beq_iff_eq.mp M.fn) (codeAny_mono go fun res s' got => ?_))
  match res, got with
  | .error u, got => exact out_at tk I2 got
  | .ok (.ret u), got =>
    obtain ⟨v, H', I3, rv, ev, q3⟩ := I2.after got
    subst ev
    exact ⟨rv, V.ref (s.heap.objs.size + 1), H', I3, rfl, q3⟩
  | .ok .next, got => exact got.elim
  | .ok .brk, got => exact got.elim
  | .ok .cont, got => exact got.elim
def tMakeA (C : Addr) (sp : Sp) (dvs : List V) (W : WX) (t : TA) : TE := fun σ H Q => t σ H fun vs H1 => ∀ x dx, H1 x = none → H1 dx = none → dx ≠ x → sp (.ref x :: (vs ++ dvs)) (upd (upd H1 dx (.own x)) x (.ins C dx [])) (fun v H2 => v = .non ∧ Q (.ref x) H2) (EA W σ)
theorem pe_makeA (M : Mk X.K C f) (F : FnOk X.prog X.w X.K X.mg X.base (L2.CX X.prog X.w) k f fd ps sp) (hr : Room (k + 1) X.A) (hg : Gl X x) (hm : X.mg x = some (.ref C)) (hb : L2.Binds X.K fd ps ds) (hd : Vals dvs ds) (tk : Takes X W)
    (ha : PA X (e :: es) t) (hdb : (x == ("__debug__" : Str)) = false := by decide) (he : starEach (e :: es) X.env = (false, eval e X.env) :: starEach es X.env := by rfl) (hpl : (backTo pos (starEach es X.env)).any (·.1) = false := by rfl) :
    PE X (.Call (.Name x p) (e :: es) [] pos) (tMakeA C sp dvs W t) := by
  refine ⟨fun pins s σ H Q I h => ?_⟩
  refine wpAny_Call_Name_kw (ld_glob I hg hm ?_ hdb)
  refine PySem.W.callWith_K (h₀ := X.base) I.ok.mod.kin M.kp (thn (ha.run pos pins s σ H _ I h) fun us s1 ⟨vs, H1, I1, r, q⟩ => ⟨I1.kIn, ?_⟩) he hpl
  exact run_makeA M F hr hb hd tk I1 r q
end
end MakeA
end

-- S8t
section
set_option Elab.async false
set_option linter.all false
set_option maxRecDepth 100000
set_option exponentiation.threshold 10000
namespace R6
open PySem L2 OwnOps OwnNe SortStr EqDict SetStr DictList StX G1 TryAs OwnTry MakeA RawD NoneD
abbrev sUnm : Stmt := top 18
theorem set3 {t : L2.St} (h : t.length = 4) (v : Option V) : (t.set 3 v)[3]? = some v := by
  rw [List.getElem?_set_self (by omega)]
structure Wire (K : PySem.W.Frag) (mg : Str → Option Value) (CM WE : Addr) : Prop where
  gW : mg "WireError" = some (.ref WE)
  kit : PySem.W.kitOne K (.ref CM) (.ref WE) = some true
  kg : KitG K CM
structure Mak2 (P : Program) (w : World) (K : PySem.W.Frag) (mg : Str → Option Value) (base : Heap) (C CM : Addr) : Prop where
  ex : ∃ (fI : Addr) (fd : FuncData), Mk K C fI ∧ FnOk P w K mg base (L2.CX P w) 2 fI fd ["self", "nets", "ids"] (spMI2 P w K C CM) ∧ L2.Binds K fd ["self", "nets", "ids"] []
theorem Mak2.one {P : Program} {w : World} {K : PySem.W.Frag} {mg : Str → Option Value} {base : Heap} {C CM : Addr} (M : Mak2 P w K mg base C CM) : Mak P w K mg base C :=
  let ⟨fI, fd, mkk, F, b⟩ := M.ex; ⟨fI, fd, mkk, F.imp fun _ _ _ _ h => .inl h, b⟩
def rEqAll (P : Program) (w : World) (K : PySem.W.Frag) : R2 := fun x y H Q => ((rEqV K x y H Q ∨ rEqN P w x y H Q) ∨ rEqT P w x y H Q) ∨ rEq x y H Q
theorem op_eqAll {X : Cx} (hu : X.A.units + 64 < cLine) : OpR X (compareOp .Eq) (rEqAll X.prog X.w X.K) := fun pins s σ H x y v u Q I rx ry h =>
  h.elim (fun h => h.elim (fun h => h.elim (fun h => op_eqV hu pins s σ H x y v u Q I rx ry h) fun h => op_eqN (by omega) pins s σ H x y v u Q I rx ry h) fun h => op_eqT (by omega) pins s σ H x y v u Q I rx ry h) fun h => op_eq pins s σ H x y v u Q I rx ry h
/-- equal to itself, as == tells it -/
def SelfEq (P : Program) (w : World) (K : PySem.W.Frag) (H : Hp) (v : V) : Prop := ∀ Q : VK, Q (.bl true) H → rEqAll P w K v v H Q
/-- a making of these two is refused, because of v -/
def Refd (P : Program) (w : World) (K : PySem.W.Frag) (H : Hp) (x y v : V) : Prop :=
  ((∀ H', Same H H' → OneT P w K H' x false) ∧ v = x) ∨ ((∀ H', Same H H' → OneT P w K H' x true) ∧ (∀ H', Same H H' → OneT P w K H' y false) ∧ v = y)
section
variable {P : Program} {w : World} {K : PySem.W.Frag} {mg : Str → Option Value} {base : Heap} {C CM fM WE : Addr}
def spUnm (P : Program) (w : World) (K : PySem.W.Frag) : Sp := fun vs H Q _ => ∃ (x y v : V), vs = [x, y, v] ∧ Refd P w K H x y v ∧ (∀ H', Same H H' → SelfEq P w K H' v) ∧ ∀ H', Same H H' → Q (.bl true) H'
theorem ok_unm {f : Addr} {fd : FuncData} (F : Fun K "_law_unmade" "_law_unmade" sUnm f fd) (T : Txt K mg C) (U : ErrM K mg CM fM) (Wi : Wire K mg CM WE) (M : Mak2 P w K mg base C CM) : FnOk P w K mg base (L2.CX P w) 4 f fd ["_law_nets", "_law_ids", "_law_given"] (spUnm P w K) := by
  obtain ⟨fI, fdI, mk, GI, bI⟩ := M.ex
  have sc : FnScope ["_law_nets", "_law_ids", "_law_given", "e"] ["_law_nets", "_law_ids", "_law_given"] (defScope sUnm) := ⟨rfl, rfl, rfl, by decide +kernel, rfl, by decide +kernel, by decide +kernel⟩
  refine F.okX sc (fun vs H Q E h => ?_) (fun cdv A outer s H vs Q E hr h => ?_)
  · obtain ⟨x, y, v, rfl, _⟩ := h
    rfl
  · obtain ⟨x, y, v, rfl, o, sf, fin⟩ := h
    have u64 := hr.units
    have u4 : (A.deeper (PyProof.Rows.envOfC "_law_unmade" (defScope sUnm) s.heap.objs.size f cdv)).units + 4 < cLine := by omega
    have u0 : (A.deeper (PyProof.Rows.envOfC "_law_unmade" (defScope sUnm) s.heap.objs.size f cdv)).units < cLine := by omega
    refine ⟨_, pss_cons (ps_try_all rfl rfl sc.nd (takes_of rfl rfl rfl rfl) (fun W pn xe tk _ => pss_one (ps_expr (pe_makeA (W := W) mk GI (hr.mono (by decide)) (by rfl) T.gC bI .nil tk (pa_cons (pv 0) (pa_cons (pv 1) pa_nil)))))
        (Clauses.cons (i := 3) rfl rfl ⟨rfl, by decide, .inl U.gC⟩ (fun a oe cls d pn hz hf => pss_one (ps_ret (pe_and (pe_cmpR (show OpR _ (compareOp .Eq) (rEqAll P w K) from op_eqAll u64) (pe_byGiv U hz hf (pv 3)) (pv 2) (nomark _))
          (pe_one (pe_callB (call_isiH hz hf) (by rfl) T.isi (by decide +kernel) (pa_cons (pv 3) (pa_cons (pe_glob (v := .ref WE) (by rfl) Wi.gW rfl) pa_nil))))))) Clauses.nil))
      (pss_one (ps_ret pe_bl)), ?_⟩
    refine ⟨_, rfl, _, rfl, fun p dx hp hd ne => ?_⟩
    have sn := same_new (C := C) hp hd
    refine .inr ⟨p, dx, x, y, v, rfl, upd_same, ?_, fun d H1 sm hd1 => ?_⟩
    · rcases o with ⟨o, e⟩ | ⟨o, o2, e⟩
      · exact .inl ⟨o _ sn, e⟩
      · exact .inr ⟨o _ sn, fun H' s' => o2 H' (sn.trans s'), e⟩
    · have s1 := sn.trans sm
      refine ⟨true, U.te, fun _ a ha => ⟨_, rfl, rfl, rfl, d, _, rfl, hd1, _, rfl, sf H1 s1 _ ⟨_, rfl, if_pos' rfl ⟨_, rfl, CM, d, _, _, _, true, rfl, rfl, rfl, hd1, Wi.kg, .own WE, Wi.kit, fin H1 s1⟩⟩⟩, fun z => nomatch z⟩
end
end R6
end

-- RawSet
section
set_option Elab.async false
set_option linter.all false
set_option maxRecDepth 100000
/-! a store to d[y] whose key is told only at the place: None, a tuple, or a key. -/
namespace RawD
open PySem L2 PySem.W PySem.Spec PyProof.Rows NoneD EqDict
section
variable {X : Cx}
def rSetN (P : Program) (w : World) : TSet := fun o i v H Q => ∃ (a : Addr) (kvs : List (Key × V)), o = .ref a ∧ H a = some (.dK kvs) ∧ i = .non ∧ kvs.length < sizeLine ∧ Q (upd H a (NoneO P w a ((kvs.map fun p => ((some p.1 : Option Key), p.2)) ++ [(none, v)])))
theorem set_none : PSet X (rSetN X.prog X.w) := by
  intro pins s σ H o i v ov iv u Q I ro ri rv h
  obtain ⟨a, kvs, eo, hd, ei, few, q⟩ := h
  subst eo ei
  obtain rfl : ov = Value.ref a := ro
  obtain rfl : iv = Value.none := ri
  obtain ⟨z, lo, vs, rel, dd⟩ := dk_of I.hok hd
  have lk : kvs.length = vs.length := rel.length
  have hz : (vs.map fun p => ((some p.1 : Option Key), p.2)).length ≤ sizeLine := by rw [List.length_map, ← lk]; exact z
  refine wpAny_setItem_pairs (knd := noneKind X.prog X.w) (k := none) (hsz := hz) rfl (lift_none dd) fun h' dd' hs => ?_
  have he : ∃ q, h'.get? a = some q := let ⟨q, _, _, hq, _⟩ := dd'; ⟨q, hq⟩
  have st : stored (vs.map fun p => ((some p.1 : Option Key), p.2)) none u = (vs.map fun p => ((some p.1 : Option Key), p.2)) ++ [(none, u)] := by
    unfold stored
    rw [if_neg]
    intro z
    obtain ⟨q, hq, e⟩ := List.any_eq_true.mp z
    obtain ⟨p, _, rfl⟩ := List.mem_map.mp hq
    exact nomatch (of_decide_eq_true e)
  rw [st] at dd'
  refine ⟨_, d_write I (by rw [hd]; exact True.intro) hs he (none_new ?_ lo ?_ dd'), q⟩
  · rw [List.length_append, List.length_map]
    exact few
  · exact kv_snoc (lift_kv rel) rv
def rSetT (P : Program) (w : World) : TSet := fun o i v H Q => ∃ (a t : Addr) (ks : List Key) (kvs : List (Key × V)), o = .ref a ∧ H a = some (.dK kvs) ∧ i = .ref t ∧ H t = some (.tup (ks.map kV)) ∧ kvs.length < sizeLine ∧ (∀ p ∈ kvs, ∃ x, p.1 = Sum.inr x) ∧
  Q (upd H a (TupO P w a t ks ((kvs.map fun p => (kV p.1, p.2)) ++ [(.ref t, v)])))
theorem set_tup (hun : X.A.units + 4 < cLine) : PSet X (rSetT X.prog X.w) := by
  intro pins s σ H o i v ov iv u Q I ro ri rv h
  obtain ⟨a, t, ks, kvs, eo, hd, ei, ht, few, str, q⟩ := h
  subst eo ei
  obtain rfl : ov = Value.ref a := ro
  obtain rfl : iv = Value.ref t := ri
  obtain ⟨z, lo, vs, rel, dd⟩ := dk_of I.hok hd
  have lk : kvs.length = vs.length := rel.length
  have nd : (vs.map (·.1)).Nodup := let ⟨_, _, _, _, _, _, _, _, n⟩ := dd; n
  have kk : kvs.map (·.1) = vs.map (·.1) := rel.keys
  have sv : ∀ p ∈ vs, ∃ x, p.1 = Sum.inr x := fun p hp => by
    have : p.1 ∈ kvs.map (·.1) := by rw [kk]; exact List.mem_map.mpr ⟨p, hp, rfl⟩
    obtain ⟨q, hq, e⟩ := List.mem_map.mp this
    obtain ⟨x, hx⟩ := str q hq
    exact ⟨x, by rw [← e]; exact hx⟩
  refine put_tup hun (key_of I.hok ht) dd (by rw [← lk]; exact z) fun h' es0 ep raw hk hp sb tk => ?_
  have he : ∃ q, h'.get? a = some q := let ⟨q, hq, _⟩ := raw; ⟨q, hq⟩
  refine ⟨_, d_write I (by rw [hd]; exact True.intro) sb he (tup_new ?_ lo raw ?_ ⟨es0, u, vs, rfl, hk, hp, nd, sv⟩), q⟩
  · rw [List.length_append, List.length_map]
    exact few
  · rw [Array.toList_push]
    exact ents_snoc (ents_of rel hp) rfl rv
/-- any of these -/
def rSetA (P : Program) (w : World) : TSet := fun o i v H Q => rSetD o i v H Q ∨ rSetN P w o i v H Q ∨ rSetT P w o i v H Q
theorem set_any (hu : X.A.units + 4 < cLine) : PSet X (rSetA X.prog X.w) := fun pins s σ H o i v ov iv u Q I ro ri rv h =>
  h.elim (fun h => set_dict (by omega) pins s σ H o i v ov iv u Q I ro ri rv h) fun h => h.elim (fun h => set_none pins s σ H o i v ov iv u Q I ro ri rv h) fun h => set_tup hu pins s σ H o i v ov iv u Q I ro ri rv h
end
end RawD
end

-- S8y0
section
set_option Elab.async false
set_option linter.all false
set_option maxRecDepth 100000
namespace R6
open PySem L2 OwnOps OwnNe SortStr EqDict SetStr DictList StX G1 TryAs OwnTry MakeA RawD NoneD
theorem eqv_self {K : PySem.W.Frag} {H : Hp} {v : V} (h : flatB v = true ∨ ∃ a, v = .ref a) : EqV K H 1 v v := h.elim (fun h => .inl ⟨rfl, h⟩) fun ⟨a, h⟩ => .inr (.inl ⟨a, h, h⟩)
theorem paired_self {E : V → V → Prop} : ∀ {xs : List V}, (∀ x ∈ xs, E x x) → Paired E xs xs
  | [], _ => .nil
  | x :: xs, h => .cons (h x List.mem_cons_self) (paired_self fun y m => h y (List.mem_cons_of_mem _ m))
theorem valV_mem : ∀ {kvs : List (Key × V)}, (kvs.map (·.1)).Nodup → ∀ {p : Key × V}, p ∈ kvs → valV kvs p.1 = some p.2
  | [], _, _, h => nomatch h
  | q :: kvs, nd, p, h => by
    obtain ⟨h1, h2⟩ := List.nodup_cons.mp (show (q.1 :: kvs.map (·.1)).Nodup from nd)
    unfold valV
    rw [List.find?_cons]
    rcases List.mem_cons.mp h with rfl | h
    · rw [decide_eq_true rfl]; rfl
    · have ne : ¬ q.1 = p.1 := fun e => h1 (by rw [e]; exact List.mem_map.mpr ⟨_, h, rfl⟩)
      rw [decide_eq_false ne]
      exact valV_mem h2 h
theorem self_dK {P : Program} {w : World} {K : PySem.W.Frag} {H : Hp} {a : Addr} {kvs : List (Key × V)} (h : H a = some (.dK kvs)) (nd : (kvs.map (·.1)).Nodup) (f : ∀ p ∈ kvs, flatB p.2 = true ∨ ∃ b, p.2 = .ref b) : SelfEq P w K H (.ref a) := fun Q q =>
  .inl (.inl (.inl ⟨1, by decide, .inr ⟨a, a, kvs, kvs, rfl, rfl, h, h, rfl, fun p hp => ⟨p.2, valV_mem nd hp, eqv_self (f p hp)⟩⟩, q⟩))
theorem self_lst {P : Program} {w : World} {K : PySem.W.Frag} {H : Hp} {a : Addr} {xs : List V} (h : H a = some (.lst xs)) (f : ∀ x ∈ xs, flatB x = true ∨ ∃ b, x = .ref b) : SelfEq P w K H (.ref a) := fun Q q =>
  .inl (.inl (.inl ⟨1, by decide, .inl ⟨a, a, xs, xs, rfl, rfl, SqL.of h, SqL.of h, paired_self fun x m => eqv_self (f x m)⟩, q⟩))
theorem self_scal {P : Program} {w : World} {K : PySem.W.Frag} {H : Hp} {v : V} (h : scal v v = true) : SelfEq P w K H v := fun Q q => .inr ⟨h, by rw [decide_eq_true rfl]; exact q⟩
theorem self_none {P : Program} {w : World} {K : PySem.W.Frag} {H : Hp} {a : Addr} {kvs : List (Option Key × V)} (h : H a = some (NoneO P w a kvs)) (nd : (kvs.map (·.1)).Nodup) (f : ∀ p ∈ kvs, flatV p.2 = true) : SelfEq P w K H (.ref a) := fun Q q =>
  .inl (.inl (.inr ⟨a, kvs, rfl, rfl, h, f, nd, q⟩))
theorem self_tup {P : Program} {w : World} {K : PySem.W.Frag} {H : Hp} {a t : Addr} {ks : List Key} {kvs : List (V × V)} (h : H a = some (TupO P w a t ks kvs)) (ht : H t = some (.tup (ks.map kV))) : SelfEq P w K H (.ref a) := fun Q q =>
  .inl (.inr ⟨a, t, ks, kvs, rfl, rfl, h, ht, q⟩)
def strB : V → Bool
  | .str _ => true
  | _ => false
theorem odd_of {K : PySem.W.Frag} {H : Hp} {xs : List V} (n : xs.length ≤ 2000) (all : ∀ x ∈ xs, strB x = true ∨ ∀ H', Same H H' → IsS K H' x false) (ex : ∃ x ∈ xs, strB x = false) : Odd K H xs := by
  refine ⟨n, xs.map strB, List.length_map _, ?_, fun H' s j x b hx hb => ?_⟩
  · obtain ⟨x, hx, e⟩ := ex
    refine List.all_eq_false.mpr ⟨false, List.mem_map.mpr ⟨x, hx, e⟩, by decide⟩
  · rw [List.getElem?_map, hx] at hb
    cases hb
    have m := List.mem_of_getElem? hx
    cases e : strB x with
    | true =>
      cases x with
      | str t => exact is_str
      | _ => cases e
    | false =>
      rcases all x m with h | h
      · rw [e] at h; cases h
      · exact h H' s
theorem put_old {m : Mp} {x : Str} (h : x ∈ ks m) (v : V) : putK (dS m) (Sum.inr x) v = (dS m).map fun kv => if kv.1 = Sum.inr x then (kv.1, v) else kv := by
  unfold putK
  rw [if_pos]
  obtain ⟨r, hr, e⟩ := List.mem_map.mp h
  exact List.any_eq_true.mpr ⟨_, List.mem_map.mpr ⟨r, hr, rfl⟩, decide_eq_true (congrArg Sum.inr e)⟩
theorem put_old_keys {m : Mp} {x : Str} (h : x ∈ ks m) (v : V) : (putK (dS m) (Sum.inr x) v).map (·.1) = (dS m).map (·.1) := by
  rw [put_old h, List.map_map]
  refine List.map_congr_left fun p _ => ?_
  show (if p.1 = Sum.inr x then (p.1, v) else p).1 = p.1
  split <;> rfl
theorem put_old_vals {m : Mp} {x : Str} (h : x ∈ ks m) (v : V) {p : Key × V} (hp : p ∈ putK (dS m) (Sum.inr x) v) : p.2 = v ∨ ∃ t, p.2 = .str t := by
  rw [put_old h] at hp
  obtain ⟨q, hq, rfl⟩ := List.mem_map.mp hp
  split
  · exact .inl rfl
  · obtain ⟨r, _, rfl⟩ := List.mem_map.mp hq
    exact .inr ⟨_, rfl⟩
theorem put_old_mem {m : Mp} {x : Str} (h : x ∈ ks m) (v : V) : (Sum.inr x, v) ∈ putK (dS m) (Sum.inr x) v := by
  rw [put_old h]
  obtain ⟨r, hr, e⟩ := List.mem_map.mp h
  refine List.mem_map.mpr ⟨(Sum.inr r.1, .str r.2), List.mem_map.mpr ⟨r, hr, rfl⟩, ?_⟩
  show (if (Sum.inr r.1 : Key) = Sum.inr x then ((Sum.inr r.1 : Key), v) else _) = _
  rw [if_pos (congrArg Sum.inr e), show r.1 = x from e]
theorem put_new {m : Mp} {k : Key} (h : k ∉ (dS m).map (·.1)) (v : V) : putK (dS m) k v = dS m ++ [(k, v)] := by
  unfold putK
  rw [if_neg]
  intro z
  obtain ⟨q, hq, e⟩ := List.any_eq_true.mp z
  exact h (List.mem_map.mpr ⟨q, hq, of_decide_eq_true e⟩)
theorem nd_inr {xs : List Str} (h : xs.Nodup) : (xs.map (Sum.inr : Str → Key)).Nodup := List.Pairwise.map _ (fun a b (h : a ≠ b) e => h (Sum.inr.inj e)) h
theorem nd_some : ∀ {kvs : List (Key × V)}, (kvs.map (·.1)).Nodup → ((kvs.map fun p => ((some p.1 : Option Key), p.2)).map (·.1)).Nodup
  | [], _ => List.nodup_nil
  | p :: kvs, h => by
    obtain ⟨h1, h2⟩ := List.nodup_cons.mp (show (p.1 :: kvs.map (·.1)).Nodup from h)
    show (some p.1 :: _).Nodup
    refine List.nodup_cons.mpr ⟨fun z => h1 ?_, nd_some h2⟩
    rw [List.map_map] at z
    obtain ⟨q, hq, e⟩ := List.mem_map.mp z
    exact List.mem_map.mpr ⟨q, hq, Option.some.inj e⟩
theorem dS_nd {m : Mp} (o : One m) : ((dS m).map (·.1)).Nodup := by
  rw [dS_keys]
  exact nd_inr o.kn
section
variable {P : Program} {w : World} {K : PySem.W.Frag} {G : Hp}
/-- a spoilt map: refused, and equal to itself -/
def Bad (P : Program) (w : World) (K : PySem.W.Frag) (G : Hp) (x : V) : Prop := OneT P w K G x false ∧ SelfEq P w K G x
theorem bad_two {a : Addr} {m : Mp} {z t : Str} (o : One m) (few : m.length ≤ 6) (nz : z ∉ ks m) (ht : t ∈ vs m) (h : G a = some (.dK (dS (m ++ [(z, t)])))) : Bad P w K G (.ref a) := by
  refine ⟨.inl ⟨a, _, rfl, h, ?_, ?_⟩, self_dK h ?_ fun p hp => ?_⟩
  · rw [List.length_append]
    show m.length + 1 ≤ 1000
    omega
  · symm
    refine decide_eq_false fun z => ?_
    unfold R6.vs at z ht
    rw [List.map_append] at z
    exact (List.nodup_append.mp z).2.2 _ ht _ (List.mem_singleton.mpr rfl) rfl
  · rw [dS_keys]
    refine nd_inr ?_
    unfold ks
    rw [List.map_append]
    refine List.nodup_append.mpr ⟨o.kn, List.pairwise_singleton _ _, fun x hx y hy e => nz ?_⟩
    rw [List.mem_singleton.mp hy] at e
    subst e
    exact hx
  · obtain ⟨r, _, rfl⟩ := List.mem_map.mp hp
    exact .inl rfl
theorem bad_val {a : Addr} {m : Mp} {x : Str} {v : V} (o : One m) (few : m.length ≤ 6) (hx : x ∈ ks m) (h : G a = some (.dK (putK (dS m) (Sum.inr x) v))) (sv : strB v = false) (fv : flatB v = true ∨ ∃ b, v = .ref b) (iv : ∀ G', Same G G' → IsS K G' v false) : Bad P w K G (.ref a) := by
  have kk := put_old_keys hx v
  have ln : (putK (dS m) (Sum.inr x) v).length = m.length := by
    have := congrArg List.length kk
    rw [List.length_map, List.length_map, dS_len] at this
    exact this
  refine ⟨.inr (.inl ⟨a, _, rfl, h, odd_of ?_ (fun y hy => ?_) ⟨v, ?_, sv⟩, rfl⟩), self_dK h (by rw [kk]; exact dS_nd o) fun p hp => ?_⟩
  · rw [List.length_append, List.length_append, List.length_map, List.length_map, ln]
    show m.length + (m.length + 0) ≤ 2000
    omega
  · rw [List.append_nil] at hy
    rcases List.mem_append.mp hy with hy | hy
    · obtain ⟨p, hp, rfl⟩ := List.mem_map.mp hy
      have : p.1 ∈ (dS m).map (·.1) := by rw [← kk]; exact List.mem_map.mpr ⟨p, hp, rfl⟩
      rw [dS_keys] at this
      obtain ⟨t, _, e⟩ := List.mem_map.mp this
      rw [← e]
      exact .inl rfl
    · obtain ⟨p, hp, rfl⟩ := List.mem_map.mp hy
      rcases put_old_vals hx v hp with e | ⟨t, e⟩
      · exact .inr fun G' s => by rw [e]; exact iv G' s
      · rw [e]; exact .inl rfl
  · rw [List.append_nil]
    exact List.mem_append_right _ (List.mem_map.mpr ⟨_, put_old_mem hx v, rfl⟩)
  · rcases put_old_vals hx v hp with e | ⟨t, e⟩
    · rw [e]; exact fv
    · rw [e]; exact .inl rfl
theorem bad_int {a : Addr} {m : Mp} {i : Int} {t : Str} (o : One m) (few : m.length ≤ 6) (h : G a = some (.dK (putK (dS m) (Sum.inl i) (.str t)))) : Bad P w K G (.ref a) := by
  have no : (Sum.inl i : Key) ∉ (dS m).map (·.1) := fun z => by
    rw [dS_keys] at z
    obtain ⟨_, _, e⟩ := List.mem_map.mp z
    cases e
  rw [put_new no] at h
  have fl : ∀ p ∈ dS m ++ [((Sum.inl i : Key), V.str t)], ∃ u, p.2 = .str u := fun p hp => by
    rcases List.mem_append.mp hp with hp | hp
    · obtain ⟨r, _, rfl⟩ := List.mem_map.mp hp
      exact ⟨_, rfl⟩
    · rw [List.mem_singleton.mp hp]
      exact ⟨_, rfl⟩
  refine ⟨.inr (.inl ⟨a, _, rfl, h, odd_of ?_ (fun y hy => ?_) ⟨.int i, ?_, rfl⟩, rfl⟩), self_dK h ?_ fun p hp => ?_⟩
  · rw [List.length_append, List.length_append, List.length_map, List.length_map, List.length_append, dS_len]
    show (m.length + 1) + ((m.length + 1) + 0) ≤ 2000
    omega
  · rw [List.append_nil] at hy
    rcases List.mem_append.mp hy with hy | hy
    · obtain ⟨p, hp, rfl⟩ := List.mem_map.mp hy
      rcases List.mem_append.mp hp with hp | hp
      · obtain ⟨r, _, rfl⟩ := List.mem_map.mp hp
        exact .inl rfl
      · rw [List.mem_singleton.mp hp]
        exact .inr fun G' s => is_int
    · obtain ⟨p, hp, rfl⟩ := List.mem_map.mp hy
      obtain ⟨u, e⟩ := fl p hp
      rw [e]
      exact .inl rfl
  · exact List.mem_append_left _ (List.mem_map.mpr ⟨_, List.mem_append_right _ (List.mem_singleton.mpr rfl), rfl⟩)
  · rw [List.map_append]
    refine List.nodup_append.mpr ⟨dS_nd o, List.pairwise_singleton _ _, fun x hx y hy e => no ?_⟩
    rw [List.mem_singleton.mp hy] at e
    subst e
    exact hx
  · obtain ⟨u, e⟩ := fl p hp
    rw [e]
    exact .inl rfl
theorem bad_none {a : Addr} {m : Mp} {t : Str} (o : One m) (few : m.length ≤ 6) (h : G a = some (NoneO P w a (((dS m).map fun p => ((some p.1 : Option Key), p.2)) ++ [(none, .str t)]))) : Bad P w K G (.ref a) := by
  have fl : ∀ p ∈ ((dS m).map fun p => ((some p.1 : Option Key), p.2)) ++ [((none : Option Key), V.str t)], ∃ u, p.2 = .str u := fun p hp => by
    rcases List.mem_append.mp hp with hp | hp
    · obtain ⟨q, hq, rfl⟩ := List.mem_map.mp hp
      obtain ⟨r, _, rfl⟩ := List.mem_map.mp hq
      exact ⟨_, rfl⟩
    · rw [List.mem_singleton.mp hp]
      exact ⟨_, rfl⟩
  refine ⟨.inr (.inr (.inl ⟨a, _, rfl, h, odd_of ?_ (fun y hy => ?_) ⟨.non, ?_, rfl⟩, rfl⟩)), self_none h ?_ fun p hp => ?_⟩
  · rw [List.length_append, List.length_append, List.length_map, List.length_map, List.length_append, List.length_map, dS_len]
    show (m.length + 1) + ((m.length + 1) + 0) ≤ 2000
    omega
  · rw [List.append_nil] at hy
    rcases List.mem_append.mp hy with hy | hy
    · obtain ⟨p, hp, rfl⟩ := List.mem_map.mp hy
      rcases List.mem_append.mp hp with hp | hp
      · obtain ⟨q, hq, rfl⟩ := List.mem_map.mp hp
        obtain ⟨r, _, rfl⟩ := List.mem_map.mp hq
        exact .inl rfl
      · rw [List.mem_singleton.mp hp]
        exact .inr fun G' s => is_non
    · obtain ⟨p, hp, rfl⟩ := List.mem_map.mp hy
      obtain ⟨u, e⟩ := fl p hp
      rw [e]
      exact .inl rfl
  · exact List.mem_append_left _ (List.mem_map.mpr ⟨_, List.mem_append_right _ (List.mem_singleton.mpr rfl), rfl⟩)
  · rw [List.map_append]
    refine List.nodup_append.mpr ⟨nd_some (dS_nd o), List.pairwise_singleton _ _, fun x hx y hy e => ?_⟩
    rw [List.mem_singleton.mp hy] at e
    subst e
    obtain ⟨p, hp, e⟩ := List.mem_map.mp hx
    obtain ⟨q, _, rfl⟩ := List.mem_map.mp hp
    cases e
  · obtain ⟨u, e⟩ := fl p hp
    rw [e]
    rfl
theorem bad_tup {a b : Addr} {m : Mp} {t x y : Str} (few : m.length ≤ 6) (h : G a = some (TupO P w a b [Sum.inr x, Sum.inr y] (((dS m).map fun p => (kV p.1, p.2)) ++ [(.ref b, .str t)]))) (hb : G b = some (.tup [.str x, .str y])) : Bad P w K G (.ref a) := by
  have fl : ∀ p ∈ ((dS m).map fun p => (kV p.1, p.2)) ++ [(V.ref b, V.str t)], ∃ u, p.2 = .str u := fun p hp => by
    rcases List.mem_append.mp hp with hp | hp
    · obtain ⟨q, hq, rfl⟩ := List.mem_map.mp hp
      obtain ⟨r, _, rfl⟩ := List.mem_map.mp hq
      exact ⟨_, rfl⟩
    · rw [List.mem_singleton.mp hp]
      exact ⟨_, rfl⟩
  refine ⟨.inr (.inr (.inr (.inl ⟨a, _, _, rfl, h, odd_of ?_ (fun y hy => ?_) ⟨.ref b, ?_, rfl⟩, rfl⟩))), self_tup h hb⟩
  · rw [List.length_append, List.length_append, List.length_map, List.length_map, List.length_append, List.length_map, dS_len]
    show (m.length + 1) + ((m.length + 1) + 0) ≤ 2000
    omega
  · rw [List.append_nil] at hy
    rcases List.mem_append.mp hy with hy | hy
    · obtain ⟨p, hp, rfl⟩ := List.mem_map.mp hy
      rcases List.mem_append.mp hp with hp | hp
      · obtain ⟨q, hq, rfl⟩ := List.mem_map.mp hp
        obtain ⟨r, _, rfl⟩ := List.mem_map.mp hq
        exact .inl rfl
      · rw [List.mem_singleton.mp hp]
        exact .inr fun G' s => is_tup (s _ _ hb)
    · obtain ⟨p, hp, rfl⟩ := List.mem_map.mp hy
      obtain ⟨u, e⟩ := fl p hp
      rw [e]
      exact .inl rfl
  · exact List.mem_append_left _ (List.mem_map.mpr ⟨_, List.mem_append_right _ (List.mem_singleton.mpr rfl), rfl⟩)
theorem bad_lst {a : Addr} {us : List Addr} (h : G a = some (.lst (us.map V.ref))) : Bad P w K G (.ref a) :=
  ⟨.inr (.inr (.inr (.inr ⟨_, .base (.lst h), kit_ty (by decide +kernel), rfl⟩))), self_lst h fun x hx => let ⟨u, _, e⟩ := List.mem_map.mp hx; .inr ⟨u, e.symm⟩⟩
theorem bad_str {t : Str} : Bad P w K G (.str t) := ⟨.inr (.inr (.inr (.inr ⟨_, .base (.str t), kit_ty (by decide +kernel), rfl⟩))), self_scal rfl⟩
theorem bad_non : Bad P w K G .non := ⟨.inr (.inr (.inr (.inr ⟨_, .base .non, kit_ty (by decide +kernel), rfl⟩))), self_scal rfl⟩
end
end R6
end

-- CallIns
section
set_option Elab.async false
set_option linter.all false
set_option maxRecDepth 100000
/-! f(e, ..), f a local name that holds an instance with its own __call__. -/
namespace G1
open PySem L2 StX PyProof.Rows
def tCallN (i : Nat) (C : Addr) (sp : Sp) (E : XK) (t : TA) : TE := fun σ H Q => ∃ a dx fs, σ[i]? = some (some (.ref a)) ∧ t σ H fun vs H1 => H1 a = some (.ins C dx fs) ∧ sp (V.ref a :: vs) H1 Q E
section
variable {X : Cx} {CX : CXT} {k i : Nat} {C g : Addr} {fd : FuncData} {ps : List Str} {sp : Sp} {E : XK} {x : Str} {p pos : Pos} {e : Expr} {es : List Expr} {t : TA}
theorem pe_callN (c : CallO X.K C g) (F : FnOk X.prog X.w X.K X.mg X.base CX k g fd ps sp) (hb : L2.Binds X.K fd ps []) (hr : Room k X.A) (hN : X.N[i]? = some x) (hv : Vis X.env.scope x) (hx : Passes CX X E) (ha : PA X (e :: es) t) (hdb : (x == ("__debug__" : Str)) = false := by decide) (hcd : (x == ("__classdict__" : Str)) = false := by decide)
    (he : starEach (e :: es) X.env = (false, eval e X.env) :: starEach es X.env := by rfl) (hpl : (backTo pos (starEach es X.env)).any (·.1) = false := by rfl) : PE X (.Call (.Name x p) (e :: es) [] pos) (tCallN i C sp E t) := by
  refine ⟨fun pins s σ H Q I ⟨a, dx, fs, hs, ht⟩ => wpAny_Call_Name_kw (L2.thn ((pe_var (pos := p) hN hv hdb hcd).run pins s σ H (fun v H1 => v = .ref a ∧ H1 = H) I ⟨.ref a, hs, rfl, rfl⟩) fun u s1 ⟨v, H1, I1, r1, ev, eH⟩ => ?_)⟩
  subst ev eH
  cases r1
  refine callO_with (L2.thn (ha.run pos pins s1 σ _ _ I1 ht) fun us s2 ⟨vs, H2, I2, r, hi, q2⟩ => ?_) he hpl
  obtain ⟨ox, od, J, hd⟩ := insC_at I2 (.inr ⟨dx, fs, hi⟩)
  exact ⟨⟨C, ox, od, J, hd⟩, run_callO c ((F.raw hb .nil).imp fun vs H Q E h => by rw [List.append_nil]; exact h) hr hx I2 (.inr ⟨dx, fs, hi⟩) r q2⟩
end
end G1
end

-- SrtEq2
section
set_option Elab.async false
set_option linter.all false
set_option maxRecDepth 100000
namespace SortStr
open PySem L2 PySem.W PyProof.Rows PySem.Spec
theorem rising_all : ∀ (l : List Str) (p : Str), risingS p l = true → (∀ x ∈ l, p.cps.toList ≤ x.cps.toList) ∧ l.Pairwise fun a b => a.cps.toList ≤ b.cps.toList
  | [], _, _ => ⟨fun _ h => (nomatch h), .nil⟩
  | x :: r, p, h => by
    have h : (!ltCps x.cps.toList p.cps.toList && risingS x r) = true := h
    rw [Bool.and_eq_true, ltCps_eq] at h
    have le : p.cps.toList ≤ x.cps.toList := List.not_lt.mp (of_decide_eq_false (by simpa using h.1))
    obtain ⟨h1, h2⟩ := rising_all r x h.2
    refine ⟨fun y hy => ?_, .cons h1 h2⟩
    rcases List.mem_cons.mp hy with rfl | hy
    · exact le
    · exact List.le_trans le (h1 y hy)
theorem srtS_uniq {xs ys : List Str} (s : sortedS ys = true) (p : ys.Perm xs) : ys = srtS xs := by
  have pw : ys.Pairwise fun a b => a.cps.toList ≤ b.cps.toList := by
    cases ys with
    | nil => exact .nil
    | cons x r =>
      obtain ⟨h1, h2⟩ := rising_all r x s
      exact .cons h1 h2
  have le : dataLe false PyData.str = fun a b : Str => decide (a.cps.toList ≤ b.cps.toList) := dataLe_str (fun b : Str => b)
  unfold srtS
  rw [le]
  have tr : ∀ a b c : Str, decide (a.cps.toList ≤ b.cps.toList) = true → decide (b.cps.toList ≤ c.cps.toList) = true → decide (a.cps.toList ≤ c.cps.toList) = true := fun a b c p q => decide_eq_true (List.le_trans (of_decide_eq_true p) (of_decide_eq_true q))
  have tot : ∀ a b : Str, (decide (a.cps.toList ≤ b.cps.toList) || decide (b.cps.toList ≤ a.cps.toList)) = true := fun a b => by
    rcases List.le_total a.cps.toList b.cps.toList with z | z
    · rw [decide_eq_true z] <;> rfl
    · rw [decide_eq_true z, Bool.or_true]
  refine List.Perm.eq_of_pairwise (le := fun a b : Str => decide (a.cps.toList ≤ b.cps.toList) = true) (fun a b _ _ p q => ?_) (pw.imp fun h => decide_eq_true h) (List.pairwise_mergeSort tr tot xs) (p.trans (List.mergeSort_perm xs _).symm)
  have e : a.cps.toList = b.cps.toList := List.le_antisymm (of_decide_eq_true p) (of_decide_eq_true q)
  cases a
  cases b
  congr
  exact Array.toList_inj.mp e
end SortStr
end

-- S8k
section
set_option Elab.async false
set_option linter.all false
set_option maxRecDepth 100000
set_option exponentiation.threshold 10000
namespace R6
open PySem L2 OwnOps OwnNe SortStr EqDict SetStr DictList StX G1
abbrev sHold : Stmt := top 17
/-- n tells what n' tells, in some order -/
structure Lik (n n' : Mp) : Prop where
  eq : dEq (dS n) (dS n') = true
  len : n.length = n'.length
  get : ∀ r ∈ n', at_ n r.1 = some r.2
  one : One n'
theorem lik_refl {n : Mp} (o : One n) : Lik n n := ⟨dEq_refl o, rfl, fun r h => at_mem o.kn h, o⟩
theorem lik_fm {m : Mp} {N : Nat} {k : Int} {ys : List Str} (p : Pm m) (h : ys.Perm (ks m)) : Lik (fm m N k ys) (fm m N k (ks m)) := by
  refine ⟨fm_eq p.one.kn h, ?_, fun r hr => ?_, fm_one p (List.Perm.refl _) k⟩
  · show (ys.map _).length = ((ks m).map _).length
    rw [List.length_map, List.length_map, h.length_eq]
  · obtain ⟨y, hy, rfl⟩ := List.mem_map.mp hr
    exact fm_at (h.nodup_iff.mpr p.one.kn) (h.mem_iff.mpr hy)
abbrev nmK : List Str := ["_law_told", "_law_nets", "_law_ids", "_law_net", "_law_name"]
section
variable {P : Program} {w : World} {K : PySem.W.Frag} {mg : Str → Option Value} {base : Heap} {C : Addr}
def spHolds (C : Addr) : Sp := fun vs H Q _ => ∃ (p a b : Addr) (n i n' i' : Mp) (F : List Addr), vs = [.ref p, .ref a, .ref b] ∧ Mat C H p n i F ∧ H a = some (.dK (dS n')) ∧ H b = some (.dK (dS i')) ∧ a ∉ F ∧ b ∉ F ∧ Lik n n' ∧ Lik i i' ∧ ∀ H', Same H H' → Q (.bl true) H'
structure CallG (P : Program) (w : World) (K : PySem.W.Frag) (mg : Str → Option Value) (base : Heap) (C : Addr) : Prop where
  ex : ∃ (f : Addr) (fd : FuncData), CallO K C f ∧ FnOk P w K mg base (L2.CX P w) 2 f fd ["self", "net"] (spCall C fun n _ => n) ∧ L2.Binds K fd ["self", "net"] []
theorem ok_holds {f : Addr} {fd : FuncData} (F : Fun K "_law_holds" "_law_holds" sHold f fd) (T : Txt K mg C) (GN : Dun P w K mg base C "net_map" 1 ["self"] (spCop C fun n _ => n)) (GI : Dun P w K mg base C "id_map" 1 ["self"] (spCop C fun _ i => i)) (GL : Dun P w K mg base C "__len__" 1 ["self"] (spLen C))
    (GC : CallG P w K mg base C) (GO : Dun P w K mg base C "id_of" 2 ["self", "name"] (spCall C fun _ i => i)) : FnOk P w K mg base (L2.CX P w) 5 f fd ["_law_told", "_law_nets", "_law_ids"] (spHolds C) := by
  obtain ⟨_, _, nA, nF, nK, GN, bN⟩ := GN.ex
  obtain ⟨_, _, iA, iF, iK, GI, bI⟩ := GI.ex
  obtain ⟨_, _, lA, lF, lK, GL, bL⟩ := GL.ex
  obtain ⟨_, _, cC, GC, bC⟩ := GC.ex
  obtain ⟨_, _, oA, oF, oK, GO, bO⟩ := GO.ex
  have sc : FnScope nmK ["_law_told", "_law_nets", "_law_ids"] (defScope sHold) := ⟨rfl, rfl, rfl, by decide +kernel, rfl, by decide +kernel, by decide +kernel⟩
  refine F.okX sc (fun vs H Q E h => ?_) (fun cdv A outer s H vs Q E hr h => ?_)
  · obtain ⟨p, a, b, n, i, n', i', F, rfl, _⟩ := h
    rfl
  · obtain ⟨p, a, b, n, i, n', i', F, rfl, mat, ha, hb, aF, bF, ln, li, k⟩ := h
    have hu : (cxOf (L2.CX P w) P w K mg base nmK "_law_holds" (defScope sHold) f cdv A outer s H E).A.units + 1 < cLine := hu_of hr
    refine ⟨_, pss_cons (ps_if (PW.pt (pw_or (pt_not (pt_val (pe_callB call_isi (by rfl) T.isi (by decide +kernel) (pa_cons (pv 0) (pa_cons (pe_glob (v := .ref C) (by rfl) T.gC rfl) pa_nil)))))
        (pw_or (pt_cmpR (op_neDT hr.units0) (pe_meth0 (E := E0) (pv 0) T.cl ⟨nA, nF, nK⟩ GN (hr.mono (by decide)) bN .nil passL) (pv 1) (nomark _))
        (pw_or (pt_cmpR (op_neDT hr.units0) (pe_meth0 (E := E0) (pv 0) T.cl ⟨iA, iF, iK⟩ GI (hr.mono (by decide)) bI .nil passL) (pv 2) (nomark _))
        (pw_or1 (pt_cmpR op_ne (pe_callB (call_lenO (E := E0) lA lF GL (hr.mono (by decide)) bL passL) (by rfl) T.len PySem.boot_len (pa_cons (pv 0) pa_nil)) (pe_callB call_lenD (by rfl) T.len PySem.boot_len (pa_cons (pv 1) pa_nil)) (nomark _))))))) (pss_one (ps_ret pe_bl)) pss_nil)
      (pss_cons (ps_if (pt_not (pt_val (pe_callB (cr_all rfl) (by rfl) T.all (by decide +kernel) (pa_cons (pe_lock (pe_lc (own := [("_law_net", 3)]) (g := gName 3) (tt := tYes) (te := tOp rEq (tCallN 0 C (spCall C fun n _ => n) E0 (tCons (tVar 3) tNil)) (tDGet (tVar 1) (tVar 3))) rfl sc.nd (pi_keys (pv 1)) (blkOk_by (N := nmK) (sc := defScope sHold) (by decide +kernel)) (fun _ _ _ _ _ => pg_name (i := 3) sc.nd rfl (Or.inl rfl)) (fun _ _ _ _ _ => pts_nil)
          (fun _ _ _ _ _ => pe_cmpR op_eq (pe_callN (i := 0) (E := E0) cC GC bC (hr.mono (by decide)) rfl (by first | exact Or.inl rfl | exact Or.inr (Or.inl rfl) | exact Or.inr (Or.inr rfl)) passL (pa_cons (pv 3) pa_nil)) (pe_dget hu (pv 1) (pv 3) (fun _ _ => rfl)) (nomark _)))) pa_nil)))) (pss_one (ps_ret pe_bl)) pss_nil)
      (pss_one (ps_ret (pe_callB (cr_all rfl) (by rfl) T.all (by decide +kernel) (pa_cons (pe_lock (pe_lc (own := [("_law_name", 4)]) (g := gName 4) (tt := tYes) rfl sc.nd (pi_keys (pv 2)) (blkOk_by (N := nmK) (sc := defScope sHold) (by decide +kernel)) (fun _ _ _ _ _ => pg_name (i := 4) sc.nd rfl (Or.inl rfl)) (fun _ _ _ _ _ => pts_nil)
          (fun _ _ _ _ _ => pe_cmpR op_eq (pe_meth (E := E0) (pv 0) T.cl ⟨oA, oF, oK⟩ GO (hr.mono (by decide)) bO .nil passL (pa_cons (pv 4) pa_nil)) (pe_dget hu (pv 2) (pv 4) (fun _ _ => rfl)) (nomark _)))) pa_nil))))), ?_⟩
    obtain ⟨dx, dn, di, lp, us, eF, hp, hn, hi, hl, pa, on, oi⟩ := id mat
    refine ⟨_, rfl, _, _, _, _, _, rfl, .own C, .base (.ins hp T.cl T.ha T.hn T.htk T.hm), T.kCC, _, rfl, if_neg' rfl ?_⟩
    refine ⟨_, rfl, p, dx, _, rfl, hp, mf_no (by decide +kernel) (by decide +kernel) (by decide +kernel) (by decide +kernel), p, n, i, F, rfl, mat, fun q nq => ?_⟩
    have s1 : Same H (upd H q (.dK (dS n))) := same_upd nq
    have q1 : (upd H q (.dK (dS n))) q = some (.dK (dS n)) := upd_same
    generalize upd H q (.dK (dS n)) = H1 at s1 q1 ⊢
    refine ⟨_, rfl, q, a, dS n, dS n', rfl, rfl, .inl q1, .inl (s1 _ _ ha), dS_flt n, dS_flt n', _, rfl, if_neg' (by rw [if_pos rfl, ln.eq]; rfl) ?_⟩
    refine ⟨_, rfl, p, dx, _, rfl, s1 _ _ hp, mf_no (by decide +kernel) (by decide +kernel) (by decide +kernel) (by decide +kernel), p, n, i, F, rfl, mat.same s1, fun q2 nq2 => ?_⟩
    have s2 : Same H1 (upd H1 q2 (.dK (dS i))) := same_upd nq2
    have q22 : (upd H1 q2 (.dK (dS i))) q2 = some (.dK (dS i)) := upd_same
    generalize upd H1 q2 (.dK (dS i)) = H2 at s2 q22 ⊢
    have s02 := s1.trans s2
    refine ⟨_, rfl, q2, b, dS i, dS i', rfl, rfl, .inl q22, .inl (s02 _ _ hb), dS_flt i, dS_flt i', _, rfl, if_neg' (by rw [if_pos rfl, li.eq]; rfl) ?_⟩
    have hp2 := s02 _ _ hp
    refine ⟨_, rfl, p, dx, _, rfl, hp2, p, n, i, F, rfl, mat.same s02, (n.length : Nat), rfl, by omega, by have := on.few; omega, _, rfl, a, dS n', rfl, s02 _ _ ha, rfl, _, rfl, if_neg' (by rw [dS_len, ln.len, decide_eq_true rfl]; rfl) ?_⟩
    have m2 := mat.same s02
    have a7 := s02 _ _ ha
    refine ⟨a, .dK (dS n'), a7, trivial, fun od7 => ⟨_, rfl, a, od7, rfl, .inl ⟨dS n', upd_same, fun D8 nD8 => ?_⟩⟩⟩
    have mB : Mat C (upd H2 a (.frz od7 (.dK (dS n')))) p n i F := m2.keep fun x hx u e => by rw [upd_ne (show x ≠ a from fun z => aF (by rw [← z]; exact hx))]; exact e
    have rB : Rd (upd H2 a (.frz od7 (.dK (dS n')))) a (.dK (dS n')) := .inr ⟨od7, upd_same⟩
    refine walk_it walk_keys (fun j G => AllI (upd H2 a (.frz od7 (.dK (dS n')))) D8 j G ∧ j ≤ n'.length) ⟨all0 nD8, Nat.zero_le _⟩ (fun j G _ ⟨al, _⟩ => al.1 _ _ upd_same) (fun j x G G' hj ⟨al, _⟩ ⟨e, ky, v, hk, e2⟩ => ?_) (fun G9 ⟨al, _⟩ => ?_)
    · subst e e2
      obtain ⟨r, hr', rfl, rfl⟩ := key_at hk
      have mem := List.mem_of_getElem? hr'
      have mG := mB.same al.1
      obtain ⟨dxG, _, _, _, _, _, hpG, _⟩ := id mG
      obtain ⟨f1, f2⟩ := al.step nD8 (Same.refl G')
      rw [dS_len] at hj
      refine ⟨rfl, yes_go (iteT ⟨p, dxG, _, rfl, _, rfl, hpG, p, r.1, r.2, n, i, F, rfl, mG, ln.get r mem, _, rfl, _, rfl, a, _, rfl, get_own ln.one mem (rd_same rB al.1), rfl, ?_⟩)⟩
      rw [decide_eq_true rfl]
      exact ⟨_, f1, rep_len (Nat.lt_of_lt_of_le (Nat.lt_of_lt_of_le hj ln.one.few) (show 1000 ≤ sizeLine by decide)), f2, hj⟩
    obtain ⟨e9, s9⟩ := same_unlock a7 al.1
    refine ⟨e9, ?_⟩
    have D8a : D8 ≠ a := fun z => by rw [z, upd_same] at nD8; cases nD8
    have D89 : (upd G9 a (.dK (dS n'))) D8 = some (.lst ((List.replicate (dS n').length true).map V.bl)) := by rw [upd_ne D8a]; exact al.2
    generalize upd G9 a (.dK (dS n')) = H9 at s9 D89 ⊢
    refine ⟨D8, _, rfl, SqL.of D89, _, rfl, if_neg' (by rw [rep_all] <;> rfl) ?_⟩
    have s09 := s02.trans s9
    have b9 := s09 _ _ hb
    have m9 := mat.same s09
    refine ⟨b, .dK (dS i'), b9, trivial, fun odb => ⟨_, rfl, b, odb, rfl, .inl ⟨dS i', upd_same, fun D10 nD10 => ?_⟩⟩⟩
    have mB2 : Mat C (upd H9 b (.frz odb (.dK (dS i')))) p n i F := m9.keep fun x hx u e => by rw [upd_ne (show x ≠ b from fun z => bF (by rw [← z]; exact hx))]; exact e
    have rB2 : Rd (upd H9 b (.frz odb (.dK (dS i')))) b (.dK (dS i')) := .inr ⟨odb, upd_same⟩
    refine walk_it walk_keys (fun j G => AllI (upd H9 b (.frz odb (.dK (dS i')))) D10 j G ∧ j ≤ i'.length) ⟨all0 nD10, Nat.zero_le _⟩ (fun j G _ ⟨al, _⟩ => al.1 _ _ upd_same) (fun j x G G' hj ⟨al, _⟩ ⟨e, ky, v, hk, e2⟩ => ?_) (fun G11 ⟨al, _⟩ => ?_)
    · subst e e2
      obtain ⟨r, hr', rfl, rfl⟩ := key_at hk
      have mem := List.mem_of_getElem? hr'
      have mG := mB2.same al.1
      obtain ⟨dxG, _, _, _, _, _, hpG, _⟩ := id mG
      obtain ⟨f1, f2⟩ := al.step nD10 (Same.refl G')
      rw [dS_len] at hj
      refine ⟨rfl, yes_go (iteT ⟨_, rfl, p, dxG, _, rfl, hpG, mf_no (by decide +kernel) (by decide +kernel) (by decide +kernel) (by decide +kernel), _, rfl, p, r.1, r.2, n, i, F, rfl, mG, li.get r mem, _, rfl, _, rfl, b, _, rfl, get_own li.one mem (rd_same rB2 al.1), rfl, ?_⟩)⟩
      rw [decide_eq_true rfl]
      exact ⟨_, f1, rep_len (Nat.lt_of_lt_of_le (Nat.lt_of_lt_of_le hj li.one.few) (show 1000 ≤ sizeLine by decide)), f2, hj⟩
    obtain ⟨e11, s11⟩ := same_unlock b9 al.1
    refine ⟨e11, ?_⟩
    have D10b : D10 ≠ b := fun z => by rw [z, upd_same] at nD10; cases nD10
    have D1011 : (upd G11 b (.dK (dS i'))) D10 = some (.lst ((List.replicate (dS i').length true).map V.bl)) := by rw [upd_ne D10b]; exact al.2
    generalize upd G11 b (.dK (dS i')) = H11 at s11 D1011 ⊢
    refine ⟨D10, _, rfl, SqL.of D1011, ?_⟩
    rw [rep_all]
    exact k H11 (s09.trans s11)
end
end R6
end

-- S8y1
section
set_option Elab.async false
set_option linter.all false
set_option maxRecDepth 100000
set_option exponentiation.threshold 10000
namespace R6
open PySem L2 OwnOps OwnNe SortStr EqDict SetStr DictList StX G1 RawD NoneD
abbrev sSpo : Stmt := top 21
abbrev NS : List Str := ["_law_state", "_law_rows", "_law_names_here", "_law_doubled", "_law_odd", "_law_keyed", "_law_name"]
theorem cut2 {α : Type} {goal : Prop} {F Y : α → Prop} (body : (∀ a, F a → Y a) → goal) (next : ∀ a, F a → Y a) : goal := body next
def two (m : Mp) (t : Str) : Mp := m ++ [(Str.ofString "z", t)]
theorem pick4 {d : Int} {B : Addr} (h0 : 0 ≤ d) (h4 : d < 4) : ∃ v : V, atI [V.int 3, V.non, V.bl true, V.ref B] d = some v ∧ (v = .int 3 ∨ v = .non ∨ v = .bl true ∨ v = .ref B) := by
  rcases (show d = 0 ∨ d = 1 ∨ d = 2 ∨ d = 3 by omega) with rfl | rfl | rfl | rfl
  · exact ⟨_, at_of (j := 0) rfl rfl, .inl rfl⟩
  · exact ⟨_, at_of (j := 1) rfl rfl, .inr (.inl rfl)⟩
  · exact ⟨_, at_of (j := 2) rfl rfl, .inr (.inr (.inl rfl))⟩
  · exact ⟨_, at_of (j := 3) rfl rfl, .inr (.inr (.inr rfl))⟩
theorem pickK {d : Int} {B : Addr} (h0 : 0 ≤ d) (h4 : d < 3) : ∃ v : V, atI [V.int 3, V.non, V.ref B] d = some v ∧ (v = .int 3 ∨ v = .non ∨ v = .ref B) := by
  rcases (show d = 0 ∨ d = 1 ∨ d = 2 by omega) with rfl | rfl | rfl
  · exact ⟨_, at_of (j := 0) rfl rfl, .inl rfl⟩
  · exact ⟨_, at_of (j := 1) rfl rfl, .inr (.inl rfl)⟩
  · exact ⟨_, at_of (j := 2) rfl rfl, .inr (.inr rfl)⟩
theorem key_d {m : Mp} {d : Int} (h0 : 0 ≤ d) (h1 : d < ((m.length : Nat) : Int)) : ∃ r, r ∈ m ∧ atI ((ks m).map V.str) d = some (.str r.1) := by
  obtain ⟨j, rfl⟩ : ∃ j : Nat, d = j := ⟨d.toNat, by omega⟩
  have hj : j < m.length := by omega
  refine ⟨m[j], List.getElem_mem hj, atS ?_⟩
  unfold ks
  rw [List.getElem?_map, List.getElem?_eq_getElem hj]
  rfl
theorem St.dk {H : Hp} {l ls a : Addr} {m : Ent} (h : St H l ls) (e : H a = some (.dK m)) : a ≠ l := fun z => by
  obtain ⟨ns, x, r, sd, n, a0, h1, h2⟩ := h
  rw [z, h2] at e
  cases e
section
variable {P : Program} {w : World} {K : PySem.W.Frag} {mg : Str → Option Value} {base : Heap} {C : Addr}
def spSpo (P : Program) (w : World) (K : PySem.W.Frag) : Sp := fun vs H Q _ => ∃ (l ls d a : Addr) (m : Mp), vs = [.ref l, .ref d, .ref a] ∧ St H l ls ∧ H d = some (.dK (dS m)) ∧ H a = some (.lst ((ks m).map V.str)) ∧ One m ∧ 0 < m.length ∧ m.length ≤ 6 ∧ ("z" : Str) ∉ ks m ∧
  ∀ (r : Addr) (xs : List V) (H' : Hp), SameX l H H' → St H' l ls → H r = none → H' r = some (.lst xs) → xs.length = 6 → (∀ x ∈ xs, ∀ G, SameX l H' G → Bad P w K G x) → Q (.ref r) H'
set_option maxHeartbeats 4000000 in
theorem ok_spo {f : Addr} {fd : FuncData} (F : Fun K "_law_spoilt" "_law_spoilt" sSpo f fd) (T : Txt K mg C) (N : Nms mg) (GD : Glb P w K mg base "_law_draw" 1 ["_law_state", "_law_many"] spDraw) : FnOk P w K mg base (L2.CX P w) 2 f fd ["_law_state", "_law_rows", "_law_names_here"] (spSpo P w K) := by
  obtain ⟨fD, fdD, mD, kD, GD, bD⟩ := GD.ex
  have sc : FnScope NS ["_law_state", "_law_rows", "_law_names_here"] (defScope sSpo) := ⟨rfl, rfl, rfl, by decide +kernel, rfl, by decide +kernel, by decide +kernel⟩
  refine F.okX sc (fun vs H Q E h => ?_) (fun cdv A outer s H vs Q E hr h => ?_)
  · obtain ⟨l, ls, d, a, m, rfl, _⟩ := h
    rfl
  · obtain ⟨l, ls, d, a, m, rfl, st, hd, ha, om, pos, few, nz, k⟩ := h
    have hu : (cxOf (L2.CX P w) P w K mg base NS "_law_spoilt" (defScope sSpo) f cdv A outer s H E).A.units + 1 < cLine := hu_of hr
    have u4 : (A.deeper (PyProof.Rows.envOfC "_law_spoilt" (defScope sSpo) s.heap.objs.size f cdv)).units + 4 < cLine := by have := hr.units; omega
    refine ⟨_, pss_cons (ps_set (i := 3) sc.nd rfl (Or.inl rfl) (pe_callTy call_dictD (by rfl) T.dict (by decide +kernel) (pa_cons (pv 1) pa_nil)))
      (pss_cons (ps_dput hu (pv 3) pe_str (pe_dget hu (pv 1) (pe_ix ix_list (pv 2) (pe_call GD (hr.mono (by decide)) (by rfl) mD kD bD .nil passL (pa_cons (pv 0) (pa_cons (pe_callB call_len_seq (by rfl) N.len PySem.boot_len (pa_cons (pv 2) pa_nil)) pa_nil))) (fun _ _ => rfl)) (fun _ _ => rfl)) rfl)
      (pss_cons (ps_set (i := 4) sc.nd rfl (Or.inl rfl) (pe_callTy call_dictD (by rfl) T.dict (by decide +kernel) (pa_cons (pv 1) pa_nil)))
      (pss_cons (ps_dput hu (pv 4) (pe_ix ix_list (pv 2) (pe_call GD (hr.mono (by decide)) (by rfl) mD kD bD .nil passL (pa_cons (pv 0) (pa_cons (pe_callB call_len_seq (by rfl) N.len PySem.boot_len (pa_cons (pv 2) pa_nil)) pa_nil))) (fun _ _ => rfl))
          (pe_ix ix_list (pe_lst (pa_cons pe_int (pa_cons pe_non (pa_cons pe_bl (pa_cons (pe_lst (pa_cons pe_str pa_nil)) pa_nil))))) (pe_call GD (hr.mono (by decide)) (by rfl) mD kD bD .nil passL (pa_cons (pv 0) (pa_cons pe_int pa_nil))) (fun _ _ => rfl)) rfl)
      (pss_cons (ps_set (i := 5) sc.nd rfl (Or.inl rfl) (pe_callTy call_dictD (by rfl) T.dict (by decide +kernel) (pa_cons (pv 1) pa_nil)))
      (pss_cons (ps_asg pe_str (pg_sub (pv 5) (pe_ix ix_list (pe_lst (pa_cons pe_int (pa_cons pe_non (pa_cons (pe_tup (pa_cons pe_str (pa_cons pe_str pa_nil))) pa_nil)))) (pe_call GD (hr.mono (by decide)) (by rfl) mD kD bD .nil passL (pa_cons (pv 0) (pa_cons pe_int pa_nil))) (fun _ _ => rfl)) (show PSet _ (rSetA P w) from set_any u4)))
      (pss_one (ps_ret (pe_lst (pa_cons (pv 3) (pa_cons (pv 4) (pa_cons (pv 5) (pa_cons (pe_lc (own := [("_law_name", 6)]) (g := gName 6) (tt := tYes) (te := tTup (tCons (tVar 6) (tCons (tDGet (tVar 1) (tVar 6)) tNil))) rfl sc.nd (pi_list (pv 2)) (blkOk_by (N := NS) (sc := defScope sSpo) (by decide +kernel)) (fun _ _ _ _ _ => pg_name (i := 6) sc.nd rfl (Or.inl rfl)) (fun _ _ _ _ _ => pts_nil)
          (fun _ _ _ _ _ => pe_tup (pa_cons (pv 6) (pa_cons (pe_dget hu (pv 1) (pv 6) (fun _ _ => rfl)) pa_nil)))) (pa_cons pe_str (pa_cons pe_non pa_nil)))))))))))))), ?_⟩
    have al := st.txt ha
    have dl := st.dk hd
    have L : (((ks m).map V.str).length : Int) = (m.length : Nat) := by rw [List.length_map, List.length_map]
    -- the doubled one
    refine ⟨_, rfl, d, dS m, rfl, .inl hd, fun c0 nc0 => ?_⟩
    have e0 := same_upd (o := .dK (dS m)) nc0
    have hc0 : (upd H c0 (.dK (dS m))) c0 = some (.dK (dS m)) := upd_same
    obtain ⟨c0l, c0s⟩ := st.ne nc0
    have st0 := st.put (o := .dK (dS m)) c0l c0s
    generalize upd H c0 (.dK (dS m)) = H0 at e0 hc0 st0 ⊢
    have x0 : SameX l H H0 := SameX.of e0
    refine ⟨_, rfl, _, rfl, _, rfl, _, rfl, a, _, rfl, .inl (SqL.of (e0 _ _ ha)), l, ls, _, rfl, by rw [L]; omega, sm9 (by rw [L]; omega), st0, fun k1 H1 k10 k11 x1 st1 => ?_⟩
    obtain ⟨r1, m1, a1⟩ := key_d k10 (by rw [← L]; exact k11)
    have x01 := x0.trans x1
    refine ⟨a, _, _, _, rfl, rfl, SqL.of (x01 _ _ al ha), a1, d, _, rfl, get_own om m1 (.inl (x01 _ _ dl hd)), _, rfl, c0, _, rfl, .inl ⟨_, Sum.inr "z", x1 _ _ c0l hc0, rfl, ?_, rfl⟩, ?_⟩
    · rw [dS_len]
      exact Nat.lt_of_le_of_lt few (by decide)
    rw [show putK (dS m) (Sum.inr "z") (.str r1.2) = dS (two m r1.2) from dS_put nz]
    have x02 : SameX l H (upd H1 c0 (.dK (dS (two m r1.2)))) := sx_put x01 nc0
    have st2 := st1.put (o := .dK (dS (two m r1.2))) c0l c0s
    have hc02 : (upd H1 c0 (.dK (dS (two m r1.2)))) c0 = some (.dK (dS (two m r1.2))) := upd_same
    generalize upd H1 c0 (.dK (dS (two m r1.2))) = H2 at x02 st2 hc02 ⊢
    -- the odd one
    refine ⟨_, rfl, d, dS m, rfl, .inl (x02 _ _ dl hd), fun c1 nc1 => ?_⟩
    have nc1H : H c1 = none := sameX_none x02 (st2.ne nc1).1 nc1
    have e3 := same_upd (o := .dK (dS m)) nc1
    have hc13 : (upd H2 c1 (.dK (dS m))) c1 = some (.dK (dS m)) := upd_same
    obtain ⟨c1l, c1s⟩ := st2.ne nc1
    have c01 : c0 ≠ c1 := fun z => by rw [← z, hc02] at nc1; cases nc1
    have st3 := st2.put (o := .dK (dS m)) c1l c1s
    generalize upd H2 c1 (.dK (dS m)) = H3 at e3 hc13 st3 ⊢
    have x03 := x02.trans (SameX.of e3)
    have hc03 := e3 _ _ hc02
    refine ⟨(by show 1 ≤ sizeLine; decide), fun B nB => ⟨(by show 4 ≤ sizeLine; decide), fun B2 nB2 => ?_⟩⟩
    have e4 := same_upd (o := .lst [.str "b"]) nB
    have hB4 : (upd H3 B (.lst [.str "b"])) B = some (.lst [.str "b"]) := upd_same
    obtain ⟨Bl, Bs⟩ := st3.ne nB
    have st4 := st3.put (o := .lst [.str "b"]) Bl Bs
    generalize upd H3 B (.lst [.str "b"]) = H4 at e4 hB4 st4 nB2 ⊢
    have x04 := x03.trans (SameX.of e4)
    have hc04 := e4 _ _ hc03
    have hc14 := e4 _ _ hc13
    have e5 := same_upd (o := .lst [.int 3, .non, .bl true, .ref B]) nB2
    have hB25 : (upd H4 B2 (.lst [.int 3, .non, .bl true, .ref B])) B2 = some (.lst [.int 3, .non, .bl true, .ref B]) := upd_same
    obtain ⟨B2l, B2s⟩ := st4.ne nB2
    have st5 := st4.put (o := .lst [.int 3, .non, .bl true, .ref B]) B2l B2s
    generalize upd H4 B2 (.lst [.int 3, .non, .bl true, .ref B]) = H5 at e5 hB25 st5 ⊢
    have x05 := x04.trans (SameX.of e5)
    have hc05 := e5 _ _ hc04
    have hc15 := e5 _ _ hc14
    have hB5 := e5 _ _ hB4
    refine ⟨_, rfl, l, ls, 4, rfl, by decide, sm9 (by decide), st5, fun k2 H6 k20 k24 x6 st6 => ?_⟩
    obtain ⟨v, a2, vv⟩ := pick4 (B := B) k20 k24
    have x06 := x05.trans x6
    have hc06 := x6 _ _ c0l hc05
    have hc16 := x6 _ _ c1l hc15
    have hB6 := x6 _ _ Bl hB5
    refine ⟨B2, _, _, _, rfl, rfl, SqL.of (x6 _ _ B2l hB25), a2, _, rfl, _, rfl, _, rfl, _, rfl, a, _, rfl, .inl (SqL.of (x06 _ _ al ha)), l, ls, _, rfl, by rw [L]; omega, sm9 (by rw [L]; omega), st6, fun k3 H7 k30 k31 x7 st7 => ?_⟩
    obtain ⟨r3, m3, a3⟩ := key_d k30 (by rw [← L]; exact k31)
    have x07 := x06.trans x7
    have hc07 := x7 _ _ c0l hc06
    have hc17 := x7 _ _ c1l hc16
    have hB7 := x7 _ _ Bl hB6
    have q3 : r3.1 ∈ ks m := List.mem_map.mpr ⟨r3, m3, rfl⟩
    refine ⟨a, _, _, _, rfl, rfl, SqL.of (x07 _ _ al ha), a3, c1, _, rfl, .inl ⟨_, Sum.inr r3.1, hc17, rfl, ?_, rfl⟩, ?_⟩
    · rw [dS_len]
      exact Nat.lt_of_le_of_lt few (by decide)
    have Bc1 : B ≠ c1 := fun z => by rw [z, hc13] at nB; cases nB
    have x08 : SameX l H (upd H7 c1 (.dK (putK (dS m) (Sum.inr r3.1) v))) := sx_put x07 nc1H
    have st8 := st7.put (o := .dK (putK (dS m) (Sum.inr r3.1) v)) c1l c1s
    have hc08 : (upd H7 c1 (.dK (putK (dS m) (Sum.inr r3.1) v))) c0 = some (.dK (dS (two m r1.2))) := by rw [upd_ne c01]; exact hc07
    have hB8 : (upd H7 c1 (.dK (putK (dS m) (Sum.inr r3.1) v))) B = some (.lst [.str "b"]) := by rw [upd_ne Bc1]; exact hB7
    have hc18 : (upd H7 c1 (.dK (putK (dS m) (Sum.inr r3.1) v))) c1 = some (.dK (putK (dS m) (Sum.inr r3.1) v)) := upd_same
    generalize upd H7 c1 (.dK (putK (dS m) (Sum.inr r3.1) v)) = H8 at x08 st8 hc08 hB8 hc18 ⊢
    -- the one with another key
    refine ⟨_, rfl, d, dS m, rfl, .inl (x08 _ _ dl hd), fun c2 nc2 => ?_⟩
    obtain ⟨c2l, c2s⟩ := st8.ne nc2
    have nc2H : H c2 = none := sameX_none x08 c2l nc2
    have e9 := same_upd (o := .dK (dS m)) nc2
    have hc29 : (upd H8 c2 (.dK (dS m))) c2 = some (.dK (dS m)) := upd_same
    have c02 : c0 ≠ c2 := fun z => by rw [← z, hc08] at nc2; cases nc2
    have c12 : c1 ≠ c2 := fun z => by rw [← z, hc18] at nc2; cases nc2
    have Bc2 : B ≠ c2 := fun z => by rw [← z, hB8] at nc2; cases nc2
    have st9 := st8.put (o := .dK (dS m)) c2l c2s
    generalize upd H8 c2 (.dK (dS m)) = H9 at e9 hc29 st9 ⊢
    have x09 := x08.trans (SameX.of e9)
    have hc09 := e9 _ _ hc08
    have hc19 := e9 _ _ hc18
    have hB9 := e9 _ _ hB8
    refine ⟨_, rfl, (by show 2 ≤ sizeLine; decide), fun t nt => ⟨(by show 3 ≤ sizeLine; decide), fun B3 nB3 => ?_⟩⟩
    have e10 := same_upd (o := .tup [.str "a", .str "b"]) nt
    have ht10 : (upd H9 t (.tup [.str "a", .str "b"])) t = some (.tup [.str "a", .str "b"]) := upd_same
    obtain ⟨tl, ts⟩ := st9.ne nt
    have tc2 : t ≠ c2 := fun z => by rw [z, hc29] at nt; cases nt
    have st10 := st9.put (o := .tup [.str "a", .str "b"]) tl ts
    generalize upd H9 t (.tup [.str "a", .str "b"]) = H10 at e10 ht10 st10 nB3 ⊢
    have e11 := same_upd (o := .lst [.int 3, .non, .ref t]) nB3
    have hB311 : (upd H10 B3 (.lst [.int 3, .non, .ref t])) B3 = some (.lst [.int 3, .non, .ref t]) := upd_same
    obtain ⟨B3l, B3s⟩ := st10.ne nB3
    have st11 := st10.put (o := .lst [.int 3, .non, .ref t]) B3l B3s
    generalize upd H10 B3 (.lst [.int 3, .non, .ref t]) = H11 at e11 hB311 st11 ⊢
    have e911 := e10.trans e11
    refine ⟨_, rfl, l, ls, 3, rfl, by decide, sm9 (by decide), st11, fun k4 H12 k40 k43 x12 st12 => ?_⟩
    obtain ⟨y, a4, yy⟩ := pickK (B := t) k40 k43
    have x012 := (x09.trans (SameX.of e911)).trans x12
    have hc012 := x12 _ _ c0l (e911 _ _ hc09)
    have hc112 := x12 _ _ c1l (e911 _ _ hc19)
    have hB12 := x12 _ _ Bl (e911 _ _ hB9)
    have hc212 := x12 _ _ c2l (e911 _ _ hc29)
    have ht12 := x12 _ _ tl (e11 _ _ ht10)
    refine ⟨B3, _, _, _, rfl, rfl, SqL.of (x12 _ _ B3l hB311), a4, ?_⟩
    apply cut2 (α := Hp) (F := fun G => SameX l H G ∧ St G l ls ∧ G c0 = some (.dK (dS (two m r1.2))) ∧ G c1 = some (.dK (putK (dS m) (Sum.inr r3.1) v)) ∧ G B = some (.lst [.str "b"]) ∧ ∀ G', SameX l G G' → Bad P w K G' (.ref c2))
    case body =>
      intro nxt
      have fc : ∀ o : HO, SameX l H (upd H12 c2 o) ∧ St (upd H12 c2 o) l ls ∧ (upd H12 c2 o) c0 = some (.dK (dS (two m r1.2))) ∧ (upd H12 c2 o) c1 = some (.dK (putK (dS m) (Sum.inr r3.1) v)) ∧ (upd H12 c2 o) B = some (.lst [.str "b"]) ∧ (upd H12 c2 o) t = some (.tup [.str "a", .str "b"]) ∧ (upd H12 c2 o) c2 = some o := fun o =>
        ⟨sx_put x012 nc2H, st12.put c2l c2s, by rw [upd_ne c02]; exact hc012, by rw [upd_ne c12]; exact hc112, by rw [upd_ne Bc2]; exact hB12, by rw [upd_ne tc2]; exact ht12, upd_same⟩
      rcases yy with rfl | rfl | rfl
      · refine .inl ⟨c2, _, rfl, .inl ⟨_, Sum.inl 3, hc212, rfl, ?_, rfl⟩, ?_⟩
        · rw [dS_len]
          exact Nat.lt_of_le_of_lt few (by decide)
        obtain ⟨f1, f2, f3, f4, f5, f6, f7⟩ := fc (.dK (putK (dS m) (Sum.inl 3) (.str "z")))
        generalize upd H12 c2 (.dK (putK (dS m) (Sum.inl 3) (.str "z"))) = G at f1 f2 f3 f4 f5 f6 f7 ⊢
        exact nxt G ⟨f1, f2, f3, f4, f5, fun G' s => bad_int om few (s _ _ c2l f7)⟩
      · refine .inr (.inl ⟨c2, dS m, rfl, hc212, rfl, ?_, ?_⟩)
        · rw [dS_len]
          exact Nat.lt_of_le_of_lt few (by decide)
        obtain ⟨f1, f2, f3, f4, f5, f6, f7⟩ := fc (NoneO P w c2 (((dS m).map fun p => ((some p.1 : Option Key), p.2)) ++ [(none, .str "z")]))
        generalize upd H12 c2 (NoneO P w c2 (((dS m).map fun p => ((some p.1 : Option Key), p.2)) ++ [(none, .str "z")])) = G at f1 f2 f3 f4 f5 f6 f7 ⊢
        exact nxt G ⟨f1, f2, f3, f4, f5, fun G' s => bad_none om few (s _ _ c2l f7)⟩
      · refine .inr (.inr ⟨c2, t, [Sum.inr "a", Sum.inr "b"], dS m, rfl, hc212, rfl, ht12, ?_, ?_, ?_⟩)
        · rw [dS_len]
          exact Nat.lt_of_le_of_lt few (by decide)
        · intro p hp
          obtain ⟨r, _, rfl⟩ := List.mem_map.mp hp
          exact ⟨_, rfl⟩
        obtain ⟨f1, f2, f3, f4, f5, f6, f7⟩ := fc (TupO P w c2 t [Sum.inr "a", Sum.inr "b"] (((dS m).map fun p => (kV p.1, p.2)) ++ [(.ref t, .str "z")]))
        generalize upd H12 c2 (TupO P w c2 t [Sum.inr "a", Sum.inr "b"] (((dS m).map fun p => (kV p.1, p.2)) ++ [(.ref t, .str "z")])) = G at f1 f2 f3 f4 f5 f6 f7 ⊢
        exact nxt G ⟨f1, f2, f3, f4, f5, fun G' s => bad_tup few (s _ _ c2l f7) (s _ _ tl f6)⟩
    rintro G ⟨xG, stG, g0, g1, gB, g2⟩
    refine ⟨_, rfl, _, rfl, _, rfl, _, rfl, a, rfl, ⟨_, SqL.of (xG _ _ al ha)⟩, fun D nD => ?_⟩
    obtain ⟨Dl, Ds⟩ := stG.ne nD
    have hdG := xG _ _ dl hd
    have haG := xG _ _ al ha
    refine lc_list (K := K) (a := a) (xs := (ks m).map V.str) (fun j G' => Same G G' ∧ ∃ us : List Addr, us.length = j ∧ j ≤ m.length ∧ G' D = some (.lst (us.map V.ref))) ⟨same_upd nD, [], rfl, Nat.zero_le _, upd_same⟩ (fun j G' _ i => SqL.of (i.1 _ _ haG)) (fun j x G' hx ⟨sG, us, ul, jm, hD⟩ => ⟨rfl, yes_go ?_⟩) (fun G' ⟨sG, us, ul, jm, hD⟩ => ?_)
    · obtain ⟨tx, htx, rfl⟩ := map_at hx
      have lt : j < (ks m).length := (List.getElem?_eq_some_iff.mp htx).1
      have mem : tx ∈ ks m := List.mem_of_getElem? htx
      obtain ⟨r, hr', rfl⟩ := List.mem_map.mp mem
      refine iteT ⟨_, rfl, _, rfl, _, rfl, d, _, rfl, get_own om hr' (.inl (sG _ _ hdG)), (by show 2 ≤ sizeLine; decide), fun U nU => ?_⟩
      have sU := same_upd (o := .tup [.str r.1, .str r.2]) nU
      refine ⟨_, sU _ _ hD, ?_, same_put (sG.trans sU) nD, us ++ [U], by rw [List.length_append, ul]; rfl, ?_, ?_⟩
      · rw [List.length_map, ul]
        rw [List.length_map] at lt
        exact Nat.lt_of_lt_of_le lt (Nat.le_trans few (by decide))
      · rw [List.length_map] at lt
        exact lt
      · rw [upd_same, List.map_append]
        rfl
    · refine ⟨(by show 6 ≤ sizeLine; decide), fun r nr => ?_⟩
      have sr := same_upd (o := .lst [.ref c0, .ref c1, .ref c2, .ref D, .str "a", .non]) nr
      have hr1 : (upd G' r (.lst [.ref c0, .ref c1, .ref c2, .ref D, .str "a", .non])) r = some (.lst [.ref c0, .ref c1, .ref c2, .ref D, .str "a", .non]) := upd_same
      have stF := (stG.same sG)
      obtain ⟨rl, rs⟩ := stF.ne nr
      have stF2 := stF.same sr
      have rH : H r = none := sameX_none (xG.trans (SameX.of sG)) rl nr
      have S2 := sG.trans sr
      generalize upd G' r (.lst [.ref c0, .ref c1, .ref c2, .ref D, .str "a", .non]) = H' at sr hr1 stF2 S2 ⊢
      refine k r _ H' (xG.trans (SameX.of S2)) stF2 rH hr1 rfl fun x hx G2 s2 => ?_
      have sA : SameX l G G2 := (SameX.of S2).trans s2
      rcases List.mem_cons.mp hx with rfl | hx
      · exact bad_two om few nz (List.mem_map.mpr ⟨r1, m1, rfl⟩) (sA _ _ c0l g0)
      rcases List.mem_cons.mp hx with rfl | hx
      · rcases vv with rfl | rfl | rfl | rfl
        · exact bad_val om few q3 (sA _ _ c1l g1) rfl (.inl rfl) fun _ _ => is_int
        · exact bad_val om few q3 (sA _ _ c1l g1) rfl (.inl rfl) fun _ _ => is_non
        · exact bad_val om few q3 (sA _ _ c1l g1) rfl (.inl rfl) fun _ _ => is_bl
        · exact bad_val om few q3 (sA _ _ c1l g1) rfl (.inr ⟨_, rfl⟩) fun _ s => is_lst (s _ _ (sA _ _ Bl gB))
      rcases List.mem_cons.mp hx with rfl | hx
      · exact g2 G2 sA
      rcases List.mem_cons.mp hx with rfl | hx
      · exact bad_lst (s2 _ _ Dl (sr _ _ hD))
      rcases List.mem_cons.mp hx with rfl | hx
      · exact bad_str
      rcases List.mem_cons.mp hx with rfl | hx
      · exact bad_non
      · cases hx
end
end R6
end

-- OpA
section
set_option Elab.async false
set_option linter.all false
set_option maxRecDepth 100000
namespace OpA
open PySem L2 OwnOps OwnTry TryAs StX PyProof.Rows
/-- a reading of an operator that knows the slots -/
abbrev R2A := L2.St → R2
def OpRA (X : Cx) (f : Value → Value → Sem Value) (r : R2A) : Prop :=
  ∀ (pins : List (Addr × Obj)) (s : Shared) (σ : L2.St) (H : Hp) (x y : V) (v u : Value) (Q : VK), L2.Inv X pins σ H s → RelV x v → RelV y u → r σ x y H Q →
    wpAny (model X.prog X.w) X.A (f v u) (EP X pins σ Q) X.xe s
def tOpA (r : R2A) (ta tb : TE) : TE := fun σ H Q => ta σ H fun x H1 => tb σ H1 fun y H2 => r σ x y H2 Q
section
variable {X : Cx} {C g : Addr} {k : Nat} {fd : FuncData} {ps : List Str} {sp : Sp} {W : WX} {op : Operator} {T : String} {a b : Expr} {ta tb : TE} {pos : Pos}
theorem pe_opA {r : R2A} (ho : OpRA X (binaryOp op) r) (ha : PE X a ta) (hb : PE X b tb) : PE X (.BinOp a op b pos) (tOpA r ta tb) := by
  refine ⟨fun pins s σ H Q I h => ?_⟩
  exact wpAny_BinOp (binT (R := fun x y H2 => r σ x y H2 Q) ha hb I h fun v u s2 x y H2 I2 rx ry q => ho pins s2 σ H2 x y v u Q I2 rx ry q)
theorem opA_or {f : Value → Value → Sem Value} {r1 r2 : R2A} (h1 : OpRA X f r1) (h2 : OpRA X f r2) : OpRA X f (fun σ x y H Q => r1 σ x y H Q ∨ r2 σ x y H Q) := by
  intro pins s σ H x y v u Q I rx ry h
  rcases h with h | h
  · exact h1 pins s σ H x y v u Q I rx ry h
  · exact h2 pins s σ H x y v u Q I rx ry h
def rOwnA (C : Addr) (R : V → Hp → Prop) (sp : Sp) (W : WX) : R2A := fun σ => rOwn2 C R sp (EA W σ)
/-- x op y, both of the class at C, in a try -/
theorem opA_ins (O : Op2 X.K C g op.info.2) (F : FnOk X.prog X.w X.K X.mg X.base (L2.CX X.prog X.w) k g fd ps sp) (hr : Room k X.A) (hb : L2.Binds X.K fd ps []) (tk : Takes X W) :
    OpRA X (binaryOp op) (rOwnA C (RIns C) sp W) := by
  intro pins s σ H x y v u Q I rx ry h
  obtain ⟨a, dx, fs, rfl, ha, ⟨b, dy, fs', rfl, hb'⟩, q⟩ := h
  cases (show v = Value.ref a from rx)
  cases (show u = Value.ref b from ry)
  obtain ⟨od, J⟩ := inst_at I ha
  obtain ⟨od', J'⟩ := inst_at I hb'
  obtain ⟨m, hF⟩ := I.fr
  refine PySem.W.binop_K hF I.ok.mod.kin J J'.type O.first O.at_ O.fn ?_
  refine wpAny_mono (run_at (us := [.ref a, .ref b]) (vs := [.ref a, .ref b]) (dvs := []) F hr I.env0 hb .nil tk I (.cons rfl (.cons rfl .nil)) q) (fun w s' z => ?_) fun _ _ e => e
  obtain ⟨z', H', I', rz, qz⟩ := id z
  exact back_of rz z
/-- x op y, y of a built-in type that tells its type at once, in a try -/
theorem opA_val (O : Op2 X.K C g op.info.2) (Y : Ty2 X.K C op.info.2 T) (F : FnOk X.prog X.w X.K X.mg X.base (L2.CX X.prog X.w) k g fd ps sp) (hr : Room k X.A) (hb : L2.Binds X.K fd ps []) (tk : Takes X W)
    {R : V → Hp → Prop} (hR : ∀ {y : V} {H : Hp} {u : Value}, R y H → RelV y u → typeOf u = pure (.type T)) :
    OpRA X (binaryOp op) (rOwnA C R sp W) := by
  intro pins s σ H x y v u Q I rx ry h
  obtain ⟨a, dx, fs, rfl, ha, hy, q⟩ := h
  cases (show v = Value.ref a from rx)
  obtain ⟨od, J⟩ := inst_at I ha
  obtain ⟨m, hF⟩ := I.fr
  obtain ⟨fo, hfo⟩ := Y.lf
  obtain ⟨ro, hro⟩ := Y.rt
  obtain ⟨rc, hrc, hp⟩ := O.rf
  refine PySem.W.ksp_binT hF I.ok.mod.kin J (hR hy ry) O.first O.at_ O.fn hrc hp hfo hro Y.sub ?_
  refine wpAny_mono (run_at (us := [.ref a, u]) (vs := [.ref a, y]) (dvs := []) F hr I.env0 hb .nil tk I (.cons rfl (.cons ry .nil)) q) (fun w s' z => ?_) fun _ _ e => e
  obtain ⟨z', H', I', rz, qz⟩ := id z
  exact back_of rz z
theorem code_at {f : Addr} {A : Around} {pins : List (Addr × Obj)} {σ : L2.St} {H : Hp} {s : Shared} {Q : VK} {us : List Value} {vs : List V} (F : FnOk X.prog X.w X.K X.mg X.base (L2.CX X.prog X.w) k f fd ps sp) (room : Room k A)
    (e0 : Env0 X.prog X.w X.K X.mg X.base A X.stack s H) (bi : L2.Binds X.K fd ps []) (tk : Takes X W)
    (I : L2.Inv X pins σ H s) (rel : Vals vs us) (h : sp vs H Q (EA W σ)) : codeAny (model X.prog X.w) A (.call (.ref f) ⟨us, []⟩) (fun r s' => match r with
      | .ok (.ret v) => EP X pins σ Q v s'
      | .ok _ => False
      | .error e => X.xe e s') s := by
  have size : (us ++ []).length = ps.length := by rw [List.append_nil, ← rel.length]; exact F.len _ _ _ _ h
  have b := bi s us I.kIn size
  rw [List.append_nil] at b
  have body := F.run A X.stack s H ⟨us, []⟩ us vs Q (EA W σ) room e0 b rel h
  refine codeAny_mono body fun res s' got => ?_
  match res, got with
  | .error u, got => exact out_at tk I got
  | .ok (.ret u), got => exact I.after got
  | .ok .next, got => exact got.elim
  | .ok .brk, got => exact got.elim
  | .ok .cont, got => exact got.elim
/-- f(e, ..), f a local name that holds an instance with its own __call__, in a try -/
def tCallNA (i : Nat) (C : Addr) (sp : Sp) (W : WX) (t : TA) : TE := fun σ H Q => ∃ a dx fs, σ[i]? = some (some (.ref a)) ∧ t σ H fun vs H1 => H1 a = some (.ins C dx fs) ∧ sp (V.ref a :: vs) H1 Q (EA W σ)
theorem pe_callNA {i : Nat} {x : Str} {p : Pos} {e : Expr} {es : List Expr} {t : TA} (c : StX.CallO X.K C g) (F : FnOk X.prog X.w X.K X.mg X.base (L2.CX X.prog X.w) k g fd ps sp) (hb : L2.Binds X.K fd ps []) (hr : Room k X.A) (hN : X.N[i]? = some x) (hv : Vis X.env.scope x) (tk : Takes X W) (ha : PA X (e :: es) t) (hdb : (x == ("__debug__" : Str)) = false := by decide) (hcd : (x == ("__classdict__" : Str)) = false := by decide)
    (he : starEach (e :: es) X.env = (false, eval e X.env) :: starEach es X.env := by rfl) (hpl : (backTo pos (starEach es X.env)).any (·.1) = false := by rfl) : PE X (.Call (.Name x p) (e :: es) [] pos) (tCallNA i C sp W t) := by
  refine ⟨fun pins s σ H Q I ⟨a, dx, fs, hs, ht⟩ => wpAny_Call_Name_kw (L2.thn ((pe_var (pos := p) hN hv hdb hcd).run pins s σ H (fun v H1 => v = .ref a ∧ H1 = H) I ⟨.ref a, hs, rfl, rfl⟩) fun u s1 ⟨v, H1, I1, r1, ev, eH⟩ => ?_)⟩
  subst ev eH
  cases r1
  refine StX.callO_with (L2.thn (ha.run pos pins s1 σ _ _ I1 ht) fun us s2 ⟨vs, H2, I2, r, hi, q2⟩ => ?_) he hpl
  obtain ⟨ox, od, J, hd⟩ := StX.insC_at I2 (.inr ⟨dx, fs, hi⟩)
  refine ⟨⟨C, ox, od, J, hd⟩, ?_⟩
  exact wpAny_call (PySem.W.kco_code I2.kIn J hd c.at_ c.fn c.fi (code_at (us := .ref a :: us) (vs := .ref a :: vs) F hr I2.env0 hb tk I2 (.cons rfl r) q2))
end
end OpA
end

-- S8u
section
set_option Elab.async false
set_option linter.all false
set_option maxRecDepth 100000
set_option exponentiation.threshold 10000
namespace R6
open PySem L2 OwnOps OwnNe SortStr EqDict SetStr DictList StX G1 TryAs OwnTry MakeA OpA
abbrev sUnk : Stmt := top 19
structure Keyed (K : PySem.W.Frag) (mg : Str → Option Value) (CU WE : Addr) : Prop where
  gW : mg "WireError" = some (.ref WE)
  gK : mg "KeyError" = none
  kitK : PySem.W.kitOne K (.ref CU) (.type "KeyError") = some true
  kitW : PySem.W.kitOne K (.ref CU) (.ref WE) = some false
  kg : KitG K CU
structure Cal2 (P : Program) (w : World) (K : PySem.W.Frag) (mg : Str → Option Value) (base : Heap) (C CU : Addr) : Prop where
  ex : ∃ (f : Addr) (fd : FuncData), CallO K C f ∧ FnOk P w K mg base (L2.CX P w) 2 f fd ["self", "net"] (spCall2 K C CU fun n _ => n) ∧ L2.Binds K fd ["self", "net"] []
section
variable {P : Program} {w : World} {K : PySem.W.Frag} {mg : Str → Option Value} {base : Heap} {C CU fU WE : Addr}
def spUnk (K : PySem.W.Frag) (C : Addr) : Sp := fun vs H Q _ => ∃ (p : Addr) (x : V) (b : Bool) (n i : Mp) (F : List Addr), vs = [.ref p, x, .bl b] ∧ Mat C H p n i F ∧ (IsS K H x false ∨ ∃ t, x = .str t ∧ at_ (if b = true then n else i) t = none) ∧ scal x x = true ∧ ∀ H', Same H H' → Q (.bl true) H'
theorem ok_unk {f : Addr} {fd : FuncData} (F : Fun K "_law_unknown" "_law_unknown" sUnk f fd) (T : Txt K mg C) (U : ErrN K mg CU fU) (Wi : Keyed K mg CU WE) (GC : Cal2 P w K mg base C CU) (GI : Dun P w K mg base C "id_of" 2 ["self", "name"] (spCall2 K C CU fun _ i => i)) :
    FnOk P w K mg base (L2.CX P w) 4 f fd ["_law_one", "_law_name", "_law_is_net"] (spUnk K C) := by
  obtain ⟨_, _, co, GC, bC⟩ := GC.ex
  obtain ⟨_, _, oA, oF, oK, GI, bI⟩ := GI.ex
  have sc : FnScope ["_law_one", "_law_name", "_law_is_net", "e"] ["_law_one", "_law_name", "_law_is_net"] (defScope sUnk) := ⟨rfl, rfl, rfl, by decide +kernel, rfl, by decide +kernel, by decide +kernel⟩
  refine F.okX sc (fun vs H Q E h => ?_) (fun cdv A outer s H vs Q E hr h => ?_)
  · obtain ⟨p, x, b, n, i, F, rfl, _⟩ := h
    rfl
  · obtain ⟨p, x, b, n, i, F, rfl, mat, o, sx, fin⟩ := h
    obtain ⟨dx, dn, di, lp, us, _, hp, _⟩ := id mat
    refine ⟨_, pss_one (ps_try_all rfl rfl sc.nd (takes_of rfl rfl rfl rfl) (fun W pn xe tk _ => pss_one (ps_ret (pe_cmpR op_isN (pe_ifExp (pt_val (pv 2)) (pe_callNA (i := 0) (W := W) co GC bC (hr.mono (by decide)) rfl (Or.inl rfl) tk (pa_cons (pv 1) pa_nil)) (pe_methA (W := W) (pv 0) T.cl ⟨oA, oF, oK⟩ GI (hr.mono (by decide)) bI .nil tk (pa_cons (pv 1) pa_nil))) pe_non (nomark _))))
        (Clauses.cons (i := 3) rfl rfl ⟨rfl, by decide, .inl U.gC⟩ (fun a oe cls d pn hz hf => pss_one (ps_ret (pe_and (pe_cmpR op_eq (pe_byGiv U hz hf (pv 3)) (pv 1) (nomark _))
          (pe_and (pe_callB (call_isiH hz hf) (by rfl) T.isi (by decide +kernel) (pa_cons (pv 3) (pa_cons (pe_bltn (v := .ty "KeyError") (by rfl) Wi.gK (by decide +kernel) rfl) pa_nil)))
          (pe_one (pe_not (pe_callB (call_isiH hz hf) (by rfl) T.isi (by decide +kernel) (pa_cons (pv 3) (pa_cons (pe_glob (v := .ref WE) (by rfl) Wi.gW rfl) pa_nil))))))))) Clauses.nil)), ?_⟩
    cases b with
    | true =>
      refine ⟨_, rfl, _, rfl, if_pos' rfl ⟨p, dx, _, rfl, _, rfl, hp, .inr ⟨p, x, n, i, F, rfl, mat, o, fun d hd => ?_⟩⟩⟩
      exact ⟨true, U.te, fun _ a ha => ⟨_, rfl, rfl, rfl, d, _, rfl, upd_same, _, rfl, sx, _, rfl, if_pos' (decide_eq_true rfl) ⟨_, rfl, CU, d, _, _, _, true, rfl, rfl, rfl, upd_same, Wi.kg, .ty _, Wi.kitK, _, rfl, if_pos' rfl ⟨_, rfl, CU, d, _, _, _, false, rfl, rfl, rfl, upd_same, Wi.kg, .own WE, Wi.kitW, _, rfl, fin _ (same_upd hd)⟩⟩⟩, fun z => nomatch z⟩
    | false =>
      refine ⟨_, rfl, _, rfl, if_neg' rfl ⟨_, rfl, p, dx, _, rfl, hp, mf_no (by decide +kernel) (by decide +kernel) (by decide +kernel) (by decide +kernel), _, rfl, .inr ⟨p, x, n, i, F, rfl, mat, o, fun d hd => ?_⟩⟩⟩
      exact ⟨true, U.te, fun _ a ha => ⟨_, rfl, rfl, rfl, d, _, rfl, upd_same, _, rfl, sx, _, rfl, if_pos' (decide_eq_true rfl) ⟨_, rfl, CU, d, _, _, _, true, rfl, rfl, rfl, upd_same, Wi.kg, .ty _, Wi.kitK, _, rfl, if_pos' rfl ⟨_, rfl, CU, d, _, _, _, false, rfl, rfl, rfl, upd_same, Wi.kg, .own WE, Wi.kitW, _, rfl, fin _ (same_upd hd)⟩⟩⟩, fun z => nomatch z⟩
end
end R6
end

-- S8r
section
set_option Elab.async false
set_option linter.all false
set_option maxRecDepth 100000
namespace R6
open PySem L2 OwnOps OwnNe SortStr EqDict SetStr DictList StX G1
/-- x == y of two lists, one longer than the other -/
def rNeL : R2 := fun x y H Q => ∃ a b xs ys, x = .ref a ∧ y = .ref b ∧ H a = some (.lst xs) ∧ H b = some (.lst ys) ∧ xs.length ≠ ys.length ∧ Q (.bl false) H
theorem op_eqLen {X : Cx} (hu : X.A.units < cLine) : OpR X (compareOp .Eq) rNeL := by
  intro pins s σ H x y v u Q I rx ry hq
  obtain ⟨a, b, xs, ys, rfl, rfl, ha, hb, len, q⟩ := hq
  cases rx
  cases ry
  obtain ⟨zz, its, k, rr, e⟩ := I.hok a _ ha
  obtain ⟨zz2, its2, k2, rr2, e2⟩ := I.hok b _ hb
  refine SeqAt.eq_list_lengthsAt (items := its.toArray) (items2 := its2.toArray) ⟨_, e, rfl, k, rfl⟩ ⟨_, e2, rfl, k2, rfl⟩ ?_ hu ⟨.bl false, H, I, rfl, q⟩
  rw [List.size_toArray, List.size_toArray, ← rr.length, ← rr2.length]
  exact bne_iff_ne.mpr len
section
variable {P : Program} {w : World} {K : PySem.W.Frag} {mg : Str → Option Value} {base : Heap} {C : Addr}
def spFol2 : Sp := fun vs H Q _ => ∃ (a b : Addr) (m l : Mp), vs = [.ref a, .ref b] ∧ Rd H a (.dK (dS m)) ∧ Rd H b (.dK (dS l)) ∧ ∀ H', Same H H' → Q (.bl (fol m l)) H'
theorem ok_fol2 {f : Addr} {fd : FuncData} (F : Fun K "_follow" "_follow" sFol f fd) (T : Txt K mg C) : FnOk P w K mg base (L2.CX P w) 2 f fd ["told", "following"] spFol2 := by
  have sc : FnScope ["told", "following"] ["told", "following"] (defScope sFol) := ⟨rfl, rfl, rfl, by decide +kernel, rfl, by decide +kernel, by decide +kernel⟩
  refine F.okX sc (fun vs H Q E h => ?_) (fun cdv A outer s H vs Q E hr h => ?_)
  · obtain ⟨a, b, m, l, rfl, _⟩ := h
    rfl
  · obtain ⟨a, b, m, l, rfl, ha, hb, k⟩ := h
    refine ⟨_, pss_one (ps_ret (pe_cmpR (op_or (op_eqB (n := 0) mon_DB eqB_flat hr) (op_eqLen hr.units0))
      (pe_callBK (cr_sortKS hr.units) (by rfl) T.sorted (by decide +kernel) (pa_cons (pe_listV (pv 0) (by rfl) T.list) pa_nil) (pk_cons (pe_bltn (v := .ty "str") (by rfl) T.str (by decide +kernel) rfl) pk_nil))
      (pe_callBK (cr_sortKD rfl hr.units) (by rfl) T.sorted (by decide +kernel) (pa_cons (pv 1) pa_nil) (pk_cons (pe_bltn (v := .ty "str") (by rfl) T.str (by decide +kernel) rfl) pk_nil)) (nomark _))), ?_⟩
    refine ⟨_, rfl, a, dS m, rfl, ha, fun p hp => ?_⟩
    rw [dS_vals]
    have s1 : Same H (upd H p (.lst ((vs m).map V.str))) := same_upd hp
    have h1 : (upd H p (.lst ((vs m).map V.str))) p = some (.lst ((vs m).map V.str)) := upd_same
    generalize upd H p (.lst ((vs m).map V.str)) = H1 at s1 h1 ⊢
    refine ⟨p, vs m, rfl, rfl, SqL.of h1, fun q hq => ?_⟩
    have s2 : Same H1 (upd H1 q (.lst ((srtS (vs m)).map V.str))) := same_upd hq
    have h2 : (upd H1 q (.lst ((srtS (vs m)).map V.str))) q = some (.lst ((srtS (vs m)).map V.str)) := upd_same
    generalize upd H1 q (.lst ((srtS (vs m)).map V.str)) = H2 at s2 h2 ⊢
    refine ⟨_, rfl, b, dS l, ks l, rfl, rfl, rd_same hb (s1.trans s2), dS_keys l, fun r hr2 => ?_⟩
    have s3 : Same H2 (upd H2 r (.lst ((srtS (ks l)).map V.str))) := same_upd hr2
    have h3 : (upd H2 r (.lst ((srtS (ks l)).map V.str))) r = some (.lst ((srtS (ks l)).map V.str)) := upd_same
    generalize upd H2 r (.lst ((srtS (ks l)).map V.str)) = H3 at s3 h3 ⊢
    by_cases L : (srtS (vs m)).length = (srtS (ks l)).length
    · refine .inl ⟨q, r, _, _, rfl, rfl, s3 _ _ h2, h3, by rw [List.length_map, List.length_map, L], fun j => eqV (((srtS (vs m)).map V.str).getD j .non) (((srtS (ks l)).map V.str).getD j .non), fun i x y hx hy => ?_, fun H' c e hc => ?_⟩
      · obtain ⟨t, _, rfl⟩ := map_at hx
        obtain ⟨u, _, rfl⟩ := map_at hy
        refine ⟨rfl, rfl, ?_⟩
        dsimp only
        rw [List.getD_eq_getElem?_getD, List.getD_eq_getElem?_getD, hx, hy]
        rfl
      · have e2 : c = fol m l := by
          unfold fol
          have := hc.trans (eq_all L)
          cases c with
          | true => exact (decide_eq_true (this.mp rfl)).symm
          | false => exact (decide_eq_false fun z => Bool.false_ne_true (this.mpr z)).symm
        rw [e2]
        exact k H' (s1.trans (s2.trans (s3.trans e)))
    · refine .inr ⟨q, r, _, _, rfl, rfl, s3 _ _ h2, h3, by rw [List.length_map, List.length_map]; exact L, ?_⟩
      have e2 : fol m l = false := decide_eq_false fun z => L (by rw [z])
      have k2 := k _ (s1.trans (s2.trans s3))
      rw [e2] at k2
      exact k2
end
end R6
end

-- S8s
section
set_option Elab.async false
set_option linter.all false
set_option maxRecDepth 100000
namespace R6
open PySem L2 OwnOps OwnNe SortStr EqDict SetStr DictList StX G1
section
variable {P : Program} {w : World} {K : PySem.W.Frag} {mg : Str → Option Value} {base : Heap} {C CM fM : Addr}
/-- a product that is refused -/
def spMulX (K : PySem.W.Frag) (C CM : Addr) : Sp := fun vs H Q E => ∃ (p : Addr) (x : V) (n i : Mp) (F : List Addr), vs = [.ref p, x] ∧ Mat C H p n i F ∧
  ((∃ t, TyX K H x t ∧ PySem.W.kitOne K t (.ref C) = some false) ∨ ∃ q n' i' F', x = .ref q ∧ Mat C H q n' i' F' ∧ (fol n n' = false ∨ (fol n n' = true ∧ fol i i' = false))) ∧ ∀ d H', Same H H' → H' d = some (xd x) → E (.ref CM) (some d) H'
def spMul2 (K : PySem.W.Frag) (C CM : Addr) : Sp := fun vs H Q E => spMul C vs H Q E ∨ spMulX K C CM vs H Q E
theorem ok_mul2 {f : Addr} {fd : FuncData} (F : Fun K "__mul__" "Matching.__mul__" (sMat 7) f fd) (T : Txt K mg C) (U : ErrM K mg CM fM) (M : Mak P w K mg base C) (GF : Glb P w K mg base "_follow" 2 ["told", "following"] spFol2) : FnOk P w K mg base (L2.CX P w) 4 f fd ["self", "other"] (spMul2 K C CM) := by
  obtain ⟨fF, fdF, mF, kF, GF, bF⟩ := GF.ex
  obtain ⟨fI, fdI, mk, GI, bI⟩ := M.ex
  have sc : FnScope ["self", "other", "nets", "net", "there", "name"] ["self", "other"] (defScope (sMat 7)) := ⟨rfl, rfl, rfl, by decide +kernel, rfl, by decide +kernel, by decide +kernel⟩
  refine F.okX sc (fun vs H Q E h => ?_) (fun cdv A outer s H vs Q E hr h => ?_)
  · rcases h with h | h
    · obtain ⟨p, q, n, i, n', i', F, F', rfl, _⟩ := h
      rfl
    · obtain ⟨p, x, n, i, F, rfl, _⟩ := h
      rfl
  · have hu : (cxOf (L2.CX P w) P w K mg base ["self", "other", "nets", "net", "there", "name"] "Matching.__mul__" (defScope (sMat 7)) f cdv A outer s H E).A.units + 1 < cLine := hu_of hr
    rcases h with h | h
    · obtain ⟨p, q, n, i, n', i', F, F', rfl, mp, mq, fn, fi, k⟩ := h
      refine ⟨_, pss_cons (ps_if (pt_not (pt_val (pe_callB call_isi (by rfl) T.isi (by decide +kernel) (pa_cons (pv 1) (pa_cons (pe_glob (v := .ref C) (by rfl) T.gC rfl) pa_nil))))) (pss_one (ps_raiseGiv rfl PySem.Giv.ok_VE U hr (takes_of rfl rfl rfl rfl) (pa_cons (pv 1) pa_nil) (by rfl))) pss_nil)
        (pss_cons (ps_if (PW.pt (pw_or (pt_not (pt_val (pe_call GF (hr.mono (by decide)) (by rfl) mF kF bF .nil passL (pa_cons (pe_fld (pv 0) rfl) (pa_cons (pe_fld (pv 1) rfl) pa_nil))))) (pw_or1 (pt_not (pt_val (pe_call GF (hr.mono (by decide)) (by rfl) mF kF bF .nil passL (pa_cons (pe_fld (pv 0) rfl) (pa_cons (pe_fld (pv 1) rfl) pa_nil)))))))) (pss_one (ps_raiseGiv rfl PySem.Giv.ok_VE U hr (takes_of rfl rfl rfl rfl) (pa_cons (pv 1) pa_nil) (by rfl))) pss_nil)
        (pss_cons (ps_lock (ps_setDc (i := 2) (own := [("net", 3), ("there", 4)]) (g := gTup K 2 (gCons (gName 3) (gCons (gName 4) gNil))) (tt := tYes) (tv := tDGet (tFld K (tVar 1) "_net_map") (tVar 4)) rfl sc.nd rfl rfl (swD rfl rfl rfl (by decide +kernel)) (pi_items (pe_fld (pv 0) rfl))
            (blkOk_by (N := ["self", "other", "nets", "net", "there", "name"]) (sc := defScope (sMat 7)) (by decide +kernel)) (fun _ _ _ _ _ => pg_two (i := 3) (j := 4) rfl sc.nd rfl (Or.inl rfl) rfl (Or.inl rfl)) (fun _ _ _ _ _ => pts_nil) (fun _ _ _ _ _ => pv 3) (fun _ _ _ _ _ => pe_dget hu (pe_fld (pv 1) rfl) (pv 4) (fun _ _ => rfl))))
        (pss_one (ps_ret (pe_make mk GI hr (by rfl) T.gC bI .nil passL (pa_cons (pv 2) (pa_cons (pe_lock (pe_dc (own := [("name", 5), ("there", 4)]) (g := gTup K 2 (gCons (gName 5) (gCons (gName 4) gNil))) (tt := tYes) (tv := tDGet (tFld K (tVar 1) "_id_map") (tVar 4)) rfl sc.nd (pi_items (pe_fld (pv 0) rfl))
            (blkOk_by (N := ["self", "other", "nets", "net", "there", "name"]) (sc := defScope (sMat 7)) (by decide +kernel)) (fun _ _ _ _ _ => pg_two (i := 5) (j := 4) rfl sc.nd rfl (Or.inl rfl) rfl (Or.inl rfl)) (fun _ _ _ _ _ => pts_nil) (fun _ _ _ _ _ => pv 5) (fun _ _ _ _ _ => pe_dget hu (pe_fld (pv 1) rfl) (pv 4) (fun _ _ => rfl)))) pa_nil))))))), ?_⟩
      obtain ⟨dx, dn, di, lp, us, _, hp, hn, hi, _, _, on, oi⟩ := mp
      obtain ⟨dy, dn', di', lp', us', _, hq, hn', hi', _, _, on', oi'⟩ := mq
      refine ⟨_, rfl, _, _, _, _, _, rfl, .own C, .base (.ins hq T.cl T.ha T.hn T.htk T.hm), T.kCC, _, rfl, if_neg' rfl ?_⟩
      refine ⟨_, rfl, p, C, dx, _, _, rfl, hp, T.cl, T.n1, lk1, _, rfl, q, C, dy, _, _, rfl, hq, T.cl, T.n1, lk1, dn, dn', n, n', rfl, .inl hn, .inl hn', fun H1 s1 => ⟨_, rfl, if_neg' (by rw [fol_yes fn]; rfl) ?_⟩⟩
      refine ⟨_, rfl, p, C, dx, _, _, rfl, s1 _ _ hp, T.cl, T.n2, lk2, _, rfl, q, C, dy, _, _, rfl, s1 _ _ hq, T.cl, T.n2, lk2, di, di', i, i', rfl, .inl (s1 _ _ hi), .inl (s1 _ _ hi'), fun H2 s2 => ⟨_, rfl, if_neg' (by rw [fol_yes fi]; rfl) ?_⟩⟩
      have s02 := s1.trans s2
      have hn2 := s02 _ _ hn
      have hp2 := s02 _ _ hp
      have hq2 := s02 _ _ hq
      refine ⟨dn, .dK (dS n), hn2, trivial, fun od => ?_⟩
      have hpB : (upd H2 dn (.frz od (.dK (dS n)))) p = some (.ins C dx (mf dn di lp (isId n && isId i))) := by rw [upd_ne (ne_of hp2 hn2 (by intro z; cases z))]; exact hp2
      have hqB : (upd H2 dn (.frz od (.dK (dS n)))) q = some (.ins C dy (mf dn' di' lp' (isId n' && isId i'))) := by rw [upd_ne (ne_of hq2 hn2 (by intro z; cases z))]; exact hq2
      have rB : Rd (upd H2 dn (.frz od (.dK (dS n)))) dn' (.dK (dS n')) := rd_lock hn2 trivial (.inl (s02 _ _ hn'))
      refine ⟨_, rfl, p, C, dx, _, _, rfl, hpB, T.cl, T.n1, lk1, dn, od, dS n, rfl, upd_same, fun D nD => dcW (K := K) (φ := fun r => (r.1, (at_ n' r.2).getD Str.empty)) on.few (by show (ks (thn n n')).Nodup; rw [ks_thn]; exact on.kn) upd_same nD (fun _ _ => rfl) (fun r hr' G sm R hR => ?_) (fun G sm hD => ?_)⟩
      · exact ⟨_, rfl, _, rfl, q, C, dy, _, _, rfl, sm _ _ hqB, T.cl, T.n1, lk1, _, rfl, dn', _, rfl, get_thn hr' fn (rd_same rB sm), hR⟩
      obtain ⟨e1, s3⟩ := same_unlock hn2 sm
      refine ⟨e1, ?_⟩
      have Dn : D ≠ dn := fun z => by rw [z, upd_same] at nD; cases nD
      have D3 : (upd G dn (.dK (dS n))) D = some (.dK (dS (thn n n'))) := by rw [upd_ne Dn]; exact hD
      generalize upd G dn (.dK (dS n)) = H3 at s3 D3 ⊢
      have s03 := s02.trans s3
      have hi3 := s03 _ _ hi
      have hp3 := s03 _ _ hp
      have hq3 := s03 _ _ hq
      refine ⟨_, rfl, di, .dK (dS i), hi3, trivial, fun od2 => ?_⟩
      have hpB2 : (upd H3 di (.frz od2 (.dK (dS i)))) p = some (.ins C dx (mf dn di lp (isId n && isId i))) := by rw [upd_ne (ne_of hp3 hi3 (by intro z; cases z))]; exact hp3
      have hqB2 : (upd H3 di (.frz od2 (.dK (dS i)))) q = some (.ins C dy (mf dn' di' lp' (isId n' && isId i'))) := by rw [upd_ne (ne_of hq3 hi3 (by intro z; cases z))]; exact hq3
      have rB2 : Rd (upd H3 di (.frz od2 (.dK (dS i)))) di' (.dK (dS i')) := rd_lock hi3 trivial (.inl (s03 _ _ hi'))
      refine ⟨_, rfl, p, C, dx, _, _, rfl, hpB2, T.cl, T.n2, lk2, di, od2, dS i, rfl, upd_same, fun D2 nD2 => dcW (K := K) (φ := fun r => (r.1, (at_ i' r.2).getD Str.empty)) oi.few (by show (ks (thn i i')).Nodup; rw [ks_thn]; exact oi.kn) upd_same nD2 (fun _ _ => rfl) (fun r hr' G sm R hR => ?_) (fun G2 sm2 hD2 => ?_)⟩
      · exact ⟨_, rfl, _, rfl, q, C, dy, _, _, rfl, sm _ _ hqB2, T.cl, T.n2, lk2, _, rfl, di', _, rfl, get_thn hr' fi (rd_same rB2 sm), hR⟩
      obtain ⟨e2, s4⟩ := same_unlock hi3 sm2
      refine ⟨e2, ?_⟩
      have Dn2 : D2 ≠ di := fun z => by rw [z, upd_same] at nD2; cases nD2
      have D4 : (upd G2 di (.dK (dS i))) D2 = some (.dK (dS (thn i i'))) := by rw [upd_ne Dn2]; exact hD2
      have DD2 : D ≠ D2 := fun z => by
        have w : H3 D2 = none := by rw [← upd_ne (H := H3) (o := .frz od2 (.dK (dS i))) Dn2]; exact nD2
        rw [z] at D3
        rw [D3] at w
        cases w
      generalize upd G2 di (.dK (dS i)) = H4 at s4 D4 ⊢
      exact mk_mat (s4 _ _ D3) D4 DD2 (on.thn on' fn) (oi.thn oi' fi) fun x H' F sm m nw => k x H' F (s03.trans (s4.trans sm)) m fun y hy => Same.none (s03.trans s4) (nw y hy)
    · obtain ⟨p, x, n, i, F, rfl, mp, o, k⟩ := h
      refine ⟨_, pss_cons (ps_if (pt_not (pt_val (pe_callB call_isi (by rfl) T.isi (by decide +kernel) (pa_cons (pv 1) (pa_cons (pe_glob (v := .ref C) (by rfl) T.gC rfl) pa_nil))))) (pss_one (ps_raiseGiv rfl PySem.Giv.ok_VE U hr (takes_of rfl rfl rfl rfl) (pa_cons (pv 1) pa_nil) (by rfl))) pss_nil)
        (pss_cons (ps_if (PW.pt (pw_or (pt_not (pt_val (pe_call GF (hr.mono (by decide)) (by rfl) mF kF bF .nil passL (pa_cons (pe_fld (pv 0) rfl) (pa_cons (pe_fld (pv 1) rfl) pa_nil))))) (pw_or1 (pt_not (pt_val (pe_call GF (hr.mono (by decide)) (by rfl) mF kF bF .nil passL (pa_cons (pe_fld (pv 0) rfl) (pa_cons (pe_fld (pv 1) rfl) pa_nil)))))))) (pss_one (ps_raiseGiv rfl PySem.Giv.ok_VE U hr (takes_of rfl rfl rfl rfl) (pa_cons (pv 1) pa_nil) (by rfl))) pss_nil)
        (pss_cons (ps_lock (ps_setDc (i := 2) (own := [("net", 3), ("there", 4)]) (g := gTup K 2 (gCons (gName 3) (gCons (gName 4) gNil))) (tt := tYes) (tv := tDGet (tFld K (tVar 1) "_net_map") (tVar 4)) rfl sc.nd rfl rfl (swD rfl rfl rfl (by decide +kernel)) (pi_items (pe_fld (pv 0) rfl))
            (blkOk_by (N := ["self", "other", "nets", "net", "there", "name"]) (sc := defScope (sMat 7)) (by decide +kernel)) (fun _ _ _ _ _ => pg_two (i := 3) (j := 4) rfl sc.nd rfl (Or.inl rfl) rfl (Or.inl rfl)) (fun _ _ _ _ _ => pts_nil) (fun _ _ _ _ _ => pv 3) (fun _ _ _ _ _ => pe_dget hu (pe_fld (pv 1) rfl) (pv 4) (fun _ _ => rfl))))
        (pss_one (ps_ret (pe_make mk GI hr (by rfl) T.gC bI .nil passL (pa_cons (pv 2) (pa_cons (pe_lock (pe_dc (own := [("name", 5), ("there", 4)]) (g := gTup K 2 (gCons (gName 5) (gCons (gName 4) gNil))) (tt := tYes) (tv := tDGet (tFld K (tVar 1) "_id_map") (tVar 4)) rfl sc.nd (pi_items (pe_fld (pv 0) rfl))
            (blkOk_by (N := ["self", "other", "nets", "net", "there", "name"]) (sc := defScope (sMat 7)) (by decide +kernel)) (fun _ _ _ _ _ => pg_two (i := 5) (j := 4) rfl sc.nd rfl (Or.inl rfl) rfl (Or.inl rfl)) (fun _ _ _ _ _ => pts_nil) (fun _ _ _ _ _ => pv 5) (fun _ _ _ _ _ => pe_dget hu (pe_fld (pv 1) rfl) (pv 4) (fun _ _ => rfl)))) pa_nil))))))), ?_⟩
      obtain ⟨dx, dn, di, lp, us, _, hp, hn, hi, _, _, on, oi⟩ := mp
      have fin : ∀ H1, Same H H1 → ∀ d, H1 d = none → E (.ref CM) (some d) (upd H1 d (xd x)) := fun H1 s1 d hd => k d _ (s1.trans (same_upd hd)) upd_same
      rcases o with ⟨t, ty, kt⟩ | ⟨q, n', i', F', rfl, mq, bad⟩
      · exact ⟨_, rfl, _, _, _, _, _, rfl, .own C, ty, kt, _, rfl, if_pos' rfl ⟨_, rfl, _, rfl, fin H (Same.refl H)⟩⟩
      obtain ⟨dy, dn', di', lp', us', _, hq, hn', hi', _, _, on', oi'⟩ := mq
      refine ⟨_, rfl, _, _, _, _, _, rfl, .own C, .base (.ins hq T.cl T.ha T.hn T.htk T.hm), T.kCC, _, rfl, if_neg' rfl ?_⟩
      refine ⟨_, rfl, p, C, dx, _, _, rfl, hp, T.cl, T.n1, lk1, _, rfl, q, C, dy, _, _, rfl, hq, T.cl, T.n1, lk1, dn, dn', n, n', rfl, .inl hn, .inl hn', fun H1 s1 => ⟨_, rfl, ?_⟩⟩
      rcases bad with b | ⟨b, c⟩
      · exact if_pos' (by rw [b]; rfl) ⟨_, rfl, _, rfl, fin H1 s1⟩
      · refine if_neg' (by rw [b]; rfl) ⟨_, rfl, p, C, dx, _, _, rfl, s1 _ _ hp, T.cl, T.n2, lk2, _, rfl, q, C, dy, _, _, rfl, s1 _ _ hq, T.cl, T.n2, lk2, di, di', i, i', rfl, .inl (s1 _ _ hi), .inl (s1 _ _ hi'), fun H2 s2 => ⟨_, rfl, if_pos' (by rw [c]; rfl) ⟨_, rfl, _, rfl, fin H2 (s1.trans s2)⟩⟩⟩
end
end R6
end

-- HotEq
section
set_option Elab.async false
set_option linter.all false
set_option maxRecDepth 100000
namespace HotEq
open PySem L2 OwnOps PyProof.Rows L2H 
section
variable {P : Program} {w : World} {K : PySem.W.Frag} {mg : Str → Option Value} {base : Heap}
/-- as Fun.okX, for a def that is called within an except suite -/
theorem okH {x qual : Str} {st : Stmt} {f : Addr} {fd : FuncData} {N ps : List Str} {k : Nat} {sp : Sp} (F : Fun K x qual st f fd) (S : FnScope N ps (defScope st)) (len : ∀ vs H Q E, sp vs H Q E → vs.length = ps.length)
    (hbody : ∀ (cdv : Value) (A : Around) (outer : List Env) (s : Shared) (H : Hp) (vs : List V) (Q : VK) (E : XK) (p : Addr × Obj), Hot1 A p → RoomH k (A.deeper (envOfC qual (defScope st) s.heap.objs.size f cdv)) → sp vs H Q E →
      ∃ t, PSs (cxH (L2.CX P w) P w K mg base N qual (defScope st) f cdv A outer s H E p) (defBody st) t ∧ t { nx := fun _ H' => Q .non H', rt := Q } (start N vs) H) : FnH P w K mg base (L2.CX P w) (k + 1) f fd ps sp := by
  obtain ⟨oc, od, kV, doc, pm, an, cdv, ct, osl, rfl, lk, hcd⟩ := F.ex
  exact fn_ofH lk hcd S len fun A outer s H vs Q E p hot hr hsp => hbody cdv A outer s H vs Q E p hot hr hsp
end
section
variable {X : Cx} {CX : CXT} {C g : Addr} {k : Nat} {fd : FuncData} {ps : List Str} {sp : Sp} {E : XK}
/-- x op y (a comparison), x of the class at C, within an except suite -/
theorem cmp_ownH {op : CmpOp} (hop : ∀ a b, compareOp op a b = richCompare op a b) (hs : PySem.W.findIn X.K (.ref C) (cmpInfo op).2.1 = some (some (.ref g))) (hf : PySem.W.isFn X.K (.ref g) = true)
    (F : FnH X.prog X.w X.K X.mg X.base CX k g fd ps sp) (hr : RoomH k X.A) (hc : HotC X) (hb : L2.Binds X.K fd ps []) (hx : ∀ σ, PassesAt CX X σ E)
    {R : V → Hp → Prop} (hR : ∀ {y : V} {H : Hp} {u : Value} {pins : List (Addr × Obj)} {σ : L2.St} {s : Shared}, L2.Inv X pins σ H s → R y H → RelV y u → ∃ tb, PySem.W.Looks (model X.prog X.w) s.heap (typeOf u) tb ∧ PySem.W.notFirst X.K C tb = true) :
    OpR X (compareOp op) (rOwn2 C R sp E) := by
  intro pins s σ H x y v u Q I rx ry h
  obtain ⟨a, dx, fs, rfl, ha, hy, q⟩ := h
  cases (show v = Value.ref a from rx)
  obtain ⟨od, J⟩ := inst_at I ha
  obtain ⟨m, hF⟩ := I.fr
  obtain ⟨tb, ht, hn⟩ := hR I hy ry
  rw [hop]
  refine PySem.W.cmp_K (op := op) (by have := hr.un; omega) hF I.ok.mod.kin J ht hn hs hf ?_
  refine wpAny_mono (run_fnH (E := fun _ => E) (us := [.ref a, u]) (vs := [.ref a, y]) F hr hc hb (hx σ) I (.cons rfl (.cons ry .nil)) q) (fun w s' z => ?_) fun _ _ e => e
  obtain ⟨z', H', I', rz, qz⟩ := id z
  exact back_of rz z
theorem passAtL (σ : L2.St) : PassesAt (L2.CX X.prog X.w) X σ E0 := fun _ _ _ _ _ _ h => by
  obtain ⟨_, _, _, _, _, _, _, _, _, _, _, _, z⟩ := h
  exact z.elim
end
end HotEq
end

-- WarmEq
section
set_option Elab.async false
set_option linter.all false
set_option maxRecDepth 100000
namespace HotEq
open PySem L2 OwnOps PyProof.Rows L2H
/-- A without what is handled -/
abbrev cool (A : Around) : Around := { A with handled := none }
abbrev cxW (CX : CXT) (P : Program) (w : World) (K : PySem.W.Frag) (mg : Str → Option Value) (base : Heap) (N : List Str) (qual : Str) (scope : Scope) (f : Addr) (cd : Value) (A : Around) (outer : List Env) (s : Shared) (H : Hp) (E : XK) : Cx :=
  { cxOf CX P w K mg base N qual scope f cd A outer s H E with calm := false }
section
variable {CX : CXT} {P : Program} {w : World} {K : PySem.W.Frag} {mg : Str → Option Value} {base : Heap} {N : List Str} {qual : Str} {scope : Scope} {f : Addr} {cd : Value} {A : Around} {outer : List Env} {s s1 : Shared} {H H1 : Hp} {E : XK} {σ : L2.St} {pins : List (Addr × Obj)}
theorem env_cool (e : Env0 P w K mg base A outer s H) : Env0 P w K mg base (cool A) outer s H := by
  cases e
  constructor <;> assumption
theorem warm (I : L2.Inv (cxOf CX P w K mg base N qual scope f cd (cool A) outer s H E) pins σ H1 s1) : L2.Inv (cxW CX P w K mg base N qual scope f cd A outer s H E) pins σ H1 s1 := by
  obtain ⟨ok, a1, a2, a3, a4, a5, a6, a7, a8, a9, a10⟩ := I
  refine ⟨?_, a1, a2, a3, a4, a5, a6, a7, a8, a9, a10⟩
  obtain ⟨b1, b2, b3, b4, b5, b6, b7, b8, b9, b10, b11, b12, b13, b14, b15, b16, b17, b18⟩ := ok
  exact ⟨b1, b2, b3, b4, b5, b6, b7, b8, (fun z => Bool.noConfusion z), b10, b11, b12, b13, b14, b15, b16, b17, b18⟩
end
/-- what a def promises wherever it is called, if it needs no raise -/
structure FnW (P : Program) (w : World) (K : PySem.W.Frag) (mg : Str → Option Value) (base : Heap) (CX : CXT) (k : Nat) (f : Addr) (fd : FuncData) (ps : List Str) (sp : Sp) : Prop where
  len : ∀ vs H Q E, sp vs H Q E → vs.length = ps.length
  run : ∀ (A : Around) (outer : List Env) (s : Shared) (H : Hp) (args : Args) (us : List Value) (vs : List V) (Q : VK) (E : XK), RoomH k A → Env0 P w K mg base A outer s H → BindsTo s fd args (ps.zip us) → Vals vs us → sp vs H Q E →
    codeAny (model P w) A (.call (.ref f) args) (CR CX outer P w H s Q E) s
section
variable {P : Program} {w : World} {K : PySem.W.Frag} {mg : Str → Option Value} {base : Heap} {CX : CXT}
theorem okW {x qual : Str} {st : Stmt} {f : Addr} {fd : FuncData} {N ps : List Str} {k : Nat} {sp : Sp} (F : Fun K x qual st f fd) (S : FnScope N ps (defScope st)) (len : ∀ vs H Q E, sp vs H Q E → vs.length = ps.length)
    (hbody : ∀ (cdv : Value) (A : Around) (outer : List Env) (s : Shared) (H : Hp) (vs : List V) (Q : VK) (E : XK), RoomH k (A.deeper (envOfC qual (defScope st) s.heap.objs.size f cdv)) → sp vs H Q E →
      ∃ t, PSs (cxW CX P w K mg base N qual (defScope st) f cdv A outer s H E) (defBody st) t ∧ t { nx := fun _ H' => Q .non H', rt := Q } (start N vs) H) : FnW P w K mg base CX (k + 1) f fd ps sp := by
  obtain ⟨oc, od, kV, doc, pm, an, cdv, ct, osl, rfl, lk, hcd⟩ := F.ex
  refine ⟨len, fun A outer s H args us vs Q E room e0 bi rel told => ?_⟩
  have inn : K.In s.heap := e0.mod.kin.keeps fun b o e => (e0.bs b o e).1
  have free : s.heap.NoLimit := e0.mod.nolimit.keeps fun b o e => (e0.bs b o e).1
  refine codeAny_call_function room.depth (inn _ _ lk) rfl S.co S.gen rfl (PySem.W.codeRec_of inn hcd) (bi _ _ _ _ (wpAny_newFunctionEnv_cells S.kind (fun y hy => ?_) fun env he s1 x => ?_))
  · rcases S.par y.1 (List.of_mem_zip hy).1 with q | q
    · exact .inl q
    · exact .inr ⟨q, PySem.W.cellsFrom_some _ _ _ (.inl q)⟩
  subst he
  obtain ⟨t, ht, goal⟩ := hbody cdv A outer s H vs Q E (room.deeper _) told
  have I := warm (inv_start (CX := CX) (E := E) (A := cool A) S rfl (env_cool e0) (len _ _ _ _ told) rel x)
  refine ⟨free.keeps x.toInCall.keep, codeAny_func (wpAny_mono (ht.run [] s1 (start N vs) H _ I goal) (fun fl s' got => ?_) fun e s' got => got)⟩
  match fl, got with
  | .ret u, ⟨v, σ', H', J, rv, q⟩ => exact ⟨v, H', J.os, J.bare, J.base, J.hok, rv, q⟩
  | .next, ⟨σ', H', J, q⟩ => exact ⟨V.non, H', J.os, J.bare, J.base, J.hok, rfl, q⟩
  | .brk, ⟨_, _, _, q⟩ => exact q.elim
  | .cont, ⟨_, _, _, q⟩ => exact q.elim
end
section
variable {X : Cx} {C g : Addr} {k : Nat} {fd : FuncData} {ps : List Str} {sp : Sp}
/-- x op y (a comparison), x of the class at C, wherever it stands -/
theorem cmp_ownW {op : CmpOp} (hop : ∀ a b, compareOp op a b = richCompare op a b) (hs : PySem.W.findIn X.K (.ref C) (cmpInfo op).2.1 = some (some (.ref g))) (hf : PySem.W.isFn X.K (.ref g) = true)
    (F : FnW X.prog X.w X.K X.mg X.base (L2.CX X.prog X.w) k g fd ps sp) (hr : RoomH k X.A) (hb : L2.Binds X.K fd ps [])
    {R : V → Hp → Prop} (hR : ∀ {y : V} {H : Hp} {u : Value} {pins : List (Addr × Obj)} {σ : L2.St} {s : Shared}, L2.Inv X pins σ H s → R y H → RelV y u → ∃ tb, PySem.W.Looks (model X.prog X.w) s.heap (typeOf u) tb ∧ PySem.W.notFirst X.K C tb = true) :
    OpR X (compareOp op) (rOwn2 C R sp E0) := by
  intro pins s σ H x y v u Q I rx ry h
  obtain ⟨a, dx, fs, rfl, ha, hy, q⟩ := h
  cases (show v = Value.ref a from rx)
  obtain ⟨od, J⟩ := inst_at I ha
  obtain ⟨m, hF⟩ := I.fr
  obtain ⟨tb, ht, hn⟩ := hR I hy ry
  rw [hop]
  refine PySem.W.cmp_K (op := op) (by have := hr.un; omega) hF I.ok.mod.kin J ht hn hs hf ?_
  have rel : Vals [V.ref a, y] [Value.ref a, u] := .cons rfl (.cons ry .nil)
  have b := hb s [.ref a, u] I.kIn (by rw [List.append_nil, ← rel.length]; exact F.len _ _ _ _ q)
  rw [List.append_nil] at b
  refine wpAny_mono (Q := EP X pins σ Q) (E := X.xe) (wpAny_call (codeAny_mono (F.run X.A X.stack s H ⟨[.ref a, u], []⟩ [.ref a, u] [.ref a, y] Q E0 hr I.env0 b rel q) fun res s' got => ?_)) (fun w s' z => ?_) fun _ _ e => e
  · match res, got with
    | .error e, got => exact passL _ _ _ _ _ _ I got
    | .ok (.ret u), got => exact I.after got
    | .ok .next, got => exact got.elim
    | .ok .brk, got => exact got.elim
    | .ok .cont, got => exact got.elim
  · obtain ⟨z', H', I', rz, qz⟩ := id z
    exact back_of rz z
end
end HotEq
end

-- S8v
section
set_option Elab.async false
set_option linter.all false
set_option maxRecDepth 100000
namespace R6
open PySem L2 OwnOps OwnNe SortStr EqDict SetStr DictList StX G1 L2H HotEq
theorem u0 {k : Nat} {A : Around} (hr : RoomH k A) : A.units < cLine := by have := hr.un; omega
section
variable {P : Program} {w : World} {K : PySem.W.Frag} {mg : Str → Option Value} {base : Heap} {C : Addr}
theorem ok_eqW {f : Addr} {fd : FuncData} (F : Fun K "__eq__" "Matching.__eq__" (sMat 11) f fd) (T : Txt K mg C) : FnW P w K mg base (L2.CX P w) 1 f fd ["self", "other"] (spEq C) := by
  have sc : FnScope ["self", "other"] ["self", "other"] (defScope (sMat 11)) := ⟨rfl, rfl, rfl, by decide +kernel, rfl, by decide +kernel, by decide +kernel⟩
  refine okW F sc (fun vs H Q E h => ?_) (fun cdv A outer s H vs Q E hr h => ?_)
  · obtain ⟨p, y, n, i, F, rfl, _⟩ := h
    rfl
  · obtain ⟨p, y, n, i, F, rfl, ⟨dx, dn, di, lp, us, _, hp, hn, hi, _⟩, k⟩ := h
    refine ⟨_, pss_one (ps_ret (pe_and (pe_callB call_isi (by rfl) T.isi (by decide +kernel) (pa_cons (pv 1) (pa_cons (pe_glob (v := .ref C) (by rfl) T.gC rfl) pa_nil)))
      (pe_and (pe_cmpR (op_eqDT (u0 hr)) (pe_fld (pv 0) rfl) (pe_fld (pv 1) rfl) (nomark _)) (pe_one (pe_cmpR (op_eqDT (u0 hr)) (pe_fld (pv 0) rfl) (pe_fld (pv 1) rfl) (nomark _)))))), ?_⟩
    rcases k with ⟨q, n', i', F', rfl, ⟨dy, dn', di', lp', us', _, hq, hn', hi', _⟩, k⟩ | ⟨d, m, rfl, hd, k⟩
    · refine ⟨_, rfl, _, _, _, _, _, rfl, .own C, .base (.ins hq T.cl T.ha T.hn T.htk T.hm), T.kCC, _, rfl, iteT ?_⟩
      refine ⟨_, rfl, p, C, dx, _, _, rfl, hp, T.cl, T.n1, lk1, _, rfl, q, C, dy, _, _, rfl, hq, T.cl, T.n1, lk1, dn, dn', dS n, dS n', rfl, rfl, .inl hn, .inl hn', dS_flt n, dS_flt n', _, rfl, ?_⟩
      unfold eq2 at k
      show if dEq (dS n) (dS n') = true then _ else _
      cases e : dEq (dS n) (dS n')
      · rw [e] at k
        exact iteF k
      · rw [e, Bool.true_and] at k
        exact iteT ⟨_, rfl, p, C, dx, _, _, rfl, hp, T.cl, T.n2, lk2, _, rfl, q, C, dy, _, _, rfl, hq, T.cl, T.n2, lk2, di, di', dS i, dS i', rfl, rfl, .inl hi, .inl hi', dS_flt i, dS_flt i', k⟩
    · exact ⟨_, rfl, _, _, _, _, _, rfl, .own C, .base (.dK hd), T.kdC, _, rfl, iteF k⟩
end
end R6
end

-- S8w
section
set_option Elab.async false
set_option linter.all false
set_option maxRecDepth 100000
set_option exponentiation.threshold 10000
namespace R6
open PySem L2 OwnOps OwnNe SortStr EqDict SetStr DictList StX G1 TryAs OwnTry MakeA OpA L2H HotEq
abbrev sUnf : Stmt := top 20
structure Ops2 (P : Program) (w : World) (K : PySem.W.Frag) (mg : Str → Option Value) (base : Heap) (C CM : Addr) : Prop where
  ex : ∃ (gM : Addr) (fdM : FuncData) (gE : Addr) (fdE : FuncData), Op2 K C gM (Operator.info .Mult).2 ∧ FnOk P w K mg base (L2.CX P w) 4 gM fdM ["self", "other"] (spMul2 K C CM) ∧ L2.Binds K fdM ["self", "other"] [] ∧
    PySem.W.findIn K (.ref C) (cmpInfo .Eq).2.1 = some (some (.ref gE)) ∧ PySem.W.isFn K (.ref gE) = true ∧ FnW P w K mg base (L2.CX P w) 1 gE fdE ["self", "other"] (spEq C) ∧ L2.Binds K fdE ["self", "other"] []
  ty : Ty2 K C (Operator.info .Mult).2 "int"
  nCC : PySem.W.notFirst K C (.ref C) = true
  kiC : PySem.W.kitOne K (.type "int") (.ref C) = some false
section
variable {P : Program} {w : World} {K : PySem.W.Frag} {mg : Str → Option Value} {base : Heap} {C CM fM : Addr}
def spUnf (C : Addr) : Sp := fun vs H Q _ => ∃ (p : Addr) (x : V) (n i : Mp) (F : List Addr), vs = [.ref p, x] ∧ Mat C H p n i F ∧
  ((∃ k, x = .int k) ∨ ∃ q n' i' F', x = .ref q ∧ Mat C H q n' i' F' ∧ eq2 n' i' n' i' = true ∧ (fol n n' = false ∨ (fol n n' = true ∧ fol i i' = false))) ∧ ∀ H', Same H H' → Q (.bl true) H'
theorem ok_unf {f : Addr} {fd : FuncData} (F : Fun K "_law_unfit" "_law_unfit" sUnf f fd) (T : Txt K mg C) (U : ErrM K mg CM fM) (Z : Ops2 P w K mg base C CM) : FnOk P w K mg base (L2.CX P w) 5 f fd ["_law_one", "_law_other"] (spUnf C) := by
  obtain ⟨gM, fdM, gE, fdE, O, GM, bM, ea, ef, Ge, be⟩ := Z.ex
  have sc : FnScope ["_law_one", "_law_other", "e"] ["_law_one", "_law_other"] (defScope sUnf) := ⟨rfl, rfl, rfl, by decide +kernel, rfl, by decide +kernel, by decide +kernel⟩
  refine F.okX sc (fun vs H Q E h => ?_) (fun cdv A outer s H vs Q E hr h => ?_)
  · obtain ⟨p, x, n, i, F, rfl, _⟩ := h
    rfl
  · obtain ⟨p, x, n, i, F, rfl, mat, o, fin⟩ := h
    obtain ⟨dx, dn, di, lp, us, _, hp, _⟩ := id mat
    have rh := roomH_of (hr.mono (j := 1) (by decide))
    refine ⟨_, pss_one (ps_try_all rfl rfl sc.nd (takes_of rfl rfl rfl rfl) (fun W pn xe tk _ => pss_one (ps_ret (pe_cmpR op_isN (pe_opA (op := .Mult) (opA_or (opA_ins (C := C) (op := .Mult) O GM (hr.mono (by decide)) bM tk) (opA_val (C := C) (op := .Mult) (T := "int") (R := RInt) O Z.ty GM (hr.mono (by decide)) bM tk (fun h r => by obtain ⟨i, rfl⟩ := h; obtain ⟨t, rfl⟩ := r; rfl))) (pv 0) (pv 1)) pe_non (nomark _))))
        (Clauses.cons (i := 2) rfl rfl ⟨rfl, by decide, .inl U.gC⟩ (fun a oe cls d pn hz hf => pss_one (ps_ret (pe_cmpR (op_or op_eq (show OpR _ (compareOp .Eq) (rOwn2 C (RIns C) (spEq C) E0) from cmp_ownW (op := .Eq) (R := RIns C) (fun _ _ => rfl) ea ef Ge ⟨rh.dp, rh.un⟩ be (looks_ins Z.nCC))) (pe_byGiv U hz hf (pv 2)) (pv 1) (nomark _)))) Clauses.nil)), ?_⟩
    rcases o with ⟨k, rfl⟩ | ⟨q, n', i', F', rfl, mq, se, bad⟩
    · refine ⟨_, rfl, _, rfl, .inr ⟨p, dx, _, rfl, hp, ⟨k, rfl⟩, .inr ⟨p, _, n, i, F, rfl, mat, .inl ⟨_, .base (.int k), Z.kiC⟩, fun d H1 sm hd => ⟨true, U.te, fun _ a ha => ⟨_, rfl, rfl, rfl, d, _, rfl, hd, _, rfl, .inl ⟨rfl, ?_⟩⟩, fun z => nomatch z⟩⟩⟩⟩
      rw [decide_eq_true rfl]
      exact fin H1 sm
    · obtain ⟨dy, dn', di', lp', us', eF, hq, _⟩ := id mq
      refine ⟨_, rfl, _, rfl, .inl ⟨p, dx, _, rfl, hp, ⟨q, dy, _, rfl, hq⟩, .inr ⟨p, _, n, i, F, rfl, mat, .inr ⟨q, n', i', F', rfl, mq, bad⟩, fun d H1 sm hd => ⟨true, U.te, fun _ a ha => ⟨_, rfl, rfl, rfl, d, _, rfl, hd, _, rfl, .inr ⟨q, dy, _, rfl, sm _ _ hq, ⟨q, dy, _, rfl, sm _ _ hq⟩, ?_⟩⟩, fun z => nomatch z⟩⟩⟩⟩
      refine ⟨q, _, n', i', F', rfl, mq.same sm, .inl ⟨q, n', i', F', rfl, mq.same sm, ?_⟩⟩
      rw [se]
      exact fin H1 sm
end
end R6
end

-- S8l
section
set_option Elab.async false
set_option linter.all false
set_option maxRecDepth 100000
set_option exponentiation.threshold 10000
namespace R6
open PySem L2 OwnOps OwnNe SortStr EqDict SetStr DictList StX G1 RawD NoneD
abbrev sLaw : Stmt := top 22
abbrev NL : List Str := ["_law_script", "_law_state", "_law_nets", "_law_ids", "_law_rows", "_law_bad_nets", "_law_bad_ids", "_law_at", "_law_one", "_law_name", "_law_more_nets", "_law_more_ids", "_law_less_ids", "_law_others", "_law_other"]
structure Cl3 (K : PySem.W.Frag) (C : Addr) : Prop where
  sf : PySem.W.selfFirst K C = true
  nCC : PySem.W.notFirst K C (.ref C) = true
theorem cut1 {α : Type} {goal : Prop} {Y : α → Prop} (body : (∀ a, Y a) → goal) (next : ∀ a, Y a) : goal := body next
theorem Mat.off {C : Addr} {G : Hp} {p D : Addr} {n i : Mp} {F : List Addr} (m : Mat C G p n i F) (h : G D = none) : D ∉ F := fun z => by
  obtain ⟨dx, dn, di, lp, us, e, h1, h2, h3, h4, ⟨h5, h6⟩, o1, o2⟩ := m
  subst e
  rcases List.mem_cons.mp z with rfl | z
  · rw [h] at h1; cases h1
  rcases List.mem_cons.mp z with rfl | z
  · rw [h] at h2; cases h2
  rcases List.mem_cons.mp z with rfl | z
  · rw [h] at h3; cases h3
  rcases List.mem_cons.mp z with rfl | z
  · rw [h] at h4; cases h4
  · obtain ⟨j, hj, ej⟩ := List.getElem_of_mem z
    have := h6 j D _ (by rw [List.getElem?_eq_getElem hj, ej]) (List.getElem?_eq_getElem (by rw [← h5]; exact hj))
    rw [h] at this
    cases this
theorem New.off {F : List Addr} {G : Hp} {D : Addr} {u : HO} (n : New F G) (h : G D = some u) : D ∉ F := fun z => by
  rw [n D z] at h
  cases h
theorem mk_at {C : Addr} {H : Hp} {W : VK} {E : XK} {a b x dx : Addr} {n i : Mp} (hx : H x = none) (hd : H dx = none) (ha : H a = some (.dK (dS n))) (hb : H b = some (.dK (dS i))) (ab : a ≠ b) (on : One n) (oi : One i) (k : ∀ H' F, Same H H' → Mat C H' x n i F → New F H → W .non H') :
    spMI C [.ref x, .ref a, .ref b] (upd (upd H dx (.own x)) x (.ins C dx [])) W E := by
  have sn := same_new (C := C) hx hd
  refine ⟨x, dx, a, b, n, i, rfl, upd_same, sn _ _ ha, sn _ _ hb, ab, on, oi, fun H' F sx m nw => k H' F (same_made hx hd sx) m fun y hy => ?_⟩
  by_cases h : y = x
  · rw [h]
    exact hx
  · exact Same.none sn (nw y hy h)
theorem head_app {c y : Str} (h : 0 < c.cps.size) : (c ++ y).cps[0]? = c.cps[0]? := by
  show (c.cps ++ y.cps)[0]? = _
  rw [Array.getElem?_append_left h]
theorem not_pre {c t : Str} {xs : List Str} (h : 0 < c.cps.size) (ne : t.cps[0]? ≠ c.cps[0]?) (b : ∀ x ∈ xs, ∃ y, x = c ++ y) : t ∉ xs := fun m => by
  obtain ⟨y, e⟩ := b t m
  exact ne (by rw [e]; exact head_app h)
theorem nd_snoc {xs : List Str} {z : Str} (h : xs.Nodup) (n : z ∉ xs) : (xs ++ [z]).Nodup := List.nodup_append.mpr ⟨h, List.pairwise_singleton _ _, fun x hx y hy e => n (by
  rw [List.mem_singleton.mp hy] at e
  subst e
  exact hx)⟩
theorem one_two {m : Mp} (o : One m) (few : m.length ≤ 6) (hk : ("z" : Str) ∉ ks m) (hv : ("z" : Str) ∉ vs m) : One (two m "z") := by
  refine ⟨?_, ?_, ?_⟩
  · unfold two ks
    rw [List.map_append]
    exact nd_snoc o.kn hk
  · unfold two vs
    rw [List.map_append]
    exact nd_snoc o.vn hv
  · unfold two
    rw [List.length_append]
    show m.length + 1 ≤ 1000
    omega
theorem two_len {m : Mp} {t : Str} : (two m t).length = m.length + 1 := by
  unfold two
  rw [List.length_append]
  rfl
def drp (m : Mp) (y : Str) : Mp := m.filter fun r => decide (r.1 ≠ y)
theorem dS_drp (m : Mp) (y : Str) : dropK (dS m) (Sum.inr y) = dS (drp m y) := by
  unfold dropK dS drp
  rw [List.filter_map]
  refine congrArg _ (List.filter_congr fun r _ => ?_)
  show decide ((Sum.inr r.1 : Key) ≠ Sum.inr y) = decide (r.1 ≠ y)
  exact decide_eq_decide.mpr ⟨fun h e => h (congrArg Sum.inr e), fun h e => h (Sum.inr.inj e)⟩
theorem one_drp {m : Mp} (o : One m) (y : Str) : One (drp m y) :=
  ⟨List.Nodup.sublist (List.filter_sublist.map _) o.kn, List.Nodup.sublist (List.filter_sublist.map _) o.vn, Nat.le_trans (List.length_filter_le _ _) o.few⟩
theorem drp_len {m : Mp} {r : Str × Str} (h : r ∈ m) : (drp m r.1).length ≠ m.length := fun e => by
  have := List.length_filter_eq_length_iff.mp e r h
  simp at this
theorem fol_ne {m l : Mp} (h : m.length ≠ l.length) : fol m l = false := decide_eq_false fun e => h (by
  have := congrArg List.length e
  rw [(srtS_perm _).length_eq, (srtS_perm _).length_eq, List.length_map, List.length_map] at this
  exact this)
theorem eq2_refl {n i : Mp} (on : One n) (oi : One i) : eq2 n i n i = true := by
  unfold eq2
  rw [dEq_refl on, dEq_refl oi]
  rfl
theorem at0 {xs : List V} {j : Nat} {x : V} (h : xs[j]? = some x) : atI xs ((0 : Int) + (j : Int)) = some x := at_of (j := j) (Int.zero_add _) h
theorem thn_two {m : Mp} (p : Pm m) {N : Nat} (P : Per m N) : thn m m = fm m N 2 (ks m) := by
  have := fm_thn p P (List.Perm.refl (ks m)) 1
  rw [fm_self p P] at this
  exact this
def spLaw (K : PySem.W.Frag) : Sp := fun vs H Q _ => ∃ (a : Addr) (ns : List Int), vs = [.ref a] ∧ SqL K H a (ns.map V.int) ∧ ∀ H', Same H H' → Q (.bl true) H'
section
variable {P : Program} {w : World} {K : PySem.W.Frag} {mg : Str → Option Value} {base : Heap} {C CM fM : Addr}
set_option maxHeartbeats 8000000 in
theorem ok_law {f : Addr} {fd : FuncData} (F : Fun K "law" "law" sLaw f fd) (T : Txt K mg C) (N : Nms mg) (Z : Cl3 K C) (M : Mak P w K mg base C)
    (GSt : Glb P w K mg base "_law_start" 1 ["_law_script"] (spStart K)) (GD : Glb P w K mg base "_law_draw" 1 ["_law_state", "_law_many"] spDraw) (GN : Glb P w K mg base "_law_names" 2 ["_law_state", "_law_many", "_law_letter"] spNames)
    (GM : Glb P w K mg base "_law_map" 2 ["_law_state", "_law_names_here", "_law_targets"] spMap) (GS : Glb P w K mg base "_law_spoilt" 2 ["_law_state", "_law_rows", "_law_names_here"] (spSpo P w K))
    (GU : Glb P w K mg base "_law_unmade" 4 ["_law_nets", "_law_ids", "_law_given"] (spUnm P w K)) (GK : Glb P w K mg base "_law_unknown" 4 ["_law_one", "_law_name", "_law_is_net"] (spUnk K C)) (GF : Glb P w K mg base "_law_unfit" 5 ["_law_one", "_law_other"] (spUnf C))
    (GH : Glb P w K mg base "_law_holds" 5 ["_law_told", "_law_nets", "_law_ids"] (spHolds C)) (DP : Dun P w K mg base C "power" 4 ["self", "k"] (spPower C CM))
    (DM : Dun P w K mg base C (PySem.dunder "mul") 4 ["self", "other"] (spMul C)) (rM : ∃ rc, PySem.W.findIn K (.ref C) (PySem.dunderR "mul") = some rc ∧ (rc = none ∨ ∃ g : Addr, rc = some (.ref g))) (DE : Dun P w K mg base C (cmpInfo .Eq).2.1 1 ["self", "other"] (spEq C)) :
    FnOk P w K mg base (L2.CX P w) 7 f fd ["_law_script"] (spLaw K) := by
  obtain ⟨fI, fdI, mk, GI, bI⟩ := M.ex
  obtain ⟨_, _, mSt, kSt, GSt, bSt⟩ := GSt.ex
  obtain ⟨_, _, mD, kD, GD, bD⟩ := GD.ex
  obtain ⟨_, _, mN, kN, GN, bN⟩ := GN.ex
  obtain ⟨_, _, mM, kM, GM, bM⟩ := GM.ex
  obtain ⟨_, _, mS, kS, GS, bS⟩ := GS.ex
  obtain ⟨_, _, mU, kU, GU, bU⟩ := GU.ex
  obtain ⟨_, _, mK, kK, GK, bK⟩ := GK.ex
  obtain ⟨_, _, mF, kF, GF, bF⟩ := GF.ex
  obtain ⟨_, _, mH, kH, GH, bH⟩ := GH.ex
  obtain ⟨_, _, pa, pf, pk, Gp, bp⟩ := DP.ex
  obtain ⟨_, _, ma, mf', mk', Gm, bm⟩ := DM.ex
  obtain ⟨_, _, ea, ef, ek, Ge, be⟩ := DE.ex
  have sc : FnScope NL ["_law_script"] (defScope sLaw) := ⟨rfl, rfl, rfl, by decide +kernel, rfl, by decide +kernel, by decide +kernel⟩
  refine F.okX sc (fun vs H Q E h => ?_) (fun cdv A outer s H vs Q E hr h => ?_)
  · obtain ⟨a, ns, rfl, _⟩ := h
    rfl
  · obtain ⟨a, ns, rfl, hS, k⟩ := h
    have hu : (cxOf (L2.CX P w) P w K mg base NL "law" (defScope sLaw) f cdv A outer s H E).A.units + 1 < cLine := hu_of hr
    refine ⟨_, (pss_cons (ps_set (i := 1) sc.nd rfl (Or.inl rfl) (pe_call GSt (hr.mono (by decide)) (by rfl) mSt kSt bSt .nil passL (pa_cons (pv 0) pa_nil)))
      (pss_cons (ps_set (i := 2) sc.nd rfl (Or.inl rfl) (pe_call GN (hr.mono (by decide)) (by rfl) mN kN bN .nil passL (pa_cons (pv 1) (pa_cons (pe_op op_add pe_int (pe_call GD (hr.mono (by decide)) (by rfl) mD kD bD .nil passL (pa_cons (pv 1) (pa_cons pe_int pa_nil)))) (pa_cons pe_str pa_nil)))))
      (pss_cons (ps_set (i := 3) sc.nd rfl (Or.inl rfl) (pe_call GN (hr.mono (by decide)) (by rfl) mN kN bN .nil passL (pa_cons (pv 1) (pa_cons (pe_op op_add pe_int (pe_call GD (hr.mono (by decide)) (by rfl) mD kD bD .nil passL (pa_cons (pv 1) (pa_cons pe_int pa_nil)))) (pa_cons pe_str pa_nil)))))
      (pss_cons (ps_set (i := 4) sc.nd rfl (Or.inl rfl) (pe_lst (pa_cons (pe_call GM (hr.mono (by decide)) (by rfl) mM kM bM .nil passL (pa_cons (pv 1) (pa_cons (pv 2) (pa_cons (pv 2) pa_nil)))) (pa_cons (pe_call GM (hr.mono (by decide)) (by rfl) mM kM bM .nil passL (pa_cons (pv 1) (pa_cons (pv 3) (pa_cons (pv 3) pa_nil)))) pa_nil))))
      (pss_cons (ps_par (i := 5) (j := 6) (by rfl) sc.nd rfl rfl (by decide) rfl rfl (pa_cons (pe_call GS (hr.mono (by decide)) (by rfl) mS kS bS .nil passL (pa_cons (pv 1) (pa_cons (pe_ix ix_list (pv 4) pe_int (fun _ _ => rfl)) (pa_cons (pv 2) pa_nil)))) (pa_cons (pe_call GS (hr.mono (by decide)) (by rfl) mS kS bS .nil passL (pa_cons (pv 1) (pa_cons (pe_ix ix_list (pv 4) pe_int (fun _ _ => rfl)) (pa_cons (pv 3) pa_nil)))) pa_nil)) (by rfl))
      (pss_cons (ps_for passOwn rfl (pi_range1 (by rfl) N.range (pa_cons pe_int pa_nil)) (pg_name (i := 7) sc.nd rfl (Or.inl rfl)) (pss_cons (ps_if (PW.pt (pw_or (pt_not (pt_val (pe_call GU (hr.mono (by decide)) (by rfl) mU kU bU .nil passL (pa_cons (pe_ix ix_list (pv 5) (pv 7) (fun _ _ => rfl)) (pa_cons (pe_ix ix_list (pv 4) pe_int (fun _ _ => rfl)) (pa_cons (pe_ix ix_list (pv 5) (pv 7) (fun _ _ => rfl)) pa_nil)))))) (pw_or1 (pt_not (pt_val (pe_call GU (hr.mono (by decide)) (by rfl) mU kU bU .nil passL (pa_cons (pe_ix ix_list (pv 4) pe_int (fun _ _ => rfl)) (pa_cons (pe_ix ix_list (pv 6) (pv 7) (fun _ _ => rfl)) (pa_cons (pe_ix ix_list (pv 6) (pv 7) (fun _ _ => rfl)) pa_nil))))))))) (pss_one (ps_ret pe_bl)) pss_nil)
      (pss_one (ps_if (pt_not (pt_val (pe_call GU (hr.mono (by decide)) (by rfl) mU kU bU .nil passL (pa_cons (pe_ix ix_list (pv 5) (pv 7) (fun _ _ => rfl)) (pa_cons (pe_ix ix_list (pv 6) (pe_op op_sub pe_int (pv 7)) (fun _ _ => rfl)) (pa_cons (pe_ix ix_list (pv 5) (pv 7) (fun _ _ => rfl)) pa_nil)))))) (pss_one (ps_ret pe_bl)) pss_nil))))
      (pss_cons (ps_set (i := 8) sc.nd rfl (Or.inr rfl) (pe_make mk GI (hr.mono (by decide)) (by rfl) T.gC bI .nil passL (pa_cons (pe_callTy call_dictD (by rfl) T.dict (by decide +kernel) (pa_cons (pe_ix ix_list (pv 4) pe_int (fun _ _ => rfl)) pa_nil)) (pa_cons (pe_callTy call_dictD (by rfl) T.dict (by decide +kernel) (pa_cons (pe_ix ix_list (pv 4) pe_int (fun _ _ => rfl)) pa_nil)) pa_nil))))
      (pss_cons (ps_for passOwn rfl (pi_list (pe_lst (pa_cons pe_str (pa_cons pe_str (pa_cons pe_int (pa_cons pe_non pa_nil)))))) (pg_name (i := 9) sc.nd rfl (Or.inl rfl)) (pss_one (ps_if (PW.pt (pw_or (pt_not (pt_val (pe_call GK (hr.mono (by decide)) (by rfl) mK kK bK .nil passL (pa_cons (pv 8) (pa_cons (pv 9) (pa_cons pe_bl pa_nil)))))) (pw_or1 (pt_not (pt_val (pe_call GK (hr.mono (by decide)) (by rfl) mK kK bK .nil passL (pa_cons (pv 8) (pa_cons (pv 9) (pa_cons pe_bl pa_nil))))))))) (pss_one (ps_ret pe_bl)) pss_nil)))
      (pss_cons (ps_if (PW.pt (pw_or (pt_not (pt_val (pe_call GK (hr.mono (by decide)) (by rfl) mK kK bK .nil passL (pa_cons (pv 8) (pa_cons (pe_ix ix_list (pv 3) pe_int (fun _ _ => rfl)) (pa_cons pe_bl pa_nil)))))) (pw_or1 (pt_not (pt_val (pe_call GK (hr.mono (by decide)) (by rfl) mK kK bK .nil passL (pa_cons (pv 8) (pa_cons (pe_ix ix_list (pv 2) pe_int (fun _ _ => rfl)) (pa_cons pe_bl pa_nil))))))))) (pss_one (ps_ret pe_bl)) pss_nil)
      (pss_cons (ps_par3 (i := 10) (j := 11) (l := 12) (by rfl) sc.nd rfl rfl rfl (by decide) (by decide) (by decide) rfl rfl rfl (pa_cons (pe_callTy call_dictD (by rfl) T.dict (by decide +kernel) (pa_cons (pe_ix ix_list (pv 4) pe_int (fun _ _ => rfl)) pa_nil)) (pa_cons (pe_callTy call_dictD (by rfl) T.dict (by decide +kernel) (pa_cons (pe_ix ix_list (pv 4) pe_int (fun _ _ => rfl)) pa_nil)) (pa_cons (pe_callTy call_dictD (by rfl) T.dict (by decide +kernel) (pa_cons (pe_ix ix_list (pv 4) pe_int (fun _ _ => rfl)) pa_nil)) pa_nil))) (by rfl))
      (pss_cons (ps_dput hu (pv 10) pe_str pe_str rfl)
      (pss_cons (ps_dput hu (pv 11) pe_str pe_str rfl)
      (pss_cons (ps_expr (pe_dpop1 (pv 12) (pe_ix ix_list (pv 3) pe_int (fun _ _ => rfl)) ⟨by rfl, by rfl, by rfl, by rfl⟩))
      (pss_cons (ps_set (i := 13) sc.nd rfl (Or.inl rfl) (pe_lst (pa_cons (pe_make mk GI (hr.mono (by decide)) (by rfl) T.gC bI .nil passL (pa_cons (pv 10) (pa_cons (pe_ix ix_list (pv 4) pe_int (fun _ _ => rfl)) pa_nil))) (pa_cons (pe_make mk GI (hr.mono (by decide)) (by rfl) T.gC bI .nil passL (pa_cons (pe_ix ix_list (pv 4) pe_int (fun _ _ => rfl)) (pa_cons (pv 11) pa_nil))) (pa_cons (pe_make mk GI (hr.mono (by decide)) (by rfl) T.gC bI .nil passL (pa_cons (pe_ix ix_list (pv 4) pe_int (fun _ _ => rfl)) (pa_cons (pv 12) pa_nil))) pa_nil)))))
      (pss_cons (ps_if (pt_not (pt_val (pe_callB (cr_all rfl) (by rfl) T.all (by decide +kernel) (pa_cons (pe_lc (own := [("_law_other", 14)]) (g := gName 14) (tt := tYes) rfl sc.nd (pi_list (pv 13)) (blkOk_by (N := NL) (sc := defScope sLaw) (by decide +kernel)) (fun _ _ _ _ _ => pg_name (i := 14) sc.nd rfl (Or.inl rfl)) (fun _ _ _ _ _ => pts_nil)
          (fun _ _ _ _ _ => pe_and (pe_call GF (hr.mono (by decide)) (by rfl) mF kF bF .nil passL (pa_cons (pv 8) (pa_cons (pv 14) pa_nil))) (pe_one (pe_cmpR op_isBl (pe_call GF (hr.mono (by decide)) (by rfl) mF kF bF .nil passL (pa_cons (pv 14) (pa_cons (pv 8) pa_nil))) pe_bl (nomark _))))) pa_nil)))) (pss_one (ps_ret pe_bl)) pss_nil)
      (pss_one (ps_ret (pe_and (pe_call GF (hr.mono (by decide)) (by rfl) mF kF bF .nil passL (pa_cons (pv 8) (pa_cons pe_int pa_nil))) (pe_and (pe_call GH (hr.mono (by decide)) (by rfl) mH kH bH .nil passL (pa_cons (pv 8) (pa_cons (pe_ix ix_list (pv 4) pe_int (fun _ _ => rfl)) (pa_cons (pe_ix ix_list (pv 4) pe_int (fun _ _ => rfl)) pa_nil)))) (pe_one (pe_cmpR (op := .Eq) (cmp_own (C := C) (E := E0) (R := RIns C) (fun _ _ => rfl) ea ef Ge (hr.mono (by decide)) be passL (looks_ins Z.nCC)) (pe_op (op := .Mult) (op_ins (C := C) (E := E0) (op := .Mult) ⟨ma, rM, mf', Z.sf⟩ Gm (hr.mono (by decide)) bm passL) (pv 8) (pv 8)) (pe_meth (E := E0) (pv 8) T.cl ⟨pa, pf, pk⟩ Gp (hr.mono (by decide)) bp .nil passL (pa_cons pe_int pa_nil)) (nomark _)))))))))))))))))))))), ?_⟩
    refine ⟨_, rfl, a, ns, rfl, hS, fun l ls H1 s1 st1 nl nls => ?_⟩
    have X0 : ∀ {G : Hp}, SameX l H1 G → Same H G := fun {G} sx b o q => sx b o (fun z => by rw [z, nl] at q; cases q) (s1 b o q)
    refine ⟨_, rfl, _, rfl, l, ls, 5, rfl, by decide, sm9 (by decide), st1, fun d H2 d0 d5 sx2 st2 => ⟨_, _, rfl, rfl, l, ls, "a", 1 + d, rfl, by omega, by omega, by decide, st2, fun N0 xs H3 sx3 st3 nN0 hN0 lx nx bx => ?_⟩⟩
    refine ⟨_, rfl, _, rfl, l, ls, 5, rfl, by decide, sm9 (by decide), st3, fun e H4 e0 e5 sx4 st4 => ⟨_, _, rfl, rfl, l, ls, "b", 1 + e, rfl, by omega, by omega, by decide, st4, fun I0 ys H5 sx5 st5 nI0 hI0 ly ny bY => ?_⟩⟩
    have N0l := st3.txt hN0
    have I0l := st5.txt hI0
    have hN05 := (sx4.trans sx5) _ _ N0l hN0
    refine ⟨_, rfl, _, rfl, _, rfl, l, ls, N0, N0, xs, xs, rfl, hN05, hN05, rfl, by omega, nx, nx, st5, fun R0 m H6 sx6 st6 nR0 hR0 km vm om => ?_⟩
    have hI06 := sx6 _ _ I0l hI0
    refine ⟨_, rfl, _, rfl, _, rfl, l, ls, I0, I0, ys, ys, rfl, hI06, hI06, rfl, by omega, ny, ny, st6, fun R1 i H7 sx7 st7 nR1 hR1 ki vi oi => ⟨(by show 2 ≤ sizeLine; decide), fun RL nRL => ?_⟩⟩
    have R0l := st6.dk hR0
    have R1l := st7.dk hR1
    have hR07 := sx7 _ _ R0l hR0
    have hN07 := (sx6.trans sx7) _ _ N0l hN05
    have hI07 := sx7 _ _ I0l hI06
    obtain ⟨RLl, RLs⟩ := st7.ne nRL
    have s8 := same_upd (o := .lst [.ref R0, .ref R1]) nRL
    have st8 := st7.put (o := .lst [.ref R0, .ref R1]) RLl RLs
    have hRL8 : (upd H7 RL (.lst [.ref R0, .ref R1])) RL = some (.lst [.ref R0, .ref R1]) := upd_same
    have sxA : SameX l H1 (upd H7 RL (.lst [.ref R0, .ref R1])) := (((((sx2.trans sx3).trans sx4).trans sx5).trans sx6).trans sx7).trans (SameX.of s8)
    generalize upd H7 RL (.lst [.ref R0, .ref R1]) = H8 at s8 st8 hRL8 sxA ⊢
    have hR08 := s8 _ _ hR07
    have hR18 := s8 _ _ hR1
    have hN08 := s8 _ _ hN07
    have hI08 := s8 _ _ hI07
    have ml : m.length = xs.length := by rw [← km]; exact (List.length_map _).symm
    have il : i.length = ys.length := by rw [← ki]; exact (List.length_map _).symm
    have zx : ("z" : Str) ∉ xs := not_pre (c := "a") (by decide +kernel) (by decide +kernel) bx
    have zy : ("z" : Str) ∉ ys := not_pre (c := "b") (by decide +kernel) (by decide +kernel) bY
    have ex' : ("" : Str) ∉ xs := not_pre (c := "a") (by decide +kernel) (by decide +kernel) bx
    have ey' : ("" : Str) ∉ ys := not_pre (c := "b") (by decide +kernel) (by decide +kernel) bY
    have mf6 : m.length ≤ 6 := by omega
    have if6 : i.length ≤ 6 := by omega
    -- the spoilt ones
    refine ⟨_, rfl, _, rfl, RL, _, _, _, rfl, rfl, SqL.of hRL8, at_of (j := 0) rfl rfl, _, rfl, l, ls, R0, N0, m, rfl, st8, hR08, by rw [km]; exact hN08, om, by omega, mf6, by rw [km]; exact zx, fun r1 b1 H9 sx9 st9 nr1 hr1 lb1 bad1 => ?_⟩
    have hRL9 := sx9 _ _ RLl hRL8
    have hR19 := sx9 _ _ R1l hR18
    have hI09 := sx9 _ _ I0l hI08
    have r1l : r1 ≠ l := (fun z => by rw [z] at nr1; exact absurd (st8.l).1 (by rw [nr1]; decide))
    refine ⟨_, rfl, _, rfl, RL, _, _, _, rfl, rfl, SqL.of hRL9, at_of (j := 1) rfl rfl, _, rfl, l, ls, R1, I0, i, rfl, st9, hR19, by rw [ki]; exact hI09, oi, by omega, if6, by rw [ki]; exact zy, fun r2 b2 HA sxB stA nr2 hr2 lb2 bad2 => ⟨_, _, rfl, ?_⟩⟩
    have XH : Same H HA := X0 ((sxA.trans sx9).trans sxB)
    have sx8A := sx9.trans sxB
    have hRLA := sx8A _ _ RLl hRL8
    have hR0A := sx8A _ _ R0l hR08
    have hR1A := sx8A _ _ R1l hR18
    have hN0A := sx8A _ _ N0l hN08
    have hI0A := sx8A _ _ I0l hI08
    have hr1A := sxB _ _ r1l hr1
    have R01 : R0 ≠ R1 := fun z => by rw [← z, hR0] at nR1; cases nR1
    have badN : ∀ x ∈ b1, ∀ G, Same HA G → Bad P w K G x := fun x hx G s => bad1 x hx G (sxB.trans (SameX.of s))
    have badI : ∀ x ∈ b2, ∀ G, Same HA G → Bad P w K G x := fun x hx G s => bad2 x hx G (SameX.of s)
    have yesN : ∀ G, Same HA G → OneT P w K G (.ref R0) true := fun G s => .inl ⟨R0, m, rfl, s _ _ hR0A, om.few, (decide_eq_true om.vn).symm⟩
    refine ⟨6, rfl, by omega, by omega, for_range (fun j σ G => (∃ v7, σ = [some (.ref a), some (.ref l), some (.ref N0), some (.ref I0), some (.ref RL), some (.ref r1), some (.ref r2), v7, none, none, none, none, none, none, none]) ∧ Same HA G) ⟨⟨_, rfl⟩, Same.refl _⟩ (fun j σ G hj ⟨⟨v7, e⟩, sG⟩ => ?_) (fun σ GA ⟨⟨v7, e⟩, sGA⟩ => ?_)⟩
    · subst e
      obtain ⟨x, hx⟩ : ∃ x, b1[j]? = some x := ⟨b1[j]'(by omega), List.getElem?_eq_getElem _⟩
      obtain ⟨y, hy⟩ : ∃ y, b2[j]? = some y := ⟨b2[j]'(by omega), List.getElem?_eq_getElem _⟩
      obtain ⟨y5, hy5⟩ : ∃ y, b2[5 - j]? = some y := ⟨b2[5 - j]'(by omega), List.getElem?_eq_getElem _⟩
      have mx := List.mem_of_getElem? hx
      have my := List.mem_of_getElem? hy
      refine ⟨_, rfl, _, rfl, r1, _, _, _, rfl, rfl, SqL.of (sG _ _ hr1A), at0 hx, _, rfl, RL, _, _, _, rfl, rfl, SqL.of (sG _ _ hRLA), at_of (j := 1) rfl rfl, _, rfl, _, rfl, r1, _, _, _, rfl, rfl, SqL.of (sG _ _ hr1A), at0 hx, x, .ref R1, x, rfl, .inl ⟨fun G' s => (badN x mx G' (sG.trans s)).1, rfl⟩, fun G' s => (badN x mx G' (sG.trans s)).2, fun G1 s1' => ⟨_, rfl, if_neg' rfl ?_⟩⟩
      have sG1 := sG.trans s1'
      refine ⟨_, rfl, RL, _, _, _, rfl, rfl, SqL.of (sG1 _ _ hRLA), at_of (j := 0) rfl rfl, _, rfl, _, rfl, r2, _, _, _, rfl, rfl, SqL.of (sG1 _ _ hr2), at0 hy, _, rfl, _, rfl, r2, _, _, _, rfl, rfl, SqL.of (sG1 _ _ hr2), at0 hy, .ref R0, y, y, rfl, .inr ⟨fun G' s => yesN G' (sG1.trans s), fun G' s => (badI y my G' (sG1.trans s)).1, rfl⟩, fun G' s => (badI y my G' (sG1.trans s)).2, fun G2 s2 => ⟨_, rfl, if_neg' rfl ?_⟩⟩
      have sG2 := sG1.trans s2
      refine ⟨_, rfl, _, rfl, r1, _, _, _, rfl, rfl, SqL.of (sG2 _ _ hr1A), at0 hx, _, rfl, _, rfl, _, _, rfl, rfl, r2, _, _, _, rfl, rfl, SqL.of (sG2 _ _ hr2), at_of (j := 5 - j) (by omega) hy5, _, rfl, _, rfl, r1, _, _, _, rfl, rfl, SqL.of (sG2 _ _ hr1A), at0 hx, x, y5, x, rfl, .inl ⟨fun G' s => (badN x mx G' (sG2.trans s)).1, rfl⟩, fun G' s => (badN x mx G' (sG2.trans s)).2, fun G3 s3 => ⟨_, rfl, if_neg' rfl ?_⟩⟩
      exact ⟨⟨_, rfl⟩, sG2.trans s3⟩
    subst e
    have hRLG := sGA _ _ hRLA
    have hR0G := sGA _ _ hR0A
    have hR1G := sGA _ _ hR1A
    have XA := XH.trans sGA
    -- one
    refine ⟨_, rfl, RL, _, _, _, rfl, rfl, SqL.of hRLG, at_of (j := 0) rfl rfl, R0, dS m, rfl, .inl hR0G, fun c0 nc0 => ?_⟩
    have f0 := same_upd (o := .dK (dS m)) nc0
    have hc0 : (upd GA c0 (.dK (dS m))) c0 = some (.dK (dS m)) := upd_same
    generalize upd GA c0 (.dK (dS m)) = GB at f0 hc0 ⊢
    refine ⟨_, rfl, RL, _, _, _, rfl, rfl, SqL.of (f0 _ _ hRLG), at_of (j := 1) rfl rfl, R1, dS i, rfl, .inl (f0 _ _ hR1G), fun c1 nc1 => ?_⟩
    have c01 : c0 ≠ c1 := fun z => by rw [← z, hc0] at nc1; cases nc1
    have f1 := same_upd (o := .dK (dS i)) nc1
    have hc1 : (upd GB c1 (.dK (dS i))) c1 = some (.dK (dS i)) := upd_same
    generalize upd GB c1 (.dK (dS i)) = GC at f1 hc1 ⊢
    have f01 := f0.trans f1
    intro o odx no nodx one
    refine mk_at no nodx (f1 _ _ hc0) hc1 c01 om oi fun G0 Fo so mo nwo => ⟨rfl, ?_⟩
    have R0o := nwo.off (f01 _ _ hR0G)
    have R1o := nwo.off (f01 _ _ hR1G)
    have S0 := f01.trans so
    have RL0 := S0 _ _ hRLG
    have R00 := S0 _ _ hR0G
    have R10 := S0 _ _ hR1G
    have N00 := S0 _ _ (sGA _ _ hN0A)
    have I00 := S0 _ _ (sGA _ _ hI0A)
    have XG := XA.trans S0
    obtain ⟨ox, _, _, _, _, _, ho, _⟩ := id mo
    obtain ⟨x0, hx0⟩ : ∃ x, xs[0]? = some x := ⟨xs[0]'(by omega), List.getElem?_eq_getElem _⟩
    obtain ⟨y0, hy0⟩ : ∃ y, ys[0]? = some y := ⟨ys[0]'(by omega), List.getElem?_eq_getElem _⟩
    have unk : ∀ t : Str, t ∉ xs → at_ m t = none := fun t h => at_none (by rw [km]; exact h)
    have unki : ∀ t : Str, t ∉ ys → at_ i t = none := fun t h => at_none (by rw [ki]; exact h)
    refine ⟨(by show 4 ≤ sizeLine; decide), fun TL nTL => ⟨TL, rfl, ⟨_, SqL.of upd_same⟩, for_list (K := K) (a := TL) (xs := [.str "z", .str "", .int 3, .non]) (fun j σ G => (∃ v9, σ = [some (.ref a), some (.ref l), some (.ref N0), some (.ref I0), some (.ref RL), some (.ref r1), some (.ref r2), v7, some (.ref o), v9, none, none, none, none, none]) ∧ Same (upd G0 TL (.lst [.str "z", .str "", .int 3, .non])) G) ⟨⟨_, rfl⟩, Same.refl _⟩ (fun j σ G _ i => SqL.of (i.2 _ _ upd_same)) (fun j x σ G hx ⟨⟨v9, e⟩, sG⟩ => ?_) (fun σ GD ⟨⟨v9, e⟩, sGD⟩ => ?_)⟩⟩
    · subst e
      have sT := same_upd (o := .lst [.str "z", .str "", .int 3, .non]) nTL
      have mG := mo.same (sT.trans sG)
      have fx : (∀ G' : Hp, ∀ b : Bool, IsS K G' x false ∨ ∃ t, x = .str t ∧ at_ (if b = true then m else i) t = none) ∧ scal x x = true := by
        rcases j with _ | _ | _ | _ | j
        · cases hx
          exact ⟨fun G' b => .inr ⟨_, rfl, by cases b; exact unki _ zy; exact unk _ zx⟩, rfl⟩
        · cases hx
          exact ⟨fun G' b => .inr ⟨_, rfl, by cases b; exact unki _ ey'; exact unk _ ex'⟩, rfl⟩
        · cases hx
          exact ⟨fun G' b => .inl is_int, rfl⟩
        · cases hx
          exact ⟨fun G' b => .inl is_non, rfl⟩
        · cases hx
      refine ⟨_, rfl, _, rfl, o, x, true, m, i, Fo, rfl, mG, fx.1 _ _, fx.2, fun G1 s1' => ⟨_, rfl, if_neg' rfl ?_⟩⟩
      refine ⟨_, rfl, _, rfl, o, x, false, m, i, Fo, rfl, mG.same s1', fx.1 _ _, fx.2, fun G2 s2 => ⟨_, rfl, if_neg' rfl ?_⟩⟩
      exact ⟨⟨_, rfl⟩, sG.trans (s1'.trans s2)⟩
    subst e
    have sT := same_upd (o := .lst [.str "z", .str "", .int 3, .non]) nTL
    have t0 := sT.trans sGD
    have RLD := t0 _ _ RL0
    have R0D := t0 _ _ R00
    have R1D := t0 _ _ R10
    have N0D := t0 _ _ N00
    have I0D := t0 _ _ I00
    have yx : y0 ∉ xs := by
      obtain ⟨z, e⟩ := bY y0 (List.mem_of_getElem? hy0)
      refine not_pre (c := "a") (by decide +kernel) ?_ bx
      rw [e, head_app (by decide +kernel)]
      decide +kernel
    have xy : x0 ∉ ys := by
      obtain ⟨z, e⟩ := bx x0 (List.mem_of_getElem? hx0)
      refine not_pre (c := "b") (by decide +kernel) ?_ bY
      rw [e, head_app (by decide +kernel)]
      decide +kernel
    refine ⟨_, rfl, _, rfl, I0, _, _, _, rfl, rfl, SqL.of I0D, at_of (j := 0) rfl (by rw [List.getElem?_map, hy0]; rfl), o, .str y0, true, m, i, Fo, rfl, mo.same t0, .inr ⟨_, rfl, unk _ yx⟩, rfl, fun G1 s1' => ⟨_, rfl, if_neg' rfl ?_⟩⟩
    refine ⟨_, rfl, _, rfl, N0, _, _, _, rfl, rfl, SqL.of (s1' _ _ N0D), at_of (j := 0) rfl (by rw [List.getElem?_map, hx0]; rfl), o, .str x0, false, m, i, Fo, rfl, mo.same (t0.trans s1'), .inr ⟨_, rfl, unki _ xy⟩, rfl, fun G2 s2 => ⟨_, rfl, if_neg' rfl ?_⟩⟩
    have t2 := t0.trans (s1'.trans s2)
    have RL2 := t2 _ _ RL0
    have R02 := t2 _ _ R00
    have R12 := t2 _ _ R10
    -- more and less
    refine ⟨_, rfl, RL, _, _, _, rfl, rfl, SqL.of RL2, at_of (j := 0) rfl rfl, R0, dS m, rfl, .inl R02, fun cA ncA => ?_⟩
    have g1 := same_upd (o := .dK (dS m)) ncA
    have hA : (upd G2 cA (.dK (dS m))) cA = some (.dK (dS m)) := upd_same
    generalize upd G2 cA (.dK (dS m)) = G3 at g1 hA ⊢
    refine ⟨_, rfl, RL, _, _, _, rfl, rfl, SqL.of (g1 _ _ RL2), at_of (j := 1) rfl rfl, R1, dS i, rfl, .inl (g1 _ _ R12), fun cB ncB => ?_⟩
    have AB : cA ≠ cB := fun z => by rw [← z, hA] at ncB; cases ncB
    have g2 := same_upd (o := .dK (dS i)) ncB
    have hB : (upd G3 cB (.dK (dS i))) cB = some (.dK (dS i)) := upd_same
    have hA4 := g2 _ _ hA
    have g12 := g1.trans g2
    generalize upd G3 cB (.dK (dS i)) = G4 at g2 g12 hB hA4 ⊢
    refine ⟨_, rfl, RL, _, _, _, rfl, rfl, SqL.of (g12 _ _ RL2), at_of (j := 1) rfl rfl, R1, dS i, rfl, .inl (g12 _ _ R12), fun cC ncC => ⟨_, _, _, rfl, ?_⟩⟩
    have AC : cA ≠ cC := fun z => by rw [← z, hA4] at ncC; cases ncC
    have BC : cB ≠ cC := fun z => by rw [← z, hB] at ncC; cases ncC
    have g3 := same_upd (o := .dK (dS i)) ncC
    have hC : (upd G4 cC (.dK (dS i))) cC = some (.dK (dS i)) := upd_same
    have hA5 := g3 _ _ hA4
    have hB5 := g3 _ _ hB
    have g13 := g12.trans g3
    have nA2 : G2 cA = none := ncA
    have nB2 : G2 cB = none := Same.none g1 ncB
    have nC2 : G2 cC = none := Same.none g12 ncC
    generalize upd G4 cC (.dK (dS i)) = G5 at g3 g13 hC hA5 hB5 ⊢
    refine ⟨_, rfl, cA, _, rfl, .inl ⟨_, Sum.inr "z", hA5, rfl, by rw [dS_len]; exact Nat.lt_of_le_of_lt mf6 (by decide), rfl⟩, ?_⟩
    rw [show putK (dS m) (Sum.inr "z") (.str "z") = dS (two m "z") from dS_put (by rw [km]; exact zx)]
    have g4 : Same G2 (upd G5 cA (.dK (dS (two m "z")))) := same_put g13 nA2
    have hA6 : (upd G5 cA (.dK (dS (two m "z")))) cA = some (.dK (dS (two m "z"))) := upd_same
    have hB6 : (upd G5 cA (.dK (dS (two m "z")))) cB = some (.dK (dS i)) := by rw [upd_ne AB.symm]; exact hB5
    have hC6 : (upd G5 cA (.dK (dS (two m "z")))) cC = some (.dK (dS i)) := by rw [upd_ne AC.symm]; exact hC
    generalize upd G5 cA (.dK (dS (two m "z"))) = G6 at g4 hA6 hB6 hC6 ⊢
    refine ⟨_, rfl, cB, _, rfl, .inl ⟨_, Sum.inr "z", hB6, rfl, by rw [dS_len]; exact Nat.lt_of_le_of_lt if6 (by decide), rfl⟩, ?_⟩
    rw [show putK (dS i) (Sum.inr "z") (.str "z") = dS (two i "z") from dS_put (by rw [ki]; exact zy)]
    have g5 : Same G2 (upd G6 cB (.dK (dS (two i "z")))) := same_put g4 nB2
    have hA7 : (upd G6 cB (.dK (dS (two i "z")))) cA = some (.dK (dS (two m "z"))) := by rw [upd_ne AB]; exact hA6
    have hB7 : (upd G6 cB (.dK (dS (two i "z")))) cB = some (.dK (dS (two i "z"))) := upd_same
    have hC7 : (upd G6 cB (.dK (dS (two i "z")))) cC = some (.dK (dS i)) := by rw [upd_ne BC.symm]; exact hC6
    generalize upd G6 cB (.dK (dS (two i "z"))) = G7 at g5 hA7 hB7 hC7 ⊢
    obtain ⟨r0, hr0, er0⟩ := List.mem_map.mp (show y0 ∈ ks i from by rw [ki]; exact List.mem_of_getElem? hy0)
    have vr0 : valV (dS i) (Sum.inr y0) = some (.str r0.2) := by
      rw [← er0]
      exact valV_mem (p := (Sum.inr r0.1, V.str r0.2)) (dS_nd oi) (List.mem_map.mpr ⟨r0, hr0, rfl⟩)
    refine ⟨_, rfl, cC, rfl, ?_, _, rfl, I0, _, _, _, rfl, rfl, SqL.of ((t2.trans g5) _ _ I00), at_of (j := 0) rfl (by rw [List.getElem?_map, hy0]; rfl), dS i, Sum.inr y0, _, hC7, rfl, vr0, ?_⟩
    · exact .inl ⟨_, .inl hC7⟩
    rw [dS_drp]
    have g6 : Same G2 (upd G7 cC (.dK (dS (drp i y0)))) := same_put g5 nC2
    have hA8 : (upd G7 cC (.dK (dS (drp i y0)))) cA = some (.dK (dS (two m "z"))) := by rw [upd_ne AC]; exact hA7
    have hB8 : (upd G7 cC (.dK (dS (drp i y0)))) cB = some (.dK (dS (two i "z"))) := by rw [upd_ne BC]; exact hB7
    have hC8 : (upd G7 cC (.dK (dS (drp i y0)))) cC = some (.dK (dS (drp i y0))) := upd_same
    generalize upd G7 cC (.dK (dS (drp i y0))) = G8 at g6 hA8 hB8 hC8 ⊢
    have t8 := t2.trans g6
    have RL8 := t8 _ _ RL0
    have R08 := t8 _ _ R00
    have R18 := t8 _ _ R10
    have zvm : ("z" : Str) ∉ vs m := fun h => zx (vm.mem_iff.mp h)
    have zvi : ("z" : Str) ∉ vs i := fun h => zy (vi.mem_iff.mp h)
    have o2m : One (two m "z") := one_two om mf6 (by rw [km]; exact zx) zvm
    have o2i : One (two i "z") := one_two oi if6 (by rw [ki]; exact zy) zvi
    have odi : One (drp i y0) := one_drp oi y0
    have A1 : cA ≠ R1 := fun z => by rw [z, R12] at nA2; cases nA2
    have B0 : R0 ≠ cB := fun z => by rw [← z, R02] at nB2; cases nB2
    have C0 : R0 ≠ cC := fun z => by rw [← z, R02] at nC2; cases nC2
    -- the others
    refine ⟨_, rfl, _, rfl, RL, _, _, _, rfl, rfl, SqL.of RL8, at_of (j := 1) rfl rfl, ?_⟩
    intro qa qax nqa nqax qaa
    refine mk_at nqa nqax hA8 R18 A1 o2m oi fun G9 Fa sa ma nwa => ⟨rfl, ?_⟩
    refine ⟨_, rfl, RL, _, _, _, rfl, rfl, SqL.of (sa _ _ RL8), at_of (j := 0) rfl rfl, _, rfl, ?_⟩
    intro qb qbx nqb nqbx qbb
    refine mk_at nqb nqbx (sa _ _ R08) (sa _ _ hB8) B0 om o2i fun G10 Fb sb mb nwb => ⟨rfl, ?_⟩
    have sab := sa.trans sb
    refine ⟨_, rfl, RL, _, _, _, rfl, rfl, SqL.of (sab _ _ RL8), at_of (j := 0) rfl rfl, _, rfl, ?_⟩
    intro qc qcx nqc nqcx qcc
    refine mk_at nqc nqcx (sab _ _ R08) (sab _ _ hC8) C0 om odi fun G11 Fc sc' mc nwc => ⟨rfl, ?_⟩
    have sac := sab.trans sc'
    have t11 := t8.trans sac
    have mo11 := mo.same t11
    have ma11 := ma.same (sb.trans sc')
    have mb11 := mb.same sc'
    have RL11 := t11 _ _ RL0
    have R011 := t11 _ _ R00
    have R111 := t11 _ _ R10
    clear nqa nqb nqc
    refine ⟨(by show 3 ≤ sizeLine; decide), fun OL nOL => ?_⟩
    have sO := same_upd (o := .lst [.ref qa, .ref qb, .ref qc]) nOL
    have hO : (upd G11 OL (.lst [.ref qa, .ref qb, .ref qc])) OL = some (.lst [.ref qa, .ref qb, .ref qc]) := upd_same
    generalize upd G11 OL (.lst [.ref qa, .ref qb, .ref qc]) = G12 at sO hO ⊢
    have t12 := t11.trans sO
    have mo12 := mo.same t12
    have ma12 := ma11.same sO
    have mb12 := mb11.same sO
    have mc12 := mc.same sO
    have fm' : fol m m = true := fol_yes (by unfold Fol; rw [km]; exact vm)
    refine ⟨_, rfl, OL, rfl, ⟨_, SqL.of hO⟩, fun D nD => ?_⟩
    refine lc_list (K := K) (a := OL) (xs := [.ref qa, .ref qb, .ref qc]) (fun j G => AllI G12 D j G ∧ j ≤ 3) ⟨all0 nD, by omega⟩ (fun j G _ i => SqL.of (i.1.1 _ _ hO)) (fun j x G hx ⟨al, j3⟩ => ⟨rfl, yes_go ?_⟩) (fun G ⟨al, _⟩ => ?_)
    · have fx : ∃ q n' i' F', x = .ref q ∧ Mat C G12 q n' i' F' ∧ (fol m n' = false ∨ (fol m n' = true ∧ fol i i' = false)) ∧ (fol n' m = false ∨ (fol n' m = true ∧ fol i' i = false)) ∧ j < 3 ∧ One n' ∧ One i' := by
        rcases j with _ | _ | _ | j
        · cases hx
          exact ⟨qa, _, _, Fa, rfl, ma12, .inl (fol_ne (by rw [two_len]; omega)), .inl (fol_ne (by rw [two_len]; omega)), by omega, o2m, oi⟩
        · cases hx
          exact ⟨qb, _, _, Fb, rfl, mb12, .inr ⟨fm', fol_ne (by rw [two_len]; omega)⟩, .inr ⟨fm', fol_ne (by rw [two_len]; omega)⟩, by omega, om, o2i⟩
        · cases hx
          have dl := drp_len hr0
          rw [er0] at dl
          exact ⟨qc, _, _, Fc, rfl, mc12, .inr ⟨fm', fol_ne fun e => dl e.symm⟩, .inr ⟨fm', fol_ne dl⟩, by omega, om, odi⟩
        · cases hx
      obtain ⟨q, n', i', F', rfl, mq, bad, bad', j3', on', oi'⟩ := fx
      have moG := mo12.same al.1
      have mqG := mq.same al.1
      refine iteT ⟨_, rfl, _, rfl, o, .ref q, m, i, Fo, rfl, moG, .inr ⟨q, n', i', F', rfl, mqG, eq2_refl on' oi', bad⟩, fun G1 s1' => ⟨_, rfl, if_pos' rfl ?_⟩⟩
      refine ⟨_, rfl, _, rfl, q, .ref o, n', i', F', rfl, mqG.same s1', .inr ⟨o, m, i, Fo, rfl, moG.same s1', eq2_refl om oi, bad'⟩, fun G2 s2 => ⟨_, _, rfl, rfl, ?_⟩⟩
      obtain ⟨f1, f2⟩ := al.step nD (s1'.trans s2)
      rw [decide_eq_true rfl]
      exact ⟨_, f1, rep_len (Nat.lt_of_lt_of_le j3' (by decide)), f2, j3'⟩
    refine ⟨D, _, rfl, SqL.of al.2, _, rfl, if_neg' (by rw [rep_all] <;> rfl) ?_⟩
    have t13 := t12.trans al.1
    have RL13 := t13 _ _ RL0
    have R013 := t13 _ _ R00
    have R113 := t13 _ _ R10
    -- the end
    refine ⟨_, rfl, o, .int 3, m, i, Fo, rfl, mo.same t13, .inl ⟨3, rfl⟩, fun GX sX => ⟨_, rfl, if_pos' rfl ?_⟩⟩
    refine ⟨_, rfl, _, rfl, RL, _, _, _, rfl, rfl, SqL.of (sX _ _ RL13), at_of (j := 0) rfl rfl, _, rfl, RL, _, _, _, rfl, rfl, SqL.of (sX _ _ RL13), at_of (j := 1) rfl rfl, o, R0, R1, m, i, m, i, Fo, rfl, mo.same (t13.trans sX), sX _ _ R013, sX _ _ R113, R0o, R1o, lik_refl om, lik_refl oi, fun GQ sQ => ⟨_, rfl, if_pos' rfl ?_⟩⟩
    have tQ := (t13.trans sX).trans sQ
    have pm : Pm m := ⟨om, by unfold Fol; rw [km]; exact vm⟩
    have pi : Pm i := ⟨oi, by unfold Fol; rw [ki]; exact vi⟩
    obtain ⟨Na, pn⟩ := per_some pm
    obtain ⟨Nb, pq⟩ := per_some pi
    have hoQ := tQ _ _ ho
    refine ⟨_, rfl, _, rfl, o, ox, _, rfl, hoQ, ⟨o, ox, _, rfl, hoQ⟩, o, o, m, i, m, i, Fo, Fo, rfl, mo.same tQ, mo.same tQ, pm.fol, pi.fol, fun p1 GA1 FP sA1 mp1 _ => ?_⟩
    have tR := tQ.trans sA1
    refine ⟨_, rfl, o, ox, _, rfl, tR _ _ ho, mf_no (by decide +kernel) (by decide +kernel) (by decide +kernel) (by decide +kernel), o, 2, m, i, Fo, rfl, mo.same tR, .inl ⟨Na, Nb, pm, pi, pn, pq, fun p2 GB1 FP2 ya yb sB1 pya pyb mp2 _ => ?_⟩⟩
    have mp1' := mp1.same sB1
    rw [thn_two pm pn, thn_two pi pq] at mp1'
    obtain ⟨px1, _, _, _, _, _, hp1, _⟩ := id mp1'
    obtain ⟨px2, _, _, _, _, _, hp2, _⟩ := id mp2
    refine ⟨p1, px1, _, rfl, hp1, ⟨p2, px2, _, rfl, hp2⟩, p1, .ref p2, _, _, FP, rfl, mp1', .inl ⟨p2, _, _, FP2, rfl, mp2, ?_⟩⟩
    have eqs : eq2 (fm m Na 2 (ks m)) (fm i Nb 2 (ks i)) (fm m Na 2 ya) (fm i Nb 2 yb) = true := by
      unfold eq2
      rw [fm_eq (pya.nodup_iff.mpr om.kn) pya.symm, fm_eq (pyb.nodup_iff.mpr oi.kn) pyb.symm]
      rfl
    rw [eqs]
    exact k GB1 (XG.trans (tR.trans sB1))
end
end R6
end

-- S8x
section
set_option Elab.async false
set_option linter.all false
set_option maxRecDepth 100000
set_option exponentiation.threshold 10000
namespace R6
open PySem L2 OwnOps OwnNe SortStr EqDict SetStr DictList StX G1 OwnTry HotEq
/-- a def of the top -/
structure DefG (K : PySem.W.Frag) (x : Str) (st : Stmt) (f : Addr) : Prop where
  here : PySem.W.nsIn K mainGlobals x = some (some (.ref f))
  fn : ∃ fd, Fun K x x st f fd
theorem defG_mk {K : PySem.W.Frag} {x : Str} {st : Stmt} {f : Addr} {oc kV doc pm cdv ct : Value} {od an : Option Addr} {osl : Array (Option Value)} (a : PySem.W.nsIn K mainGlobals x = some (some (.ref f)))
    (l : K.lookup f = some ⟨oc, od, .func (PySem.W.fnOf x x (defArgs st) (defBody st) (defScope st) .none kV doc pm an cdv ct), osl⟩) (c : PySem.W.codeIn K cdv x = true) (k : PySem.W.keepIn K (.ref f) = true) : DefG K x st f := ⟨a, _, fun_mk l c k⟩
/-- a def of the class -/
structure DefM (K : PySem.W.Frag) (C : Addr) (x qual : Str) (st : Stmt) (f : Addr) : Prop where
  here : PySem.W.findIn K (.ref C) x = some (some (.ref f))
  is : PySem.W.isFn K (.ref f) = true
  kp : PySem.W.keepIn K (.ref f) = true
  fn : ∃ fd, Fun K x qual st f fd
theorem defM_mk {K : PySem.W.Frag} {C : Addr} {x qual : Str} {st : Stmt} {f : Addr} {oc kV doc pm cdv ct : Value} {od an : Option Addr} {osl : Array (Option Value)} (a : PySem.W.findIn K (.ref C) x = some (some (.ref f))) (i : PySem.W.isFn K (.ref f) = true)
    (l : K.lookup f = some ⟨oc, od, .func (PySem.W.fnOf x qual (defArgs st) (defBody st) (defScope st) .none kV doc pm an cdv ct), osl⟩) (c : PySem.W.codeIn K cdv qual = true) (k : PySem.W.keepIn K (.ref f) = true) : DefM K C x qual st f := ⟨a, i, k, _, fun_mk l c k⟩
section
variable {P : Program} {w : World} {K : PySem.W.Frag} {h base : Heap} {mg : Str → Option Value} {C : Addr}
theorem glb {x : Str} {st : Stmt} {f : Addr} {k : Nat} {ps : List Str} {sp : Sp} (X : K.In h) (G : h.Ns mainGlobals mg) (d : DefG K x st f) (ok : ∀ fd, Fun K x x st f fd → FnOk P w K mg base (L2.CX P w) k f fd ps sp)
    (b : ∀ fd, Fun K x x st f fd → L2.Binds K fd ps []) : Glb P w K mg base x k ps sp :=
  let ⟨fd, F⟩ := d.fn
  ⟨f, fd, PySem.W.mg_of X G d.here, F.kp, ok fd F, b fd F⟩
theorem dun {nm x qual : Str} {st : Stmt} {f : Addr} {k : Nat} {ps : List Str} {sp : Sp} (hn : nm = x) (d : DefM K C x qual st f) (ok : ∀ fd, Fun K x qual st f fd → FnOk P w K mg base (L2.CX P w) k f fd ps sp)
    (b : ∀ fd, Fun K x qual st f fd → L2.Binds K fd ps []) : Dun P w K mg base C nm k ps sp := by
  subst hn
  obtain ⟨fd, F⟩ := d.fn
  exact ⟨f, fd, d.here, d.is, d.kp, ok fd F, b fd F⟩
theorem kit_rt {T : String} {b : Bool} (m : PySem.W.kitMeta T = true) (e : PySem.W.subIn K (.ref C) (.type T) = some b) : PySem.W.kitOne K (.ref C) (.type T) = some b := by
  show (if (Value.ref C == Value.type T) = true then some true else if PySem.W.kitMeta T = true then PySem.W.subIn K (.ref C) (.type T) else none) = some b
  rw [if_neg (fun q => by cases beq_iff_eq.mp q), if_pos m, e]
theorem kit_tr {T : String} {b : Bool} (i : PySem.W.isClsIn K C = true) (t : PySem.W.typeIn K (.ref C) = some (.type "type")) (e : PySem.W.subIn K (.type T) (.ref C) = some b) : PySem.W.kitOne K (.type T) (.ref C) = some b := by
  have q : ((PySem.W.clsIn K C).isSome && PySem.W.typeIn K (.ref C) == some (.type "type")) = true := by
    rw [show (PySem.W.clsIn K C).isSome = true from i, t]
    rfl
  show (if (Value.type T == Value.ref C) = true then some true else if ((PySem.W.clsIn K C).isSome && PySem.W.typeIn K (.ref C) == some (.type "type")) = true then PySem.W.subIn K (.type T) (.ref C) else none) = some b
  rw [if_neg (fun q => by cases beq_iff_eq.mp q), if_pos q, e]
theorem kit_rr : PySem.W.kitOne K (.ref C) (.ref C) = some true := by
  show (if (Value.ref C == Value.ref C) = true then some true else _) = some true
  rw [if_pos (beq_self_eq_true _)]
/-- the error classes, as the top has made them -/
structure DefE (K : PySem.W.Frag) (cn qn : Str) (newId : String) (bt : List Value) (E fE : Addr) : Prop where
  here : PySem.W.nsIn K mainGlobals cn = some (some (.ref E))
  txt : ∀ mg : Str → Option Value, mg cn = some (.ref E) → PySem.Giv.ErrTxt K mg cn qn newId bt E fE
  ty : PySem.W.typeIn K (.ref E) = some (.type "type")
  ex : PySem.W.subIn K (.ref E) (.type "BaseException") = some true
  hd : PySem.W.hasDictIn K E = true
theorem defE_mk {cn qn : Str} {newId : String} {bt bm : List Value} {E fE N : Addr} {nm q : Str} {bs : List Value} {sn : List Str} {sub : List Value} {ab : Bool} {col : Option Bool} {dd an od : Option Addr} {k0 k1 k2 k3 k5 : Option Value} {oc doc pm cdv ct : Value} {osl : Array (Option Value)} {p1 p2 q1 q2 q3 q4 : Pos}
    (a : PySem.W.nsIn K mainGlobals cn = some (some (.ref E))) (xL : K.lookup E = some (PySem.excClassObj nm q E N bs bm true sn sub ab col dd k0 k1 k2 k3 k5 newId)) (tl : PySem.Giv.tailIs bt bm = true)
    (sa : PySem.W.findIn K (.ref E) "__setattr__" = some (some (.builtin "object.__setattr__"))) (ga : PySem.W.findIn K (.ref E) "__getattribute__" = some (some (.builtin "BaseException.__getattribute__"))) (gg : PySem.W.findIn K (.ref E) "__getattr__" = some none)
    (no : PySem.W.findIn K (.ref E) "given" = some none) (iC : PySem.W.findIn K (.ref E) "__init__" = some (some (.ref fE))) (tC : PySem.W.typeIn K (.ref fE) = some (.type "function"))
    (l : K.lookup fE = some ⟨oc, od, .func (PySem.W.fnOf "__init__" qn (PySem.Giv.gA p1 p2) (PySem.Giv.gB q1 q2 q3 q4) PySem.Giv.gS .none .none doc pm an cdv ct), osl⟩) (c : PySem.W.codeIn K cdv qn = true)
    (kC : PySem.W.keepIn K (.ref E) = true) (ex : PySem.W.subIn K (.ref E) (.type "BaseException") = some true) (ty : PySem.W.typeIn K (.ref E) = some (.type "type")) (hd : PySem.W.hasDictIn K E = true) (ss : PySem.W.subIn K (.ref E) (.ref E) = some true) : DefE K cn qn newId bt E fE :=
  ⟨a, fun mg hg => { gC := hg, cls := ⟨nm, q, N, bs, bm, sn, sub, ab, col, dd, k0, k1, k2, k3, k5, xL, tl⟩, sa := sa, ga := ga, gg := gg, noN := no, iC := iC, tC := tC, kC := kC, exC := ex, tyC := ty, hdC := hd, te := (PySem.W.exm_ref ex hd ty ss), fn := ⟨oc, od, doc, pm, an, cdv, ct, osl, p1, p2, q1, q2, q3, q4, l, c⟩ }, ty, ex, hd⟩
end
structure DefC (K : PySem.W.Frag) (C : Addr) : Prop where
  here : PySem.W.nsIn K mainGlobals "Matching" = some (some (.ref C))
  cl : Cls K C
  n1 : NoAttr K C "_net_map"
  n2 : NoAttr K C "_id_map"
  n3 : NoAttr K C "_pairs"
  n4 : NoAttr K C "is_identity"
  ha : PySem.W.findIn K (.ref C) "__class__" = some (some (.builtin "object.__class__"))
  hn : PySem.W.specialIn K (.builtin "object.__class__") "__get__" = some (some (.builtin "getset_descriptor.__get__"))
  htk : PySem.W.takesIn K (.builtin "object.__class__") = some true
  hm : PySem.W.mroIn K C (.type "object") = some true
  mks : PySem.W.makesIn K C = true
  kp : PySem.W.keepIn K (.ref C) = true
  ic : PySem.W.isClsIn K C = true
  ty : PySem.W.typeIn K (.ref C) = some (.type "type")
  sf : PySem.W.selfFirst K C = true
  nCC : PySem.W.notFirst K C (.ref C) = true
  nD : PySem.W.notFirst K C (.type "dict") = true
  tr : PySem.W.subIn K (.type "dict") (.ref C) = some false
  ne : PySem.W.findIn K (.ref C) "__ne__" = some (some (.builtin "object.__ne__"))
  rm : PySem.W.findIn K (.ref C) (PySem.dunderR "mul") = some none
/-- the errors' base, and what isinstance asks of an error -/
structure DefW (K : PySem.W.Frag) (CP WE : Addr) (b : Bool) : Prop where
  ic : PySem.W.isClsIn K WE = true
  ty : PySem.W.typeIn K (.ref WE) = some (.type "type")
  sub : PySem.W.subIn K (.ref CP) (.ref WE) = some b
  self : PySem.W.subIn K (.ref WE) (.ref WE) = some true
  ic2 : PySem.W.isClsIn K CP = true
  ga : PySem.W.findIn K (.ref CP) "__getattribute__" = some (some (.builtin "BaseException.__getattribute__"))
  gg : PySem.W.findIn K (.ref CP) "__getattr__" = some none
  ex : PySem.W.subIn K (.ref CP) (.type "BaseException") = some true
  ha : PySem.W.findIn K (.ref CP) "__class__" = some (some (.builtin "object.__class__"))
  hn : PySem.W.specialIn K (.builtin "object.__class__") "__get__" = some (some (.builtin "getset_descriptor.__get__"))
  htk : PySem.W.takesIn K (.builtin "object.__class__") = some true
  hm : PySem.W.mroIn K CP (.type "object") = some true
theorem DefW.kit {K : PySem.W.Frag} {CP WE : Addr} {b : Bool} (d : DefW K CP WE b) : PySem.W.kitOne K (.ref CP) (.ref WE) = some b := by
  have q : ((PySem.W.clsIn K WE).isSome && PySem.W.typeIn K (.ref WE) == some (.type "type")) = true := by
    rw [show (PySem.W.clsIn K WE).isSome = true from d.ic, d.ty]
    rfl
  show (if (Value.ref CP == Value.ref WE) = true then some true else if ((PySem.W.clsIn K WE).isSome && PySem.W.typeIn K (.ref WE) == some (.type "type")) = true then PySem.W.subIn K (.ref CP) (.ref WE) else none) = some b
  by_cases h : (Value.ref CP == Value.ref WE) = true
  · rw [if_pos h]
    have e := beq_iff_eq.mp h
    have := d.sub
    rw [e, d.self] at this
    exact this
  · rw [if_neg h, if_pos q, d.sub]
theorem DefW.kg {K : PySem.W.Frag} {CP WE : Addr} {b : Bool} (d : DefW K CP WE b) : KitG K CP := ⟨d.ic2, d.ga, ⟨_, d.gg⟩, d.ex, d.ha, d.hn, d.htk, d.hm⟩
theorem Glb.imp {P : Program} {w : World} {K : PySem.W.Frag} {base : Heap} {mg : Str → Option Value} {x : Str} {k : Nat} {ps : List Str} {sp sp' : Sp} (G : Glb P w K mg base x k ps sp) (h : ∀ vs H Q E, sp' vs H Q E → sp vs H Q E) : Glb P w K mg base x k ps sp' :=
  let ⟨f, fd, a, b, F, c⟩ := G.ex; ⟨f, fd, a, b, F.imp h, c⟩
theorem Dun.imp {P : Program} {w : World} {K : PySem.W.Frag} {base : Heap} {mg : Str → Option Value} {C : Addr} {x : Str} {k : Nat} {ps : List Str} {sp sp' : Sp} (G : Dun P w K mg base C x k ps sp) (h : ∀ vs H Q E, sp' vs H Q E → sp vs H Q E) : Dun P w K mg base C x k ps sp' :=
  let ⟨f, fd, a, b, c, F, d⟩ := G.ex; ⟨f, fd, a, b, c, F.imp h, d⟩
theorem all_mk {l : PySem.W.OpenLaw} {w : World} {K : PySem.W.Frag} {h : Heap} {mg : Str → Option Value} {fa C CM fM CU fU WE a0 a1 a2 a3 a4 a5 a6 a7 a8 a9 a10 a11 a12 b0 b2 b3 b4 b5 b6 b7 b10 b11 : Addr} {fo ro : Option Value} (X : K.In h) (G : h.Ns mainGlobals mg) (hfa : mg "law" = some (.ref fa))
    (dC : DefC K C)
    (eM : DefE K "InvalidMatching" "InvalidMatching.__init__" "ValueError.__new__" veT CM fM)
    (eU : DefE K "UnknownName" "UnknownName.__init__" "LookupError.__new__" PySem.Giv.keT CU fU)
    (hWE : PySem.W.nsIn K mainGlobals "WireError" = some (some (.ref WE)))
    (dWM : DefW K CM WE true)
    (dWU : DefW K CU WE false)
    (sKU : PySem.W.subIn K (.ref CU) (.type "KeyError") = some true)
    (sIC : PySem.W.subIn K (.type "int") (.ref C) = some false)
    (lf : PySem.W.findIn K (.type "int") (PySem.dunder "mul") = some fo)
    (rt : PySem.W.findIn K (.type "int") (PySem.dunderR "mul") = some ro)
    (fg0 : DefG K "_is_one_to_one" sOne a0)
    (fg1 : DefG K "_follow" sFol a1)
    (fg2 : DefG K "_power" sPow a2)
    (fg3 : DefG K "_law_start" sStart a3)
    (fg4 : DefG K "_law_draw" sDraw a4)
    (fg5 : DefG K "_law_names" sNames a5)
    (fg6 : DefG K "_law_map" sMap a6)
    (fg7 : DefG K "_law_holds" sHold a7)
    (fg8 : DefG K "_law_unmade" sUnm a8)
    (fg9 : DefG K "_law_unknown" sUnk a9)
    (fg10 : DefG K "_law_unfit" sUnf a10)
    (fg11 : DefG K "_law_spoilt" sSpo a11)
    (fg12 : DefG K "law" sLaw a12)
    (fm0 : DefM K C "__init__" "Matching.__init__" (sMat 0) b0)
    (fm2 : DefM K C "__call__" "Matching.__call__" (sMat 2) b2)
    (fm3 : DefM K C "id_of" "Matching.id_of" (sMat 3) b3)
    (fm4 : DefM K C "net_map" "Matching.net_map" (sMat 4) b4)
    (fm5 : DefM K C "id_map" "Matching.id_map" (sMat 5) b5)
    (fm6 : DefM K C "power" "Matching.power" (sMat 6) b6)
    (fm7 : DefM K C "__mul__" "Matching.__mul__" (sMat 7) b7)
    (fm10 : DefM K C "__len__" "Matching.__len__" (sMat 10) b10)
    (fm11 : DefM K C "__eq__" "Matching.__eq__" (sMat 11) b11)
    (fi : PySem.W.fnIn K b2 = true)
    (nisinstance : PySem.W.nsIn K mainGlobals "isinstance" = some none)
    (nstr : PySem.W.nsIn K mainGlobals "str" = some none)
    (ndict : PySem.W.nsIn K mainGlobals "dict" = some none)
    (nlist : PySem.W.nsIn K mainGlobals "list" = some none)
    (nlen : PySem.W.nsIn K mainGlobals "len" = some none)
    (nset : PySem.W.nsIn K mainGlobals "set" = some none)
    (nall : PySem.W.nsIn K mainGlobals "all" = some none)
    (niter : PySem.W.nsIn K mainGlobals "iter" = some none)
    (nsorted : PySem.W.nsIn K mainGlobals "sorted" = some none)
    (nint : PySem.W.nsIn K mainGlobals "int" = some none)
    (nenumerate : PySem.W.nsIn K mainGlobals "enumerate" = some none)
    (nrange : PySem.W.nsIn K mainGlobals "range" = some none)
    (nKeyError : PySem.W.nsIn K mainGlobals "KeyError" = some none) :
    ∃ fd : FuncData, (∀ (s : Shared) (v : Value), BindsTo s fd ⟨[v], []⟩ [("_law_script", v)]) ∧ ∀ base : Heap, K.In base → base.Ns mainGlobals mg → FnOk l.prog w K mg base (L2.CX l.prog w) 7 fa fd ["_law_script"] (spLaw K) := by
  have e := hfa.symm.trans (PySem.W.mg_of X G fg12.here)
  cases e
  obtain ⟨fdL, FL⟩ := fg12.fn
  refine ⟨fdL, fun s v => ?_, fun base KX KG => ?_⟩
  · obtain ⟨oc, od, kV, doc, pm, an, cdv, ct, osl, rfl, _, _⟩ := FL.ex
    exact .of_eq rfl
  have T : Txt K mg C :=
    { cl := dC.cl, n1 := dC.n1, n2 := dC.n2, n3 := dC.n3, n4 := dC.n4, gC := PySem.W.mg_of KX KG dC.here, ha := dC.ha, hn := dC.hn, htk := dC.htk, hm := dC.hm, kCC := kit_rr, kdC := kit_tr dC.ic dC.ty dC.tr,
      isi := PySem.W.mg_none_of KX KG nisinstance, str := PySem.W.mg_none_of KX KG nstr, dict := PySem.W.mg_none_of KX KG ndict, list := PySem.W.mg_none_of KX KG nlist, len := PySem.W.mg_none_of KX KG nlen, set := PySem.W.mg_none_of KX KG nset, all := PySem.W.mg_none_of KX KG nall,
      iter := PySem.W.mg_none_of KX KG niter, sorted := PySem.W.mg_none_of KX KG nsorted, int := PySem.W.mg_none_of KX KG nint, enum := PySem.W.mg_none_of KX KG nenumerate }
  have UM : ErrM K mg CM fM := eM.txt mg (PySem.W.mg_of KX KG eM.here)
  have UU : ErrN K mg CU fU := eU.txt mg (PySem.W.mg_of KX KG eU.here)
  have N : Nms mg := ⟨PySem.W.mg_none_of KX KG nlen, PySem.W.mg_none_of KX KG nrange, PySem.W.mg_none_of KX KG nlist, PySem.W.mg_none_of KX KG nall⟩
  have Wi : Wire K mg CM WE := ⟨PySem.W.mg_of KX KG hWE, dWM.kit, dWM.kg⟩
  have Ky : Keyed K mg CU WE := ⟨PySem.W.mg_of KX KG hWE, PySem.W.mg_none_of KX KG nKeyError, kit_rt (by decide +kernel) sKU, dWU.kit, dWU.kg⟩
  have g0 : Glb l.prog w K mg base "_is_one_to_one" 1 ["told"] (spOneT l.prog w K) := glb KX KG fg0 (fun fd F => ok_oneT F T) (fun fd F => F.binds (ps := ["told"]) fun _ _ _ _ _ _ us hl => match us, hl with | [_], _ => rfl)
  have g1 : Glb l.prog w K mg base "_follow" 2 ["told", "following"] spFol2 := glb KX KG fg1 (fun fd F => ok_fol2 F T) (fun fd F => F.binds (ps := ["told", "following"]) fun _ _ _ _ _ _ us hl => match us, hl with | [_, _], _ => rfl)
  have g1f : Glb l.prog w K mg base "_follow" 2 ["told", "following"] spFol := R6.Glb.imp g1 fun vs H Q E h => by
    obtain ⟨a, b, m, l, e1, e2, e3, _, k⟩ := h
    exact ⟨a, b, m, l, e1, e2, e3, k⟩
  have g2 : Glb l.prog w K mg base "_power" 1 ["told", "k"] spPow := glb KX KG fg2 (fun fd F => ok_pow F T) (fun fd F => F.binds (ps := ["told", "k"]) fun _ _ _ _ _ _ us hl => match us, hl with | [_, _], _ => rfl)
  have M2 : Mak2 l.prog w K mg base C CM := by
    obtain ⟨fdI, FI⟩ := fm0.fn
    exact ⟨b0, fdI, ⟨dC.mks, fm0.here, fm0.is, dC.kp⟩, ok_init2 FI T UM g0, FI.binds (ps := ["self", "nets", "ids"]) fun _ _ _ _ _ _ us hl => match us, hl with | [_, _, _], _ => rfl⟩
  have MK : Mak l.prog w K mg base C := M2.one
  have m3 : Dun l.prog w K mg base C "id_of" 2 ["self", "name"] (spCall2 K C CU fun _ i => i) := dun rfl fm3 (fun fd F => ok_idof2 F T UU) (fun fd F => F.binds (ps := ["self", "name"]) fun _ _ _ _ _ _ us hl => match us, hl with | [_, _], _ => rfl)
  have m3f : Dun l.prog w K mg base C "id_of" 2 ["self", "name"] (spCall C fun _ i => i) := R6.Dun.imp m3 fun _ _ _ _ h => .inl h
  have m4 : Dun l.prog w K mg base C "net_map" 1 ["self"] (spCop C fun n _ => n) := dun rfl fm4 (fun fd F => ok_netmap F T) (fun fd F => F.binds (ps := ["self"]) fun _ _ _ _ _ _ us hl => match us, hl with | [_], _ => rfl)
  have m5 : Dun l.prog w K mg base C "id_map" 1 ["self"] (spCop C fun _ i => i) := dun rfl fm5 (fun fd F => ok_idmap F T) (fun fd F => F.binds (ps := ["self"]) fun _ _ _ _ _ _ us hl => match us, hl with | [_], _ => rfl)
  have m6 : Dun l.prog w K mg base C "power" 4 ["self", "k"] (spPower C CM) := dun rfl fm6 (fun fd F => ok_power F T UM MK g1f g2) (fun fd F => F.binds (ps := ["self", "k"]) fun _ _ _ _ _ _ us hl => match us, hl with | [_, _], _ => rfl)
  have m7 : Dun l.prog w K mg base C (PySem.dunder "mul") 4 ["self", "other"] (spMul2 K C CM) := dun rfl fm7 (fun fd F => ok_mul2 F T UM MK g1) (fun fd F => F.binds (ps := ["self", "other"]) fun _ _ _ _ _ _ us hl => match us, hl with | [_, _], _ => rfl)
  have m7f : Dun l.prog w K mg base C (PySem.dunder "mul") 4 ["self", "other"] (spMul C) := R6.Dun.imp m7 fun _ _ _ _ h => .inl h
  have m10 : Dun l.prog w K mg base C "__len__" 1 ["self"] (spLen C) := dun rfl fm10 (fun fd F => ok_len F T) (fun fd F => F.binds (ps := ["self"]) fun _ _ _ _ _ _ us hl => match us, hl with | [_], _ => rfl)
  have m11 : Dun l.prog w K mg base C (cmpInfo .Eq).2.1 1 ["self", "other"] (spEq C) := dun rfl fm11 (fun fd F => ok_eq F T) (fun fd F => F.binds (ps := ["self", "other"]) fun _ _ _ _ _ _ us hl => match us, hl with | [_, _], _ => rfl)
  have C2 : Cal2 l.prog w K mg base C CU := by
    obtain ⟨fd, F⟩ := fm2.fn
    exact ⟨b2, fd, ⟨fm2.here, fm2.is, fi⟩, ok_call2 F T UU, F.binds (ps := ["self", "net"]) fun _ _ _ _ _ _ us hl => match us, hl with | [_, _], _ => rfl⟩
  have m2 : CallG l.prog w K mg base C := let ⟨f, fd, a, F, b⟩ := C2.ex; ⟨f, fd, a, F.imp fun _ _ _ _ h => .inl h, b⟩
  have O2 : Ops2 l.prog w K mg base C CM := by
    obtain ⟨fd7, F7⟩ := fm7.fn
    obtain ⟨fd11, F11⟩ := fm11.fn
    exact ⟨⟨b7, fd7, b11, fd11, ⟨fm7.here, ⟨_, dC.rm, .inl rfl⟩, fm7.is, dC.sf⟩, ok_mul2 F7 T UM MK g1, F7.binds (ps := ["self", "other"]) fun _ _ _ _ _ _ us hl => match us, hl with | [_, _], _ => rfl, fm11.here, fm11.is, ok_eqW F11 T, F11.binds (ps := ["self", "other"]) fun _ _ _ _ _ _ us hl => match us, hl with | [_, _], _ => rfl⟩, ⟨⟨_, lf⟩, ⟨_, rt⟩, sIC⟩, dC.nCC, kit_tr dC.ic dC.ty sIC⟩
  have g3 : Glb l.prog w K mg base "_law_start" 1 ["_law_script"] (spStart K) := glb KX KG fg3 (fun fd F => ok_start F N) (fun fd F => F.binds (ps := ["_law_script"]) fun _ _ _ _ _ _ us hl => match us, hl with | [_], _ => rfl)
  have g4 : Glb l.prog w K mg base "_law_draw" 1 ["_law_state", "_law_many"] spDraw := glb KX KG fg4 (fun fd F => ok_draw F T.int N) (fun fd F => F.binds (ps := ["_law_state", "_law_many"]) fun _ _ _ _ _ _ us hl => match us, hl with | [_, _], _ => rfl)
  have g5 : Glb l.prog w K mg base "_law_names" 2 ["_law_state", "_law_many", "_law_letter"] spNames := glb KX KG fg5 (fun fd F => ok_names F T N g4) (fun fd F => F.binds (ps := ["_law_state", "_law_many", "_law_letter"]) fun _ _ _ _ _ _ us hl => match us, hl with | [_, _, _], _ => rfl)
  have g6 : Glb l.prog w K mg base "_law_map" 2 ["_law_state", "_law_names_here", "_law_targets"] spMap := glb KX KG fg6 (fun fd F => ok_map F T N g4) (fun fd F => F.binds (ps := ["_law_state", "_law_names_here", "_law_targets"]) fun _ _ _ _ _ _ us hl => match us, hl with | [_, _, _], _ => rfl)
  have g7 : Glb l.prog w K mg base "_law_holds" 5 ["_law_told", "_law_nets", "_law_ids"] (spHolds C) := glb KX KG fg7 (fun fd F => ok_holds F T m4 m5 m10 m2 m3f) (fun fd F => F.binds (ps := ["_law_told", "_law_nets", "_law_ids"]) fun _ _ _ _ _ _ us hl => match us, hl with | [_, _, _], _ => rfl)
  have g8 : Glb l.prog w K mg base "_law_unmade" 4 ["_law_nets", "_law_ids", "_law_given"] (spUnm l.prog w K) := glb KX KG fg8 (fun fd F => ok_unm F T UM Wi M2) (fun fd F => F.binds (ps := ["_law_nets", "_law_ids", "_law_given"]) fun _ _ _ _ _ _ us hl => match us, hl with | [_, _, _], _ => rfl)
  have g9 : Glb l.prog w K mg base "_law_unknown" 4 ["_law_one", "_law_name", "_law_is_net"] (spUnk K C) := glb KX KG fg9 (fun fd F => ok_unk F T UU Ky C2 m3) (fun fd F => F.binds (ps := ["_law_one", "_law_name", "_law_is_net"]) fun _ _ _ _ _ _ us hl => match us, hl with | [_, _, _], _ => rfl)
  have g10 : Glb l.prog w K mg base "_law_unfit" 5 ["_law_one", "_law_other"] (spUnf C) := glb KX KG fg10 (fun fd F => ok_unf F T UM O2) (fun fd F => F.binds (ps := ["_law_one", "_law_other"]) fun _ _ _ _ _ _ us hl => match us, hl with | [_, _], _ => rfl)
  have g11 : Glb l.prog w K mg base "_law_spoilt" 2 ["_law_state", "_law_rows", "_law_names_here"] (spSpo l.prog w K) := glb KX KG fg11 (fun fd F => ok_spo F T N g4) (fun fd F => F.binds (ps := ["_law_state", "_law_rows", "_law_names_here"]) fun _ _ _ _ _ _ us hl => match us, hl with | [_, _, _], _ => rfl)
  exact ok_law FL T N ⟨dC.sf, dC.nCC⟩ MK g3 g4 g5 g6 g11 g8 g9 g10 g7 m6 m7f ⟨_, dC.rm, .inl rfl⟩ m11

theorem walk {l : PySem.W.OpenLaw} {q : Program} {loose : List Str} {XP : (Str → Option Value) → Heap → Prop} {YP : World → Heap → Prop} {d : DefRec} {K : Params → PySem.W.Frag} (hn : l.most = some 63) (hdf : d.params.defaults = [])
    (hY : ∀ (w : World) (h : Heap), YP w h → (K w.params).In h)
    (F : ∀ (w : World) (mg : Str → Option Value) (fa : Addr) (h : Heap), (K w.params).In h → h.Ns mainGlobals mg → mg d.name = some (.ref fa) →
      ∃ fd : FuncData, (∀ (s : Shared) (u : Value), BindsTo s fd ⟨[u], []⟩ [("_law_script", u)]) ∧ ∀ base : Heap, (K w.params).In base → base.Ns mainGlobals mg → FnOk l.prog w (K w.params) mg base (L2.CX l.prog w) 7 fa fd ["_law_script"] (spLaw (K w.params))) :
    PySem.W.WalkO q loose XP YP l.row.toRowW d [] (fun f vs => PySem.call f vs) :=
  L2.walk_of (n := 63) (k := 7) (x := "_law_script") (CX := fun w => L2.CX l.prog w) (sp := fun w => spLaw (K w.params)) hn (by decide) hdf ⟨rfl, by decide, by decide⟩ hY F (fun _ _ a ns hl _ hS => ⟨a, ns, rfl, hS, fun _ _ => rfl⟩) fun w H s e s' z => by
    obtain ⟨_, _, _, _, _, _, _, _, _, _, _, _, z⟩ := z
    exact z
end R6
end

-- S8y
section
set_option Elab.async false
set_option linter.all false
open PySem PySem.W PyProof.Rows
set_option maxRecDepth 100000 in
set_option maxHeartbeats 0 in
theorem PySem.Challenge.cw_wishedwires_k38_matchings_refused_holds : PySem.Challenge.rw_wishedwires_k38_matchings_refused.Holds := by
  w_on; o_law; k_head; (case hw => w_witness2)
  k_fill
  refine R6.walk (l := PySem.Challenge.rw_wishedwires_k38_matchings_refused) rfl rfl (fun w h Y => PySem.W.kIn_of Y) ?F
  case F =>
    intro w mg fa h KX G hmg
    refine' R6.all_mk KX G hmg ?dC ?eM ?eU ?hWE ?dWM ?dWU ?sKU ?sIC ?lf ?rt ?fg0 ?fg1 ?fg2 ?fg3 ?fg4 ?fg5 ?fg6 ?fg7 ?fg8 ?fg9 ?fg10 ?fg11 ?fg12 ?fm0 ?fm2 ?fm3 ?fm4 ?fm5 ?fm6 ?fm7 ?fm10 ?fm11 ?fnc ?nisinstance ?nstr ?ndict ?nlist ?nlen ?nset ?nall ?niter ?nsorted ?nint ?nenumerate ?nrange ?nKeyError
    case dC => (refine' ⟨?here, ⟨?pg, ?hd, ?po, ?sa⟩, ?n1, ?n2, ?n3, ?n4, ?ha, ?hn, ?htk, ?hm, ?mks, ?kp, ?ic, ?ty, ?sf, ?nCC, ?nD, ?tr, ?ne, ?rm⟩); (case here => k_is); (case pg => k_is); (case hd => k_is); (case po => k_is); (case sa => k_is); (case n1 => unfold L2.NoAttr; k_is); (case n2 => unfold L2.NoAttr; k_is); (case n3 => unfold L2.NoAttr; k_is); (case n4 => unfold L2.NoAttr; k_is); (case ha => k_is); (case hn => k_is); (case htk => k_is); (case hm => k_is); (case mks => k_is); (case kp => k_is); (case ic => k_is); (case ty => k_is); (case sf => k_is); (case nCC => k_is); (case nD => k_is); (case tr => k_is); (case ne => k_is); (case rm => k_is)
    case eM => (refine' R6.defE_mk ?a ?xL ?tl ?sa ?ga ?gg ?no ?iC ?tC ?l ?c ?kC ?ex ?ty ?hd ?ss); (case a => k_is); (case xL => k_is); (case tl => decide +kernel); (case sa => k_is); (case ga => k_is); (case gg => k_is); (case no => k_is); (case iC => k_is); (case tC => k_is); (case l => k_is); (case c => k_is); (case kC => k_is); (case ex => k_is); (case ty => k_is); (case hd => k_is); (case ss => first | rfl | k_is)
    case eU => (refine' R6.defE_mk ?a ?xL ?tl ?sa ?ga ?gg ?no ?iC ?tC ?l ?c ?kC ?ex ?ty ?hd ?ss); (case a => k_is); (case xL => k_is); (case tl => decide +kernel); (case sa => k_is); (case ga => k_is); (case gg => k_is); (case no => k_is); (case iC => k_is); (case tC => k_is); (case l => k_is); (case c => k_is); (case kC => k_is); (case ex => k_is); (case ty => k_is); (case hd => k_is); (case ss => first | rfl | k_is)
    case hWE => k_is
    case dWM => (refine' ⟨?ic, ?ty, ?sub, ?self, ?ic2, ?ga, ?gg, ?ex, ?ha, ?hn, ?htk, ?hm⟩); (case ic => k_is); (case ty => k_is); (case sub => k_is); (case self => first | rfl | k_is); (case ic2 => k_is); (case ga => k_is); (case gg => k_is); (case ex => k_is); (case ha => k_is); (case hn => k_is); (case htk => k_is); (case hm => k_is)
    case dWU => (refine' ⟨?ic, ?ty, ?sub, ?self, ?ic2, ?ga, ?gg, ?ex, ?ha, ?hn, ?htk, ?hm⟩); (case ic => k_is); (case ty => k_is); (case sub => k_is); (case self => first | rfl | k_is); (case ic2 => k_is); (case ga => k_is); (case gg => k_is); (case ex => k_is); (case ha => k_is); (case hn => k_is); (case htk => k_is); (case hm => k_is)
    case sKU => k_is
    case sIC => k_is
    case lf => k_is
    case rt => k_is
    case fg0 => (refine' R6.defG_mk ?a ?l ?c ?k); (case a => k_is); (case l => k_is); (case c => k_is); (case k => k_is)
    case fg1 => (refine' R6.defG_mk ?a ?l ?c ?k); (case a => k_is); (case l => k_is); (case c => k_is); (case k => k_is)
    case fg2 => (refine' R6.defG_mk ?a ?l ?c ?k); (case a => k_is); (case l => k_is); (case c => k_is); (case k => k_is)
    case fg3 => (refine' R6.defG_mk ?a ?l ?c ?k); (case a => k_is); (case l => k_is); (case c => k_is); (case k => k_is)
    case fg4 => (refine' R6.defG_mk ?a ?l ?c ?k); (case a => k_is); (case l => k_is); (case c => k_is); (case k => k_is)
    case fg5 => (refine' R6.defG_mk ?a ?l ?c ?k); (case a => k_is); (case l => k_is); (case c => k_is); (case k => k_is)
    case fg6 => (refine' R6.defG_mk ?a ?l ?c ?k); (case a => k_is); (case l => k_is); (case c => k_is); (case k => k_is)
    case fg7 => (refine' R6.defG_mk ?a ?l ?c ?k); (case a => k_is); (case l => k_is); (case c => k_is); (case k => k_is)
    case fg8 => (refine' R6.defG_mk ?a ?l ?c ?k); (case a => k_is); (case l => k_is); (case c => k_is); (case k => k_is)
    case fg9 => (refine' R6.defG_mk ?a ?l ?c ?k); (case a => k_is); (case l => k_is); (case c => k_is); (case k => k_is)
    case fg10 => (refine' R6.defG_mk ?a ?l ?c ?k); (case a => k_is); (case l => k_is); (case c => k_is); (case k => k_is)
    case fg11 => (refine' R6.defG_mk ?a ?l ?c ?k); (case a => k_is); (case l => k_is); (case c => k_is); (case k => k_is)
    case fg12 => (refine' R6.defG_mk ?a ?l ?c ?k); (case a => k_is); (case l => k_is); (case c => k_is); (case k => k_is)
    case fm0 => (refine' R6.defM_mk ?a ?i ?l ?c ?k); (case a => k_is); (case i => k_is); (case l => k_is); (case c => k_is); (case k => k_is)
    case fm2 => (refine' R6.defM_mk ?a ?i ?l ?c ?k); (case a => k_is); (case i => k_is); (case l => k_is); (case c => k_is); (case k => k_is)
    case fm3 => (refine' R6.defM_mk ?a ?i ?l ?c ?k); (case a => k_is); (case i => k_is); (case l => k_is); (case c => k_is); (case k => k_is)
    case fm4 => (refine' R6.defM_mk ?a ?i ?l ?c ?k); (case a => k_is); (case i => k_is); (case l => k_is); (case c => k_is); (case k => k_is)
    case fm5 => (refine' R6.defM_mk ?a ?i ?l ?c ?k); (case a => k_is); (case i => k_is); (case l => k_is); (case c => k_is); (case k => k_is)
    case fm6 => (refine' R6.defM_mk ?a ?i ?l ?c ?k); (case a => k_is); (case i => k_is); (case l => k_is); (case c => k_is); (case k => k_is)
    case fm7 => (refine' R6.defM_mk ?a ?i ?l ?c ?k); (case a => k_is); (case i => k_is); (case l => k_is); (case c => k_is); (case k => k_is)
    case fm10 => (refine' R6.defM_mk ?a ?i ?l ?c ?k); (case a => k_is); (case i => k_is); (case l => k_is); (case c => k_is); (case k => k_is)
    case fm11 => (refine' R6.defM_mk ?a ?i ?l ?c ?k); (case a => k_is); (case i => k_is); (case l => k_is); (case c => k_is); (case k => k_is)
    case fnc => k_is
    case nisinstance => k_is
    case nstr => k_is
    case ndict => k_is
    case nlist => k_is
    case nlen => k_is
    case nset => k_is
    case nall => k_is
    case niter => k_is
    case nsorted => k_is
    case nint => k_is
    case nenumerate => k_is
    case nrange => k_is
    case nKeyError => k_is
end
