import PyProof.Rows.All
import Wide.All
import OpenK.AllK
import Wide.FinOn
import PySem.Str
import HandS.ForExc
import KE.KOpsOwn
import KE.KCallOwn
import HandS.OwnEq
import PyProof.NeKinds
import HandS.TryMany
import KE.KExcInit
import HandS.ExcOwn
import HandS.ExcValue
import HandS.IsInst
import KE.KExcIs
import HandS.Comp
import HandS.Walk
import HandS.DictComp
import HandS.ListItems
import KE.DataMinKey
import HandS.SortKw
import HandS.Star
import HandS.Defaults
import HandS.Steps
import HandS.RaiseMore
import HandS.Deep
import KE.SortKeyHeap
import HandS.Conv
import HandS.Strs
import HandS.Zip
import HandS.Set
import HandS.SetTxt0
import HandS.StrMore
import HandS.MapJoin
import KE.KEqSeq
import HandS.ForMost
import PyProof.EqKinds
import PyProof.P3In
import PyProof.FactsAll.dict_1
import PyProof.Rows.FactsN_isinstance2
import HandS.Style
import HandS.ExcIs
import PySem.Challenge.RW_wishedwires_k28_whole_no_paper_for_too_f
-- A7m
section
set_option Elab.async false
set_option linter.all false
/-! spots apart: families of spots of which no two have a common name (pure). -/
namespace R8
open PySem
abbrev Spt := Nat × List Str
def meet (s t : List Str) : Bool := s.any fun n => decide (n ∈ t)
theorem meet_iff {s t : List Str} : meet s t = true ↔ ∃ n, n ∈ s ∧ n ∈ t := by
  unfold meet
  rw [List.any_eq_true]
  exact ⟨fun ⟨n, h1, h2⟩ => ⟨n, h1, of_decide_eq_true h2⟩, fun ⟨n, h1, h2⟩ => ⟨n, h1, decide_eq_true h2⟩⟩
theorem meet_comm (s t : List Str) : meet s t = meet t s := by
  rw [Bool.eq_iff_iff, meet_iff, meet_iff]
  exact ⟨fun ⟨n, h1, h2⟩ => ⟨n, h2, h1⟩, fun ⟨n, h1, h2⟩ => ⟨n, h2, h1⟩⟩
theorem meet_self {s : List Str} (h : s ≠ []) : meet s s = true := by
  cases s with
  | nil => exact absurd rfl h
  | cons x r => exact meet_iff.mpr ⟨x, List.mem_cons_self, List.mem_cons_self⟩
structure Fam (L R : List Spt) : Prop where
  sub : ∀ p ∈ R, p ∈ L
  ap : R.Pairwise fun p q => meet p.2 q.2 = false
structure Opt (L : List Spt) (n : Nat) : Prop where
  is : ∃ R, Fam L R ∧ R.length = n
  top : ∀ R, Fam L R → R.length ≤ n
def Full (L : List Spt) : Prop := ∀ p ∈ L, p.2 ≠ []
theorem Full.filter {L : List Spt} (h : Full L) (f : Spt → Bool) : Full (L.filter f) := fun p hp => h p (List.mem_filter.mp hp).1
theorem Opt.uniq {L : List Spt} {m n : Nat} (a : Opt L m) (b : Opt L n) : m = n := by
  obtain ⟨R, f, e⟩ := a.is
  obtain ⟨R', f', e'⟩ := b.is
  have := b.top R f
  have := a.top R' f'
  omega
theorem fam_nodup {L R : List Spt} (ne : Full L) (f : Fam L R) : R.Nodup :=
  List.Pairwise.imp_of_mem (fun {p q} hp hq h e => by
    subst e
    rw [meet_self (ne p (f.sub p hp))] at h
    cases h) f.ap
theorem pair_of {L R : List Spt} (f : Fam L R) : ∀ {p q : Spt}, p ∈ R → q ∈ R → p ≠ q → meet p.2 q.2 = false := by
  have go : ∀ R : List Spt, R.Pairwise (fun p q => meet p.2 q.2 = false) → ∀ {p q : Spt}, p ∈ R → q ∈ R → p ≠ q → meet p.2 q.2 = false := fun R h => by
    induction h with
    | nil => exact fun h => (nomatch h)
    | @cons a l h1 h2 ih =>
      intro p q hp hq ne
      rcases List.mem_cons.mp hp with rfl | hp'
      · rcases List.mem_cons.mp hq with rfl | hq'
        · exact absurd rfl ne
        · exact h1 q hq'
      · rcases List.mem_cons.mp hq with rfl | hq'
        · rw [meet_comm]
          exact h1 p hp'
        · exact ih hp' hq' ne
  exact fun {p q} => go R f.ap
theorem subLen : ∀ (xs ys : List Spt), xs.Nodup → (∀ x ∈ xs, x ∈ ys) → xs.length ≤ ys.length
  | [], _, _, _ => Nat.zero_le _
  | x :: r, ys, n, h => by
    obtain ⟨n1, n2⟩ := List.nodup_cons.mp n
    have hx := h x List.mem_cons_self
    have := subLen r (ys.erase x) n2 fun y hy => (List.mem_erase_of_ne (fun e => n1 (by rw [← e]; exact hy))).mpr (h y (List.mem_cons_of_mem _ hy))
    rw [List.length_erase_of_mem hx] at this
    have : 0 < ys.length := List.length_pos_of_mem hx
    rw [List.length_cons]
    omega
theorem split_len (f : Spt → Bool) : ∀ R : List Spt, R.length = (R.filter f).length + (R.filter fun p => !f p).length
  | [] => rfl
  | p :: r => by
    have := split_len f r
    rw [List.filter_cons, List.filter_cons, List.length_cons]
    cases f p
    · show r.length + 1 = (r.filter f).length + (p :: r.filter fun p => !f p).length
      rw [List.length_cons]
      omega
    · show r.length + 1 = (p :: r.filter f).length + (r.filter fun p => !f p).length
      rw [List.length_cons]
      omega
theorem all_same {p : Spt} : ∀ {M : List Spt}, M.Nodup → (∀ q ∈ M, q = p) → M.length ≤ 1
  | [], _, _ => Nat.zero_le _
  | [_], _, _ => Nat.le_refl _
  | a :: b :: r, n, h => by
    have e1 := h a List.mem_cons_self
    have e2 := h b (List.mem_cons_of_mem _ List.mem_cons_self)
    exact absurd (e2 ▸ List.mem_cons_self : p ∈ b :: r) (e1 ▸ (List.nodup_cons.mp n).1)
abbrev hit (p : Spt) : Spt → Bool := fun q => meet p.2 q.2
abbrev off (p : Spt) : Spt → Bool := fun q => !meet p.2 q.2
theorem fam_off {L R : List Spt} (f : Fam L R) (p : Spt) : Fam (L.filter (off p)) (R.filter (off p)) :=
  ⟨fun q hq => List.mem_filter.mpr ⟨f.sub q (List.mem_filter.mp hq).1, (List.mem_filter.mp hq).2⟩, f.ap.sublist List.filter_sublist⟩
theorem fam_cons {L R : List Spt} {p : Spt} (hp : p ∈ L) (f : Fam (L.filter (off p)) R) : Fam L (p :: R) :=
  ⟨fun q hq => (List.mem_cons.mp hq).elim (fun e => by rw [e]; exact hp) fun h => (List.mem_filter.mp (f.sub q h)).1, List.pairwise_cons.mpr ⟨fun q hq => by
    have := (List.mem_filter.mp (f.sub q hq)).2
    have : (!meet p.2 q.2) = true := this
    simpa using this, f.ap⟩⟩
/-- at most one of a family meets p, where it holds p, or few meet p at all -/
theorem few_hit {L R : List Spt} (ne : Full L) (f : Fam L R) {p : Spt} (hp : p ∈ L) (c : p ∈ R ∨ (L.filter (hit p)).length ≤ 2) : (R.filter (hit p)).length ≤ 1 := by
  have nd := (fam_nodup ne f).sublist (List.filter_sublist (p := hit p))
  by_cases h : p ∈ R
  · refine all_same (p := p) nd fun q hq => ?_
    obtain ⟨h1, h2⟩ := List.mem_filter.mp hq
    refine Classical.byContradiction fun z => ?_
    have := pair_of f h h1 (fun e => z e.symm)
    have h2 : meet p.2 q.2 = true := h2
    rw [h2] at this
    cases this
  · have c := c.resolve_left h
    have := subLen (p :: R.filter (hit p)) (L.filter (hit p)) (List.nodup_cons.mpr ⟨fun z => h (List.mem_filter.mp z).1, nd⟩) fun q hq => by
      rcases List.mem_cons.mp hq with rfl | hq
      · exact List.mem_filter.mpr ⟨hp, meet_self (ne q hp)⟩
      · exact List.mem_filter.mpr ⟨f.sub q (List.mem_filter.mp hq).1, (List.mem_filter.mp hq).2⟩
    rw [List.length_cons] at this
    omega
/-- a family that can't be greater -/
structure Res (L R : List Spt) : Prop where
  fam : Fam L R
  opt : Opt L R.length
theorem res_nil : Res [] [] := ⟨⟨fun _ h => (nomatch h), .nil⟩, ⟨⟨[], ⟨fun _ h => (nomatch h), .nil⟩, rfl⟩, fun R f => by
  cases R with
  | nil => exact Nat.le_refl _
  | cons p r => exact absurd (f.sub p List.mem_cons_self) (fun h => nomatch h)⟩⟩
theorem Res.mk' {L R : List Spt} (f : Fam L R) (t : ∀ R', Fam L R' → R'.length ≤ R.length) : Res L R := ⟨f, ⟨⟨R, f, rfl⟩, t⟩⟩
theorem res_one {L RA : List Spt} (ne : Full L) {p : Spt} (hp : p ∈ L) (a : Res (L.filter (off p)) RA) (c : (L.filter (hit p)).length ≤ 2) : Res L (p :: RA) :=
  .mk' (fam_cons hp a.fam) fun R f => by
    have h1 := few_hit ne f hp (.inr c)
    have h2 := a.opt.top _ (fam_off f p)
    have h3 : R.length = (R.filter (hit p)).length + (R.filter (off p)).length := split_len (hit p) R
    rw [List.length_cons]
    omega
theorem mem_cut {L : List Spt} {i : Nat} {p q : Spt} (hi : L[i]? = some p) (hq : q ∈ L) (n : q ≠ p) : q ∈ L.take i ++ L.drop (i + 1) := by
  obtain ⟨j, hj, e⟩ := List.getElem_of_mem hq
  have ne : j ≠ i := fun z => by
    subst z
    rw [List.getElem?_eq_getElem hj, e] at hi
    exact n (Option.some.inj hi)
  by_cases lt : j < i
  · refine List.mem_append_left _ (List.mem_take_iff_getElem.mpr ⟨j, by omega, e⟩)
  · refine List.mem_append_right _ (List.mem_drop_iff_getElem.mpr ⟨j - (i + 1), by omega, ?_⟩)
    have : i + 1 + (j - (i + 1)) = j := by omega
    simp only [this]
    exact e
theorem cut_mem {L : List Spt} {i : Nat} {q : Spt} (h : q ∈ L.take i ++ L.drop (i + 1)) : q ∈ L := (List.mem_append.mp h).elim (fun h => List.mem_of_mem_take h) fun h => List.mem_of_mem_drop h
theorem top_two {L RA RB R : List Spt} (ne : Full L) {i : Nat} {p : Spt} (hi : L[i]? = some p) (a : Res (L.filter (off p)) RA) (b : Res (L.take i ++ L.drop (i + 1)) RB) (f : Fam L R) : R.length ≤ RA.length + 1 ∨ R.length ≤ RB.length := by
  have hp := List.mem_of_getElem? hi
  by_cases h : p ∈ R
  · have h1 := few_hit ne f hp (.inl h)
    have h2 := a.opt.top _ (fam_off f p)
    have h3 : R.length = (R.filter (hit p)).length + (R.filter (off p)).length := split_len (hit p) R
    omega
  · exact .inr (b.opt.top R ⟨fun q hq => mem_cut hi (f.sub q hq) fun e => h (e ▸ hq), f.ap⟩)
theorem res_two {L RA RB : List Spt} (ne : Full L) {i : Nat} {p : Spt} (hi : L[i]? = some p) (a : Res (L.filter (off p)) RA) (b : Res (L.take i ++ L.drop (i + 1)) RB) (c : RB.length ≤ RA.length + 1) : Res L (p :: RA) :=
  .mk' (fam_cons (List.mem_of_getElem? hi) a.fam) fun R f => by
    rw [List.length_cons]
    rcases top_two ne hi a b f with h | h <;> omega
theorem res_alt {L RA RB : List Spt} (ne : Full L) {i : Nat} {p : Spt} (hi : L[i]? = some p) (a : Res (L.filter (off p)) RA) (b : Res (L.take i ++ L.drop (i + 1)) RB) (c : RA.length + 1 < RB.length) : Res L RB :=
  .mk' ⟨fun q hq => cut_mem (b.fam.sub q hq), b.fam.ap⟩ fun R f => by
    rcases top_two ne hi a b f with h | h <;> omega
/-! ### what is left for a paper -/
theorem opt_off {L : List Spt} {n a : Nat} {p : Spt} (hp : p ∈ L) (o : Opt L n) (h : Opt (L.filter (off p)) a) : a + 1 ≤ n := by
  obtain ⟨R, f, e⟩ := h.is
  have := o.top _ (fam_cons hp f)
  rw [List.length_cons, e] at this
  exact this
theorem opt_cut {L : List Spt} {n b i : Nat} (o : Opt L n) (h : Opt (L.take i ++ L.drop (i + 1)) b) : b ≤ n := by
  obtain ⟨R, f, e⟩ := h.is
  rw [← e]
  exact o.top R ⟨fun q hq => cut_mem (f.sub q hq), f.ap⟩
/-! ### all families, one spot after the other -/
structure Rows (l : List Spt) (G : List (List Spt)) : Prop where
  fam : ∀ g ∈ G, Fam l g
  all : ∀ R : List Spt, R.Sublist l → R.Pairwise (fun p q => meet p.2 q.2 = false) → R ∈ G
def longer (p : Spt) (G : List (List Spt)) : List (List Spt) := (G.filter fun g => g.all fun q => !meet q.2 p.2).map (· ++ [p])
theorem rows_nil : Rows [] [[]] := ⟨fun g h => by
  rw [List.mem_singleton.mp h]
  exact ⟨fun _ h => (nomatch h), .nil⟩, fun R h _ => by
  rw [List.sublist_nil.mp h]
  exact List.mem_singleton.mpr rfl⟩
theorem rows_snoc {l : List Spt} {G : List (List Spt)} (r : Rows l G) (p : Spt) : Rows (l ++ [p]) (G ++ longer p G) := by
  refine ⟨fun g h => ?_, fun R h a => ?_⟩
  · rcases List.mem_append.mp h with h | h
    · exact ⟨fun q hq => List.mem_append_left _ ((r.fam g h).sub q hq), (r.fam g h).ap⟩
    · obtain ⟨g0, h0, rfl⟩ := List.mem_map.mp h
      obtain ⟨h1, h2⟩ := List.mem_filter.mp h0
      have f := r.fam g0 h1
      refine ⟨fun q hq => (List.mem_append.mp hq).elim (fun h => List.mem_append_left _ (f.sub q h)) fun h => List.mem_append_right _ h, List.pairwise_append.mpr ⟨f.ap, List.pairwise_singleton _ _, fun q hq q' hq' => ?_⟩⟩
      rw [List.mem_singleton.mp hq']
      have := List.all_eq_true.mp h2 q hq
      simpa using this
  · obtain ⟨R1, R2, e, s1, s2⟩ := List.sublist_append_iff.mp h
    subst e
    obtain ⟨a1, a2, a3⟩ := List.pairwise_append.mp a
    have m1 := r.all R1 s1 a1
    cases s2 with
    | cons _ s3 =>
      rw [List.sublist_nil.mp s3, List.append_nil]
      exact List.mem_append_left _ m1
    | cons_cons _ s3 =>
      have e := List.sublist_nil.mp s3
      subst e
      refine List.mem_append_right _ (List.mem_map.mpr ⟨R1, List.mem_filter.mpr ⟨m1, List.all_eq_true.mpr fun q hq => ?_⟩, rfl⟩)
      rw [a3 q hq p (List.mem_singleton.mpr rfl)]
      rfl
theorem rows_opt {S : List Spt} {G : List (List Spt)} (ne : Full S) (nd : S.Nodup) (r : Rows S G) {n : Nat} (top : ∀ g ∈ G, g.length ≤ n) (is : ∃ g ∈ G, g.length = n) : Opt S n := by
  obtain ⟨g, hg, e⟩ := is
  refine ⟨⟨g, r.fam g hg, e⟩, fun R f => ?_⟩
  have s : (S.filter fun p => decide (p ∈ R)).Sublist S := List.filter_sublist
  have nd2 := nd.sublist s
  have pw : (S.filter fun p => decide (p ∈ R)).Pairwise fun p q => meet p.2 q.2 = false := List.Pairwise.imp_of_mem (fun {p q} hp hq h => pair_of f (of_decide_eq_true (List.mem_filter.mp hp).2) (of_decide_eq_true (List.mem_filter.mp hq).2) h) nd2
  have h1 := top _ (r.all _ s pw)
  have h2 := subLen R (S.filter fun p => decide (p ∈ R)) (fam_nodup ne f) fun p hp => List.mem_filter.mpr ⟨f.sub p hp, decide_eq_true hp⟩
  omega
/-! ### each list has a greatest number -/
theorem opt_some {L : List Spt} (ne : Full L) : ∃ n, Opt L n := by
  have go : ∀ k m, m + k = L.length → (∃ R, Fam L R ∧ R.length = m) → ∃ n, Opt L n := fun k => by
    induction k with
    | zero =>
      intro m e h
      refine ⟨m, h, fun R f => ?_⟩
      have := subLen R L (fam_nodup ne f) f.sub
      omega
    | succ k ih =>
      intro m e h
      by_cases c : ∀ R, Fam L R → R.length ≤ m
      · exact ⟨m, h, c⟩
      · obtain ⟨R, hR⟩ := Classical.not_forall.mp c
        obtain ⟨f, hl⟩ := Classical.not_imp.mp hR
        have : m + 1 ≤ R.length := by omega
        refine ih (m + 1) (by omega) ⟨R.take (m + 1), ⟨fun q hq => f.sub q (List.mem_of_mem_take hq), f.ap.sublist (List.take_sublist _ _)⟩, ?_⟩
        rw [List.length_take]
        omega
  exact go L.length 0 (by omega) ⟨[], ⟨fun _ h => (nomatch h), .nil⟩, rfl⟩
end R8
end

-- OwnOps
section
set_option Elab.async false
set_option linter.all false
set_option maxRecDepth 100000
/-! Operators of own classes, as rules over values: by this text's own hand. -/
namespace OwnOps
open PySem L2

section
variable {X : Cx} {pins : List (Addr × Obj)} {σ : St} {H : Hp} {s : Shared} {a b C dx dy g : Addr} {fs fs' : List (Str × V)}

theorem inst_at (I : Inv X pins σ H s) (e : H a = some (.ins C dx fs)) : ∃ od, PySem.W.InstAt s.heap a (PySem.W.instObj C dx) C (some od) := by
  obtain ⟨mA, O, _⟩ := ins_get I.hok e
  obtain ⟨od, J, _⟩ := O.look
  exact ⟨od, J⟩

theorem back_of {Q : Value → Shared → Prop} {s' : Shared} {v : V} {u : Value} (r : RelV v u) (q : Q u s') : PySem.W.CmpBack Q u s' := by
  cases v with
  | non => cases (show u = Value.none from r); exact q
  | bl b => cases (show u = Value.bool b from r); exact q
  | int i => obtain ⟨t, rfl⟩ := (show ∃ t, u = Value.int i t from r); exact q
  | str y => obtain ⟨t, rfl⟩ := (show ∃ t, u = Value.str y t from r); exact q
  | byt y => obtain ⟨t, rfl⟩ := (show ∃ t, u = Value.bytes y t from r); exact q
  | flt y => obtain ⟨t, rfl⟩ := (show ∃ t, u = Value.float y t from r); exact q
  | ref c => cases (show u = Value.ref c from r); exact q
  | ty n => cases (show u = Value.type n from r); exact q

variable {CX : CXT} {k : Nat} {fd : FuncData} {ps : List Str} {sp : Sp} {E : XK} {A : Around}

/-- a def's call wherever the builtins around it stand -/
theorem run_any {Q : VK} {us : List Value} {vs : List V} (F : FnOk X.prog X.w X.K X.mg X.base CX k g fd ps sp) (hr : Room k A) (e0 : Env0 X.prog X.w X.K X.mg X.base A X.stack s H)
    (hb : Binds X.K fd ps []) (hx : Passes CX X E) (I : Inv X pins σ H s) (r : Vals vs us) (h : sp vs H Q E) :
    wpAny (model X.prog X.w) A (call (.ref g) us) (EP X pins σ Q) X.xe s := by
  have hl : (us ++ []).length = ps.length := by rw [List.append_nil, ← r.length]; exact F.len _ _ _ _ h
  have hb' := hb s us I.kIn hl
  rw [List.append_nil] at hb'
  refine wpAny_call (codeAny_mono (F.run A X.stack s H ⟨us, []⟩ us vs Q E hr e0 hb' r h) fun res s' hq => ?_)
  cases res with
  | error e => exact hx pins σ H s e s' I hq
  | ok fl =>
    cases fl with
    | ret u => exact I.after hq
    | next => exact False.elim hq
    | brk => exact False.elim hq
    | cont => exact False.elim hq
end

/-- what an own class says of a two-place operator: its def, of this class -/
structure Op2 (K : PySem.W.Frag) (C g : Addr) (nm : String) : Prop where
  at_ : PySem.W.findIn K (.ref C) (PySem.dunder nm) = some (some (.ref g))
  rf : ∃ rc, PySem.W.findIn K (.ref C) (PySem.dunderR nm) = some rc ∧ (rc = none ∨ ∃ q : Addr, rc = some (.ref q))
  fn : PySem.W.isFn K (.ref g) = true
  first : PySem.W.selfFirst K C = true
/-- what is known of a built-in type beside the class at C, for the operator -/
structure Ty2 (K : PySem.W.Frag) (C : Addr) (nm T : String) : Prop where
  lf : ∃ fo, PySem.W.findIn K (.type T) (PySem.dunder nm) = some fo
  rt : ∃ ro, PySem.W.findIn K (.type T) (PySem.dunderR nm) = some ro
  sub : PySem.W.subIn K (.type T) (.ref C) = some false

/-- the reading of x op y by x's own def -/
def rOwn2 (C : Addr) (R : V → Hp → Prop) (sp : Sp) (E : XK) : R2 := fun x y H Q => ∃ a dx fs, x = .ref a ∧ H a = some (.ins C dx fs) ∧ R y H ∧ sp [x, y] H Q E
def RIns (C : Addr) : V → Hp → Prop := fun y H => ∃ b dy fs, y = .ref b ∧ H b = some (.ins C dy fs)
def RInt : V → Hp → Prop := fun y _ => ∃ i, y = .int i

section
variable {X : Cx} {CX : CXT} {C g : Addr} {k : Nat} {fd : FuncData} {ps : List Str} {sp : Sp} {E : XK} {op : Operator} {T : String}

/-- x op y, both of the class at C -/
theorem op_ins (O : Op2 X.K C g op.info.2) (F : FnOk X.prog X.w X.K X.mg X.base CX k g fd ps sp) (hr : Room k X.A) (hb : Binds X.K fd ps []) (hx : Passes CX X E) :
    OpR X (binaryOp op) (rOwn2 C (RIns C) sp E) := by
  intro pins s σ H x y v u Q I rx ry h
  obtain ⟨a, dx, fs, rfl, ha, ⟨b, dy, fs', rfl, hb'⟩, q⟩ := h
  cases (show v = Value.ref a from rx)
  cases (show u = Value.ref b from ry)
  obtain ⟨od, J⟩ := inst_at I ha
  obtain ⟨od', J'⟩ := inst_at I hb'
  obtain ⟨m, hF⟩ := I.fr
  refine PySem.W.binop_K hF I.ok.mod.kin J J'.type O.first O.at_ O.fn ?_
  refine wpAny_mono (run_any (us := [.ref a, .ref b]) (vs := [.ref a, .ref b]) F hr I.env0 hb hx I (.cons rfl (.cons rfl .nil)) q) (fun w s' z => ?_) fun _ _ e => e
  obtain ⟨z', H', I', rz, qz⟩ := id z
  exact back_of rz z

/-- x op y, y of a built-in type that tells its type at once -/
theorem op_val (O : Op2 X.K C g op.info.2) (Y : Ty2 X.K C op.info.2 T) (F : FnOk X.prog X.w X.K X.mg X.base CX k g fd ps sp) (hr : Room k X.A) (hb : Binds X.K fd ps []) (hx : Passes CX X E)
    {R : V → Hp → Prop} (hR : ∀ {y : V} {H : Hp} {u : Value}, R y H → RelV y u → typeOf u = pure (.type T)) :
    OpR X (binaryOp op) (rOwn2 C R sp E) := by
  intro pins s σ H x y v u Q I rx ry h
  obtain ⟨a, dx, fs, rfl, ha, hy, q⟩ := h
  cases (show v = Value.ref a from rx)
  obtain ⟨od, J⟩ := inst_at I ha
  obtain ⟨m, hF⟩ := I.fr
  obtain ⟨fo, hfo⟩ := Y.lf
  obtain ⟨ro, hro⟩ := Y.rt
  obtain ⟨rc, hrc, hp⟩ := O.rf
  refine PySem.W.ksp_binT hF I.ok.mod.kin J (hR hy ry) O.first O.at_ O.fn hrc hp hfo hro Y.sub ?_
  refine wpAny_mono (run_any (us := [.ref a, u]) (vs := [.ref a, y]) F hr I.env0 hb hx I (.cons rfl (.cons ry .nil)) q) (fun w s' z => ?_) fun _ _ e => e
  obtain ⟨z', H', I', rz, qz⟩ := id z
  exact back_of rz z
end
end OwnOps
end

-- OwnOps2
section
set_option Elab.async false
set_option linter.all false
set_option maxRecDepth 100000
namespace OwnOps
open PySem L2

section
variable {prog : Program} {w : World} {A : Around} {E : Value → Shared → Prop} {s : Shared} {K : PySem.W.Frag} {y C f g : Addr} {oy : Obj} {od : Option Obj} {u : Value} {T : String}

/-- u op y by y's reflected def: u's own type has no slot for it, or declines -/
theorem refl_K {op : Operator} {left : Bool} {Q : Value → Shared → Prop} (Y : K.In s.heap) (I : PySem.W.InstAt s.heap y oy C od)
    (ht : PySem.W.Looks (model prog w) s.heap (typeOf u) (.type T)) (hc : PySem.W.selfFirst K C = true)
    (hs : PySem.W.findIn K (.ref C) (PySem.dunder op.info.2) = some (some (.ref f))) (hr : PySem.W.findIn K (.ref C) (PySem.dunderR op.info.2) = some (some (.ref g)))
    (hg : PySem.W.isFn K (.ref g) = true) (hl : PySem.W.Looks (model prog w) s.heap (fillsNumberSlot (.type T) op.info.2) left)
    (hsub : PySem.W.subIn K (.ref C) (.type T) = some false)
    (hd : left = true → ∀ {Q : Option Value → Shared → Prop}, Q none s → wpAny (model prog w) A (tryMethod u (PySem.dunder op.info.2) (.ref y)) Q E s)
    (h : wpAny (model prog w) A (call (.ref g) [.ref y, u]) (PySem.W.CmpBack Q) E s) : wpAny (model prog w) A (binaryOp op u (.ref y)) Q E s := by
  obtain ⟨cd, rest, hcd, hm⟩ := PySem.W.ksp_first hc
  rcases hi : op.info with ⟨sym, nm⟩
  rw [hi] at hs hr hl hd
  dsimp only at hs hr hl hd
  have one := PySem.W.ksp_try Y I hr hg h
  obtain ⟨hh, gg, d, tt, os⟩ := s
  have L1 : PySem.W.Looks (model prog w) hh (typeOf (.ref y)) (.ref C) := I.type
  have L3 : PySem.W.Looks (model prog w) hh (fillsNumberSlot (.ref C) nm) true := PySem.W.fills_K Y hcd hm hs
  have L5 : PySem.W.Looks (model prog w) hh (isSubtype (.ref C) (.type T)) false := PySem.W.looks_subIn Y hsub
  have L7 : PySem.W.Looks (model prog w) hh (numberSlotInPython (.type T) nm) false := PySem.W.Looks.of_pure rfl
  have hne : (Value.type T == Value.ref C) = false := Bool.eq_false_iff.mpr fun q => by cases beq_iff_eq.mp q
  simp only [binaryOp, hi]
  refine wpAny_holding (wpAny_bind ?_)
  unfold binaryOp1
  refine wpAny_bind (ht.at (wpAny_bind (L1.at (wpAny_bind (hl.at ?_)))))
  simp only [hne, Bool.false_eq_true, if_false]
  cases left with
  | false =>
    ksp_lk
    refine wpAny_mono one (fun r s' hr' => ?_) fun _ _ e => e
    obtain ⟨v, rfl, hq⟩ := hr'
    ksp_lk
    exact hq
  | true =>
    ksp_lk
    refine hd rfl ?_
    ksp_lk
    refine wpAny_mono one (fun r s' hr' => ?_) fun _ _ e => e
    obtain ⟨v, rfl, hq⟩ := hr'
    ksp_lk
    exact hq
end
end OwnOps
end

-- OwnOps3
section
set_option Elab.async false
set_option linter.all false
set_option maxRecDepth 100000
namespace OwnOps
open PySem L2

section
variable {prog : Program} {w : World} {A : Around} {E : Value → Shared → Prop} {s : Shared} {K : PySem.W.Frag} {y C f g : Addr} {oy : Obj} {od : Option Obj} {n : Int} {t : Tok}
open MeetsSeq MeetsSeq2 MeetsSeq3 SeqRoads2 AutoSeq1
theorem int_call_add {Q : Value → Shared → Prop} (hy : s.heap.get? y = some oy) (hp : oy.data = .plain) (h : Q .notImplemented s) :
    wpAny (model prog w) A (call (.builtin "int.__add__") [.int n t, .ref y]) Q E s := by
  refine GQ.call_here F.slot_int_add (typeIs_int s n t) F.entry_int_add (F.args_int_add_2 _ _) ?_
  obtain ⟨c, dd, dt, sl⟩ := oy
  cases hp
  obtain ⟨hh, gg, d, tt, os⟩ := s
  wp_walk using wpAny_loadPart' hy
  exact h
theorem int_call_sub {Q : Value → Shared → Prop} (hy : s.heap.get? y = some oy) (hp : oy.data = .plain) (h : Q .notImplemented s) :
    wpAny (model prog w) A (call (.builtin "int.__sub__") [.int n t, .ref y]) Q E s := by
  refine GQ.call_here F.slot_int_sub (typeIs_int s n t) F.entry_int_sub (F.args_int_sub_2 _ _) ?_
  obtain ⟨c, dd, dt, sl⟩ := oy
  cases hp
  obtain ⟨hh, gg, d, tt, os⟩ := s
  wp_walk using wpAny_loadPart' hy
  exact h
theorem int_call_mul {Q : Value → Shared → Prop} (hy : s.heap.get? y = some oy) (hp : oy.data = .plain) (h : Q .notImplemented s) :
    wpAny (model prog w) A (call (.builtin "int.__mul__") [.int n t, .ref y]) Q E s := by
  refine GQ.call_here F.slot_int_mul (typeIs_int s n t) F.entry_int_mul (F.args_int_mul_2 _ _) ?_
  obtain ⟨c, dd, dt, sl⟩ := oy
  cases hp
  obtain ⟨hh, gg, d, tt, os⟩ := s
  wp_walk using wpAny_loadPart' hy
  exact h
theorem bool_call_mul {k : Bool} {Q : Value → Shared → Prop} (hy : s.heap.get? y = some oy) (hp : oy.data = .plain) (h : Q .notImplemented s) :
    wpAny (model prog w) A (call (.builtin "int.__mul__") [.bool k, .ref y]) Q E s := by
  refine GQ.call_here F.slot_bool_mul (typeIs_bool s k) F.entry_int_mul (F.args_int_mul_2 _ _) ?_
  obtain ⟨c, dd, dt, sl⟩ := oy
  cases hp
  obtain ⟨hh, gg, d, tt, os⟩ := s
  wp_walk using wpAny_loadPart' hy
  exact h
/-- how an int meets an instance of no built-in kind -/
theorem int_cmp_eq {Q : Value → Shared → Prop} (hy : s.heap.get? y = some oy) (hp : oy.data = .plain) (h : Q .notImplemented s) :
    wpAny (model prog w) A (call (.builtin "int.__eq__") [.int n t, .ref y]) Q E s := by
  refine GQ.call_here F.slot_int_eq (typeIs_int s n t) F.entry_int_eq (F.args_int_eq_2 _ _) ?_
  obtain ⟨c, dd, dt, sl⟩ := oy
  cases hp
  obtain ⟨hh, gg, d, tt, os⟩ := s
  wp_walk using wpAny_loadPart' hy
  exact h
theorem int_cmp_ne {Q : Value → Shared → Prop} (hy : s.heap.get? y = some oy) (hp : oy.data = .plain) (h : Q .notImplemented s) :
    wpAny (model prog w) A (call (.builtin "int.__ne__") [.int n t, .ref y]) Q E s := by
  refine GQ.call_here F.slot_int_ne (typeIs_int s n t) F.entry_int_ne (F.args_int_ne_2 _ _) ?_
  obtain ⟨c, dd, dt, sl⟩ := oy
  cases hp
  obtain ⟨hh, gg, d, tt, os⟩ := s
  wp_walk using wpAny_loadPart' hy
  exact h
theorem int_cmp_lt {Q : Value → Shared → Prop} (hy : s.heap.get? y = some oy) (hp : oy.data = .plain) (h : Q .notImplemented s) :
    wpAny (model prog w) A (call (.builtin "int.__lt__") [.int n t, .ref y]) Q E s := by
  refine GQ.call_here F.slot_int_lt (typeIs_int s n t) F.entry_int_lt (F.args_int_lt_2 _ _) ?_
  obtain ⟨c, dd, dt, sl⟩ := oy
  cases hp
  obtain ⟨hh, gg, d, tt, os⟩ := s
  wp_walk using wpAny_loadPart' hy
  exact h
theorem int_cmp_le {Q : Value → Shared → Prop} (hy : s.heap.get? y = some oy) (hp : oy.data = .plain) (h : Q .notImplemented s) :
    wpAny (model prog w) A (call (.builtin "int.__le__") [.int n t, .ref y]) Q E s := by
  refine GQ.call_here F.slot_int_le (typeIs_int s n t) F.entry_int_le (F.args_int_le_2 _ _) ?_
  obtain ⟨c, dd, dt, sl⟩ := oy
  cases hp
  obtain ⟨hh, gg, d, tt, os⟩ := s
  wp_walk using wpAny_loadPart' hy
  exact h
theorem int_cmp_gt {Q : Value → Shared → Prop} (hy : s.heap.get? y = some oy) (hp : oy.data = .plain) (h : Q .notImplemented s) :
    wpAny (model prog w) A (call (.builtin "int.__gt__") [.int n t, .ref y]) Q E s := by
  refine GQ.call_here F.slot_int_gt (typeIs_int s n t) F.entry_int_gt (F.args_int_gt_2 _ _) ?_
  obtain ⟨c, dd, dt, sl⟩ := oy
  cases hp
  obtain ⟨hh, gg, d, tt, os⟩ := s
  wp_walk using wpAny_loadPart' hy
  exact h
theorem int_cmp_ge {Q : Value → Shared → Prop} (hy : s.heap.get? y = some oy) (hp : oy.data = .plain) (h : Q .notImplemented s) :
    wpAny (model prog w) A (call (.builtin "int.__ge__") [.int n t, .ref y]) Q E s := by
  refine GQ.call_here F.slot_int_ge (typeIs_int s n t) F.entry_int_ge (F.args_int_ge_2 _ _) ?_
  obtain ⟨c, dd, dt, sl⟩ := oy
  cases hp
  obtain ⟨hh, gg, d, tt, os⟩ := s
  wp_walk using wpAny_loadPart' hy
  exact h
end
/-- int op instance, declined -/
def IntDec (op : CmpOp) : Prop := ∀ {prog : Program} {w : World} {A : Around} {E : Value → Shared → Prop} {s : Shared} {y : Addr} {oy : Obj} {n : Int} {t : Tok} {Q : Option Value → Shared → Prop}, s.heap.get? y = some oy → oy.data = .plain → Q none s →
  wpAny (model prog w) A (tryCompare (.int n t) (cmpInfo op).2.1 (.ref y)) Q E s
theorem dec_eq : IntDec .Eq := fun hy hp h => wpAny_tryCompare_declines (typeIs_int _ _ _) F.slot_int_eq (int_cmp_eq hy hp ⟨rfl, h⟩)
theorem dec_ne : IntDec .NotEq := fun hy hp h => wpAny_tryCompare_declines (typeIs_int _ _ _) F.slot_int_ne (int_cmp_ne hy hp ⟨rfl, h⟩)
theorem dec_lt : IntDec .Lt := fun hy hp h => wpAny_tryCompare_declines (typeIs_int _ _ _) F.slot_int_lt (int_cmp_lt hy hp ⟨rfl, h⟩)
theorem dec_le : IntDec .LtE := fun hy hp h => wpAny_tryCompare_declines (typeIs_int _ _ _) F.slot_int_le (int_cmp_le hy hp ⟨rfl, h⟩)
theorem dec_gt : IntDec .Gt := fun hy hp h => wpAny_tryCompare_declines (typeIs_int _ _ _) F.slot_int_gt (int_cmp_gt hy hp ⟨rfl, h⟩)
theorem dec_ge : IntDec .GtE := fun hy hp h => wpAny_tryCompare_declines (typeIs_int _ _ _) F.slot_int_ge (int_cmp_ge hy hp ⟨rfl, h⟩)
def IntDecB (op : Operator) : Prop := ∀ {prog : Program} {w : World} {A : Around} {E : Value → Shared → Prop} {s : Shared} {y : Addr} {oy : Obj} {n : Int} {t : Tok} {Q : Option Value → Shared → Prop}, s.heap.get? y = some oy → oy.data = .plain → Q none s →
  wpAny (model prog w) A (tryMethod (.int n t) (PySem.dunder op.info.2) (.ref y)) Q E s
theorem dec_add : IntDecB .Add := by
  intro prog w A E s y oy n t Q hy hp h
  show wpAny (model prog w) A (tryMethod (.int n t) (PySem.dunder "add") (.ref y)) Q E s
  have hc : wpAny (model prog w) A (call (.builtin "int.__add__") [.int n t, .ref y]) (fun v s' => v = .notImplemented ∧ Q none s') E s := int_call_add hy hp ⟨rfl, h⟩
  exact wpAny_tryMethod_declines (name := PySem.dunder "add") (id := "int.__add__") (typeIs_int s n t) F.slot_int_add hc
theorem dec_sub : IntDecB .Sub := by
  intro prog w A E s y oy n t Q hy hp h
  show wpAny (model prog w) A (tryMethod (.int n t) (PySem.dunder "sub") (.ref y)) Q E s
  have hc : wpAny (model prog w) A (call (.builtin "int.__sub__") [.int n t, .ref y]) (fun v s' => v = .notImplemented ∧ Q none s') E s := int_call_sub hy hp ⟨rfl, h⟩
  exact wpAny_tryMethod_declines (name := PySem.dunder "sub") (id := "int.__sub__") (typeIs_int s n t) F.slot_int_sub hc
theorem dec_mul : IntDecB .Mult := by
  intro prog w A E s y oy n t Q hy hp h
  show wpAny (model prog w) A (tryMethod (.int n t) (PySem.dunder "mul") (.ref y)) Q E s
  have hc : wpAny (model prog w) A (call (.builtin "int.__mul__") [.int n t, .ref y]) (fun v s' => v = .notImplemented ∧ Q none s') E s := int_call_mul hy hp ⟨rfl, h⟩
  exact wpAny_tryMethod_declines (name := PySem.dunder "mul") (id := "int.__mul__") (typeIs_int s n t) F.slot_int_mul hc

section
variable {prog : Program} {w : World} {A : Around} {E : Value → Shared → Prop} {s : Shared} {K : PySem.W.Frag} {y C f g : Addr} {oy : Obj} {od : Option Obj} {n : Int} {t : Tok}
/-- n op y by y's def for the comparison turned round -/
theorem cmp_refl {op : CmpOp} {Q : Value → Shared → Prop} (hu : A.units < cLine) (Y : K.In s.heap) (I : PySem.W.InstAt s.heap y oy C od) (hp : oy.data = .plain) (dec : IntDec op)
    (hsub : PySem.W.subIn K (.ref C) (.type "int") = some false) (hr : PySem.W.findIn K (.ref C) (cmpInfo op).2.2 = some (some (.ref g))) (hg : PySem.W.isFn K (.ref g) = true)
    (h : wpAny (model prog w) A (call (.ref g) [.ref y, .int n t]) (PySem.W.CmpBack Q) E s) : wpAny (model prog w) A (richCompare op (.int n t) (.ref y)) Q E s := by
  have one : wpAny (model prog w) A (tryCompare (.ref y) (cmpInfo op).2.2 (.int n t)) (fun r s' => ∃ v, r = some v ∧ Q v s') E s := by
    unfold tryCompare
    refine wpAny_bind (PySem.W.ifBound_K Y I hr hg (wpAny_mono h (fun v s' hv => ?_) fun _ _ e => e))
    cases v <;> first | exact hv.elim | exact wpAny_pure ⟨_, rfl, hv⟩
  have h1 : oneThing? op (.int n t) (.ref y) = none := rfl
  have hne : (Value.type "int" != Value.ref C) = true := rfl
  unfold richCompare
  simp only [h1]
  refine wpAny_holding (wpAny_bind (wpAny_cRoomFor hu ?_))
  refine wpAny_bind ((PySem.W.Looks.of_pure rfl : PySem.W.Looks (model prog w) s.heap (typeOf (.int n t)) (.type "int")).here (wpAny_bind (I.type.here ?_)))
  rw [hne]
  simp only [if_true]
  refine wpAny_bind ((PySem.W.looks_subIn Y hsub).here ?_)
  simp only [Bool.false_eq_true, if_false]
  refine wpAny_bind (dec I.at_ hp ?_)
  simp only [Bool.not_false, if_true]
  refine wpAny_bind (wpAny_mono one (fun r s' z => ?_) fun _ _ e => e)
  obtain ⟨v, rfl, hq⟩ := z
  exact wpAny_pure hq
end
end OwnOps
end

-- OwnOps4
section
set_option Elab.async false
set_option linter.all false
set_option maxRecDepth 100000
namespace OwnOps
open PySem L2

section
variable {X : Cx} {CX : CXT} {C g f : Addr} {k : Nat} {fd : FuncData} {ps : List Str} {sp : Sp} {E : XK} {op : Operator} {T : String}

/-- the reading of n op y by y's def -/
def rRef2 (C : Addr) (sp : Sp) (E : XK) : R2 := fun x y H Q => ∃ (i : Int) (b dy : Addr) (fs : List (Str × V)), x = .int i ∧ y = .ref b ∧ H b = some (.ins C dy fs) ∧ sp [y, x] H Q E

theorem op_refl {nm : String} (hnm : op.info.2 = nm) (O : Op2 X.K C f nm) (hrf : PySem.W.findIn X.K (.ref C) (PySem.dunderR nm) = some (some (.ref g))) (hg : PySem.W.isFn X.K (.ref g) = true) (hl : fillsNumberSlot (.type "int") nm = pure true)
    (hsub : PySem.W.subIn X.K (.ref C) (.type "int") = some false) (dec : IntDecB op)
    (F : FnOk X.prog X.w X.K X.mg X.base CX k g fd ps sp) (hr : Room k X.A) (hb : Binds X.K fd ps []) (hx : Passes CX X E) : OpR X (binaryOp op) (rRef2 C sp E) := by
  subst hnm
  intro pins s σ H x y v u Q I rx ry h
  obtain ⟨i, b, dy, fs, rfl, rfl, hb', q⟩ := h
  obtain ⟨t, rfl⟩ := (show ∃ t, v = Value.int i t from rx)
  cases (show u = Value.ref b from ry)
  obtain ⟨od, J⟩ := inst_at I hb'
  refine refl_K I.kIn J (PySem.W.Looks.of_pure rfl) O.first O.at_ hrf hg (PySem.W.Looks.of_pure hl) hsub (fun _ Q' q' => dec J.at_ rfl q') ?_
  refine wpAny_mono (run_any (us := [.ref b, .int i t]) (vs := [.ref b, .int i]) F hr I.env0 hb hx I (.cons rfl (.cons ⟨t, rfl⟩ .nil)) q) (fun w s' z => ?_) fun _ _ e => e
  obtain ⟨z', H', I', rz, qz⟩ := id z
  exact back_of rz z

/-- x op y (a comparison), x of the class at C -/
theorem cmp_own {op : CmpOp} (hop : ∀ a b, compareOp op a b = richCompare op a b) (hs : PySem.W.findIn X.K (.ref C) (cmpInfo op).2.1 = some (some (.ref g))) (hf : PySem.W.isFn X.K (.ref g) = true)
    (F : FnOk X.prog X.w X.K X.mg X.base CX k g fd ps sp) (hr : Room k X.A) (hb : Binds X.K fd ps []) (hx : Passes CX X E)
    {R : V → Hp → Prop} (hR : ∀ {y : V} {H : Hp} {u : Value} {pins : List (Addr × Obj)} {σ : St} {s : Shared}, L2.Inv X pins σ H s → R y H → RelV y u → ∃ tb, PySem.W.Looks (model X.prog X.w) s.heap (typeOf u) tb ∧ PySem.W.notFirst X.K C tb = true) :
    OpR X (compareOp op) (rOwn2 C R sp E) := by
  intro pins s σ H x y v u Q I rx ry h
  obtain ⟨a, dx, fs, rfl, ha, hy, q⟩ := h
  cases (show v = Value.ref a from rx)
  obtain ⟨od, J⟩ := inst_at I ha
  obtain ⟨m, hF⟩ := I.fr
  obtain ⟨tb, ht, hn⟩ := hR I hy ry
  rw [hop]
  refine PySem.W.cmp_K (op := op) hr.units0 hF I.ok.mod.kin J ht hn hs hf ?_
  refine wpAny_mono (run_any (us := [.ref a, u]) (vs := [.ref a, y]) F hr I.env0 hb hx I (.cons rfl (.cons ry .nil)) q) (fun w s' z => ?_) fun _ _ e => e
  obtain ⟨z', H', I', rz, qz⟩ := id z
  exact back_of rz z
theorem looks_ins (hsame : PySem.W.notFirst X.K C (.ref C) = true) {y : V} {H : Hp} {u : Value} {pins : List (Addr × Obj)} {σ : St} {s : Shared} (I : L2.Inv X pins σ H s) (h : RIns C y H) (ry : RelV y u) :
    ∃ tb, PySem.W.Looks (model X.prog X.w) s.heap (typeOf u) tb ∧ PySem.W.notFirst X.K C tb = true := by
  obtain ⟨b, dy, fs, rfl, hb⟩ := h
  cases (show u = Value.ref b from ry)
  obtain ⟨od, J⟩ := inst_at I hb
  exact ⟨_, J.type, hsame⟩
theorem looks_int (hi : PySem.W.notFirst X.K C (.type "int") = true) {y : V} {H : Hp} {u : Value} {pins : List (Addr × Obj)} {σ : St} {s : Shared} (I : L2.Inv X pins σ H s) (h : RInt y H) (ry : RelV y u) :
    ∃ tb, PySem.W.Looks (model X.prog X.w) s.heap (typeOf u) tb ∧ PySem.W.notFirst X.K C tb = true := by
  obtain ⟨i, rfl⟩ := h
  obtain ⟨t, rfl⟩ := (show ∃ t, u = Value.int i t from ry)
  exact ⟨_, PySem.W.Looks.of_pure rfl, hi⟩

theorem cmp_refl2 {op : CmpOp} (hop : ∀ a b, compareOp op a b = richCompare op a b) (dec : IntDec op) (hs : PySem.W.findIn X.K (.ref C) (cmpInfo op).2.2 = some (some (.ref g))) (hf : PySem.W.isFn X.K (.ref g) = true)
    (hsub : PySem.W.subIn X.K (.ref C) (.type "int") = some false)
    (F : FnOk X.prog X.w X.K X.mg X.base CX k g fd ps sp) (hr : Room k X.A) (hb : Binds X.K fd ps []) (hx : Passes CX X E) : OpR X (compareOp op) (rRef2 C sp E) := by
  intro pins s σ H x y v u Q I rx ry h
  obtain ⟨i, b, dy, fs, rfl, rfl, hb', q⟩ := h
  obtain ⟨t, rfl⟩ := (show ∃ t, v = Value.int i t from rx)
  cases (show u = Value.ref b from ry)
  obtain ⟨od, J⟩ := inst_at I hb'
  rw [hop]
  refine cmp_refl hr.units0 I.kIn J rfl dec hsub hs hf ?_
  refine wpAny_mono (run_any (us := [.ref b, .int i t]) (vs := [.ref b, .int i]) F hr I.env0 hb hx I (.cons rfl (.cons ⟨t, rfl⟩ .nil)) q) (fun w s' z => ?_) fun _ _ e => e
  obtain ⟨z', H', I', rz, qz⟩ := id z
  exact back_of rz z

/-- one-place: what x's own def hands back -/
def rOwn1 (C : Addr) (sp : Sp) (E : XK) (R : V → Prop) : V → Hp → VK → Prop := fun x H Q => ∃ a dx fs, x = .ref a ∧ H a = some (.ins C dx fs) ∧ sp [x] H (fun z H' => R z ∧ Q z H') E
theorem neg_own (hs : PySem.W.findIn X.K (.ref C) "__neg__" = some (some (.ref g))) (hf : PySem.W.isFn X.K (.ref g) = true)
    (F : FnOk X.prog X.w X.K X.mg X.base CX k g fd ps sp) (hr : Room k X.A) (hb : Binds X.K fd ps []) (hx : Passes CX X E) : UnR X (unaryOp .USub) (rOwn1 C sp E fun _ => True) := by
  intro pins s σ H x v Q I rx h
  obtain ⟨a, dx, fs, rfl, ha, q⟩ := h
  cases (show v = Value.ref a from rx)
  obtain ⟨od, J⟩ := inst_at I ha
  obtain ⟨m, hF⟩ := I.fr
  refine PySem.W.ksp_neg hF I.ok.mod.kin J hs hf ?_
  refine wpAny_mono (run_any (us := [.ref a]) (vs := [.ref a]) F hr I.env0 hb hx I (.cons rfl .nil) q) (fun w s' z => ?_) fun _ _ e => e
  obtain ⟨z', H', I', rz, _, qz⟩ := z
  exact ⟨z', H', I', rz, qz⟩

open Builtin in
theorem abs_K {prog : Program} {w : World} {A : Around} {E : Value → Shared → Prop} {s : Shared} {K : PySem.W.Frag} {x C f : Addr} {ox : Obj} {od : Option Obj} {Q : Value → Shared → Prop} (Y : K.In s.heap) (I : PySem.W.InstAt s.heap x ox C od)
    (hs : PySem.W.findIn K (.ref C) "__abs__" = some (some (.ref f))) (hf : PySem.W.isFn K (.ref f) = true)
    (h : wpAny (model prog w) A.in1 (call (.ref f) [.ref x]) Q E s) : wpAny (model prog w) A (call (.builtin "abs") [.ref x]) Q E s := by
  refine Calls.call_function_entry PyProof.Rows.kind_abs PyProof.Rows.plain_abs PyProof.Rows.entry_abs (PyProof.Rows.args_abs _) ?_
  unfold Builtin.«abs»
  refine wpAny_bind (m := oneArg "abs" _) (wpAny_pure ?_)
  refine wpAny_bind (m := callSpecial? (.ref x) (Str.ofString "__abs__")) (PySem.W.special_fn Y I hs (beq_iff_eq.mp hf) (wpAny_mono h (fun r s' z => ?_) fun _ _ e => e))
  exact wpAny_pure ⟨_, rfl, z⟩

theorem room2 {k : Nat} {A : Around} (r : Room (k + 2) A) : Room k A.in1.in1 := (Room.in1 (r.in1))

theorem call_absO (hs : PySem.W.findIn X.K (.ref C) "__abs__" = some (some (.ref g))) (hf : PySem.W.isFn X.K (.ref g) = true)
    (F : FnOk X.prog X.w X.K X.mg X.base CX k g fd ps sp) (hr : Room (k + 1) X.A) (hb : Binds X.K fd ps []) (hx : Passes CX X E) : CallR X (.builtin "abs") (fun xs H Q => ∃ x, xs = [x] ∧ rOwn1 C sp E (fun _ => True) x H Q) := by
  intro pins s σ H xs us Q I rx h
  obtain ⟨x, rfl, a, dx, fs, rfl, ha, q⟩ := h
  obtain ⟨u, rfl, ru⟩ := vals1 rx
  cases (show u = Value.ref a from ru)
  obtain ⟨od, J⟩ := inst_at I ha
  refine abs_K I.kIn J hs hf ?_
  refine wpAny_mono (run_any (us := [.ref a]) (vs := [.ref a]) F hr.in1 I.env0.in1 hb hx I (.cons rfl .nil) q) (fun w s' z => ?_) fun _ _ e => e
  obtain ⟨z', H', I', rz, _, qz⟩ := z
  exact ⟨z', H', I', rz, qz⟩

def IsStr : V → Prop := fun z => ∃ y, z = .str y
theorem strback {Q : Value → Shared → Prop} {z : V} {u : Value} {s' : Shared} (hz : IsStr z) (r : RelV z u) (q : Q u s') : PySem.W.StrBack Q u s' := by
  obtain ⟨y, rfl⟩ := hz
  obtain ⟨t, rfl⟩ := (show ∃ t, u = Value.str y t from r)
  exact q
theorem call_reprO (hs : PySem.W.findIn X.K (.ref C) "__repr__" = some (some (.ref g))) (hf : PySem.W.isFn X.K (.ref g) = true)
    (F : FnOk X.prog X.w X.K X.mg X.base CX k g fd ps sp) (hr : Room (k + 1) X.A) (hb : Binds X.K fd ps []) (hx : Passes CX X E) : CallR X (.builtin "repr") (fun xs H Q => ∃ x, xs = [x] ∧ rOwn1 C sp E IsStr x H Q) := by
  intro pins s σ H xs us Q I rx h
  obtain ⟨x, rfl, a, dx, fs, rfl, ha, q⟩ := h
  obtain ⟨u, rfl, ru⟩ := vals1 rx
  cases (show u = Value.ref a from ru)
  obtain ⟨od, J⟩ := inst_at I ha
  obtain ⟨m, hF⟩ := I.fr
  refine PySem.W.repr_K hr.in1.units0 hF I.ok.mod.kin J hs hf ?_
  refine wpAny_mono (run_any (us := [.ref a]) (vs := [.ref a]) F hr.in1 I.env0.in1 hb hx I (.cons rfl .nil) q) (fun w s' z => ?_) fun _ _ e => e
  obtain ⟨z', H', I', rz, hz, qz⟩ := z
  exact strback hz rz ⟨z', H', I', rz, qz⟩
theorem call_strO (hs : PySem.W.findIn X.K (.ref C) "__str__" = some (some (.ref g))) (hf : PySem.W.isFn X.K (.ref g) = true)
    (F : FnOk X.prog X.w X.K X.mg X.base CX k g fd ps sp) (hr : Room (k + 2) X.A) (hb : Binds X.K fd ps []) (hx : Passes CX X E) : CallR X (.type "str") (fun xs H Q => ∃ x, xs = [x] ∧ rOwn1 C sp E IsStr x H Q) := by
  intro pins s σ H xs us Q I rx h
  obtain ⟨x, rfl, a, dx, fs, rfl, ha, q⟩ := h
  obtain ⟨u, rfl, ru⟩ := vals1 rx
  cases (show u = Value.ref a from ru)
  obtain ⟨od, J⟩ := inst_at I ha
  refine PySem.W.kso_call (room2 hr).units0 I.kIn J hs hf ?_
  refine wpAny_mono (run_any (us := [.ref a]) (vs := [.ref a]) F (room2 hr) I.env0.in1.in1 hb hx I (.cons rfl .nil) q) (fun w s' z => ?_) fun _ _ e => e
  obtain ⟨z', H', I', rz, hz, qz⟩ := z
  exact strback hz rz ⟨z', H', I', rz, qz⟩

open Builtin in
theorem bool_K {prog : Program} {w : World} {A : Around} {E : Value → Shared → Prop} {s : Shared} {K : PySem.W.Frag} {x C f : Addr} {ox : Obj} {od : Option Obj} {Q : Value → Shared → Prop} {m : Str → Option Value} {h₀ : Heap} {L : Addr} (F : PyProof.Rows.Fr h₀ L s.heap m) (Y : K.In h₀) (I : PySem.W.InstAt s.heap x ox C od)
    (hs : PySem.W.findIn K (.ref C) "__bool__" = some (some (.ref f))) (hf : PySem.W.isFn K (.ref f) = true)
    (h : wpAny (model prog w) A.in1.in1 (call (.ref f) [.ref x]) (PySem.W.BoolBack fun b s' => Q (.bool b) s') E s) : wpAny (model prog w) A (call (.type "bool") [.ref x]) Q E s := by
  refine callType_codes (T := "bool") (Bi := Builtin.«object.__init__») (Q₁ := fun r s₁ => ∃ y, r = .bool y ∧ Q r s₁) PySem.F.called_bool (PySem.F.typeCall_bool_1 _) PySem.F.entry_object_init ?_ ?_
  · refine codeAny_of_tree ?_
    show wpAny _ A.in1.in1 (do checkBuiltinCall "bool.__new__" ⟨[.type "bool", .ref x], []⟩; again (.builtin "bool.__new__" ⟨[.type "bool", .ref x], []⟩)) _ _ s
    refine wpAny_bind (wpAny_of_eq (PySem.F.newCall_bool_1 _) (wpAny_pure ⟨plainId_quiet (by decide +kernel) _, codeAny_builtin PySem.F.entry_bool_new ?_⟩))
    rw [Around.under_plainId (by decide +kernel) _]
    have key : wpAny (model prog w) A.in1.in1 (truthy (.ref x)) (fun b s₁ => Q (.bool b) s₁) E s := PySem.W.truthy_K F Y I hs hf h
    have f1 := PySem.F.conv_sub_bool
    obtain ⟨hp, gg, d, tk, os⟩ := s
    repeat (any_goals (first | assumption | (with_reducible refine wpAny_bind (wpAny_mono key (fun b s1 z => ?_) fun _ _ e => e)) | wp_step))
    all_goals first | exact ⟨_, rfl, z⟩ | exact ⟨_, rfl, _, rfl, z⟩ | skip
  · rintro obj s₁ ⟨y, rfl, hq⟩
    exact ⟨typeIs_bool _ _, PySem.F.args_object_init_2 _ _, object_init_meets PySem.F.called_bool.init.lookup PySem.F.called_bool.made (by decide) prog w A.in1 _ s₁ ⟨typeIs_bool _ _, rfl, hq⟩⟩
end
end OwnOps
end

-- OwnOps5
section
set_option Elab.async false
set_option linter.all false
set_option maxRecDepth 100000
namespace OwnOps
open PySem L2

section
variable {prog : Program} {w : World} {A : Around} {E : Value → Shared → Prop} {s : Shared} {K : PySem.W.Frag} {x C g : Addr} {ox : Obj} {od : Option Obj} {u : Value} {T : String}
/-- x op u by x's own def, u of a built-in type that is told by a look -/
theorem left_K {op : Operator} {fo ro rc : Option Value} {Q : Value → Shared → Prop} (Y : K.In s.heap) (I : PySem.W.InstAt s.heap x ox C od)
    (ht : PySem.W.Looks (model prog w) s.heap (typeOf u) (.type T)) (hc : PySem.W.selfFirst K C = true)
    (hs : PySem.W.findIn K (.ref C) (PySem.dunder op.info.2) = some (some (.ref g))) (hg : PySem.W.isFn K (.ref g) = true)
    (hrc : PySem.W.findIn K (.ref C) (PySem.dunderR op.info.2) = some rc) (hp : rc = none ∨ ∃ q : Addr, rc = some (.ref q))
    (hfo : PySem.W.findIn K (.type T) (PySem.dunder op.info.2) = some fo) (hro : PySem.W.findIn K (.type T) (PySem.dunderR op.info.2) = some ro) (hsub : PySem.W.subIn K (.type T) (.ref C) = some false)
    (h : wpAny (model prog w) A (call (.ref g) [.ref x, u]) (PySem.W.CmpBack Q) E s) : wpAny (model prog w) A (binaryOp op (.ref x) u) Q E s := by
  obtain ⟨dat, tl, hcd, hmro⟩ := PySem.W.ksp_first hc
  rcases hi : op.info with ⟨sy, nam⟩
  rw [hi] at hs hrc hfo hro
  dsimp only at hs hrc hfo hro
  have one := PySem.W.ksp_try Y I hs hg h
  obtain ⟨hh, gg, d, tt, os⟩ := s
  have M1 : PySem.W.Looks (model prog w) hh (typeOf (.ref x)) (.ref C) := I.type
  have M3 : PySem.W.Looks (model prog w) hh (fillsNumberSlot (.ref C) nam) true := PySem.W.fills_K Y hcd hmro hs
  have M4 : PySem.W.Looks (model prog w) hh (fillsNumberSlot (.type T) nam) ((fo.isSome && !isSeqSlot fo) || (ro.isSome && !isSeqSlot ro)) := PySem.W.ksp_fillsT Y hfo hro
  have M5 : PySem.W.Looks (model prog w) hh (isSubtype (.type T) (.ref C)) false := PySem.W.looks_subIn Y hsub
  have M6 : PySem.W.Looks (model prog w) hh (numberSlotInPython (.ref C) nam) true := PySem.W.ksp_inPy Y hs hrc hp
  have M7 : PySem.W.Looks (model prog w) hh (numberSlotInPython (.type T) nam) false := PySem.W.Looks.of_pure rfl
  have M8 : PySem.W.Looks (model prog w) hh (typeLookup (.type T) (PySem.dunderR nam)) ro := PySem.W.looks_findIn Y hro
  generalize ((fo.isSome && !isSeqSlot fo) || (ro.isSome && !isSeqSlot ro)) = fills at M4
  have differ : (Value.ref C == Value.type T) = false := Bool.eq_false_iff.mpr fun q => by cases beq_iff_eq.mp q
  simp only [binaryOp, hi]
  refine wpAny_holding (wpAny_bind ?_)
  unfold binaryOp1
  refine wpAny_bind (M1.at (wpAny_bind (ht.at (wpAny_bind (M3.at ?_)))))
  simp only [differ, Bool.false_eq_true, if_false]
  cases fills
  all_goals
    ksp_lk
    refine wpAny_mono one (fun r s' back => ?_) fun _ _ e => e
    obtain ⟨v, rfl, hq⟩ := back
    ksp_lk
    exact hq
end
end OwnOps
end

-- OwnNe
section
set_option Elab.async false
set_option linter.all false
set_option maxRecDepth 100000
/-! != of two lists that are equal item by item, by an own == too. -/
namespace OwnNe
open PySem PySem.SeqAt GQ
open AutoSeq1 (wpAny_loadPart')
open MeetsSeq MeetsSeq2 MeetsSeq3 SeqRoads2
section
variable {prog : Program} {w : World} {A : Around} {R : Result → Shared → Prop} {E : Value → Shared → Prop}
/-- the loop over the items, from i on: all are equal, so the answer is no -/
theorem loopN (l b : Addr) (N : Nat) (I : Nat → Shared → Prop) (hl : ListI prog w A (fun e s' => R (.error e) s') l b N I) (fin : ∀ s, I N s → R (.ok (.ret (.bool false))) s) :
    ∀ (k i : Nat), N - i = k → i ≤ N → ∀ s, I i s → wpAny (model prog w) A.in1 (Builtin.«list.__eq__.loop» ⟨[.ref l, .ref b, rawInt i, rawInt 3], []⟩) (FinOf prog w A R) (fun e s' => R (.error e) s') s
  | 0, i, hk, hi, s, h => by
    obtain ⟨xs, ys, n, n2, hl1, hb1, z1, z2, _⟩ := hl _ _ h
    have last : i = N := by omega
    have done : R (.ok (.ret (.bool false))) s := fin s (last ▸ h)
    obtain ⟨hp, g, d, tk, os⟩ := s
    wp_walk using wpAny_loadPart' hl1, wpAny_loadPart' hb1
    have no1 : xs[((i : Nat) : Int).toNat]? = none := by simp; omega
    have no2 : ys[((i : Nat) : Int).toNat]? = none := by simp; omega
    rw [no1, no2]
    wp_walk using wpAny_loadPart' hl1, wpAny_loadPart' hb1
    show R (.ok (.ret (.bool (xs.size != ys.size)))) _
    rw [z1, z2]
    simpa using done
  | k + 1, i, hk, hi, s, h => by
    obtain ⟨xs, ys, n, n2, hl1, hb1, z1, z2, one⟩ := hl _ _ h
    have lt1 : i < xs.size := by omega
    have lt2 : i < ys.size := by omega
    have here := one lt1 lt2
    obtain ⟨hp, g, d, tk, os⟩ := s
    wp_walk using wpAny_loadPart' hl1, wpAny_loadPart' hb1
    have is1 : xs[((i : Nat) : Int).toNat]? = some xs[i] := by simp [lt1]
    have is2 : ys[((i : Nat) : Int).toNat]? = some ys[i] := by simp [lt2]
    have up : ((i : Int) + 1) = ((i + 1 : Nat) : Int) := by omega
    rw [is1, is2]
    refine wpAny_bind (wpAny_mono here (fun r s2 q => ?_) fun _ _ x => x)
    obtain ⟨hr, q⟩ := q
    subst hr
    have rest := loopN l b N I hl fin k (i + 1) (by omega) (by omega) s2 q
    obtain ⟨hp2, g2, d2, tk2, os2⟩ := s2
    wp_walk
    rw [up]
    exact ⟨plainId_quiet plain_eq_loop _, codeAny_builtin entry_eq_loop (by rw [Around.under_plainId plain_eq_loop _] <;> exact rest)⟩
theorem listN (l b : Addr) (N : Nat) (I : Nat → Shared → Prop) (hl : ListI prog w A (fun e s' => R (.error e) s') l b N I) (fin : ∀ s, I N s → R (.ok (.ret (.bool false))) s) {s : Shared} (h : I 0 s) :
    wpAny (model prog w) A.in1 (Builtin.«list.__ne__» ⟨[.ref l, .ref b], []⟩) (FinOf prog w A R) (fun e s' => R (.error e) s') s := by
  obtain ⟨xs, ys, n, n2, hl1, hb1, z1, z2, _⟩ := hl _ _ h
  have rest := loopN (A := A) (R := R) l b N I hl fin _ 0 rfl (Nat.zero_le _) s h
  obtain ⟨hp, g, d, tk, os⟩ := s
  have sub := AutoSeq1.sub_list_list
  have same : ¬ (xs.size != ys.size) = true := by simp [z1, z2]
  wp_walk using wpAny_loadPart' hl1, wpAny_loadPart' hb1
  exact ⟨plainId_quiet plain_eq_loop _, codeAny_builtin entry_eq_loop (by rw [Around.under_plainId plain_eq_loop _] <;> exact rest)⟩
theorem rcN {l b : Addr} {N : Nat} {Q : Value → Shared → Prop} {s : Shared} (hu : A.units < cLine) (I : Nat → Shared → Prop) (hl : ListI prog w A E l b N I)
    (fin : ∀ s, I N s → Q (.bool false) s) (h : I 0 s) : wpAny (model prog w) A (richCompare .NotEq (.ref l) (.ref b)) Q E s := by
  obtain ⟨xs, ys, n, n2, hl1, hb1, _, _, _⟩ := hl _ _ h
  refine wpAny_richCompare_same_room (op := .NotEq) ⟨_, hl1, rfl⟩ ⟨_, hb1, rfl⟩ F.slot_list_ne (call_here F.slot_list_ne ⟨_, hl1, rfl⟩ F.entry_list_ne (F.args_list_ne_2 _ _) ?_) hu
  exact listN (R := wants (fun v s' => v ≠ .notImplemented ∧ Q v s') E) l b N I hl (fun s' q => ⟨(fun x => nomatch x), fin s' q⟩) h
end
open L2
/-- x != y of two lists, item by item equal -/
def rNeG (D : Eqv) : R2 := fun x y H Q => DList D x y H ∧ ∀ H', Ext H H' → Q (.bl false) H'
theorem op_neG {X : Cx} {n : Nat} {D : Eqv} (hD : Mon D) (h : EqG X n D) (hr : Room (n + 1) X.A) : OpR X (compareOp .NotEq) (rNeG D) := by
  intro pins s σ H x y v u Q I rx ry hq
  obtain ⟨⟨a, b, xs, ys, rfl, rfl, ha, hb, p⟩, q⟩ := hq
  cases rx
  cases ry
  have sb : Sub X (n + 1) X.A := ⟨hr, rfl⟩
  show wpAny (model X.prog X.w) X.A (richCompare .NotEq (.ref a) (.ref b)) (EP X pins σ Q) X.xe s
  refine rcN (N := xs.length) hr.units0 (fun _ s' => LoopI X pins σ H s') (fun i s' z => ?_) (fun s' ⟨H', I', e⟩ => ⟨.bl false, H', I', rfl, q H' e⟩) ⟨H, I, Ext.rfl'⟩
  obtain ⟨H1, I1, e1⟩ := id z
  obtain ⟨zz, its, k, r, e⟩ := I1.hok a _ (e1 _ _ ha)
  obtain ⟨zz2, its2, k2, r2, e2⟩ := I1.hok b _ (e1 _ _ hb)
  refine ⟨its.toArray, its2.toArray, k, k2, e, e2, by rw [List.size_toArray, ← r.length], by rw [List.size_toArray, ← r2.length, ← p.1], fun h1 h2 => ?_⟩
  exact turnG hD h sb p r r2 i h1 h2 s' z
/-- the same thing -/
def DSame : Eqv := fun x y _ => x = y ∧ ∃ a, x = .ref a
theorem mon_same : Mon DSame := fun _ _ _ _ _ d => d
theorem eqG_same {X : Cx} {n : Nat} : EqG X n DSame := by
  intro A pins s σ H x y u v sb I rx ry d
  obtain ⟨rfl, a, rfl⟩ := d
  cases rx
  cases ry
  exact SeqAt.EqAt.same (A := A) (s := s) (.ref a) X.prog X.w X.xe _ ⟨rfl, H, I, Ext.rfl'⟩
end OwnNe
end

-- OwnNe2
section
set_option Elab.async false
set_option linter.all false
set_option maxRecDepth 100000
namespace OwnNe
open PySem L2
def rNeEmp : R2 := fun x y H Q => ∃ l b xs, x = .ref l ∧ y = .ref b ∧ H l = some (.lst xs) ∧ H b = some (.lst []) ∧ Q (.bl (!xs.isEmpty)) H
/-- a list != [] -/
theorem op_neEmp {X : Cx} (hu : X.A.units < cLine) : OpR X (compareOp .NotEq) rNeEmp := by
  intro pins s σ H x y v u Q I rx ry h
  obtain ⟨l, b, xs, rfl, rfl, hl, hb, q⟩ := h
  cases rx
  cases ry
  obtain ⟨_, its, n, r, _, e⟩ := I.lstM hl
  obtain ⟨_, its2, n2, r2, _, e2⟩ := I.lstM hb
  cases r2
  have L1 : s.heap.IsList l its.toArray := ⟨_, e, rfl, n, rfl⟩
  have L2' : s.heap.IsList b ([] : List Value).toArray := ⟨_, e2, rfl, n2, rfl⟩
  show wpAny (model X.prog X.w) X.A (richCompare .NotEq (.ref l) (.ref b)) (EP X pins σ Q) X.xe s
  cases r with
  | nil => exact PySem.SeqAt.RcNeAt.lists (e := fun _ => true) L1 L2' rfl hu (fun j h1 _ => absurd h1 (by simp)) X.prog X.w X.xe _ ⟨.bl false, H, I, rfl, q⟩
  | cons a r => exact PySem.SeqAt.RcNeAt.lists_lengths L1 L2' (by simp) hu X.prog X.w X.xe _ ⟨.bl true, H, I, rfl, q⟩
end OwnNe
end

-- OwnNe3
section
set_option Elab.async false
set_option linter.all false
set_option maxRecDepth 100000
/-! Either of two rules; != by an own == alone; == of two lists, told as a truth. -/
namespace OwnNe
open PySem PySem.SeqAt GQ L2 OwnOps
open AutoSeq1 (wpAny_loadPart')
open MeetsSeq MeetsSeq2 MeetsSeq3 SeqRoads2
theorem op_or {X : Cx} {f : Value → Value → Sem Value} {r1 r2 : R2} (h1 : OpR X f r1) (h2 : OpR X f r2) : OpR X f (fun x y H Q => r1 x y H Q ∨ r2 x y H Q) := by
  intro pins s σ H x y v u Q I rx ry h
  rcases h with h | h
  · exact h1 pins s σ H x y v u Q I rx ry h
  · exact h2 pins s σ H x y v u Q I rx ry h
section
variable {prog : Program} {w : World} {A : Around} {E : Value → Shared → Prop} {s : Shared} {K : PySem.W.Frag} {x C L f : Addr} {h₀ : Heap} {m : Str → Option Value} {ox : Obj} {od : Option Obj} {b tb : Value}
theorem entry_ne {Q : Fin → Shared → Prop} (hu : A.units < cLine) (X : K.In s.heap) (I : PySem.W.InstAt s.heap x ox C od) (he : PySem.W.findIn K (.ref C) "__eq__" = some (some (.ref f))) (hf : PySem.W.isFn K (.ref f) = true)
    (h : wpAny (model prog w) A (call (.ref f) [.ref x, b]) (fun v s' => ∃ r, v = .bool r ∧ Q (.done (.ret (.bool (!r)))) s') E s) :
    wpAny (model prog w) A (Builtin.«object.__ne__» ⟨[.ref x, b], []⟩) Q E s := by
  unfold Builtin.«object.__ne__»
  repeat (first
    | with_reducible refine wpAny_cRoomFor hu ?_
    | (refine wpAny_bind (m := callSpecialIfBound? (.ref x) (Str.ofString "__eq__") [b])
        (PySem.W.ifBound_K X I he hf (wpAny_mono h (fun r s' hr => by
          obtain ⟨b, rfl, hq⟩ := hr
          repeat (first | exact hq | exact wpAny_pure hq | exact wpAny_truthy_bool hq | (refine wpAny_bind (m := truthy (.bool _)) (wpAny_truthy_bool ?_)) | wp_step)) fun _ _ e => e)))
    | wp_step)
theorem ifBound_ne {M : Model} {args : List Value} {Q : Option Value → Shared → Prop} (X : K.In s.heap) (I : PySem.W.InstAt s.heap x ox C od) (hs : PySem.W.findIn K (.ref C) "__ne__" = some (some (.builtin "object.__ne__")))
    (h : wpAny M A (call (.builtin "object.__ne__") (.ref x :: args)) (fun v => Q (some v)) E s) : wpAny M A (callSpecialIfBound? (.ref x) "__ne__" args) Q E s := by
  simp only [callSpecialIfBound?, bindSpecialIfBound?]
  refine wpAny_holding (wpAny_bind (wpAny_bind (wpAny_bind (I.type.here ((PySem.W.looks_findIn X hs).here ?_)))))
  refine wpAny_bind (wpAny_askSetting (wpAny_ite ?_))
  have fin : wpAny M A (call (.builtin "object.__ne__") ([.ref x] ++ args) >>= fun v => pure (some v)) Q E s := wpAny_bind (wpAny_mono h (fun v s' h' => wpAny_pure h') fun _ _ h' => h')
  split
  · exact wpAny_bind (wpAny_of_eq (F.cmp_object.ne.bind _) (wpAny_pure (by exact fin)))
  · exact wpAny_tryCatch (wpAny_bind (wpAny_of_eq (F.cmp_object.ne.bind _) (wpAny_pure (by exact fin))))
/-- x != b by x's own ==: the class has no != of its own -/
theorem rc_neK {Q : Value → Shared → Prop} (hu : A.units + 1 < cLine) (X : K.In s.heap) (I : PySem.W.InstAt s.heap x ox C od) (hb : PySem.W.Looks (model prog w) s.heap (typeOf b) tb) (hn : PySem.W.notFirst K C tb = true)
    (hm : PySem.W.mroIn K C (.type "object") = some true) (hs : PySem.W.findIn K (.ref C) "__ne__" = some (some (.builtin "object.__ne__"))) (he : PySem.W.findIn K (.ref C) "__eq__" = some (some (.ref f))) (hf : PySem.W.isFn K (.ref f) = true)
    (h : wpAny (model prog w) A.in1 (call (.ref f) [.ref x, b]) (fun v s' => ∃ r, v = .bool r ∧ Q (.bool (!r)) s') E s) : wpAny (model prog w) A (richCompare .NotEq (.ref x) b) Q E s := by
  have one : wpAny (model prog w) A (tryCompare (.ref x) (cmpInfo .NotEq).2.1 b) (fun r s' => ∃ v, r = some v ∧ Q v s') E s := by
    show wpAny (model prog w) A (tryCompare (.ref x) "__ne__" b) _ E s
    unfold tryCompare
    refine wpAny_bind (ifBound_ne X I hs (wpAny_call (codeAny_call_builtin F.cmp_object.ne.plain F.cmpEntry_ne
      (PySem.W.check_slot F.cmpKind_ne F.cmpSplit_ne (I.type.andThen (PySem.W.looks_mroIn X hm)) (F.cmpArgs_ne _ _) (entry_ne (A := A.in1) hu X I he hf (wpAny_mono h (fun v s' hv => ?_) fun _ _ e => e))))))
    obtain ⟨r, rfl, q⟩ := hv
    first
      | exact ⟨r, rfl, wpAny_pure ⟨_, rfl, q⟩⟩
      | exact ⟨r, rfl, wpAny_pure (wpAny_pure ⟨_, rfl, q⟩)⟩
      | exact ⟨r, rfl, ⟨_, rfl, q⟩⟩
  unfold richCompare
  simp only [oneThing_ref]
  refine wpAny_holding (wpAny_bind (wpAny_cRoomFor (by omega) ?_))
  refine wpAny_bind (I.type.here (wpAny_bind (hb.here ?_)))
  split
  · rename_i q
    have e : PySem.W.subIn K tb (.ref C) = some false := by
      rcases Bool.or_eq_true_iff.mp hn with e | e
      · rw [beq_iff_eq.mp e] at q; simp at q
      · exact beq_iff_eq.mp e
    refine wpAny_bind ((PySem.W.looks_subIn X e).here ?_)
    simp only [Bool.false_eq_true, if_false]
    refine wpAny_bind (wpAny_mono one (fun r s' z => ?_) fun _ _ e => e)
    obtain ⟨v, rfl, hq⟩ := z
    exact wpAny_pure hq
  · refine wpAny_bind (wpAny_pure ?_)
    simp only [Bool.false_eq_true, if_false]
    refine wpAny_bind (wpAny_mono one (fun r s' z => ?_) fun _ _ e => e)
    obtain ⟨v, rfl, hq⟩ := z
    exact wpAny_pure hq
end
/-- x != y by x's own == -/
def rNeOwn (C : Addr) (R : V → Hp → Prop) (sp : Sp) (E : XK) : R2 := fun x y H Q => ∃ a dx fs, x = .ref a ∧ H a = some (.ins C dx fs) ∧ R y H ∧ sp [x, y] H (fun v H' => ∃ r, v = .bl r ∧ Q (.bl (!r)) H') E
theorem op_neOwn {X : Cx} {CX : CXT} {C g : Addr} {k : Nat} {fd : FuncData} {ps : List Str} {sp : Sp} {E : XK} (hm : PySem.W.mroIn X.K C (.type "object") = some true) (hn : PySem.W.findIn X.K (.ref C) "__ne__" = some (some (.builtin "object.__ne__")))
    (hs : PySem.W.findIn X.K (.ref C) "__eq__" = some (some (.ref g))) (hf : PySem.W.isFn X.K (.ref g) = true)
    (F : FnOk X.prog X.w X.K X.mg X.base CX k g fd ps sp) (hr : Room (k + 1) X.A) (hb : Binds X.K fd ps []) (hx : Passes CX X E)
    {R : V → Hp → Prop} (hR : ∀ {y : V} {H : Hp} {u : Value} {pins : List (Addr × Obj)} {σ : L2.St} {s : Shared}, L2.Inv X pins σ H s → R y H → RelV y u → ∃ tb, PySem.W.Looks (model X.prog X.w) s.heap (typeOf u) tb ∧ PySem.W.notFirst X.K C tb = true) :
    OpR X (compareOp .NotEq) (rNeOwn C R sp E) := by
  intro pins s σ H x y v u Q I rx ry h
  obtain ⟨a, dx, fs, rfl, ha, hy, q⟩ := h
  cases (show v = Value.ref a from rx)
  obtain ⟨od, J⟩ := inst_at I ha
  obtain ⟨tb, ht, hn2⟩ := hR I hy ry
  show wpAny (model X.prog X.w) X.A (richCompare .NotEq (.ref a) u) (EP X pins σ Q) X.xe s
  refine rc_neK (show X.A.units + 1 < cLine from hr.in1.units0) I.kIn J ht hn2 hm hn hs hf ?_
  refine wpAny_mono (run_any (us := [.ref a, u]) (vs := [.ref a, y]) F hr.in1 I.env0.in1 hb hx I (.cons rfl (.cons ry .nil)) q) (fun w s' z => ?_) fun _ _ e => e
  obtain ⟨z', H', I', rz, r, rfl, qz⟩ := id z
  cases (show w = Value.bool r from rz)
  exact ⟨r, rfl, .bl (!r), H', I', rfl, qz⟩
section
variable {prog : Program} {w : World} {A : Around} {R : Result → Shared → Prop} {E : Value → Shared → Prop}
/-- at each turn the two lists are read anew: N items each, the i-th two equal as r i says -/
def ListB (prog : Program) (w : World) (A : Around) (E : Value → Shared → Prop) (l b : Addr) (N : Nat) (r : Nat → Bool) (I : Nat → Shared → Prop) : Prop :=
  ∀ i s, I i s → ∃ (xs ys : Array Value) (n n2 : Nat), s.heap.get? l = some { cls := .type "list", data := .seq xs n } ∧ s.heap.get? b = some { cls := .type "list", data := .seq ys n2 } ∧ xs.size = N ∧ ys.size = N ∧
    ∀ (h1 : i < xs.size) (h2 : i < ys.size), wpAny (model prog w) A.in1 (eqBool xs[i] ys[i]) (fun q s' => q = r i ∧ I (i + 1) s') E s
theorem loopB (l b : Addr) (N : Nat) (r : Nat → Bool) (I : Nat → Shared → Prop) (hl : ListB prog w A (fun e s' => R (.error e) s') l b N r I)
    (fin : (∀ j, j < N → r j = true) → ∀ s, I N s → R (.ok (.ret (.bool true))) s) (bad : ∀ j, j < N → r j = false → ∀ s, I (j + 1) s → R (.ok (.ret (.bool false))) s) :
    ∀ (k i : Nat), N - i = k → i ≤ N → (∀ j, j < i → r j = true) → ∀ s, I i s → wpAny (model prog w) A.in1 (Builtin.«list.__eq__.loop» ⟨[.ref l, .ref b, rawInt i, rawInt 2], []⟩) (FinOf prog w A R) (fun e s' => R (.error e) s') s
  | 0, i, hk, hi, all, s, h => by
    obtain ⟨xs, ys, n, n2, hl1, hb1, z1, z2, _⟩ := hl _ _ h
    have last : i = N := by omega
    have done : R (.ok (.ret (.bool true))) s := fin (fun j hj => all j (by omega)) s (last ▸ h)
    obtain ⟨hp, g, d, tk, os⟩ := s
    wp_walk using wpAny_loadPart' hl1, wpAny_loadPart' hb1
    have no1 : xs[((i : Nat) : Int).toNat]? = none := by simp; omega
    have no2 : ys[((i : Nat) : Int).toNat]? = none := by simp; omega
    rw [no1, no2]
    wp_walk using wpAny_loadPart' hl1, wpAny_loadPart' hb1
    show R (.ok (.ret (.bool (xs.size == ys.size)))) _
    rw [z1, z2]
    simpa using done
  | k + 1, i, hk, hi, all, s, h => by
    obtain ⟨xs, ys, n, n2, hl1, hb1, z1, z2, one⟩ := hl _ _ h
    have lt1 : i < xs.size := by omega
    have lt2 : i < ys.size := by omega
    have here := one lt1 lt2
    obtain ⟨hp, g, d, tk, os⟩ := s
    wp_walk using wpAny_loadPart' hl1, wpAny_loadPart' hb1
    have is1 : xs[((i : Nat) : Int).toNat]? = some xs[i] := by simp [lt1]
    have is2 : ys[((i : Nat) : Int).toNat]? = some ys[i] := by simp [lt2]
    have up : ((i : Int) + 1) = ((i + 1 : Nat) : Int) := by omega
    rw [is1, is2]
    refine wpAny_bind (wpAny_mono here (fun q s2 hq => ?_) fun _ _ x => x)
    obtain ⟨hr, hq⟩ := hq
    subst hr
    cases hb : r i with
    | true =>
      have rest := loopB l b N r I hl fin bad k (i + 1) (by omega) (by omega) (fun j hj => if e : j = i then by rw [e]; exact hb else all j (by omega)) s2 hq
      obtain ⟨hp2, g2, d2, tk2, os2⟩ := s2
      wp_walk
      rw [up]
      exact ⟨plainId_quiet plain_eq_loop _, codeAny_builtin entry_eq_loop (by rw [Around.under_plainId plain_eq_loop _] <;> exact rest)⟩
    | false =>
      have done := bad i (by omega) hb s2 hq
      obtain ⟨xs2, ys2, m, m2, hl2, hb2, z3, z4, _⟩ := hl _ _ hq
      have is3 : xs2[((i : Nat) : Int).toNat]? = some (xs2[i]'(by omega)) := by
        have : i < xs2.size := by omega
        simp [this]
      have is4 : ys2[((i : Nat) : Int).toNat]? = some (ys2[i]'(by omega)) := by
        have : i < ys2.size := by omega
        simp [this]
      obtain ⟨hp2, g2, d2, tk2, os2⟩ := s2
      wp_walk using wpAny_loadPart' hl2, wpAny_loadPart' hb2
      rw [is3, is4]
      wp_walk
      exact done
theorem listB (l b : Addr) (N : Nat) (r : Nat → Bool) (I : Nat → Shared → Prop) (hl : ListB prog w A (fun e s' => R (.error e) s') l b N r I)
    (fin : (∀ j, j < N → r j = true) → ∀ s, I N s → R (.ok (.ret (.bool true))) s) (bad : ∀ j, j < N → r j = false → ∀ s, I (j + 1) s → R (.ok (.ret (.bool false))) s) {s : Shared} (h : I 0 s) :
    wpAny (model prog w) A.in1 (Builtin.«list.__eq__» ⟨[.ref l, .ref b], []⟩) (FinOf prog w A R) (fun e s' => R (.error e) s') s := by
  obtain ⟨xs, ys, n, n2, hl1, hb1, z1, z2, _⟩ := hl _ _ h
  have rest := loopB (A := A) (R := R) l b N r I hl fin bad _ 0 rfl (Nat.zero_le _) (fun j hj => absurd hj (by omega)) s h
  obtain ⟨hp, g, d, tk, os⟩ := s
  have sub := AutoSeq1.sub_list_list
  have same : ¬ (xs.size != ys.size) = true := by simp [z1, z2]
  wp_walk using wpAny_loadPart' hl1, wpAny_loadPart' hb1
  exact ⟨plainId_quiet plain_eq_loop _, codeAny_builtin entry_eq_loop (by rw [Around.under_plainId plain_eq_loop _] <;> exact rest)⟩
theorem rcB {l b : Addr} {N : Nat} {Q : Value → Shared → Prop} {s : Shared} (hu : A.units < cLine) (r : Nat → Bool) (I : Nat → Shared → Prop) (hl : ListB prog w A E l b N r I)
    (fin : (∀ j, j < N → r j = true) → ∀ s, I N s → Q (.bool true) s) (bad : ∀ j, j < N → r j = false → ∀ s, I (j + 1) s → Q (.bool false) s) (h : I 0 s) : wpAny (model prog w) A (richCompare .Eq (.ref l) (.ref b)) Q E s := by
  obtain ⟨xs, ys, n, n2, hl1, hb1, _, _, _⟩ := hl _ _ h
  refine wpAny_richCompare_same_room (op := .Eq) ⟨_, hl1, rfl⟩ ⟨_, hb1, rfl⟩ F.slot_list_eq (call_here F.slot_list_eq ⟨_, hl1, rfl⟩ F.entry_list_eq (F.args_list_eq_2 _ _) ?_) hu
  exact listB (R := wants (fun v s' => v ≠ .notImplemented ∧ Q v s') E) l b N r I hl (fun a s' q => ⟨(fun x => nomatch x), fin a s' q⟩) (fun j a b s' q => ⟨(fun x => nomatch x), bad j a b s' q⟩) h
end
/-- == gives what D says, and only makes objects -/
def EqB (X : Cx) (n : Nat) (D : V → V → Hp → Bool → Prop) : Prop :=
  ∀ (A : Around) (pins : List (Addr × Obj)) (s : Shared) (σ : L2.St) (H : Hp) (x y : V) (u v : Value) (b : Bool), Sub X n A → Inv X pins σ H s → RelV x u → RelV y v → D x y H b →
    wpAny (model X.prog X.w) A (eqBool u v) (fun r s' => r = b ∧ ∃ H', Inv X pins σ H' s' ∧ Ext H H') X.xe s
theorem EqB.eqG {X : Cx} {n : Nat} {D : V → V → Hp → Bool → Prop} (h : EqB X n D) : EqG X n (fun x y H => D x y H true) := fun A pins s σ H x y u v sb I rx ry d => h A pins s σ H x y u v true sb I rx ry d
/-- x == y of two lists of the same length -/
def rEqB (D : V → V → Hp → Bool → Prop) : R2 := fun x y H Q => ∃ a b xs ys, x = .ref a ∧ y = .ref b ∧ H a = some (.lst xs) ∧ H b = some (.lst ys) ∧ xs.length = ys.length ∧ ∃ r : Nat → Bool,
  (∀ (i : Nat) x y, xs[i]? = some x → ys[i]? = some y → D x y H (r i)) ∧ ∀ H' c, Ext H H' → (c = true ↔ ∀ j, j < xs.length → r j = true) → Q (.bl c) H'
theorem op_eqB {X : Cx} {n : Nat} {D : V → V → Hp → Bool → Prop} (hD : ∀ x y H H' b, Ext H H' → D x y H b → D x y H' b) (h : EqB X n D) (hr : Room (n + 1) X.A) : OpR X (compareOp .Eq) (rEqB D) := by
  intro pins s σ H x y v u Q I rx ry hq
  obtain ⟨a, b, xs, ys, rfl, rfl, ha, hb, len, r, p, q⟩ := hq
  cases rx
  cases ry
  have sb : Sub X (n + 1) X.A := ⟨hr, rfl⟩
  show wpAny (model X.prog X.w) X.A (richCompare .Eq (.ref a) (.ref b)) (EP X pins σ Q) X.xe s
  refine rcB (N := xs.length) hr.units0 r (fun _ s' => LoopI X pins σ H s') (fun i s' z => ?_) (fun al s' ⟨H', I', e⟩ => ⟨.bl true, H', I', rfl, q H' true e ⟨fun _ => al, fun _ => rfl⟩⟩)
    (fun j hj rj s' ⟨H', I', e⟩ => ⟨.bl false, H', I', rfl, q H' false e ⟨fun z => (nomatch z), fun al => by rw [al j hj] at rj; cases rj⟩⟩) ⟨H, I, Ext.rfl'⟩
  obtain ⟨H1, I1, e1⟩ := id z
  obtain ⟨zz, its, k, rr, e⟩ := I1.hok a _ (e1 _ _ ha)
  obtain ⟨zz2, its2, k2, rr2, e2⟩ := I1.hok b _ (e1 _ _ hb)
  refine ⟨its.toArray, its2.toArray, k, k2, e, e2, by rw [List.size_toArray, ← rr.length], by rw [List.size_toArray, ← rr2.length, ← len], fun h1 h2 => ?_⟩
  have g1 : its[i]? = some its.toArray[i] := by
    have h1' : i < its.length := by simpa using h1
    rw [List.getElem?_eq_getElem h1'] <;> simp
  have g2 : its2[i]? = some its2.toArray[i] := by
    have h2' : i < its2.length := by simpa using h2
    rw [List.getElem?_eq_getElem h2'] <;> simp
  have k1 : i < xs.length := by rw [rr.length]; simpa using h1
  have k3 : i < ys.length := by rw [rr2.length]; simpa using h2
  obtain ⟨u, hu, ru⟩ := rr.get (List.getElem?_eq_getElem k1)
  obtain ⟨v, hv, rv⟩ := rr2.get (List.getElem?_eq_getElem k3)
  rw [g1] at hu
  rw [g2] at hv
  rw [Option.some.inj hu, Option.some.inj hv]
  refine wpAny_mono (h X.A.in1 pins s' σ H1 _ _ u v _ sb.in1 I1 ru rv (hD _ _ _ _ _ e1 (p i _ _ (List.getElem?_eq_getElem k1) (List.getElem?_eq_getElem k3)))) (fun r' s2 q' => ?_) fun _ _ x => x
  obtain ⟨hr', H2, I2, e2'⟩ := q'
  exact ⟨hr', H2, I2, e1.trans e2'⟩
end OwnNe
end

-- TryAs
section
set_option Elab.async false
set_option linter.all false
set_option maxRecDepth 100000
/-! try: with several clauses «except X as n». -/
namespace TryAs
open PySem L2
/-- the ends of a clause's suite: slot i is emptied on every way out -/
def endsAs (D : Ends) (i : Nat) : Ends where
  nx := fun t K => D.nx (t.set i none) K
  rt := D.rt
  bk := fun t K => D.bk (t.set i none) K
  ct := fun t K => D.ct (t.set i none) K
abbrev Cl := Value × Nat × (Addr → Value → Option Addr → TS)
def wAll (K : PySem.W.Frag) (Wout : WX) (D : Ends) : List Cl → WX
  | [] => Wout
  | (c, i, ts) :: r => fun cls d σ H => ∃ b, PySem.W.exmOne K cls c = some b ∧
      (b = true → ∀ a, H a = none → ts a cls d (endsAs D i) (σ.set i (some (.ref a))) H) ∧ (b = false → wAll K Wout D r cls d σ H)
inductive Clauses (X : Cx) : List ExceptHandler → List Cl → Prop
  | nil : Clauses X [] []
  | cons {x n : Str} {c : Value} {i : Nat} {ts : Addr → Value → Option Addr → TS} {fst : Stmt} {suite : List Stmt} {np hpos : Pos} {hds : List ExceptHandler} {l : List Cl}
      (at_ : X.N[i]? = some n) (loc : X.env.kindOf n = some .local) (nam : Names X x c)
      (run : ∀ (a : Addr) (oe : Obj) (cls : Value) (d : Option Addr) (pn : List (Addr × Obj)), Zc cls d oe → (∃ vs, oe.data = .fields vs) → PSs (X.suite a ((a, oe) :: pn)) (fst :: suite) (ts a cls d))
      (more : Clauses X hds l) : Clauses X (.ExceptHandler (some (.Name x np)) (some n) (fst :: suite) hpos :: hds) ((c, i, ts) :: l)
section
variable {X : Cx} {body : List Stmt} {hd0 : ExceptHandler} {hds : List ExceptHandler} {l : List Cl} {pos : Pos} {tb : WX → TS} {Wout : WX}
theorem ps_try_all (stk : X.stack = X.env :: X.outer) (frm : X.env.frame = some X.env.locals) (nod : X.N.Nodup) (tk : Takes X Wout)
    (hb : ∀ (W : WX) (pn : List (Addr × Obj)) (xe : Value → Shared → Prop), Takes (X.tr pn xe) W → PassesOwn (model X.prog X.w) X.A X.env xe → PSs (X.tr pn xe) body (tb W))
    (cl : Clauses X (hd0 :: hds) l) : PS X (.Try body (hd0 :: hds) [] [] pos) (fun D σ H => tb (wAll X.K Wout D l) D σ H) := by
  constructor
  intro pins s σ H D I h
  have okX := I.ok
  have frs2 : X.A.frames = some (X.env :: X.outer) := by rw [okX.frames, stk]
  refine wpAny_Try_except ?_
  refine wpAny_mono ((hb (wAll X.K Wout D l) (X.pn ++ pins)
    (fun e s₁ => wpAny (model X.prog X.w) X.A (noteFrame e X.env)
      (fun _ s₂ => wpAny (model X.prog X.w) X.A (setFlight e none)
        (fun _ s₃ => wpAny (model X.prog X.w) X.A (handleBy e X.env (hd0 :: hds)) (SP X pins D) X.xe s₃) X.xe s₂) X.xe s₁)
    (fun u s' xx => ?_) PassesOwn.looking).run [] s σ H D (I.toTry _) h) (fun f s1 hsp => ?_) (fun e s1 he => he)
  · obtain ⟨a, B, sI, pins1, σ1, H1, cls, d, rfl, J0, nb, up, sky, na, os, ag, w⟩ := xx
    have J1 : L2.Inv X pins σ1 H1 sI := J0.ofTry okX
    have sky1 : Sky B (X.env :: X.outer) a (Zc cls d) X.env.locals s'.heap := by rw [← stk]; exact sky
    show wpAny (model X.prog X.w) X.A (noteFrame (.ref a) X.env) _ _ _
    refine Sky.land Zc.steady frs2 frm sky1 fun h3 fl3 up3 => ?_
    have J3 : L2.Inv X pins σ1 H1 { s' with heap := h3 } := J1.landed nb fl3.1 (up.trans up3) os ag
    obtain ⟨oe3, vs3, he3, hz3, hd3⟩ := fl3.there
    have apart : a ∉ frs (X.env :: X.outer) := fun hm => by
      obtain ⟨_, o', e', hnf⟩ := fl3.2.2.1.mem hm
      have q : some o' = some oe3 := e'.symm.trans he3
      cases q
      exact hnf _ hd3
    have notL : a ≠ X.env.locals := fun z => apart (List.mem_filterMap.mpr ⟨X.env, List.mem_cons_self, by rw [frm, z]⟩)
    have notF : a ∉ X.fs := fun hm => by
      obtain ⟨e, he, q⟩ := List.mem_filterMap.mp hm
      exact apart (List.mem_filterMap.mpr ⟨e, List.mem_cons_of_mem _ he, q⟩)
    have S3 := J3.suite he3 hd3 na notL notF
    have go : ∀ {hs2 : List ExceptHandler} {l2 : List Cl}, Clauses X hs2 l2 → wAll X.K Wout D l2 cls d σ1 H1 →
        wpAny (model X.prog X.w) X.A (handleBy (.ref a) X.env hs2) (SP X pins D) X.xe { s' with heap := h3 } := by
      intro hs2 l2 hk
      induction hk with
      | nil =>
        intro w
        refine wpAny_handleBy_nil ?_
        obtain ⟨k1, k2, k3, oe, vs, T, oT, ts', he, hz, hd, h1, hr⟩ := id fl3
        unfold PySem.passOn
        refine wpAny_bind (wpAny_field he hd h1 ?_)
        have tn : ¬ ((Value.ref T == Value.none) = true) := by simp
        rw [if_neg tn]
        have fin : wpAny (model X.prog X.w) X.A (setFlight (.ref a) X.env.frame) (fun _ s4 => wpAny (model X.prog X.w) X.A (throw (.ref a) : Sem Flow) (SP X pins D) X.xe s4) X.xe { s' with heap := h3 } := by
          rw [frm]
          refine HandSPX.setFlight_upZ fl3 fun h4 hh4 up4 => wpAny_throw (tk _ _ ?_)
          exact ⟨a, B, sI, pins, σ1, H1, cls, d, rfl, J1, nb, (up.trans up3).trans up4, .inr (.inr (by rw [stk]; exact hh4)), na, os, ag, w⟩
        first | exact (wpAny_bind (wpAny_pure (wpAny_bind fin))) | exact (wpAny_bind fin)
      | @cons x n c i ts fst suite np hpos hs3 l3 at_ loc nam run more ih =>
        intro w
        obtain ⟨b, hb1, yes, no⟩ := w
        have slot : Loc X.env.scope n := .inl loc
        refine wpAny_handleBy_cons (codeAny_handlers_test ?_) (by intro q; cases q)
        have Lty : PySem.W.Looks (model X.prog X.w) h3 (typeOf (.ref a)) cls := fun A Q E s k q => wpAny_typeOf_ref (k _ _ he3) (by rw [hz3.1]; exact q)
        have Lex := PySem.W.exm_one (M := model X.prog X.w) (J3.kIn) Lty hb1
        have tst : ∀ {Q : Value → Shared → Prop} {E : Value → Shared → Prop}, Q c { s' with heap := h3 } → wpAny (model X.prog X.w) (X.A.mark (some (.ref a))) (eval (.Name x np) X.env) Q E { s' with heap := h3 } := fun {Q E} q => by
          obtain ⟨hg, ndb, hm | ⟨hm, hv, nn⟩⟩ := nam
          · exact (ld_glob (X := X.suite a ((a, oe3) :: (X.pn ++ pins))) S3 hg hm q ndb)
          · exact (ld_blt (X := X.suite a ((a, oe3) :: (X.pn ++ pins))) S3 hg hm hv q nn ndb)
        refine tst (Lex.here ?_)
        cases b with
        | true =>
          refine codeAny_handlers_suite_as ?_
          refine HandSPX.lands_againZ fl3 fun h4 fl4 up4 => ?_
          have J4 : L2.Inv X pins σ1 H1 { s' with heap := h4 } := J1.landed nb fl4.1 ((up.trans up3).trans up4) os ag
          obtain ⟨oe4, vs4, he4, hz4, hd4⟩ := fl4.there
          have S4 := J4.suite he4 hd4 na notL notF
          refine store_ok (X := X.suite a ((a, oe4) :: (X.pn ++ pins))) (v := .ref a) S4 nod at_ slot rfl (fun s5 S5 => ?_) (.inr loc)
          refine wpAny_mono ((run a oe4 cls d (X.pn ++ pins) hz4 ⟨_, hd4⟩).run [] s5 _ H1 _ S5 (yes rfl a na)) (fun f s6 hsp => ?_) (fun _ _ z => False.elim z)
          have wipe : ∀ {t6 : L2.St} {K6 : Hp} {Q : Shared → Prop}, L2.Inv (X.suite a ((a, oe4) :: (X.pn ++ pins))) [] t6 K6 s6 → (∀ s7, L2.Inv X pins (t6.set i none) K6 s7 → Q s7) →
              wpAny (model X.prog X.w) X.A (do bindName X.env n .none; unbindBehindTheSuite X.env n hpos) (fun _ s7 => Q s7) X.xe s6 := fun {t6 K6 Q} S6 hq => gone_ok (S6.unsuite okX) nod at_ loc hq
          cases f with
          | next =>
            obtain ⟨t6, K6, S6, q6⟩ := hsp
            exact (wipe S6 fun s7 J7 => ⟨_, _, J7, q6⟩)
          | brk =>
            obtain ⟨t6, K6, S6, q6⟩ := hsp
            exact (wipe S6 fun s7 J7 => ⟨_, _, J7, q6⟩)
          | cont =>
            obtain ⟨t6, K6, S6, q6⟩ := hsp
            exact (wipe S6 fun s7 J7 => ⟨_, _, J7, q6⟩)
          | ret u =>
            obtain ⟨v6, t6, K6, S6, r6, q6⟩ := hsp
            exact (wipe S6 fun s7 J7 => ⟨_, _, _, J7, r6, q6⟩)
        | false =>
          show wpAny _ X.A (handleBy (.ref a) X.env hs3) _ _ _
          exact ih (no rfl)
    exact go cl w
  · cases f with
    | next =>
      obtain ⟨t1, K1, J1, q⟩ := hsp
      exact wpAny_execs_nil ⟨t1, K1, J1.ofTry okX, q⟩
    | brk =>
      obtain ⟨t1, K1, J1, q⟩ := hsp
      exact ⟨t1, K1, J1.ofTry okX, q⟩
    | cont =>
      obtain ⟨t1, K1, J1, q⟩ := hsp
      exact ⟨t1, K1, J1.ofTry okX, q⟩
    | ret u =>
      obtain ⟨v1, t1, K1, J1, r, q⟩ := hsp
      exact ⟨v1, t1, K1, J1.ofTry okX, r, q⟩
/-- an exception of a callee, wished for at every state of the slots that fits -/
def EAll (X : Cx) (W : WX) : XK := fun cls d H' => ∀ t : L2.St, t.length = X.N.length → W cls d t H'
theorem pass_all {W : WX} (tk : Takes X W) : Passes (L2.CX X.prog X.w) X (EAll X W) := fun _ _ _ _ _ _ I c =>
  tk _ _ (XE.of_call I (fun _ _ _ z => z _ I.len) c)
end
end TryAs
end

-- GivErr
section
set_option Elab.async false
set_option linter.all false
set_option maxRecDepth 100000
set_option maxHeartbeats 2000000
/-! An own error class, over any of three built-in ones, that keeps its one argument in the field `given`. -/
namespace PySem
namespace Giv
open PySem.W PySem.Calls PyProof.Rows PySem.HandSPX Builtin Builtin.ObjectAttr
/-- own classes, then the given tail -/
def tailIs (bt : List Value) : List Value → Bool
  | .ref _ :: r => tailIs bt r
  | l => l == bt
theorem tail_cases (bt : List Value) : ∀ l : List Value, tailIs bt l = true → (∃ c r, l = .ref c :: r ∧ tailIs bt r = true) ∨ l = bt := fun l e => by
  cases l with
  | nil => exact .inr (beq_iff_eq.mp e)
  | cons a r => cases a <;> first | exact .inl ⟨_, _, rfl, e⟩ | exact .inr (beq_iff_eq.mp e)
theorem tail_pass {bt : List Value} (hb : ∀ self, refuseLoop self "__setattr__" bt = pure ()) (self : Value) : ∀ l : List Value, tailIs bt l = true → refuseLoop self "__setattr__" l = pure () := fun l => by
  induction l with
  | nil => intro e; rcases tail_cases bt _ e with ⟨_, _, q, _⟩ | q; cases q; rw [q]; exact hb self
  | cons a r ih =>
    intro e
    rcases tail_cases bt (a :: r) e with ⟨c, r', q, h⟩ | q
    · cases q; rw [refuseLoop_ref]; exact ih h
    · rw [q]; exact hb self
theorem tail_has {bt : List Value} (Y : String) : ∀ l : List Value, tailIs bt l = true → l.contains (.type Y) = bt.contains (.type Y) := fun l => by
  induction l with
  | nil => intro e; rcases tail_cases bt _ e with ⟨_, _, q, _⟩ | q; cases q; rw [q]
  | cons a r ih =>
    intro e
    rcases tail_cases bt (a :: r) e with ⟨c, r', q, h⟩ | q
    · cases q; rw [List.contains_cons, ih h]; rfl
    · rw [q]
/-- what is used of the built-in base -/
structure BaseOk (B newId initId : String) (bt : List Value) : Prop where
  facts : ExcBaseFacts B newId initId bt
  pass : ∀ self, refuseLoop self "__setattr__" bt = pure ()
  obj : bt.contains (.type "object") = true
theorem ok_VE : BaseOk "ValueError" "ValueError.__new__" "ValueError.__init__" [.type "ValueError", .type "Exception", .type "BaseException", .type "object"] :=
  ⟨F.excBase_ValueError, fun self => F.store_ValueError.passes self, by decide +kernel⟩
theorem ok_ZD : BaseOk "ZeroDivisionError" "ZeroDivisionError.__new__" "ZeroDivisionError.__init__" [.type "ZeroDivisionError", .type "ArithmeticError", .type "Exception", .type "BaseException", .type "object"] :=
  ⟨F.excBase_ZeroDivisionError, fun self => F.store_ZeroDivisionError.passes self, by decide +kernel⟩

section
variable {prog : Program} {w : World} {A : Around} {E : Value → Shared → Prop} {R : Result → Shared → Prop} {hp : Heap} {g : Array GenState} {d : Drawn} {t : Nat} {os : OsState}
/-- self.name = v on a new exception -/
theorem osa_giv {K : W.Frag} {name : Str} {tk : Tok} {v : Value} {x C : Addr} {fv : Array Value} {cd : ClassData} {bt bm : List Value} (hb : ∀ self, refuseLoop self "__setattr__" bt = pure ()) (hbo : bt.contains (.type "object") = true)
    (Y : K.In hp) (hx : hp.get? x = some { cls := .ref C, data := .fields fv }) (hcd : W.clsIn K C = some cd) (hm : cd.mro = .ref C :: bm) (htl : tailIs bt bm = true) (hh : cd.hasDict = true) (hno : W.findIn K (.ref C) name = some none)
    (fin : ∀ h' tk' dx, (∀ b o, b ≠ x → hp.get? b = some o → h'.get? b = some o) → hp.objs.size ≤ dx → dx ≠ x → h'.get? x = some { cls := .ref C, dict := some dx, data := .fields fv } →
      h'.Ns1 dx (fun y => if y = name then some v else none) → R (.ok (.ret .none)) ⟨h', g, d, tk', os⟩) :
    codeAny (model prog w) A (.call (.builtin "object.__setattr__") ⟨[.ref x, .str name tk, v], []⟩) R ⟨hp, g, d, t, os⟩ := by
  have J : W.InstAt hp x { cls := .ref C, data := .fields fv } C none := ⟨hx, rfl, rfl, trivial⟩
  have SO := F.store_object
  have htail : tailIs bt cd.mro = true := by rw [hm]; exact htl
  have hob2 : cd.mro.contains (.type "object") = true := by rw [tail_has "object" _ htail]; exact hbo
  have hemp : cd.mro.isEmpty = false := by rw [hm]; rfl
  have apart : x ≠ hp.objs.size := Nat.ne_of_lt (Heap.lt_size hx)
  have Lsub : W.Looks (model prog w) hp (isInstance (.ref x) (.type "object")) true :=
    J.type.andThen (W.looks_mroIn Y (by unfold W.mroIn; rw [hcd, Option.bind_some, if_neg (by rw [hemp]; decide), hob2]))
  refine codeAny_call_builtin SO.slot.plain SO.entry (@W.check_slot (model prog w) _ _ ⟨hp, g, d, t, os⟩ "object.__setattr__" "object" "__setattr__" (.ref x)
    [.str name tk, v] [] _ SO.kind SO.split Lsub (SO.args (.ref x) (.str name tk) v) ?_)
  have Lmro : W.Looks (model prog w) hp (mroOf (.ref C)) cd.mro := (W.looks_clsIn Y hcd).andThen .now
  have Lno : W.Looks (model prog w) hp (storeTaker? none) none := .now
  have Lcd : W.Looks (model prog w) hp (classData C) cd := W.looks_clsIn Y hcd
  rw [W.osa_eq, refuse_eq]
  refine wpAny_bind (wpAny_bind (J.type.at (wpAny_bind (Lmro.at ?_))))
  rw [tail_pass hb _ _ htail]
  refine wpAny_pure (wpAny_bind (J.type.at (wpAny_bind ((W.looks_findIn Y hno).at (wpAny_bind (Lno.at ?_))))))
  show wpAny _ _ (storeInOwnDict (.ref x) (.ref C) (.str name tk) name v false) _ _ _
  obtain ⟨c1, c2, c3, c4, c5, c6, c7, c8, c9, c10, c11⟩ := cd
  dsimp only at hh
  subst hh
  unfold storeInOwnDict ownDictForStores
  repeat (first | (with_reducible refine store_in_new ?_ ?_) | (with_reducible refine wpAny_loadPart_at hx ?_) | (with_reducible refine Lcd.at ?_) | wp_step)
  · exact ⟨_, #[], _, (Heap.get?_update_ne _ _ _ _ apart.symm).trans (Heap.get?_push_at rfl rfl), rfl, fun e he => absurd he (by simp), fun _ => rfl⟩
  · intro h' tk' hn' hs
    have hx1 : (hp.push { cls := .type "dict", data := .dict #[] }).get? x = some { cls := .ref C, data := .fields fv } := Heap.get?_push_of_some _ hx
    refine fin h' tk' hp.objs.size (fun b o hb ho => ?_) (Nat.le_refl _) apart.symm ?_ hn'
    · exact (hs.2 b (Nat.ne_of_lt (Heap.lt_size ho))).trans ((Heap.get?_update_ne _ _ _ _ hb).trans (Heap.get?_push_of_some _ ho))
    · exact (hs.2 x apart).trans (Heap.get?_update_self _ hx1 rfl)
end

/-! ### the text of __init__ -/
def gA (p1 p2 : Pos) : Arguments := { posonlyargs := [], args := [{ arg := "self", annotation := none, pos := p1 }, { arg := "given", annotation := none, pos := p2 }], vararg := none, kwonlyargs := [], kw_defaults := [], kwarg := none, defaults := [] }
def gB (q1 q2 q3 q4 : Pos) : List Stmt := [.Assign [.Attribute (.Name "self" q1) "given" q2] (.Name "given" q3) q4]
def gS : Scope := { kind := .function, names := [(PySem.Str.ofString "self", .local), (PySem.Str.ofString "given", .local)], isGenerator := false, isCoroutine := false, more := [] }
/-- what the written part says of the class called cn, at C, and of its __init__, at fI -/
structure ErrTxt (K : Frag) (mg : Str → Option Value) (cn qn : Str) (newId : String) (bt : List Value) (C fI : Addr) : Prop where
  gC : mg cn = some (.ref C)
  cls : ∃ nm q N bs bm sn sub ab col dd k0 k1 k2 k3 k5, K.lookup C = some (excClassObj nm q C N bs bm true sn sub ab col dd k0 k1 k2 k3 k5 newId) ∧ tailIs bt bm = true
  sa : findIn K (.ref C) "__setattr__" = some (some (.builtin "object.__setattr__"))
  ga : findIn K (.ref C) "__getattribute__" = some (some (.builtin "BaseException.__getattribute__"))
  gg : findIn K (.ref C) "__getattr__" = some none
  noN : findIn K (.ref C) "given" = some none
  iC : findIn K (.ref C) "__init__" = some (some (.ref fI))
  tC : typeIn K (.ref fI) = some (.type "function")
  kC : keepIn K (.ref C) = true
  exC : subIn K (.ref C) (.type "BaseException") = some true
  tyC : typeIn K (.ref C) = some (.type "type")
  hdC : hasDictIn K C = true
  te : exmOne K (.ref C) (.ref C) = some true
  fn : ∃ (oc : Value) (od : Option Addr) (doc pm : Value) (an : Option Addr) (cdv ct : Value) (osl : Array (Option Value)) (p1 p2 q1 q2 q3 q4 : Pos),
    K.lookup fI = some ⟨oc, od, .func (fnOf "__init__" qn (gA p1 p2) (gB q1 q2 q3 q4) gS .none .none doc pm an cdv ct), osl⟩ ∧ codeIn K cdv qn = true
theorem one_fits (v : Value) : [v].length ≤ sizeLine := by
  rw [sizeLine_eq]
  exact (by decide : 1 ≤ 16777216)
theorem ldG {M : Model} {s : Shared} {name : Str} {scope : Scope} {L a : Addr} {cd : Value} {m : Str → Option Value} {x : Str} {pos : Pos} {v : Value} {Q : Value → Shared → Prop} {A : Around} {E : Value → Shared → Prop} (hn : s.heap.Ns L m) (hv : m x = some v) (h : Q v s)
    (hk : scope.kind = .function := by rfl) (hl : (envOfC name scope L a cd).kindOf x = some .local := by rfl) (hd : (x == ("__debug__" : Str)) = false := by decide) :
    wpAny M A (eval (.Name x pos) (envOfC name scope L a cd)) Q E s := wpAny_Name (wpAny_loadName_local hk hl hn hv h) hd
/-- what __init__ leaves -/
structure GivEnd (h h' : Heap) (x C dx t1 : Addr) (v : Value) : Prop where
  keep : ∀ b o, b ≠ x → h.get? b = some o → h'.get? b = some o
  obj : h'.get? x = some { cls := .ref C, dict := some dx, data := .fields #[.ref t1, .none, .none, .none, .bool false, .none] }
  dbig : h.objs.size ≤ dx
  dne : dx ≠ x
  ns : h'.Ns1 dx (fun y => if y = "given" then some v else none)
/-- a made one -/
structure GivMade (h h' : Heap) (e C d : Addr) (v : Value) : Prop where
  keep : ∀ b o, h.get? b = some o → h'.get? b = some o
  new : h.objs.size ≤ e
  obj : ∃ oe vs, h'.get? e = some oe ∧ oe.cls = .ref C ∧ oe.dict = some d ∧ oe.data = .fields vs ∧ vs[1]? = some .none
  dbig : h.objs.size ≤ d
  dne : d ≠ e
  ns : h'.Ns1 d (fun y => if y = "given" then some v else none)
section
variable {prog : Program} {w : World} {A : Around} {E : Value → Shared → Prop} {R : Result → Shared → Prop} {s : Shared} {K : Frag} {mg : Str → Option Value} {C fI : Addr} {cn qn : Str} {B newId initId : String} {bt : List Value}
theorem giv_init (Z : BaseOk B newId initId bt) (T : ErrTxt K mg cn qn newId bt C fI) {x t0 : Addr} {v : Value} (X : K.In s.heap) (hlim : s.heap.NoLimit) (hx : s.heap.get? x = some (excO C t0)) (hroom : A.depth < recursionLimit)
    (hq : ∀ h' tk dx, GivEnd s.heap h' x C dx t0 v → R (.ok (.ret .none)) { s with heap := h', toks := tk }) :
    codeAny (model prog w) A (.call (.ref fI) ⟨[.ref x, v], []⟩) R s := by
  obtain ⟨oc, od, doc, pm, an, cdv, ct, osl, p1, p2, q1, q2, q3, q4, ho, hcd⟩ := T.fn
  obtain ⟨nm, q, N, bs, bm, sn, sub, ab, col, dd, k0, k1, k2, k3, k5, hC, hbm⟩ := T.cls
  have hcl : clsIn K C = some { name := nm, bases := bs, mro := .ref C :: bm, ns := N, qualname := q, hasDict := true, slotNames := sn, subclasses := sub, abstract := ab, collection := col, hasDel := false } := by unfold clsIn; rw [hC] <;> rfl
  refine Att.call_fn (binds := [("self", .ref x), ("given", v)]) X hlim ho hcd hroom (BindsTo.of_eq (by first | rfl | with_unfolding_all rfl)) (by first | rfl | decide | with_unfolding_all rfl) (fun s₁ IC => ?_) rfl rfl rfl
  obtain ⟨h₁, tk₁, rfl⟩ := IC.toInCall.same
  have k : ∀ b o, s.heap.get? b = some o → h₁.get? b = some o := IC.toInCall.keep
  have hn := IC.toInCall.ns
  have X₁ : K.In h₁ := X.keeps k
  have hx₁ := k _ _ hx
  show wpAny _ _ (execs _ _) _ _ _
  refine wpAny_execs_cons (plainObj_wpAny_Assign_Attribute ?_)
  refine ldG (v := v) hn (by first | rfl | with_unfolding_all rfl | kernel_rfl) (ldG (v := .ref x) hn (by first | rfl | with_unfolding_all rfl | kernel_rfl) ?_)
  refine set_plain X₁ (ox := excO C t0) (od := none) ⟨hx₁, rfl, rfl, trivial⟩ T.sa ?_
  refine osa_giv Z.pass Z.obj X₁ hx₁ hcl rfl hbm rfl T.noN (fun h₃ tk₃ dx k₃ dn dne hx₃ hn₃ => ?_)
  show wpAny _ _ (execs _ _) _ _ _
  have z : s.heap.objs.size < h₁.objs.size := hn.lt
  exact wpAny_execs_nil (hq h₃ tk₃ dx ⟨fun b o hb e => k₃ b o hb (k b o e), hx₃, Nat.le_of_lt (Nat.lt_of_lt_of_le z dn), dne, hn₃⟩)
theorem giv_made (Z : BaseOk B newId initId bt) (T : ErrTxt K mg cn qn newId bt C fI) {v : Value} (X : K.In s.heap) (hlim : s.heap.NoLimit) (hroom : A.depth + 1 < recursionLimit)
    (hq : ∀ h' tk e d, GivMade s.heap h' e C d v → R (.ok (.ret (.ref e))) { s with heap := h', toks := tk }) :
    codeAny (model prog w) A (.call (.ref C) ⟨[v], []⟩) R s := by
  obtain ⟨nm, q, N, bs, bm, sn, sub, ab, col, dd, k0, k1, k2, k3, k5, hC, hbm⟩ := T.cls
  obtain ⟨hp, g, dr, tk, os⟩ := s
  have k : ∀ b o, hp.get? b = some o → ((hp.push (kdv_tup [v])).push (excO C hp.objs.size)).get? b = some o := fun b o e => Heap.get?_push_of_some _ (Heap.get?_push_of_some _ e)
  have hget : ((hp.push (kdv_tup [v])).push (excO C hp.objs.size)).get? (hp.objs.size + 1) = some (excO C hp.objs.size) := by heap_get
  refine call_own Z.facts (fun X => tail_has X bm hbm) (X _ _ hC) (looks_findIn X T.iC) (fun self => bind_fn X self T.tC) (one_fits v) ?_
  refine giv_init (s := ⟨(hp.push (kdv_tup [v])).push (excO C hp.objs.size), g, dr, tk, os⟩) Z T (X.keeps k) (hlim.keeps k) hget ?_ fun h' tk' dx ⟨k', hx, dn, dne, hns⟩ => ?_
  · show A.depth + 1 < recursionLimit
    exact hroom
  · have old : ∀ b o, hp.get? b = some o → h'.get? b = some o := fun b o e => k' b o (Nat.ne_of_lt (Nat.lt_succ_of_lt (Heap.lt_size e))) (k b o e)
    have z : hp.objs.size + 1 + 1 ≤ dx := by
      first
        | (simpa only [Heap.size_push] using dn)
        | exact dn
        | (have q := dn; rw [Heap.size_push, Heap.size_push] at q; exact q)
    exact ⟨rfl, hq h' tk' (hp.objs.size + 1) dx ⟨old, Nat.le_succ _, ⟨_, _, hx, rfl, rfl, rfl, rfl⟩, Nat.le_trans (Nat.le_trans (Nat.le_succ _) (Nat.le_succ _)) z, dne, hns⟩⟩
end
end Giv
end PySem
end

-- GivErr2
section
set_option Elab.async false
set_option linter.all false
set_option maxRecDepth 100000
set_option maxHeartbeats 2000000
namespace L2
open PySem PySem.Spec PyProof.Rows
theorem relO_giv {v : V} {v' : Value} (r : RelV v v') (f : Str) : RelO (List.lookup f [(("given" : Str), v)]) (if f = "given" then some v' else none) := by
  by_cases hw : f = "given"
  · subst hw
    rw [if_pos rfl]
    have q : List.lookup ("given" : Str) [(("given" : Str), v)] = some v := by simp [List.lookup]
    rw [q]
    exact r
  · rw [if_neg hw]
    have qw : (f == ("given" : Str)) = false := by simpa using hw
    have q2 : List.lookup f [(("given" : Str), v)] = none := by simp [List.lookup, qw]
    rw [q2]
    trivial
section
variable {X : Cx} {C fI : Addr} {cn qn : Str} {B newId initId : String} {bt : List Value}
/-- Err(e) -/
def tMkGiv (C : Addr) (ta : TA) : L2.St → Hp → XK → Prop := fun σ H Q => ta σ H fun vs H1 => ∃ v, vs = [v] ∧ ∀ d, H1 d = none → Q (.ref C) (some d) (upd H1 d (.xd [(("given" : Str), v)]))
theorem pmk_giv {a : Expr} {ta : TA} {p pos : Pos} {k : Nat} (Z : PySem.Giv.BaseOk B newId initId bt) (T : PySem.Giv.ErrTxt X.K X.mg cn qn newId bt C fI) (hr : Room k X.A) (ha : PA X [a] ta) (hg : Gl X cn) (hdb : (cn == ("__debug__" : Str)) = false)
    (he : starEach (a :: []) X.env = (false, eval a X.env) :: starEach [] X.env := by rfl) (hpl : (backTo pos (starEach [] X.env)).any (·.1) = false := by rfl) :
    PMk X (.Call (.Name cn p) [a] [] pos) (tMkGiv C ta) := by
  intro pins s σ H Q I h
  refine wpAny_Call_Name_kw (ld_glob I hg T.gC ?_ hdb)
  refine PySem.W.callWith_K (h₀ := X.base) I.ok.mod.kin T.kC (thn (ha.run pos pins s σ H _ I h) fun us s1 hh => ?_) he hpl
  obtain ⟨vs, H1, I1, r1, v, ev, q1⟩ := hh
  subst ev
  refine ⟨I1.kIn, ?_⟩
  cases r1 with
  | cons rv rn =>
    rename_i v' us'
    cases rn
    show wpAny _ _ (call (.ref C) [v']) _ _ _
    have hlim := I1.nolimit
    obtain ⟨hp, g, dr, tk, os⟩ := s1
    refine wpAny_call (PySem.Giv.giv_made Z T I1.kIn hlim (by have := hr.dp; omega) fun h' tk' e d M => ?_)
    show MkP X pins σ Q (.ref e) ⟨h', g, dr, tk', os⟩
    obtain ⟨oe, fv, hoe, hc, hd, hdat, h1⟩ := M.obj
    have hns := M.ns
    obtain ⟨G', g1, g2⟩ := restrict h' fun b => decide (b ≠ e)
    have gk : ∀ b, b ≠ e → G'.get? b = h'.get? b := fun b hb => g1 b (decide_eq_true hb)
    have ge : G'.get? e = none := g2 e (by simp)
    have old : ∀ b o, hp.get? b = some o → G'.get? b = some o := fun b o q => (gk b (Nat.ne_of_lt (Nat.lt_of_lt_of_le (Heap.lt_size q) M.new))).trans (M.keep b o q)
    have ob : ObjOk X.prog X.w (upd H1 d (.xd [(("given" : Str), v)])) G' d (.xd [(("given" : Str), v)]) :=
      ⟨_, hns.at (fun o q => (gk d M.dne).trans q), fun f => relO_giv rv f⟩
    have J : L2.Inv X pins σ (upd H1 d (.xd [(("given" : Str), v)])) ⟨G', g, dr, tk', os⟩ := I1.laid (t' := tk') old M.dbig ob
    refine ⟨e, oe, fv, ⟨G', g, dr, tk', os⟩, _, .ref C, some d, rfl, J, fun b o q => ?_, ge, hoe, ⟨hc, hd⟩, hdat, h1, ?_, rfl, I1.bare, raises_own T.exC T.tyC, q1 d (I1.hok.fresh M.dbig)⟩
    · by_cases hb : b = e
      · have q' : G'.get? b = some o := q
        rw [hb, ge] at q'; cases q'
      · exact (gk b hb).symm.trans q
    · rw [upd_ne (Ne.symm M.dne)]
      exact I1.hok.fresh M.new
/-- raise Err(e) -/
def tRaiseGiv (C : Addr) (W : WX) (ta : TA) : TS := fun _ σ H => tMkGiv C ta σ H fun cls d H' => W cls d σ H'
theorem ps_raiseGiv {a : Expr} {ta : TA} {W : WX} {p pos pos2 : Pos} {k : Nat} (hc : X.calm = true) (Z : PySem.Giv.BaseOk B newId initId bt) (T : PySem.Giv.ErrTxt X.K X.mg cn qn newId bt C fI) (hr : Room k X.A) (tk : Takes X W) (ha : PA X [a] ta) (hg : Gl X cn) (hdb : (cn == ("__debug__" : Str)) = false := by decide)
    (he : starEach (a :: []) X.env = (false, eval a X.env) :: starEach [] X.env := by rfl) (hpl : (backTo pos (starEach [] X.env)).any (·.1) = false := by rfl) :
    PS X (.Raise (some (.Call (.Name cn p) [a] [] pos)) none pos2) (tRaiseGiv C W ta) := ps_raise hc tk (pmk_giv Z T hr ha hg hdb he hpl)
/-- err.given, err the exception that the suite holds (at a; its class cls, its dict d) -/
def tByGiv (C : Addr) (a : Addr) (cls : Value) (d : Option Addr) (te : TE) : TE := fun σ H Q => te σ H fun x H1 => x = .ref a ∧ cls = .ref C ∧ ∃ (dd : Addr) (v : V), d = some dd ∧ H1 dd = some (.xd [(("given" : Str), v)]) ∧ Q v H1
theorem pe_byGiv {a : Addr} {oe : Obj} {cls : Value} {d : Option Addr} {pn : List (Addr × Obj)} {e : Expr} {te : TE} {pos : Pos} (T : PySem.Giv.ErrTxt X.K X.mg cn qn newId bt C fI) (hz : Zc cls d oe) (hf : ∃ vs, oe.data = .fields vs) (he : PE (X.suite a ((a, oe) :: pn)) e te)
    (hb : attributeBase e "given" X.env (eval e X.env) = eval e X.env := by rfl) :
    PE (X.suite a ((a, oe) :: pn)) (.Attribute e "given" pos) (tByGiv C a cls d te) := by
  refine ⟨fun pins s σ H Q I h => ?_⟩
  refine attr_of hb (thn (he.run pins s σ H _ I h) fun u s1 hh => ?_)
  obtain ⟨x, H1, I1, rx, ex, ec, dd, v, ed, ea, q⟩ := hh
  subst ex
  obtain rfl : u = Value.ref a := rx
  subst ec
  subst ed
  obtain ⟨ha, _⟩ := I1.pin (a, oe) (List.mem_append_left _ List.mem_cons_self)
  obtain ⟨vs, hd⟩ := hf
  have hx : ObjOk X.prog X.w H1 s1.heap dd (.xd [(("given" : Str), v)]) := I1.hok dd _ ea
  obtain ⟨mA, hns, hr⟩ := hx
  obtain ⟨od, ho, hl⟩ := lookIn_ns hns
  have l : List.lookup ("given" : Str) [(("given" : Str), v)] = some v := by simp [List.lookup]
  obtain ⟨u, hu, ru⟩ := RelO.some_of (v := v) (o := mA "given") (by rw [← l]; exact hr "given")
  have J : PySem.W.InstAt s1.heap a oe C (some od) := ⟨ha, hz.1, by unfold PySem.W.notCls; rw [hd] <;> rfl, by rw [hz.2]; exact ho⟩
  exact HandSPX.exc_get I1.kIn J T.ga T.gg T.exC (PySem.W.findObj_own T.hdC T.noN rfl (by rw [hl, hu])) (handed_of ru) ⟨v, H1, I1.tok _, ru, q⟩
end
end L2
end

-- ErrVal
section
set_option Elab.async false
set_option linter.all false
set_option maxRecDepth 100000
set_option maxHeartbeats 2000000
/-! An own error with the field `given`, held as a value. -/
namespace L2
open PySem PySem.Spec PyProof.Rows
/-- an error of the class cls at e, its dict at d -/
def ExG (cls : Value) (e d : Addr) : HO := .ext fun h => ∃ (oe : Obj) (vs : Array Value), h.get? e = some oe ∧ Zc cls (some d) oe ∧ oe.data = .fields vs ∧ vs[1]? = some .none
section
variable {X : Cx} {C fI : Addr} {cn qn : Str} {B newId initId : String} {bt : List Value}
/-- Err(x), as a value -/
theorem pe_mkGiv {a : Expr} {ta : TA} {p pos : Pos} {k : Nat} (Z : PySem.Giv.BaseOk B newId initId bt) (T : PySem.Giv.ErrTxt X.K X.mg cn qn newId bt C fI) (hr : Room k X.A) (ha : PA X [a] ta) (hg : Gl X cn) (hdb : (cn == ("__debug__" : Str)) = false := by decide)
    (he : starEach (a :: []) X.env = (false, eval a X.env) :: starEach [] X.env := by rfl) (hpl : (backTo pos (starEach [] X.env)).any (·.1) = false := by rfl) :
    PE X (.Call (.Name cn p) [a] [] pos) (fun σ H Q => ta σ H fun vs H1 => ∃ v, vs = [v] ∧ ∀ e d, H1 e = none → H1 d = none → d ≠ e → Q (.ref e) (upd (upd H1 d (.xd [(("given" : Str), v)])) e (ExG (.ref C) e d))) := by
  refine ⟨fun pins s σ H Q I h => ?_⟩
  refine wpAny_Call_Name_kw (ld_glob I hg T.gC ?_ hdb)
  refine PySem.W.callWith_K (h₀ := X.base) I.ok.mod.kin T.kC (thn (ha.run pos pins s σ H _ I h) fun us s1 hh => ?_) he hpl
  obtain ⟨vs, H1, I1, r1, v, ev, q1⟩ := hh
  subst ev
  refine ⟨I1.kIn, ?_⟩
  cases r1 with
  | cons rv rn =>
    rename_i v' us'
    cases rn
    show wpAny _ _ (call (.ref C) [v']) _ _ _
    have hlim := I1.nolimit
    obtain ⟨hp, g, dr, tk, os⟩ := s1
    refine wpAny_call (PySem.Giv.giv_made Z T I1.kIn hlim (by have := hr.dp; omega) fun h' tk' e d M => ?_)
    show EP X pins σ Q (.ref e) ⟨h', g, dr, tk', os⟩
    obtain ⟨oe, fv, hoe, hc, hd, hdat, h1⟩ := M.obj
    have hns := M.ns
    obtain ⟨G', g1, g2⟩ := restrict h' fun b => decide (b ≠ e)
    have gk : ∀ b, b ≠ e → G'.get? b = h'.get? b := fun b hb => g1 b (decide_eq_true hb)
    have ge : G'.get? e = none := g2 e (by simp)
    have old : ∀ b o, hp.get? b = some o → G'.get? b = some o := fun b o q => (gk b (Nat.ne_of_lt (Nat.lt_of_lt_of_le (Heap.lt_size q) M.new))).trans (M.keep b o q)
    have ob : ObjOk X.prog X.w (upd H1 d (.xd [(("given" : Str), v)])) G' d (.xd [(("given" : Str), v)]) :=
      ⟨_, hns.at (fun o q => (gk d M.dne).trans q), fun f => relO_giv rv f⟩
    have J : L2.Inv X pins σ (upd H1 d (.xd [(("given" : Str), v)])) ⟨G', g, dr, tk', os⟩ := I1.laid (t' := tk') old M.dbig ob
    have en : (upd H1 d (.xd [(("given" : Str), v)])) e = none := by
      rw [upd_ne (Ne.symm M.dne)]
      exact I1.hok.fresh M.new
    have J2 : L2.Inv X pins σ (upd (upd H1 d (.xd [(("given" : Str), v)])) e (ExG (.ref C) e d)) ⟨h', g, dr, tk', os⟩ := J.laidN (t' := tk') (fun b o q => by
      by_cases hb : b = e
      · rw [hb, ge] at q; cases q
      · exact (gk b hb).symm.trans q) ge en ⟨⟨oe, fv, hoe, ⟨hc, hd⟩, hdat, h1⟩, ⟨oe, hoe⟩, fun _ _ ⟨o, u, q, r⟩ k => ⟨o, u, k o q, r⟩⟩
    exact ⟨.ref e, _, J2, rfl, q1 e d (I1.hok.fresh M.new) (I1.hok.fresh M.dbig) M.dne⟩
/-- err.given, err an error held as a value -/
theorem pe_givVal {e : Expr} {te : TE} {pos : Pos} (T : PySem.Giv.ErrTxt X.K X.mg cn qn newId bt C fI) (he : PE X e te) (hb : attributeBase e "given" X.env (eval e X.env) = eval e X.env := by rfl) :
    PE X (.Attribute e "given" pos) (fun σ H Q => te σ H fun x H1 => ∃ a d v, x = .ref a ∧ H1 a = some (ExG (.ref C) a d) ∧ H1 d = some (.xd [(("given" : Str), v)]) ∧ Q v H1) := by
  refine ⟨fun pins s σ H Q I h => ?_⟩
  refine attr_of hb (thn (he.run pins s σ H _ I h) fun u s1 hh => ?_)
  obtain ⟨x, H1, I1, rx, a, d, v, ex, ea, ed, q⟩ := hh
  subst ex
  obtain rfl : u = Value.ref a := rx
  obtain ⟨⟨oe, vs, ha, hz, hd, h1⟩, _, _⟩ := (show ObjOk X.prog X.w H1 s1.heap a (ExG (.ref C) a d) from I1.hok a _ ea)
  have hx : ObjOk X.prog X.w H1 s1.heap d (.xd [(("given" : Str), v)]) := I1.hok d _ ed
  obtain ⟨mA, hns, hr⟩ := hx
  obtain ⟨od, ho, hl⟩ := lookIn_ns hns
  have l : List.lookup ("given" : Str) [(("given" : Str), v)] = some v := by simp [List.lookup]
  obtain ⟨u, hu, ru⟩ := RelO.some_of (v := v) (o := mA "given") (by rw [← l]; exact hr "given")
  have J : PySem.W.InstAt s1.heap a oe C (some od) := ⟨ha, hz.1, by unfold PySem.W.notCls; rw [hd] <;> rfl, by rw [hz.2]; exact ho⟩
  exact HandSPX.exc_get I1.kIn J T.ga T.gg T.exC (PySem.W.findObj_own T.hdC T.noN rfl (by rw [hl, hu])) (handed_of ru) ⟨v, H1, I1.tok _, ru, q⟩
end
end L2
end

-- ErrVal2
section
set_option Elab.async false
set_option linter.all false
set_option maxRecDepth 100000
/-! isinstance of an error held as a value. -/
namespace L2
open PySem PySem.Spec PyProof.Rows
/-- what is known of the error class at C for isinstance -/
structure KitG (K : PySem.W.Frag) (C : Addr) : Prop where
  ic : PySem.W.isClsIn K C = true
  ga : PySem.W.findIn K (.ref C) "__getattribute__" = some (some (.builtin "BaseException.__getattribute__"))
  gg : ∃ gt, PySem.W.findIn K (.ref C) "__getattr__" = some gt
  ex : PySem.W.subIn K (.ref C) (.type "BaseException") = some true
  ha : PySem.W.findIn K (.ref C) "__class__" = some (some (.builtin "object.__class__"))
  hn : PySem.W.specialIn K (.builtin "object.__class__") "__get__" = some (some (.builtin "getset_descriptor.__get__"))
  htk : PySem.W.takesIn K (.builtin "object.__class__") = some true
  hm : PySem.W.mroIn K C (.type "object") = some true
def rIsiG (K : PySem.W.Frag) : List V → Hp → VK → Prop := fun xs H Q => ∃ (a d C : Addr) (fs : List (Str × V)) (c : V) (u : Value) (b : Bool), xs = [.ref a, c] ∧ H a = some (ExG (.ref C) a d) ∧ H d = some (.xd fs) ∧ KitG K C ∧ ClsV c u ∧ PySem.W.kitOne K (.ref C) u = some b ∧ Q (.bl b) H
theorem call_isiG {X : Cx} : CallR X (.builtin "isinstance") (rIsiG X.K) := by
  intro pins s σ H xs us Q I r h
  obtain ⟨a, d, C, fs, c, u, b, rfl, ea, ed, G, k, e, q⟩ := h
  obtain ⟨u1, u2, rfl, r1, r2⟩ := vals2 r
  cases (show u1 = Value.ref a from r1)
  have e2 := k.eq r2
  subst e2
  obtain ⟨⟨oe, vs, ha, hz, hd, h1⟩, _, _⟩ := (show ObjOk X.prog X.w H s.heap a (ExG (.ref C) a d) from I.hok a _ ea)
  have hx : ObjOk X.prog X.w H s.heap d (.xd fs) := I.hok d _ ed
  obtain ⟨mA, hns, hr⟩ := hx
  obtain ⟨od, ho, hl⟩ := lookIn_ns hns
  have J : PySem.W.InstAt s.heap a oe C (some od) := ⟨ha, hz.1, by unfold PySem.W.notCls; rw [hd] <;> rfl, by rw [hz.2]; exact ho⟩
  obtain ⟨gt, hgt⟩ := G.gg
  exact PySem.W.kia_one (PySem.W.kitx_exc (ox := oe) (od := some od) G.ic G.ga hgt G.ex G.ha G.hn G.htk G.hm) I.kIn J e (fun z => nomatch z) fun tk => ⟨.bl b, H, I.tok tk, rfl, q⟩
end L2
end

-- OwnTry
section
set_option Elab.async false
set_option linter.all false
set_option maxRecDepth 100000
/-! Calls whose exception is wished for at just these slots; isinstance of a held error with a dict. -/
namespace OwnTry
open PySem L2
/-- W at the slots σ -/
def EA (W : WX) (σ : L2.St) : XK := fun cls d H' => W cls d σ H'
section
variable {X : Cx} {k : Nat} {f C : Addr} {fd : FuncData} {ps : List Str} {sp : Sp} {dvs : List V} {ds : List Value} {W : WX} {x m : Str} {p pos apos : Pos} {e o : Expr} {es : List Expr} {ta : TE} {t : TA}
theorem out_at {pins : List (Addr × Obj)} {σ : L2.St} {H : Hp} {s : Shared} (tk : Takes X W) (I : L2.Inv X pins σ H s) {u : Value} {s' : Shared} (c : L2.CX X.prog X.w X.stack H s (EA W σ) u s') : X.xe u s' :=
  tk _ _ (XE.of_call I (fun _ _ _ z => z) c)
/-- a def called, W wished for if it raises -/
theorem run_at {A : Around} {pins : List (Addr × Obj)} {σ : L2.St} {H : Hp} {s : Shared} {Q : VK} {us : List Value} {vs : List V} (F : FnOk X.prog X.w X.K X.mg X.base (L2.CX X.prog X.w) k f fd ps sp) (room : Room k A)
    (e0 : Env0 X.prog X.w X.K X.mg X.base A X.stack s H) (bi : L2.Binds X.K fd ps ds) (dv : Vals dvs ds) (tk : Takes X W)
    (I : L2.Inv X pins σ H s) (rel : Vals vs us) (h : sp (vs ++ dvs) H Q (EA W σ)) : wpAny (model X.prog X.w) A (call (.ref f) us) (EP X pins σ Q) X.xe s := by
  have both := rel.append dv
  have size : (us ++ ds).length = ps.length := both.length.symm.trans (F.len _ _ _ _ h)
  have body := F.run A X.stack s H ⟨us, []⟩ (us ++ ds) (vs ++ dvs) Q (EA W σ) room e0 (bi s us I.kIn size) both h
  refine wpAny_call (codeAny_mono body fun res s' got => ?_)
  match res, got with
  | .error u, got => exact out_at tk I got
  | .ok (.ret u), got => exact I.after got
  | .ok .next, got => exact got.elim
  | .ok .brk, got => exact got.elim
  | .ok .cont, got => exact got.elim
/-- o.m(e, ..) in a try -/
def tMethA (C : Addr) (m : Str) (sp : Sp) (dvs : List V) (W : WX) (ta : TE) (t : TA) : TE := fun σ H Q => ta σ H fun x H1 => ∃ a dx fs, x = .ref a ∧ H1 a = some (.ins C dx fs) ∧ fs.lookup m = none ∧ t σ H1 fun vs H2 => sp (.ref a :: (vs ++ dvs)) H2 Q (EA W σ)
theorem pe_methA {pl : Sem Bool} (he : PE X o ta) (c : Cls X.K C) (hm : Meth X.K C m f) (F : FnOk X.prog X.w X.K X.mg X.base (L2.CX X.prog X.w) k f fd ps sp) (room : Room k X.A) (bi : L2.Binds X.K fd ps ds) (dv : Vals dvs ds) (tk : Takes X W) (ha : PA X (e :: es) t)
    (hst : starEach (e :: es) X.env = (false, eval e X.env) :: starEach es X.env := by rfl) (hpl : (backTo pos (starEach es X.env)).any (·.1) = false := by rfl)
    (ht : eval (.Call (.Attribute o m apos) (e :: es) [] pos) X.env = (do
      let ov ← eval o X.env
      standAt apos.atName
      let (f, first) ← holding [ov] (getMethod ov m pl)
      callWith pos f first (backTo pos (starEach (e :: es) X.env)) (backToKw pos (keywordEach [] X.env))) := by rfl) :
    PE X (.Call (.Attribute o m apos) (e :: es) [] pos) (tMethA C m sp dvs W ta t) := by
  refine ⟨fun pins s σ H Q I h => ?_⟩
  refine PySem.W.methodCall_KW (pl := pl) (thn (he.run pins s σ H _ I h) fun u s1 hh => ?_) ht
  obtain ⟨x, H1, I1, rx, a, dx, fs, ex, ea, l, q⟩ := hh
  subst ex
  obtain rfl : u = Value.ref a := rx
  refine getmeth_ok I1 ea c hm l ?_
  refine PySem.W.callWith_K (first := [.ref a]) (h₀ := X.base) I.ok.mod.kin hm.kp (thn (ha.run pos pins s1 σ H1 _ I1 q) fun us s2 h2 => ?_) hst hpl
  obtain ⟨vs, H2, I2, r, q2⟩ := h2
  exact ⟨I2.kIn, run_at (us := .ref a :: us) (vs := .ref a :: vs) F room I2.env0 bi dv tk I2 (.cons rfl r) q2⟩
end
/-- isinstance(e, c), e the error with a dict that the suite holds -/
def rIsiH (K : PySem.W.Frag) (a : Addr) (cls : Value) (d : Option Addr) : List V → Hp → VK → Prop := fun xs H Q => ∃ (C dd : Addr) (fs : List (Str × V)) (c : V) (u : Value) (b : Bool),
  xs = [.ref a, c] ∧ cls = .ref C ∧ d = some dd ∧ H dd = some (.xd fs) ∧ KitG K C ∧ ClsV c u ∧ PySem.W.kitOne K (.ref C) u = some b ∧ Q (.bl b) H
theorem call_isiH {X : Cx} {a : Addr} {oe : Obj} {cls : Value} {d : Option Addr} {pn : List (Addr × Obj)} (hz : Zc cls d oe) (hf : ∃ vs, oe.data = .fields vs) : CallR (X.suite a ((a, oe) :: pn)) (.builtin "isinstance") (rIsiH X.K a cls d) := by
  intro pins s σ H xs us Q I r h
  obtain ⟨C, dd, fs, c, u, b, rfl, rfl, rfl, ed, G, k, e, q⟩ := h
  obtain ⟨u1, u2, rfl, r1, r2⟩ := vals2 r
  cases (show u1 = Value.ref a from r1)
  have e2 := k.eq r2
  subst e2
  obtain ⟨ha, _⟩ := I.pin (a, oe) (List.mem_append_left _ List.mem_cons_self)
  obtain ⟨vs, hd⟩ := hf
  have hx : ObjOk X.prog X.w H s.heap dd (.xd fs) := I.hok dd _ ed
  obtain ⟨mA, hns, hr⟩ := hx
  obtain ⟨od, ho, hl⟩ := lookIn_ns hns
  have J : PySem.W.InstAt s.heap a oe C (some od) := ⟨ha, hz.1, by unfold PySem.W.notCls; rw [hd] <;> rfl, by rw [hz.2]; exact ho⟩
  obtain ⟨gt, hgt⟩ := G.gg
  exact PySem.W.kia_one (PySem.W.kitx_exc (ox := oe) (od := some od) G.ic G.ga hgt G.ex G.ha G.hn G.htk G.hm) I.kIn J e (fun z => nomatch z) fun tk => ⟨.bl b, H, I.tok tk, rfl, q⟩
end OwnTry
end

-- Gen1
section
set_option Elab.async false
set_option linter.all false
set_option maxRecDepth 100000
/-! what every law's text wants again. -/
namespace G1
open PySem L2 OwnOps
theorem if_pos' {c : Bool} {A B : Prop} (hc : c = true) (h : A) : if c = true then A else B := by
  rw [if_pos hc]
  exact h
theorem if_neg' {c : Bool} {A B : Prop} (hc : c = false) (h : B) : if c = true then A else B := by
  rw [hc, if_neg Bool.false_ne_true]
  exact h
theorem same_upd {H : Hp} {p : Addr} {o : HO} (h : H p = none) : Same H (upd H p o) := fun b u e => by
  rw [upd_ne (ne_of_none e h)]
  exact e
theorem same_put {H G : Hp} {D : Addr} {o : HO} (s : Same H G) (h : H D = none) : Same H (upd G D o) := fun b u e => by
  rw [upd_ne (ne_of_none e h)]
  exact s b u e
/-- a new instance in making -/
theorem same_new {H : Hp} {x dx C : Addr} (hx : H x = none) (hd : H dx = none) : Same H (upd (upd H dx (.own x)) x (.ins C dx [])) := fun b u e => by
  rw [upd_ne (ne_of_none e hx), upd_ne (ne_of_none e hd)]
  exact e
/-- all stands but at l -/
def SameX (l : Addr) (H H' : Hp) : Prop := ∀ b u, b ≠ l → H b = some u → H' b = some u
theorem SameX.refl (l : Addr) (H : Hp) : SameX l H H := fun _ _ _ e => e
theorem SameX.trans {l : Addr} {H H1 H2 : Hp} (a : SameX l H H1) (b : SameX l H1 H2) : SameX l H H2 := fun c o n h => b c o n (a c o n h)
theorem SameX.of {l : Addr} {H H' : Hp} (a : Same H H') : SameX l H H' := fun c o _ h => a c o h
theorem SameX.upd {l : Addr} {H : Hp} {o : HO} : SameX l H (upd H l o) := fun c u n h => by
  rw [upd_ne n]
  exact h
theorem SameX.put {l a : Addr} {H H1 : Hp} {o : HO} (s : SameX l H H1) (h : H1 a = none) : SameX l H (L2.upd H1 a o) := fun c u n e => by
  rw [upd_ne (ne_of_none (s c u n e) h)]
  exact s c u n e
theorem same_made {H H' : Hp} {C x dx : Addr} (hx : H x = none) (hd : H dx = none) (sx : SameX x (upd (upd H dx (.own x)) x (.ins C dx [])) H') : Same H H' := fun b u e =>
  sx b u (ne_of_none e hx) (same_new hx hd b u e)
/-- a def of the module, called by its name -/
structure Glb (P : Program) (w : World) (K : PySem.W.Frag) (mg : Str → Option Value) (base : Heap) (x : Str) (k : Nat) (ps : List Str) (sp : Sp) : Prop where
  ex : ∃ (f : Addr) (fd : FuncData), mg x = some (.ref f) ∧ PySem.W.keepIn K (.ref f) = true ∧ FnOk P w K mg base (L2.CX P w) k f fd ps sp ∧ L2.Binds K fd ps []
/-- a method of the class, by its name -/
structure Dun (P : Program) (w : World) (K : PySem.W.Frag) (mg : Str → Option Value) (base : Heap) (C : Addr) (nm : Str) (k : Nat) (ps : List Str) (sp : Sp) : Prop where
  ex : ∃ (f : Addr) (fd : FuncData), PySem.W.findIn K (.ref C) nm = some (some (.ref f)) ∧ PySem.W.isFn K (.ref f) = true ∧ PySem.W.keepIn K (.ref f) = true ∧ FnOk P w K mg base (L2.CX P w) k f fd ps sp ∧ L2.Binds K fd ps []
section
variable {prog : Program} {w : World} {A : Around} {E : Value → Shared → Prop} {s : Shared}
theorem eqBool_rc {l : Addr} {v : Value} {Q : Bool → Shared → Prop} (ne : (Value.ref l == v) = false)
    (h : wpAny (model prog w) A (richCompare .Eq (.ref l) v) (fun x s' => ∃ r, x = .bool r ∧ Q r s') E s) : wpAny (model prog w) A (eqBool (.ref l) v) Q E s := by
  unfold eqBool
  refine wpAny_holding (wpAny_ite_split (fun z => absurd z (by rw [ne]; decide)) fun _ => wpAny_bind (wpAny_mono h ?_ fun _ _ x => x))
  rintro x s' ⟨r, rfl, q⟩
  exact wpAny_truthy_bool q
end
abbrev Fs := List (Str × V)
theorem putF_ne {n m : Str} {x y : V} {r : Fs} (h : ¬ m = n) : putF n y ((m, x) :: r) = (m, x) :: putF n y r := by
  show (if m = n then _ else _) = _
  rw [if_neg h] <;> rfl
theorem putF_eq {n : Str} {x y : V} {r : Fs} : putF n y ((n, x) :: r) = (n, y) :: r := by
  show (if n = n then _ else _) = _
  rw [if_pos rfl] <;> rfl
theorem lk_cons {n m : Str} {v : V} {l : List (Str × V)} (h : ¬ m = n) : ((m, v) :: l).lookup n = l.lookup n := by
  rw [List.lookup_cons, beq_false_of_ne (fun e => h e.symm)] <;> rfl
theorem lk_here {n : Str} {v : V} {l : List (Str × V)} : ((n, v) :: l).lookup n = some v := by
  rw [List.lookup_cons, beq_self_eq_true] <;> rfl
/-- all so far were true -/
def AllI (H : Hp) (D : Addr) (j : Nat) : Hp → Prop := fun G => Same H G ∧ G D = some (.lst ((List.replicate j true).map V.bl))
theorem all0 {H : Hp} {D : Addr} (h : H D = none) : AllI H D 0 (upd H D (.lst [])) := ⟨same_upd h, upd_same⟩
theorem AllI.step {H G G' : Hp} {D : Addr} {j : Nat} (i : AllI H D j G) (h : H D = none) (s : Same G G') : G' D = some (.lst ((List.replicate j true).map V.bl)) ∧ AllI H D (j + 1) (upd G' D (.lst ((List.replicate j true).map V.bl ++ [.bl true]))) := by
  refine ⟨s _ _ i.2, same_put (i.1.trans s) h, ?_⟩
  rw [upd_same, List.replicate_succ', List.map_append]
  rfl
theorem rep_len {j : Nat} (h : j < sizeLine) : ((List.replicate j true).map V.bl).length < sizeLine := by
  rw [List.length_map, List.length_replicate]
  exact h
theorem rep_all (j : Nat) : (List.replicate j true).all id = true := by
  rw [List.all_eq_true]
  intro x h
  rw [(List.mem_replicate.mp h).2]
  rfl
theorem map_at {xs : List Str} {j : Nat} {x : V} (h : (xs.map V.str)[j]? = some x) : ∃ t, xs[j]? = some t ∧ x = .str t := by
  rw [List.getElem?_map] at h
  cases e : xs[j]? with
  | none => rw [e] at h; cases h
  | some t =>
    rw [e] at h
    cases h
    exact ⟨t, rfl, rfl⟩
theorem yes_go {σ : L2.St} {H : Hp} {Q : Bool → Hp → Prop} (h : Q true H) : tYes σ H Q := h
end G1
end

-- WalkIt
section
set_option Elab.async false
set_option linter.all false
set_option maxRecDepth 100000
namespace G1
open PySem L2 OwnOps
theorem pg_two {X : Cx} {i j : Nat} {x y : Str} {p1 p2 pos : Pos} {kk : Nat} (hc : X.calm = true) (hN : X.N.Nodup) (hi : X.N[i]? = some x) (hx : Loc X.env.scope x) (hj : X.N[j]? = some y) (hy : Loc X.env.scope y)
    (hf : X.fn x = true ∨ X.env.scope.names.lookup x = some .local := by first | exact .inl rfl | exact .inr rfl) (hg : X.fn y = true ∨ X.env.scope.names.lookup y = some .local := by first | exact .inl rfl | exact .inr rfl) :
    PG X (.Tuple [.Name x p1, .Name y p2] kk pos) (gTup X.K 2 (gCons (gName i) (gCons (gName j) gNil))) := pg_tup hc (pgs_cons (pg_name (i := i) hN hi hx hf) (pgs_cons (pg_name (i := j) hN hj hy hg) pgs_nil))
/-- a walk, whatever its turn is -/
theorem walk_it {J : It} {n : Nat} {G : Hp → Prop} {Y : Nat → Hp → V → Hp → Prop} (w : Walk J n G Y) {turn : V → Hp → (Hp → Prop) → Prop} {Fin : Hp → Prop} {H0 : Hp} (Pv : Nat → Hp → Prop) (h0 : Pv 0 H0) (hG : ∀ i H, i ≤ n → Pv i H → G H)
    (hs : ∀ i x H H', i < n → Pv i H → Y i H x H' → turn x H' (Pv (i + 1))) (hd : ∀ H, Pv n H → Fin H) :
    ∃ W : Nat → Nat → Hp → Prop, (∃ m, W 0 m H0) ∧ ∀ i m H, W i m H → (J.stop i H ∧ Fin H) ∨ (J.go i H ∧ ∃ Nx : Hp → Prop, (∀ H', Nx H' → ∃ m', m' < m ∧ W (i + 1) m' H') ∧ ∀ x H', J.yld i H x H' → turn x H' Nx) := by
  refine ⟨fun i m H => m + i = n ∧ Pv i H, ⟨n, rfl, h0⟩, fun i m H ⟨e, p⟩ => ?_⟩
  have q := hG i H (by omega) p
  by_cases lt : i < n
  · exact .inr ⟨w.goes i H lt q, Pv (i + 1), fun H' p' => ⟨m - 1, by omega, by omega, p'⟩, fun x H' y => hs i x H H' lt p (w.yields i H x H' lt q y)⟩
  · cases (show i = n by omega)
    exact .inl ⟨w.stops H q, hd H p⟩
theorem same_unlock {H G : Hp} {d : Addr} {u : HO} {od : Obj} (hd : H d = some u) (s : Same (upd H d (.frz od u)) G) : G d = some (.frz od u) ∧ Same H (upd G d u) := by
  refine ⟨s _ _ upd_same, fun b o e => ?_⟩
  by_cases h : b = d
  · subst h
    rw [hd] at e
    cases e
    exact upd_same
  · rw [upd_ne h]
    exact s b o (by rw [upd_ne h]; exact e)
theorem rd_lock {H : Hp} {d a : Addr} {u v : HO} {od : Obj} (hd : H d = some u) (m : Mut (some u)) (r : Rd H a v) : Rd (upd H d (.frz od u)) a v := by
  by_cases h : a = d
  · subst h
    rcases r with r | ⟨o, r⟩
    · rw [hd] at r
      cases r
      exact .inr ⟨od, upd_same⟩
    · rw [hd] at r
      cases r
      exact m.elim
  · rcases r with r | ⟨o, r⟩
    · exact .inl (by rw [upd_ne h]; exact r)
    · exact .inr ⟨o, by rw [upd_ne h]; exact r⟩
theorem SameX.none {p x : Addr} {H G : Hp} {u : HO} (s : SameX p H G) (hp : G p = some u) (h : G x = none) : H x = none := by
  cases e : H x with
  | none => rfl
  | some o =>
    by_cases n : x = p
    · subst n
      rw [hp] at h
      cases h
    · rw [s x o n e] at h
      cases h
theorem Same.none {x : Addr} {H G : Hp} (s : Same H G) (h : G x = none) : H x = none := by
  cases e : H x with
  | none => rfl
  | some o =>
    rw [s x o e] at h
    cases h
end G1
end

-- DictSet
section
set_option Elab.async false
set_option linter.all false
set_option maxRecDepth 100000
/-! y = {k: v for ..}, y a plain local name. -/
namespace G1
open PySem L2
theorem swD {kx vx : Expr} {gs : List Comprehension} {scope : Scope} {pos py : Pos} {y : Str} {l : Nat} {env : Env} (hk : env.scope.kind = .function) (hy : env.scope.names.lookup y = some .local) (hl : (py.line == pos.line) = true)
    (ha : (scope.names.any fun (n, k) => n == y && (k == .local || k == .cell)) = false) : swapsWith (.DictComp kx vx gs scope pos) (some (.Name y py)) l env = pure true := by
  have e1 : env.kindOf y = some .local := hy
  have e2 : env.blockKind = .function := by
    unfold Env.blockKind
    rw [hk]
    rfl
  unfold swapsWith
  simp only [e2, e1, ha, Expr.pos, hl]
  rfl
section
variable {X : Cx}
theorem ps_setDc {i : Nat} {y : Str} {py : Pos} {kx vx tg iter : Expr} {ifs : List Expr} {scope : Scope} {own : List (Str × Nat)} {pos spos : Pos} {wi : TI} {g : TG} {tt : TT} {tk tv : TE} (hc : X.calm = true) (hN : X.N.Nodup) (hy : X.N[i]? = some y) (loc : X.env.scope.names.lookup y = some .local)
    (sw : swapsWith (.DictComp kx vx [⟨tg, iter, ifs, 0⟩] scope pos) (some (.Name y py)) spos.line X.env = pure true) (hi : PI X tg iter wi) (ok : BlkOk X.N X.env.scope scope own)
    (hg : ∀ (s : Shared) (H : Hp) (C : Addr) (cl : List (Str × Addr)) (fp : List Addr), PG (X.blk s H scope (compEnvC scope cl C X.env) fp) tg g) (ht : ∀ (s : Shared) (H : Hp) (C : Addr) (cl : List (Str × Addr)) (fp : List Addr), PTs (X.blk s H scope (compEnvC scope cl C X.env) fp) ifs tt)
    (hk : ∀ (s : Shared) (H : Hp) (C : Addr) (cl : List (Str × Addr)) (fp : List Addr), PE (X.blk s H scope (compEnvC scope cl C X.env) fp) kx tk) (he : ∀ (s : Shared) (H : Hp) (C : Addr) (cl : List (Str × Addr)) (fp : List Addr), PE (X.blk s H scope (compEnvC scope cl C X.env) fp) vx tv)
    (hs : ∀ x, foldedSetIterable iter X.env x = pure x := by intro _; rfl) : PS X (.Assign [.Name y py] (.DictComp kx vx [⟨tg, iter, ifs, 0⟩] scope pos) spos) (tAsg (tDc wi g tt tk tv (own.map (·.2))) (gName i)) := by
  refine ⟨fun pins s σ H D I h => ?_⟩
  rw [exec_Assign_Name_used _ _ _ _ sw]
  have h : tDc wi g tt tk tv (own.map (·.2)) σ H (fun x H1 => gName i x σ H1 D.nx) := h
  refine wpAny_bind (wpAny_standAt (wpAny_bind (wpAny_bind (m := comprehension (.DictComp kx vx [⟨tg, iter, ifs, 0⟩] scope pos) scope X.env (firstIterPos [⟨tg, iter, ifs, 0⟩] pos) newDict false (eval iter X.env) (some (assign (.Name y py) X.env)))
    (L2.thn (dc_core (Qf := fun _ s' => SP X pins D .next s') hc hN I hi ok hg ht hk he hs h fun L C s' m H' I' q hn f => ?_) fun _ s' hq => wpAny_pure (wpAny_pure hq)))))
  refine wpAny_assign_Name (store_ok2 (v := V.ref L) I' hN hy (.inl loc) rfl (fun s2 I2 ⟨a, sb, ha⟩ => ?_) (.inr loc))
  obtain ⟨f0, f1, f2, f3, f4, f5⟩ := f
  exact ⟨m, hn.sameBut sb (ha.elim (fun z => z ▸ f1) fun z e => f4 y a z e.symm), fun h3 sb3 => ⟨_, H', I2.turned (t' := s2.toks) (fun b o hb e => (sb3.2 b hb).trans e) f0 f1 f3 f4 f5, q⟩⟩
end
end G1
end

-- EqDict
section
set_option Elab.async false
set_option linter.all false
set_option maxRecDepth 100000
/-! == of two dicts with flat values, whatever comes of it; of lists of such dicts. -/
namespace EqDict
open PySem L2 PySem.W OwnNe
abbrev Ent := List (Key × V)
/-- the same entries -/
def at1 (ls : Ent) (p : Key × V) : Bool := match valV ls p.1 with
  | none => false
  | some y => eqV p.2 y
def dEq (ks ls : Ent) : Bool := (ks.length == ls.length) && ks.all (at1 ls)
def Flt (ks : Ent) : Prop := ∀ p ∈ ks, flatV p.2 = true
theorem valV_mem {ls : Ent} {k : Key} {y : V} (h : valV ls k = some y) : ∃ p ∈ ls, p.2 = y := by
  unfold valV at h
  cases e : ls.find? (fun p => p.1 = k) with
  | none => rw [e] at h; cases h
  | some p =>
    rw [e] at h
    cases h
    exact ⟨p, List.mem_of_find?_eq_some e, rfl⟩
theorem hits {A : Around} {s : Shared} {ls : Ent} {vb : List (Key × Value)} (rb : KV ls vb) (fl : Flt ls) : ∀ {ks : Ent} {va : List (Key × Value)}, KV ks va → Flt ks →
    KeqHits A s vb va (ks.all (at1 ls))
  | _, _, .nil, _ => .nil
  | (k, x) :: ks, (k', u) :: va, .cons r t, f => by
    obtain ⟨r1, r2⟩ := r
    cases (show k = k' from r1)
    have rest := hits (A := A) (s := s) rb fl t fun p h => f p (List.mem_cons_of_mem _ h)
    rw [List.all_cons]
    unfold at1
    dsimp only
    have ro : RelO (valV ls k) (valueAt vb k) := rb.val k
    cases e : valV ls k with
    | none =>
      rw [e] at ro
      exact .miss (RelO.none_of ro)
    | some y =>
      rw [e] at ro
      obtain ⟨v, hv, rv⟩ := ro.some_of
      obtain ⟨p, hp, rfl⟩ := valV_mem e
      exact .hit hv (eqAt_V r2 rv (f _ List.mem_cons_self) (fl p hp)) rest
section
variable {X : Cx}
def rEqD (neg : Bool) : R2 := fun x y H Q => ∃ a b ks ls, x = .ref a ∧ y = .ref b ∧ Rd H a (.dK ks) ∧ Rd H b (.dK ls) ∧ Flt ks ∧ Flt ls ∧ Q (.bl (if neg then !dEq ks ls else dEq ks ls)) H
theorem op_eqDT (hu : X.A.units < cLine) : OpR X (compareOp .Eq) (rEqD false) := by
  intro pins s σ H x y v u Q I rx ry h
  obtain ⟨a, b, ks, ls, rfl, rfl, ea, eb, f1, f2, q⟩ := h
  cases rx
  cases ry
  obtain ⟨_, ya, va, ra, da⟩ := dk_rd I.hok ea
  obtain ⟨_, yb, vb, rb, db⟩ := dk_rd I.hok eb
  refine keq_eq (knd := mixKind X.prog X.w) ya yb da db hu (fun _ => hits rb f2 ra f1) ⟨.bl (dEq ks ls), H, I, ?_, q⟩
  unfold dEq
  rw [show ks.length = va.length from Paired.length ra, show ls.length = vb.length from Paired.length rb]
  rfl
theorem op_neDT (hu : X.A.units < cLine) : OpR X (compareOp .NotEq) (rEqD true) := by
  intro pins s σ H x y v u Q I rx ry h
  obtain ⟨a, b, ks, ls, rfl, rfl, ea, eb, f1, f2, q⟩ := h
  cases rx
  cases ry
  obtain ⟨_, ya, va, ra, da⟩ := dk_rd I.hok ea
  obtain ⟨_, yb, vb, rb, db⟩ := dk_rd I.hok eb
  refine keq_ne (knd := mixKind X.prog X.w) ya yb da db hu (fun _ => hits rb f2 ra f1) ⟨.bl (!dEq ks ls), H, I, ?_, q⟩
  unfold dEq
  rw [show ks.length = va.length from Paired.length ra, show ls.length = vb.length from Paired.length rb]
  rfl
/-- two dicts, apart -/
def DD : V → V → Hp → Bool → Prop := fun x y H r => ∃ a b ks ls, x = .ref a ∧ y = .ref b ∧ a ≠ b ∧ H a = some (.dK ks) ∧ H b = some (.dK ls) ∧ Flt ks ∧ Flt ls ∧ r = dEq ks ls
theorem mon_DD : ∀ x y H H' b, Ext H H' → DD x y H b → DD x y H' b := fun _ _ _ _ _ e ⟨a, b, ks, ls, h1, h2, n, h3, h4, r⟩ => ⟨a, b, ks, ls, h1, h2, n, e _ _ h3, e _ _ h4, r⟩
theorem eqB_DD : EqB X 1 DD := by
  intro A pins s σ H x y u v r sb I rx ry d
  obtain ⟨a, b, ks, ls, rfl, rfl, ne, ea, eb, f1, f2, rfl⟩ := d
  cases rx
  cases ry
  refine G1.eqBool_rc (beq_eq_false_iff_ne.mpr fun z => ne (Value.ref.inj z)) ?_
  obtain ⟨_, ya, va, ra, da⟩ := dk_rd I.hok (.inl ea)
  obtain ⟨_, yb, vb, rb, db⟩ := dk_rd I.hok (.inl eb)
  refine keq_eq (knd := mixKind X.prog X.w) ya yb da db sb.room.units0 (fun _ => hits rb f2 ra f1) ⟨_, rfl, ?_, H, I, Ext.rfl'⟩
  unfold dEq
  rw [show ks.length = va.length from Paired.length ra, show ls.length = vb.length from Paired.length rb]
end
end EqDict
end

-- MinKey
section
set_option Elab.async false
set_option linter.all false
set_option maxRecDepth 100000
set_option maxHeartbeats 2000000
/-! min(ns, key=int), max(ns, key=int), ns whole numbers in a list. -/
namespace MinKey
open PySem PySem.Spec PyProof.Rows L2
abbrev at0 (ns : List Int) (i : Nat) : Int := ns.getD i 0
theorem ints_at {vs : Array Value} {ns : List Int} (h : IntsAre vs.toList ns) (i : Nat) (v : Value) (hv : vs[i]? = some v) : ∃ t, v = Value.int (at0 ns i) t := by
  obtain ⟨n, t, rfl, e⟩ := IntsAre.at h i v (by rw [Array.getElem?_toList]; exact hv)
  exact ⟨t, by rw [at0, List.getD_eq_getElem?_getD, e]; rfl⟩

section
variable {prog : Program} {w : World} {A : Around} {R : Result → Shared → Prop} {it : Addr} {fp wr : List Addr} {G : Array GenState → Array GenState → Prop} {n : Nat} {T : Nat → Value → Prop} {Z : Nat → Shared → Prop}
theorem go_min (W : WalksS prog w A.in1 it fp wr G n T Z) (z : Addr) (out : z ∉ fp) (ns : List Int) (val : ∀ i v, T i v → ∃ t, v = Value.int (at0 ns i) t) :
    ∀ (k i : Nat) (s : Shared) (m : Nat) (t u : Tok) (c : Nat), n - (i + 1) = k → i + 1 ≤ n → Z (i + 1) s → m ≤ i → (∀ j, j ≤ i → at0 ns m ≤ at0 ns j) →
      s.heap.get? z = some { cls := .type "list", dict := none, data := .seq #[.int (at0 ns m) t, .int (at0 ns m) u] c, slots := #[] } →
      (∀ s' m t, m < n → (∀ j, j < n → at0 ns m ≤ at0 ns j) → Moved (z :: wr) G s s' → R (.ok (.ret (.int (at0 ns m) t))) s') → codeAny (model prog w) A (.builtin "min.loop" ⟨[.ref it, .type "int", .ref z], []⟩) R s := by
  have nw : z ∉ wr := fun h => out (W.sub _ h)
  have up : ∀ b ∈ wr, b ∈ z :: wr := fun b hb => List.mem_cons_of_mem _ hb
  have nm : (toString "min" ++ toString ".loop" : String) = "min.loop" := by decide
  have off : ∀ {b : Addr}, b ∉ z :: wr → z ≠ b := fun hb h => hb (h ▸ List.mem_cons_self)
  intro k
  induction k with
  | zero =>
    intro i s m t u c hk hi hst hm hbest hz fin
    have last : i + 1 = n := by omega
    refine codeAny_builtin F.entry_min_loop (by
      rw [Around.under_plainId F.plain_min_loop _]
      show wpAny _ A.in1 (seqItems? (.ref z) >>= _) _ _ s
      refine wpAny_bind (wpAny_seqItems hz rfl ?_)
      show wpAny _ A.in1 (tryCatch (pyNext (.ref it)) _ >>= _) _ _ s
      refine wpAny_bind (wpAny_tryCatch (W.done s _ _ (last ▸ hst) fun s' mv => ?_))
      show wpAny _ A.in1 (updateSeq z (fun _ => #[]) >>= _) _ _ _
      refine wpAny_bind (wpAny_updateSeq (mv.heap z _ nw hz) rfl (wpAny_bind (wpAny_letGo (wpAny_pure ?_))))
      exact fin _ m t (by omega) (fun j hj => hbest j (by omega)) ((mv.mono up).then_heap (tk := s'.toks) (Nat.le_refl _) fun b o hb e => (Heap.get?_update_other _ _ (off hb)).trans e))
  | succ k ih =>
    intro i s m t u c hk hi hst hm hbest hz fin
    have more : i + 1 < n := by omega
    refine codeAny_builtin F.entry_min_loop (by
      rw [Around.under_plainId F.plain_min_loop _]
      show wpAny _ A.in1 (seqItems? (.ref z) >>= _) _ _ s
      refine wpAny_bind (wpAny_seqItems hz rfl ?_)
      show wpAny _ A.in1 (tryCatch (pyNext (.ref it)) _ >>= _) _ _ s
      refine wpAny_bind (wpAny_tryCatch (W.item (i + 1) s _ _ more hst fun v s1 hv st1 mv => ?_))
      obtain ⟨t1, rfl⟩ := val _ v hv
      have z1 := mv.heap z _ nw hz
      show wpAny _ A.in1 (tryCatch (holding [Value.int (at0 ns (i + 1)) t1] (call (.type "int") [Value.int (at0 ns (i + 1)) t1])) _ >>= _) _ _ _
      refine wpAny_bind (wpAny_tryCatch (wpAny_holding (call_int_int ?_)))
      show wpAny _ A.in1 (tryCatch (holding [Value.int (at0 ns (i + 1)) t1, Value.int (at0 ns (i + 1)) t1] (richCompare .Lt (Value.int (at0 ns (i + 1)) t1) (.int (at0 ns m) u) >>= _)) _ >>= _) _ _ _
      refine wpAny_bind (wpAny_tryCatch (wpAny_holding (wpAny_bind (lt_int ?_))))
      refine wpAny_bind (wpAny_holding (wpAny_truthy_bool ?_))
      refine wpAny_bind (wpAny_letGo (wpAny_pure ?_))
      cases hb : decide (at0 ns (i + 1) < at0 ns m) with
      | true =>
        have hb := of_decide_eq_true hb
        simp only [if_true]
        refine wpAny_bind (wpAny_updateSeq z1 rfl (wpAny_bind (wpAny_letGo ?_)))
        rw [nm]
        refine wpAny_pure ⟨plainId_quiet F.plain_min_loop _, ih (i + 1) _ (i + 1) t1 t1 _ (by omega) more (W.frame _ s1 _ s1.toks st1 (Nat.le_refl _) fun b hbf o e => (Heap.get?_update_other _ _ (fun h : z = b => out (h ▸ hbf))).trans e) (Nat.le_refl _) (fun j hj => ?_) (Heap.get?_update_self _ z1 rfl) fun s2 m2 t2 h2 b2 mv2 => fin s2 m2 t2 h2 b2 ?_⟩
        · by_cases e : j = i + 1
          · rw [e]
            exact Int.le_refl _
          · have := hbest j (by omega)
            omega
        · exact Moved.trans W.gtrans ((mv.mono up).then_heap (tk := s1.toks) (Nat.le_refl _) fun b o hb e => (Heap.get?_update_other _ _ (off hb)).trans e) mv2
      | false =>
        have hb := of_decide_eq_false hb
        simp only [Bool.false_eq_true, if_false]
        refine wpAny_bind (wpAny_letGo ?_)
        rw [nm]
        refine wpAny_pure ⟨plainId_quiet F.plain_min_loop _, ih (i + 1) _ m t u c (by omega) more st1 (by omega) (fun j hj => ?_) z1 fun s2 m2 t2 h2 b2 mv2 => fin s2 m2 t2 h2 b2 (Moved.trans W.gtrans (mv.mono up) mv2)⟩
        by_cases e : j = i + 1
        · rw [e]
          omega
        · exact hbest j (by omega))
theorem goes_min (W : WalksS prog w A.in1 it fp wr G n T Z) (z : Addr) (out : z ∉ fp) (ns : List Int) (val : ∀ i v, T i v → ∃ t, v = Value.int (at0 ns i) t) (some_ : 0 < n) {s : Shared} {c : Nat} (hst : Z 0 s)
    (hz : s.heap.get? z = some { cls := .type "list", dict := none, data := .seq #[] c, slots := #[] })
    (fin : ∀ s' m t, m < n → (∀ j, j < n → at0 ns m ≤ at0 ns j) → Moved (z :: wr) G s s' → R (.ok (.ret (.int (at0 ns m) t))) s') : codeAny (model prog w) A (.builtin "min.loop" ⟨[.ref it, .type "int", .ref z], []⟩) R s := by
  have nw : z ∉ wr := fun h => out (W.sub _ h)
  have up : ∀ b ∈ wr, b ∈ z :: wr := fun b hb => List.mem_cons_of_mem _ hb
  have nm : (toString "min" ++ toString ".loop" : String) = "min.loop" := by decide
  have off : ∀ {b : Addr}, b ∉ z :: wr → z ≠ b := fun hb h => hb (h ▸ List.mem_cons_self)
  refine codeAny_builtin F.entry_min_loop (by
    rw [Around.under_plainId F.plain_min_loop _]
    show wpAny _ A.in1 (seqItems? (.ref z) >>= _) _ _ s
    refine wpAny_bind (wpAny_seqItems hz rfl ?_)
    show wpAny _ A.in1 (tryCatch (pyNext (.ref it)) _ >>= _) _ _ s
    refine wpAny_bind (wpAny_tryCatch (W.item 0 s _ _ some_ hst fun v s1 hv st1 mv => ?_))
    obtain ⟨t1, rfl⟩ := val _ v hv
    have z1 := mv.heap z _ nw hz
    show wpAny _ A.in1 (tryCatch (holding [Value.int (at0 ns 0) t1] (call (.type "int") [Value.int (at0 ns 0) t1])) _ >>= _) _ _ _
    refine wpAny_bind (wpAny_tryCatch (wpAny_holding (call_int_int ?_)))
    show wpAny _ A.in1 (updateSeq z (fun _ => #[Value.int (at0 ns 0) t1, Value.int (at0 ns 0) t1]) >>= _) _ _ _
    refine wpAny_bind (wpAny_updateSeq z1 rfl ?_)
    rw [nm]
    refine wpAny_pure ⟨plainId_quiet F.plain_min_loop _, go_min W z out ns val _ 0 _ 0 t1 t1 _ rfl some_ (W.frame _ s1 _ s1.toks st1 (Nat.le_refl _) fun b hbf o e => (Heap.get?_update_other _ _ (fun h : z = b => out (h ▸ hbf))).trans e) (Nat.le_refl _) (fun j hj => ?_) (Heap.get?_update_self _ z1 rfl) fun s2 m2 t2 h2 b2 mv2 => fin s2 m2 t2 h2 b2 ?_⟩
    · rw [show j = 0 by omega]
      exact Int.le_refl _
    · exact Moved.trans W.gtrans ((mv.mono up).then_heap (tk := s1.toks) (Nat.le_refl _) fun b o hb e => (Heap.get?_update_other _ _ (off hb)).trans e) mv2)
end
section
variable {prog : Program} {w : World} {A : Around} {E : Value → Shared → Prop} {s : Shared}
theorem call_min {l : Addr} {items : Array Value} {ns : List Int} {Q : Value → Shared → Prop} (calm : A.handled = none) (hl : s.heap.IsList l items) (hints : IntsAre items.toList ns) (some_ : 0 < ns.length)
    (fin : ∀ h' tk m t, m ∈ ns → (∀ y ∈ ns, m ≤ y) → (∀ b o, s.heap.get? b = some o → h'.get? b = some o) → Q (.int m t) { s with heap := h', toks := tk }) :
    wpAny (model prog w) A (call (.builtin "min") [.ref l] [(Str.ofString "key", .type "int")]) Q E s := by
  have nm : (toString "min" ++ toString ".loop" : String) = "min.loop" := by decide
  have sz : ns.length = items.size := by rw [← IntsAre.length hints, Array.length_toList]
  refine PyProof.Rows.kmk_tree F.kind_min F.plain_min F.entry_min (PyProof.Rows.kmk_min_key _ _) ?_
  show wpAny _ A.in1 (Builtin.Builtins.bindParams "min" ["key", "default"] 0 ⟨[], [(Str.ofString "key", .type "int")]⟩ >>= _) _ _ s
  refine wpAny_bind (wpAny_of_eq (show Builtin.Builtins.bindParams "min" ["key", "default"] 0 ⟨[], [(Str.ofString "key", .type "int")]⟩ = pure [some (.type "int"), none] from rfl) ?_)
  refine wpAny_bind (wpAny_pure ?_)
  refine wpAny_bind (PySem.W.iter_listW (A := A.in1) (by simp [calm]) hl fun s2 e2 W st fpb old kp => ?_)
  refine wpAny_bind (wpAny_newObj_type ?_)
  have out : s2.heap.objs.size ∉ [s.heap.objs.size, l] := fun hm => Nat.lt_irrefl _ (fpb _ hm)
  rw [nm]
  have st2 := W.frame 0 s2 (s2.heap.push { cls := .type "list", data := .seq #[] 0 }) s2.toks st (Nat.le_refl _) fun b _ o e => Heap.get?_push_of_some _ e
  refine wpAny_pure ⟨plainId_quiet F.plain_min_loop _, goes_min W s2.heap.objs.size out ns (fun i v hv => ints_at hints i v hv) (by omega) st2 (Heap.get?_push_size _ rfl) fun s3 m t hm best mv => ?_⟩
  have kp3 : ∀ b o, s.heap.get? b = some o → s3.heap.get? b = some o := fun b o e => mv.heap b o (fun hb => by
    rcases List.mem_cons.mp hb with rfl | hb
    · exact absurd (Heap.lt_size (kp _ _ e)) (Nat.lt_irrefl _)
    · exact old b o e hb) (Heap.get?_push_of_some _ (kp b o e))
  subst e2
  obtain ⟨h3, g3, d3, tk3, os3⟩ := s3
  cases (show g3 = s.gens from mv.gens)
  cases (show d3 = s.drawn from mv.drawn)
  cases (show os3 = s.os from mv.os)
  have lt : m < ns.length := by omega
  have em : at0 ns m = ns[m] := by rw [at0, List.getD_eq_getElem?_getD, List.getElem?_eq_getElem lt]; rfl
  refine fin h3 tk3 (at0 ns m) t (by rw [em]; exact List.getElem_mem _) (fun y hy => ?_) kp3
  obtain ⟨j, hj, rfl⟩ := List.getElem_of_mem hy
  have := best j (by omega)
  rw [show at0 ns j = ns[j] by rw [at0, List.getD_eq_getElem?_getD, List.getElem?_eq_getElem hj]; rfl] at this
  exact this
end
def rminK (K : PySem.W.Frag) : List V → List V → Hp → VK → Prop := fun vs zs H Q => ∃ (a : Addr) (ns : List Int), vs = [V.ref a] ∧ zs = [.ty "int"] ∧ SqL K H a (ns.map V.int) ∧ 0 < ns.length ∧ ∀ m, m ∈ ns → (∀ y ∈ ns, m ≤ y) → Q (.int m) H
theorem cr_minK {X : Cx} (calm : X.calm = true) : CallRK X (.builtin "min") [Str.ofString "key"] (rminK X.K) := by
  intro pins s σ H vs zs us ws Q I r rz h
  obtain ⟨a, ns, rfl, rfl, hs, hne, q⟩ := h
  obtain rfl := Vals.ref1 r
  obtain ⟨w1, rfl, e1⟩ := vals1 rz
  obtain rfl : w1 = Value.type "int" := e1
  obtain ⟨its, rv, hl, _⟩ := I.list hs
  exact call_min (I.ok.hd calm) hl.isList rv.ints hne fun h' tk m t h1 h2 hk => ⟨.int m, H, I.kept hk, ⟨_, rfl⟩, q m h1 h2⟩

section
variable {prog : Program} {w : World} {A : Around} {R : Result → Shared → Prop} {it : Addr} {fp wr : List Addr} {G : Array GenState → Array GenState → Prop} {n : Nat} {T : Nat → Value → Prop} {Z : Nat → Shared → Prop}
theorem go_max (W : WalksS prog w A.in1 it fp wr G n T Z) (z : Addr) (out : z ∉ fp) (ns : List Int) (val : ∀ i v, T i v → ∃ t, v = Value.int (at0 ns i) t) :
    ∀ (k i : Nat) (s : Shared) (m : Nat) (t u : Tok) (c : Nat), n - (i + 1) = k → i + 1 ≤ n → Z (i + 1) s → m ≤ i → (∀ j, j ≤ i → at0 ns m ≥ at0 ns j) →
      s.heap.get? z = some { cls := .type "list", dict := none, data := .seq #[.int (at0 ns m) t, .int (at0 ns m) u] c, slots := #[] } →
      (∀ s' m t, m < n → (∀ j, j < n → at0 ns m ≥ at0 ns j) → Moved (z :: wr) G s s' → R (.ok (.ret (.int (at0 ns m) t))) s') → codeAny (model prog w) A (.builtin "max.loop" ⟨[.ref it, .type "int", .ref z], []⟩) R s := by
  have nw : z ∉ wr := fun h => out (W.sub _ h)
  have up : ∀ b ∈ wr, b ∈ z :: wr := fun b hb => List.mem_cons_of_mem _ hb
  have nm : (toString "max" ++ toString ".loop" : String) = "max.loop" := by decide
  have off : ∀ {b : Addr}, b ∉ z :: wr → z ≠ b := fun hb h => hb (h ▸ List.mem_cons_self)
  intro k
  induction k with
  | zero =>
    intro i s m t u c hk hi hst hm hbest hz fin
    have last : i + 1 = n := by omega
    refine codeAny_builtin F.entry_max_loop (by
      rw [Around.under_plainId F.plain_max_loop _]
      show wpAny _ A.in1 (seqItems? (.ref z) >>= _) _ _ s
      refine wpAny_bind (wpAny_seqItems hz rfl ?_)
      show wpAny _ A.in1 (tryCatch (pyNext (.ref it)) _ >>= _) _ _ s
      refine wpAny_bind (wpAny_tryCatch (W.done s _ _ (last ▸ hst) fun s' mv => ?_))
      show wpAny _ A.in1 (updateSeq z (fun _ => #[]) >>= _) _ _ _
      refine wpAny_bind (wpAny_updateSeq (mv.heap z _ nw hz) rfl (wpAny_bind (wpAny_letGo (wpAny_pure ?_))))
      exact fin _ m t (by omega) (fun j hj => hbest j (by omega)) ((mv.mono up).then_heap (tk := s'.toks) (Nat.le_refl _) fun b o hb e => (Heap.get?_update_other _ _ (off hb)).trans e))
  | succ k ih =>
    intro i s m t u c hk hi hst hm hbest hz fin
    have more : i + 1 < n := by omega
    refine codeAny_builtin F.entry_max_loop (by
      rw [Around.under_plainId F.plain_max_loop _]
      show wpAny _ A.in1 (seqItems? (.ref z) >>= _) _ _ s
      refine wpAny_bind (wpAny_seqItems hz rfl ?_)
      show wpAny _ A.in1 (tryCatch (pyNext (.ref it)) _ >>= _) _ _ s
      refine wpAny_bind (wpAny_tryCatch (W.item (i + 1) s _ _ more hst fun v s1 hv st1 mv => ?_))
      obtain ⟨t1, rfl⟩ := val _ v hv
      have z1 := mv.heap z _ nw hz
      show wpAny _ A.in1 (tryCatch (holding [Value.int (at0 ns (i + 1)) t1] (call (.type "int") [Value.int (at0 ns (i + 1)) t1])) _ >>= _) _ _ _
      refine wpAny_bind (wpAny_tryCatch (wpAny_holding (call_int_int ?_)))
      show wpAny _ A.in1 (tryCatch (holding [Value.int (at0 ns (i + 1)) t1, Value.int (at0 ns (i + 1)) t1] (richCompare .Gt (Value.int (at0 ns (i + 1)) t1) (.int (at0 ns m) u) >>= _)) _ >>= _) _ _ _
      refine wpAny_bind (wpAny_tryCatch (wpAny_holding (wpAny_bind (gt_int ?_))))
      refine wpAny_bind (wpAny_holding (wpAny_truthy_bool ?_))
      refine wpAny_bind (wpAny_letGo (wpAny_pure ?_))
      cases hb : decide (at0 ns m < at0 ns (i + 1)) with
      | true =>
        have hb := of_decide_eq_true hb
        simp only [if_true]
        refine wpAny_bind (wpAny_updateSeq z1 rfl (wpAny_bind (wpAny_letGo ?_)))
        rw [nm]
        refine wpAny_pure ⟨plainId_quiet F.plain_max_loop _, ih (i + 1) _ (i + 1) t1 t1 _ (by omega) more (W.frame _ s1 _ s1.toks st1 (Nat.le_refl _) fun b hbf o e => (Heap.get?_update_other _ _ (fun h : z = b => out (h ▸ hbf))).trans e) (Nat.le_refl _) (fun j hj => ?_) (Heap.get?_update_self _ z1 rfl) fun s2 m2 t2 h2 b2 mv2 => fin s2 m2 t2 h2 b2 ?_⟩
        · by_cases e : j = i + 1
          · rw [e]
            exact Int.le_refl _
          · have := hbest j (by omega)
            omega
        · exact Moved.trans W.gtrans ((mv.mono up).then_heap (tk := s1.toks) (Nat.le_refl _) fun b o hb e => (Heap.get?_update_other _ _ (off hb)).trans e) mv2
      | false =>
        have hb := of_decide_eq_false hb
        simp only [Bool.false_eq_true, if_false]
        refine wpAny_bind (wpAny_letGo ?_)
        rw [nm]
        refine wpAny_pure ⟨plainId_quiet F.plain_max_loop _, ih (i + 1) _ m t u c (by omega) more st1 (by omega) (fun j hj => ?_) z1 fun s2 m2 t2 h2 b2 mv2 => fin s2 m2 t2 h2 b2 (Moved.trans W.gtrans (mv.mono up) mv2)⟩
        by_cases e : j = i + 1
        · rw [e]
          omega
        · exact hbest j (by omega))
theorem goes_max (W : WalksS prog w A.in1 it fp wr G n T Z) (z : Addr) (out : z ∉ fp) (ns : List Int) (val : ∀ i v, T i v → ∃ t, v = Value.int (at0 ns i) t) (some_ : 0 < n) {s : Shared} {c : Nat} (hst : Z 0 s)
    (hz : s.heap.get? z = some { cls := .type "list", dict := none, data := .seq #[] c, slots := #[] })
    (fin : ∀ s' m t, m < n → (∀ j, j < n → at0 ns m ≥ at0 ns j) → Moved (z :: wr) G s s' → R (.ok (.ret (.int (at0 ns m) t))) s') : codeAny (model prog w) A (.builtin "max.loop" ⟨[.ref it, .type "int", .ref z], []⟩) R s := by
  have nw : z ∉ wr := fun h => out (W.sub _ h)
  have up : ∀ b ∈ wr, b ∈ z :: wr := fun b hb => List.mem_cons_of_mem _ hb
  have nm : (toString "max" ++ toString ".loop" : String) = "max.loop" := by decide
  have off : ∀ {b : Addr}, b ∉ z :: wr → z ≠ b := fun hb h => hb (h ▸ List.mem_cons_self)
  refine codeAny_builtin F.entry_max_loop (by
    rw [Around.under_plainId F.plain_max_loop _]
    show wpAny _ A.in1 (seqItems? (.ref z) >>= _) _ _ s
    refine wpAny_bind (wpAny_seqItems hz rfl ?_)
    show wpAny _ A.in1 (tryCatch (pyNext (.ref it)) _ >>= _) _ _ s
    refine wpAny_bind (wpAny_tryCatch (W.item 0 s _ _ some_ hst fun v s1 hv st1 mv => ?_))
    obtain ⟨t1, rfl⟩ := val _ v hv
    have z1 := mv.heap z _ nw hz
    show wpAny _ A.in1 (tryCatch (holding [Value.int (at0 ns 0) t1] (call (.type "int") [Value.int (at0 ns 0) t1])) _ >>= _) _ _ _
    refine wpAny_bind (wpAny_tryCatch (wpAny_holding (call_int_int ?_)))
    show wpAny _ A.in1 (updateSeq z (fun _ => #[Value.int (at0 ns 0) t1, Value.int (at0 ns 0) t1]) >>= _) _ _ _
    refine wpAny_bind (wpAny_updateSeq z1 rfl ?_)
    rw [nm]
    refine wpAny_pure ⟨plainId_quiet F.plain_max_loop _, go_max W z out ns val _ 0 _ 0 t1 t1 _ rfl some_ (W.frame _ s1 _ s1.toks st1 (Nat.le_refl _) fun b hbf o e => (Heap.get?_update_other _ _ (fun h : z = b => out (h ▸ hbf))).trans e) (Nat.le_refl _) (fun j hj => ?_) (Heap.get?_update_self _ z1 rfl) fun s2 m2 t2 h2 b2 mv2 => fin s2 m2 t2 h2 b2 ?_⟩
    · rw [show j = 0 by omega]
      exact Int.le_refl _
    · exact Moved.trans W.gtrans ((mv.mono up).then_heap (tk := s1.toks) (Nat.le_refl _) fun b o hb e => (Heap.get?_update_other _ _ (off hb)).trans e) mv2)
end
section
variable {prog : Program} {w : World} {A : Around} {E : Value → Shared → Prop} {s : Shared}
theorem call_max {l : Addr} {items : Array Value} {ns : List Int} {Q : Value → Shared → Prop} (calm : A.handled = none) (hl : s.heap.IsList l items) (hints : IntsAre items.toList ns) (some_ : 0 < ns.length)
    (fin : ∀ h' tk m t, m ∈ ns → (∀ y ∈ ns, m ≥ y) → (∀ b o, s.heap.get? b = some o → h'.get? b = some o) → Q (.int m t) { s with heap := h', toks := tk }) :
    wpAny (model prog w) A (call (.builtin "max") [.ref l] [(Str.ofString "key", .type "int")]) Q E s := by
  have nm : (toString "max" ++ toString ".loop" : String) = "max.loop" := by decide
  have sz : ns.length = items.size := by rw [← IntsAre.length hints, Array.length_toList]
  refine PyProof.Rows.kmk_tree F.kind_max F.plain_max F.entry_max (PyProof.Rows.kmk_max_key _ _) ?_
  show wpAny _ A.in1 (Builtin.Builtins.bindParams "max" ["key", "default"] 0 ⟨[], [(Str.ofString "key", .type "int")]⟩ >>= _) _ _ s
  refine wpAny_bind (wpAny_of_eq (show Builtin.Builtins.bindParams "max" ["key", "default"] 0 ⟨[], [(Str.ofString "key", .type "int")]⟩ = pure [some (.type "int"), none] from rfl) ?_)
  refine wpAny_bind (wpAny_pure ?_)
  refine wpAny_bind (PySem.W.iter_listW (A := A.in1) (by simp [calm]) hl fun s2 e2 W st fpb old kp => ?_)
  refine wpAny_bind (wpAny_newObj_type ?_)
  have out : s2.heap.objs.size ∉ [s.heap.objs.size, l] := fun hm => Nat.lt_irrefl _ (fpb _ hm)
  rw [nm]
  have st2 := W.frame 0 s2 (s2.heap.push { cls := .type "list", data := .seq #[] 0 }) s2.toks st (Nat.le_refl _) fun b _ o e => Heap.get?_push_of_some _ e
  refine wpAny_pure ⟨plainId_quiet F.plain_max_loop _, goes_max W s2.heap.objs.size out ns (fun i v hv => ints_at hints i v hv) (by omega) st2 (Heap.get?_push_size _ rfl) fun s3 m t hm best mv => ?_⟩
  have kp3 : ∀ b o, s.heap.get? b = some o → s3.heap.get? b = some o := fun b o e => mv.heap b o (fun hb => by
    rcases List.mem_cons.mp hb with rfl | hb
    · exact absurd (Heap.lt_size (kp _ _ e)) (Nat.lt_irrefl _)
    · exact old b o e hb) (Heap.get?_push_of_some _ (kp b o e))
  subst e2
  obtain ⟨h3, g3, d3, tk3, os3⟩ := s3
  cases (show g3 = s.gens from mv.gens)
  cases (show d3 = s.drawn from mv.drawn)
  cases (show os3 = s.os from mv.os)
  have lt : m < ns.length := by omega
  have em : at0 ns m = ns[m] := by rw [at0, List.getD_eq_getElem?_getD, List.getElem?_eq_getElem lt]; rfl
  refine fin h3 tk3 (at0 ns m) t (by rw [em]; exact List.getElem_mem _) (fun y hy => ?_) kp3
  obtain ⟨j, hj, rfl⟩ := List.getElem_of_mem hy
  have := best j (by omega)
  rw [show at0 ns j = ns[j] by rw [at0, List.getD_eq_getElem?_getD, List.getElem?_eq_getElem hj]; rfl] at this
  exact this
end
def rmaxK (K : PySem.W.Frag) : List V → List V → Hp → VK → Prop := fun vs zs H Q => ∃ (a : Addr) (ns : List Int), vs = [V.ref a] ∧ zs = [.ty "int"] ∧ SqL K H a (ns.map V.int) ∧ 0 < ns.length ∧ ∀ m, m ∈ ns → (∀ y ∈ ns, m ≥ y) → Q (.int m) H
theorem cr_maxK {X : Cx} (calm : X.calm = true) : CallRK X (.builtin "max") [Str.ofString "key"] (rmaxK X.K) := by
  intro pins s σ H vs zs us ws Q I r rz h
  obtain ⟨a, ns, rfl, rfl, hs, hne, q⟩ := h
  obtain rfl := Vals.ref1 r
  obtain ⟨w1, rfl, e1⟩ := vals1 rz
  obtain rfl : w1 = Value.type "int" := e1
  obtain ⟨its, rv, hl, _⟩ := I.list hs
  exact call_max (I.ok.hd calm) hl.isList rv.ints hne fun h' tk m t h1 h2 hk => ⟨.int m, H, I.kept hk, ⟨_, rfl⟩, q m h1 h2⟩
end MinKey
end

-- MinLen
section
set_option Elab.async false
set_option linter.all false
set_option maxRecDepth 100000
set_option maxHeartbeats 2000000
/-! min(ts, key=len), ts tuples in a list: one of them. -/
namespace MinKey
open PySem PySem.Spec PyProof.Rows L2
section
variable {prog : Program} {w : World} {A : Around} {E : Value → Shared → Prop} {s : Shared}
structure Kept (s s' : Shared) : Prop where
  heap : ∀ b o, s.heap.get? b = some o → s'.heap.get? b = some o
  gens : s'.gens = s.gens
  drawn : s'.drawn = s.drawn
  os : s'.os = s.os
theorem call_minLen {l : Addr} {items : Array Value} {Q : Value → Shared → Prop} (calm : A.handled = none) (hl : s.heap.IsList l items) (some_ : 0 < items.size) (sz : Nat → Nat)
    (tups : ∀ (i : Nat) (v : Value), items[i]? = some v → ∃ a xs, v = Value.ref a ∧ s.heap.IsTuple a xs ∧ xs.size = sz i ∧ ((xs.size : Nat) : Int) < 2 ^ 63)
    (fin : ∀ (h' : Heap) (tk : Nat) (i : Nat) (v : Value), items[i]? = some v → (∀ b o, s.heap.get? b = some o → h'.get? b = some o) → Q v { s with heap := h', toks := tk }) :
    wpAny (model prog w) A (call (.builtin "min") [.ref l] [(Str.ofString "key", .builtin "len")]) Q E s := by
  refine PySem.call_min_walkKB (PySem.W.iter_listW (A := A.in1) (by simp [calm]) hl fun s2 e2 W st fpb old kp => ?_)
  have f2 : s2.gens = s.gens ∧ s2.drawn = s.drawn ∧ s2.os = s.os := by subst e2; exact ⟨rfl, rfl, rfl⟩
  refine ⟨_, _, _, _, _, _, _, fun s' => Kept s s', fun i k _ => ∃ t, k = Value.int (sz i) t, fun i j => decide ((sz i : Int) < (sz j : Int)), rfl, W, st, fpb, some_, ⟨?_, ?_, ?_, ?_⟩, ⟨kp, f2.1, f2.2.1, f2.2.2⟩, fun v s' hv k => ?_⟩
  · intro s1 s3 k mv
    refine ⟨fun b o e => mv.heap b o (fun hb => ?_) (k.heap b o e), mv.gens.trans k.gens, mv.drawn.trans k.drawn, mv.os.trans k.os⟩
    rcases List.mem_cons.mp hb with rfl | hb
    · exact absurd (Heap.lt_size (kp _ _ e)) (Nat.lt_irrefl _)
    · exact old b o e hb
  · exact fun _ _ _ _ h _ => h
  · intro i v s1 o Q1 E1 hi hv k st1 ho q
    obtain ⟨a, xs, rfl, hx, hs, hf⟩ := tups i v hv
    have hx1 : s1.heap.IsTuple a xs := hx.at (k.heap _)
    refine len_tuple hx1 hf (q _ _ ⟨k.heap, k.gens, k.drawn, k.os⟩ (W.frame (i + 1) s1 s1.heap _ st1 (by show s1.toks ≤ s1.toks + 1 + 1; omega) fun _ _ _ e => e) ho ⟨_, by rw [hs]⟩ fun _ _ h => h)
  · rintro i j _ _ s1 Q1 E1 _ ⟨t, rfl⟩ ⟨u, rfl⟩ q
    exact lt_int q
  · obtain ⟨h3, g3, d3, tk3, os3⟩ := s'
    cases (show g3 = s.gens from k.gens)
    cases (show d3 = s.drawn from k.drawn)
    cases (show os3 = s.os from k.os)
    exact fin h3 tk3 _ v hv k.heap
end
end MinKey
namespace MinKey
open PySem PySem.Spec PyProof.Rows L2
/-- min(e, key=len) -/
def tMinLen (K : PySem.W.Frag) (t : TA) : TE := fun σ H Q => t σ H fun vs H1 => ∃ (a : Addr) (us : List Addr) (f : Addr → List V), vs = [V.ref a] ∧ SqL K H1 a (us.map V.ref) ∧ 0 < us.length ∧ (∀ u ∈ us, SqT K H1 u (f u)) ∧ ∀ u ∈ us, Q (.ref u) H1
theorem pe_minLen {X : Cx} {e : Expr} {t : TA} {p p2 kpos pos : Pos} (ha : PA X [e] t) (hg : Gl X "min") (hm : X.mg "min" = none) (hg2 : Gl X "len") (hm2 : X.mg "len" = none) (calm : X.calm = true := by rfl)
    (h1 : backTo pos (starEach [e] X.env) = (false, eval e X.env) :: backTo pos (starEach [] X.env) := by rfl) (h2 : (backTo pos (starEach [e] X.env)).any (·.1) = false := by rfl) :
    PE X (.Call (.Name "min" p) [e] [⟨some "key", .Name "len" p2, kpos⟩] pos) (tMinLen X.K t) := by
  refine ⟨fun pins s σ H Q I h => ?_⟩
  refine wpAny_Call_Name_kw (ld_blt I hg hm (show bootBuiltins "min" = some (.builtin "min") by decide +kernel) ?_)
  refine PyProof.Rows.callWith_kw (thn (ha.run pos pins s σ H _ I h) fun us s1 ⟨vs, H1, I1, r1, a, as, f, ev, hs, hne, tp, q⟩ => ?_) h1 h2 rfl rfl
  · subst ev
    obtain rfl := Vals.ref1 r1
    show wpAny _ _ (evalAll [do let v ← eval (.Name "len" p2) X.env; standAt pos; pure v]) _ _ s1
    refine wpAny_evalAll_cons (wpAny_bind (ld_blt I1 hg2 hm2 (show bootBuiltins "len" = some (.builtin "len") by decide +kernel) (wpAny_bind (wpAny_standAt (wpAny_pure (wpAny_evalAll_nil ?_))))))
    obtain ⟨its, rv, hl, hz⟩ := I1.list hs
    have ln := rv.length
    rw [List.length_map] at ln
    have ref : ∀ (i : Nat) (v : Value), its.toArray[i]? = some v → ∃ u ∈ as, v = Value.ref u := fun i v hv => by
      have hv : its[i]? = some v := by rw [← hv]; simp
      have lt : i < as.length := by rw [ln]; exact (List.getElem?_eq_some_iff.mp hv).1
      obtain ⟨y, e1, e2⟩ := LiI.paired_get rv (i := i) (x := V.ref as[i]) (by rw [List.getElem?_map, List.getElem?_eq_getElem lt] <;> rfl)
      rw [hv] at e1
      cases e1
      exact ⟨as[i], List.getElem_mem _, e2⟩
    have tup : ∀ u ∈ as, ∃ xs, s1.heap.IsTuple u xs ∧ ((xs.size : Nat) : Int) < 2 ^ 63 := fun u hu => by
      obtain ⟨xs, rx, hx, hz2⟩ := I1.tuple (tp u hu)
      have := line63
      have := rx.length
      exact ⟨_, hx, by simp only [List.size_toArray]; omega⟩
    refine call_minLen (I1.ok.hd calm) hl.isList (by rw [List.size_toArray, ← ln]; exact hne) (fun i => match its.toArray[i]? with
      | some (.ref u) => if h : u ∈ as then (Classical.choose (tup u h)).size else 0
      | _ => 0) (fun i v hv => ?_) (fun h' tk i v hv kp => ?_)
    · obtain ⟨u, hu, rfl⟩ := ref i v hv
      have c := Classical.choose_spec (tup u hu)
      refine ⟨u, Classical.choose (tup u hu), rfl, c.1, ?_, c.2⟩
      rw [hv]
      dsimp only
      rw [dif_pos hu]
    · obtain ⟨u, hu, rfl⟩ := ref i v hv
      exact ⟨.ref u, H1, I1.kept kp, rfl, q u hu⟩
end MinKey
end

-- B8a
section
set_option Elab.async false
set_option linter.all false
set_option maxRecDepth 100000
namespace R8
open PySem L2 OwnOps OwnNe G1 EqDict MinKey
def top (i : Nat) : Stmt := PySem.Challenge.pw_wishedwires_k28_whole_no_paper_for_too_f.main.body.getD i (.Pass ⟨0, 0, 0, 0⟩)
abbrev sMeet : Stmt := top 17
abbrev sMost : Stmt := top 18
structure Txt (mg : Str → Option Value) : Prop where
  isi : mg "isinstance" = none
  str : mg "str" = none
  int : mg "int" = none
  tuple : mg "tuple" = none
  list : mg "list" = none
  len : mg "len" = none
  set : mg "set" = none
  all : mg "all" = none
  any : mg "any" = none
  sorted : mg "sorted" = none
  min : mg "min" = none
  max : mg "max" = none
  enum : mg "enumerate" = none
  range : mg "range" = none
theorem passOwn {X : Cx} {K : Value → Shared → Prop} {E₁ : Value → Shared → Prop} (hx : X.xe = fun e s' => wpAny (model X.prog X.w) X.A (leaving X.env e) (fun _ s'' => K e s'') E₁ s' := by rfl) : PassesOwn (model X.prog X.w) X.A X.env X.xe := passes_of hx
/-- p's tuple -/
def Tp (H : Hp) (p : Spt) : Prop := H p.1 = some (.tup (p.2.map V.str))
def Tps (H : Hp) (L : List Spt) : Prop := ∀ p ∈ L, Tp H p
abbrev rf (L : List Spt) : List V := L.map fun p => V.ref p.1
theorem Tps.same {H H' : Hp} {L : List Spt} (t : Tps H L) (s : Same H H') : Tps H' L := fun p hp => s _ _ (t p hp)
theorem Tps.sub {H : Hp} {L R : List Spt} (t : Tps H L) (h : ∀ p ∈ R, p ∈ L) : Tps H R := fun p hp => t p (h p hp)
theorem inV_str (n : Str) : ∀ t : List Str, inV (V.str n) (t.map V.str) = decide (n ∈ t)
  | [] => rfl
  | x :: r => by
    have ih := inV_str n r
    unfold inV at ih ⊢
    rw [List.map_cons, List.any_cons, ih]
    show ((x == n) || decide (n ∈ r)) = decide (n ∈ x :: r)
    rw [Bool.eq_iff_iff, Bool.or_eq_true, decide_eq_true_iff, decide_eq_true_iff, List.mem_cons, beq_iff_eq]
    exact ⟨fun h => h.imp Eq.symm id, fun h => h.imp Eq.symm id⟩
theorem flat_strs (t : List Str) : (t.map V.str).all flatV = true := by
  rw [List.all_map, List.all_eq_true]
  exact fun _ _ => rfl
theorem any_take {s t : List Str} {j : Nat} {n : Str} (h : s[j]? = some n) : (s.take (j + 1)).map (fun n => decide (n ∈ t)) = (s.take j).map (fun n => decide (n ∈ t)) ++ [decide (n ∈ t)] := by
  rw [List.take_succ, h, List.map_append]
  rfl
section
variable {P : Program} {w : World} {K : PySem.W.Frag} {mg : Str → Option Value} {base : Heap}
def spMeet : Sp := fun vs H Q _ => ∃ (a b : Addr) (s t : List Str), vs = [.ref a, .ref b] ∧ H a = some (.tup (s.map V.str)) ∧ H b = some (.tup (t.map V.str)) ∧ s.length ≤ 1000 ∧ ∀ H', Same H H' → Q (.bl (meet s t)) H'
theorem ok_meet {f : Addr} {fd : FuncData} (F : Fun K "_meet" "_meet" sMeet f fd) (T : Txt mg) : FnOk P w K mg base (L2.CX P w) 1 f fd ["one", "other"] spMeet := by
  have sc : FnScope ["one", "other", "name"] ["one", "other"] (defScope sMeet) := ⟨rfl, rfl, rfl, by decide +kernel, rfl, by decide +kernel, by decide +kernel⟩
  refine F.okX sc (fun vs H Q E h => ?_) (fun cdv A outer sh H vs Q E hr h => ?_)
  · obtain ⟨a, b, s, t, rfl, _⟩ := h
    rfl
  · obtain ⟨a, b, s, t, rfl, ha, hb, few, k⟩ := h
    refine ⟨_, pss_one (ps_ret (pe_callB (cr_any rfl) (by rfl) T.any (by decide +kernel) (pa_cons (pe_lc (own := [("name", 2)]) (g := gName 2) (tt := tYes) rfl sc.nd (pi_tup (pv 0)) (blkOk_by (N := ["one", "other", "name"]) (sc := defScope sMeet) (by decide +kernel)) (fun _ _ _ _ _ => pg_name (i := 2) sc.nd rfl (Or.inl rfl)) (fun _ _ _ _ _ => pts_nil)
      (fun _ _ _ _ _ => pe_cmpR (op := .In) (show OpR _ (compareOp .In) (rIn K false) from op_in_seq) (pv 2) (pv 1) (by rfl))) pa_nil))), ?_⟩
    refine ⟨_, rfl, a, rfl, ⟨_, SqT.of ha⟩, fun D nD => ?_⟩
    refine walk_it (walk_tup (K := K) (a := a) (xs := s.map V.str)) (fun j G => Same H G ∧ G D = some (.lst (((s.take j).map fun n => decide (n ∈ t)).map V.bl))) ⟨same_upd nD, upd_same⟩ (fun j G _ ⟨sm, _⟩ => SqT.of (sm _ _ ha)) (fun j x G G' hj ⟨sm, hD⟩ ⟨e, hx⟩ => ?_) (fun G ⟨sm, hD⟩ => ?_)
    · subst e
      obtain ⟨n, hn, rfl⟩ := map_at hx
      have lt : j < s.length := (List.getElem?_eq_some_iff.mp hn).1
      refine ⟨rfl, yes_go (iteT ⟨_, rfl, _, rfl, b, _, rfl, .inr (SqT.of (sm _ _ hb)), rfl, flat_strs t, _, hD, ?_, same_put sm nD, ?_⟩)⟩
      · rw [List.length_map, List.length_map, List.length_take]
        exact Nat.lt_of_le_of_lt (Nat.min_le_left _ _) (Nat.lt_of_lt_of_le lt (Nat.le_trans few (by decide)))
      · rw [upd_same, any_take hn, List.map_append, ← inV_str]
        rfl
    · rw [List.length_map, List.take_length] at hD
      refine ⟨D, _, rfl, SqL.of hD, ?_⟩
      have e : (s.map fun n => decide (n ∈ t)).any id = meet s t := by
        unfold meet
        rw [List.any_map]
        rfl
      rw [e]
      exact k G sm
end
end R8
end

-- B8b
section
set_option Elab.async false
set_option linter.all false
set_option maxRecDepth 100000
namespace R8
open PySem L2 OwnOps OwnNe G1 EqDict MinKey
theorem rf_take {L : List Spt} {f : Spt → Bool} {t : Nat} {p : Spt} (h : L[t]? = some p) : rf ((L.take (t + 1)).filter f) = rf ((L.take t).filter f) ++ (if f p = true then [V.ref p.1] else []) := by
  rw [List.take_succ, h, List.filter_append]
  show rf (_ ++ [p].filter f) = _
  rw [List.filter_cons]
  cases f p
  · rw [if_neg Bool.false_ne_true, if_neg Bool.false_ne_true, List.filter_nil, List.append_nil, List.append_nil]
  · rw [if_pos rfl, if_pos rfl, List.filter_nil, rf, List.map_append]
    rfl
theorem rf_at {L : List Spt} {t : Nat} {x : V} (h : (rf L)[t]? = some x) : ∃ p, L[t]? = some p ∧ x = .ref p.1 := by
  rw [List.getElem?_map] at h
  cases e : L[t]? with
  | none => rw [e] at h; cases h
  | some p =>
    rw [e] at h
    cases h
    exact ⟨p, rfl, rfl⟩
theorem rf_len (L : List Spt) : (rf L).length = L.length := List.length_map _
/-- [x for x in a if ..]: the spots that a test keeps -/
theorem flt {K : PySem.W.Frag} {B : Hp} {a D : Addr} {L : List Spt} {f : Spt → Bool} {i : Nat} {ws : List Nat} {σ : L2.St} {tt : TT} {Qd : Hp → Prop} (few : L.length ≤ 1000) (ha : B a = some (.lst (rf L))) (nD : B D = none)
    (wp : ∀ u : Addr, wipe ((wipe σ ws).set i (some (V.ref u))) ws = wipe σ ws) (vi : ∀ u : Addr, ((wipe σ ws).set i (some (V.ref u)))[i]? = some (some (V.ref u)))
    (turn : ∀ p ∈ L, ∀ G, Same B G → ∀ R : Bool → Hp → Prop, (∀ G', Same G G' → R (f p) G') → tt ((wipe σ ws).set i (some (.ref p.1))) G R)
    (fin : ∀ G, Same B G → G D = some (.lst (rf (L.filter f))) → Qd G) :
    ∃ W : Nat → Nat → Hp → Prop, (∃ m, W 0 m (upd B D (.lst []))) ∧ ∀ t m H, W t m H →
      ((Itl K a).stop t H ∧ Qd H) ∨ ((Itl K a).go t H ∧ ∃ Nx : Hp → Prop, (∀ H', Nx H' → ∃ m', m' < m ∧ W (t + 1) m' H') ∧ ∀ x H', (Itl K a).yld t H x H' → gName i x (wipe σ ws) H' fun σ2 H2 => wipe σ2 ws = wipe σ ws ∧ tt σ2 H2 fun b H3 =>
        if b = true then tVar i σ2 H3 fun y H4 => ∃ acc, H4 D = some (.lst acc) ∧ acc.length < sizeLine ∧ Nx (upd H4 D (.lst (acc ++ [y]))) else Nx H3) := by
  refine lc_list (K := K) (a := a) (xs := rf L) (fun t G => Same B G ∧ G D = some (.lst (rf ((L.take t).filter f)))) ⟨same_upd nD, upd_same⟩ (fun t G _ ⟨sm, _⟩ => SqL.of (sm _ _ ha)) (fun t x G hx ⟨sm, hD⟩ => ?_) (fun G ⟨sm, hD⟩ => ?_)
  · obtain ⟨p, hp, rfl⟩ := rf_at hx
    refine ⟨wp p.1, turn p (List.mem_of_getElem? hp) G sm _ fun G' s' => ?_⟩
    have hD' := s' _ _ hD
    have e := rf_take (f := f) hp
    cases hf : f p with
    | true =>
      rw [hf, if_pos rfl] at e
      refine iteT ⟨_, vi p.1, _, hD', ?_, same_put (sm.trans s') nD, by rw [upd_same, e]⟩
      rw [rf_len]
      have lt : t < L.length := (List.getElem?_eq_some_iff.mp hp).1
      have := List.length_filter_le f (L.take t)
      rw [List.length_take] at this
      exact Nat.lt_of_lt_of_le (m := 1001) (by omega) (by decide)
    | false =>
      rw [hf, if_neg Bool.false_ne_true, List.append_nil] at e
      exact iteF ⟨sm.trans s', by rw [e]; exact hD'⟩
  · rw [rf_len, List.take_length] at hD
    exact fin G sm hD
abbrev NM : List Str := ["left", "counts", "index", "spot", "best", "without", "other"]
abbrev scOut : Scope := { kind := .function, names := [(".0", .local), ("spot", .cell), ("len", .globalImplicit), ("left", .cell)], isGenerator := false, isCoroutine := false, more := [] }
abbrev rLen (K : PySem.W.Frag) : List V → Hp → VK → Prop := fun xs H Q => ∃ p ys, xs = [.ref p] ∧ (SqL K H p ys ∨ SqT K H p ys) ∧ Q (.int ys.length) H
/-- how many of L meet p -/
def cntL (L : List Spt) (p : Spt) : Nat := (L.filter (hit p)).length
section
variable {P : Program} {w : World} {K : PySem.W.Frag} {mg : Str → Option Value} {base : Heap}
def spMost (n : Nat) : Sp := fun vs H Q _ => ∃ (a : Addr) (L : List Spt), vs = [.ref a] ∧ H a = some (.lst (rf L)) ∧ Tps H L ∧ Full L ∧ (∀ p ∈ L, p.2.length ≤ 1000) ∧ L.length ≤ n ∧ n ≤ 60 ∧ ∀ r R H', Same H H' → H r = none → H' r = some (.lst (rf R)) → Res L R → Q (.ref r) H'
theorem cut_to {xs : List V} {j : Nat} (h : j ≤ xs.length) : cutV xs none (some (j : Int)) = xs.take j := by
  unfold cutV
  rw [HT.sIx_nat, HT.sIx_none, List.drop_zero, Nat.sub_zero, Nat.min_eq_left h]
theorem cut_from {xs : List V} {j : Nat} (h : j ≤ xs.length) : cutV xs (some (j : Int)) none = xs.drop j := by
  unfold cutV
  rw [HT.sIx_nat, HT.sIx_none, Nat.min_eq_left h]
  exact List.take_of_length_le (by rw [List.length_drop]; exact Nat.le_refl _)
theorem first_ix {ns : List Int} {m : Int} (h : m ∈ ns) : ∃ j : Nat, ns[j]? = some m ∧ ∀ i : Nat, i < j → ∀ x : Int, ns[i]? = some x → x ≠ m := by
  induction ns with
  | nil => cases h
  | cons a r ih =>
    by_cases e : a = m
    · exact ⟨0, by rw [e]; rfl, fun i hi => absurd hi (Nat.not_lt_zero i)⟩
    · obtain ⟨j, hj, hb⟩ := ih ((List.mem_cons.mp h).resolve_left fun z => e z.symm)
      refine ⟨j + 1, hj, fun i hi x hx => ?_⟩
      cases i with
      | zero => cases hx; exact e
      | succ i => exact hb i (by omega) x hx
theorem flat_ints (ns : List Int) : (ns.map V.int).all flatV = true := by
  rw [List.all_map, List.all_eq_true]
  exact fun _ _ => rfl
theorem ints_atI {ns : List Int} {j : Nat} {x : V} (h : (ns.map V.int)[j]? = some x) : ∃ n, ns[j]? = some n ∧ x = .int n := by
  rw [List.getElem?_map] at h
  cases e : ns[j]? with
  | none => rw [e] at h; cases h
  | some n =>
    rw [e] at h
    cases h
    exact ⟨n, rfl, rfl⟩
/-- the index of a number in a list -/
theorem ix_int {K : PySem.W.Frag} {H : Hp} {a : Addr} {ns : List Int} {m : Int} {Q : VK} (ha : H a = some (.lst (ns.map V.int))) (hm : m ∈ ns) (k : ∀ j : Nat, ns[j]? = some m → (∀ i : Nat, i < j → ∀ x : Int, ns[i]? = some x → x ≠ m) → Q (.int (j : Nat)) H) : rIndex K (.ref a) [.int m] H Q := by
  obtain ⟨j, hj, hb⟩ := first_ix hm
  refine ⟨a, _, .int m, j, .int m, rfl, rfl, SqL.of ha, rfl, flat_ints ns, by rw [List.getElem?_map, hj] <;> rfl, beq_self_eq_true m, fun i z hi hz => ?_, k j hj hb⟩
  obtain ⟨n, hn, rfl⟩ := ints_atI hz
  exact beq_eq_false_iff_ne.mpr (hb i hi n hn)
abbrev cnts (L : List Spt) : List Int := L.map fun p => ((cntL L p : Nat) : Int)
theorem cnts_at {L : List Spt} {j : Nat} {m : Int} (h : (cnts L)[j]? = some m) : ∃ p, L[j]? = some p ∧ m = ((cntL L p : Nat) : Int) := by
  rw [List.getElem?_map] at h
  cases e : L[j]? with
  | none => rw [e] at h; cases h
  | some p =>
    rw [e] at h
    cases h
    exact ⟨p, rfl, rfl⟩
theorem most_zero {f : Addr} {fd : FuncData} (F : Fun K "_most" "_most" sMost f fd) : FnOk P w K mg base (L2.CX P w) 2 f fd ["left"] (spMost 0) := by
  have sc : FnScope NM ["left"] (defScope sMost) := ⟨rfl, rfl, rfl, by decide +kernel, rfl, by decide +kernel, by decide +kernel⟩
  refine F.okX sc (fun vs H Q E h => ?_) (fun cdv A outer s H vs Q E hr h => ?_)
  · obtain ⟨a, L, rfl, _⟩ := h
    rfl
  · obtain ⟨a, L, rfl, ha, tp, fu, _, few, _, k⟩ := h
    cases L with
    | cons p r => exact absurd few (by rw [List.length_cons]; omega)
    | nil =>
      refine ⟨_, pss_cons (ps_if (pt_not (pt_truth (pv 0) (by intro _; rfl))) (pss_one (ps_ret (pe_lst pa_nil))) pss_nil) pss_never, ?_⟩
      refine ⟨_, rfl, _, .inl ⟨_, SqL.of ha, rfl⟩, if_pos' rfl ⟨by show 0 ≤ sizeLine; exact Nat.zero_le _, fun r nr => k r [] _ (same_upd nr) nr upd_same res_nil⟩⟩
set_option maxHeartbeats 4000000 in
theorem most_succ {f : Addr} {fd : FuncData} (F : Fun K "_most" "_most" sMost f fd) (T : Txt mg) (GM : Glb P w K mg base "_meet" 1 ["one", "other"] spMeet) {n : Nat} (mF : mg "_most" = some (.ref f)) (kF : PySem.W.keepIn K (.ref f) = true) (bF : L2.Binds K fd ["left"] [])
    (IH : FnOk P w K mg base (L2.CX P w) (n + 2) f fd ["left"] (spMost n)) : FnOk P w K mg base (L2.CX P w) (n + 3) f fd ["left"] (spMost (n + 1)) := by
  obtain ⟨fM, fdM, mM, kM, GM, bM⟩ := GM.ex
  have sc : FnScope NM ["left"] (defScope sMost) := ⟨rfl, rfl, rfl, by decide +kernel, rfl, by decide +kernel, by decide +kernel⟩
  refine F.okX sc (fun vs H Q E h => ?_) (fun cdv A outer s H vs Q E hr h => ?_)
  · obtain ⟨a, L, rfl, _⟩ := h
    rfl
  · obtain ⟨a, L, rfl, ha, tp, fu, sm1, few, few60, k⟩ := h
    have hN := sc.nd
    refine ⟨_, pss_cons (ps_if (pt_not (pt_truth (pv 0) (by intro _; rfl))) (pss_one (ps_ret (pe_lst pa_nil))) pss_nil)
      (pss_cons (ps_setLc (i := 1) (own := [("spot", 3)]) (g := gName 3) (tt := tYes) (te := tCB (rLen K) (tCons (tLc (iList K (tVar 0)) (gName 6) (tB (tCall spMeet [] E0 (tCons (tVar 3) (tCons (tVar 6) tNil)))) (tVar 6) [6]) tNil)) rfl hN rfl rfl (sw_true rfl rfl rfl (by decide +kernel)) (pi_list (pv 0)) (blkOk_by (N := NM) (sc := defScope sMost) (by decide +kernel)) (fun _ _ _ _ _ => pg_name (i := 3) hN rfl (Or.inr rfl)) (fun _ _ _ _ _ => pts_nil)
        (fun _ _ _ _ _ => pe_callB call_len_seq (by rfl) T.len PySem.boot_len (pa_cons (pe_lc (own := [("other", 6)]) (g := gName 6) rfl hN (pi_list (pv 0)) (blkOk_by (N := NM) (sc := scOut) (by decide +kernel)) (fun _ _ _ _ _ => pg_name (i := 6) hN rfl (Or.inl rfl)) (fun _ _ _ _ _ => pts_one (pt_val (pe_call GM (hr.mono (by omega)) (by rfl) mM kM bM .nil passL (pa_cons (pv 3) (pa_cons (pv 6) pa_nil))))) (fun _ _ _ _ _ => pv 6)) pa_nil)))
      (pss_cons (ps_set (i := 2) hN rfl (Or.inl rfl) (pe_bm PySem.F.plainAttrs_list PySem.F.slot_list_index PySem.F.type_list_index mt_index (pv 1) (pa_cons (pe_callBK (cr_minK rfl) (by rfl) T.min (by decide +kernel) (pa_cons (pv 1) pa_nil) (pk_cons (pe_bltn (v := .ty "int") (by rfl) T.int (by decide +kernel) rfl) pk_nil)) pa_nil)))
      (pss_cons (ps_set (i := 3) hN rfl (Or.inr rfl) (pe_ix ix_list (pv 0) (pv 2) (fun _ _ => rfl)))
      (pss_cons (ps_set (i := 4) hN rfl (Or.inl rfl) (pe_op op_cat (pe_lst (pa_cons (pv 3) pa_nil)) (pe_call IH (hr.mono (by omega)) (by rfl) mF kF bF .nil passL (pa_cons (pe_lc (own := [("other", 6)]) (g := gName 6) rfl hN (pi_list (pv 0)) (blkOk_by (N := NM) (sc := defScope sMost) (by decide +kernel)) (fun _ _ _ _ _ => pg_name (i := 6) hN rfl (Or.inl rfl))
          (fun _ _ _ _ _ => pts_one (pt_not (pt_val (pe_call GM (hr.mono (by omega)) (by rfl) mM kM bM .nil passL (pa_cons (pv 3) (pa_cons (pv 6) pa_nil)))))) (fun _ _ _ _ _ => pv 6)) pa_nil))))
      (pss_cons (ps_if (pt_cmpR op_gt (pe_ix ix_list (pv 1) (pv 2) (fun _ _ => rfl)) pe_int (nomark _))
        (pss_cons (ps_set (i := 5) hN rfl (Or.inl rfl) (pe_call IH (hr.mono (by omega)) (by rfl) mF kF bF .nil passL (pa_cons (pe_op op_cat (pe_slice sl_list (pv 0) po_none (po_some (pv 2))) (pe_slice sl_list (pv 0) (po_some (pe_op op_add (pv 2) pe_int)) po_none)) pa_nil)))
        (pss_one (ps_if (pt_cmpR op_gt (pe_callB call_len_seq (by rfl) T.len PySem.boot_len (pa_cons (pv 5) pa_nil)) (pe_callB call_len_seq (by rfl) T.len PySem.boot_len (pa_cons (pv 4) pa_nil)) (nomark _)) (pss_one (ps_ret (pv 5))) pss_nil))) pss_nil)
      (pss_one (ps_ret (pv 4)))))))), ?_⟩
    refine ⟨_, rfl, _, .inl ⟨_, SqL.of ha, rfl⟩, ?_⟩
    by_cases hL : L = []
    · subst hL
      exact if_pos' rfl ⟨by show 0 ≤ sizeLine; exact Nat.zero_le _, fun r nr => k r [] _ (same_upd nr) nr upd_same res_nil⟩
    refine if_neg' (by cases L with | nil => exact absurd rfl hL | cons p r => rfl) ?_
    have hpos : 0 < L.length := List.length_pos_iff.mpr hL
    -- counts
    refine ⟨_, rfl, a, rfl, ⟨_, SqL.of ha⟩, fun D nD => ?_⟩
    refine lc_list (K := K) (a := a) (xs := rf L) (fun t G => Same H G ∧ G D = some (.lst (((L.take t).map fun p => ((cntL L p : Nat) : Int)).map V.int))) ⟨same_upd nD, upd_same⟩ (fun t G _ ⟨sm, _⟩ => SqL.of (sm _ _ ha)) (fun t x G hx ⟨sm, hD⟩ => ?_) (fun G ⟨sm, hD⟩ => ?_)
    · obtain ⟨p, hp, rfl⟩ := rf_at hx
      have mem := List.mem_of_getElem? hp
      refine ⟨rfl, yes_go (iteT ⟨_, rfl, a, rfl, ⟨_, SqL.of (sm _ _ ha)⟩, fun D2 nD2 => flt (K := K) (f := hit p) (L := L) (by omega) (sm _ _ ha) nD2 (fun _ => rfl) (fun _ => rfl) (fun q hq G2 s2 R hR => ?_) (fun G2 s2 hD2 => ?_)⟩)⟩
      · exact ⟨_, rfl, _, rfl, p.1, q.1, p.2, q.2, rfl, (sm.trans s2) _ _ (tp p mem), (sm.trans s2) _ _ (tp q hq), sm1 p mem, fun G3 s3 => ⟨_, rfl, hR G3 s3⟩⟩
      · refine ⟨D2, _, rfl, .inl (SqL.of hD2), _, s2 _ _ hD, ?_, same_put (sm.trans s2) nD, ?_⟩
        · rw [List.length_map, List.length_map, List.length_take]
          exact Nat.lt_of_le_of_lt (Nat.min_le_right _ _) (Nat.lt_of_le_of_lt few (Nat.lt_of_lt_of_le (m := 100) (by omega) (by decide)))
        · rw [upd_same, List.take_succ, hp, List.map_append, List.map_append, rf_len]
          rfl
    rw [rf_len, List.take_length] at hD
    have ha1 := sm _ _ ha
    have tp1 := tp.same sm
    generalize G = H1 at sm hD ha1 tp1 ⊢
    -- index
    have hcl : 0 < (cnts L).length := by rw [List.length_map]; exact hpos
    refine ⟨_, rfl, .inl ⟨rfl, _, SqL.of hD⟩, _, rfl, D, cnts L, rfl, rfl, SqL.of hD, hcl, fun m hm best => ?_⟩
    obtain ⟨j, hj, hb⟩ := first_ix hm
    refine ⟨D, _, .int m, j, .int m, rfl, rfl, SqL.of hD, rfl, flat_ints (cnts L), by rw [List.getElem?_map, hj] <;> rfl, beq_self_eq_true m, fun i z hi hz => ?_, ?_⟩
    · obtain ⟨x, hx, rfl⟩ := ints_atI hz
      exact beq_eq_false_iff_ne.mpr (hb i hi x hx)
    obtain ⟨p, hp, em⟩ := cnts_at hj
    have mem := List.mem_of_getElem? hp
    have jl : j < L.length := (List.getElem?_eq_some_iff.mp hp).1
    have hpr : (rf L)[j]? = some (.ref p.1) := by rw [List.getElem?_map, hp] <;> rfl
    refine ⟨_, rfl, _, rfl, a, _, _, _, rfl, rfl, SqL.of ha1, at_of (j := j) rfl hpr, ?_⟩
    -- best
    refine ⟨_, rfl, (by show 1 ≤ sizeLine; decide), fun l nl => ?_⟩
    have s2 := same_upd (o := .lst [.ref p.1]) nl
    have hl : (upd H1 l (.lst [.ref p.1])) l = some (.lst [.ref p.1]) := upd_same
    have ha2 := s2 _ _ ha1
    have tp2 := tp1.same s2
    have hD2 := s2 _ _ hD
    have S2 := sm.trans s2
    generalize upd H1 l (.lst [.ref p.1]) = H2 at s2 hl ha2 tp2 hD2 S2 ⊢
    have lenO : (L.filter (off p)).length ≤ n := by
      have h1 : L.length = (L.filter (hit p)).length + (L.filter (off p)).length := split_len (hit p) L
      have h2 : 0 < (L.filter (hit p)).length := List.length_pos_of_mem (List.mem_filter.mpr ⟨mem, meet_self (fu p mem)⟩)
      omega
    refine ⟨_, rfl, a, rfl, ⟨_, SqL.of ha2⟩, fun D3 nD3 => flt (K := K) (f := off p) (L := L) (by omega) ha2 nD3 (fun _ => rfl) (fun _ => rfl) (fun q hq G3 s3 R hR => ?_) (fun H3 s3 hD3 => ?_)⟩
    · exact ⟨_, rfl, _, rfl, p.1, q.1, p.2, q.2, rfl, s3 _ _ (tp2 p mem), s3 _ _ (tp2 q hq), sm1 p mem, fun G4 s4 => ⟨_, rfl, hR G4 s4⟩⟩
    have tp3 := tp2.same s3
    refine ⟨D3, L.filter (off p), rfl, hD3, tp3.sub fun q hq => (List.mem_filter.mp hq).1, fu.filter _, fun q hq => sm1 q (List.mem_filter.mp hq).1, lenO, by omega, fun r RA H4 s4 nr hr4 ra => ?_⟩
    have lenR : RA.length ≤ L.length := by
      have := ra.opt.uniq ra.opt
      have := subLen RA (L.filter (off p)) (fam_nodup (fu.filter _) ra.fam) ra.fam.sub
      have := List.length_filter_le (off p) L
      omega
    refine ⟨l, r, _, _, rfl, rfl, s4 _ _ (s3 _ _ hl), hr4, ?_, fun b nb => ?_⟩
    · rw [rf_len]
      exact Nat.le_trans (m := 200) (by show 1 + RA.length ≤ 200; omega) (by decide)
    have s5 := same_upd (o := .lst ([V.ref p.1] ++ rf RA)) nb
    have hb5 : (upd H4 b (.lst ([V.ref p.1] ++ rf RA))) b = some (.lst (rf (p :: RA))) := upd_same
    have S5 := S2.trans (s3.trans (s4.trans s5))
    have S25 := s3.trans (s4.trans s5)
    generalize upd H4 b (.lst ([V.ref p.1] ++ rf RA)) = H5 at s5 hb5 S5 S25 ⊢
    have ha5 := S25 _ _ ha2
    have hD5 := S25 _ _ hD2
    have nb0 : H b = none := Same.none (S2.trans (s3.trans s4)) nb
    have hcj : ((cnts L).map V.int)[j]? = some (.int m) := by rw [List.getElem?_map, hj] <;> rfl
    refine ⟨_, rfl, _, rfl, D, _, _, _, rfl, rfl, SqL.of hD5, at_of (j := j) rfl hcj, _, _, rfl, rfl, _, rfl, ?_⟩
    by_cases h2 : (2 : Int) < m
    · refine if_pos' (decide_eq_true h2) ?_
      -- without
      have jr : j ≤ (rf L).length := by rw [rf_len]; omega
      have jr1 : j + 1 ≤ (rf L).length := by rw [rf_len]; omega
      refine ⟨_, rfl, _, rfl, _, rfl, a, _, rfl, SqL.of ha5, fun c1 nc1 => ?_⟩
      rw [cut_to jr]
      have s6 := same_upd (o := .lst ((rf L).take j)) nc1
      have hc1 : (upd H5 c1 (.lst ((rf L).take j))) c1 = some (.lst ((rf L).take j)) := upd_same
      generalize upd H5 c1 (.lst ((rf L).take j)) = H6 at s6 hc1 ⊢
      refine ⟨_, rfl, _, rfl, _, _, rfl, rfl, _, rfl, a, _, rfl, SqL.of (s6 _ _ ha5), fun c2 nc2 => ?_⟩
      rw [show ((j : Int) + 1) = ((j + 1 : Nat) : Int) from rfl, cut_from jr1]
      have s7 := same_upd (o := .lst ((rf L).drop (j + 1))) nc2
      have hc2 : (upd H6 c2 (.lst ((rf L).drop (j + 1)))) c2 = some (.lst ((rf L).drop (j + 1))) := upd_same
      generalize upd H6 c2 (.lst ((rf L).drop (j + 1))) = H7 at s7 hc2 ⊢
      refine ⟨c1, c2, _, _, rfl, rfl, s7 _ _ hc1, hc2, ?_, fun c3 nc3 => ?_⟩
      · rw [List.length_take, List.length_drop, rf_len]
        exact Nat.le_trans (m := 200) (by omega) (by decide)
      have s8 := same_upd (o := .lst ((rf L).take j ++ (rf L).drop (j + 1))) nc3
      have hc3 : (upd H7 c3 (.lst ((rf L).take j ++ (rf L).drop (j + 1)))) c3 = some (.lst (rf (L.take j ++ L.drop (j + 1)))) := by
        rw [upd_same, show rf (L.take j ++ L.drop (j + 1)) = (L.take j ++ L.drop (j + 1)).map (fun p => V.ref p.1) from rfl, List.map_append, List.map_take, List.map_drop]
      generalize upd H7 c3 (.lst ((rf L).take j ++ (rf L).drop (j + 1))) = H8 at s8 hc3 ⊢
      have S58 := s6.trans (s7.trans s8)
      refine ⟨c3, L.take j ++ L.drop (j + 1), rfl, hc3, (tp.same (S5.trans S58)).sub fun q hq => cut_mem hq, fun q hq => fu q (cut_mem hq), fun q hq => sm1 q (cut_mem hq), ?_, by omega, fun r2 RB H9 s9 nr2 hr9 rb => ?_⟩
      · rw [List.length_append, List.length_take, List.length_drop]
        omega
      have S59 := S58.trans s9
      have hb9 := S59 _ _ hb5
      refine ⟨_, rfl, r2, _, rfl, .inl (SqL.of hr9), _, rfl, b, _, rfl, .inl (SqL.of hb9), _, _, rfl, rfl, _, rfl, ?_⟩
      rw [rf_len, rf_len, List.length_cons]
      by_cases h3 : ((RA.length + 1 : Nat) : Int) < (RB.length : Nat)
      · refine if_pos' (decide_eq_true h3) ⟨_, rfl, k r2 RB H9 (S5.trans S59) (Same.none (S5.trans S58) nr2) hr9 (res_alt fu hp ra rb (by omega))⟩
      · refine if_neg' (decide_eq_false h3) ⟨_, rfl, k b (p :: RA) H9 (S5.trans S59) nb0 hb9 (res_two fu hp ra rb (by omega))⟩
    · refine if_neg' (decide_eq_false h2) ⟨_, rfl, k b (p :: RA) H5 S5 nb0 hb5 (res_one fu mem ra ?_)⟩
      rw [em] at h2
      unfold cntL at h2
      omega
theorem ok_most {f : Addr} {fd : FuncData} (F : Fun K "_most" "_most" sMost f fd) (T : Txt mg) (GM : Glb P w K mg base "_meet" 1 ["one", "other"] spMeet) (mF : mg "_most" = some (.ref f)) (kF : PySem.W.keepIn K (.ref f) = true) (bF : L2.Binds K fd ["left"] []) :
    ∀ n, FnOk P w K mg base (L2.CX P w) (n + 2) f fd ["left"] (spMost n)
  | 0 => most_zero F
  | n + 1 => most_succ F T GM mF kF bF (ok_most F T GM mF kF bF n)
end
end R8
end

-- SortStr
section
set_option Elab.async false
set_option linter.all false
set_option maxRecDepth 100000
/-! sorted(xs, key=str), xs texts. -/
namespace SortStr
open PySem L2 PySem.W PyProof.Rows
/-- the texts in order -/
def srtS (xs : List Str) : List Str := xs.mergeSort (dataLe false PyData.str)
theorem alikeS (xs : List Str) : AllAlike (xs.map PyData.str) := fun d hd d' hd' => by
  obtain ⟨x, _, rfl⟩ := List.mem_map.mp hd
  obtain ⟨y, _, rfl⟩ := List.mem_map.mp hd'
  rfl
theorem sortableS (xs : List Str) : Sortable (xs.map PyData.str) := .inr fun d hd => by
  obtain ⟨x, _, rfl⟩ := List.mem_map.mp hd
  exact ⟨fun e => (by cases e), fun _ e => (by cases e)⟩
theorem each_strs : ∀ {xs : List Str} {us : List Value}, Vals (xs.map V.str) us → EachIs (fun v x => ∃ t, v = Value.str x t) us xs
  | [], _, r => by cases r; exact .nil
  | x :: xs, _, r => by
    cases r with
    | cons a b => exact .cons a (each_strs b)
theorem strs_each : ∀ {xs : List Str} {us : List Value}, EachIs (fun v x => ∃ t, v = Value.str x t) us xs → Vals (xs.map V.str) us
  | _, _, .nil => .nil
  | _, _, .cons a b => .cons a (strs_each b)
def rKS (K : PySem.W.Frag) : List V → List V → Hp → VK → Prop := fun vs zs H Q => ∃ (a : Addr) (xs : List Str), vs = [.ref a] ∧ zs = [.ty "str"] ∧ SqL K H a (xs.map V.str) ∧ ∀ p, H p = none → Q (.ref p) (upd H p (.lst ((srtS xs).map V.str)))
theorem cr_sortKS {X : Cx} (hu : X.A.units + 64 < cLine) : CallRK X (.builtin "sorted") [Str.ofString "key"] (rKS X.K) := by
  intro pins s σ H vs zs us ws Q I r rz h
  obtain ⟨a, xs, rfl, rfl, hs, q⟩ := h
  obtain rfl := Vals.ref1 r
  obtain ⟨w1, rfl, e1⟩ := vals1 rz
  obtain rfl : w1 = Value.type "str" := e1
  obtain ⟨its, rv, hl, hz⟩ := I.list hs
  rw [List.length_map] at hz
  refine sorted_key_data (bs := xs) (R := fun v x => ∃ t, v = Value.str x t) (f := .type "str") (b := false) PyData.str hl.isList (each_strs rv) (alikeS xs) (sortableS xs) hz (fun x _ => ?_) (PyProof.Rows.ksk_s1 _ _) (fun _ => PyProof.Rows.ksk_l1 _ _) (fun _ => rfl)
    (fun v x hv _ h tk kp => ?_) (fun out c h' tk kp fresh at_ len each => ?_)
  · show X.A.units + 2 + PyData.depth (.str x) < cLine
    have : PyData.depth (.str x) ≤ 1 := by first | exact Nat.le_refl _ | exact Nat.zero_le _ | decide
    omega
  · obtain ⟨t, rfl⟩ := hv
    exact PySem.P.str_of_str ⟨h, tk, rfl, fun _ _ e => e, .str x t⟩
  · have e : out.length = (srtS xs).length := by rw [len]; exact (List.length_mergeSort xs).symm
    exact ⟨.ref _, upd H (s.heap.objs.size + 1) (.lst ((srtS xs).map V.str)), I.laid (t' := tk) kp (Nat.le_succ _) ⟨by rw [List.length_map, ← e, len]; exact hz, out, c, strs_each each, at_⟩, rfl, q _ (I.hok.fresh (Nat.le_succ _))⟩
/-- sorted(d, key=str), d a dict with text keys -/
def rKD : List V → List V → Hp → VK → Prop := fun vs zs H Q => ∃ (a : Addr) (kvs : List (Key × V)) (xs : List Str), vs = [.ref a] ∧ zs = [.ty "str"] ∧ Rd H a (.dK kvs) ∧ kvs.map (·.1) = xs.map Sum.inr ∧ ∀ p, H p = none → Q (.ref p) (upd H p (.lst ((srtS xs).map V.str)))
theorem cr_sortKD {X : Cx} (calm : X.calm = true) (hu : X.A.units + 64 < cLine) : CallRK X (.builtin "sorted") [Str.ofString "key"] rKD := by
  intro pins s σ H vs zs us ws Q I r rz h
  obtain ⟨a, kvs, xs, rfl, rfl, hd, hks, q⟩ := h
  obtain rfl := Vals.ref1 r
  obtain ⟨w1, rfl, e1⟩ := vals1 rz
  obtain rfl : w1 = Value.type "str" := e1
  obtain ⟨z, lo, es, rel, dd⟩ := dk_rd I.hok hd
  obtain ⟨ep, at0⟩ := dd.dictAt
  have keys : es.map (·.1) = xs.map Sum.inr := rel.keys.symm.trans hks
  have size : es.length = xs.length := by
    have e := congrArg List.length keys
    rwa [List.length_map, List.length_map] at e
  have z0 : kvs.length = xs.length := by
    have e := congrArg List.length hks
    rwa [List.length_map, List.length_map] at e
  have z16 : es.length ≤ sizeLine := by rw [size, ← z0]; exact z
  refine PyProof.Rows.call_function_entry_kw PyProof.Rows.kind_sorted PyProof.Rows.plain_sorted PyProof.Rows.entry_sorted (PyProof.Rows.ksk_s1 _ _) ?_
  unfold Builtin.«sorted»
  refine wpAny_bind (m := checkCount "sorted" 1 1 _) (wpAny_pure (wpAny_bind (kdu_collect (A := X.A.in1) (kdl_dict (knd := mixKind X.prog X.w) (kvs := es) (ep := ep) lo) (I.ok.hd calm) at0 z16 fun h1 tk acc kp got => ?_)))
  have len : acc.toList.length = xs.length := by rw [Array.length_toList, got.1, size]
  have txts : EachIs (fun v x => ∃ t, v = Value.str x t) acc.toList xs := by
    refine EachIs.of_zip len fun p hp => ?_
    obtain ⟨j, hj, ej⟩ := List.getElem_of_mem hp
    have hj1 : j < acc.toList.length := by rw [List.length_zip] at hj; omega
    have hj2 : j < xs.length := by omega
    rw [List.getElem_zip] at ej
    subst ej
    obtain ⟨k, x, e1, e2⟩ := got.2 j acc.toList[j] (by rw [← Array.getElem?_toList]; exact List.getElem?_eq_getElem hj1)
    have e3 : (es.map (·.1))[j]? = some k := by rw [List.getElem?_map, e1] <;> rfl
    rw [keys, List.getElem?_map, List.getElem?_eq_getElem hj2] at e3
    cases (show some (Sum.inr xs[j]) = some k from e3)
    exact Value.isStrOf_shape (x := xs[j]) (v := acc.toList[j]) e2
  have lenZ : acc.toList.length ≤ sizeLine := by rw [len, ← size]; exact z16
  have I1 : L2.Inv X pins σ H { s with heap := h1, toks := tk } := I.kept kp
  refine wpAny_bind (wpAny_newList ?_ lenZ)
  have newl : (h1.push (seqObj "list" acc.toList.toArray 0)).get? h1.objs.size = some (seqObj "list" acc.toList.toArray 0) := Heap.get?_push_size _ rfl
  show wpAny _ _ _ _ _ { s with heap := h1.push (seqObj "list" acc.toList.toArray 0), toks := tk }
  refine wpAny_bind (wpAny_holding ?_)
  refine list_sort_key_data (s := { s with heap := h1.push (seqObj "list" acc.toList.toArray 0), toks := tk }) (bs := xs) (R := fun v x => ∃ t, v = Value.str x t) (f := .type "str") (b := false) PyData.str newl txts (alikeS xs) (sortableS xs)
    (by rw [← len]; exact lenZ) (fun x _ => ?_) (PyProof.Rows.ksk_l1 _ _) rfl (fun v x hv _ h tk kp => ?_) (fun out c h' tk' kp' at_ len' each => ?_)
  · show X.A.units + 1 + 1 + PyData.depth (.str x) < cLine
    have : PyData.depth (.str x) ≤ 1 := by first | exact Nat.le_refl _ | exact Nat.zero_le _ | decide
    omega
  · obtain ⟨t, rfl⟩ := hv
    exact PySem.P.str_of_str ⟨h, tk, rfl, fun _ _ e => e, .str x t⟩
  · have e : out.length = (srtS xs).length := by rw [len']; exact (List.length_mergeSort xs).symm
    have old : ∀ b o, h1.get? b = some o → h'.get? b = some o := fun b o hb => kp' b o (Nat.ne_of_lt (Heap.lt_size hb)) (Heap.get?_push_of_some _ hb)
    refine wpAny_pure ⟨_, rfl, .ref h1.objs.size, upd H h1.objs.size (.lst ((srtS xs).map V.str)), I1.laid (t' := tk') old (Nat.le_refl _) ⟨by rw [List.length_map, ← e, len', ← len]; exact lenZ, out, c, strs_each each, at_⟩, rfl, q _ (I1.hok.fresh (Nat.le_refl _))⟩
theorem srtS_perm (xs : List Str) : (srtS xs).Perm xs := List.mergeSort_perm xs _
theorem srtS_len (xs : List Str) : (srtS xs).length = xs.length := List.length_mergeSort xs
end SortStr
end

-- DictList
section
set_option Elab.async false
set_option linter.all false
set_option maxRecDepth 100000
/-! list(d.values()); a star of a dict in a display. -/
namespace DictList
open PySem L2 PySem.W PyProof.Rows
theorem vals_kv : ∀ {kvs : List (Key × V)} {vs : List (Key × Value)}, KV kvs vs → Vals (kvs.map (·.2)) (vs.map (·.2))
  | _, _, .nil => .nil
  | _, _, .cons r t => .cons r.2 (vals_kv t)
section
variable {X : Cx}
/-- list(e.values()) -/
def tListV (te : TE) : TE := fun σ H Q => te σ H fun x H1 => ∃ (d : Addr) (kvs : List (Key × V)), x = .ref d ∧ Rd H1 d (.dK kvs) ∧ ∀ p, H1 p = none → Q (.ref p) (upd H1 p (.lst (kvs.map (·.2))))
theorem pe_listV {e : Expr} {te : TE} {p apos cpos pos : Pos} (he : PE X e te) (hg : Gl X "list") (hm : X.mg "list" = none) (calm : X.calm = true := by rfl) (hv : bootBuiltins "list" = some (.type "list") := by decide +kernel)
    (hbase : attributeBase e "values" X.env (eval e X.env) = eval e X.env := by rfl) (hline : (apos.endLine == cpos.line) = true := by rfl)
    (hs : starEach [.Call (.Attribute e "values" apos) [] [] cpos] X.env = (false, eval (.Call (.Attribute e "values" apos) [] [] cpos) X.env) :: starEach [] X.env := by rfl) :
    PE X (.Call (.Name "list" p) [.Call (.Attribute e "values" apos) [] [] cpos] [] pos) (tListV te) := by
  refine ⟨fun pins s σ H Q I hq => wpAny_Call_Name_kw (ld_blt I hg hm hv (callWith_type1 (by
    rw [hs]
    refine Calls.spliced_cons (wpAny_Call_method (T := "dict") (id := "dict.values") hbase rfl hline F.plainAttrs_dict F.slot_dict_values F.type_dict_values (thn (he.run pins s σ H _ I hq) fun u s1 ⟨x, H1, I1, rx, d, kvs, ex, hd, q⟩ => ?_))
    subst ex
    obtain rfl : u = Value.ref d := rx
    obtain ⟨hz, lo, vs, kv, hdo⟩ := dk_rd I1.hok hd
    obtain ⟨ep, hat⟩ := hdo.dictAt
    have lk : kvs.length = vs.length := Paired.length kv
    have I2 : L2.Inv X pins σ H1 { s1 with heap := s1.heap.push { cls := .type "dict_values", data := .fields #[.ref d] } } := I1.kept (t' := s1.toks) fun b ob q => Heap.get?_push_of_some _ q
    refine ⟨hdo.typeIs, hdo.mapOf.noDict, ?_⟩
    refine method_meetsIn F.slot_dict_values F.entry_dict_values rfl (PySem.evalArgs_none ⟨rfl, hdo.typeIs, F.args_dict_values_1 _, _, meets_dict_values (mixKind X.prog X.w) d lo, ⟨vs, hdo⟩, Calls.spliced_nil ?_⟩)
    refine kdl_call (kdl_values (knd := mixKind X.prog X.w) (kvs := vs) (ep := ep)) (I1.ok.hd calm) ⟨⟨_, Heap.get?_push_size _ rfl, rfl, rfl⟩, hat.push _⟩ (by rw [← lk]; exact hz) fun h' tk acc c hk hS got => ?_
    have e : acc.toList = vs.map (·.2) := kdl_vals_eq (kvs := vs) acc.toList (by rw [Array.length_toList]; exact got.1) fun j v hj => got.2 j v (by rw [← Array.getElem?_toList]; exact hj)
    have rv : Vals (kvs.map (·.2)) acc.toList := by rw [e]; exact vals_kv kv
    exact ⟨.ref _, upd H1 _ (.lst (kvs.map (·.2))), I2.laid (t' := tk) hk (Nat.le_refl _) ⟨by rw [List.length_map]; exact hz, acc.toList, c, rv, by rw [Array.toArray_toList]; exact hS⟩, rfl, q _ (I2.hok.fresh (Nat.le_refl _))⟩) hs rfl))⟩
/-- *e in a display, e a dict -/
def tStarD (te : TE) (t : TA) : TA := fun σ H Q => te σ H fun x H1 => ∃ (d : Addr) (kvs : List (Key × V)), x = V.ref d ∧ Rd H1 d (.dK kvs) ∧ t σ H1 fun ys H2 => Q (kvs.map (fun p => kV p.1) ++ ys) H2
theorem pa_starD {e : Expr} {es : List Expr} {te : TE} {t : TA} {p : Pos} (he : PE X e te) (hr : PA X es t) (calm : X.calm = true := by rfl) (hs : starEach (.Starred e p :: es) X.env = (true, eval e X.env) :: starEach es X.env := by rfl) : PA X (.Starred e p :: es) (tStarD te t) := by
  refine ⟨fun pos pins s σ H Q I h => items_star (thn (he.run pins s σ H _ I h) fun v s1 ⟨y, H1, I1, ry, d, kvs, ey, hd, q⟩ => ?_) hs⟩
  subst ey
  obtain rfl : v = Value.ref d := ry
  obtain ⟨hz, lo, vs, kv, hdo⟩ := dk_rd I1.hok hd
  obtain ⟨ep, hat⟩ := hdo.dictAt
  have lk : kvs.length = vs.length := Paired.length kv
  unfold StarOf notIterableAtAll
  refine wpAny_bind (wpAny_specialOf hdo.typeIs F.slot_dict_iter.lookup (wpAny_pure ⟨rfl, ?_⟩))
  refine kdu_collect (kdl_dict (knd := mixKind X.prog X.w) (kvs := vs) (ep := ep) lo) (I1.ok.hd calm) hat (by rw [← lk]; exact hz) fun h' tk acc kp got => ?_
  have I2 : L2.Inv X pins σ H1 { s1 with heap := h', toks := tk } := I1.kept kp
  have rv : Vals (kvs.map fun p => kV p.1) acc.toList := by
    refine vals_of_at (by rw [List.length_map, Array.length_toList]; exact lk.trans got.1.symm) fun j x u hx hu => ?_
    obtain ⟨k, x0, e1, e2⟩ := got.2 j u (by rw [← Array.getElem?_toList]; exact hu)
    rw [List.getElem?_map] at hx
    cases e3 : kvs[j]? with
    | none => rw [e3] at hx; cases hx
    | some kv0 =>
      rw [e3] at hx
      cases hx
      obtain ⟨y, e4, e5⟩ := LiI.paired_get kv e3
      rw [e1] at e4
      cases e4
      show RelV (kV kv0.1) u
      rw [show kv0.1 = k from e5.1]
      exact keyIs_rel e2
  exact thn (hr.run pos pins _ σ H1 _ I2 q) fun ws s3 ⟨vs3, H3, I3, r3, q3⟩ => ⟨_ ++ vs3, H3, I3, rv.append r3, q3⟩
end
end DictList
end

-- SetStr
section
set_option Elab.async false
set_option linter.all false
set_option maxRecDepth 100000
/-! len(set(xs)), xs any texts (up to 4000). -/
namespace SetStr
open PySem PySem.Spec PyProof.Rows
/-- how many unlike ones stand among the first i -/
def cnt (xs : List Str) : Nat → Nat
  | 0 => 0
  | i + 1 => if xs.getD i Str.empty ∈ xs.take i then cnt xs i else cnt xs i + 1
theorem cnt_succ (xs : List Str) (i : Nat) : cnt xs (i + 1) = if xs.getD i Str.empty ∈ xs.take i then cnt xs i else cnt xs i + 1 := rfl
theorem cnt_le (xs : List Str) : ∀ i, cnt xs i ≤ i
  | 0 => Nat.le_refl _
  | i + 1 => by
    rw [cnt_succ]
    have := cnt_le xs i
    split <;> omega
theorem cnt_nodup {xs : List Str} (h : xs.Nodup) : ∀ i, i ≤ xs.length → cnt xs i = i
  | 0, _ => rfl
  | i + 1, hi => by
    rw [cnt_succ]
    have hl : i < xs.length := hi
    have e : xs.getD i Str.empty = xs[i] := by rw [List.getD_eq_getElem?_getD, List.getElem?_eq_getElem hl] <;> rfl
    rw [if_neg, cnt_nodup h i (by omega)]
    rw [e]
    intro z
    obtain ⟨j, hj, ej⟩ := List.getElem_of_mem z
    have hj' : j < i := by rw [List.length_take] at hj; omega
    rw [List.getElem_take] at ej
    have := (List.getElem_inj h).mp ej
    omega
theorem cnt_bad {xs : List Str} {i j : Nat} (hij : i < j) (hj : j < xs.length) (e : xs.getD i Str.empty = xs.getD j Str.empty) : ∀ k, j < k → cnt xs k < k
  | 0, h => by omega
  | k + 1, h => by
    rw [cnt_succ]
    by_cases hk : k = j
    · subst hk
      have m : xs.getD k Str.empty ∈ xs.take k := by
        rw [← e]
        have hi : i < xs.length := by omega
        have e2 : xs.getD i Str.empty = xs[i] := by rw [List.getD_eq_getElem?_getD, List.getElem?_eq_getElem hi] <;> rfl
        rw [e2, List.mem_take_iff_getElem]
        exact ⟨i, by omega, rfl⟩
      rw [if_pos m]
      have := cnt_le xs k
      omega
    · have := cnt_bad hij hj e k (by omega)
      split <;> omega
abbrev mem (xs : List Str) (i : Nat) : Str → Bool := fun k => decide (k ∈ xs.take i)
theorem mem_succ {xs : List Str} {i : Nat} (h : i < xs.length) (k : Str) : mem xs (i + 1) k = (mem xs i k || decide (k = xs.getD i Str.empty)) := by
  have e : xs.getD i Str.empty = xs[i] := by rw [List.getD_eq_getElem?_getD, List.getElem?_eq_getElem h] <;> rfl
  rw [e, ← Bool.decide_or]
  exact decide_eq_decide.mpr (by rw [List.take_succ_eq_append_getElem h, List.mem_append, List.mem_singleton])
section
variable {prog : Program} {w : World} {A : Around} {R : Result → Shared → Prop} {it : Addr} {fp wr : List Addr} {G : Array GenState → Array GenState → Prop} {n : Nat} {T : Nat → Value → Prop} {Z : Nat → Shared → Prop}
theorem fill (W : WalksS prog w A.in1 it fp wr G n T Z) (a : Addr) (out : a ∉ fp) (xs : List Str) (len : xs.length = n) (few : n ≤ 4000) (txt : ∀ i v, T i v → ∃ t, v = .str (xs.getD i Str.empty) t) :
    ∀ (k i : Nat) (s : Shared), n - i = k → i ≤ n → Z i s → s.heap.SetOf (strKind prog w) a (mem xs i) (cnt xs i) →
      (∀ s', Moved (a :: wr) G s s' → s'.heap.SetOf (strKind prog w) a (mem xs n) (cnt xs n) → R (.ok (.ret .none)) s') → codeAny (model prog w) A (.builtin "set.update.loop" ⟨[.ref a, .ref it], []⟩) R s := by
  have out' : a ∉ wr := fun h => out (W.sub _ h)
  intro k
  induction k with
  | zero =>
    intro i s hk hi hst hS fin
    cases (show n = i by omega)
    refine codeAny_builtin F.entry_set_update_loop (by
      rw [Around.under_plainId F.plain_set_update_loop _]
      refine wpAny_bind (m := pyNext (.ref it)) (W.done s _ _ hst fun s' hm => ?_)
      refine wpAny_pure (fin s' (hm.mono fun b h => List.mem_cons_of_mem _ h) ?_)
      obtain ⟨o, es, ep, t, ho, rest⟩ := hS
      exact ⟨o, es, ep, t, hm.heap a _ out' ho, rest⟩)
  | succ k ih =>
    intro i s hk hi hst hS fin
    have lt : i < n := by omega
    refine codeAny_builtin F.entry_set_update_loop (by
      rw [Around.under_plainId F.plain_set_update_loop _]
      refine wpAny_bind (m := pyNext (.ref it)) (W.item i s _ _ lt hst fun v s1 hv st1 hm => ?_)
      obtain ⟨t, rfl⟩ := txt i v hv
      have S1 : s1.heap.SetOf (strKind prog w) a (mem xs i) (cnt xs i) := let ⟨o, es, ep, tb, ho, rest⟩ := hS; ⟨o, es, ep, tb, hm.heap a _ out' ho, rest⟩
      refine wpAny_bind (m := holding [Value.str (xs.getD i Str.empty) t] (setAdd a (.str (xs.getD i Str.empty) t))) (wpAny_holding ?_)
      unfold setAdd
      refine wpAny_holding (wpAny_bind ((strKind prog w).pyHash (k := xs.getD i Str.empty) (strKind_is _ _ _ _) ?_))
      have room : cnt xs i + 1 < scanBound := by
        have := cnt_le xs i
        unfold scanBound
        omega
      refine wpAny_setAddHashed_of (knd := strKind prog w) (s := { s1 with toks := s1.toks + 1 }) (strKind_is _ _ _ _) rfl S1 room fun h' sb S2 => ?_
      have S3 : h'.SetOf (strKind prog w) a (mem xs (i + 1)) (cnt xs (i + 1)) := SetOf_congr S2 (fun k' => (mem_succ (by omega) k').symm) (by
        rw [cnt_succ]
        by_cases hm : xs.getD i Str.empty ∈ xs.take i
        · rw [if_pos hm, if_pos (decide_eq_true hm)]
        · rw [if_neg hm, if_neg (fun z => hm (of_decide_eq_true z))])
      refine wpAny_pure ⟨plainId_quiet F.plain_set_update_loop _, ih (i + 1) _ (by omega) lt (W.frame _ s1 _ _ st1 (Nat.le_succ _) fun b hb o e => (sb.2 b fun h : b = a => out (h ▸ hb)).trans e) S3 fun s2 m2 S4 => fin s2 ?_ S4⟩
      exact Moved.trans W.gtrans ((hm.mono fun b h => List.mem_cons_of_mem _ h).then_heap (Nat.le_succ _) fun b o hb e => (sb.2 b fun h : b = a => hb (h ▸ List.mem_cons_self)).trans e) m2)
end
section
variable {prog : Program} {w : World} {A : Around} {E : Value → Shared → Prop} {s : Shared}
/-- a set that holds nothing yet -/
abbrev bare (led : Bool) : Obj := { cls := .type "set", dict := none, data := .set #[] 0 (.fresh 0 0 led) }
abbrev made (s : Shared) (led : Bool) : Shared := { s with heap := s.heap.push (bare led) }
/-- what stands behind set(xs) -/
def Filled (prog : Program) (w : World) (s : Shared) (xs : List Str) (h : Heap) : Prop :=
  h.SetOf (strKind prog w) s.heap.objs.size (mem xs xs.length) (cnt xs xs.length) ∧ ∀ b o, b < s.heap.objs.size → s.heap.get? b = some o → h.get? b = some o
theorem init_set {l : Addr} {items : Array Value} {xs : List Str} {led : Bool} (calm : A.handled = none) (hl : s.heap.IsList l items) (ht : StrsAre items.toList xs) (few : xs.length ≤ 4000)
    {Q : PySem.Fin → Shared → Prop} (fin : ∀ h' tk, Filled prog w s xs h' → Q (.done (.ret .none)) { s with heap := h', toks := tk }) :
    wpAny (model prog w) A (Builtin.«set.__init__» ⟨[Value.ref s.heap.objs.size, Value.ref l], []⟩) Q E (made s led) := by
  have new : (made s led).heap.get? s.heap.objs.size = some (bare led) := Heap.get?_push_size _ rfl
  obtain ⟨o, ho, hc, nl, hd⟩ := hl
  obtain ⟨oc, od, oe, os⟩ := o
  cases hc
  cases hd
  have hl : s.heap.IsList l items := ⟨_, ho, rfl, nl, rfl⟩
  have ho1 : (made s led).heap.get? l = some { cls := .type "list", dict := od, data := .seq items nl, slots := os } := Heap.get?_push_of_some _ ho
  have hl1 : (made s led).heap.IsList l items := ⟨_, ho1, rfl, nl, rfl⟩
  have f1 := F.sub_list_set
  have f2 := F.sub_list_frozenset
  have f3 : (Value.type "list" == Value.type "dict") = false := by decide
  have lt : l < s.heap.objs.size := Heap.lt_size ho
  have sz : (made s led).heap.objs.size = s.heap.objs.size + 1 := Heap.size_push _ _
  have tx : xs.length = items.size := by rw [← StrsAre.len_eq ht, Array.length_toList]
  unfold Builtin.«set.__init__» noKeywords Builtin.Frozenset.updateFrom
  unfold made at *
  generalize hPI : pyIter = PI
  wp_walk
  subst hPI
  refine wpAny_pyIter_list hl1 (wpAny_bind (wpAny_runValue ?_))
  have apart : l ≠ (s.heap.push (bare led)).objs.size := by rw [sz]; exact Nat.ne_of_lt (Nat.lt_succ_of_lt lt)
  have out : s.heap.objs.size ∉ [(s.heap.push (bare led)).objs.size, l] := by
    rw [sz]
    simp only [List.mem_cons, List.not_mem_nil, or_false, not_or]
    exact ⟨Nat.ne_of_lt (Nat.lt_succ_self _), Nat.ne_of_gt lt⟩
  have at0 : ((s.heap.push (bare led)).push { cls := .type "list_iterator", data := .fields #[.ref l, .int 0 0] }).get? s.heap.objs.size = some (bare led) := Heap.get?_push_of_some _ new
  refine fill ((Walks.list (by simp [calm]) _ l apart items).toS) s.heap.objs.size out xs tx (by omega) (fun i v hv => SS.strs_at ht i v (by rw [Array.getElem?_toList]; exact hv)) (items.size - 0) 0 _ (by omega) (Nat.zero_le _) ⟨⟨_, Heap.get?_push_size _ rfl, rfl, rfl⟩, (hl1.push _)⟩
    (SetOf_congr ((setObjOf_fresh (knd := strKind prog w) led).setOf at0 (by unfold scanBound; omega)) (fun _ => rfl) rfl) fun s2 mv S2 => ?_
  obtain ⟨h2, g2, d2, tk, os2⟩ := s2
  cases (show g2 = s.gens from mv.gens)
  cases (show d2 = s.drawn from mv.drawn)
  cases (show os2 = s.os from mv.os)
  refine wpAny_pure (wpAny_pure (fin h2 tk ⟨by rw [tx]; exact S2, fun b o hb e => mv.heap b o ?_ (Heap.get?_push_of_some _ (Heap.get?_push_of_some _ e))⟩))
  simp only [List.mem_cons, List.not_mem_nil, or_false, not_or]
  exact ⟨Nat.ne_of_lt hb, by rw [sz]; exact Nat.ne_of_lt (Nat.lt_succ_of_lt hb)⟩
set_option maxHeartbeats 1600000 in
theorem call_set {l : Addr} {items : Array Value} {xs : List Str} {Q : Value → Shared → Prop} (calm : A.handled = none) (hl : s.heap.IsList l items) (ht : StrsAre items.toList xs) (few : xs.length ≤ 4000)
    (fin : ∀ (h' : Heap) (tk : Nat), Filled prog w s xs h' → Q (.ref s.heap.objs.size) { s with heap := h', toks := tk }) : wpAny (model prog w) A (call (.type "set") [.ref l]) Q E s := by
  obtain ⟨c, tl, hmro⟩ := F.called_set.mro
  have k1 := F.called_set.made
  have k2 := F.called_set.sub
  have k3 := F.called_set.notType
  have k4 := F.called_set.canCreate
  have k5 := F.typeCall_set_1 (.ref l)
  refine wpAny_call (codeAny_of_tree (wpAny_pure (M := model prog w) ⟨Code.quiet_builtin _ (by decide +kernel), codeAny_builtin F.entry_type_call ?_⟩))
  rw [Around.under_plain (weight_type_call_type "set" [.ref l] []) rfl]
  repeat (any_goals (first | assumption | wp_step))
  refine codeAny_mono (code_set_new_1 (.ref l) (E := E) (Q₁ := fun x s1 => ∃ led : Bool, x = .ref s.heap.objs.size ∧ s1 = made s led) fun led => ⟨led, rfl, rfl⟩) fun r s1 hr => ?_
  rcases r with e | (_ | _ | _ | x)
  · exact hr
  · exact hr.elim
  · exact hr.elim
  · exact hr.elim
  obtain ⟨led, rfl, rfl⟩ := hr
  have ty : Shared.TypeIs (made s led) (.ref s.heap.objs.size) "set" := ⟨_, Heap.get?_push_size _ rfl, rfl⟩
  have b1 := F.called_set.init.lookup
  have b2 := F.called_set.init.bind (.ref s.heap.objs.size)
  repeat (any_goals (first | assumption | wp_step))
  refine codeAny_call_builtin F.called_set.init.plain F.entry_set_init (check_set_init_1 ty (init_set (by simp [calm]) hl ht few fun h' tk fl => ?_))
  refine wpAny_pure ?_
  repeat (any_goals (first | assumption | wp_step))
  exact fin _ _ fl
end
section
variable {X : L2.Cx}
open L2
theorem strsAre : ∀ {xs : List Str} {us : List Value}, Vals (xs.map V.str) us → StrsAre us xs
  | [], _, r => by cases r; exact .nil
  | x :: xs, _, r => by
    cases r with
    | cons a b =>
      obtain ⟨t, rfl⟩ := a
      exact .cons x t (strsAre b)
/-- len(set(xs)), xs a list of texts -/
def tLenS (K : PySem.W.Frag) (ta : TE) : TE := fun σ H Q => ta σ H fun x H1 => ∃ (l : Addr) (xs : List Str), x = .ref l ∧ SqL K H1 l (xs.map V.str) ∧ xs.length ≤ 4000 ∧ Q (.int (cnt xs xs.length : Nat)) H1
theorem pe_lenS {a : Expr} {ta : TE} {p p2 q pos : Pos} (hg : Gl X "len") (hm : X.mg "len" = none) (hg2 : Gl X "set") (hm2 : X.mg "set" = none) (ha : PE X a ta) (calm : X.calm = true := by rfl)
    (one : starEach [a] X.env = (false, eval a X.env) :: starEach [] X.env := by rfl) : PE X (.Call (.Name "len" p) [.Call (.Name "set" p2) [a] [] q] [] pos) (tLenS X.K ta) := by
  refine ⟨fun pins s σ H Q I h => Call_ (ld_blt I hg hm boot_len (callWith_builtin1 (args_cons (Call_ (ld_blt I hg2 hm2 boot_set ?_)) rfl) rfl rfl))⟩
  refine callWith_type1 (args_cons (thn (ha.run pins s σ H _ I h) fun v s1 ⟨x, H1, I1, r1, l, xs, e, hq, few, fin⟩ => args_nil ?_) one) one rfl
  subst e
  cases r1
  obtain ⟨its, r, pl, hz⟩ := I1.list hq
  refine call_set (I1.ok.hd calm) pl.isList (by simpa using strsAre r) few fun h' tk fl => args_nil ?_
  obtain ⟨⟨o, es, ep, t, ho, hex, hd, _, _, _, hf, hn⟩, hk⟩ := fl
  have small : cnt xs xs.length ≤ 4000 := Nat.le_trans (cnt_le xs _) few
  have I2 : L2.Inv X pins σ H1 { s1 with heap := h', toks := tk } := I1.kept fun b o e => hk b o (Heap.lt_size e) e
  exact call_len_set ho hex hd hf (by rw [hn]; omega) ⟨.int (cnt xs xs.length : Nat), H1, I2.tok _, ⟨_, by rw [hn]⟩, fin⟩
end
end SetStr
end

-- SetSort
section
set_option Elab.async false
set_option linter.all false
set_option maxRecDepth 100000
/-! sorted(set(t)), t a tuple of texts: some of them, in a new list. -/
namespace SetSort
open PySem PySem.Spec PyProof.Rows L2
/-- at a a set of texts, all of them among ys, with a table that can be walked -/
def TxtR (P : Program) (w : World) (h : Heap) (a : Addr) (ys : List Str) : Prop :=
  ∃ o ez ep tb, h.get? a = some o ∧ o.ExactSet ∧ o.data = .set ez ep tb ∧ ElemsOf (strKind P w) ez.toList ∧ (∀ e ∈ ez.toList, ∃ y tk, e.2 = Value.str y tk ∧ y ∈ ys) ∧ ez.size < scanBound ∧ tb.fits ez.size = true ∧
    Ris tb.place.toList ∧ (w.params.followText "set-order" = true ∨ tb.led = true) ∧ ez.size ≤ ys.length ∧ (ys ≠ [] → 0 < ez.size)
theorem TxtR.at {P : Program} {w : World} {h h' : Heap} {a : Addr} {ys : List Str} (r : TxtR P w h a ys) (k : ∀ o, h.get? a = some o → h'.get? a = some o) : TxtR P w h' a ys := by
  obtain ⟨o, ez, ep, tb, ho, r⟩ := r
  exact ⟨o, ez, ep, tb, k o ho, r⟩
section
variable {P : Program} {w : World} {A : Around} {E : Value → Shared → Prop} {s : Shared} {a : Addr}
theorem tail_t {quiet : Bool → Sem Unit} (hq : ∀ (b : Bool) (s1 : Shared) (Q1 : Unit → Shared → Prop), Q1 () s1 → wpAny (model P w) A (quiet b) Q1 E s1) {o : Obj} {e0 : Array (Int × Value)} {ep : Nat} {t0 : SetTable} (ho : s.heap.get? a = some o) (hex : o.ExactSet)
    (hd : o.data = .set e0 ep t0) {ez : Array (Int × Value)} {tb : SetTable} {ys : List Str} (el : ElemsOf (strKind P w) ez.toList) (mem : ∀ e ∈ ez.toList, ∃ y tk, e.2 = Value.str y tk ∧ y ∈ ys) (bd : ez.size < scanBound) (ft : tb.fits ez.size = true) (ri : Ris tb.place.toList)
    (le : w.params.followText "set-order" = true ∨ tb.led = true) (len : ez.size ≤ ys.length) (pos : 0 < ez.size) {dum : Bool} {R : Option Bool → Shared → Prop} (fin : ∀ h', Heap.SameBut a s.heap h' → TxtR P w h' a ys → R (some true) { s with heap := h' }) :
    wpAny (model P w) A (do
        storeSet a ez tb
        if (!dum && tb.tooFull) = true then do
            quiet (relayAll tb ez (SetTable.grown ez.size)).2.2
            storeSet a (relayAll tb ez (SetTable.grown ez.size)).1 (relayAll tb ez (SetTable.grown ez.size)).2.1
            pure (some true)
          else pure (some true)) R E s := by
  refine wpAny_bind (wpAny_storeSet_of ho hd ?_ (fits_of_scanBound bd))
  have o1 := store_at (es' := ez) (t' := tb) ho hd
  have b1 := Heap.SameBut.update s.heap a (Obj.putSet ez tb)
  split
  · have perm := relayAll_perm tb ez (SetTable.grown ez.size)
    have ft2 := relayAll_fits tb ez (SetTable.grown ez.size)
    have ri2 := relayAll_ris tb ez (SetTable.grown ez.size)
    have le2 := relayAll_led tb ez (SetTable.grown ez.size)
    generalize relayAll tb ez (SetTable.grown ez.size) = Y at perm ft2 ri2 le2 ⊢
    obtain ⟨ew, tw, gv⟩ := Y
    dsimp only at perm ft2 ri2 le2 ⊢
    have same : ew.size = ez.size := by rw [← Array.length_toList, perm.length_eq, Array.length_toList]
    have bd2 : ew.size < scanBound := by rw [same]; exact bd
    refine wpAny_bind (hq _ _ _ (wpAny_bind (wpAny_storeSet_of o1 rfl ?_ (fits_of_scanBound bd2))))
    refine wpAny_pure (fin _ (b1.trans (Heap.SameBut.update _ a _)) ⟨_, ew, _, tw, store_at (es' := ew) (t' := tw) o1 rfl, hex, rfl, fun e he => el e (perm.mem_iff.mp he), fun e he => mem e (perm.mem_iff.mp he), bd2, ft2, ri2, le.imp id fun z => by rw [le2]; exact z, by rw [same]; exact len, fun _ => by rw [same]; exact pos⟩)
  · exact wpAny_pure (fin _ b1 ⟨_, ez, _, tb, o1, hex, rfl, el, mem, bd, ft, ri, le, len, fun _ => pos⟩)
theorem add_t {y : Str} {tk : Tok} {ys : List Str} {Q : Bool → Shared → Prop} (r : TxtR P w s.heap a ys) (room : ys.length + 1 < scanBound)
    (fin : ∀ b h', Heap.SameBut a s.heap h' → TxtR P w h' a (ys ++ [y]) → Q b { s with heap := h' }) : wpAny (model P w) A (setAddHashed a (.str y tk) ((strKind P w).hash y)) Q E s := by
  obtain ⟨o, e0, ep, t0, ho, hex, hd, el, mem, bd, ft, ri, le, len, pos⟩ := r
  have key : (strKind P w).is y (.str y tk) = true := strKind_is P w y tk
  have scan : (Value.str y tk).scannable = true := rfl
  have mem' : ∀ e ∈ e0.toList, ∃ z u, e.2 = Value.str z u ∧ z ∈ ys ++ [y] := fun e he => let ⟨z, u, h1, h2⟩ := mem e he; ⟨z, u, h1, List.mem_append_left _ h2⟩
  have len2 : (ys ++ [y]).length = ys.length + 1 := by rw [List.length_append]; rfl
  unfold setAddHashed; unfold setAddHashedIn
  refine wpAny_holding (wpAny_bind (wpAny_setState_of ho hd ft ?_))
  dsimp only
  rw [byScan_of scan bd el]; simp only [↓reduceIte]
  unfold setAddByScan
  refine wpAny_bind (wpAny_bind (wpAny_rule (wpAny_bind (wpAny_setScan_of key ho hd ft el ?_))))
  cases hfi : List.findIdx? (fun e => (strKind P w).is y e.2) e0.toList with
  | some j =>
    dsimp only
    obtain ⟨hj, _, _⟩ := List.findIdx?_eq_some_iff_getElem.mp hfi
    have pos0 : 0 < e0.size := by rw [← Array.length_toList]; omega
    refine wpAny_pure (wpAny_pure (fin _ s.heap (Heap.SameBut.refl a s.heap) ⟨o, e0, ep, t0, ho, hex, hd, el, mem', bd, ft, ri, le, by rw [len2]; omega, fun _ => pos0⟩))
  | none =>
    dsimp only
    have give : ∀ (b : Bool) {s1 : Shared} {Q1 : Unit → Shared → Prop}, Q1 () s1 → wpAny (model P w) A (match b with | true => rule "set.scan.the-table-gave-way" | false => pure ()) Q1 E s1 := fun b s1 Q1 q => by
      cases b
      · exact wpAny_pure q
      · exact wpAny_rule q
    have perm := layNew_perm t0 e0 ((strKind P w).hash y) (.str y tk)
    have ft1 := layNew_fits t0 e0 ((strKind P w).hash y) (.str y tk)
    have ri1 := layNew_ris t0 e0 ((strKind P w).hash y) (.str y tk) ri
    have le1 := layNew_led t0 e0 ((strKind P w).hash y) (.str y tk)
    generalize layNew t0 e0 ((strKind P w).hash y) (.str y tk) = Y at perm ft1 ri1 le1 ⊢
    obtain ⟨ez, tb, dum, gv⟩ := Y
    dsimp only at perm ft1 ri1 le1 ⊢
    rw [Array.toList_push] at perm
    have pc : ez.toList.Perm (((strKind P w).hash y, Value.str y tk) :: e0.toList) := perm.trans (List.perm_append_singleton _ _)
    have el1 : ElemsOf (strKind P w) ez.toList := fun e he => by
      rcases List.mem_cons.mp (pc.mem_iff.mp he) with z | z
      · rw [z]
        exact ⟨⟨y, key, rfl⟩, rfl⟩
      · exact el e z
    have mem1 : ∀ e ∈ ez.toList, ∃ z u, e.2 = Value.str z u ∧ z ∈ ys ++ [y] := fun e he => by
      rcases List.mem_cons.mp (pc.mem_iff.mp he) with z | z
      · rw [z]
        exact ⟨y, tk, rfl, List.mem_append_right _ (List.mem_singleton.mpr rfl)⟩
      · exact mem' e z
    have size1 : ez.size = e0.size + 1 := by rw [← Array.length_toList, pc.length_eq, List.length_cons, Array.length_toList]
    have bd1 : ez.size < scanBound := by omega
    have lead : w.params.followText "set-order" = true ∨ tb.led = true := le.imp id fun z => by rw [le1]; exact z
    refine wpAny_bind (give _ ?_)
    split
    · refine wpAny_bind ?_
      rw [hashByValue_scannable 8 scan]
      refine wpAny_pure (tail_t (ys := ys ++ [y]) (fun b s1 Q1 q => give b q) ho hex hd el1 mem1 bd1 ?_ ?_ ?_ (by omega) (by omega) fun h' sb r => wpAny_pure (fin true h' sb r))
      · first | (split <;> first | exact ft1 | exact SetTable.fits_plain_off ft1) | exact ft1
      · first | (split <;> exact ri1) | exact ri1
      · first | (split <;> exact lead) | exact lead
    · refine wpAny_bind (wpAny_pure ?_)
      simp only [↓reduceIte]; exact tail_t (ys := ys ++ [y]) (fun b s1 Q1 q => give b q) ho hex hd el1 mem1 bd1 ft1 ri1 lead (by omega) (by omega) fun h' sb r => wpAny_pure (fin true h' sb r)
end
section
variable {P : Program} {w : World} {A : Around} {R : Result → Shared → Prop} {it : Addr} {fp wr : List Addr} {G : Array GenState → Array GenState → Prop} {n : Nat} {T : Nat → Value → Prop} {Z : Nat → Shared → Prop}
theorem fill_t (W : WalksS P w A.in1 it fp wr G n T Z) (a : Addr) (out : a ∉ fp) (xs : List Str) (len : xs.length = n) (few : n ≤ 1000) (txt : ∀ i v, T i v → ∃ t, v = Value.str (xs.getD i Str.empty) t) :
    ∀ (k i : Nat) (s : Shared), n - i = k → i ≤ n → Z i s → TxtR P w s.heap a (xs.take i) →
      (∀ s', Moved (a :: wr) G s s' → TxtR P w s'.heap a xs → R (.ok (.ret .none)) s') → codeAny (model P w) A (.builtin "set.update.loop" ⟨[.ref a, .ref it], []⟩) R s := by
  have out' : a ∉ wr := fun h => out (W.sub _ h)
  intro k
  induction k with
  | zero =>
    intro i s hk hi hst hS fin
    cases (show n = i by omega)
    rw [← len, List.take_length] at hS
    refine codeAny_builtin F.entry_set_update_loop (by
      rw [Around.under_plainId F.plain_set_update_loop _]
      refine wpAny_bind (m := pyNext (.ref it)) (W.done s _ _ hst fun s' mv => wpAny_pure (fin s' (mv.mono fun b h => List.mem_cons_of_mem _ h) (hS.at fun o e => mv.heap a o out' e))))
  | succ k ih =>
    intro i s hk hi hst hS fin
    have lt : i < n := by omega
    refine codeAny_builtin F.entry_set_update_loop (by
      rw [Around.under_plainId F.plain_set_update_loop _]
      refine wpAny_bind (m := pyNext (.ref it)) (W.item i s _ _ lt hst fun v s1 hv st1 mv => ?_)
      obtain ⟨t, rfl⟩ := txt i v hv
      have S1 : TxtR P w s1.heap a (xs.take i) := hS.at fun o e => mv.heap a o out' e
      refine wpAny_bind (m := holding [Value.str (xs.getD i Str.empty) t] (setAdd a (.str (xs.getD i Str.empty) t))) (wpAny_holding ?_)
      unfold setAdd
      refine wpAny_holding (wpAny_bind ((strKind P w).pyHash (k := xs.getD i Str.empty) (strKind_is _ _ _ _) ?_))
      refine add_t (s := { s1 with toks := s1.toks + 1 }) S1 (by rw [List.length_take]; unfold scanBound; omega) fun b h' sb S2 => ?_
      have e : xs.take i ++ [xs.getD i Str.empty] = xs.take (i + 1) := by
        have lt2 : i < xs.length := by omega
        rw [List.take_succ, List.getElem?_eq_getElem lt2, List.getD_eq_getElem?_getD, List.getElem?_eq_getElem lt2]
        rfl
      rw [e] at S2
      refine wpAny_pure ⟨plainId_quiet F.plain_set_update_loop _, ih (i + 1) _ (by omega) lt (W.frame _ s1 _ _ st1 (Nat.le_succ _) fun b hb o e => (sb.2 b fun h : b = a => out (h ▸ hb)).trans e) S2 fun s2 m2 S4 => fin s2 ?_ S4⟩
      exact Moved.trans W.gtrans ((mv.mono fun b h => List.mem_cons_of_mem _ h).then_heap (Nat.le_succ _) fun b o hb e => (sb.2 b fun h : b = a => hb (h ▸ List.mem_cons_self)).trans e) m2)
end
theorem strs_some {ys : List Str} : ∀ vs : List Value, (∀ v ∈ vs, ∃ y tk, v = Value.str y tk ∧ y ∈ ys) → ∃ zs, StrsAre vs zs ∧ ∀ z ∈ zs, z ∈ ys
  | [], _ => ⟨[], .nil, fun _ h => (nomatch h)⟩
  | v :: r, h => by
    obtain ⟨y, tk, rfl, hy⟩ := h v List.mem_cons_self
    obtain ⟨zs, h1, h2⟩ := strs_some r fun u hu => h u (List.mem_cons_of_mem _ hu)
    exact ⟨y :: zs, .cons y tk h1, fun z hz => (List.mem_cons.mp hz).elim (fun e => by rw [e]; exact hy) (h2 z)⟩
section
variable {P : Program} {w : World} {A : Around} {E : Value → Shared → Prop} {s : Shared}
abbrev bare (w : World) : Obj := { cls := .type "set", dict := none, data := .set #[] 0 (.fresh 0 0 (!w.params.followText "set-order")) }
abbrev made (w : World) (s : Shared) : Shared := { s with heap := s.heap.push (bare w) }
theorem fresh_t (s : Shared) {h : Heap} (k : ∀ o, (made w s).heap.get? s.heap.objs.size = some o → h.get? s.heap.objs.size = some o) : TxtR P w h s.heap.objs.size [] :=
  ⟨_, #[], 0, _, k _ (Heap.get?_push_size _ rfl), ⟨rfl, rfl, rfl⟩, rfl, (fun e he => by simp at he), (fun e he => by simp at he), (by decide), (by rfl), List.Pairwise.nil, by
    show _ ∨ (!w.params.followText "set-order") = true
    cases w.params.followText "set-order"
    · exact .inr rfl
    · exact .inl rfl, Nat.le_refl _, fun z => absurd rfl z⟩
theorem code_led (a : Value) {Q1 : Value → Shared → Prop} (h : Q1 (.ref s.heap.objs.size) (made w s)) : codeAny (model P w) A (.call (.builtin "set.__new__") ⟨[.type "set", a], []⟩) (wants Q1 E) s := by
  refine codeAny_of_tree (show wpAny _ A.in1 (do checkBuiltinCall "set.__new__" ⟨[.type "set", a], []⟩; again (.builtin "set.__new__" ⟨[.type "set", a], []⟩)) _ _ s from ?_)
  refine wpAny_bind (wpAny_of_eq (F.newCall_set_1 a) (wpAny_pure ⟨plainId_quiet F.plain_set_new _, codeAny_builtin F.entry_set_new (by
    rw [Around.under_plainId F.plain_set_new _]
    unfold Builtin.«set.__new__»; unfold Builtin.Frozenset.newClass
    have sub := sub_set_self
    obtain ⟨hp, g, d, tk, os⟩ := s
    dsimp only
    wp_walk
    refine wpAny_askSetting (wpAny_pure (by
      dsimp only
      simp only [newObj]
      refine wpAny_bind (wpAny_alloc (wpAny_pure (wpAny_pure h))))))⟩))
/-- what stands behind set(t) -/
def Filled (P : Program) (w : World) (s : Shared) (xs : List Str) (h : Heap) : Prop := TxtR P w h s.heap.objs.size xs ∧ ∀ b o, b < s.heap.objs.size → s.heap.get? b = some o → h.get? b = some o
theorem init_t {l : Addr} {items : Array Value} {xs : List Str} (calm : A.handled = none) (hl : s.heap.IsTuple l items) (ht : StrsAre items.toList xs) (few : xs.length ≤ 1000)
    {Q : PySem.Fin → Shared → Prop} (fin : ∀ h' tk, Filled P w s xs h' → Q (.done (.ret .none)) { s with heap := h', toks := tk }) :
    wpAny (model P w) A (Builtin.«set.__init__» ⟨[Value.ref s.heap.objs.size, Value.ref l], []⟩) Q E (made w s) := by
  have new : (made w s).heap.get? s.heap.objs.size = some (bare w) := Heap.get?_push_size _ rfl
  obtain ⟨o, ho, hc, nl, hd⟩ := hl
  obtain ⟨oc, od, oe, os⟩ := o
  cases hc
  cases hd
  have hl : s.heap.IsTuple l items := ⟨_, ho, rfl, nl, rfl⟩
  have ho1 : (made w s).heap.get? l = some { cls := .type "tuple", dict := od, data := .seq items nl, slots := os } := Heap.get?_push_of_some _ ho
  have hl1 : (made w s).heap.IsTuple l items := ⟨_, ho1, rfl, nl, rfl⟩
  have f1 := F.sub_tuple_set
  have f2 := F.sub_tuple_frozenset
  have f3 : (Value.type "tuple" == Value.type "dict") = false := by decide
  have lt : l < s.heap.objs.size := Heap.lt_size ho
  have sz : (made w s).heap.objs.size = s.heap.objs.size + 1 := Heap.size_push _ _
  have tx : xs.length = items.size := by rw [← StrsAre.len_eq ht, Array.length_toList]
  unfold Builtin.«set.__init__»; unfold noKeywords; unfold Builtin.Frozenset.updateFrom
  unfold made at *
  generalize hPI : pyIter = PI
  wp_walk
  subst hPI
  refine wpAny_pyIter_tuple hl1 (wpAny_bind (wpAny_runValue ?_))
  have apart : l ≠ (s.heap.push (bare w)).objs.size := by rw [sz]; exact Nat.ne_of_lt (Nat.lt_succ_of_lt lt)
  have out : s.heap.objs.size ∉ [(s.heap.push (bare w)).objs.size, l] := by
    rw [sz]
    simp only [List.mem_cons, List.not_mem_nil, or_false, not_or]
    exact ⟨Nat.ne_of_lt (Nat.lt_succ_self _), Nat.ne_of_gt lt⟩
  refine fill_t ((Walks.tuple (by simp [calm]) _ l apart items).toS) s.heap.objs.size out xs tx (by omega) (fun i v hv => SS.strs_at ht i v (by rw [Array.getElem?_toList]; exact hv)) (items.size - 0) 0 _ (by omega) (Nat.zero_le _) ⟨⟨_, Heap.get?_push_size _ rfl, rfl, rfl⟩, (hl1.push _)⟩
    (by rw [List.take_zero]; exact fresh_t s fun o e => Heap.get?_push_of_some _ e) fun s2 mv S2 => ?_
  obtain ⟨h2, g2, d2, tk, os2⟩ := s2
  cases (show g2 = s.gens from mv.gens)
  cases (show d2 = s.drawn from mv.drawn)
  cases (show os2 = s.os from mv.os)
  refine wpAny_pure (wpAny_pure (fin h2 tk ⟨S2, fun b o hb e => mv.heap b o ?_ (Heap.get?_push_of_some _ (Heap.get?_push_of_some _ e))⟩))
  simp only [List.mem_cons, List.not_mem_nil, or_false, not_or]
  exact ⟨Nat.ne_of_lt hb, by rw [sz]; exact Nat.ne_of_lt (Nat.lt_succ_of_lt hb)⟩
set_option maxHeartbeats 1600000 in
theorem call_t {l : Addr} {items : Array Value} {xs : List Str} {Q : Value → Shared → Prop} (calm : A.handled = none) (hl : s.heap.IsTuple l items) (ht : StrsAre items.toList xs) (few : xs.length ≤ 1000)
    (fin : ∀ (h' : Heap) (tk : Nat), Filled P w s xs h' → Q (.ref s.heap.objs.size) { s with heap := h', toks := tk }) : wpAny (model P w) A (call (.type "set") [.ref l]) Q E s := by
  obtain ⟨c, tl, hmro⟩ := F.called_set.mro
  have k1 := F.called_set.made
  have k2 := F.called_set.sub
  have k3 := F.called_set.notType
  have k4 := F.called_set.canCreate
  have k5 := F.typeCall_set_1 (.ref l)
  refine wpAny_call (codeAny_of_tree (wpAny_pure (M := model P w) ⟨Code.quiet_builtin _ (by decide +kernel), codeAny_builtin F.entry_type_call ?_⟩))
  rw [Around.under_plain (weight_type_call_type "set" [.ref l] []) rfl]
  repeat (any_goals (first | assumption | wp_step))
  refine codeAny_mono (code_led (.ref l) (E := E) (Q1 := fun x s1 => x = .ref s.heap.objs.size ∧ s1 = made w s) ⟨rfl, rfl⟩) fun r s1 hr => ?_
  rcases r with e | (_ | _ | _ | x)
  · exact hr
  · exact hr.elim
  · exact hr.elim
  · exact hr.elim
  obtain ⟨rfl, rfl⟩ := hr
  have ty : Shared.TypeIs (made w s) (.ref s.heap.objs.size) "set" := ⟨_, Heap.get?_push_size _ rfl, rfl⟩
  have b1 := F.called_set.init.lookup
  have b2 := F.called_set.init.bind (.ref s.heap.objs.size)
  repeat (any_goals (first | assumption | wp_step))
  refine codeAny_call_builtin F.called_set.init.plain F.entry_set_init (check_set_init_1 ty (init_t (by simp [calm]) hl ht few fun h' tk fl => ?_))
  refine wpAny_pure ?_
  repeat (any_goals (first | assumption | wp_step))
  exact fin _ _ fl
/-- sorted of that set -/
theorem sorted_t {a : Addr} {ys : List Str} {Q : Value → Shared → Prop} (r : TxtR P w s.heap a ys) (calm : A.handled = none) (few : ys.length < 64)
    (fin : ∀ s' p (out : Array Value) (c : Nat) (zs : List Str), (∀ b o, s.heap.get? b = some o → s'.heap.get? b = some o) → s'.gens = s.gens → s'.os = s.os → s.heap.objs.size ≤ p →
      s'.heap.get? p = some (seqObj "list" out c) → StrsAre out.toList zs → (∀ z ∈ zs, z ∈ ys) → (ys ≠ [] → zs ≠ []) → zs.length ≤ ys.length → Q (.ref p) s') :
    wpAny (model P w) A (call (.builtin "sorted") [.ref a]) Q E s := by
  obtain ⟨o, ez, ep, tb, ho, hex, hd, el, mem, bd, ft, ri, le, len, pos⟩ := r
  refine Calls.call_function_entry kind_sorted plain_sorted entry_sorted (args_sorted1 _) (by
    unfold Builtin.«sorted»
    refine wpAny_bind (m := checkCount "sorted" 1 1 _) (wpAny_pure (wpAny_bind (collect_set (A := A.in1) calm ⟨o, ho, hex.1, hd⟩ ft bd ri le fun s1 vs k1 hz g1 o1 pm => ?_)))
    have vl : vs.length = ez.size := by rw [pm.length_eq, List.length_map, Array.length_toList]
    obtain ⟨zs, hz2, memz⟩ : ∃ zs, StrsAre vs zs ∧ ∀ z ∈ zs, z ∈ ys := strs_some vs fun v hv => by
      obtain ⟨e, he, q⟩ := List.mem_map.mp (pm.mem_iff.mp hv)
      obtain ⟨y, tk, h1, h2⟩ := mem e he
      exact ⟨y, tk, by rw [← q]; exact h1, h2⟩
    have zl : zs.length = ez.size := by rw [← StrsAre.len_eq hz2]; exact vl
    refine wpAny_bind (wpAny_newList ?_ (by rw [vl, sizeLine_eq]; omega))
    have hoL : (s1.heap.push (seqObj "list" vs.toArray 0)).get? s1.heap.objs.size = some (seqObj "list" vs.toArray 0) := Heap.get?_push_size _ rfl
    refine wpAny_bind (wpAny_holding (wpAny_call_entry slot_list_sort ⟨_, hoL, rfl⟩ entry_list_sort (list_sort_treeK PyProof.Rows.strKind_oneLt hoL hz2.keysOf (fun v1 v2 rest e => keyKind_strs (by rw [← e]; exact hz2)) (by omega) fun st' hp hs => ⟨_, rfl, ?_⟩) (args_list_sort _)))
    obtain ⟨us, a1, a2, a3⟩ := sorted_out_str hz2 hp hs
    obtain ⟨c, hc⟩ := sortedHeap_at (vs := vs) (out := (arrOf st').map (·.2)) hoL
    refine wpAny_pure ⟨_, rfl, fin _ s1.heap.objs.size _ c us (fun b u e => ?_) g1 o1 hz hc a1 (fun z hz => memz z (a2.mem_iff.mp hz)) (fun ne e => ?_) (by rw [a2.length_eq, zl]; exact len)⟩
    · have q := k1 b u e
      have lt := Heap.lt_size q
      show (sortedHeap (s1.heap.push (seqObj "list" vs.toArray 0)) s1.heap.objs.size vs _).get? b = some u
      rw [sortedHeap_old (Nat.ne_of_lt lt) (by rw [size_push']; exact Nat.lt_succ_of_lt lt)]
      exact Heap.get?_push_of_some _ q
    · have := pos ne
      have l2 := a2.length_eq
      rw [e, List.length_nil] at l2
      omega)
end
end SetSort
end

-- SetSort2
section
set_option Elab.async false
set_option linter.all false
set_option maxRecDepth 100000
set_option maxHeartbeats 1600000
namespace SetSort
open PySem PySem.Spec PyProof.Rows L2 SetStr
def tSortedS (K : PySem.W.Frag) (ta : TE) : TE := fun σ H Q => ta σ H fun x H1 => ∃ (l : Addr) (xs : List Str), x = .ref l ∧ SqT K H1 l (xs.map V.str) ∧ xs.length < 64 ∧ ∀ (zs : List Str) (p : Addr), (∀ z ∈ zs, z ∈ xs) → (xs ≠ [] → zs ≠ []) → zs.length ≤ xs.length → H1 p = none → Q (.ref p) (upd H1 p (.lst (zs.map V.str)))
theorem pe_sortedS {X : Cx} {a : Expr} {ta : TE} {p p2 q pos : Pos} (hg : Gl X "sorted") (hm : X.mg "sorted" = none) (hg2 : Gl X "set") (hm2 : X.mg "set" = none) (ha : PE X a ta) (calm : X.calm = true := by rfl)
    (one : starEach [a] X.env = (false, eval a X.env) :: starEach [] X.env := by rfl) : PE X (.Call (.Name "sorted" p) [.Call (.Name "set" p2) [a] [] q] [] pos) (tSortedS X.K ta) := by
  refine ⟨fun pins s σ H Q I h => Call_ (ld_blt I hg hm (show bootBuiltins "sorted" = some (.builtin "sorted") by decide +kernel) (callWith_builtin1 (args_cons (Call_ (ld_blt I hg2 hm2 boot_set ?_)) rfl) rfl rfl))⟩
  refine callWith_type1 (args_cons (thn (ha.run pins s σ H _ I h) fun v s1 ⟨x, H1, I1, r1, l, xs, e, hq, few, fin⟩ => args_nil ?_) one) one rfl
  subst e
  cases r1
  obtain ⟨its, r, pl, hz⟩ := I1.tuple hq
  refine call_t (I1.ok.hd calm) pl (by simpa using strsAre r) (by omega) fun h' tk fl => args_nil ?_
  obtain ⟨tx, hk⟩ := fl
  have old : ∀ b o, s1.heap.get? b = some o → h'.get? b = some o := fun b o e => hk b o (Heap.lt_size e) e
  have I2 : L2.Inv X pins σ H1 { s1 with heap := h', toks := tk } := I1.kept old
  refine sorted_t (s := { s1 with heap := h', toks := tk }) tx (I2.ok.hd calm) few fun s' p out c zs k g o hp hg hi hs ne hl => ?_
  have hn : H1 p = none := I2.hok.fresh hp
  have hlen : (zs.map V.str).length ≤ sizeLine := by rw [List.length_map, sizeLine_eq]; omega
  have k' : ∀ b u, s1.heap.get? b = some u → s'.heap.get? b = some u := fun b u e => k b u (old b u e)
  have hp' : s1.heap.objs.size ≤ p := by
    obtain ⟨o, ez, ep, tb, ho, _⟩ := tx
    have := Heap.lt_size ho
    exact Nat.le_of_lt (Nat.lt_of_lt_of_le this hp)
  have J : Inv X pins σ (upd H1 p (.lst (zs.map V.str))) { s1 with heap := s'.heap, gens := s'.gens, drawn := s'.drawn, toks := s'.toks } :=
    I1.call (ch := []) (Un.laid k' hp' hn) (I1.hok.laid k' hp' ⟨hlen, out.toList, c, vals_of_strs hi, hg⟩) (by rw [g]; exact I1.bare) (fun _ z => nomatch z)
  have e : s' = { s1 with heap := s'.heap, gens := s'.gens, drawn := s'.drawn, toks := s'.toks } := by
    cases s'
    cases s1
    cases o
    rfl
  rw [e]
  exact ⟨.ref p, _, J, rfl, fin zs p hs ne hl hn⟩
end SetSort
end

-- B8c
section
set_option Elab.async false
set_option linter.all false
set_option maxRecDepth 100000
namespace R8
open PySem L2 OwnOps OwnNe G1 EqDict MinKey SetSort
abbrev sTally : Stmt := top 10
abbrev sShares : Stmt := top 21
/-- counts: whole numbers from 1 -/
def Cts (kvs : List (L2.Key × V)) : Prop := ∀ p ∈ kvs, ∃ n : Int, p.2 = .int n ∧ 1 ≤ n
theorem Cts.at_ {c : List (L2.Key × V)} (h : Cts c) {k : L2.Key} {x : V} (e : valV c k = some x) : ∃ n : Int, x = .int n ∧ 1 ≤ n := by
  unfold valV at e
  obtain ⟨p, hp, rfl⟩ := Option.map_eq_some_iff.mp e
  exact h p (List.mem_of_find?_eq_some hp)
theorem Cts.put {c : List (L2.Key × V)} (h : Cts c) (k : L2.Key) {n : Int} (hn : 1 ≤ n) : Cts (putK c k (.int n)) := by
  intro p hp
  unfold putK at hp
  by_cases e : (c.any fun kv => decide (kv.1 = k)) = true
  · rw [if_pos e] at hp
    obtain ⟨q, hq, rfl⟩ := List.mem_map.mp hp
    by_cases e2 : q.1 = k
    · rw [if_pos e2]
      exact ⟨n, rfl, hn⟩
    · rw [if_neg e2]
      exact h q hq
  · rw [if_neg e] at hp
    rcases List.mem_append.mp hp with hp | hp
    · exact h p hp
    · rw [List.mem_singleton.mp hp]
      exact ⟨n, rfl, hn⟩
theorem put_ne {c : List (L2.Key × V)} (k : L2.Key) (v : V) : putK c k v ≠ [] := fun e => by
  have := valV_put c k k v
  rw [e, if_pos rfl] at this
  cases this
theorem Cts.ints : ∀ {kvs : List (L2.Key × V)}, Cts kvs → ∃ ns : List Int, kvs.map (·.2) = ns.map V.int ∧ ns.length = kvs.length
  | [], _ => ⟨[], rfl, rfl⟩
  | p :: r, h => by
    obtain ⟨n, e, _⟩ := h p List.mem_cons_self
    obtain ⟨ns, e2, l⟩ := Cts.ints fun q hq => h q (List.mem_cons_of_mem _ hq)
    exact ⟨n :: ns, by rw [List.map_cons, List.map_cons, e, e2], congrArg (· + 1) l⟩
section
variable {P : Program} {w : World} {K : PySem.W.Frag} {mg : Str → Option Value} {base : Heap}
def spTally : Sp := fun vs H Q _ => ∃ (a : Addr) (xs : List Str), vs = [.ref a] ∧ H a = some (.lst (xs.map V.str)) ∧ xs.length ≤ 4000 ∧ ∀ d kvs H', Same H H' → H d = none → H' d = some (.dK kvs) → Cts kvs → (xs ≠ [] → kvs ≠ []) → Q (.ref d) H'
theorem ok_tally {f : Addr} {fd : FuncData} (F : Fun K "tally" "tally" sTally f fd) (T : Txt mg) : FnOk P w K mg base (L2.CX P w) 1 f fd ["values"] spTally := by
  have sc : FnScope ["values", "counts", "value"] ["values"] (defScope sTally) := ⟨rfl, rfl, rfl, by decide +kernel, rfl, by decide +kernel, by decide +kernel⟩
  refine F.okX sc (fun vs H Q E h => ?_) (fun cdv A outer s H vs Q E hr h => ?_)
  · obtain ⟨a, xs, rfl, _⟩ := h
    rfl
  · obtain ⟨a, xs, rfl, ha, few, fin⟩ := h
    have hu := hu_of hr
    refine ⟨_, pss_cons (ps_set (i := 1) sc.nd rfl (Or.inl rfl) pe_dnewK)
      (pss_cons (ps_for passOwn rfl (pi_list (pv 0)) (pg_name (i := 2) sc.nd rfl (Or.inl rfl))
        (pss_one (ps_dput hu (pv 1) (pv 2) (pe_op op_add (pe_dget2 hu (pv 1) (pv 2) pe_int ⟨rfl, rfl, rfl, rfl⟩) pe_int) rfl)))
      (pss_one (ps_ret (pv 1)))), ?_⟩
    intro d nd
    refine ⟨_, rfl, a, rfl, ⟨_, SqL.of (same_upd nd _ _ ha)⟩, for_it (walk_list (K := K) (a := a) (xs := xs.map V.str)) (fun j σ G => (∃ v2, σ = [some (.ref a), some (.ref d), v2]) ∧ Same H G ∧ ∃ kvs, G d = some (.dK kvs) ∧ Cts kvs ∧ (0 < j → kvs ≠ []) ∧ kvs.length ≤ j)
      ⟨⟨_, rfl⟩, same_upd nd, [], upd_same, (fun _ h => nomatch h), (fun h => absurd h (by omega)), Nat.le_refl _⟩ (fun j σ G _ ⟨_, sm, _⟩ => SqL.of (sm _ _ ha)) (fun j y σ G G' hj ⟨⟨v2, e⟩, sm, kvs, hd, ct, ne, len⟩ ⟨e1, hx⟩ => ?_) (fun σ G ⟨⟨v2, e⟩, sm, kvs, hd, ct, ne, len⟩ => ?_)⟩
    · subst e e1
      obtain ⟨x, hx, rfl⟩ := map_at hx
      have lt : j < xs.length := by rw [List.length_map] at hj; exact hj
      have nxt : ∀ n : Int, 1 ≤ n → ∃ kvs', (upd G' d (.dK (putK kvs (.inr x) (.int n)))) d = some (.dK kvs') ∧ Cts kvs' ∧ (0 < j + 1 → kvs' ≠ []) ∧ kvs'.length ≤ j + 1 := fun n hn => ⟨_, upd_same, ct.put _ hn, fun _ => put_ne _ _, Nat.le_trans (length_putK _ _ _) (Nat.succ_le_succ len)⟩
      have room : kvs.length < sizeLine := Nat.lt_of_le_of_lt len (Nat.lt_trans lt (Nat.lt_of_le_of_lt few (by decide)))
      obtain ⟨i, hi, e⟩ : ∃ i : Int, 0 ≤ i ∧ (valV kvs (.inr x)).getD (V.int 0) = .int i := by
        cases ev : valV kvs (.inr x) with
        | none => exact ⟨0, Int.le_refl _, rfl⟩
        | some v =>
          obtain ⟨n, rfl, hn⟩ := ct.at_ ev
          exact ⟨n, by omega, rfl⟩
      exact ⟨_, rfl, d, rfl, .inl ⟨_, .inl hd⟩, _, rfl, _, DGet.k (k := .inr x) hd, i, 1, e, rfl, _, rfl, _, rfl, d, _, rfl, DPut.k (k := .inr x) hd room, ⟨_, rfl⟩, same_put sm nd, nxt (i + 1) (by omega)⟩
    · subst e
      exact ⟨_, rfl, fin d kvs G sm nd hd ct fun h => ne (by rw [List.length_map]; exact List.length_pos_iff.mpr h)⟩
end
end R8
end

-- B8d
section
set_option Elab.async false
set_option linter.all false
set_option maxRecDepth 100000
namespace R8
open PySem L2 OwnOps OwnNe G1 EqDict MinKey SetSort
section
variable {P : Program} {w : World} {K : PySem.W.Frag} {mg : Str → Option Value} {base : Heap}
def spShares : Sp := fun vs H Q _ => ∃ (a : Addr) (L : List Spt), vs = [.ref a] ∧ H a = some (.lst (rf L)) ∧ Tps H L ∧ Full L ∧ (∀ p ∈ L, p.2.length ≤ 63) ∧ L.length ≤ 60 ∧ ∀ d kvs H', Same H H' → H d = none → H' d = some (.dK kvs) → Cts kvs → (L ≠ [] → kvs ≠ []) → Q (.ref d) H'
theorem ok_shares {f : Addr} {fd : FuncData} (F : Fun K "_shares" "_shares" sShares f fd) (T : Txt mg) (GT : Glb P w K mg base "tally" 1 ["values"] spTally) : FnOk P w K mg base (L2.CX P w) 2 f fd ["left"] spShares := by
  obtain ⟨fT, fdT, mT, kT, GT, bT⟩ := GT.ex
  have sc : FnScope ["left", "spot", "name"] ["left"] (defScope sShares) := ⟨rfl, rfl, rfl, by decide +kernel, rfl, by decide +kernel, by decide +kernel⟩
  refine F.okX sc (fun vs H Q E h => ?_) (fun cdv A outer s H vs Q E hr h => ?_)
  · obtain ⟨a, L, rfl, _⟩ := h
    rfl
  · obtain ⟨a, L, rfl, ha, tp, fu, sm1, few, fin⟩ := h
    refine ⟨_, pss_one (ps_ret (pe_call GT hr (by rfl) mT kT bT .nil passL (pa_cons (pe_lc2 (own := [("spot", 1), ("name", 2)]) (vs1 := [2]) (g := gName 1) (g1 := gName 2) (tt := tYes) (tt1 := tYes) (wi1 := iList K (tSortedS K (tVar 1))) rfl sc.nd (pi_list (pv 0))
      (blkOk_by (N := ["left", "spot", "name"]) (sc := defScope sShares) (by decide +kernel)) (by decide) (fun _ _ _ _ _ => pg_name (i := 1) sc.nd rfl (Or.inl rfl)) (fun _ _ _ _ _ => pts_nil) (fun _ _ _ _ _ => pi_list (pe_sortedS (by rfl) T.sorted (by rfl) T.set (pv 1)))
      (fun _ _ _ _ _ => pg_name (i := 2) sc.nd rfl (Or.inl rfl)) (fun _ _ _ _ _ => pts_nil) (fun _ _ _ _ _ => pv 2)) pa_nil))), ?_⟩
    refine ⟨_, rfl, a, rfl, ⟨_, SqL.of ha⟩, fun D nD => ?_⟩
    refine walk_it (walk_list (K := K) (a := a) (xs := rf L)) (fun i G => Same H G ∧ ∃ acc : List Str, G D = some (.lst (acc.map V.str)) ∧ acc.length ≤ 63 * i ∧ (0 < i → acc ≠ [])) ⟨same_upd nD, [], upd_same, Nat.zero_le _, fun h => absurd h (by omega)⟩
      (fun i G _ ⟨sm, _⟩ => SqL.of (sm _ _ ha)) (fun i x G G' hi ⟨sm, acc, hD, len, ne⟩ ⟨e, hx⟩ => ?_) (fun G ⟨sm, acc, hD, len, ne⟩ => ?_)
    · subst e
      obtain ⟨p, hp, rfl⟩ := rf_at hx
      have mem := List.mem_of_getElem? hp
      have lt : i < L.length := (List.getElem?_eq_some_iff.mp hp).1
      have small : p.2.length ≤ 63 := sm1 p mem
      refine ⟨rfl, yes_go (iteT ⟨_, rfl, p.1, p.2, rfl, SqT.of (sm _ _ (tp p mem)), by omega, fun zs z _ nez lz nz => ⟨z, rfl, ⟨_, SqL.of upd_same⟩, ?_⟩⟩)⟩
      have s2 := same_upd (o := .lst (zs.map V.str)) nz
      have hD2 := s2 _ _ hD
      have hz : (upd G' z (.lst (zs.map V.str))) z = some (.lst (zs.map V.str)) := upd_same
      have Dz : z ≠ D := fun e => by rw [e, hD] at nz; cases nz
      have SD := sm.trans s2
      have rest : ∀ G, Same H G → (∃ acc : List Str, G D = some (.lst (acc.map V.str)) ∧ acc.length ≤ 63 * i + zs.length ∧ (0 < i ∨ 0 < zs.length → acc ≠ [])) → Same H G ∧ ∃ acc : List Str, G D = some (.lst (acc.map V.str)) ∧ acc.length ≤ 63 * (i + 1) ∧ (0 < i + 1 → acc ≠ []) := fun G s ⟨acc, h1, h2, h3⟩ =>
        ⟨s, acc, h1, by omega, fun _ => h3 (.inr (List.length_pos_iff.mpr (nez (fu p mem))))⟩
      generalize upd G' z (.lst (zs.map V.str)) = G2 at s2 hD2 hz SD ⊢
      refine walk_it (walk_list (K := K) (a := z) (xs := zs.map V.str)) (fun k G => Same H G ∧ G z = some (.lst (zs.map V.str)) ∧ ∃ acc : List Str, G D = some (.lst (acc.map V.str)) ∧ acc.length ≤ 63 * i + k ∧ (0 < i ∨ 0 < k → acc ≠ [])) ⟨SD, hz, acc, hD2, by omega, fun h => ne (h.elim id fun h => absurd h (by omega))⟩
        (fun k G _ ⟨_, h, _⟩ => SqL.of h) (fun k x G3 G4 hk ⟨sm3, hz3, acc3, hD3, len3, ne3⟩ ⟨e, hx⟩ => ?_) (fun G3 ⟨sm3, hz3, acc3, hD3, len3, ne3⟩ => ?_)
      · subst e
        obtain ⟨n, hn, rfl⟩ := map_at hx
        have lk : k < zs.length := (List.getElem?_eq_some_iff.mp hn).1
        refine ⟨rfl, yes_go (iteT ⟨_, rfl, _, hD3, ?_, same_put sm3 nD, ?_, acc3 ++ [n], ?_, ?_, fun _ => by simp⟩)⟩
        · rw [List.length_map]
          exact Nat.lt_of_le_of_lt (m := 4000) (by omega) (by decide)
        · rw [upd_ne Dz]; exact hz3
        · rw [upd_same, List.map_append]
          rfl
        · rw [List.length_append]
          show acc3.length + 1 ≤ _
          omega
      · rw [List.length_map] at len3 ne3
        exact rest G3 sm3 ⟨acc3, hD3, len3, ne3⟩
    · rw [rf_len] at len ne
      refine ⟨D, acc, rfl, hD, by omega, fun d kvs H' s2 nd hd ct nk => ?_⟩
      exact fin d kvs H' (sm.trans s2) (Same.none sm nd) hd ct fun h => nk (ne (List.length_pos_iff.mpr h))
end
end R8
end

-- B8e
section
set_option Elab.async false
set_option linter.all false
set_option maxRecDepth 100000
namespace R8
open PySem L2 OwnOps OwnNe G1 EqDict MinKey SetSort
/-! spots as data -/
def tD (t : List Str) : PyData := .tuple (t.map .str)
def lD (L : List Spt) : PyData := .list (L.map fun p => tD p.2)
def llD (LL : List (List Spt)) : PyData := .list (LL.map lD)
/-- texts that can be laid -/
def Okt (t : List Str) : Prop := ∀ n ∈ t, PyData.strOk n = true
def Oks (L : List Spt) : Prop := ∀ p ∈ L, Okt p.2
theorem Oks.sub {L R : List Spt} (h : Oks L) (s : ∀ p ∈ R, p ∈ L) : Oks R := fun p hp => h p (s p hp)
theorem lay_strs : ∀ t : List Str, Okt t → PyData.canLayAll0 (t.map .str) = true
  | [], _ => by simp [PyData.canLayAll0]
  | x :: r, h => by
    have h1 := h x List.mem_cons_self
    have h2 := lay_strs r fun n hn => h n (List.mem_cons_of_mem _ hn)
    simp only [List.map_cons, PyData.canLayAll0, PyData.canLay0, h1, h2, Bool.and_self]
theorem dep_strs : ∀ t : List Str, PyData.depthAll (t.map .str) = 0
  | [] => by simp [PyData.depthAll]
  | x :: r => by
    have := dep_strs r
    simp only [List.map_cons, PyData.depthAll, PyData.depth, this, Nat.max_self]
theorem lay_tD {t : List Str} (h : Okt t) : (tD t).canLay0 = true := by
  simp only [tD, PyData.canLay0]
  exact lay_strs t h
theorem dep_tD (t : List Str) : (tD t).depth = 1 := by
  simp only [tD, PyData.depth, dep_strs]
theorem lay_tups : ∀ L : List Spt, Oks L → PyData.canLayAll0 (L.map fun p => tD p.2) = true
  | [], _ => by simp [PyData.canLayAll0]
  | p :: r, h => by
    have h1 := lay_tD (h p List.mem_cons_self)
    have h2 := lay_tups r fun n hn => h n (List.mem_cons_of_mem _ hn)
    simp only [List.map_cons, PyData.canLayAll0, h1, h2, Bool.and_self]
theorem dep_tups : ∀ L : List Spt, PyData.depthAll (L.map fun p => tD p.2) ≤ 1
  | [] => by simp [PyData.depthAll]
  | p :: r => by
    have := dep_tups r
    have := dep_tD p.2
    simp only [List.map_cons, PyData.depthAll]
    omega
theorem lay_lD {L : List Spt} (h : Oks L) : (lD L).canLay0 = true := by
  simp only [lD, PyData.canLay0]
  exact lay_tups L h
theorem dep_lD (L : List Spt) : (lD L).depth ≤ 2 := by
  have := dep_tups L
  simp only [lD, PyData.depth]
  omega
theorem lay_lls : ∀ LL : List (List Spt), (∀ L ∈ LL, Oks L) → PyData.canLayAll0 (LL.map lD) = true
  | [], _ => by simp [PyData.canLayAll0]
  | L :: r, h => by
    have h1 := lay_lD (h L List.mem_cons_self)
    have h2 := lay_lls r fun n hn => h n (List.mem_cons_of_mem _ hn)
    simp only [List.map_cons, PyData.canLayAll0, h1, h2, Bool.and_self]
theorem dep_lls : ∀ LL : List (List Spt), PyData.depthAll (LL.map lD) ≤ 2
  | [] => by simp [PyData.depthAll]
  | L :: r => by
    have := dep_lls r
    have := dep_lD L
    simp only [List.map_cons, PyData.depthAll]
    omega
theorem shp {d : PyData} (h1 : d.canLay0 = true) (h2 : d.depth ≤ 64) : SeqAt.shaped d = true := by
  show (d.canLay0 && decide (d.depth ≤ 64)) = true
  rw [Bool.and_eq_true]
  exact ⟨h1, decide_eq_true h2⟩
theorem tD_shp {t : List Str} (h : Okt t) : SeqAt.shaped (tD t) = true := shp (lay_tD h) (by rw [dep_tD]; decide)
theorem lD_shp {L : List Spt} (h : Oks L) : SeqAt.shaped (lD L) = true := shp (lay_lD h) (Nat.le_trans (dep_lD L) (by decide))
theorem llD_shp {LL : List (List Spt)} (h : ∀ L ∈ LL, Oks L) : SeqAt.shaped (llD LL) = true := shp (by simp only [llD, PyData.canLay0]; exact lay_lls LL h) (by have := dep_lls LL; simp only [llD, PyData.depth]; omega)
theorem eqv_strs : ∀ s t : List Str, PyData.eqvAll (s.map .str) (t.map .str) = decide (s = t)
  | [], [] => by simp [PyData.eqvAll]
  | [], _ :: _ => by simp [PyData.eqvAll]
  | _ :: _, [] => by simp [PyData.eqvAll]
  | x :: s, y :: t => by
    simp only [List.map_cons, PyData.eqvAll, PyData.eqv, eqv_strs s t]
    rw [Bool.eq_iff_iff, Bool.and_eq_true, decide_eq_true_iff, decide_eq_true_iff, beq_iff_eq, List.cons.injEq]
theorem eqv_tD (s t : List Str) : PyData.eqv (tD s) (tD t) = decide (s = t) := by
  simp only [tD, PyData.eqv]
  exact eqv_strs s t
theorem eqv_tups : ∀ L R : List Spt, PyData.eqvAll (L.map fun p => tD p.2) (R.map fun p => tD p.2) = decide (L.map (·.2) = R.map (·.2))
  | [], [] => by simp [PyData.eqvAll]
  | [], _ :: _ => by simp [PyData.eqvAll]
  | _ :: _, [] => by simp [PyData.eqvAll]
  | x :: s, y :: t => by
    simp only [List.map_cons, PyData.eqvAll, eqv_tD, eqv_tups s t]
    rw [Bool.eq_iff_iff, Bool.and_eq_true, decide_eq_true_iff, decide_eq_true_iff, decide_eq_true_iff, List.cons.injEq]
section
variable {K : PySem.W.Frag} {H : Hp}
theorem dp_strs : ∀ t : List Str, DpAll K H (t.map V.str) (t.map .str)
  | [] => .nil
  | x :: r => .cons (.str x) (dp_strs r)
theorem dp_tup {a : Addr} {t : List Str} (h : H a = some (.tup (t.map V.str))) : Dp K H (.ref a) (tD t) := .tup (SqT.of h) (dp_strs t)
theorem dp_tups : ∀ {L : List Spt}, Tps H L → DpAll K H (rf L) (L.map fun p => tD p.2)
  | [], _ => .nil
  | p :: r, h => .cons (dp_tup (h p List.mem_cons_self)) (dp_tups fun q hq => h q (List.mem_cons_of_mem _ hq))
theorem dp_lst {a : Addr} {L : List Spt} (h : H a = some (.lst (rf L))) (t : Tps H L) : Dp K H (.ref a) (lD L) := .lst (SqL.of h) (dp_tups t)
theorem dp_lls : ∀ {TT : List (Addr × List Spt)}, (∀ q ∈ TT, H q.1 = some (.lst (rf q.2)) ∧ Tps H q.2) → DpAll K H (TT.map fun q => V.ref q.1) ((TT.map (·.2)).map lD)
  | [], _ => .nil
  | q :: r, h => .cons (dp_lst (h q List.mem_cons_self).1 (h q List.mem_cons_self).2) (dp_lls fun p hp => h p (List.mem_cons_of_mem _ hp))
end
end R8
end

-- B8f
section
set_option Elab.async false
set_option linter.all false
set_option maxRecDepth 100000
namespace R8
open PySem L2 OwnOps OwnNe G1 EqDict MinKey SetSort DictList StX
abbrev sTouch : Stmt := top 20
abbrev NT : List Str := ["left", "many", "first", "tried", "name", "rest", "names", "spot"]
theorem units65 {k : Nat} {A : Around} (r : Room k A) : A.units + 65 < cLine := by have := r.un; omega
/-- what a family to touch asks -/
structure Fit (H : Hp) (L : List Spt) : Prop where
  tp : Tps H L
  fu : Full L
  ok : Oks L
  sm : ∀ p ∈ L, p.2.length ≤ 63
theorem Fit.sub {H : Hp} {L R : List Spt} (h : Fit H L) (s : ∀ p ∈ R, p ∈ L) : Fit H R := ⟨h.tp.sub s, fun p hp => h.fu p (s p hp), h.ok.sub s, fun p hp => h.sm p (s p hp)⟩
theorem Fit.same {H H' : Hp} {L : List Spt} (h : Fit H L) (s : Same H H') : Fit H' L := ⟨h.tp.same s, h.fu, h.ok, h.sm⟩
theorem lls_shp {TT : List (Addr × List Spt)} (h : ∀ q ∈ TT, Oks q.2) : SeqAt.shaped (.list ((TT.map fun q => q.2).map lD)) = true := llD_shp fun L hL => by
  obtain ⟨q, hq, rfl⟩ := List.mem_map.mp hL
  exact h q hq
section
variable {P : Program} {w : World} {K : PySem.W.Frag} {mg : Str → Option Value} {base : Heap}
def spTouch (n : Nat) : Sp := fun vs H Q _ => ∃ (a : Addr) (m : Int) (L : List Spt), vs = [.ref a, .int m] ∧ H a = some (.lst (rf L)) ∧ Fit H L ∧ L.length ≤ n ∧ n ≤ 60 ∧ -1000 ≤ m ∧ m ≤ 1000 ∧ ((L ≠ [] ∨ m < 0) → ∀ H', Same H H' → Q .non H') ∧
  ∀ r ns H', Same H H' → H r = none → H' r = some (.lst (ns.map V.str)) → (ns.length : Int) ≤ m → (∀ p ∈ L, meet ns p.2 = true) → Okt ns → Q (.ref r) H'
theorem touch_zero {f : Addr} {fd : FuncData} (F : Fun K "_touching" "_touching" sTouch f fd) : FnOk P w K mg base (L2.CX P w) 3 f fd ["left", "many"] (spTouch 0) := by
  have sc : FnScope NT ["left", "many"] (defScope sTouch) := ⟨rfl, rfl, rfl, by decide +kernel, rfl, by decide +kernel, by decide +kernel⟩
  refine F.okX sc (fun vs H Q E h => ?_) (fun cdv A outer s H vs Q E hr h => ?_)
  · obtain ⟨a, m, L, rfl, _⟩ := h
    rfl
  · obtain ⟨a, m, L, rfl, ha, fit, few, few60, m1, m2, k0, k⟩ := h
    cases L with
    | cons p r => exact absurd few (by rw [List.length_cons]; omega)
    | nil =>
      refine ⟨_, pss_cons (ps_if (pt_not (pt_truth (pv 0) (by intro _; rfl))) (pss_one (ps_ret (pe_ifExp (pt_cmpR op_ge (pv 1) pe_int (nomark _)) (pe_lst pa_nil) pe_non))) pss_nil) pss_never, ?_⟩
      refine ⟨_, rfl, _, .inl ⟨_, SqL.of ha, rfl⟩, if_pos' rfl ⟨_, rfl, _, _, rfl, rfl, _, rfl, ?_⟩⟩
      by_cases h : 0 ≤ m
      · exact if_pos' (decide_eq_true h) ⟨by show 0 ≤ sizeLine; exact Nat.zero_le _, fun r nr => k r [] _ (same_upd nr) nr upd_same h (fun _ z => nomatch z) (fun _ z => nomatch z)⟩
      · exact if_neg' (decide_eq_false h) (k0 (.inr (by omega)) H (Same.refl H))
set_option maxHeartbeats 4000000 in
theorem touch_succ {f : Addr} {fd : FuncData} (F : Fun K "_touching" "_touching" sTouch f fd) (T : Txt mg) (GS : Glb P w K mg base "_shares" 2 ["left"] spShares) {n : Nat} (mF : mg "_touching" = some (.ref f)) (kF : PySem.W.keepIn K (.ref f) = true) (bF : L2.Binds K fd ["left", "many"] [])
    (IH : FnOk P w K mg base (L2.CX P w) (n + 3) f fd ["left", "many"] (spTouch n)) : FnOk P w K mg base (L2.CX P w) (n + 4) f fd ["left", "many"] (spTouch (n + 1)) := by
  obtain ⟨fS, fdS, mS, kS, GS, bS⟩ := GS.ex
  have sc : FnScope NT ["left", "many"] (defScope sTouch) := ⟨rfl, rfl, rfl, by decide +kernel, rfl, by decide +kernel, by decide +kernel⟩
  refine F.okX sc (fun vs H Q E h => ?_) (fun cdv A outer s H vs Q E hr h => ?_)
  · obtain ⟨a, m, L, rfl, _⟩ := h
    rfl
  · obtain ⟨a, m, L, rfl, ha, fit, few, few60, m1, m2, k0, k⟩ := h
    have hN := sc.nd
    refine ⟨_, pss_cons (ps_if (pt_not (pt_truth (pv 0) (by intro _; rfl))) (pss_one (ps_ret (pe_ifExp (pt_cmpR op_ge (pv 1) pe_int (nomark _)) (pe_lst pa_nil) pe_non))) pss_nil)
      (pss_cons (ps_if (PW.pt (pw_or (pt_cmpR op_le (pv 1) pe_int (nomark _)) (pw_or1 (pt_cmpR op_lt (pe_op op_mul (pv 1) (pe_callBK (cr_maxK rfl) (by rfl) T.max (by decide +kernel) (pa_cons (pe_listV (pe_call GS (hr.mono (by omega)) (by rfl) mS kS bS .nil passL (pa_cons (pv 0) pa_nil)) (by rfl) T.list) pa_nil) (pk_cons (pe_bltn (v := .ty "int") (by rfl) T.int (by decide +kernel) rfl) pk_nil)))
          (pe_callB call_len_seq (by rfl) T.len PySem.boot_len (pa_cons (pv 0) pa_nil)) (nomark _))))) (pss_one (ps_ret pe_non)) pss_nil)
      (pss_cons (ps_set (i := 2) hN rfl (Or.inl rfl) (pe_minLen (pa_cons (pv 0) pa_nil) (by rfl) T.min (by rfl) T.len))
      (pss_cons (ps_set (i := 3) hN rfl (Or.inl rfl) (pe_lst pa_nil))
      (pss_cons (ps_for passOwn rfl (pi_list (pe_sortedS (by rfl) T.sorted (by rfl) T.set (pv 2))) (pg_name (i := 4) hN rfl (Or.inr rfl))
        (pss_cons (ps_setLc (i := 5) (own := [("spot", 7)]) (g := gName 7) (tt := tTest (tOp (rIn K true) (tVar 4) (tVar 7))) rfl hN rfl rfl rfl (pi_list (pv 0)) (blkOk_by (N := NT) (sc := defScope sTouch) (by decide +kernel)) (fun _ _ _ _ _ => pg_name (i := 7) hN rfl (Or.inl rfl)) (fun _ _ _ _ _ => pts_one (pt_cmpR (op := .NotIn) (show OpR _ (compareOp .NotIn) (rIn K true) from op_notIn_seq) (pv 4) (pv 7) (by rfl))) (fun _ _ _ _ _ => pv 7))
        (pss_one (ps_if (pt_cmpR (op := .NotIn) (op_notInD (units65 hr)) (pv 5) (pv 3) (by rfl))
          (pss_cons (ps_expr (pe_bm PySem.F.plainAttrs_list PySem.F.slot_list_append PySem.F.type_list_append mt_append (pv 3) (pa_cons (pv 5) pa_nil)))
          (pss_cons (ps_set (i := 6) hN rfl (Or.inl rfl) (pe_call IH (hr.mono (by omega)) (by rfl) mF kF bF .nil passL (pa_cons (pv 5) (pa_cons (pe_op op_sub (pv 1) pe_int) pa_nil))))
          (pss_one (ps_if (pt_cmpR op_notN (pv 6) pe_non (nomark _)) (pss_one (ps_ret (pe_lst (pa_cons (pv 4) (pa_star (pv 6) pa_nil))))) pss_nil)))) pss_nil))))
      (pss_one (ps_ret pe_non)))))), ?_⟩
    refine ⟨_, rfl, _, .inl ⟨_, SqL.of ha, rfl⟩, ?_⟩
    by_cases hL : L = []
    · subst hL
      refine if_pos' rfl ⟨_, rfl, _, _, rfl, rfl, _, rfl, ?_⟩
      by_cases h : 0 ≤ m
      · exact if_pos' (decide_eq_true h) ⟨by show 0 ≤ sizeLine; exact Nat.zero_le _, fun r nr => k r [] _ (same_upd nr) nr upd_same h (fun _ z => nomatch z) (fun _ z => nomatch z)⟩
      · exact if_neg' (decide_eq_false h) (k0 (.inr (by omega)) H (Same.refl H))
    refine if_neg' (by cases L with | nil => exact absurd rfl hL | cons p r => rfl) ?_
    have hpos : 0 < L.length := List.length_pos_iff.mpr hL
    refine ⟨_, rfl, _, _, rfl, rfl, _, rfl, ?_⟩
    by_cases h0 : m ≤ 0
    · exact if_pos' (decide_eq_true h0) (if_pos' rfl (k0 (.inl hL) H (Same.refl H)))
    refine if_neg' (decide_eq_false h0) ?_
    refine ⟨_, rfl, _, rfl, a, L, rfl, ha, fit.tp, fit.fu, fit.sm, by omega, fun d kvs H1 s1 nd hd ct nk => ⟨d, kvs, rfl, .inl hd, fun p np => ?_⟩⟩
    obtain ⟨ns, ev, nl⟩ := ct.ints
    have s2 := same_upd (o := .lst (kvs.map (·.2))) np
    refine ⟨p, ns, rfl, rfl, SqL.of (by rw [upd_same, ev]), by rw [nl]; exact List.length_pos_iff.mpr (nk hL), fun y _ _ => ?_⟩
    have S2 := s1.trans s2
    generalize upd H1 p (.lst (kvs.map (·.2))) = H2 at s2 S2 ⊢
    have ha2 := S2 _ _ ha
    have fit2 := fit.same S2
    refine ⟨m, y, rfl, rfl, .inl ⟨by omega, by omega⟩, _, rfl, a, _, rfl, .inl (SqL.of ha2), _, _, rfl, rfl, _, rfl, ?_⟩
    rw [rf_len]
    by_cases h1 : m * y < (L.length : Int)
    · exact if_pos' (decide_eq_true h1) (k0 (.inl hL) H2 S2)
    refine if_neg' (decide_eq_false h1) ?_
    -- first
    refine ⟨_, rfl, a, L.map (·.1), fun u => match H2 u with | some (.tup xs) => xs | _ => [], rfl, SqL.of (by rw [ha2, rf, List.map_map]; rfl), by rw [List.length_map]; exact hpos, fun u hu => ?_, fun u hu => ?_⟩
    · obtain ⟨q, hq, rfl⟩ := List.mem_map.mp hu
      refine SqT.of ?_
      have e : H2 q.1 = some (.tup (q.2.map V.str)) := fit2.tp q hq
      dsimp only
      rw [e]
    obtain ⟨p, hp, rfl⟩ := List.mem_map.mp hu
    refine ⟨by show 0 ≤ sizeLine; exact Nat.zero_le _, fun TA nT => ?_⟩
    have nT0 : H TA = none := Same.none S2 nT
    have s3 := same_upd (o := .lst []) nT
    have hT : (upd H2 TA (.lst [])) TA = some (.lst []) := upd_same
    have S3 := S2.trans s3
    generalize upd H2 TA (.lst []) = H3 at s3 S3 hT ⊢
    have fit3 := fit.same S3
    refine ⟨_, rfl, p.1, p.2, rfl, SqT.of (fit3.tp p hp), by have := fit.sm p hp; omega, fun zs z mem ne len nz => ⟨z, rfl, ⟨_, SqL.of upd_same⟩, ?_⟩⟩
    have s4 := same_upd (o := .lst (zs.map V.str)) nz
    have hz : (upd H3 z (.lst (zs.map V.str))) z = some (.lst (zs.map V.str)) := upd_same
    have zT : z ≠ TA := fun e => by rw [e, hT] at nz; cases nz
    have hT4 := s4 _ _ hT
    have S4 := S3.trans s4
    generalize upd H3 z (.lst (zs.map V.str)) = H4 at s4 S4 hz hT4 ⊢
    have l63 : zs.length ≤ 63 := Nat.le_trans len (fit.sm p hp)
    refine for_it (walk_list (K := K) (a := z) (xs := zs.map V.str)) (fun j σ G => (∃ v4 v5 v6, σ = [some (.ref a), some (.int m), some (.ref p.1), some (.ref TA), v4, v5, v6, none]) ∧ Same H G ∧ G z = some (.lst (zs.map V.str)) ∧ ∃ TT : List (Addr × List Spt), G TA = some (.lst (TT.map fun q => V.ref q.1)) ∧ (∀ q ∈ TT, q.1 ≠ TA ∧ G q.1 = some (.lst (rf q.2)) ∧ Fit G q.2) ∧ TT.length ≤ j)
      ⟨⟨_, _, _, rfl⟩, S4, hz, [], hT4, (fun _ h => nomatch h), Nat.le_refl _⟩ (fun j σ G _ ⟨_, _, h, _⟩ => SqL.of h) (fun j y σ G G' hj ⟨⟨v4, v5, v6, e⟩, sm, gz, TT, gT, old, lT⟩ ⟨e1, hx⟩ => ?_) (fun σ G ⟨⟨v4, v5, v6, e⟩, sm, gz, TT, gT, old, lT⟩ => ?_)
    · subst e e1
      obtain ⟨n, hn, rfl⟩ := map_at hx
      have hnp : n ∈ p.2 := mem n (List.mem_of_getElem? hn)
      refine ⟨_, rfl, a, rfl, ⟨_, SqL.of (sm _ _ ha)⟩, fun D nD => flt (K := K) (f := fun q => !decide (n ∈ q.2)) (L := L) (by omega) (sm _ _ ha) nD (fun _ => rfl) (fun _ => rfl) (fun q hq G2 s5 R hR => ?_) (fun G2 s5 hD => ?_)⟩
      · refine ⟨_, rfl, _, rfl, q.1, _, rfl, .inr (SqT.of ((sm.trans s5) _ _ (fit.tp q hq))), rfl, flat_strs q.2, _, rfl, ?_⟩
        show R (!inV (V.str n) (q.2.map V.str)) G2
        rw [inV_str]
        exact hR G2 (Same.refl G2)
      have sub : ∀ q ∈ L.filter (fun q => !decide (n ∈ q.2)), q ∈ L := fun q hq => (List.mem_filter.mp hq).1
      have cov : ∀ q ∈ L, n ∈ q.2 ∨ q ∈ L.filter (fun q => !decide (n ∈ q.2)) := fun q hq => by
        by_cases h : n ∈ q.2
        · exact .inl h
        · exact .inr (List.mem_filter.mpr ⟨hq, by rw [decide_eq_false h]; rfl⟩)
      have lenR : (L.filter (fun q => !decide (n ∈ q.2))).length < L.length := List.length_filter_lt_length_iff_exists.mpr ⟨p, hp, by rw [decide_eq_true hnp]; exact Bool.false_ne_true⟩
      generalize L.filter (fun q => !decide (n ∈ q.2)) = R at hD sub cov lenR ⊢
      have S5 := sm.trans s5
      have gT5 := s5 _ _ gT
      have gz5 := s5 _ _ gz
      have DT : D ≠ TA := fun e => by rw [e, gT] at nD; cases nD
      have old5 : ∀ q ∈ TT, q.1 ≠ TA ∧ G2 q.1 = some (.lst (rf q.2)) ∧ Fit G2 q.2 := fun q hq => ⟨(old q hq).1, s5 _ _ (old q hq).2.1, (old q hq).2.2.same s5⟩
      have fitR : Fit G2 R := (fit.same S5).sub sub
      refine ⟨_, rfl, _, rfl, lD R, (TT.map fun q => q.2).map lD, dp_lst hD fitR.tp, .lst (SqL.of gT5) (dp_lls fun q hq => ⟨(old5 q hq).2.1, (old5 q hq).2.2.tp⟩), lD_shp fitR.ok, lls_shp (TT := TT) (fun q hq => (old5 q hq).2.2.ok), _, rfl, ?_⟩
      generalize (!List.any ((TT.map fun q => q.2).map lD) fun z => PyData.eqv z (lD R)) = bb
      cases bb with
      | false => exact if_neg' rfl ⟨⟨_, _, _, rfl⟩, S5, gz5, TT, gT5, old5, Nat.le_succ_of_le lT⟩
      | true =>
        refine if_pos' rfl ⟨_, rfl, .inl ⟨rfl, _, SqL.of gT5⟩, _, rfl, TA, _, _, rfl, rfl, gT5, ?_, ?_⟩
        · rw [List.length_map]
          have lt : j < zs.length := by rw [List.length_map] at hj; exact hj
          exact Nat.lt_of_le_of_lt (m := 1000) (by omega) (by decide)
        have S6 : Same H (upd G2 TA (.lst (TT.map (fun q => V.ref q.1) ++ [.ref D]))) := same_put S5 nT0
        have keep : ∀ b, b ≠ TA → ∀ u, G2 b = some u → (upd G2 TA (.lst (TT.map (fun q => V.ref q.1) ++ [.ref D]))) b = some u := fun b ne u e => by rw [upd_ne ne]; exact e
        have gT6 : (upd G2 TA (.lst (TT.map (fun q => V.ref q.1) ++ [.ref D]))) TA = some (.lst ((TT ++ [(D, R)]).map fun q => V.ref q.1)) := by
          rw [upd_same, List.map_append]
          rfl
        have gz6 := keep z zT _ gz5
        have gD6 := keep D DT _ hD
        have old6 : ∀ q ∈ TT ++ [(D, R)], q.1 ≠ TA ∧ (upd G2 TA (.lst (TT.map (fun q => V.ref q.1) ++ [.ref D]))) q.1 = some (.lst (rf q.2)) ∧ Fit (upd G2 TA (.lst (TT.map (fun q => V.ref q.1) ++ [.ref D]))) q.2 := fun q hq => by
          have fk : ∀ L', Fit G2 L' → Fit (upd G2 TA (.lst (TT.map (fun q => V.ref q.1) ++ [.ref D]))) L' := fun L' f => ⟨fun q hq => keep q.1 (fun e => by
            have h : G2 q.1 = some (.tup (q.2.map V.str)) := f.tp q hq
            rw [e, gT5] at h
            cases h) _ (f.tp q hq), f.fu, f.ok, f.sm⟩
          rcases List.mem_append.mp hq with hq | hq
          · exact ⟨(old5 q hq).1, keep _ (old5 q hq).1 _ (old5 q hq).2.1, fk _ (old5 q hq).2.2⟩
          · cases List.mem_singleton.mp hq
            exact ⟨DT, gD6, fk _ fitR⟩
        generalize upd G2 TA (.lst (TT.map (fun q => V.ref q.1) ++ [.ref D])) = G6 at S6 gT6 gz6 gD6 old6 ⊢
        refine ⟨_, rfl, _, rfl, _, _, rfl, rfl, D, m - 1, R, rfl, gD6, (fit.same S6).sub sub, by omega, by omega, by omega, by omega, fun _ G7 s7 => ?_, fun r ns' G7 s7 nr hr7 ln cv ok7 => ?_⟩
        · exact ⟨_, rfl, rfl, _, rfl, if_neg' (by simp) ⟨⟨_, _, _, rfl⟩, S6.trans s7, s7 _ _ gz6, TT ++ [(D, R)], s7 _ _ gT6, fun q hq => ⟨(old6 q hq).1, s7 _ _ (old6 q hq).2.1, (old6 q hq).2.2.same s7⟩, by rw [List.length_append]; exact Nat.succ_le_succ lT⟩⟩
        · refine ⟨_, rfl, rfl, _, rfl, if_pos' (by simp) ⟨_, rfl, _, rfl, r, _, rfl, .inr (SqL.of hr7), ?_, fun b nb => ?_⟩⟩
          · rw [List.length_cons, List.append_nil, List.length_map]
            exact Nat.le_trans (m := 2000) (by omega) (by decide)
          · refine k b (n :: ns') _ ((S6.trans s7).trans (same_upd nb)) (Same.none (S6.trans s7) nb) (by rw [upd_same, List.append_nil]; rfl) (by rw [List.length_cons]; omega) (fun q hq => ?_) fun c hc => (List.mem_cons.mp hc).elim (fun e => by rw [e]; exact fit.ok p hp n (mem n (List.mem_of_getElem? hn))) (ok7 c)
            rcases cov q hq with h | h
            · exact meet_iff.mpr ⟨n, List.mem_cons_self, h⟩
            · obtain ⟨c, c1, c2⟩ := meet_iff.mp (cv q h)
              exact meet_iff.mpr ⟨c, List.mem_cons_of_mem _ c1, c2⟩
    · subst e
      exact k0 (.inl hL) G sm
theorem ok_touch {f : Addr} {fd : FuncData} (F : Fun K "_touching" "_touching" sTouch f fd) (T : Txt mg) (GS : Glb P w K mg base "_shares" 2 ["left"] spShares) (mF : mg "_touching" = some (.ref f)) (kF : PySem.W.keepIn K (.ref f) = true) (bF : L2.Binds K fd ["left", "many"] []) :
    ∀ n, FnOk P w K mg base (L2.CX P w) (n + 3) f fd ["left", "many"] (spTouch n)
  | 0 => touch_zero F
  | n + 1 => touch_succ F T GS mF kF bF (ok_touch F T GS mF kF bF n)
end
end R8
end

-- B8g
section
set_option Elab.async false
set_option linter.all false
set_option maxRecDepth 100000
namespace R8
open PySem L2 OwnOps OwnNe G1 EqDict MinKey SetSort DictList StX
abbrev sPaper : Stmt := top 19
abbrev NP : List Str := ["left", "many", "names", "counts", "index", "others", "apart", "spot", "other"]
abbrev cut (L : List Spt) (i : Nat) : List Spt := L.take i ++ L.drop (i + 1)
/-- a paper that no more than m of L are apart -/
inductive Pap (H : Hp) : V → List Spt → Int → Prop
  | touch {a b : Addr} {ns : List Str} {L : List Spt} {m : Int} : H a = some (.tup [.str "touch", .ref b]) → H b = some (.tup (ns.map V.str)) → (ns.length : Int) ≤ m → ns.length ≤ 1000 → (∀ p ∈ L, meet ns p.2 = true) → Okt ns → Pap H (.ref a) L m
  | spot {a : Addr} {p : Spt} {i : Nat} {v u : V} {L : List Spt} {m : Int} : H a = some (.tup [.str "spot", .ref p.1, v, u]) → L[i]? = some p → (∀ j < i, ∀ q, L[j]? = some q → q.2 ≠ p.2) → Pap H v ((cut L i).filter (off p)) (m - 1) → Pap H u (cut L i) m → Pap H (.ref a) L m
theorem Pap.same {H H' : Hp} {v : V} {L : List Spt} {m : Int} (h : Pap H v L m) (s : Same H H') : Pap H' v L m := by
  induction h with
  | touch h1 h2 h3 h4 h5 h6 => exact .touch (s _ _ h1) (s _ _ h2) h3 h4 h5 h6
  | spot h1 h2 h3 _ _ i1 i2 => exact .spot (s _ _ h1) h2 h3 i1 i2
theorem cut_filter {L : List Spt} {i : Nat} {p : Spt} (h : L[i]? = some p) {f : Spt → Bool} (hf : f p = false) : (cut L i).filter f = L.filter f := by
  have lt : i < L.length := (List.getElem?_eq_some_iff.mp h).1
  have e : L = L.take i ++ p :: L.drop (i + 1) := by
    have h2 : L[i] = p := by rw [List.getElem?_eq_getElem lt] at h; exact Option.some.inj h
    rw [← h2, ← List.drop_eq_getElem_cons lt, List.take_append_drop]
  conv => rhs; rw [e]
  rw [List.filter_append, List.filter_append, List.filter_cons, hf, if_neg Bool.false_ne_true]
theorem cnt_same {L : List Spt} {p q : Spt} (h : p.2 = q.2) : cntL L p = cntL L q := by
  unfold cntL hit
  rw [h]
section
variable {P : Program} {w : World} {K : PySem.W.Frag} {mg : Str → Option Value} {base : Heap}
def spPap (n : Nat) : Sp := fun vs H Q _ => ∃ (a : Addr) (m : Int) (L : List Spt) (k : Nat), vs = [.ref a, .int m] ∧ H a = some (.lst (rf L)) ∧ Fit H L ∧ L.length ≤ n ∧ n ≤ 60 ∧ Opt L k ∧ (k : Int) ≤ m ∧ m ≤ 1000 ∧ ∀ v H', Same H H' → Pap H' v L m → Q v H'
set_option maxHeartbeats 4000000 in
theorem pap_step {f : Addr} {fd : FuncData} (F : Fun K "_paper" "_paper" sPaper f fd) (T : Txt mg) (GM : Glb P w K mg base "_meet" 1 ["one", "other"] spMeet) {n : Nat} (GO : Glb P w K mg base "_touching" (n + 4) ["left", "many"] (spTouch (n + 1))) (mF : mg "_paper" = some (.ref f)) (kF : PySem.W.keepIn K (.ref f) = true) (bF : L2.Binds K fd ["left", "many"] [])
    (IH : FnOk P w K mg base (L2.CX P w) (n + 4) f fd ["left", "many"] (spPap n)) : FnOk P w K mg base (L2.CX P w) (n + 5) f fd ["left", "many"] (spPap (n + 1)) := by
  obtain ⟨fM, fdM, mM, kM, GM, bM⟩ := GM.ex
  obtain ⟨fO, fdO, mO, kO, GO, bO⟩ := GO.ex
  have sc : FnScope NP ["left", "many"] (defScope sPaper) := ⟨rfl, rfl, rfl, by decide +kernel, rfl, by decide +kernel, by decide +kernel⟩
  refine F.okX sc (fun vs H Q E h => ?_) (fun cdv A outer s H vs Q E hr h => ?_)
  · obtain ⟨a, m, L, k, rfl, _⟩ := h
    rfl
  · obtain ⟨a, m, L, k, rfl, ha, fit, few, few60, opt, km, m2, fin⟩ := h
    have hN := sc.nd
    refine ⟨_, pss_cons (ps_set (i := 2) hN rfl (Or.inl rfl) (pe_call GO (hr.mono (by omega)) (by rfl) mO kO bO .nil passL (pa_cons (pv 0) (pa_cons (pv 1) pa_nil))))
      (pss_cons (ps_if (pt_cmpR op_notN (pv 2) pe_non (nomark _)) (pss_one (ps_ret (pe_tup (pa_cons pe_str (pa_cons (pe_callTy call_tuple_of (by rfl) T.tuple (by decide +kernel) (pa_cons (pv 2) pa_nil)) pa_nil))))) pss_nil)
      (pss_cons (ps_setLc (i := 3) (own := [("spot", 7)]) (g := gName 7) (tt := tYes) (te := tCB (rLen K) (tCons (tLc (iList K (tVar 0)) (gName 8) (tB (tCall spMeet [] E0 (tCons (tVar 7) (tCons (tVar 8) tNil)))) (tVar 8) [8]) tNil)) rfl hN rfl rfl (sw_true rfl rfl rfl (by decide +kernel)) (pi_list (pv 0)) (blkOk_by (N := NP) (sc := defScope sPaper) (by decide +kernel)) (fun _ _ _ _ _ => pg_name (i := 7) hN rfl (Or.inr rfl)) (fun _ _ _ _ _ => pts_nil)
        (fun _ _ _ _ _ => pe_callB call_len_seq (by rfl) T.len PySem.boot_len (pa_cons (pe_lc (own := [("other", 8)]) (g := gName 8) rfl hN (pi_list (pv 0)) (blkOk_by (N := NP) (sc := scOut) (by decide +kernel)) (fun _ _ _ _ _ => pg_name (i := 8) hN rfl (Or.inl rfl)) (fun _ _ _ _ _ => pts_one (pt_val (pe_call GM (hr.mono (by omega)) (by rfl) mM kM bM .nil passL (pa_cons (pv 7) (pa_cons (pv 8) pa_nil))))) (fun _ _ _ _ _ => pv 8)) pa_nil)))
      (pss_cons (ps_set (i := 4) hN rfl (Or.inr rfl) (pe_bm PySem.F.plainAttrs_list PySem.F.slot_list_index PySem.F.type_list_index mt_index (pv 3) (pa_cons (pe_callBK (cr_maxK rfl) (by rfl) T.max (by decide +kernel) (pa_cons (pv 3) pa_nil) (pk_cons (pe_bltn (v := .ty "int") (by rfl) T.int (by decide +kernel) rfl) pk_nil)) pa_nil)))
      (pss_cons (ps_set (i := 5) hN rfl (Or.inl rfl) (pe_op op_cat (pe_slice sl_list (pv 0) po_none (po_some (pv 4))) (pe_slice sl_list (pv 0) (po_some (pe_op op_add (pv 4) pe_int)) po_none)))
      (pss_cons (ps_setLc (i := 6) (own := [("other", 8)]) (g := gName 8) rfl hN rfl rfl rfl (pi_list (pv 5)) (blkOk_by (N := NP) (sc := defScope sPaper) (by decide +kernel)) (fun _ _ _ _ _ => pg_name (i := 8) hN rfl (Or.inl rfl))
          (tt := tNot (tB (tCall spMeet [] E0 (tCons (tOp (rIxL K) (tVar 0) (tVar 4)) (tCons (tVar 8) tNil)))))
          (fun _ _ _ _ _ => pts_one (pt_not (pt_val (pe_call GM (hr.mono (by omega)) (by rfl) mM kM bM .nil passL (pa_cons (pe_ix (show IxR _ (rIxL K) from ix_list) (pv 0) (pv 4) (fun _ _ => rfl)) (pa_cons (pv 8) pa_nil)))))) (fun _ _ _ _ _ => pv 8))
      (pss_one (ps_ret (pe_tup (pa_cons pe_str (pa_cons (pe_ix ix_list (pv 0) (pv 4) (fun _ _ => rfl)) (pa_cons (pe_call IH (hr.mono (by omega)) (by rfl) mF kF bF .nil passL (pa_cons (pv 6) (pa_cons (pe_op op_sub (pv 1) pe_int) pa_nil))) (pa_cons (pe_call IH (hr.mono (by omega)) (by rfl) mF kF bF .nil passL (pa_cons (pv 5) (pa_cons (pv 1) pa_nil))) pa_nil)))))))))))), ?_⟩
    refine ⟨_, rfl, _, rfl, a, m, L, rfl, ha, fit, few, few60, by omega, m2, fun hE H0 s0 => ?_, fun r ns H1 s1 nr hr1 ln cv okn => ?_⟩
    · have hL : L ≠ [] := hE.elim id fun h => by omega
      have hpos : 0 < L.length := List.length_pos_iff.mpr hL
      refine ⟨_, rfl, rfl, _, rfl, if_neg' (by simp) ?_⟩
      have ha0 := s0 _ _ ha
      have tp := fit.tp.same s0
      have fu := fit.fu
      have sm1 : ∀ p ∈ L, p.2.length ≤ 1000 := fun p hp => Nat.le_trans (fit.sm p hp) (by decide)
      replace fin := fun v H' (s' : Same H0 H') => fin v H' (s0.trans s')
      replace fit := fit.same s0
      clear s0
      replace ha := ha0
      generalize H0 = H at *
      -- counts
      refine ⟨_, rfl, a, rfl, ⟨_, SqL.of ha⟩, fun D nD => ?_⟩
      refine lc_list (K := K) (a := a) (xs := rf L) (fun t G => Same H G ∧ G D = some (.lst (((L.take t).map fun p => ((cntL L p : Nat) : Int)).map V.int))) ⟨same_upd nD, upd_same⟩ (fun t G _ ⟨sm, _⟩ => SqL.of (sm _ _ ha)) (fun t x G hx ⟨sm, hD⟩ => ?_) (fun G ⟨sm, hD⟩ => ?_)
      · obtain ⟨p, hp, rfl⟩ := rf_at hx
        have mem := List.mem_of_getElem? hp
        refine ⟨rfl, yes_go (iteT ⟨_, rfl, a, rfl, ⟨_, SqL.of (sm _ _ ha)⟩, fun D2 nD2 => flt (K := K) (f := hit p) (L := L) (by omega) (sm _ _ ha) nD2 (fun _ => rfl) (fun _ => rfl) (fun q hq G2 s2 R hR => ?_) (fun G2 s2 hD2 => ?_)⟩)⟩
        · exact ⟨_, rfl, _, rfl, p.1, q.1, p.2, q.2, rfl, (sm.trans s2) _ _ (tp p mem), (sm.trans s2) _ _ (tp q hq), sm1 p mem, fun G3 s3 => ⟨_, rfl, hR G3 s3⟩⟩
        · refine ⟨D2, _, rfl, .inl (SqL.of hD2), _, s2 _ _ hD, ?_, same_put (sm.trans s2) nD, ?_⟩
          · rw [List.length_map, List.length_map, List.length_take]
            exact Nat.lt_of_le_of_lt (Nat.min_le_right _ _) (Nat.lt_of_le_of_lt few (Nat.lt_of_lt_of_le (m := 100) (by omega) (by decide)))
          · rw [upd_same, List.take_succ, hp, List.map_append, List.map_append, rf_len]
            rfl
      rw [rf_len, List.take_length] at hD
      have ha1 := sm _ _ ha
      have tp1 := tp.same sm
      generalize G = H1 at sm hD ha1 tp1 ⊢
      -- index
      have hcl : 0 < (cnts L).length := by rw [List.length_map]; exact hpos
      refine ⟨_, rfl, .inl ⟨rfl, _, SqL.of hD⟩, _, rfl, D, cnts L, rfl, rfl, SqL.of hD, hcl, fun mx hm _ => ?_⟩
      obtain ⟨j, hj, hb⟩ := first_ix hm
      refine ⟨D, _, .int mx, j, .int mx, rfl, rfl, SqL.of hD, rfl, flat_ints (cnts L), by rw [List.getElem?_map, hj] <;> rfl, beq_self_eq_true mx, fun i z hi hz => ?_, ?_⟩
      · obtain ⟨x, hx, rfl⟩ := ints_atI hz
        exact beq_eq_false_iff_ne.mpr (hb i hi x hx)
      obtain ⟨p, hp, em⟩ := cnts_at hj
      have mem := List.mem_of_getElem? hp
      have jl : j < L.length := (List.getElem?_eq_some_iff.mp hp).1
      have hpr : (rf L)[j]? = some (.ref p.1) := by rw [List.getElem?_map, hp] <;> rfl
      have first : ∀ j' < j, ∀ q, L[j']? = some q → q.2 ≠ p.2 := fun j' lt q hq e => hb j' lt (cntL L q : Nat) (by rw [List.getElem?_map, hq] <;> rfl) (by rw [em, cnt_same e])
      have jr : j ≤ (rf L).length := by rw [rf_len]; omega
      have jr1 : j + 1 ≤ (rf L).length := by rw [rf_len]; omega
      refine ⟨_, rfl, _, rfl, _, rfl, a, _, rfl, SqL.of ha1, fun c1 nc1 => ?_⟩
      rw [cut_to jr]
      have s6 := same_upd (o := .lst ((rf L).take j)) nc1
      have hc1 : (upd H1 c1 (.lst ((rf L).take j))) c1 = some (.lst ((rf L).take j)) := upd_same
      generalize upd H1 c1 (.lst ((rf L).take j)) = H6 at s6 hc1 ⊢
      refine ⟨_, rfl, _, rfl, _, _, rfl, rfl, _, rfl, a, _, rfl, SqL.of (s6 _ _ ha1), fun c2 nc2 => ?_⟩
      rw [show ((j : Int) + 1) = ((j + 1 : Nat) : Int) from rfl, cut_from jr1]
      have s7 := same_upd (o := .lst ((rf L).drop (j + 1))) nc2
      have hc2 : (upd H6 c2 (.lst ((rf L).drop (j + 1)))) c2 = some (.lst ((rf L).drop (j + 1))) := upd_same
      generalize upd H6 c2 (.lst ((rf L).drop (j + 1))) = H7 at s7 hc2 ⊢
      refine ⟨c1, c2, _, _, rfl, rfl, s7 _ _ hc1, hc2, ?_, fun c3 nc3 => ?_⟩
      · rw [List.length_take, List.length_drop, rf_len]
        exact Nat.le_trans (m := 200) (by omega) (by decide)
      have s8 := same_upd (o := .lst ((rf L).take j ++ (rf L).drop (j + 1))) nc3
      have hc3 : (upd H7 c3 (.lst ((rf L).take j ++ (rf L).drop (j + 1)))) c3 = some (.lst (rf (cut L j))) := by
        rw [upd_same, show rf (L.take j ++ L.drop (j + 1)) = (L.take j ++ L.drop (j + 1)).map (fun p => V.ref p.1) from rfl, List.map_append, List.map_take, List.map_drop]
      generalize upd H7 c3 (.lst ((rf L).take j ++ (rf L).drop (j + 1))) = H8 at s8 hc3 ⊢
      have S8 := sm.trans (s6.trans (s7.trans s8))
      clear s6 s7 s8 hc1 hc2
      have lc : (cut L j).length ≤ n := by
        rw [List.length_append, List.length_take, List.length_drop]
        omega
      have fitc : Fit H8 (cut L j) := (fit.same S8).sub fun q hq => cut_mem hq
      refine ⟨_, rfl, c3, rfl, ⟨_, SqL.of hc3⟩, fun D4 nD4 => flt (K := K) (f := off p) (L := cut L j) (by omega) hc3 nD4 (fun _ => rfl) (fun _ => rfl) (fun q hq G2 s2 R hR => ?_) (fun H9 s9 hD9 => ?_)⟩
      · exact ⟨_, rfl, _, rfl, a, _, _, _, rfl, rfl, SqL.of ((S8.trans s2) _ _ ha), at_of (j := j) rfl hpr, _, rfl, p.1, q.1, p.2, q.2, rfl, (S8.trans s2) _ _ (tp p mem), s2 _ _ (fitc.tp q hq), sm1 p mem, fun G3 s3 => ⟨_, rfl, hR G3 s3⟩⟩
      have S9 := S8.trans s9
      have fita : Fit H9 ((cut L j).filter (off p)) := (fitc.same s9).sub fun q hq => (List.mem_filter.mp hq).1
      have ea := cut_filter hp (f := off p) (by show (!meet p.2 p.2) = false; rw [meet_self (fu p mem)]; rfl)
      have la : ((cut L j).filter (off p)).length ≤ n := Nat.le_trans (List.length_filter_le _ _) lc
      obtain ⟨k1, o1⟩ := opt_some fita.fu
      obtain ⟨k2, o2⟩ := opt_some fitc.fu
      have q1 : k1 + 1 ≤ k := opt_off mem opt (ea ▸ o1)
      have q2 : k2 ≤ k := opt_cut opt o2
      refine ⟨_, rfl, _, rfl, a, _, _, _, rfl, rfl, SqL.of (S9 _ _ ha), at_of (j := j) rfl hpr, _, rfl, _, rfl, _, _, rfl, rfl, D4, m - 1, _, k1, rfl, hD9, fita, la, by omega, o1, by omega, by omega, fun v Ha sa pv => ?_⟩
      refine ⟨_, rfl, _, rfl, c3, m, _, k2, rfl, sa _ _ (s9 _ _ hc3), fitc.same (s9.trans sa), lc, by omega, o2, by omega, m2, fun u Hb sb pu => ?_⟩
      refine ⟨by show 4 ≤ sizeLine; decide, fun t nt => ?_⟩
      have st := same_upd (o := .tup [.str "spot", .ref p.1, v, u]) nt
      exact fin _ _ (S9.trans (sa.trans (sb.trans st))) (.spot upd_same hp first (pv.same (sb.trans st)) (pu.same st))
    · refine ⟨_, rfl, rfl, _, rfl, if_pos' (by simp) ⟨_, rfl, r, _, rfl, .inl ⟨SqL.of hr1, fun l nl => ⟨by show 2 ≤ sizeLine; decide, fun t nt => ?_⟩⟩⟩⟩
      have sl := same_upd (o := .tup (ns.map V.str)) nl
      have st := same_upd (o := .tup [.str "touch", .ref l]) nt
      exact fin _ _ (s1.trans (sl.trans st)) (.touch upd_same (st _ _ upd_same) ln (by omega) cv okn)
theorem pap_zero {f : Addr} {fd : FuncData} (F : Fun K "_paper" "_paper" sPaper f fd) (T : Txt mg) (GO : Glb P w K mg base "_touching" 3 ["left", "many"] (spTouch 0)) : FnOk P w K mg base (L2.CX P w) 4 f fd ["left", "many"] (spPap 0) := by
  obtain ⟨fO, fdO, mO, kO, GO, bO⟩ := GO.ex
  have sc : FnScope NP ["left", "many"] (defScope sPaper) := ⟨rfl, rfl, rfl, by decide +kernel, rfl, by decide +kernel, by decide +kernel⟩
  refine F.okX sc (fun vs H Q E h => ?_) (fun cdv A outer s H vs Q E hr h => ?_)
  · obtain ⟨a, m, L, k, rfl, _⟩ := h
    rfl
  · obtain ⟨a, m, L, k, rfl, ha, fit, few, few60, opt, km, m2, fin⟩ := h
    have hN := sc.nd
    refine ⟨_, pss_cons (ps_set (i := 2) hN rfl (Or.inl rfl) (pe_call GO (hr.mono (by omega)) (by rfl) mO kO bO .nil passL (pa_cons (pv 0) (pa_cons (pv 1) pa_nil))))
      (pss_cons (ps_if (pt_cmpR op_notN (pv 2) pe_non (nomark _)) (pss_one (ps_ret (pe_tup (pa_cons pe_str (pa_cons (pe_callTy call_tuple_of (by rfl) T.tuple (by decide +kernel) (pa_cons (pv 2) pa_nil)) pa_nil))))) pss_nil) pss_never), ?_⟩
    refine ⟨_, rfl, _, rfl, a, m, L, rfl, ha, fit, few, few60, by omega, m2, fun hE H0 s0 => ?_, fun r ns H1 s1 nr hr1 ln cv okn => ?_⟩
    · exact hE.elim (fun h => absurd (List.length_eq_zero_iff.mp (Nat.le_zero.mp few)) h) fun h => by omega
    · refine ⟨_, rfl, rfl, _, rfl, if_pos' (by simp) ⟨_, rfl, r, _, rfl, .inl ⟨SqL.of hr1, fun l nl => ⟨by show 2 ≤ sizeLine; decide, fun t nt => ?_⟩⟩⟩⟩
      have sl := same_upd (o := .tup (ns.map V.str)) nl
      have st := same_upd (o := .tup [.str "touch", .ref l]) nt
      exact fin _ _ (s1.trans (sl.trans st)) (.touch upd_same (st _ _ upd_same) ln (by omega) cv okn)
theorem ok_paper {f : Addr} {fd : FuncData} (F : Fun K "_paper" "_paper" sPaper f fd) (T : Txt mg) (GM : Glb P w K mg base "_meet" 1 ["one", "other"] spMeet) (GO : ∀ n, Glb P w K mg base "_touching" (n + 3) ["left", "many"] (spTouch n)) (mF : mg "_paper" = some (.ref f)) (kF : PySem.W.keepIn K (.ref f) = true) (bF : L2.Binds K fd ["left", "many"] []) :
    ∀ n, FnOk P w K mg base (L2.CX P w) (n + 4) f fd ["left", "many"] (spPap n)
  | 0 => pap_zero F T (GO 0)
  | n + 1 => pap_step F T GM (GO (n + 1)) mF kF bF (ok_paper F T GM GO mF kF bF n)
end
end R8
end

-- B8i
section
set_option Elab.async false
set_option linter.all false
set_option maxRecDepth 100000
namespace R8
open PySem L2 OwnOps OwnNe G1 EqDict MinKey SetSort DictList StX
abbrev sWord : Stmt := top 3
abbrev sName : Stmt := top 4
/-- numbers that the module names -/
structure Nums (mg : Str → Option Value) : Prop where
  signs : ∃ t, mg "WORD_SIGNS" = some (.int 12 t)
  words : ∃ t, mg "NAME_WORDS" = some (.int 64 t)
  spots : ∃ t, mg "MOST_SPOTS" = some (.int 14 t)
def wd (x : Str) : Bool := decide (1 ≤ x.length) && decide (x.length ≤ 12) && Txt.isascii x && Txt.isalnum x && Txt.isalpha ⟨#[x.cps.getD 0 0]⟩ && decide (V.str x = V.str (Txt.lower x))
theorem at_hd {α : Type} {xs : List α} {c : α} (h : xs[0]? = some c) : atI xs 0 = some c := by
  cases xs with
  | nil => cases h
  | cons a r =>
    cases h
    unfold atI ixN
    rw [if_pos (by decide), if_pos (by rw [List.length_cons]; omega)]
    rfl
section
variable {P : Program} {w : World} {K : PySem.W.Frag} {mg : Str → Option Value} {base : Heap}
def spWord : Sp := fun vs H Q _ => ∃ x : Str, vs = [.str x] ∧ x.length ≤ 1000 ∧ Q (.bl (wd x)) H
theorem ok_word {f : Addr} {fd : FuncData} (F : Fun K "is_word" "is_word" sWord f fd) (T : Txt mg) (N : Nums mg) : FnOk P w K mg base (L2.CX P w) 1 f fd ["value"] spWord := by
  obtain ⟨t12, n12⟩ := N.signs
  have sc : FnScope ["value"] ["value"] (defScope sWord) := ⟨rfl, rfl, rfl, by decide +kernel, rfl, by decide +kernel, by decide +kernel⟩
  refine F.okX sc (fun vs H Q E h => ?_) (fun cdv A outer s H vs Q E hr h => ?_)
  · obtain ⟨x, rfl, _⟩ := h
    rfl
  · obtain ⟨x, rfl, few, fin⟩ := h
    refine ⟨_, pss_cons (ps_if (PW.pt (pw_or (pt_not (pt_val (pe_callB call_isi (by rfl) T.isi (by decide +kernel) (pa_cons (pv 0) (pa_cons (pe_bltn (v := .ty "str") (by rfl) T.str (by decide +kernel) rfl) pa_nil)))))
        (pw_or1 (pt_not (pt_chain op_le op_le pe_int (pe_callB call_len (by rfl) T.len PySem.boot_len (pa_cons (pv 0) pa_nil)) (pe_glob (v := .int 12) (by rfl) n12 ⟨_, rfl⟩)))))) (pss_one (ps_ret pe_bl)) pss_nil)
      (pss_one (ps_ret (pe_and (pe_m0 PySem.F.slot_str_isascii PySem.F.type_str_isascii mt_isascii (pv 0)) (pe_and (pe_m0 PySem.F.slot_str_isalnum PySem.F.type_str_isalnum mt_isalnum (pv 0)) (pe_and (pe_m0 PySem.F.slot_str_isalpha PySem.F.type_str_isalpha mt_isalpha (pe_ix ix_str (pv 0) pe_int (fun _ _ => rfl)))
        (pe_one (pe_cmpR op_eq (pv 0) (pe_lower (pv 0)) (nomark _)))))))), ?_⟩
    refine ⟨_, rfl, _, _, _, _, _, rfl, .ty _, .base (.str _), kit_ty (r := true) (by decide +kernel), _, rfl, if_neg' rfl ?_⟩
    refine ⟨_, rfl, _, _, rfl, ⟨Nat.le_trans few (by decide), rfl⟩, _, _, rfl, rfl, _, rfl, ?_⟩
    by_cases a1 : (1 : Int) ≤ (x.length : Int)
    · refine if_pos' (decide_eq_true a1) ⟨_, _, rfl, rfl, _, rfl, ?_⟩
      by_cases a2 : (x.length : Int) ≤ 12
      · refine if_neg' (by rw [decide_eq_true a2]; rfl) ?_
        have e1 : decide (1 ≤ x.length) = true := decide_eq_true (by omega)
        have e2 : decide (x.length ≤ 12) = true := decide_eq_true (by omega)
        unfold wd at fin
        rw [e1, e2, Bool.true_and, Bool.true_and] at fin
        refine ⟨_, rfl, ⟨_, rfl⟩, _, rfl, rfl, True.intro, _, rfl, ?_⟩
        cases b1 : Txt.isascii x with
        | false => rw [b1] at fin; exact if_neg' rfl fin
        | true =>
        refine if_pos' rfl ⟨_, rfl, ⟨_, rfl⟩, _, rfl, rfl, True.intro, _, rfl, ?_⟩
        rw [b1, Bool.true_and] at fin
        cases b2 : Txt.isalnum x with
        | false => rw [b2] at fin; exact if_neg' rfl fin
        | true =>
        rw [b2, Bool.true_and] at fin
        have pos : 0 < x.cps.size := by
          have : x.length = x.cps.size := rfl
          omega
        have hx : x.cps.toList[0]? = some (x.cps.getD 0 0) := by
          rw [Array.getElem?_toList, Array.getD_eq_getD_getElem?, Array.getElem?_eq_getElem pos]
          rfl
        refine if_pos' rfl ⟨_, rfl, _, _, x.cps.getD 0 0, rfl, rfl, Nat.le_trans few (by decide), at_hd hx, ⟨_, rfl⟩, _, rfl, rfl, True.intro, _, rfl, ?_⟩
        cases b3 : Txt.isalpha ⟨#[x.cps.getD 0 0]⟩ with
        | false => rw [b3] at fin; exact if_neg' rfl fin
        | true =>
        rw [b3, Bool.true_and] at fin
        exact if_pos' rfl ⟨_, rfl, _, rfl, ⟨_, rfl⟩, _, rfl, rfl, Nat.le_trans few (by decide), rfl, fin⟩
      · refine if_pos' (by rw [decide_eq_false a2]; rfl) ?_
        have e2 : decide (x.length ≤ 12) = false := decide_eq_false (by omega)
        unfold wd at fin
        rw [e2, Bool.and_false] at fin
        exact fin
    · refine if_neg' (decide_eq_false a1) ⟨_, rfl, if_pos' rfl ?_⟩
      have e1 : decide (1 ≤ x.length) = false := decide_eq_false (by omega)
      unfold wd at fin
      rw [e1] at fin
      exact fin
def nm (x : Str) : Bool := if (Builtin.Str.occurrences x "/" 0 x.length 1).isEmpty = true then wd x else (Txt.split x "/").all wd
/-- texts that is_name is asked of -/
structure Ask (x : Str) : Prop where
  few : x.length ≤ 1000
  parts : (Txt.split x "/").length ≤ 64
  small : ∀ y ∈ Txt.split x "/", y.length ≤ 1000
def spName : Sp := fun vs H Q _ => ∃ x : Str, vs = [.str x] ∧ Ask x ∧ ∀ H', Same H H' → Q (.bl (nm x)) H'
theorem ok_name {f : Addr} {fd : FuncData} (F : Fun K "is_name" "is_name" sName f fd) (T : Txt mg) (N : Nums mg) (GW : Glb P w K mg base "is_word" 1 ["value"] spWord) : FnOk P w K mg base (L2.CX P w) 2 f fd ["value"] spName := by
  obtain ⟨fW, fdW, mW, kW, GW, bW⟩ := GW.ex
  obtain ⟨t64, n64⟩ := N.words
  have sc : FnScope ["value", "words", "word"] ["value"] (defScope sName) := ⟨rfl, rfl, rfl, by decide +kernel, rfl, by decide +kernel, by decide +kernel⟩
  refine F.okX sc (fun vs H Q E h => ?_) (fun cdv A outer s H vs Q E hr h => ?_)
  · obtain ⟨x, rfl, _⟩ := h
    rfl
  · obtain ⟨x, rfl, ask, fin⟩ := h
    refine ⟨_, pss_cons (ps_if (pt_not (pt_val (pe_callB call_isi (by rfl) T.isi (by decide +kernel) (pa_cons (pv 0) (pa_cons (pe_bltn (v := .ty "str") (by rfl) T.str (by decide +kernel) rfl) pa_nil))))) (pss_one (ps_ret pe_bl)) pss_nil)
      (pss_cons (ps_if (pt_cmpR (op := .NotIn) op_notin_str pe_str (pv 0) (by rfl)) (pss_one (ps_ret (pe_call GW (hr.mono (by decide)) (by rfl) mW kW bW .nil passL (pa_cons (pv 0) pa_nil)))) pss_nil)
      (pss_cons (ps_set (i := 1) sc.nd rfl (Or.inl rfl) (pe_split (pv 0) pe_str))
      (pss_one (ps_ret (pe_and (pe_cmpR op_le (pe_callB call_len_seq (by rfl) T.len PySem.boot_len (pa_cons (pv 1) pa_nil)) (pe_glob (v := .int 64) (by rfl) n64 ⟨_, rfl⟩) (nomark _))
        (pe_one (pe_callB (cr_all rfl) (by rfl) T.all (by decide +kernel) (pa_cons (pe_lc (own := [("word", 2)]) (g := gName 2) (tt := tYes) rfl sc.nd (pi_list (pv 1)) (blkOk_by (N := ["value", "words", "word"]) (sc := defScope sName) (by decide +kernel)) (fun _ _ _ _ _ => pg_name (i := 2) sc.nd rfl (Or.inl rfl)) (fun _ _ _ _ _ => pts_nil)
          (fun _ _ _ _ _ => pe_call GW (hr.mono (by decide)) (by rfl) mW kW bW .nil passL (pa_cons (pv 2) pa_nil))) pa_nil)))))))), ?_⟩
    refine ⟨_, rfl, _, _, _, _, _, rfl, .ty _, .base (.str _), kit_ty (r := true) (by decide +kernel), _, rfl, if_neg' rfl ?_⟩
    refine ⟨_, rfl, _, _, rfl, rfl, _, rfl, ?_⟩
    unfold nm at fin
    by_cases hs : (Builtin.Str.occurrences x "/" 0 x.length 1).isEmpty = true
    · rw [if_pos hs] at fin
      rw [hs]
      exact if_pos' rfl ⟨_, rfl, x, rfl, ask.few, fin H (Same.refl H)⟩
    · rw [if_neg hs] at fin
      rw [Bool.not_eq_true] at hs
      rw [hs]
      refine if_neg' rfl ?_
      refine ⟨_, rfl, ⟨_, rfl⟩, x, "/", rfl, rfl, by decide, Nat.le_trans (Nat.add_le_add_right ask.few 2) (by decide), fun p np => ?_⟩
      have s1 := same_upd (o := .lst ((Txt.split x "/").map V.str)) np
      have h1 : (upd H p (.lst ((Txt.split x "/").map V.str))) p = some (.lst ((Txt.split x "/").map V.str)) := upd_same
      generalize upd H p (.lst ((Txt.split x "/").map V.str)) = H1 at s1 h1 ⊢
      refine ⟨_, rfl, p, _, rfl, .inl (SqL.of h1), _, _, rfl, rfl, true, ?_, if_pos' rfl ?_⟩
      · rw [List.length_map]
        exact congrArg V.bl (decide_eq_true (by have := ask.parts; omega))
      refine ⟨_, rfl, p, rfl, ⟨_, SqL.of h1⟩, fun D nD => ?_⟩
      refine lc_list (K := K) (a := p) (xs := (Txt.split x "/").map V.str) (fun j G => Same H1 G ∧ G D = some (.lst ((((Txt.split x "/").take j).map wd).map V.bl))) ⟨same_upd nD, upd_same⟩ (fun j G _ ⟨sm, _⟩ => SqL.of (sm _ _ h1)) (fun j y G hy ⟨sm, hD⟩ => ?_) (fun G ⟨sm, hD⟩ => ?_)
      · obtain ⟨z, hz, rfl⟩ := map_at hy
        have lt : j < (Txt.split x "/").length := (List.getElem?_eq_some_iff.mp hz).1
        refine ⟨rfl, yes_go (iteT ⟨_, rfl, z, rfl, ask.small z (List.mem_of_getElem? hz), _, hD, ?_, same_put sm nD, ?_⟩)⟩
        · rw [List.length_map, List.length_map, List.length_take]
          exact Nat.lt_of_le_of_lt (Nat.min_le_right _ _) (Nat.lt_of_le_of_lt ask.parts (by decide))
        · rw [upd_same, List.take_succ, hz, List.map_append, List.map_append]
          rfl
      · rw [List.length_map, List.take_length] at hD
        refine ⟨D, _, rfl, SqL.of hD, ?_⟩
        rw [List.all_map]
        exact fin G (s1.trans sm)
end
end R8
end

-- B8j
section
set_option Elab.async false
set_option linter.all false
set_option maxRecDepth 100000
namespace R8
open PySem L2 OwnOps OwnNe G1 EqDict MinKey SetSort DictList StX
abbrev sCheck : Stmt := top 16
abbrev veT : List Value := [.type "ValueError", .type "Exception", .type "BaseException", .type "object"]
abbrev oeT : List Value := [.type "OverflowError", .type "ArithmeticError", .type "Exception", .type "BaseException", .type "object"]
theorem ok_OE : PySem.Giv.BaseOk "OverflowError" "OverflowError.__new__" "OverflowError.__init__" oeT :=
  ⟨F.excBase_OverflowError, fun self => F.store_OverflowError.passes self, by decide +kernel⟩
structure Errs (K : PySem.W.Frag) (mg : Str → Option Value) (CP fP CL fL : Addr) : Prop where
  ip : PySem.Giv.ErrTxt K mg "InvalidPaper" "InvalidPaper.__init__" "ValueError.__new__" veT CP fP
  le : PySem.Giv.ErrTxt K mg "LimitExceeded" "LimitExceeded.__init__" "OverflowError.__new__" oeT CL fL
/-- an item of what is asked -/
inductive ItA (H : Hp) : V → Option (List Str) → Prop
  | tup {b : Addr} {t : List Str} : H b = some (.tup (t.map V.str)) → t.length ≤ 63 → (∀ n ∈ t, Ask n) → ItA H (.ref b) (some t)
  | non : ItA H .non none
  | lst {b : Addr} {xs : List V} : H b = some (.lst xs) → ItA H (.ref b) none
theorem ItA.same {H H' : Hp} {x : V} {o : Option (List Str)} (h : ItA H x o) (s : Same H H') : ItA H' x o := by
  cases h with
  | tup h1 h2 h3 => exact .tup (s _ _ h1) h2 h3
  | non => exact .non
  | lst h1 => exact .lst (s _ _ h1)
abbrev Itm := V × Option (List Str)
structure Its (H : Hp) (a : Addr) (L : List Itm) : Prop where
  at_ : H a = some (.lst (L.map (·.1)))
  it : ∀ p ∈ L, ItA H p.1 p.2
  few : L.length ≤ 60
def isT (p : Itm) : Bool := match p.2 with
  | some t => decide (0 < t.length)
  | none => false
def nms (p : Itm) : List Str := match p.2 with
  | some t => t
  | none => []
def bad (L : List Itm) : Bool := !(L.all isT) || !((L.flatMap nms).all nm)
inductive NotL (H : Hp) : V → Prop
  | non : NotL H .non
  | int (i : Int) : NotL H (.int i)
  | str (x : Str) : NotL H (.str x)
  | tup {b : Addr} {xs : List V} : H b = some (.tup xs) → NotL H (.ref b)
  | dct {b : Addr} {kvs : List (L2.Key × V)} : H b = some (.dK kvs) → NotL H (.ref b)
theorem NotL.ty {K : PySem.W.Frag} {H : Hp} {v : V} (h : NotL H v) : ∃ t, TyX K H v t ∧ PySem.W.kitOne K t (.type "list") = some false := by
  cases h with
  | non => exact ⟨_, .base .non, kit_ty (r := false) (by decide +kernel)⟩
  | int i => exact ⟨_, .base (.int i), kit_ty (r := false) (by decide +kernel)⟩
  | str x => exact ⟨_, .base (.str x), kit_ty (r := false) (by decide +kernel)⟩
  | tup e => exact ⟨_, .base (.tup e), kit_ty (r := false) (by decide +kernel)⟩
  | dct e => exact ⟨_, .base (.dK e), kit_ty (r := false) (by decide +kernel)⟩
theorem nms_len : ∀ (L : List Itm), (∀ p ∈ L, (nms p).length ≤ 63) → (L.flatMap nms).length ≤ 63 * L.length
  | [], _ => Nat.zero_le _
  | p :: r, h => by
    have h1 := h p List.mem_cons_self
    have h2 := nms_len r fun q hq => h q (List.mem_cons_of_mem _ hq)
    rw [List.flatMap_cons, List.length_append, List.length_cons]
    omega
theorem Its.small {H : Hp} {a : Addr} {L : List Itm} (h : Its H a L) : ∀ p ∈ L, (nms p).length ≤ 63 := fun p hp => by
  have q := h.it p hp
  obtain ⟨x, o⟩ := p
  cases q with
  | tup h1 h2 h3 => exact h2
  | non => exact Nat.zero_le _
  | lst h1 => exact Nat.zero_le _
theorem Its.same {H H' : Hp} {a : Addr} {L : List Itm} (h : Its H a L) (s : Same H H') : Its H' a L := ⟨s _ _ h.at_, fun p hp => (h.it p hp).same s, h.few⟩
theorem fst_at {L : List Itm} {i : Nat} {x : V} (h : (L.map (·.1))[i]? = some x) : ∃ o, L[i]? = some (x, o) := by
  rw [List.getElem?_map] at h
  cases e : L[i]? with
  | none => rw [e] at h; cases h
  | some p =>
    rw [e] at h
    cases h
    exact ⟨p.2, rfl⟩
abbrev giv (v : V) : HO := .xd [(("given" : Str), v)]
section
variable {P : Program} {w : World} {K : PySem.W.Frag} {mg : Str → Option Value} {base : Heap} {CP fP CL fL : Addr}
def spCheck (CP CL : Addr) : Sp := fun vs H Q E => ∃ v, vs = [v] ∧ (
  ((NotL H v ∨ ∃ a L, v = .ref a ∧ Its H a L ∧ bad L = true) ∧ ∀ d H', Same H H' → H' d = some (giv v) → E (.ref CP) (some d) H') ∨
  ∃ a L, v = .ref a ∧ Its H a L ∧ bad L = false ∧ ((14 < L.length ∧ ∀ d H', Same H H' → H' d = some (giv (.int L.length)) → E (.ref CL) (some d) H') ∨ (L.length ≤ 14 ∧ ∀ H', Same H H' → Q .non H')))
abbrev NC : List Str := ["some", "spot", "name"]
set_option maxHeartbeats 4000000 in
theorem ok_check {f : Addr} {fd : FuncData} (F : Fun K "_check_spots" "_check_spots" sCheck f fd) (T : Txt mg) (N : Nums mg) (U : Errs K mg CP fP CL fL) (GN : Glb P w K mg base "is_name" 2 ["value"] spName) : FnOk P w K mg base (L2.CX P w) 3 f fd ["some"] (spCheck CP CL) := by
  obtain ⟨fN, fdN, mN, kN, GN, bN⟩ := GN.ex
  obtain ⟨t14, n14⟩ := N.spots
  have sc : FnScope NC ["some"] (defScope sCheck) := ⟨rfl, rfl, rfl, by decide +kernel, rfl, by decide +kernel, by decide +kernel⟩
  refine F.okX sc (fun vs H Q E h => ?_) (fun cdv A outer s H vs Q E hr h => ?_)
  · obtain ⟨v, rfl, _⟩ := h
    rfl
  · obtain ⟨v, rfl, h⟩ := h
    have h : (NotL H v ∧ ∀ d H', Same H H' → H' d = some (giv v) → E (.ref CP) (some d) H') ∨ ∃ a L, v = .ref a ∧ Its H a L ∧ (bad L = true → ∀ d H', Same H H' → H' d = some (giv v) → E (.ref CP) (some d) H') ∧
        (bad L = false → 14 < L.length → ∀ d H', Same H H' → H' d = some (giv (.int L.length)) → E (.ref CL) (some d) H') ∧ (bad L = false → L.length ≤ 14 → ∀ H', Same H H' → Q .non H') := by
      rcases h with ⟨hb | ⟨a, L, e, i, b⟩, k⟩ | ⟨a, L, e, i, b, ⟨l, k⟩ | ⟨l, k⟩⟩
      · exact .inl ⟨hb, k⟩
      · exact .inr ⟨a, L, e, i, fun _ => k, fun z => (by rw [b] at z; cases z), fun z => (by rw [b] at z; cases z)⟩
      · exact .inr ⟨a, L, e, i, fun z => (by rw [b] at z; cases z), fun _ _ => k, fun _ z => absurd z (by omega)⟩
      · exact .inr ⟨a, L, e, i, fun z => (by rw [b] at z; cases z), fun _ z => absurd z (by omega), fun _ _ => k⟩
    refine ⟨_, pss_cons (ps_if (PW.pt (pw_or (pt_not (pt_val (pe_callB call_isi (by rfl) T.isi (by decide +kernel) (pa_cons (pv 0) (pa_cons (pe_bltn (v := .ty "list") (by rfl) T.list (by decide +kernel) rfl) pa_nil)))))
        (pw_or1 (pt_not (pt_val (pe_callB (cr_all rfl) (by rfl) T.all (by decide +kernel) (pa_cons (pe_lc (own := [("spot", 1)]) (g := gName 1) (tt := tYes) (te := tAndV (tCB (rIsi K) (tCons (tVar 1) (tCons (tC (.ty "tuple")) tNil))) (tOp (rI0 fun i j => .bl (decide (j < i))) (tCB (rLen K) (tCons (tVar 1) tNil)) (tC (.int 0)))) rfl sc.nd (pi_list (pv 0))
          (blkOk_by (N := NC) (sc := defScope sCheck) (by decide +kernel)) (fun _ _ _ _ _ => pg_name (i := 1) sc.nd rfl (Or.inl rfl)) (fun _ _ _ _ _ => pts_nil)
          (fun _ _ _ _ _ => pe_and (pe_callB (id := "isinstance") (show CallR _ (.builtin "isinstance") (rIsi K) from call_isi) (by rfl) T.isi (by decide +kernel) (pa_cons (pv 1) (pa_cons (pe_bltn (v := .ty "tuple") (by rfl) T.tuple (by decide +kernel) rfl) pa_nil))) (pe_one (pe_cmpR op_gt (pe_callB call_len_seq (by rfl) T.len PySem.boot_len (pa_cons (pv 1) pa_nil)) pe_int (nomark _))))) pa_nil)))))))
        (pss_one (ps_raiseGiv rfl PySem.Giv.ok_VE U.ip hr (takes_of rfl rfl rfl rfl) (pa_cons (pv 0) pa_nil) (by rfl))) pss_nil)
      (pss_cons (ps_if (pt_not (pt_val (pe_callB (cr_all rfl) (by rfl) T.all (by decide +kernel) (pa_cons (pe_lc2 (own := [("spot", 1), ("name", 2)]) (vs1 := [2]) (g := gName 1) (g1 := gName 2) (tt := tYes) (tt1 := tYes) (wi1 := iTup K (tVar 1)) rfl sc.nd (pi_list (pv 0))
          (blkOk_by (N := NC) (sc := defScope sCheck) (by decide +kernel)) (by decide) (fun _ _ _ _ _ => pg_name (i := 1) sc.nd rfl (Or.inl rfl)) (fun _ _ _ _ _ => pts_nil) (fun _ _ _ _ _ => pi_tup (pv 1))
          (fun _ _ _ _ _ => pg_name (i := 2) sc.nd rfl (Or.inl rfl)) (fun _ _ _ _ _ => pts_nil) (fun _ _ _ _ _ => pe_call GN (hr.mono (by decide)) (by rfl) mN kN bN .nil passL (pa_cons (pv 2) pa_nil))) pa_nil))))
        (pss_one (ps_raiseGiv rfl PySem.Giv.ok_VE U.ip hr (takes_of rfl rfl rfl rfl) (pa_cons (pv 0) pa_nil) (by rfl))) pss_nil)
      (pss_one (ps_if (pt_cmpR op_gt (pe_callB call_len_seq (by rfl) T.len PySem.boot_len (pa_cons (pv 0) pa_nil)) (pe_glob (v := .int 14) (by rfl) n14 ⟨_, rfl⟩) (nomark _))
        (pss_one (ps_raiseGiv rfl ok_OE U.le hr (takes_of rfl rfl rfl rfl) (pa_cons (pe_callB call_len_seq (by rfl) T.len PySem.boot_len (pa_cons (pv 0) pa_nil)) pa_nil) (by rfl))) pss_nil))), ?_⟩
    rcases h with ⟨hb, ke⟩ | ⟨a, L, rfl, its, k1, k2, k3⟩
    · obtain ⟨ty, h1, h2⟩ := hb.ty (K := K)
      exact ⟨_, rfl, _, _, _, _, _, rfl, .ty _, h1, h2, _, rfl, if_pos' rfl (if_pos' rfl ⟨_, rfl, _, rfl, fun d nd => ke d _ (same_upd nd) upd_same⟩)⟩
    refine ⟨_, rfl, _, _, _, _, _, rfl, .ty _, .base (.lst its.at_), kit_ty (r := true) (by decide +kernel), _, rfl, if_neg' rfl ?_⟩
    refine ⟨_, rfl, a, rfl, ⟨_, SqL.of its.at_⟩, fun D nD => ?_⟩
    refine lc_list (K := K) (a := a) (xs := L.map (·.1)) (fun t G => Same H G ∧ G D = some (.lst (((L.take t).map isT).map V.bl))) ⟨same_upd nD, upd_same⟩ (fun t G _ ⟨sm, _⟩ => SqL.of (sm _ _ its.at_)) (fun t x G hx ⟨sm, hD⟩ => ?_) (fun G ⟨sm, hD⟩ => ?_)
    · obtain ⟨o, hp⟩ := fst_at hx
      have room : (((L.take t).map isT).map V.bl).length < sizeLine := by
        rw [List.length_map, List.length_map, List.length_take]
        exact Nat.lt_of_le_of_lt (Nat.min_le_right _ _) (Nat.lt_of_le_of_lt its.few (by decide))
      have nxt : ∀ b, b = isT (x, o) → (upd G D (.lst (((L.take t).map isT).map V.bl ++ [V.bl b]))) D = some (.lst (((L.take (t + 1)).map isT).map V.bl)) := fun b e => by
        rw [upd_same, List.take_succ, hp, List.map_append, List.map_append, e]
        rfl
      have q := (its.it _ (List.mem_of_getElem? hp)).same sm
      cases q with
      | tup h1 h2 h3 => exact ⟨rfl, yes_go (iteT ⟨_, rfl, _, _, _, _, _, rfl, .ty _, .base (.tup h1), kit_ty (r := true) (by decide +kernel), _, rfl, if_pos' rfl ⟨_, rfl, _, _, rfl, .inr (SqT.of h1), _, _, rfl, rfl, _, hD, room, same_put sm nD, nxt _ (by
          show decide ((0 : Int) < ((List.map V.str _).length : Nat)) = decide _
          rw [List.length_map, decide_eq_decide]
          omega)⟩⟩)⟩
      | non => exact ⟨rfl, yes_go (iteT ⟨_, rfl, _, _, _, _, _, rfl, .ty _, .base .non, kit_ty (r := false) (by decide +kernel), _, rfl, if_neg' rfl ⟨_, hD, room, same_put sm nD, nxt _ rfl⟩⟩)⟩
      | lst h1 => exact ⟨rfl, yes_go (iteT ⟨_, rfl, _, _, _, _, _, rfl, .ty _, .base (.lst h1), kit_ty (r := false) (by decide +kernel), _, rfl, if_neg' rfl ⟨_, hD, room, same_put sm nD, nxt _ rfl⟩⟩)⟩
    rw [List.length_map, List.take_length] at hD
    refine ⟨D, _, rfl, SqL.of hD, _, rfl, ?_⟩
    rw [List.all_map, show (L.all (id ∘ isT)) = L.all isT from rfl]
    cases ha : L.all isT with
    | false => exact if_pos' rfl ⟨_, rfl, _, rfl, fun d nd => k1 (by unfold bad; rw [ha]; rfl) d _ (sm.trans (same_upd nd)) upd_same⟩
    | true =>
    refine if_neg' rfl ?_
    have its1 := its.same sm
    have H0 := sm
    refine ⟨_, rfl, a, rfl, ⟨_, SqL.of its1.at_⟩, fun D nD1 => ?_⟩
    refine walk_it (walk_list (K := K) (a := a) (xs := L.map (·.1))) (fun i G2 => Same G G2 ∧ G2 D = some (.lst ((((L.take i).flatMap nms).map nm).map V.bl))) ⟨same_upd nD1, upd_same⟩ (fun i G2 _ ⟨sm2, _⟩ => SqL.of (sm2 _ _ its1.at_)) (fun i x G2 G3 hi ⟨sm2, hD2⟩ ⟨e, hx⟩ => ?_) (fun G2 ⟨sm2, hD2⟩ => ?_)
    · subst e
      obtain ⟨o, hp⟩ := fst_at hx
      have mem := List.mem_of_getElem? hp
      have q := its1.it _ mem
      have tt : isT (x, o) = true := List.all_eq_true.mp ha _ mem
      have bound : ((L.take i).flatMap nms).length ≤ 63 * 60 := by
        have h1 := nms_len (L.take i) fun p hp => its.small p (List.mem_of_mem_take hp)
        have h2 : (L.take i).length ≤ 60 := by
          rw [List.length_take]
          exact Nat.le_trans (Nat.min_le_right _ _) its.few
        omega
      cases q with
      | non => cases tt
      | lst h1 => cases tt
      | @tup b t h1 h2 h3 =>
        refine ⟨rfl, yes_go (iteT ⟨_, rfl, b, rfl, ⟨_, SqT.of (sm2 _ _ h1)⟩, ?_⟩)⟩
        refine walk_it (walk_tup (K := K) (a := b) (xs := t.map V.str)) (fun k G4 => Same G G4 ∧ G4 D = some (.lst (((((L.take i).flatMap nms) ++ t.take k).map nm).map V.bl))) ⟨sm2, by rw [List.take_zero, List.append_nil]; exact hD2⟩ (fun k G4 _ ⟨sm4, _⟩ => SqT.of (sm4 _ _ h1)) (fun k y G4 G5 hk ⟨sm4, hD4⟩ ⟨e, hy⟩ => ?_) (fun G4 ⟨sm4, hD4⟩ => ?_)
        · subst e
          obtain ⟨z, hz, rfl⟩ := map_at hy
          refine ⟨rfl, yes_go (iteT ⟨_, rfl, z, rfl, h3 z (List.mem_of_getElem? hz), fun G6 s6 => ⟨_, s6 _ _ hD4, ?_, ?_, ?_⟩⟩)⟩
          · rw [List.length_map, List.length_map, List.length_append, List.length_take]
            exact Nat.lt_of_le_of_lt (m := 4000) (by have := Nat.min_le_right k t.length; omega) (by decide)
          · exact same_put (sm4.trans s6) nD1
          · rw [upd_same, List.take_succ, hz]
            simp
        · rw [List.length_map, List.take_length] at hD4
          refine ⟨sm4, ?_⟩
          rw [hD4, List.take_succ, hp, List.flatMap_append]
          simp [nms]
    rw [List.length_map, List.take_length] at hD2
    have S2 := H0.trans sm2
    refine ⟨D, _, rfl, SqL.of hD2, _, rfl, ?_⟩
    rw [List.all_map, show ((L.flatMap nms).all (id ∘ nm)) = (L.flatMap nms).all nm from rfl]
    cases hn : (L.flatMap nms).all nm with
    | false => exact if_pos' rfl ⟨_, rfl, _, rfl, fun d nd => k1 (by unfold bad; rw [ha, hn]; rfl) d _ (S2.trans (same_upd nd)) upd_same⟩
    | true =>
    have gb : bad L = false := by unfold bad; rw [ha, hn]; rfl
    refine if_neg' rfl ?_
    have q2 := S2 _ _ its.at_
    refine ⟨_, rfl, a, _, rfl, .inl (SqL.of q2), _, _, rfl, rfl, _, rfl, ?_⟩
    rw [List.length_map]
    by_cases l14 : (14 : Int) < (L.length : Int)
    · refine if_pos' (decide_eq_true l14) ⟨_, rfl, a, _, rfl, .inl (SqL.of q2), _, rfl, fun d nd => ?_⟩
      rw [List.length_map]
      exact k2 gb (by omega) d _ (S2.trans (same_upd nd)) upd_same
    · exact if_neg' (decide_eq_false l14) (k3 gb (by omega) G2 S2)
end
end R8
end

-- B8k
section
set_option Elab.async false
set_option linter.all false
set_option maxRecDepth 100000
namespace R8
open PySem L2 OwnOps OwnNe G1 EqDict MinKey SetSort DictList StX TryAs
abbrev sMA : Stmt := top 13
abbrev sAP : Stmt := top 14
abbrev sLA : Stmt := top 15
/-- an exception wished for at every state of n slots -/
def EN (n : Nat) (W : WX) : XK := fun cls d H' => ∀ t : L2.St, t.length = n → W cls d t H'
theorem pass_n {X : Cx} {W : WX} {n : Nat} (hn : X.N.length = n) (tk : Takes X W) : Passes (L2.CX X.prog X.w) X (EN n W) := by
  subst hn
  exact pass_all tk
/-- good spots, in a list -/
structure Good (H : Hp) (a : Addr) (L : List Spt) : Prop where
  at_ : H a = some (.lst (rf L))
  fit : Fit H L
  few : L.length ≤ 14
  ok : ∀ p ∈ L, ∀ n ∈ p.2, Ask n ∧ nm n = true
abbrev itm (p : Spt) : Itm := (.ref p.1, some p.2)
theorem Good.its {H : Hp} {a : Addr} {L : List Spt} (g : Good H a L) : Its H a (L.map itm) :=
  ⟨by rw [g.at_, List.map_map]; rfl, fun p hp => by
    obtain ⟨q, hq, rfl⟩ := List.mem_map.mp hp
    exact .tup (g.fit.tp q hq) (g.fit.sm q hq) fun n hn => (g.ok q hq n hn).1, by rw [List.length_map]; exact Nat.le_trans g.few (by decide)⟩
theorem Good.bad {H : Hp} {a : Addr} {L : List Spt} (g : Good H a L) : bad (L.map itm) = false := by
  have h1 : (L.map itm).all isT = true := by
    rw [List.all_map, List.all_eq_true]
    exact fun p hp => decide_eq_true (List.length_pos_iff.mpr (g.fit.fu p hp))
  have h2 : ((L.map itm).flatMap nms).all nm = true := by
    rw [List.all_eq_true]
    intro n hn
    obtain ⟨q, hq, hn⟩ := List.mem_flatMap.mp hn
    obtain ⟨p, hp, rfl⟩ := List.mem_map.mp hq
    exact (g.ok p hp n hn).2
  unfold R8.bad
  rw [h1, h2]
  rfl
/-- what a function says of what it is asked, and what it does with good spots -/
def Ck (CP CL : Addr) (H : Hp) (E : XK) (v : V) (go : Addr → List Spt → Prop) : Prop :=
  ((NotL H v ∨ ∃ a L, v = .ref a ∧ Its H a L ∧ bad L = true) ∧ ∀ d H', Same H H' → H' d = some (giv v) → E (.ref CP) (some d) H') ∨
  (∃ a L, v = .ref a ∧ Its H a L ∧ bad L = false ∧ 14 < L.length ∧ ∀ d H', Same H H' → H' d = some (giv (.int L.length)) → E (.ref CL) (some d) H') ∨
  ∃ a L, v = .ref a ∧ Good H a L ∧ go a L
theorem Ck.run {CP CL : Addr} {H : Hp} {E F : XK} {v : V} {go : Addr → List Spt → Prop} {Q : VK} (c : Ck CP CL H E v go) (ef : ∀ cls d H', E cls d H' → F cls d H') (k : ∀ a L, v = .ref a → Good H a L → go a L → ∀ H', Same H H' → Q .non H') : spCheck CP CL [v] H Q F := by
  refine ⟨v, rfl, ?_⟩
  rcases c with ⟨h, q⟩ | ⟨a, L, h1, h2, h3, h4, q⟩ | ⟨a, L, h1, h2, h3⟩
  · exact .inl ⟨h, fun d H' s e => ef _ _ _ (q d H' s e)⟩
  · exact .inr ⟨a, L, h1, h2, h3, .inl ⟨h4, fun d H' s e => ef _ _ _ (q d H' s e)⟩⟩
  · exact .inr ⟨a, L.map itm, h1, h2.its, h2.bad, .inr ⟨by rw [List.length_map]; exact h2.few, k a L h1 h2 h3⟩⟩
section
variable {P : Program} {w : World} {K : PySem.W.Frag} {mg : Str → Option Value} {base : Heap} {CP fP CL fL : Addr}
def spMA (CP CL : Addr) : Sp := fun vs H Q E => ∃ v, vs = [v] ∧ Ck CP CL H E v fun a L => ∀ r R H', Same H H' → H r = none → H' r = some (.lst (rf R)) → Res L R → Q (.ref r) H'
theorem ok_MA {f : Addr} {fd : FuncData} (F : Fun K "most_apart" "most_apart" sMA f fd) (T : Txt mg) (GC : Glb P w K mg base "_check_spots" 3 ["some"] (spCheck CP CL)) (GM : Glb P w K mg base "_most" 16 ["left"] (spMost 14)) : FnOk P w K mg base (L2.CX P w) 17 f fd ["some"] (spMA CP CL) := by
  obtain ⟨fC, fdC, mC, kC, GC, bC⟩ := GC.ex
  obtain ⟨fM, fdM, mM, kM, GM, bM⟩ := GM.ex
  have sc : FnScope ["some"] ["some"] (defScope sMA) := ⟨rfl, rfl, rfl, by decide +kernel, rfl, by decide +kernel, by decide +kernel⟩
  refine F.okX sc (fun vs H Q E h => ?_) (fun cdv A outer s H vs Q E hr h => ?_)
  · obtain ⟨v, rfl, _⟩ := h
    rfl
  · obtain ⟨v, rfl, c⟩ := h
    refine ⟨_, pss_cons (ps_expr (pe_call (E := EN 1 (fun cls d _ H => E cls d H)) GC (hr.mono (by decide)) (by rfl) mC kC bC .nil (pass_n rfl (takes_of rfl rfl rfl rfl)) (pa_cons (pv 0) pa_nil)))
      (pss_one (ps_ret (pe_call GM (hr.mono (by decide)) (by rfl) mM kM bM .nil passL (pa_cons (pe_callTy call_list_of (by rfl) T.list (by decide +kernel) (pa_cons (pv 0) pa_nil)) pa_nil)))), ?_⟩
    refine ⟨_, rfl, ?_⟩
    dsimp only [tNil, List.append_nil]
    refine c.run (fun _ _ _ h _ _ => h) fun a L ev g go H1 s1 => ?_
    subst ev
    have g1 := s1 _ _ g.at_
    refine ⟨_, rfl, a, _, rfl, .inl (SqL.of g1), fun l nl => ?_⟩
    have s2 := same_upd (o := .lst (rf L)) nl
    have fit := g.fit.same (s1.trans s2)
    exact ⟨l, L, rfl, upd_same, fit.tp, fit.fu, fun p hp => Nat.le_trans (fit.sm p hp) (by decide), g.few, by decide, fun r R H' s3 nr hr hres => go r R H' ((s1.trans s2).trans s3) (Same.none (s1.trans s2) nr) hr hres⟩
def spAP (CP CL : Addr) : Sp := fun vs H Q E => ∃ (v : V) (m : Int), vs = [v, .int m] ∧ -1000 ≤ m ∧ m ≤ 1000 ∧ Ck CP CL H E v fun a L => ∀ k, Opt L k → ((m < k) → ∀ H', Same H H' → Q .non H') ∧ ((k : Int) ≤ m → ∀ u H', Same H H' → Pap H' u L m → Q u H')
theorem ok_AP {f : Addr} {fd : FuncData} (F : Fun K "apart_paper" "apart_paper" sAP f fd) (T : Txt mg) (GC : Glb P w K mg base "_check_spots" 3 ["some"] (spCheck CP CL)) (GM : Glb P w K mg base "_most" 16 ["left"] (spMost 14)) (GP : Glb P w K mg base "_paper" 18 ["left", "many"] (spPap 14)) : FnOk P w K mg base (L2.CX P w) 19 f fd ["some", "many"] (spAP CP CL) := by
  obtain ⟨fC, fdC, mC, kC, GC, bC⟩ := GC.ex
  obtain ⟨fM, fdM, mM, kM, GM, bM⟩ := GM.ex
  obtain ⟨fQ, fdQ, mQ, kQ, GQ, bQ⟩ := GP.ex
  have sc : FnScope ["some", "many"] ["some", "many"] (defScope sAP) := ⟨rfl, rfl, rfl, by decide +kernel, rfl, by decide +kernel, by decide +kernel⟩
  refine F.okX sc (fun vs H Q E h => ?_) (fun cdv A outer s H vs Q E hr h => ?_)
  · obtain ⟨v, m, rfl, _⟩ := h
    rfl
  · obtain ⟨v, m, rfl, m1, m2, c⟩ := h
    refine ⟨_, pss_cons (ps_expr (pe_call (E := EN 2 (fun cls d _ H => E cls d H)) GC (hr.mono (by decide)) (by rfl) mC kC bC .nil (pass_n rfl (takes_of rfl rfl rfl rfl)) (pa_cons (pv 0) pa_nil)))
      (pss_one (ps_ret (pe_ifExp (pt_cmpR op_gt (pe_callB call_len_seq (by rfl) T.len PySem.boot_len (pa_cons (pe_call GM (hr.mono (by decide)) (by rfl) mM kM bM .nil passL (pa_cons (pe_callTy call_list_of (by rfl) T.list (by decide +kernel) (pa_cons (pv 0) pa_nil)) pa_nil)) pa_nil)) (pv 1) (nomark _)) pe_non
        (pe_call GQ (hr.mono (by decide)) (by rfl) mQ kQ bQ .nil passL (pa_cons (pe_callTy call_list_of (by rfl) T.list (by decide +kernel) (pa_cons (pv 0) pa_nil)) (pa_cons (pv 1) pa_nil)))))), ?_⟩
    refine ⟨_, rfl, ?_⟩
    dsimp only [tNil, List.append_nil]
    refine c.run (fun _ _ _ h _ _ => h) fun a L ev g go H1 s1 => ?_
    subst ev
    refine ⟨_, rfl, a, _, rfl, .inl (SqL.of (s1 _ _ g.at_)), fun l nl => ?_⟩
    have s2 := same_upd (o := .lst (rf L)) nl
    have S2 := s1.trans s2
    have fit := g.fit.same S2
    refine ⟨l, L, rfl, upd_same, fit.tp, fit.fu, fun p hp => Nat.le_trans (fit.sm p hp) (by decide), g.few, by decide, fun r R H' s3 nr hr hres => ?_⟩
    have S3 := S2.trans s3
    refine ⟨r, _, rfl, .inl (SqL.of hr), _, rfl, _, _, rfl, rfl, _, rfl, ?_⟩
    rw [rf_len]
    obtain ⟨q1, q2⟩ := go _ hres.opt
    by_cases h : m < (R.length : Int)
    · exact if_pos' (decide_eq_true h) (q1 h H' S3)
    · refine if_neg' (decide_eq_false h) ⟨_, rfl, a, _, rfl, .inl (SqL.of (S3 _ _ g.at_)), fun l2 nl2 => ?_⟩
      have s4 := same_upd (o := .lst (rf L)) nl2
      exact ⟨_, rfl, l2, m, L, _, rfl, upd_same, g.fit.same (S3.trans s4), g.few, by decide, hres.opt, by omega, m2, fun u H5 s5 pap => q2 (by omega) u H5 ((S3.trans s4).trans s5) pap⟩
end
end R8
end

-- B8n
section
set_option Elab.async false
set_option linter.all false
set_option maxRecDepth 100000
set_option exponentiation.threshold 6000
namespace R8
open PySem L2 OwnOps OwnNe G1 EqDict MinKey SetSort DictList StX TryAs
abbrev sDraws : Stmt := top 24
abbrev sDraw : Stmt := top 25
theorem dp_ints {K : PySem.W.Frag} {H : Hp} : ∀ ns : List Int, DpAll K H (ns.map V.int) (ns.map PyData.int)
  | [] => .nil
  | n :: r => .cons (.int n) (dp_ints r)
theorem atI_mod {ns : List Int} {k : Int} (h : ns ≠ []) : ∃ z, atI (ns.map V.int) (k % (ns.length : Int)) = some (.int z) := by
  have hl : 0 < ns.length := List.length_pos_iff.mpr h
  have h1 : 0 ≤ k % (ns.length : Int) := Int.emod_nonneg _ (by omega)
  have h2 : k % (ns.length : Int) < ns.length := Int.emod_lt_of_pos _ (by omega)
  obtain ⟨j, hj⟩ : ∃ j : Nat, k % (ns.length : Int) = j := ⟨_, (Int.toNat_of_nonneg h1).symm⟩
  have h3 : j < ns.length := by omega
  refine ⟨ns[j], at_of hj ?_⟩
  rw [List.getElem?_map, List.getElem?_eq_getElem h3]
  rfl
section
variable {P : Program} {w : World} {K : PySem.W.Frag} {mg : Str → Option Value} {base : Heap}
/-! ### the law's draws -/
def spDraws (K : PySem.W.Frag) : Sp := fun vs H Q _ => ∃ (a : Addr) (ns : List Int) (k : Int), vs = [.ref a, .int k] ∧ SqL K H a (ns.map V.int) ∧
  ∀ p x y H', Same H H' → H' p = some (.lst [.int x, .int y]) → H p = none → Q (.ref p) H'
theorem ok_draws {f : Addr} {fd : FuncData} (F : Fun K "_law_draws" "_law_draws" sDraws f fd) (T : Txt mg) :
    FnOk P w K mg base (L2.CX P w) 1 f fd ["_law_script", "_law_k"] (spDraws K) := by
  have sc : FnScope ["_law_script", "_law_k", "_law_cell", "_law_seed"] ["_law_script", "_law_k"] (defScope sDraws) := ⟨rfl, rfl, rfl, by decide +kernel, rfl, by decide +kernel, by decide +kernel⟩
  refine F.okX sc (fun vs H Q E h => ?_) (fun cdv A outer s H vs Q E hr h => ?_)
  · obtain ⟨a, ns, k, rfl, _⟩ := h
    rfl
  · obtain ⟨a, ns, k, rfl, hS, fin⟩ := h
    refine ⟨_, pss_cons (ps_set (i := 2) sc.nd rfl (Or.inl rfl) pe_int)
      (pss_cons (ps_if (pt_cmpR (op_neD hr.units) (pv 0) (pe_lst pa_nil) (nomark _))
        (pss_one (ps_set (i := 2) sc.nd rfl (Or.inl rfl) (pe_ix ix_list (pv 0) (pe_op op_mod (pe_callTy call_int1 (by rfl) T.int (by decide +kernel) (pa_cons (pv 1) pa_nil)) (pe_callB call_len_seq (by rfl) T.len PySem.boot_len (pa_cons (pv 0) pa_nil))) (fun _ _ => rfl)))) pss_nil)
      (pss_cons (ps_if (pt_cmpR op_ge (pv 1) (pe_callB call_len_seq (by rfl) T.len PySem.boot_len (pa_cons (pv 0) pa_nil)) (nomark _))
        (pss_one (ps_set (i := 2) sc.nd rfl (Or.inl rfl) (pe_op op_mod (pe_callTy call_int1 (by rfl) T.int (by decide +kernel) (pa_cons (pv 2) pa_nil)) pe_int))) pss_nil)
      (pss_cons (ps_set (i := 3) sc.nd rfl (Or.inl rfl) (pe_op op_mod (pe_op op_mul (pe_callTy call_int1 (by rfl) T.int (by decide +kernel) (pa_cons
          (pe_op op_add (pe_op op_add (pe_op op_mod (pe_callTy call_int1 (by rfl) T.int (by decide +kernel) (pa_cons (pv 2) pa_nil)) pe_int) (pe_op op_mul pe_int (pv 1))) pe_int) pa_nil)) pe_int) pe_int))
      (pss_one (ps_ret (pe_lst (pa_cons (pe_op op_mul (pv 2) (pe_callTy call_int1 (by rfl) T.int (by decide +kernel) (pa_cons (pe_cmpR op_ge (pv 2) (pe_op op_pow pe_int pe_int) (nomark _)) pa_nil))) (pa_cons (pv 3) pa_nil)))))))), ?_⟩
    refine ⟨_, rfl, (by show 0 ≤ sizeLine; exact Nat.zero_le _), fun p0 np0 => ?_⟩
    have s0 : Same H (upd H p0 (.lst [])) := same_upd np0
    have hS0 := s0.seq hS
    have e0 : (upd H p0 (.lst [])) p0 = some (.lst []) := upd_same
    generalize upd H p0 (.lst []) = H0 at s0 hS0 e0
    have el : (1000003 : Int) > 0 := by decide
    have bits : ∀ z : Int, -(2 ^ 64) < (if decide (z ≥ 10 ^ 18) = true then (1 : Int) else 0) ∧ (if decide (z ≥ 10 ^ 18) = true then (1 : Int) else 0) < 2 ^ 64 := fun z => by
      split <;> exact ⟨by decide, by decide⟩
    refine ⟨.list (ns.map PyData.int), .list [], .lst hS0 (dp_ints ns), .lst (SqL.of e0) .nil, PySem.W.ke_shaped_ints ns, by decide +kernel, _, rfl, ?_⟩
    by_cases hn : ns = []
    · subst hn
      refine iteF ?_
      refine ⟨_, rfl, _, rfl, a, _, rfl, .inl hS0, _, _, rfl, rfl, _, rfl, ?_⟩
      refine ite2 (fun _ => ⟨_, rfl, .inl ⟨_, rfl, _, _, rfl, rfl, (by show (0 : Int) < 1000003; decide), ?_⟩⟩) (fun _ => ?_)
      all_goals
        refine ⟨_, rfl, .inl ⟨_, rfl, _, _, rfl, rfl, (by show (0 : Int) < 2147483629; decide), _, rfl, _, _, rfl, rfl, .inl ⟨by decide, by decide⟩, _, _, rfl, rfl, _, _, rfl, rfl, .inl ⟨_, rfl, _, _, rfl, rfl, .inr ⟨by decide, by decide⟩, _, _, rfl, rfl, (by show (0 : Int) < 2147483647; decide), ?_⟩⟩⟩
        refine ⟨_, rfl, _, rfl, _, _, rfl, rfl, ⟨by decide, by decide, by decide +kernel⟩, _, _, rfl, rfl, .inr ⟨_, rfl, _, _, rfl, rfl, .inr (bits _), _, rfl, (by show 2 ≤ sizeLine; decide), fun p np => ?_⟩⟩
        exact fin p _ _ _ (s0.trans (same_upd np)) upd_same (s0.free np)
    · have ef : PyData.eqv (.list (ns.map PyData.int)) (.list []) = false := by
        cases ns with
        | nil => exact absurd rfl hn
        | cons _ _ => rfl
      rw [ef]
      obtain ⟨z, hz⟩ := atI_mod (k := k) hn
      refine iteT ⟨_, rfl, _, rfl, .inl ⟨_, rfl, _, rfl, a, _, rfl, .inl hS0, _, _, rfl, rfl, (by rw [List.length_map]; exact Int.natCast_pos.mpr (List.length_pos_iff.mpr hn)), a, _, _, _, rfl, rfl, hS0, (by rw [List.length_map]; exact hz), ?_⟩⟩
      refine ⟨_, rfl, _, rfl, a, _, rfl, .inl hS0, _, _, rfl, rfl, _, rfl, ?_⟩
      refine ite2 (fun _ => ⟨_, rfl, .inl ⟨_, rfl, _, _, rfl, rfl, (by show (0 : Int) < 1000003; decide), ?_⟩⟩) (fun _ => ?_)
      all_goals
        refine ⟨_, rfl, .inl ⟨_, rfl, _, _, rfl, rfl, (by show (0 : Int) < 2147483629; decide), _, rfl, _, _, rfl, rfl, .inl ⟨by decide, by decide⟩, _, _, rfl, rfl, _, _, rfl, rfl, .inl ⟨_, rfl, _, _, rfl, rfl, .inr ⟨by decide, by decide⟩, _, _, rfl, rfl, (by show (0 : Int) < 2147483647; decide), ?_⟩⟩⟩
        refine ⟨_, rfl, _, rfl, _, _, rfl, rfl, ⟨by decide, by decide, by decide +kernel⟩, _, _, rfl, rfl, .inr ⟨_, rfl, _, _, rfl, rfl, .inr (bits _), _, rfl, (by show 2 ≤ sizeLine; decide), fun p np => ?_⟩⟩
        exact fin p _ _ _ (s0.trans (same_upd np)) upd_same (s0.free np)
def spDraw : Sp := fun vs H Q _ => ∃ (l : Addr) (u x y : Int), vs = [.ref l, .int u] ∧ 0 < u ∧ u < 1073741824 ∧ H l = some (.lst [.int x, .int y]) ∧
  ∀ d x' y', 0 ≤ d → d < u → Q (.int d) (upd H l (.lst [.int x', .int y']))
theorem ok_draw {f : Addr} {fd : FuncData} (F : Fun K "_law_draw" "_law_draw" sDraw f fd) (T : Txt mg) :
    FnOk P w K mg base (L2.CX P w) 1 f fd ["_law_draws_here", "_law_upto"] spDraw := by
  have sc : FnScope ["_law_draws_here", "_law_upto", "_law_digit"] ["_law_draws_here", "_law_upto"] (defScope sDraw) := ⟨rfl, rfl, rfl, by decide +kernel, rfl, by decide +kernel, by decide +kernel⟩
  refine F.okX sc (fun vs H Q E h => ?_) (fun cdv A outer s H vs Q E hr h => ?_)
  · obtain ⟨l, u, x, y, rfl, _⟩ := h
    rfl
  · obtain ⟨l, u, x, y, rfl, u0, u1, hl, fin⟩ := h
    refine ⟨_, pss_cons (ps_if (pt_cmpR op_gt (pe_ix ix_list (pv 0) pe_int (fun _ _ => rfl)) pe_int (nomark _))
        (pss_cons (ps_set (i := 2) sc.nd rfl (Or.inl rfl) (pe_op op_mod (pe_callTy call_int1 (by rfl) T.int (by decide +kernel) (pa_cons (pe_ix ix_list (pv 0) pe_int (fun _ _ => rfl)) pa_nil)) (pv 1)))
        (pss_cons (ps_asg (pe_op op_fdiv (pe_ix ix_list (pv 0) pe_int (fun _ _ => rfl)) (pv 1)) (pg_sub (pv 0) pe_int set_list))
        (pss_one (ps_ret (pv 2))))) pss_nil)
      (pss_cons (ps_asg (pe_op op_mod (pe_callTy call_int1 (by rfl) T.int (by decide +kernel) (pa_cons (pe_op op_add (pe_op op_mul (pe_ix ix_list (pv 0) pe_int (fun _ _ => rfl)) pe_int) pe_int) pa_nil)) pe_int) (pg_sub (pv 0) pe_int set_list))
      (pss_one (ps_ret (pe_op op_mod (pe_callTy call_int1 (by rfl) T.int (by decide +kernel) (pa_cons (pe_op op_fdiv (pe_op op_mod (pe_callTy call_int1 (by rfl) T.int (by decide +kernel)
        (pa_cons (pe_op op_mul (pe_ix ix_list (pv 0) pe_int (fun _ _ => rfl)) (pe_ix ix_list (pv 0) pe_int (fun _ _ => rfl))) pa_nil)) pe_int) pe_int) pa_nil)) (pv 1))))), ?_⟩
    refine ⟨_, rfl, l, _, _, _, rfl, rfl, SqL.of hl, at_of (j := 0) rfl rfl, _, _, rfl, rfl, _, rfl, ?_⟩
    refine ite2 (fun _ => ?_) (fun _ => ?_)
    · refine ⟨_, rfl, l, _, _, _, rfl, rfl, SqL.of hl, at_of (j := 0) rfl rfl, .inl ⟨_, rfl, _, rfl, _, _, rfl, rfl, u0, ?_⟩⟩
      refine ⟨_, rfl, l, _, _, _, rfl, rfl, SqL.of hl, at_of (j := 0) rfl rfl, _, rfl, _, _, rfl, rfl, ⟨u0, u1⟩, _, rfl, l, _, _, 0, rfl, rfl, hl, rfl, _, rfl, ?_⟩
      exact fin _ _ _ (Int.emod_nonneg _ (Int.ne_of_gt u0)) (Int.emod_lt_of_pos _ u0)
    · refine ⟨_, rfl, l, _, _, _, rfl, rfl, SqL.of hl, at_of (j := 1) rfl rfl, _, _, rfl, rfl, .inr ⟨by decide, by decide⟩, _, _, rfl, rfl, .inl ⟨_, rfl, _, _, rfl, rfl, (by show (0 : Int) < 2147483647; decide), _, rfl, l, _, _, 1, rfl, rfl, hl, rfl, ?_⟩⟩
      have y0 : 0 ≤ (y * 48271 + 11) % 2147483647 := Int.emod_nonneg _ (by decide)
      have y1 : (y * 48271 + 11) % 2147483647 < 2147483647 := Int.emod_lt_of_pos _ (by decide)
      have hl2 : (upd H l (.lst [.int x, .int ((y * 48271 + 11) % 2147483647)])) l = some (.lst [.int x, .int ((y * 48271 + 11) % 2147483647)]) := upd_same
      refine ⟨_, rfl, l, _, _, .int ((y * 48271 + 11) % 2147483647), rfl, rfl, SqL.of hl2, at_of (j := 1) rfl rfl, _, rfl, l, _, _, .int ((y * 48271 + 11) % 2147483647), rfl, rfl, SqL.of hl2, at_of (j := 1) rfl rfl, _, _, rfl, rfl, .inl ⟨by omega, by omega⟩, .inl ⟨_, rfl, _, _, rfl, rfl, (by show (0 : Int) < 2147483629; decide), _, _, rfl, rfl, ⟨by decide, by decide⟩, .inl ⟨_, rfl, _, rfl, _, _, rfl, rfl, u0, ?_⟩⟩⟩
      exact fin _ _ _ (Int.emod_nonneg _ (Int.ne_of_gt u0)) (Int.emod_lt_of_pos _ u0)
end
end R8
end

-- DxData
section
set_option Elab.async false
set_option linter.all false
set_option maxRecDepth 100000
/-! data of any depth, empty dicts among them. -/
namespace DX
open PySem PySem.Spec PyProof.Rows L2
mutual
inductive Dx (K : PySem.W.Frag) (l : Addr) (H : Hp) : V → PyData → Prop
  | non : Dx K l H .non .none
  | bl (b : Bool) : Dx K l H (.bl b) (.bool b)
  | int (i : Int) : Dx K l H (.int i) (.int i)
  | str (x : Str) : Dx K l H (.str x) (.str x)
  | lst {a : Addr} {xs : List V} {ds : List PyData} : a ≠ l → H a = some (.lst xs) → DxAll K l H xs ds → Dx K l H (.ref a) (.list ds)
  | tup {a : Addr} {xs : List V} {ds : List PyData} : H a = some (.tup xs) → DxAll K l H xs ds → Dx K l H (.ref a) (.tuple ds)
  | dct {a : Addr} : H a = some (.dK []) → Dx K l H (.ref a) (.dict [])
inductive DxAll (K : PySem.W.Frag) (l : Addr) (H : Hp) : List V → List PyData → Prop
  | nil : DxAll K l H [] []
  | cons {v : V} {vs : List V} {d : PyData} {ds : List PyData} : Dx K l H v d → DxAll K l H vs ds → DxAll K l H (v :: vs) (d :: ds)
end
mutual
theorem Dx.same {K : PySem.W.Frag} {l : Addr} {H H' : Hp} (s : Same H H') : ∀ (d : PyData) (v : V), Dx K l H v d → Dx K l H' v d
  | .none, _, h => by cases h; exact .non
  | .bool b, _, h => by cases h; exact .bl b
  | .int i, _, h => by cases h; exact .int i
  | .str x, _, h => by cases h; exact .str x
  | .list ds, _, h => by
    cases h with
    | lst h0 h1 h2 => exact .lst h0 (s _ _ h1) (DxAll.same s ds _ h2)
  | .tuple ds, _, h => by
    cases h with
    | tup h1 h2 => exact .tup (s _ _ h1) (DxAll.same s ds _ h2)
  | .dict _, _, h => by
    cases h with
    | dct h1 => exact .dct (s _ _ h1)
theorem DxAll.same {K : PySem.W.Frag} {l : Addr} {H H' : Hp} (s : Same H H') : ∀ (ds : List PyData) (vs : List V), DxAll K l H vs ds → DxAll K l H' vs ds
  | [], _, h => by cases h; exact .nil
  | d :: ds, _, h => by
    cases h with
    | cons h1 h2 => exact .cons (Dx.same s d _ h1) (DxAll.same s ds _ h2)
end
mutual
theorem Dx.move {K : PySem.W.Frag} {l : Addr} {H H' : Hp} {zs : List V} (s : ∀ b u, b ≠ l → H b = some u → H' b = some u) (hl : H l = some (.lst zs)) : ∀ (d : PyData) (v : V), Dx K l H v d → Dx K l H' v d
  | .none, _, h => by cases h; exact .non
  | .bool b, _, h => by cases h; exact .bl b
  | .int i, _, h => by cases h; exact .int i
  | .str x, _, h => by cases h; exact .str x
  | .list ds, _, h => by
    cases h with
    | lst h0 h1 h2 => exact .lst h0 (s _ _ h0 h1) (DxAll.move s hl ds _ h2)
  | .tuple ds, _, h => by
    cases h with
    | tup h1 h2 => exact .tup (s _ _ (fun e => by rw [e, hl] at h1; cases h1) h1) (DxAll.move s hl ds _ h2)
  | .dict _, _, h => by
    cases h with
    | dct h1 => exact .dct (s _ _ (fun e => by rw [e, hl] at h1; cases h1) h1)
theorem DxAll.move {K : PySem.W.Frag} {l : Addr} {H H' : Hp} {zs : List V} (s : ∀ b u, b ≠ l → H b = some u → H' b = some u) (hl : H l = some (.lst zs)) : ∀ (ds : List PyData) (vs : List V), DxAll K l H vs ds → DxAll K l H' vs ds
  | [], _, h => by cases h; exact .nil
  | d :: ds, _, h => by
    cases h with
    | cons h1 h2 => exact .cons (Dx.move s hl d _ h1) (DxAll.move s hl ds _ h2)
end
section
variable {X : Cx} {pins : List (Addr × Obj)} {σ : L2.St} {l : Addr} {H : Hp} {s : Shared}
mutual
theorem Dx.reads (I : Inv X pins σ H s) : ∀ (d : PyData) (v : V) (u : Value), Dx X.K l H v d → RelV v u → ∃ as, Reads s.heap u d as
  | .none, _, _, h, r => by
    cases h
    cases r
    exact ⟨_, Reads.none⟩
  | .bool b, _, _, h, r => by
    cases h
    cases r
    exact ⟨_, Reads.bool b⟩
  | .int i, _, _, h, r => by
    cases h
    obtain ⟨t, rfl⟩ := r
    exact ⟨_, Reads.int i t⟩
  | .str x, _, _, h, r => by
    cases h
    obtain ⟨t, rfl⟩ := r
    exact ⟨_, Reads.str x t⟩
  | .list ds, _, _, h, r => by
    cases h with
    | lst _ hs ha =>
      cases r
      obtain ⟨its, rv, ⟨o, n, ho, hc, _, hd⟩, _⟩ := I.list (SqL.of (K := X.K) hs)
      obtain ⟨as, hr⟩ := DxAll.reads I ds _ its ha rv
      exact ⟨_, Reads.list ho hc hd hr⟩
  | .tuple ds, _, _, h, r => by
    cases h with
    | tup hs ha =>
      cases r
      obtain ⟨its, rv, ⟨o, ho, hc, n, hd⟩, _⟩ := I.tuple (SqT.of (K := X.K) hs)
      obtain ⟨as, hr⟩ := DxAll.reads I ds _ its ha rv
      exact ⟨_, Reads.tuple ho hc hd hr⟩
  | .dict _, _, _, h, r => by
    cases h with
    | dct hs =>
      cases r
      obtain ⟨_, _, vs, kv, o, es, ep, ho, ex, hd, _, pr, _⟩ := dk_of I.hok hs
      cases kv
      have e : es.toList = [] := by
        cases hE : es.toList with
        | nil => rfl
        | cons x r => rw [hE] at pr; cases pr
      exact ⟨_, Reads.dict ho ex.1 hd (by rw [e]; exact ReadsAll.nil) (by rw [e]; exact ReadsAll.nil)⟩
theorem DxAll.reads (I : Inv X pins σ H s) : ∀ (ds : List PyData) (vs : List V) (us : List Value), DxAll X.K l H vs ds → Vals vs us → ∃ as, ReadsAll s.heap us ds as
  | [], _, _, h, r => by
    cases h
    cases r
    exact ⟨_, ReadsAll.nil⟩
  | d :: ds, _, _, h, r => by
    cases h with
    | cons h1 h2 =>
      cases r with
      | cons r1 r2 =>
        obtain ⟨as, q1⟩ := Dx.reads I d _ _ h1 r1
        obtain ⟨bs, q2⟩ := DxAll.reads I ds _ _ h2 r2
        exact ⟨_, ReadsAll.cons q1 q2⟩
end
end
theorem DxAll.len {K : PySem.W.Frag} {l : Addr} {H : Hp} : ∀ {vs : List V} {ds : List PyData}, DxAll K l H vs ds → vs.length = ds.length
  | _, _, .nil => rfl
  | _, _, .cons _ h => by rw [List.length_cons, List.length_cons, DxAll.len h]
theorem DxAll.at_ {K : PySem.W.Frag} {l : Addr} {H : Hp} : ∀ {vs : List V} {ds : List PyData} {i : Nat} {d : PyData}, DxAll K l H vs ds → ds[i]? = some d → ∃ v, vs[i]? = some v ∧ Dx K l H v d
  | _, _, 0, _, .cons h _, e => by cases e; exact ⟨_, rfl, h⟩
  | _, _, i + 1, _, .cons _ h, e => DxAll.at_ (i := i) h e
theorem DxAll.at2 {K : PySem.W.Frag} {l : Addr} {H : Hp} : ∀ {vs : List V} {ds : List PyData} {i : Nat} {v : V}, DxAll K l H vs ds → vs[i]? = some v → ∃ d, ds[i]? = some d ∧ Dx K l H v d
  | _, _, 0, _, .cons h _, e => by cases e; exact ⟨_, rfl, h⟩
  | _, _, i + 1, _, .cons _ h, e => DxAll.at2 (i := i) h e
theorem DxAll.append {K : PySem.W.Frag} {l : Addr} {H : Hp} : ∀ {vs us : List V} {ds es : List PyData}, DxAll K l H vs ds → DxAll K l H us es → DxAll K l H (vs ++ us) (ds ++ es)
  | _, _, _, _, .nil, h => h
  | _, _, _, _, .cons a b, h => .cons a (DxAll.append b h)
/-! ### shaped data, and its items -/
structure Sh (n : Nat) (d : PyData) : Prop where
  lay : d.canLay0 = true
  dep : d.depth ≤ n
theorem Sh.shaped {n : Nat} {d : PyData} (h : Sh n d) (le : n ≤ 64) : SeqAt.shaped d = true := by
  show (d.canLay0 && decide (d.depth ≤ 64)) = true
  rw [Bool.and_eq_true]
  exact ⟨h.lay, decide_eq_true (Nat.le_trans h.dep le)⟩
theorem Sh.mono {m n : Nat} {d : PyData} (h : Sh m d) (le : m ≤ n) : Sh n d := ⟨h.lay, Nat.le_trans h.dep le⟩
theorem lay_mem : ∀ {ds : List PyData}, PyData.canLayAll0 ds = true → ∀ d ∈ ds, d.canLay0 = true
  | [], _, _, h => nomatch h
  | x :: r, h, d, hd => by
    simp only [PyData.canLayAll0, Bool.and_eq_true] at h
    rcases List.mem_cons.mp hd with rfl | m
    · exact h.1
    · exact lay_mem h.2 d m
theorem dep_mem : ∀ {ds : List PyData} {d : PyData}, d ∈ ds → d.depth ≤ PyData.depthAll ds
  | x :: r, d, hd => by
    simp only [PyData.depthAll]
    rcases List.mem_cons.mp hd with rfl | m
    · omega
    · have := dep_mem m
      omega
theorem lay_all : ∀ {ds : List PyData}, (∀ d ∈ ds, d.canLay0 = true) → PyData.canLayAll0 ds = true
  | [], _ => by simp [PyData.canLayAll0]
  | x :: r, h => by
    simp only [PyData.canLayAll0, Bool.and_eq_true]
    exact ⟨h x List.mem_cons_self, lay_all fun d hd => h d (List.mem_cons_of_mem _ hd)⟩
theorem dep_all {n : Nat} : ∀ {ds : List PyData}, (∀ d ∈ ds, d.depth ≤ n) → PyData.depthAll ds ≤ n
  | [], _ => by simp [PyData.depthAll]
  | x :: r, h => by
    simp only [PyData.depthAll]
    have := h x List.mem_cons_self
    have := dep_all fun d hd => h d (List.mem_cons_of_mem _ hd)
    omega
theorem Sh.tup {n : Nat} {ds : List PyData} (h : ∀ d ∈ ds, Sh n d) : Sh (n + 1) (.tuple ds) := ⟨by simp only [PyData.canLay0]; exact lay_all fun d hd => (h d hd).lay, by
  have := dep_all fun d hd => (h d hd).dep
  simp only [PyData.depth]
  omega⟩
theorem Sh.lst {n : Nat} {ds : List PyData} (h : ∀ d ∈ ds, Sh n d) : Sh (n + 1) (.list ds) := ⟨by simp only [PyData.canLay0]; exact lay_all fun d hd => (h d hd).lay, by
  have := dep_all fun d hd => (h d hd).dep
  simp only [PyData.depth]
  omega⟩
theorem Sh.item {n : Nat} {ds : List PyData} (h : Sh n (.tuple ds)) : ∀ d ∈ ds, Sh n d := fun d hd => by
  have h1 := h.lay
  have h2 := h.dep
  simp only [PyData.canLay0] at h1
  simp only [PyData.depth] at h2
  have := dep_mem hd
  exact ⟨lay_mem h1 d hd, by omega⟩
section
variable {X : Cx}
def rEqX (K : PySem.W.Frag) : R2 := fun x y H Q => ∃ l l2 d e, Dx K l H x d ∧ Dx K l2 H y e ∧ SeqAt.shaped d = true ∧ SeqAt.shaped e = true ∧ Q (.bl (PyData.eqv d e)) H
def rNeX (K : PySem.W.Frag) : R2 := fun x y H Q => ∃ l l2 d e, Dx K l H x d ∧ Dx K l2 H y e ∧ SeqAt.shaped d = true ∧ SeqAt.shaped e = true ∧ Q (.bl (!PyData.eqv d e)) H
theorem op_eqX (hu : X.A.units + 64 < cLine) : OpR X (compareOp .Eq) (rEqX X.K) := by
  intro pins s σ H x y v u Q I rx ry h
  obtain ⟨l, l2, d, e, hd, he, sd, se, q⟩ := h
  obtain ⟨as, r1⟩ := Dx.reads I d x v hd rx
  obtain ⟨bs, r2⟩ := Dx.reads I e y u he ry
  exact SeqAt.compareEq_shaped r1 r2 sd se hu ⟨.bl _, H, I, rfl, q⟩
theorem op_neX (hu : X.A.units + 64 < cLine) : OpR X (compareOp .NotEq) (rNeX X.K) := by
  intro pins s σ H x y v u Q I rx ry h
  obtain ⟨l, l2, d, e, hd, he, sd, se, q⟩ := h
  obtain ⟨as, r1⟩ := Dx.reads I d x v hd rx
  obtain ⟨bs, r2⟩ := Dx.reads I e y u he ry
  exact SeqAt.compareNe_shaped r1 r2 sd se hu ⟨.bl _, H, I, rfl, q⟩
def rInTX (K : PySem.W.Frag) : R2 := fun x y H Q => ∃ l l2 d ds, Dx K l H x d ∧ Dx K l2 H y (.tuple ds) ∧ SeqAt.shaped d = true ∧ SeqAt.shaped (.tuple ds) = true ∧ Q (.bl (ds.any fun z => PyData.eqv z d)) H
theorem op_inTX (hu : X.A.units + 65 < cLine) : OpR X (compareOp .In) (rInTX X.K) := by
  intro pins s σ H x y v u Q I rx ry h
  obtain ⟨l, l2, d, ds, hd, he, sd, se, q⟩ := h
  obtain ⟨as, r1⟩ := Dx.reads I d x v hd rx
  obtain ⟨bs, r2⟩ := Dx.reads I (.tuple ds) y u he ry
  exact SeqAt.in_tuple_reads r2 r1 (SeqAt.canLay_of_shaped se) (SeqAt.canLay_of_shaped sd) (room_in_shaped sd hu) ⟨.bl _, H, I, rfl, q⟩
def rNotInX (K : PySem.W.Frag) : R2 := fun x y H Q => ∃ l l2 d ds, Dx K l H x d ∧ Dx K l2 H y (.list ds) ∧ SeqAt.shaped d = true ∧ SeqAt.shaped (.list ds) = true ∧ Q (.bl (!ds.any fun z => PyData.eqv z d)) H
theorem op_notInX (hu : X.A.units + 65 < cLine) : OpR X (compareOp .NotIn) (rNotInX X.K) := by
  intro pins s σ H x y v u Q I rx ry h
  obtain ⟨l, l2, d, ds, hd, he, sd, se, q⟩ := h
  obtain ⟨as, r1⟩ := Dx.reads I d x v hd rx
  obtain ⟨bs, r2⟩ := Dx.reads I (.list ds) y u he ry
  exact SeqAt.notIn_list_reads r2 r1 (SeqAt.canLay_of_shaped se) (SeqAt.canLay_of_shaped sd) (room_in_shaped sd hu) ⟨.bl _, H, I, rfl, q⟩
end
end DX
end

-- DxStr
section
set_option Elab.async false
set_option linter.all false
set_option maxRecDepth 100000
/-! == of a dict and a text, either way about. -/
namespace PySem.SeqAt
open PySem PySem.MeetsSeq
theorem dict_eq_declines_str (l : Addr) (es : Array DictEntry) (n : Nat) (dd : Option Addr) (sl : Array (Option Value)) (b : Str) (u : Tok) :
    Meets (Builtin.«dict.__eq__» ⟨[.ref l, .str b u], []⟩) (fun _ R s => s.heap.get? l = some { cls := .type "dict", dict := dd, data := .dict es n, slots := sl } ∧ R (.ok (.ret .notImplemented)) s) :=
  .of_wp fun prog w A R s h => by obtain ⟨hp, g, d, tk, os⟩ := s; obtain ⟨hl, h⟩ := h; have f1 := F.sub_str_dict; wp_walk using wpAny_loadPart' hl; exact ⟨_, rfl, h⟩
theorem str_eq_declines_dict (b : Str) (u : Tok) (l : Addr) (c : Value) (es : Array DictEntry) (n : Nat) (dd : Option Addr) (sl : Array (Option Value)) :
    Meets (Builtin.«str.__eq__» ⟨[.str b u, .ref l], []⟩) (fun _ R s => s.heap.get? l = some { cls := c, dict := dd, data := .dict es n, slots := sl } ∧ R (.ok (.ret .notImplemented)) s) :=
  .of_wp fun prog w A R s h => by obtain ⟨hp, g, d, tk, os⟩ := s; obtain ⟨hl, h⟩ := h; wp_walk using wpAny_loadPart' hl, wpAny_load hl; exact ⟨_, rfl, h⟩
section
variable {A : Around} {s : Shared}
theorem RcAt.dict_str {l : Addr} {o : Obj} {es : Array DictEntry} {n : Nat} (b : Str) (u : Tok) (ho : s.heap.get? l = some o) (hc : o.cls = .type "dict") (hd : o.data = .dict es n) (hu : A.units < cLine) : RcAt A s (.ref l) (.str b u) false := fun prog w E Q h => by
  obtain ⟨cls, dd, data, sl⟩ := o
  simp only at hc hd
  subst hc hd
  exact rc_eq_decline_or (k := false) ⟨_, ho, rfl⟩ (typeIs_str s b u) (by decide) F.sub_str_dict F.slot_dict_eq F.slot_str_eq_refl
    (fun _ hq => call_meets F.slot_dict_eq ⟨_, ho, rfl⟩ F.entry_dict_eq (F.args_dict_eq_2 _ _) (dict_eq_declines_str l es n dd sl b u) ⟨ho, hq⟩)
    (fun _ hq => call_meets F.slot_str_eq_refl (typeIs_str s b u) F.entry_str_eq (F.args_str_eq_2 _ _) (str_eq_declines_dict b u l (.type "dict") es n dd sl) ⟨ho, hq⟩)
    (fun _ hq => wpAny_of_eq (rfl : isSame (.ref l) (.str b u) = pure false) hq) (.inr hu) h
theorem EqAt.dict_str {l : Addr} {o : Obj} {es : Array DictEntry} {n : Nat} (b : Str) (u : Tok) (ho : s.heap.get? l = some o) (hc : o.cls = .type "dict") (hd : o.data = .dict es n) (hu : A.units < cLine) : EqAt A s (.ref l) (.str b u) false := fun prog w E Q h => by
  unfold eqBool
  refine wpAny_holding ?_
  refine wpAny_ite_split (fun hab => absurd (eq_of_beq hab) nofun) (fun _ => ?_)
  exact wpAny_bind (RcAt.dict_str b u ho hc hd hu prog w E _ (wpAny_truthy_bool h))
theorem RcAt.str_dict {l : Addr} {o : Obj} {es : Array DictEntry} {n : Nat} (b : Str) (u : Tok) (ho : s.heap.get? l = some o) (hc : o.cls = .type "dict") (hd : o.data = .dict es n) (hu : A.units < cLine) : RcAt A s (.str b u) (.ref l) false := fun prog w E Q h => by
  obtain ⟨cls, dd, data, sl⟩ := o
  simp only at hc hd
  subst hc hd
  exact rc_eq_decline_or (k := false) (typeIs_str s b u) ⟨_, ho, rfl⟩ (by decide) F.sub_dict_str F.slot_str_eq F.slot_dict_eq_refl
    (fun _ hq => call_meets F.slot_str_eq (typeIs_str s b u) F.entry_str_eq (F.args_str_eq_2 _ _) (str_eq_declines_dict b u l (.type "dict") es n dd sl) ⟨ho, hq⟩)
    (fun _ hq => call_meets F.slot_dict_eq_refl ⟨_, ho, rfl⟩ F.entry_dict_eq (F.args_dict_eq_2 _ _) (dict_eq_declines_str l es n dd sl b u) ⟨ho, hq⟩)
    (fun _ hq => wpAny_of_eq (rfl : isSame (.str b u) (.ref l) = pure false) hq) (.inr hu) h
theorem EqAt.str_dict {l : Addr} {o : Obj} {es : Array DictEntry} {n : Nat} (b : Str) (u : Tok) (ho : s.heap.get? l = some o) (hc : o.cls = .type "dict") (hd : o.data = .dict es n) (hu : A.units < cLine) : EqAt A s (.str b u) (.ref l) false := fun prog w E Q h => by
  unfold eqBool
  refine wpAny_holding ?_
  refine wpAny_ite_split (fun hab => absurd (eq_of_beq hab) nofun) (fun _ => ?_)
  exact wpAny_bind (RcAt.str_dict b u ho hc hd hu prog w E _ (wpAny_truthy_bool h))
end
end PySem.SeqAt
namespace DX
open PySem PySem.Spec PyProof.Rows L2 PySem.SeqAt
/-- data that may be held against texts -/
def Lk (d : PyData) : Prop := SeqAt.shaped d = true ∨ d = .dict []
noncomputable def eS (n : Str) : Value → Bool
  | .str m _ => decide (m = n)
  | _ => false
theorem eqv_sn (n : Str) : ∀ d : PyData, (∀ m, d ≠ .str m) → PyData.eqv d (.str n) = false
  | .str m, h => absurd rfl (h m)
  | .none, h => by simp [PyData.eqv]
  | .bool _, h => by simp [PyData.eqv]
  | .int _, h => by simp [PyData.eqv]
  | .list _, h => by simp [PyData.eqv]
  | .tuple _, h => by simp [PyData.eqv]
  | .dict _, h => by simp [PyData.eqv]
section
variable {X : Cx} {pins : List (Addr × Obj)} {σ : L2.St} {l : Addr} {H : Hp} {s : Shared}
theorem dct_at (I : L2.Inv X pins σ H s) {a : Addr} (h : H a = some (.dK [])) : ∃ o es ep, s.heap.get? a = some o ∧ o.cls = .type "dict" ∧ o.data = .dict es ep := by
  obtain ⟨_, _, vs, kv, o, es, ep, ho, ex, hd, _⟩ := dk_of I.hok h
  exact ⟨o, es, ep, ho, ex.1, hd⟩
theorem eS_at (I : L2.Inv X pins σ H s) {A : Around} (hu : A.units + 65 < cLine) (n : Str) (t : Tok) (hn : PyData.strOk n = true) {d : PyData} {v : V} {u : Value} (h : Dx X.K l H v d) (r : RelV v u) (lk : Lk d) : EqAt A s u (.str n t) (eS n u) ∧ eS n u = PyData.eqv d (.str n) := by
  have e : eS n u = PyData.eqv d (.str n) := by
    cases h with
    | str x =>
      obtain ⟨t', rfl⟩ := r
      show decide (x = n) = _
      simp only [PyData.eqv]
      rw [Bool.eq_iff_iff, beq_iff_eq, decide_eq_true_iff]
    | int i => obtain ⟨t', rfl⟩ := r; simp [eS, PyData.eqv]
    | non => cases r; simp [eS, PyData.eqv]
    | bl b => cases r; simp [eS, PyData.eqv]
    | lst _ _ _ => cases r; simp [eS, PyData.eqv]
    | tup _ _ => cases r; simp [eS, PyData.eqv]
    | dct _ => cases r; simp [eS, PyData.eqv]
  refine ⟨?_, e⟩
  rcases lk with lk | rfl
  · rw [e]
    obtain ⟨as, r1⟩ := Dx.reads I d v u h r
    exact eqAt_reads d (.str n) A s u (.str n t) _ _ r1 (Reads.str n t) (SeqAt.canLay_of_shaped lk) (by simp only [PyData.canLay0]; exact hn) (by
      have : min d.depth (PyData.depth (.str n)) ≤ 0 := by simp [PyData.depth]
      omega)
  · cases h with
    | dct hd =>
      cases r
      obtain ⟨o, es, ep, h1, h2, h3⟩ := dct_at I hd
      exact EqAt.dict_str n t h1 h2 h3 (by omega)
theorem eS_all (I : L2.Inv X pins σ H s) {A : Around} (hu : A.units + 65 < cLine) (n : Str) (t : Tok) (hn : PyData.strOk n = true) : ∀ {ds : List PyData} {vs : List V} {us : List Value}, DxAll X.K l H vs ds → Vals vs us → (∀ d ∈ ds, Lk d) →
    (∀ u ∈ us, EqAt A s u (.str n t) (eS n u)) ∧ us.any (eS n) = ds.any fun z => PyData.eqv z (.str n)
  | [], _, _, h, r, _ => by
    cases h
    cases r
    exact ⟨fun _ h => (nomatch h), rfl⟩
  | d :: ds, _, _, h, r, lk => by
    cases h with
    | cons h1 h2 =>
      cases r with
      | cons r1 r2 =>
        obtain ⟨a1, a2⟩ := eS_at I hu n t hn h1 r1 (lk d List.mem_cons_self)
        obtain ⟨b1, b2⟩ := eS_all I hu n t hn h2 r2 fun z hz => lk z (List.mem_cons_of_mem _ hz)
        exact ⟨fun u hu => (List.mem_cons.mp hu).elim (fun e => by rw [e]; exact a1) (b1 u), by rw [List.any_cons, List.any_cons, a2, b2]⟩
end
section
variable {X : Cx}
/-- a text in a tuple of anything -/
def rInS (K : PySem.W.Frag) : R2 := fun x y H Q => ∃ (l a : Addr) (n : Str) (xs : List V) (ds : List PyData), x = .str n ∧ y = .ref a ∧ H a = some (.tup xs) ∧ DxAll K l H xs ds ∧ (∀ d ∈ ds, Lk d) ∧ PyData.strOk n = true ∧ Q (.bl (ds.any fun z => PyData.eqv z (.str n))) H
theorem op_inS (hu : X.A.units + 66 < cLine) : OpR X (compareOp .In) (rInS X.K) := by
  intro pins s σ H x y v u Q I rx ry h
  obtain ⟨l, a, n, xs, ds, rfl, rfl, ha, dx, lk, hn, q⟩ := h
  obtain ⟨t, rfl⟩ := rx
  cases ry
  obtain ⟨its, rv, ⟨o, ho, hc, k, hd⟩, _⟩ := I.tuple (SqT.of (K := X.K) ha)
  obtain ⟨e1, e2⟩ := eS_all (A := X.A.in1) I (by show X.A.units + 1 + 65 < cLine; omega) n t hn dx rv lk
  refine in_tupleAt (eS n) ⟨_, ho, hc, _, hd⟩ (fun y hy => e1 y (by simpa using hy)) ?_
  rw [← Array.any_toList]
  show EP X pins σ Q (.bool (its.any (eS n))) s
  rw [e2]
  exact ⟨.bl _, H, I, rfl, q⟩
/-- anything in a tuple of texts -/
def rInT (K : PySem.W.Frag) : R2 := fun x y H Q => ∃ (l a : Addr) (d : PyData) (t : List Str), y = .ref a ∧ H a = some (.tup (t.map V.str)) ∧ Dx K l H x d ∧ Lk d ∧ (∀ n ∈ t, PyData.strOk n = true) ∧ Q (.bl ((t.map PyData.str).any fun z => PyData.eqv z d)) H
theorem dxs {K : PySem.W.Frag} {l : Addr} {H : Hp} : ∀ t : List Str, DxAll K l H (t.map V.str) (t.map PyData.str)
  | [] => .nil
  | x :: r => .cons (.str x) (dxs r)
theorem vals_strs : ∀ {t : List Str} {us : List Value}, Vals (t.map V.str) us → ∀ u ∈ us, ∃ n tk, u = .str n tk
  | [], _, h, _, hu => by
    cases h
    exact nomatch hu
  | x :: r, _, h, u, hu => by
    cases h with
    | cons h1 h2 =>
      obtain ⟨tk, rfl⟩ := h1
      rcases List.mem_cons.mp hu with rfl | m
      · exact ⟨x, tk, rfl⟩
      · exact vals_strs h2 u m
theorem op_inT (hu : X.A.units + 66 < cLine) : OpR X (compareOp .In) (rInT X.K) := by
  intro pins s σ H x y v u Q I rx ry h
  obtain ⟨l, a, d, t, rfl, ha, dx, lk, ok, q⟩ := h
  cases ry
  rcases lk with lk | rfl
  · obtain ⟨as, r1⟩ := Dx.reads I d x v dx rx
    obtain ⟨bs, r2⟩ := Dx.reads (l := l) I (.tuple (t.map PyData.str)) (.ref a) (.ref a) (.tup ha (dxs t)) rfl
    have lay : PyData.canLayAll0 (t.map PyData.str) = true := lay_all fun z hz => by
      obtain ⟨n, hn, rfl⟩ := List.mem_map.mp hz
      simp only [PyData.canLay0]
      exact ok n hn
    exact SeqAt.in_tuple_reads r2 r1 lay (SeqAt.canLay_of_shaped lk) (room_in_shaped lk (by omega)) ⟨.bl _, H, I, rfl, q⟩
  · cases dx with
    | dct hd =>
      cases rx
      obtain ⟨o, es, ep, h1, h2, h3⟩ := dct_at I hd
      obtain ⟨its, rv, ⟨o', ho, hc, k, hd'⟩, _⟩ := I.tuple (SqT.of (K := X.K) ha)
      have st := vals_strs rv
      refine in_tupleAt (fun _ => false) ⟨_, ho, hc, _, hd'⟩ (fun y hy => ?_) ?_
      · obtain ⟨n, tk, rfl⟩ := st y (by simpa using hy)
        exact EqAt.str_dict n tk h1 h2 h3 (by show X.A.units + 1 < cLine; omega)
      · have e : ((t.map PyData.str).any fun z => PyData.eqv z (.dict [])) = false := by
          rw [List.any_eq_false]
          intro z hz
          obtain ⟨n, _, rfl⟩ := List.mem_map.mp hz
          simp [PyData.eqv]
        rw [e] at q
        rw [show (its.toArray.any fun _ => false) = false from by simp]
        exact ⟨.bl _, H, I, rfl, q⟩
end
end DX
end

-- B8q
section
set_option Elab.async false
set_option linter.all false
set_option maxRecDepth 100000
namespace R8
open PySem L2 OwnOps OwnNe G1 EqDict MinKey SetSort DictList StX DX
/-! ### papers of any author, as data -/
abbrev S (x : Str) : PyData := .str x
theorem eqv_ss (m n : Str) : PyData.eqv (S m) (S n) = decide (m = n) := by
  simp only [PyData.eqv]
  rw [Bool.eq_iff_iff, beq_iff_eq, decide_eq_true_iff]
theorem eqv_str {n : Str} : ∀ {d : PyData}, PyData.eqv (S n) d = true → d = S n
  | .str m, h => by
    rw [eqv_ss, decide_eq_true_iff] at h
    rw [h]
  | .none, h => by simp [PyData.eqv] at h
  | .bool _, h => by simp [PyData.eqv] at h
  | .int _, h => by simp [PyData.eqv] at h
  | .list _, h => by simp [PyData.eqv] at h
  | .tuple _, h => by simp [PyData.eqv] at h
  | .dict _, h => by simp [PyData.eqv] at h
theorem eqv_str2 {n : Str} : ∀ {d : PyData}, PyData.eqv d (S n) = true → d = S n
  | .str m, h => by
    rw [eqv_ss, decide_eq_true_iff] at h
    rw [h]
  | .none, h => by simp [PyData.eqv] at h
  | .bool _, h => by simp [PyData.eqv] at h
  | .int _, h => by simp [PyData.eqv] at h
  | .list _, h => by simp [PyData.eqv] at h
  | .tuple _, h => by simp [PyData.eqv] at h
  | .dict _, h => by simp [PyData.eqv] at h
theorem eqv_sym (n : Str) (d : PyData) : PyData.eqv d (S n) = PyData.eqv (S n) d := by
  rw [Bool.eq_iff_iff]
  exact ⟨fun h => by rw [eqv_str2 h, eqv_ss]; exact decide_eq_true rfl, fun h => by rw [eqv_str h, eqv_ss]; exact decide_eq_true rfl⟩
theorem eqv_all {t : List Str} : ∀ {ds : List PyData}, PyData.eqvAll (t.map S) ds = true → ds = t.map S := by
  induction t with
  | nil =>
    intro ds h
    cases ds with
    | nil => rfl
    | cons a r => simp [PyData.eqvAll] at h
  | cons n t ih =>
    intro ds h
    cases ds with
    | nil => simp [PyData.eqvAll] at h
    | cons a r =>
      simp only [List.map_cons, PyData.eqvAll, Bool.and_eq_true] at h
      rw [eqv_str h.1, ih h.2]
      rfl
theorem eqv_tup {t : List Str} : ∀ {d : PyData}, PyData.eqv (tD t) d = true → d = tD t
  | .tuple ds, h => by
    simp only [tD, PyData.eqv] at h
    rw [eqv_all h]
    rfl
  | .none, h => by simp [tD, PyData.eqv] at h
  | .bool _, h => by simp [tD, PyData.eqv] at h
  | .int _, h => by simp [tD, PyData.eqv] at h
  | .list _, h => by simp [tD, PyData.eqv] at h
  | .str _, h => by simp [tD, PyData.eqv] at h
  | .dict _, h => by simp [tD, PyData.eqv] at h
/-- one of the items is one of the texts -/
def sees (ys : List PyData) (t : List Str) : Bool := ys.any fun d => (t.map S).any fun z => PyData.eqv z d
theorem sees_iff {ys : List PyData} {t : List Str} : sees ys t = true ↔ ∃ n ∈ t, S n ∈ ys := by
  unfold sees
  rw [List.any_eq_true]
  constructor
  · rintro ⟨d, hd, h⟩
    rw [List.any_eq_true] at h
    obtain ⟨z, hz, e⟩ := h
    obtain ⟨n, hn, rfl⟩ := List.mem_map.mp hz
    exact ⟨n, hn, by rw [← eqv_str e]; exact hd⟩
  · rintro ⟨n, hn, h⟩
    exact ⟨S n, h, List.any_eq_true.mpr ⟨S n, List.mem_map.mpr ⟨n, hn, rfl⟩, by rw [eqv_ss]; exact decide_eq_true rfl⟩⟩
theorem sees_strs (s t : List Str) : sees (s.map S) t = meet s t := by
  rw [Bool.eq_iff_iff, sees_iff, meet_iff]
  exact ⟨fun ⟨n, h1, h2⟩ => by
    obtain ⟨m, hm, e⟩ := List.mem_map.mp h2
    cases e
    exact ⟨n, hm, h1⟩, fun ⟨n, h1, h2⟩ => ⟨n, h2, List.mem_map.mpr ⟨n, h1, rfl⟩⟩⟩
/-- as the law looks -/
theorem sees_law (ys : List PyData) (t : List Str) : (t.filter fun n => ys.any fun z => PyData.eqv z (S n)).isEmpty = !sees ys t := by
  rw [Bool.eq_iff_iff, List.isEmpty_iff, List.filter_eq_nil_iff, Bool.not_eq_true', ← Bool.not_eq_true, sees_iff]
  constructor
  · rintro h ⟨n, hn, hy⟩
    exact h n hn (List.any_eq_true.mpr ⟨S n, hy, by rw [eqv_ss]; exact decide_eq_true rfl⟩)
  · intro h n hn e
    obtain ⟨z, hz, q⟩ := List.any_eq_true.mp e
    exact h ⟨n, hn, by rw [← eqv_str2 q]; exact hz⟩
def touchB (y : PyData) (L : List Spt) (m : Int) : Bool := match y with
  | .tuple ys => decide ((ys.length : Int) ≤ m) && L.all fun p => sees ys p.2
  | _ => false
def idx (y : PyData) (L : List Spt) : Option Nat := (L.map fun p => tD p.2).findIdx? fun z => PyData.eqv z y
theorem idx_some {y : PyData} {L : List Spt} {i : Nat} (h : idx y L = some i) : ∃ p, L[i]? = some p ∧ y = tD p.2 ∧ ∀ j < i, ∀ q, L[j]? = some q → PyData.eqv (tD q.2) y = false := by
  obtain ⟨hi, h1, h2⟩ := List.findIdx?_eq_some_iff_getElem.mp h
  rw [List.length_map] at hi
  rw [List.getElem_map] at h1
  refine ⟨L[i], List.getElem?_eq_getElem hi, eqv_tup h1, fun j hj q hq => ?_⟩
  have := h2 j hj
  rw [List.getElem_map] at this
  obtain ⟨lj, e⟩ := List.getElem?_eq_some_iff.mp hq
  rw [e] at this
  exact Bool.not_eq_true _ ▸ this
theorem idx_none {y : PyData} {L : List Spt} (h : idx y L = none) : ((L.map fun p => tD p.2).any fun z => PyData.eqv z y) = false := by
  have := List.findIdx?_eq_none_iff.mp h
  rw [List.any_eq_false]
  intro x hx e
  have := this x hx
  rw [e] at this
  cases this
theorem idx_any {y : PyData} {L : List Spt} {i : Nat} (h : idx y L = some i) : ((L.map fun p => tD p.2).any fun z => PyData.eqv z y) = true := by
  obtain ⟨hi, h1, _⟩ := List.findIdx?_eq_some_iff_getElem.mp h
  exact List.any_eq_true.mpr ⟨_, List.getElem_mem hi, h1⟩
/-- whether a value is a paper that no more than m of L are apart -/
def holdsD : Nat → PyData → List Spt → Int → Bool
  | 0, .tuple [x, y], L, m => PyData.eqv x (S "touch") && touchB y L m
  | n + 1, .tuple [x, y], L, m => PyData.eqv x (S "touch") && touchB y L m
  | n + 1, .tuple [x, y, u, v], L, m => PyData.eqv x (S "spot") && match idx y L with
    | none => false
    | some i => match L[i]? with
      | none => false
      | some p => holdsD n u ((cut L i).filter (off p)) (m - 1) && holdsD n v (cut L i) m
  | _, _, _, _ => false
theorem holds_two (n : Nat) (x y : PyData) (L : List Spt) (m : Int) : holdsD n (.tuple [x, y]) L m = (PyData.eqv x (S "touch") && touchB y L m) := by
  cases n <;> simp [holdsD]
theorem holds_four (n : Nat) (x y u v : PyData) (L : List Spt) (m : Int) : holdsD (n + 1) (.tuple [x, y, u, v]) L m = (PyData.eqv x (S "spot") && match idx y L with
    | none => false
    | some i => match L[i]? with
      | none => false
      | some p => holdsD n u ((cut L i).filter (off p)) (m - 1) && holdsD n v (cut L i) m) := by
  simp only [holdsD]
theorem holds_inv {n : Nat} {d : PyData} {L : List Spt} {m : Int} (h : holdsD n d L m = true) : (∃ x y, d = .tuple [x, y] ∧ (PyData.eqv x (S "touch") && touchB y L m) = true) ∨ ∃ k x y u v, n = k + 1 ∧ d = .tuple [x, y, u, v] ∧ holdsD (k + 1) (.tuple [x, y, u, v]) L m = true := by
  cases d with
  | tuple ds =>
    match ds, h with
    | [x, y], h => exact .inl ⟨x, y, rfl, by rw [holds_two] at h; exact h⟩
    | [x, y, u, v], h =>
      cases n with
      | zero => simp [holdsD] at h
      | succ k => exact .inr ⟨k, x, y, u, v, rfl, rfl, h⟩
    | [], h => cases n <;> simp [holdsD] at h
    | [x], h => cases n <;> simp [holdsD] at h
    | [x, y, z], h => cases n <;> simp [holdsD] at h
    | x :: y :: z :: a :: b :: r, h => cases n <;> simp [holdsD] at h
  | _ => cases n <;> simp [holdsD] at h
theorem cut_len {L : List Spt} {i : Nat} {p : Spt} (h : L[i]? = some p) : (cut L i).length + 1 = L.length := by
  have lt : i < L.length := (List.getElem?_eq_some_iff.mp h).1
  rw [List.length_append, List.length_take, List.length_drop]
  omega
/-- families that see some items -/
theorem fam_sees {R : List Spt} (ap : R.Pairwise fun p q => meet p.2 q.2 = false) : ∀ {ns : List Str}, (∀ p ∈ R, ∃ n ∈ p.2, n ∈ ns) → R.length ≤ ns.length := by
  induction ap with
  | nil => exact fun _ => Nat.zero_le _
  | @cons p r h1 h2 ih =>
    intro ns h
    obtain ⟨n, hn, hm⟩ := h p List.mem_cons_self
    have := ih (ns := ns.erase n) fun q hq => by
      obtain ⟨k, hk, hkn⟩ := h q (List.mem_cons_of_mem _ hq)
      refine ⟨k, hk, (List.mem_erase_of_ne fun e => ?_).mpr hkn⟩
      subst e
      have := h1 q hq
      rw [meet_iff.mpr ⟨k, hn, hk⟩] at this
      cases this
    rw [List.length_erase_of_mem hm] at this
    have : 0 < ns.length := List.length_pos_of_mem hm
    rw [List.length_cons]
    omega
def txts : List PyData → List Str
  | [] => []
  | .str n :: r => n :: txts r
  | _ :: r => txts r
theorem txts_len : ∀ ys : List PyData, (txts ys).length ≤ ys.length
  | [] => Nat.le_refl _
  | d :: r => by
    have := txts_len r
    cases d <;> simp only [txts, List.length_cons] <;> omega
theorem txts_mem {n : Str} : ∀ {ys : List PyData}, S n ∈ ys → n ∈ txts ys
  | d :: r, h => by
    rcases List.mem_cons.mp h with e | h
    · rw [← e]
      exact List.mem_cons_self
    · have := txts_mem h
      cases d <;> simp only [txts] <;> first | exact List.mem_cons_of_mem _ this | exact this
/-- what a paper says is so -/
theorem holds_fam : ∀ (n : Nat) {d : PyData} {L : List Spt} {m : Int}, holdsD n d L m = true → Full L → ∀ R, Fam L R → (R.length : Int) ≤ m := by
  have two : ∀ {x y : PyData} {L : List Spt} {m : Int}, (PyData.eqv x (S "touch") && touchB y L m) = true → ∀ R, Fam L R → (R.length : Int) ≤ m := fun {x y L m} h R f => by
    rw [Bool.and_eq_true] at h
    cases y with
    | tuple ys =>
      have h2 : (decide ((ys.length : Int) ≤ m) && L.all fun p => sees ys p.2) = true := h.2
      rw [Bool.and_eq_true, decide_eq_true_iff, List.all_eq_true] at h2
      have := fam_sees f.ap (ns := txts ys) fun p hp => by
        obtain ⟨n, h3, h4⟩ := sees_iff.mp (h2.2 p (f.sub p hp))
        exact ⟨n, h3, txts_mem h4⟩
      have := txts_len ys
      omega
    | _ => cases h.2
  intro n
  induction n with
  | zero =>
    intro d L m h fu R f
    rcases holds_inv h with ⟨x, y, rfl, h⟩ | ⟨k, x, y, u, v, e, _⟩
    · exact two h R f
    · cases e
  | succ n ih =>
    intro d L m h fu R f
    rcases holds_inv h with ⟨x, y, rfl, h⟩ | ⟨k, x, y, u, v, e, rfl, h⟩
    · exact two h R f
    · cases e
      rw [holds_four, Bool.and_eq_true] at h
      obtain ⟨h1, h⟩ := h
      cases hi : idx y L with
      | none => rw [hi] at h; cases h
      | some i =>
        rw [hi] at h
        obtain ⟨p, hp, ey, _⟩ := idx_some hi
        dsimp only at h
        rw [hp] at h
        dsimp only at h
        rw [Bool.and_eq_true] at h
        have pL := List.mem_of_getElem? hp
        have fc : Full (cut L i) := fun q hq => fu q (cut_mem hq)
        by_cases hR : p ∈ R
        · have h3 := few_hit fu f pL (.inl hR)
          have e : (cut L i).filter (off p) = L.filter (off p) := cut_filter hp (by show (!meet p.2 p.2) = false; rw [meet_self (fu p pL)]; rfl)
          have h4 := ih h.1 (fc.filter _) (R.filter (off p)) (by rw [e]; exact fam_off f p)
          have h5 : R.length = (R.filter (hit p)).length + (R.filter (off p)).length := split_len (hit p) R
          omega
        · exact ih h.2 fc R ⟨fun q hq => mem_cut hp (f.sub q hq) fun e => hR (e ▸ hq), f.ap⟩
theorem holds_opt {n : Nat} {d : PyData} {L : List Spt} {m : Int} {k : Nat} (h : holdsD n d L m = true) (fu : Full L) (o : Opt L k) : (k : Int) ≤ m := by
  obtain ⟨R, f, e⟩ := o.is
  rw [← e]
  exact holds_fam n h fu R f
/-! ### papers as they are drawn and told -/
inductive WP : Nat → PyData → Prop
  | touch {n : Nat} {ns : List Str} : Okt ns → WP n (.tuple [S "touch", tD ns])
  | spot {n : Nat} {t : List Str} {u v : PyData} : Okt t → WP n u → WP n v → WP (n + 1) (.tuple [S "spot", tD t, u, v])
theorem WP.up {m : Nat} {d : PyData} (h : WP m d) : ∀ {n : Nat}, m ≤ n → WP n d := by
  induction h with
  | touch h => exact fun _ => .touch h
  | @spot k t u v h1 _ _ i1 i2 =>
    intro n le
    cases n with
    | zero => omega
    | succ n => exact .spot h1 (i1 (by omega)) (i2 (by omega))
theorem sh_str {n : Nat} {x : Str} (h : PyData.strOk x = true) : Sh n (S x) := ⟨by simp only [PyData.canLay0]; exact h, by simp [PyData.depth]⟩
theorem sh_tD {n : Nat} {t : List Str} (h : Okt t) : Sh (n + 1) (tD t) := ⟨lay_tD h, by rw [dep_tD]; omega⟩
theorem WP.sh {n : Nat} {d : PyData} (h : WP n d) : Sh (n + 2) d := by
  induction h with
  | @touch n ns h =>
    exact .tup fun d hd => by
      simp only [List.mem_cons, List.not_mem_nil, or_false] at hd
      rcases hd with rfl | rfl
      · exact sh_str (by decide +kernel)
      · exact sh_tD h
  | @spot n t u v h1 _ _ i1 i2 =>
    exact .tup fun d hd => by
      simp only [List.mem_cons, List.not_mem_nil, or_false] at hd
      rcases hd with rfl | rfl | rfl | rfl
      · exact sh_str (by decide +kernel)
      · exact sh_tD h1
      · exact i1
      · exact i2
/-- data that the looks at papers can be asked of -/
inductive PD : PyData → Prop
  | other {d : PyData} : (∀ ds, d ≠ .tuple ds) → PD d
  | nil : PD (.tuple [])
  | two {x y : PyData} : Sh 60 x → (∀ es, y = .tuple es → ∀ e ∈ es, Lk e) → PD (.tuple [x, y])
  | four {x y u v : PyData} : Sh 60 x → Sh 60 y → PD u → PD v → PD (.tuple [x, y, u, v])
  | more {x : PyData} {r : List PyData} : Sh 60 x → r.length ≠ 1 → r.length ≠ 3 → PD (.tuple (x :: r))
theorem PD.head {x : PyData} {r : List PyData} (h : PD (.tuple (x :: r))) : Sh 60 x := by
  cases h with
  | other h => exact absurd rfl (h _)
  | two h _ => exact h
  | four h _ _ _ => exact h
  | more h _ _ => exact h
theorem PD.snd {x : PyData} {es : List PyData} (h : PD (.tuple [x, .tuple es])) : ∀ e ∈ es, Lk e := by
  cases h with
  | other h => exact absurd rfl (h _)
  | two _ h => exact h es rfl
  | more _ h _ => exact absurd rfl h
theorem PD.all {x y u v : PyData} (h : PD (.tuple [x, y, u, v])) : Sh 60 y ∧ PD u ∧ PD v := by
  cases h with
  | other h => exact absurd rfl (h _)
  | four _ h1 h2 h3 => exact ⟨h1, h2, h3⟩
  | more _ _ h => exact absurd rfl h
theorem WP.pd {n : Nat} {d : PyData} (h : WP n d) : PD d := by
  induction h with
  | @touch n ns h =>
    exact .two (sh_str (by decide +kernel)) fun es e x hx => by
      cases e
      obtain ⟨m, hm, rfl⟩ := List.mem_map.mp hx
      exact .inl ((sh_str (n := 0) (h m hm)).shaped (by decide))
  | spot h1 _ _ i1 i2 => exact .four (sh_str (by decide +kernel)) (sh_tD (n := 59) h1) i1 i2
section
variable {K : PySem.W.Frag} {l : Addr} {H : Hp}
theorem dx_strs : ∀ t : List Str, DxAll K l H (t.map V.str) (t.map S)
  | [] => .nil
  | x :: r => .cons (.str x) (dx_strs r)
theorem dx_tup {a : Addr} {t : List Str} (h : H a = some (.tup (t.map V.str))) : Dx K l H (.ref a) (tD t) := .tup h (dx_strs t)
theorem dx_tups : ∀ {L : List Spt}, Tps H L → DxAll K l H (rf L) (L.map fun p => tD p.2)
  | [], _ => .nil
  | p :: r, h => .cons (dx_tup (h p List.mem_cons_self)) (dx_tups fun q hq => h q (List.mem_cons_of_mem _ hq))
/-- a told paper, as data -/
theorem Pap.wp {v : V} {L : List Spt} {m : Int} (h : Pap H v L m) (tp : Tps H L) (ok : Oks L) : ∃ d, Dx K l H v d ∧ WP L.length d := by
  induction h with
  | @touch a b ns L m h1 h2 h3 h4 h5 h6 => exact ⟨_, .tup h1 (.cons (.str _) (.cons (dx_tup h2) .nil)), .touch h6⟩
  | @spot a p i v u L m h1 h2 h3 _ _ i1 i2 =>
    have sub : ∀ q ∈ cut L i, q ∈ L := fun q hq => cut_mem hq
    obtain ⟨d1, x1, w1⟩ := i1 (tp.sub fun q hq => sub q (List.mem_filter.mp hq).1) (ok.sub fun q hq => sub q (List.mem_filter.mp hq).1)
    obtain ⟨d2, x2, w2⟩ := i2 (tp.sub sub) (ok.sub sub)
    have pL := List.mem_of_getElem? h2
    have e := cut_len h2
    refine ⟨_, .tup h1 (.cons (.str _) (.cons (dx_tup (tp p pL)) (.cons x1 (.cons x2 .nil)))), ?_⟩
    rw [← e]
    exact .spot (ok p pL) (w1.up (List.length_filter_le _ _)) w2
end
end R8
end

-- B8h
section
set_option Elab.async false
set_option linter.all false
set_option maxRecDepth 100000
namespace R8
open PySem L2 OwnOps OwnNe G1 EqDict MinKey SetSort DictList StX DX
abbrev sHolds : Stmt := top 22
abbrev NH : List Str := ["left", "many", "paper", "index", "others", "apart", "spot", "other"]
/-- the class of data -/
def isTup : PyData → Bool
  | .tuple _ => true
  | _ => false
theorem dx_ty {K : PySem.W.Frag} {l : Addr} {H : Hp} {v : V} {d : PyData} (h : Dx K l H v d) : ∃ t, TyX K H v t ∧ PySem.W.kitOne K t (.type "tuple") = some (isTup d) := by
  cases h with
  | non => exact ⟨_, .base .non, kit_ty (r := false) (by decide +kernel)⟩
  | bl b => exact ⟨_, .base (.bl b), kit_ty (r := false) (by decide +kernel)⟩
  | int i => exact ⟨_, .base (.int i), kit_ty (r := false) (by decide +kernel)⟩
  | str x => exact ⟨_, .base (.str x), kit_ty (r := false) (by decide +kernel)⟩
  | lst _ h _ => exact ⟨_, .base (.lst h), kit_ty (r := false) (by decide +kernel)⟩
  | tup h _ => exact ⟨_, .base (.tup h), kit_ty (r := true) (by decide +kernel)⟩
  | dct h => exact ⟨_, .base (.dK h), kit_ty (r := false) (by decide +kernel)⟩
theorem dx_tD {K : PySem.W.Frag} {l : Addr} {H : Hp} {v : V} {t : List Str} (h : Dx K l H v (tD t)) : ∃ b, v = .ref b ∧ H b = some (.tup (t.map V.str)) := by
  cases h with
  | @tup a xs _ h1 h2 =>
    refine ⟨a, rfl, ?_⟩
    have : ∀ {t : List Str} {xs : List V}, DxAll K l H xs (t.map PyData.str) → xs = t.map V.str := fun {t} => by
      induction t with
      | nil => intro xs h; cases h; rfl
      | cons n t ih =>
        intro xs h
        cases h with
        | cons h1 h2 =>
          cases h1
          rw [ih h2]
          rfl
    rw [h1, this h2]
theorem cutN {c goal Y : Prop} (body : (c → Y) → goal) (next : c → Y) : goal := body next
theorem holds_no {n : Nat} {ds : List PyData} {L : List Spt} {m : Int} (h1 : ∀ x y, ds = [x, y] → (PyData.eqv x (S "touch") && touchB y L m) = false) (h2 : ∀ x y u v, ds = [x, y, u, v] → PyData.eqv x (S "spot") = true → idx y L = none) : holdsD n (.tuple ds) L m = false := by
  cases e : holdsD n (.tuple ds) L m with
  | false => rfl
  | true =>
    rcases holds_inv e with ⟨x, y, q, h⟩ | ⟨k, x, y, u, v, rfl, q, h⟩
    · cases q
      rw [h1 x y rfl] at h
      cases h
    · cases q
      rw [holds_four, Bool.and_eq_true] at h
      rw [h2 x y u v rfl h.1] at h
      cases h.2
theorem units66 {k : Nat} {A : Around} (r : Room k A) : A.units + 66 < cLine := by have := r.un; omega
section
variable {P : Program} {w : World} {K : PySem.W.Frag} {mg : Str → Option Value} {base : Heap}
def spMeetX (K : PySem.W.Frag) : Sp := fun vs H Q _ => ∃ (a b l : Addr) (xs : List V) (ys : List PyData) (t : List Str), vs = [.ref a, .ref b] ∧ H a = some (.tup xs) ∧ DxAll K l H xs ys ∧ (∀ y ∈ ys, Lk y) ∧ ys.length ≤ 1000 ∧ H b = some (.tup (t.map V.str)) ∧ Okt t ∧ ∀ H', Same H H' → Q (.bl (sees ys t)) H'
theorem ok_meetX {f : Addr} {fd : FuncData} (F : Fun K "_meet" "_meet" sMeet f fd) (T : Txt mg) : FnOk P w K mg base (L2.CX P w) 1 f fd ["one", "other"] (spMeetX K) := by
  have sc : FnScope ["one", "other", "name"] ["one", "other"] (defScope sMeet) := ⟨rfl, rfl, rfl, by decide +kernel, rfl, by decide +kernel, by decide +kernel⟩
  refine F.okX sc (fun vs H Q E h => ?_) (fun cdv A outer sh H vs Q E hr h => ?_)
  · obtain ⟨a, b, l, xs, ys, t, rfl, _⟩ := h
    rfl
  · obtain ⟨a, b, l, xs, ys, t, rfl, ha, dx, shp, few, hb, ot, k⟩ := h
    refine ⟨_, pss_one (ps_ret (pe_callB (cr_any rfl) (by rfl) T.any (by decide +kernel) (pa_cons (pe_lc (own := [("name", 2)]) (g := gName 2) (tt := tYes) (te := tOp (rInT K) (tVar 2) (tVar 1)) rfl sc.nd (pi_tup (pv 0)) (blkOk_by (N := ["one", "other", "name"]) (sc := defScope sMeet) (by decide +kernel)) (fun _ _ _ _ _ => pg_name (i := 2) sc.nd rfl (Or.inl rfl)) (fun _ _ _ _ _ => pts_nil)
      (fun _ _ _ _ _ => pe_cmpR (op := .In) (show OpR _ (compareOp .In) (rInT K) from op_inT (units66 hr)) (pv 2) (pv 1) (by rfl))) pa_nil))), ?_⟩
    have ln := dx.len
    refine ⟨_, rfl, a, rfl, ⟨_, SqT.of ha⟩, fun D nD => ?_⟩
    refine walk_it (walk_tup (K := K) (a := a) (xs := xs)) (fun j G => Same H G ∧ G D = some (.lst (((ys.take j).map fun d => (t.map S).any fun z => PyData.eqv z d).map V.bl))) ⟨same_upd nD, upd_same⟩ (fun j G _ ⟨sm, _⟩ => SqT.of (sm _ _ ha)) (fun j x G G' hj ⟨sm, hD⟩ ⟨e, hx⟩ => ?_) (fun G ⟨sm, hD⟩ => ?_)
    · subst e
      obtain ⟨d, hd, dd⟩ := dx.at2 hx
      refine ⟨rfl, yes_go (iteT ⟨_, rfl, _, rfl, l, b, d, t, rfl, sm _ _ hb, Dx.same sm _ _ dd, shp d (List.mem_of_getElem? hd), ot, _, hD, ?_, same_put sm nD, ?_⟩)⟩
      · rw [List.length_map, List.length_map, List.length_take]
        exact Nat.lt_of_le_of_lt (Nat.min_le_right _ _) (Nat.lt_of_le_of_lt few (by decide))
      · rw [upd_same, List.take_succ, hd, List.map_append, List.map_append]
        rfl
    · rw [ln, List.take_length] at hD
      refine ⟨D, _, rfl, SqL.of hD, ?_⟩
      have e : (ys.map fun d => (t.map S).any fun z => PyData.eqv z d).any id = sees ys t := by
        unfold sees
        rw [List.any_map]
        rfl
      rw [e]
      exact k G sm
def spHolds (K : PySem.W.Frag) (n : Nat) : Sp := fun vs H Q _ => ∃ (a l : Addr) (m : Int) (v : V) (d : PyData) (L : List Spt), vs = [.ref a, .int m, v] ∧ H a = some (.lst (rf L)) ∧ Fit H L ∧ L.length < n ∧ n ≤ 60 ∧ m ≤ 1000 ∧ Dx K l H v d ∧ PD d ∧ ∀ H', Same H H' → Q (.bl (holdsD n d L m)) H'
theorem lD_eq (L : List Spt) : lD L = .list (L.map fun p => tD p.2) := rfl
set_option maxHeartbeats 4000000 in
theorem holds_step {f : Addr} {fd : FuncData} (F : Fun K "_holds" "_holds" sHolds f fd) (T : Txt mg) (GM : Glb P w K mg base "_meet" 1 ["one", "other"] spMeet) (GX : Glb P w K mg base "_meet" 1 ["one", "other"] (spMeetX K)) {n : Nat} (mF : mg "_holds" = some (.ref f)) (kF : PySem.W.keepIn K (.ref f) = true) (bF : L2.Binds K fd ["left", "many", "paper"] [])
    (IH : FnOk P w K mg base (L2.CX P w) (n + 1) f fd ["left", "many", "paper"] (spHolds K n)) : FnOk P w K mg base (L2.CX P w) (n + 2) f fd ["left", "many", "paper"] (spHolds K (n + 1)) := by
  obtain ⟨fM, fdM, mM, kM, GM, bM⟩ := GM.ex
  obtain ⟨fX, fdX, mX, kX, GX, bX⟩ := GX.ex
  have sc : FnScope NH ["left", "many", "paper"] (defScope sHolds) := ⟨rfl, rfl, rfl, by decide +kernel, rfl, by decide +kernel, by decide +kernel⟩
  refine F.okX sc (fun vs H Q E h => ?_) (fun cdv A outer s H vs Q E hr h => ?_)
  · obtain ⟨a, l, m, v, d, L, rfl, _⟩ := h
    rfl
  · obtain ⟨a, l, m, v, d, L, rfl, ha, fit, few, few60, m1, dv, shd, fin⟩ := h
    have hN := sc.nd
    refine ⟨_, pss_cons (ps_if (PW.pt (pw_or (pt_not (pt_val (pe_callB call_isi (by rfl) T.isi (by decide +kernel) (pa_cons (pv 2) (pa_cons (pe_bltn (v := .ty "tuple") (by rfl) T.tuple (by decide +kernel) rfl) pa_nil))))) (pw_or1 (pt_not (pt_truth (pv 2) (by intro _; rfl)))))) (pss_one (ps_ret pe_bl)) pss_nil)
      (pss_cons (ps_if (PW.pt (pw_and (pt_cmpR (op_eqX hr.units) (pe_ix ix_tup (pv 2) pe_int (fun _ _ => rfl)) pe_str (nomark _)) (pw_and1 (pt_cmpR op_eq (pe_callB call_len_seq (by rfl) T.len PySem.boot_len (pa_cons (pv 2) pa_nil)) pe_int (nomark _)))))
        (pss_cons (ps_if (PW.pt (pw_or (pt_not (pt_val (pe_callB call_isi (by rfl) T.isi (by decide +kernel) (pa_cons (pe_ix ix_tup (pv 2) pe_int (fun _ _ => rfl)) (pa_cons (pe_bltn (v := .ty "tuple") (by rfl) T.tuple (by decide +kernel) rfl) pa_nil))))) (pw_or1 (pt_cmpR op_gt (pe_callB call_len_seq (by rfl) T.len PySem.boot_len (pa_cons (pe_ix ix_tup (pv 2) pe_int (fun _ _ => rfl)) pa_nil)) (pv 1) (nomark _))))) (pss_one (ps_ret pe_bl)) pss_nil)
        (pss_one (ps_ret (pe_callB (cr_all rfl) (by rfl) T.all (by decide +kernel) (pa_cons (pe_lc (own := [("spot", 6)]) (g := gName 6) (tt := tYes) (te := tCall (spMeetX K) [] E0 (tCons (tOp (rIxT K) (tVar 2) (tC (.int 1))) (tCons (tVar 6) tNil))) rfl hN (pi_list (pv 0)) (blkOk_by (N := NH) (sc := defScope sHolds) (by decide +kernel)) (fun _ _ _ _ _ => pg_name (i := 6) hN rfl (Or.inl rfl)) (fun _ _ _ _ _ => pts_nil)
          (fun _ _ _ _ _ => pe_call GX (hr.mono (by omega)) (by rfl) mX kX bX .nil passL (pa_cons (pe_ix (show IxR _ (rIxT K) from ix_tup) (pv 2) pe_int (fun _ _ => rfl)) (pa_cons (pv 6) pa_nil)))) pa_nil))))) pss_nil)
      (pss_cons (ps_if (PW.pt (pw_or (pt_cmpR (op_neX hr.units) (pe_ix ix_tup (pv 2) pe_int (fun _ _ => rfl)) pe_str (nomark _)) (pw_or (pt_cmpR op_ne (pe_callB call_len_seq (by rfl) T.len PySem.boot_len (pa_cons (pv 2) pa_nil)) pe_int (nomark _)) (pw_or1 (pt_cmpR (op := .NotIn) (op_notInX (units65 hr)) (pe_ix ix_tup (pv 2) pe_int (fun _ _ => rfl)) (pv 0) (by rfl)))))) (pss_one (ps_ret pe_bl)) pss_nil)
      (pss_cons (ps_set (i := 3) hN rfl (Or.inl rfl) (pe_bm PySem.F.plainAttrs_list PySem.F.slot_list_index PySem.F.type_list_index (mt_indexD (units65 hr)) (pv 0) (pa_cons (pe_ix ix_tup (pv 2) pe_int (fun _ _ => rfl)) pa_nil)))
      (pss_cons (ps_set (i := 4) hN rfl (Or.inl rfl) (pe_op op_cat (pe_slice sl_list (pv 0) po_none (po_some (pv 3))) (pe_slice sl_list (pv 0) (po_some (pe_op op_add (pv 3) pe_int)) po_none)))
      (pss_cons (ps_setLc (i := 5) (own := [("other", 7)]) (g := gName 7) rfl hN rfl rfl rfl (pi_list (pv 4)) (blkOk_by (N := NH) (sc := defScope sHolds) (by decide +kernel)) (fun _ _ _ _ _ => pg_name (i := 7) hN rfl (Or.inl rfl))
          (tt := tNot (tB (tCall spMeet [] E0 (tCons (tOp (rIxT K) (tVar 2) (tC (.int 1))) (tCons (tVar 7) tNil)))))
          (fun _ _ _ _ _ => pts_one (pt_not (pt_val (pe_call GM (hr.mono (by omega)) (by rfl) mM kM bM .nil passL (pa_cons (pe_ix (show IxR _ (rIxT K) from ix_tup) (pv 2) pe_int (fun _ _ => rfl)) (pa_cons (pv 7) pa_nil)))))) (fun _ _ _ _ _ => pv 7))
      (pss_one (ps_ret (pe_and (pe_call IH (hr.mono (by omega)) (by rfl) mF kF bF .nil passL (pa_cons (pv 5) (pa_cons (pe_op op_sub (pv 1) pe_int) (pa_cons (pe_ix ix_tup (pv 2) pe_int (fun _ _ => rfl)) pa_nil))))
        (pe_one (pe_call IH (hr.mono (by omega)) (by rfl) mF kF bF .nil passL (pa_cons (pv 4) (pa_cons (pv 1) (pa_cons (pe_ix ix_tup (pv 2) pe_int (fun _ _ => rfl)) pa_nil))))))))))))), ?_⟩
    obtain ⟨t0, ty0, k0⟩ := dx_ty dv
    have ret0 : holdsD (n + 1) d L m = false → Q (.bl false) H := fun e => by
      rw [← e]
      exact fin H (Same.refl H)
    have other : isTup d = false → holdsD (n + 1) d L m = false := fun e => by
      cases d <;> first | (cases e; done) | simp [holdsD]
    by_cases it : isTup d = true
    case neg =>
      have it : isTup d = false := Bool.not_eq_true _ ▸ it
      rw [it] at k0
      exact ⟨_, rfl, _, _, _, _, _, rfl, .ty _, ty0, k0, _, rfl, if_pos' rfl (if_pos' rfl (ret0 (other it)))⟩
    cases dv with
    | @tup v xs ds h1 hds =>
      have ln := hds.len
      refine ⟨_, rfl, _, _, _, _, _, rfl, .ty _, ty0, k0, _, rfl, if_neg' rfl ⟨_, rfl, _, .inr (.inl ⟨_, SqT.of h1, rfl⟩), ?_⟩⟩
      cases hds with
      | nil => exact if_pos' rfl (ret0 (holds_no (fun _ _ e => nomatch e) fun _ _ _ _ e => nomatch e))
      | @cons x xr d0 dr hx hr0 =>
        refine if_neg' rfl ?_
        have sh0 : Sh 60 d0 := shd.head
        refine ⟨_, rfl, _, _, _, _, rfl, rfl, SqT.of h1, at_of (j := 0) rfl rfl, l, l, d0, S "touch", hx, .str _, sh0.shaped (by decide), by decide +kernel, _, rfl, ?_⟩
        -- what follows where it is no pair that touches
        apply cutN (c := PyData.eqv d0 (S "touch") = true → dr.length ≠ 1)
        · intro later
          by_cases c0 : PyData.eqv d0 (S "touch") = true
          · refine if_pos' c0 ⟨_, rfl, v, _, rfl, .inr (SqT.of h1), rfl, _, rfl, ?_⟩
            by_cases c1 : dr.length = 1
            · refine if_pos' (by rw [ln, List.length_cons, c1]; rfl) ?_
              obtain ⟨d1, rfl⟩ : ∃ d1, dr = [d1] := by
                match dr, c1 with
                | [d1], _ => exact ⟨d1, rfl⟩
              cases hr0 with
              | @cons y yr _ _ hy hr1 =>
              cases hr1
              obtain ⟨t1, ty1, k1⟩ := dx_ty hy
              refine ⟨_, rfl, _, _, _, _, rfl, rfl, SqT.of h1, at_of (j := 1) rfl rfl, _, _, _, _, _, rfl, .ty _, ty1, k1, _, rfl, ?_⟩
              by_cases it1 : isTup d1 = true
              case neg =>
                have it1 : isTup d1 = false := Bool.not_eq_true _ ▸ it1
                refine if_pos' (by rw [it1]; rfl) (if_pos' rfl (ret0 ?_))
                rw [holds_two, Bool.and_eq_false_iff]
                right
                cases d1 <;> first | rfl | (cases it1; done)
              refine if_neg' (by rw [it1]; rfl) ?_
              cases hy with
              | @tup b ys es h2 hes =>
              have lny := hes.len
              refine ⟨_, rfl, _, _, _, _, rfl, rfl, SqT.of h1, at_of (j := 1) rfl rfl, b, _, rfl, .inr (SqT.of h2), _, rfl, _, _, rfl, rfl, _, rfl, ?_⟩
              have tb : holdsD (n + 1) (.tuple [d0, .tuple es]) L m = (decide ((es.length : Int) ≤ m) && L.all fun p => sees es p.2) := by
                rw [holds_two, c0, Bool.true_and]
                rfl
              by_cases many : (ys.length : Int) > m
              · refine if_pos' (decide_eq_true many) (ret0 ?_)
                rw [tb, decide_eq_false (by omega), Bool.false_and]
              · refine if_neg' (decide_eq_false many) ?_
                rw [decide_eq_true (by omega : (es.length : Int) ≤ m), Bool.true_and] at tb
                refine ⟨_, rfl, a, rfl, ⟨_, SqL.of ha⟩, fun D nD => ?_⟩
                refine lc_list (K := K) (a := a) (xs := rf L) (fun t G => Same H G ∧ G D = some (.lst (((L.take t).map fun p => sees es p.2).map V.bl))) ⟨same_upd nD, upd_same⟩ (fun t G _ ⟨sm, _⟩ => SqL.of (sm _ _ ha)) (fun t x G hx ⟨sm, hD⟩ => ?_) (fun G ⟨sm, hD⟩ => ?_)
                · obtain ⟨p, hp, rfl⟩ := rf_at hx
                  have mem := List.mem_of_getElem? hp
                  refine ⟨rfl, yes_go (iteT ⟨_, rfl, _, _, _, _, rfl, rfl, SqT.of (sm _ _ h1), at_of (j := 1) rfl rfl, _, rfl, b, p.1, l, ys, es, p.2, rfl, sm _ _ h2, DxAll.same sm _ _ hes, shd.snd, by omega, sm _ _ (fit.tp p mem), fit.ok p mem, fun G' s' => ⟨_, s' _ _ hD, ?_, same_put (sm.trans s') nD, ?_⟩⟩)⟩
                  · rw [List.length_map, List.length_map, List.length_take]
                    exact Nat.lt_of_le_of_lt (Nat.min_le_right _ _) (Nat.lt_of_lt_of_le (m := 100) (by omega) (by decide))
                  · rw [upd_same, List.take_succ, hp, List.map_append, List.map_append]
                    rfl
                · rw [rf_len, List.take_length] at hD
                  refine ⟨D, _, rfl, SqL.of hD, ?_⟩
                  have e : (L.map fun p => sees es p.2).all id = holdsD (n + 1) (.tuple [d0, .tuple es]) L m := by
                    rw [List.all_map, tb]
                    rfl
                  rw [e]
                  exact fin G sm
              | _ => cases it1
            · refine if_neg' (decide_eq_false fun z => c1 (by have := V.int.inj z; rw [ln, List.length_cons] at this; omega)) ?_
              exact later fun _ => c1
          · refine if_neg' (Bool.not_eq_true _ ▸ c0) ?_
            refine if_neg' rfl ?_
            exact later fun z => absurd z c0
        · intro ne
          refine ⟨_, rfl, _, _, _, _, rfl, rfl, SqT.of h1, at_of (j := 0) rfl rfl, l, l, d0, S "spot", hx, .str _, sh0.shaped (by decide), by decide +kernel, _, rfl, ?_⟩
          have no2 : ∀ x y, d0 :: dr = [x, y] → (PyData.eqv x (S "touch") && touchB y L m) = false := fun x y e => by
            cases e
            rw [Bool.and_eq_false_iff]
            left
            exact Bool.not_eq_true _ ▸ fun z => ne z rfl
          by_cases c2 : PyData.eqv d0 (S "spot") = true
          case neg =>
            exact if_pos' (by rw [(Bool.not_eq_true _ ▸ c2 : PyData.eqv d0 (S "spot") = false)]; rfl) (if_pos' rfl (ret0 (holds_no no2 fun x y u v e z => by cases e; exact absurd z c2)))
          refine if_neg' (by rw [c2]; rfl) ⟨_, rfl, v, _, rfl, .inr (SqT.of h1), rfl, _, rfl, ?_⟩
          by_cases c3 : dr.length = 3
          case neg =>
            exact if_pos' (by rw [Bool.not_eq_true']; exact decide_eq_false fun z => c3 (by have := V.int.inj z; rw [ln, List.length_cons] at this; omega)) (if_pos' rfl (ret0 (holds_no no2 fun x y u v e z => by cases e; exact absurd rfl c3)))
          refine if_neg' (by rw [ln, List.length_cons, c3]; rfl) ?_
          obtain ⟨dy, du, dw, rfl⟩ : ∃ dy du dw, dr = [dy, du, dw] := by
            match dr, c3 with
            | [dy, du, dw], _ => exact ⟨dy, du, dw, rfl⟩
          cases hr0 with
          | @cons y _ _ _ hy hr1 =>
          cases hr1 with
          | @cons u _ _ _ hu hr2 =>
          cases hr2 with
          | @cons z _ _ _ hw hr3 =>
          cases hr3
          obtain ⟨shy, shu, shw⟩ := shd.all
          refine ⟨_, rfl, _, _, _, _, rfl, rfl, SqT.of h1, at_of (j := 1) rfl rfl, _, rfl, l, a + 1, dy, L.map fun p : Spt => tD p.2, hy, .lst (Nat.ne_of_lt (Nat.lt_succ_self a)) ha (dx_tups fit.tp), shy.shaped (by decide), lD_shp fit.ok, _, rfl, ?_⟩
          cases hi : idx dy L with
          | none => exact if_pos' (by rw [idx_none hi]; rfl) (ret0 (holds_no no2 fun x y u v e _ => by cases e; exact hi))
          | some i =>
          refine if_neg' (by rw [idx_any hi]; rfl) ?_
          obtain ⟨p, h2, rfl, h3⟩ := idx_some hi
          obtain ⟨yb, rfl, hyb⟩ := dx_tD hy
          have q4 : holdsD (n + 1) (.tuple [d0, tD p.2, du, dw]) L m = (holdsD n du ((cut L i).filter (off p)) (m - 1) && holdsD n dw (cut L i) m) := by
            rw [holds_four, c2, Bool.true_and, hi]
            dsimp only
            rw [h2]
          have mem := List.mem_of_getElem? h2
          have lt : i < L.length := (List.getElem?_eq_some_iff.mp h2).1
          have smp : p.2.length ≤ 1000 := Nat.le_trans (fit.sm p mem) (by decide)
          refine ⟨_, rfl, .inl ⟨rfl, _, SqL.of ha⟩, _, rfl, _, _, _, _, rfl, rfl, SqT.of h1, at_of (j := 1) rfl rfl, a, _, tD p.2, _, i, tD p.2, rfl, rfl, dp_lst ha fit.tp, dp_tup hyb, lD_shp fit.ok, tD_shp (fit.ok p mem), by rw [List.getElem?_map, h2] <;> rfl, by rw [eqv_tD, decide_eq_true rfl], fun j' z' lj hz => ?_, ?_⟩
          · rw [List.getElem?_map] at hz
            cases eq : L[j']? with
            | none => rw [eq] at hz; cases hz
            | some q =>
              rw [eq] at hz
              cases hz
              exact h3 j' lj q eq
          have jr : i ≤ (rf L).length := by rw [rf_len]; omega
          have jr1 : i + 1 ≤ (rf L).length := by rw [rf_len]; omega
          refine ⟨_, rfl, _, rfl, _, rfl, a, _, rfl, SqL.of ha, fun c1 nc1 => ?_⟩
          rw [cut_to jr]
          have s6 := same_upd (o := .lst ((rf L).take i)) nc1
          have hc1 : (upd H c1 (.lst ((rf L).take i))) c1 = some (.lst ((rf L).take i)) := upd_same
          generalize upd H c1 (.lst ((rf L).take i)) = H6 at s6 hc1 ⊢
          refine ⟨_, rfl, _, rfl, _, _, rfl, rfl, _, rfl, a, _, rfl, SqL.of (s6 _ _ ha), fun c2 nc2 => ?_⟩
          rw [show ((i : Int) + 1) = ((i + 1 : Nat) : Int) from rfl, cut_from jr1]
          have s7 := same_upd (o := .lst ((rf L).drop (i + 1))) nc2
          have hc2 : (upd H6 c2 (.lst ((rf L).drop (i + 1)))) c2 = some (.lst ((rf L).drop (i + 1))) := upd_same
          generalize upd H6 c2 (.lst ((rf L).drop (i + 1))) = H7 at s7 hc2 ⊢
          refine ⟨c1, c2, _, _, rfl, rfl, s7 _ _ hc1, hc2, ?_, fun c3 nc3 => ?_⟩
          · rw [List.length_take, List.length_drop, rf_len]
            exact Nat.le_trans (m := 200) (by omega) (by decide)
          have s8 := same_upd (o := .lst ((rf L).take i ++ (rf L).drop (i + 1))) nc3
          have hc3 : (upd H7 c3 (.lst ((rf L).take i ++ (rf L).drop (i + 1)))) c3 = some (.lst (rf (cut L i))) := by
            rw [upd_same, show rf (L.take i ++ L.drop (i + 1)) = (L.take i ++ L.drop (i + 1)).map (fun p => V.ref p.1) from rfl, List.map_append, List.map_take, List.map_drop]
          generalize upd H7 c3 (.lst ((rf L).take i ++ (rf L).drop (i + 1))) = H8 at s8 hc3 ⊢
          have S8 := s6.trans (s7.trans s8)
          clear s6 s7 s8 hc1 hc2
          have lc : (cut L i).length < n := by
            rw [List.length_append, List.length_take, List.length_drop]
            omega
          have fitc : Fit H8 (cut L i) := (fit.same S8).sub fun q hq => cut_mem hq
          refine ⟨_, rfl, c3, rfl, ⟨_, SqL.of hc3⟩, fun D4 nD4 => flt (K := K) (f := off p) (L := cut L i) (by omega) hc3 nD4 (fun _ => rfl) (fun _ => rfl) (fun q' hq G2 s2 R hR => ?_) (fun H9 s9 hD9 => ?_)⟩
          · exact ⟨_, rfl, _, _, _, _, rfl, rfl, SqT.of ((S8.trans s2) _ _ h1), at_of (j := 1) rfl rfl, _, rfl, yb, q'.1, p.2, q'.2, rfl, (S8.trans s2) _ _ hyb, s2 _ _ (fitc.tp q' hq), smp, fun G3 s3 => ⟨_, rfl, hR G3 s3⟩⟩
          have S9 := S8.trans s9
          have fita : Fit H9 ((cut L i).filter (off p)) := (fitc.same s9).sub fun q hq => (List.mem_filter.mp hq).1
          have la : ((cut L i).filter (off p)).length < n := Nat.lt_of_le_of_lt (List.length_filter_le _ _) lc
          refine ⟨_, rfl, _, rfl, _, _, rfl, rfl, _, rfl, _, _, _, _, rfl, rfl, SqT.of (S9 _ _ h1), at_of (j := 2) rfl rfl, D4, l, m - 1, u, du, _, rfl, hD9, fita, la, by omega, by omega, Dx.same S9 _ _ hu, shu, fun Ha sa => ⟨_, rfl, ?_⟩⟩
          have Sa := S9.trans sa
          cases r1 : holdsD n du ((cut L i).filter (off p)) (m - 1) with
          | false =>
            rw [r1, Bool.false_and] at q4
            refine if_neg' rfl ?_
            rw [← q4]
            exact fin Ha Sa
          | true =>
            rw [r1, Bool.true_and] at q4
            refine if_pos' rfl ⟨_, rfl, _, rfl, _, rfl, _, _, _, _, rfl, rfl, SqT.of (Sa _ _ h1), at_of (j := 3) rfl rfl, c3, l, m, z, dw, _, rfl, sa _ _ (s9 _ _ hc3), fitc.same (s9.trans sa), lc, by omega, m1, Dx.same Sa _ _ hw, shw, fun Hb sb => ?_⟩
            rw [← q4]
            exact fin Hb (Sa.trans sb)
    | _ => cases it
theorem ok_holds {f : Addr} {fd : FuncData} (F : Fun K "_holds" "_holds" sHolds f fd) (T : Txt mg) (GM : Glb P w K mg base "_meet" 1 ["one", "other"] spMeet) (GX : Glb P w K mg base "_meet" 1 ["one", "other"] (spMeetX K)) (mF : mg "_holds" = some (.ref f)) (kF : PySem.W.keepIn K (.ref f) = true) (bF : L2.Binds K fd ["left", "many", "paper"] []) :
    ∀ n, FnOk P w K mg base (L2.CX P w) (n + 1) f fd ["left", "many", "paper"] (spHolds K n)
  | 0 => by
    have sc : FnScope NH ["left", "many", "paper"] (defScope sHolds) := ⟨rfl, rfl, rfl, by decide +kernel, rfl, by decide +kernel, by decide +kernel⟩
    refine F.okX sc (fun vs H Q E h => ?_) (fun cdv A outer s H vs Q E hr h => ?_)
    · obtain ⟨a, l, m, v, d, L, rfl, _⟩ := h
      rfl
    · obtain ⟨a, l, m, v, d, L, rfl, ha, fit, few, _⟩ := h
      exact absurd few (Nat.not_lt_zero _)
  | n + 1 => holds_step F T GM GX mF kF bF (ok_holds F T GM GX mF kF bF n)
end
end R8
end

-- B8p
section
set_option Elab.async false
set_option linter.all false
set_option maxRecDepth 100000
namespace R8
open PySem L2 OwnOps OwnNe G1 EqDict MinKey SetSort DictList StX TryAs
def askB (x : Str) : Bool := decide (x.length ≤ 1000) && decide ((Txt.split x "/").length ≤ 64) && (Txt.split x "/").all fun y => decide (y.length ≤ 1000)
theorem ask_of {x : Str} (h : askB x = true) : Ask x := by
  unfold askB at h
  rw [Bool.and_eq_true, Bool.and_eq_true, List.all_eq_true] at h
  exact ⟨of_decide_eq_true h.1.1, of_decide_eq_true h.1.2, fun y hy => of_decide_eq_true (h.2 y hy)⟩
abbrev abc : List Nat := ("abcdef" : Str).cps.toList
/-- one of the seven letters -/
def Ltr (n : Str) : Prop := ∃ c ∈ abc, n = ⟨#[c]⟩
theorem abc_ok : (abc.all fun c => askB ⟨#[c]⟩ && nm ⟨#[c]⟩ && PyData.strOk ⟨#[c]⟩) = true := by decide +kernel
theorem Ltr.ok {n : Str} (h : Ltr n) : Ask n ∧ nm n = true ∧ PyData.strOk n = true := by
  obtain ⟨c, hc, rfl⟩ := h
  have := List.all_eq_true.mp abc_ok c hc
  rw [Bool.and_eq_true, Bool.and_eq_true] at this
  exact ⟨ask_of this.1.1, this.1.2, this.2⟩
abbrev sSpots : Stmt := top 26
abbrev NS : List Str := ["_law_draws_here", "_law_most", "_law_found", "_law_at", "_law_names", "_law_again", "_law_name"]
def Dr (H : Hp) (l : Addr) : Prop := ∃ x y : Int, H l = some (.lst [.int x, .int y])
/-- spots that were drawn -/
structure Lot (G : Hp) (L : List Spt) : Prop where
  tp : Tps G L
  nd : (L.map (·.1)).Nodup
  ne : Full L
  sm : ∀ p ∈ L, p.2.length ≤ 3
  lt : ∀ p ∈ L, ∀ n ∈ p.2, Ltr n
theorem Lot.move {G G' : Hp} {L : List Spt} {l : Addr} {xs : List V} (h : Lot G L) (s : SameX l G G') (hl : G l = some (.lst xs)) : Lot G' L :=
  ⟨fun p hp => s _ _ (fun e => by
    have q : G p.1 = some (.tup (p.2.map V.str)) := h.tp p hp
    rw [e, hl] at q
    cases q) (h.tp p hp), h.nd, h.ne, h.sm, h.lt⟩
theorem Lot.same {G G' : Hp} {L : List Spt} (h : Lot G L) (s : Same G G') : Lot G' L := ⟨h.tp.same s, h.nd, h.ne, h.sm, h.lt⟩
theorem Lot.good {G : Hp} {L : List Spt} {a : Addr} (h : Lot G L) (ha : G a = some (.lst (rf L))) (few : L.length ≤ 14) : Good G a L :=
  ⟨ha, ⟨h.tp, h.ne, fun p hp n hn => (h.lt p hp n hn).ok.2.2, fun p hp => Nat.le_trans (h.sm p hp) (by decide)⟩, few, fun p hp n hn => ⟨(h.lt p hp n hn).ok.1, (h.lt p hp n hn).ok.2.1⟩⟩
theorem sx_none {l x : Addr} {H G : Hp} (s : SameX l H G) (n : x ≠ l) (h : G x = none) : H x = none := by
  cases e : H x with
  | none => rfl
  | some u =>
    have := s x u n e
    rw [h] at this
    cases this
theorem sx_put {l D : Addr} {H G : Hp} {o : HO} (s : SameX l H G) (h : H D = none) : SameX l H (upd G D o) := fun b u n e => by
  rw [upd_ne (ne_of_none e h)]
  exact s b u n e
theorem atI_get {α : Type} {xs : List α} {d : Int} (h0 : 0 ≤ d) (h1 : d < xs.length) : ∃ c, atI xs d = some c ∧ c ∈ xs := by
  have hj : d.toNat < xs.length := by omega
  refine ⟨xs[d.toNat], ?_, List.getElem_mem hj⟩
  unfold atI ixN
  rw [if_pos h0, if_pos h1]
  exact List.getElem?_eq_getElem hj
section
variable {P : Program} {w : World} {K : PySem.W.Frag} {mg : Str → Option Value} {base : Heap}
def spSpots : Sp := fun vs H Q _ => ∃ l : Addr, vs = [.ref l, .int 7] ∧ Dr H l ∧ ∀ a L H', SameX l H H' → Dr H' l → H a = none → H' a = some (.lst (rf L)) → Lot H' L → L.length ≤ 7 → L ≠ [] → Q (.ref a) H'
set_option maxHeartbeats 4000000 in
theorem ok_spots {f : Addr} {fd : FuncData} (F : Fun K "_law_spots" "_law_spots" sSpots f fd) (T : Txt mg) (GD : Glb P w K mg base "_law_draw" 1 ["_law_draws_here", "_law_upto"] spDraw) : FnOk P w K mg base (L2.CX P w) 2 f fd ["_law_draws_here", "_law_most"] spSpots := by
  obtain ⟨fD, fdD, mD, kD, GD, bD⟩ := GD.ex
  have sc : FnScope NS ["_law_draws_here", "_law_most"] (defScope sSpots) := ⟨rfl, rfl, rfl, by decide +kernel, rfl, by decide +kernel, by decide +kernel⟩
  refine F.okX sc (fun vs H Q E h => ?_) (fun cdv A outer s H vs Q E hr h => ?_)
  · obtain ⟨l, rfl, _⟩ := h
    rfl
  · obtain ⟨l, rfl, ⟨x0, y0, hl⟩, fin⟩ := h
    have hN := sc.nd
    refine ⟨_, pss_cons (ps_set (i := 2) hN rfl (Or.inl rfl) (pe_lst pa_nil))
      (pss_cons (ps_for passOwn rfl (pi_range1 rfl T.range (pa_cons (pe_op op_add pe_int (pe_call GD hr (by rfl) mD kD bD .nil passL (pa_cons (pv 0) (pa_cons (pv 1) pa_nil)))) pa_nil)) (pg_name (i := 3) hN rfl (Or.inl rfl))
        (pss_cons (ps_set (i := 4) hN rfl (Or.inl rfl) (pe_lst pa_nil))
        (pss_cons (ps_for passOwn rfl (pi_range1 rfl T.range (pa_cons (pe_op op_add pe_int (pe_call GD hr (by rfl) mD kD bD .nil passL (pa_cons (pv 0) (pa_cons pe_int pa_nil)))) pa_nil)) (pg_name (i := 5) hN rfl (Or.inl rfl))
          (pss_cons (ps_set (i := 6) hN rfl (Or.inl rfl) (pe_ix ix_str pe_str (pe_call GD hr (by rfl) mD kD bD .nil passL (pa_cons (pv 0) (pa_cons pe_int pa_nil))) (fun _ _ => rfl)))
          (pss_one (ps_if (pt_cmpR (op := .NotIn) op_notIn_seq (pv 6) (pv 4) (by rfl)) (pss_one (ps_expr (pe_bm PySem.F.plainAttrs_list PySem.F.slot_list_append PySem.F.type_list_append mt_append (pv 4) (pa_cons (pv 6) pa_nil)))) pss_nil))))
        (pss_one (ps_expr (pe_bm PySem.F.plainAttrs_list PySem.F.slot_list_append PySem.F.type_list_append mt_append (pv 2) (pa_cons (pe_callTy call_tuple_of (by rfl) T.tuple (by decide +kernel) (pa_cons (pv 4) pa_nil)) pa_nil)))))))
      (pss_one (ps_ret (pv 2)))), ?_⟩
    refine ⟨by show 0 ≤ sizeLine; decide, fun FA nF => ?_⟩
    have Fl : FA ≠ l := fun e => by rw [e, hl] at nF; cases nF
    refine ⟨_, rfl, _, rfl, l, 7, x0, y0, rfl, by decide, by decide, by rw [upd_ne Fl.symm]; exact hl, fun d x' y' d0 d1 => ⟨_, _, rfl, rfl, ?_⟩⟩
    have sx0 : SameX l H (upd (upd H FA (.lst [])) l (.lst [.int x', .int y'])) := (SameX.of (same_upd nF)).trans SameX.upd
    have gF0 : (upd (upd H FA (.lst [])) l (.lst [.int x', .int y'])) FA = some (.lst (rf [])) := by rw [upd_ne Fl, upd_same]; rfl
    have gl0 : Dr (upd (upd H FA (.lst [])) l (.lst [.int x', .int y'])) l := ⟨x', y', upd_same⟩
    generalize upd (upd H FA (.lst [])) l (.lst [.int x', .int y']) = G0 at sx0 gF0 gl0 ⊢
    refine ⟨_, rfl, by omega, by omega, for_range (fun j σ G => (∃ v3 v4 v5 v6, σ = [some (.ref l), some (.int 7), some (.ref FA), v3, v4, v5, v6]) ∧ SameX l H G ∧ Dr G l ∧ ∃ L, G FA = some (.lst (rf L)) ∧ Lot G L ∧ L.length = j)
      ⟨⟨_, _, _, _, rfl⟩, sx0, gl0, [], gF0, ⟨fun _ h => (nomatch h), .nil, fun _ h => (nomatch h), fun _ h => (nomatch h), fun _ h => (nomatch h)⟩, rfl⟩ (fun j σ G hj ⟨⟨v3, v4, v5, v6, e⟩, sx, ⟨x, y, gl⟩, L, gF, lot, len⟩ => ?_) (fun σ G ⟨⟨v3, v4, v5, v6, e⟩, sx, gl, L, gF, lot, len⟩ => ?_)⟩
    · subst e
      refine ⟨by show 0 ≤ sizeLine; decide, fun MA nM => ?_⟩
      have Ml : MA ≠ l := fun e => by rw [e, gl] at nM; cases nM
      have MF : MA ≠ FA := fun e => by rw [e, gF] at nM; cases nM
      have nM0 : H MA = none := sx_none sx Ml nM
      have s1 := same_upd (o := .lst []) nM
      refine ⟨_, rfl, l, 3, x, y, rfl, by decide, by decide, s1 _ _ gl, fun d2 x2 y2 e0 e1 => ⟨_, _, rfl, rfl, ?_⟩⟩
      have sx1 : SameX l H (upd (upd G MA (.lst [])) l (.lst [.int x2, .int y2])) := (sx.trans (SameX.of s1)).trans SameX.upd
      have gF1 : (upd (upd G MA (.lst [])) l (.lst [.int x2, .int y2])) FA = some (.lst (rf L)) := by rw [upd_ne Fl]; exact s1 _ _ gF
      have gM1 : (upd (upd G MA (.lst [])) l (.lst [.int x2, .int y2])) MA = some (.lst ([].map V.str)) := by rw [upd_ne Ml, upd_same]; rfl
      have gl1 : Dr (upd (upd G MA (.lst [])) l (.lst [.int x2, .int y2])) l := ⟨x2, y2, upd_same⟩
      have lot1 : Lot (upd (upd G MA (.lst [])) l (.lst [.int x2, .int y2])) L := (lot.same s1).move SameX.upd (s1 _ _ gl)
      generalize upd (upd G MA (.lst [])) l (.lst [.int x2, .int y2]) = G1 at sx1 gF1 gM1 gl1 lot1 ⊢
      refine ⟨_, rfl, by omega, by omega, for_range (fun k σ G => (∃ v5 v6, σ = [some (.ref l), some (.int 7), some (.ref FA), some (.int (0 + (j : Int))), some (.ref MA), v5, v6]) ∧ SameX l H G ∧ Dr G l ∧ G FA = some (.lst (rf L)) ∧ Lot G L ∧ ∃ ns : List Str, G MA = some (.lst (ns.map V.str)) ∧ (∀ n ∈ ns, Ltr n) ∧ ns.length ≤ k ∧ (0 < k → ns ≠ []))
        ⟨⟨_, _, rfl⟩, sx1, gl1, gF1, lot1, [], gM1, (fun _ h => nomatch h), Nat.le_refl _, fun h => absurd h (by omega)⟩ (fun k σ G2 hk ⟨⟨v5, v6, e⟩, sx2, ⟨xx, yy, gl2⟩, gF2, lot2, ns, gM2, lt2, len2, ne2⟩ => ?_) (fun σ G2 ⟨⟨v5, v6, e⟩, sx2, gl2, gF2, lot2, ns, gM2, lt2, len2, ne2⟩ => ?_)⟩
      · subst e
        refine ⟨_, rfl, l, 6, xx, yy, rfl, by decide, by decide, gl2, fun d3 x3 y3 f0 f1 => ?_⟩
        obtain ⟨c, hc, mc⟩ := atI_get (xs := abc) f0 (by show d3 < 6; omega)
        have isl : Ltr ⟨#[c]⟩ := ⟨c, mc, rfl⟩
        refine ⟨_, _, c, rfl, rfl, by decide, hc, ?_⟩
        generalize (⟨#[c]⟩ : Str) = n at isl ⊢
        have sx3 : SameX l H (upd G2 l (.lst [.int x3, .int y3])) := sx2.trans SameX.upd
        have gF3 : (upd G2 l (.lst [.int x3, .int y3])) FA = some (.lst (rf L)) := by rw [upd_ne Fl]; exact gF2
        have gM3 : (upd G2 l (.lst [.int x3, .int y3])) MA = some (.lst (ns.map V.str)) := by rw [upd_ne Ml]; exact gM2
        have gl3 : (upd G2 l (.lst [.int x3, .int y3])) l = some (.lst [.int x3, .int y3]) := upd_same
        have lot3 : Lot (upd G2 l (.lst [.int x3, .int y3])) L := lot2.move SameX.upd gl2
        generalize upd G2 l (.lst [.int x3, .int y3]) = G3 at sx3 gF3 gM3 gl3 lot3 ⊢
        refine ⟨_, rfl, _, rfl, MA, _, rfl, .inl (SqL.of gM3), rfl, flat_strs ns, _, rfl, ?_⟩
        rw [inV_str]
        by_cases hn : n ∈ ns
        · refine if_neg' (by rw [decide_eq_true hn]; rfl) ⟨⟨_, _, rfl⟩, sx3, ⟨_, _, gl3⟩, gF3, lot3, ns, gM3, lt2, by omega, fun _ e => by rw [e] at hn; cases hn⟩
        · refine if_pos' (by rw [decide_eq_false hn]; rfl) ⟨_, rfl, .inl ⟨rfl, _, SqL.of gM3⟩, _, rfl, MA, _, _, rfl, rfl, gM3, ?_, ⟨_, _, rfl⟩, sx_put sx3 nM0, ⟨x3, y3, by rw [upd_ne Ml.symm]; exact gl3⟩, by rw [upd_ne MF.symm]; exact gF3, lot3.move SameX.upd gM3, ns ++ [n], ?_, ?_, ?_, fun _ => by simp⟩
          · rw [List.length_map]
            exact Nat.lt_of_le_of_lt (m := 10) (by omega) (by decide)
          · rw [upd_same, List.map_append]
            rfl
          · intro z hz
            rcases List.mem_append.mp hz with h | h
            · exact lt2 z h
            · rw [List.mem_singleton.mp h]; exact isl
          · rw [List.length_append]
            exact Nat.succ_le_succ len2
      · subst e
        obtain ⟨xx, yy, gl2⟩ := gl2
        refine ⟨_, rfl, .inl ⟨rfl, _, SqL.of gF2⟩, _, rfl, MA, _, rfl, .inl ⟨SqL.of gM2, fun t nt => ?_⟩⟩
        have tF : t ≠ FA := fun e => by rw [e, gF2] at nt; cases nt
        have tl : t ≠ l := fun e => by rw [e, gl2] at nt; cases nt
        have s4 := same_upd (o := .tup (ns.map V.str)) nt
        have sx4 := sx2.trans (SameX.of s4)
        have lot4 := lot2.same s4
        have gF4 := s4 _ _ gF2
        have gl4 := s4 _ _ gl2
        have gt4 : (upd G2 t (.tup (ns.map V.str))) t = some (.tup (ns.map V.str)) := upd_same
        have new : ∀ p ∈ L, p.1 ≠ t := fun p hp e => by
          have q : G2 p.1 = some (.tup (p.2.map V.str)) := lot2.tp p hp
          rw [e, nt] at q
          cases q
        generalize upd G2 t (.tup (ns.map V.str)) = G4 at sx4 lot4 gF4 gl4 gt4 ⊢
        have lot5 : Lot G4 (L ++ [(t, ns)]) := by
          have both : ∀ {R : Spt → Prop}, (∀ p ∈ L, R p) → R (t, ns) → ∀ p ∈ L ++ [(t, ns)], R p := fun h1 h2 p hp => (List.mem_append.mp hp).elim (h1 p) fun h => by rw [List.mem_singleton.mp h]; exact h2
          refine ⟨both lot4.tp gt4, ?_, both lot4.ne (ne2 (by omega)), both lot4.sm (by show ns.length ≤ 3; omega), both lot4.lt lt2⟩
          rw [List.map_append, List.nodup_append]
          refine ⟨lot4.nd, by simp, fun a ha b hb => ?_⟩
          obtain ⟨p, hp, rfl⟩ := List.mem_map.mp ha
          have e : b = t := by simpa using hb
          rw [e]
          exact new p hp
        refine ⟨FA, _, _, rfl, rfl, gF4, ?_, ⟨_, _, _, _, rfl⟩, sx_put sx4 nF, ⟨xx, yy, by rw [upd_ne Fl.symm]; exact gl4⟩, L ++ [(t, ns)], ?_, lot5.move SameX.upd gF4, ?_⟩
        · rw [rf_len]
          exact Nat.lt_of_le_of_lt (m := 100) (by omega) (by decide)
        · rw [upd_same, rf, rf, List.map_append]
          rfl
        · rw [List.length_append]
          rw [len]
          rfl
    · subst e
      exact ⟨_, rfl, fin FA L G sx gl nF gF lot (by omega) (fun z => by rw [z, List.length_nil] at len; omega)⟩
end
end R8
end

-- B8r
section
set_option Elab.async false
set_option linter.all false
set_option maxRecDepth 100000
namespace R8
open PySem L2 OwnOps OwnNe G1 EqDict MinKey SetSort DictList StX TryAs DX
abbrev sRest : Stmt := top 27
abbrev sFree : Stmt := top 28
/-- xs == [], a list -/
def rEqEmp : R2 := fun x y H Q => ∃ l b xs, x = .ref l ∧ y = .ref b ∧ H l = some (.lst xs) ∧ H b = some (.lst []) ∧ Q (.bl xs.isEmpty) H
theorem op_eqEmp {X : Cx} (hu : X.A.units < cLine) : OpR X (compareOp .Eq) rEqEmp := by
  intro pins s σ H x y v u Q I rx ry ⟨l, b, xs, e1, e2, hl, hb, q⟩
  subst e1 e2
  cases rx
  cases ry
  obtain ⟨_, its, n, r, _, e⟩ := I.lstM hl
  obtain ⟨_, its2, n2, r2, _, e2⟩ := I.lstM hb
  cases r2
  have L1 : s.heap.IsList l its.toArray := ⟨_, e, rfl, n, rfl⟩
  have L3 : s.heap.IsList b ([] : List Value).toArray := ⟨_, e2, rfl, n2, rfl⟩
  show wpAny (model X.prog X.w) X.A (richCompare .Eq (.ref l) (.ref b)) (EP X pins σ Q) X.xe s
  cases r with
  | nil => exact PySem.SeqAt.RcAt.lists (e := fun _ => true) L1 L3 rfl hu (fun j h1 _ => absurd h1 (by simp)) X.prog X.w X.xe _ ⟨.bl true, H, I, rfl, q⟩
  | cons a r => exact PySem.SeqAt.RcAt.lists_lengths L1 L3 (by simp) hu X.prog X.w X.xe _ ⟨.bl false, H, I, rfl, q⟩
/-- [n for n in a if ..], a a tuple of texts -/
theorem fltS {K : PySem.W.Frag} {B : Hp} {a D : Addr} {ns : List Str} {f : Str → Bool} {i : Nat} {ws : List Nat} {σ : L2.St} {tt : TT} {Qd : Hp → Prop} (few : ns.length ≤ 1000) (ha : B a = some (.tup (ns.map V.str))) (nD : B D = none)
    (wp : ∀ u : V, wipe ((wipe σ ws).set i (some u)) ws = wipe σ ws) (vi : ∀ u : V, ((wipe σ ws).set i (some u))[i]? = some (some u))
    (turn : ∀ n ∈ ns, ∀ G, Same B G → ∀ R : Bool → Hp → Prop, R (f n) G → tt ((wipe σ ws).set i (some (.str n))) G R)
    (fin : ∀ G, Same B G → G D = some (.lst ((ns.filter f).map V.str)) → Qd G) :
    ∃ W : Nat → Nat → Hp → Prop, (∃ m, W 0 m (upd B D (.lst []))) ∧ ∀ t m H, W t m H →
      ((Itt K a).stop t H ∧ Qd H) ∨ ((Itt K a).go t H ∧ ∃ Nx : Hp → Prop, (∀ H', Nx H' → ∃ m', m' < m ∧ W (t + 1) m' H') ∧ ∀ x H', (Itt K a).yld t H x H' → gName i x (wipe σ ws) H' fun σ2 H2 => wipe σ2 ws = wipe σ ws ∧ tt σ2 H2 fun b H3 =>
        if b = true then tVar i σ2 H3 fun y H4 => ∃ acc, H4 D = some (.lst acc) ∧ acc.length < sizeLine ∧ Nx (upd H4 D (.lst (acc ++ [y]))) else Nx H3) := by
  refine walk_it (walk_tup (K := K) (a := a) (xs := ns.map V.str)) (fun j G => Same B G ∧ G D = some (.lst (((ns.take j).filter f).map V.str))) ⟨same_upd nD, upd_same⟩ (fun j G _ ⟨sm, _⟩ => SqT.of (sm _ _ ha)) (fun j x G G' hj ⟨sm, hD⟩ ⟨e, hx⟩ => ?_) (fun G ⟨sm, hD⟩ => ?_)
  · subst e
    obtain ⟨n, hn, rfl⟩ := map_at hx
    have lt : j < ns.length := (List.getElem?_eq_some_iff.mp hn).1
    have e2 : (ns.take (j + 1)).filter f = (ns.take j).filter f ++ (if f n = true then [n] else []) := by
      rw [List.take_succ, hn, List.filter_append]
      show _ ++ [n].filter f = _
      rw [List.filter_cons, List.filter_nil]
    refine ⟨wp _, turn n (List.mem_of_getElem? hn) G' sm _ ?_⟩
    cases hf : f n with
    | true =>
      rw [hf, if_pos rfl] at e2
      refine iteT ⟨_, vi _, _, hD, ?_, same_put sm nD, by rw [upd_same, e2, List.map_append]; rfl⟩
      rw [List.length_map]
      have := List.length_filter_le f (ns.take j)
      rw [List.length_take] at this
      exact Nat.lt_of_le_of_lt (m := 1001) (by omega) (by decide)
    | false =>
      rw [hf, if_neg Bool.false_ne_true, List.append_nil] at e2
      exact iteF ⟨sm, by rw [e2]; exact hD⟩
  · rw [List.length_map, List.take_length] at hD
    exact fin G sm hD
section
variable {P : Program} {w : World} {K : PySem.W.Frag} {mg : Str → Option Value} {base : Heap} {CP fP CL fL : Addr}
def spLA (K : PySem.W.Frag) : Sp := fun vs H Q E => ∃ (a l : Addr) (m : Int) (u : V) (d : PyData) (L : List Spt), vs = [.ref a, .int m, u] ∧ Good H a L ∧ m ≤ 1000 ∧ Dx K l H u d ∧ PD d ∧ ∀ H', Same H H' → Q (.bl (holdsD 15 d L m)) H'
theorem ok_LA {f : Addr} {fd : FuncData} (F : Fun K "lets_apart" "lets_apart" sLA f fd) (T : Txt mg) (GC : Glb P w K mg base "_check_spots" 3 ["some"] (spCheck CP CL)) (GH : Glb P w K mg base "_holds" 16 ["left", "many", "paper"] (spHolds K 15)) : FnOk P w K mg base (L2.CX P w) 17 f fd ["some", "many", "paper"] (spLA K) := by
  obtain ⟨fC, fdC, mC, kC, GC, bC⟩ := GC.ex
  obtain ⟨fH, fdH, mH, kH, GH, bH⟩ := GH.ex
  have sc : FnScope ["some", "many", "paper"] ["some", "many", "paper"] (defScope sLA) := ⟨rfl, rfl, rfl, by decide +kernel, rfl, by decide +kernel, by decide +kernel⟩
  refine F.okX sc (fun vs H Q E h => ?_) (fun cdv A outer s H vs Q E hr h => ?_)
  · obtain ⟨a, l, m, u, d, L, rfl, _⟩ := h
    rfl
  · obtain ⟨a, l, m, u, d, L, rfl, g, m1, du, sd, k⟩ := h
    refine ⟨_, pss_cons (ps_expr (pe_call (E := EN 3 (fun cls d _ H => E cls d H)) GC (hr.mono (by decide)) (by rfl) mC kC bC .nil (pass_n rfl (takes_of rfl rfl rfl rfl)) (pa_cons (pv 0) pa_nil)))
      (pss_one (ps_ret (pe_call GH (hr.mono (by decide)) (by rfl) mH kH bH .nil passL (pa_cons (pe_callTy call_list_of (by rfl) T.list (by decide +kernel) (pa_cons (pv 0) pa_nil)) (pa_cons (pv 1) (pa_cons (pv 2) pa_nil)))))), ?_⟩
    refine ⟨_, rfl, ?_⟩
    dsimp only [tNil, List.append_nil]
    have c : Ck CP CL H E (.ref a) fun b M => b = a ∧ M = L := .inr (.inr ⟨a, L, rfl, g, rfl, rfl⟩)
    refine c.run (fun _ _ _ h _ _ => h) fun a' L' ev g' go H1 s1 => ?_
    obtain ⟨rfl, rfl⟩ := go
    refine ⟨_, rfl, a', _, rfl, .inl (SqL.of (s1 _ _ g.at_)), fun b nb => ?_⟩
    have s2 := same_upd (o := .lst (rf L')) nb
    have S2 := s1.trans s2
    have fw := g.few
    exact ⟨_, rfl, _, rfl, b, l, m, u, d, L', rfl, upd_same, g.fit.same S2, by omega, by decide, m1, Dx.same S2 _ _ du, sd, fun H' s' => k H' (S2.trans s')⟩
abbrev NR : List Str := ["_law_some", "_law_spot", "_law_at"]
def spRest : Sp := fun vs H Q _ => ∃ (a b : Addr) (t : List Str) (L : List Spt) (i : Nat), vs = [.ref a, .ref b] ∧ H a = some (.lst (rf L)) ∧ Fit H L ∧ H b = some (.tup (t.map V.str)) ∧ Okt t ∧ idx (tD t) L = some i ∧ L.length ≤ 60 ∧ ∀ r H', Same H H' → H r = none → H' r = some (.lst (rf (cut L i))) → Q (.ref r) H'
theorem ok_rest {f : Addr} {fd : FuncData} (F : Fun K "_law_rest" "_law_rest" sRest f fd) (T : Txt mg) : FnOk P w K mg base (L2.CX P w) 1 f fd ["_law_some", "_law_spot"] spRest := by
  have sc : FnScope NR ["_law_some", "_law_spot"] (defScope sRest) := ⟨rfl, rfl, rfl, by decide +kernel, rfl, by decide +kernel, by decide +kernel⟩
  refine F.okX sc (fun vs H Q E h => ?_) (fun cdv A outer s H vs Q E hr h => ?_)
  · obtain ⟨a, b, t, L, i, rfl, _⟩ := h
    rfl
  · obtain ⟨a, b, t, L, i, rfl, ha, fit, hb, ot, hi, few, fin⟩ := h
    have hN := sc.nd
    refine ⟨_, pss_cons (ps_set (i := 2) hN rfl (Or.inl rfl) (pe_bm PySem.F.plainAttrs_list PySem.F.slot_list_index PySem.F.type_list_index (mt_indexD (units65 hr)) (pv 0) (pa_cons (pv 1) pa_nil)))
      (pss_one (ps_ret (pe_op op_cat (pe_slice sl_list (pv 0) po_none (po_some (pv 2))) (pe_slice sl_list (pv 0) (po_some (pe_op op_add (pv 2) pe_int)) po_none)))), ?_⟩
    obtain ⟨p, h2, e, h3⟩ := idx_some hi
    have lt : i < L.length := (List.getElem?_eq_some_iff.mp h2).1
    refine ⟨_, rfl, .inl ⟨rfl, _, SqL.of ha⟩, _, rfl, a, _, tD t, _, i, tD p.2, rfl, rfl, dp_lst ha fit.tp, dp_tup hb, lD_shp fit.ok, tD_shp ot, by rw [List.getElem?_map, h2] <;> rfl, by rw [e, eqv_tD, decide_eq_true rfl], fun j' z' lj hz => ?_, ?_⟩
    · rw [List.getElem?_map] at hz
      cases eq : L[j']? with
      | none => rw [eq] at hz; cases hz
      | some q =>
        rw [eq] at hz
        cases hz
        exact h3 j' lj q eq
    have jr : i ≤ (rf L).length := by rw [rf_len]; omega
    have jr1 : i + 1 ≤ (rf L).length := by rw [rf_len]; omega
    refine ⟨_, rfl, _, rfl, _, rfl, a, _, rfl, SqL.of ha, fun c1 nc1 => ?_⟩
    rw [cut_to jr]
    have s6 := same_upd (o := .lst ((rf L).take i)) nc1
    have hc1 : (upd H c1 (.lst ((rf L).take i))) c1 = some (.lst ((rf L).take i)) := upd_same
    generalize upd H c1 (.lst ((rf L).take i)) = H6 at s6 hc1 ⊢
    refine ⟨_, rfl, _, rfl, _, _, rfl, rfl, _, rfl, a, _, rfl, SqL.of (s6 _ _ ha), fun c2 nc2 => ?_⟩
    rw [show ((i : Int) + 1) = ((i + 1 : Nat) : Int) from rfl, cut_from jr1]
    have s7 := same_upd (o := .lst ((rf L).drop (i + 1))) nc2
    have hc2 : (upd H6 c2 (.lst ((rf L).drop (i + 1)))) c2 = some (.lst ((rf L).drop (i + 1))) := upd_same
    generalize upd H6 c2 (.lst ((rf L).drop (i + 1))) = H7 at s7 hc2 ⊢
    refine ⟨c1, c2, _, _, rfl, rfl, s7 _ _ hc1, hc2, ?_, fun c3 nc3 => ?_⟩
    · rw [List.length_take, List.length_drop, rf_len]
      exact Nat.le_trans (m := 200) (by omega) (by decide)
    have s8 := same_upd (o := .lst ((rf L).take i ++ (rf L).drop (i + 1))) nc3
    have hc3 : (upd H7 c3 (.lst ((rf L).take i ++ (rf L).drop (i + 1)))) c3 = some (.lst (rf (cut L i))) := by
      rw [upd_same, show rf (L.take i ++ L.drop (i + 1)) = (L.take i ++ L.drop (i + 1)).map (fun p => V.ref p.1) from rfl, List.map_append, List.map_take, List.map_drop]
    exact fin c3 _ (s6.trans (s7.trans s8)) (Same.none (s6.trans s7) nc3) hc3
abbrev NF : List Str := ["_law_some", "_law_spot", "_law_one", "_law_name"]
abbrev scFree : Scope := { kind := .function, names := [(".0", .local), ("_law_one", .local), ("_law_spot", .cell)], isGenerator := false, isCoroutine := false, more := [] }
def spFree : Sp := fun vs H Q _ => ∃ (a b : Addr) (t : List Str) (L : List Spt), vs = [.ref a, .ref b] ∧ H a = some (.lst (rf L)) ∧ Fit H L ∧ H b = some (.tup (t.map V.str)) ∧ L.length ≤ 60 ∧ ∀ r H', Same H H' → H r = none → H' r = some (.lst (rf (L.filter fun q => !meet t q.2))) → Q (.ref r) H'
/-- [n for n in one if n in the texts of b], then == [] -/
theorem isEmp {ns t : List Str} : ((ns.filter fun n => decide (n ∈ t)).map V.str).isEmpty = !meet t ns := by
  rw [Bool.eq_iff_iff, List.isEmpty_iff, List.map_eq_nil_iff, List.filter_eq_nil_iff, Bool.not_eq_true', ← Bool.not_eq_true, meet_iff]
  exact ⟨fun h ⟨n, h1, h2⟩ => h n h2 (decide_eq_true h1), fun h n h1 h2 => h ⟨n, of_decide_eq_true h2, h1⟩⟩
theorem ok_free {f : Addr} {fd : FuncData} (F : Fun K "_law_free" "_law_free" sFree f fd) (T : Txt mg) : FnOk P w K mg base (L2.CX P w) 1 f fd ["_law_some", "_law_spot"] spFree := by
  have sc : FnScope NF ["_law_some", "_law_spot"] (defScope sFree) := ⟨rfl, rfl, rfl, by decide +kernel, rfl, by decide +kernel, by decide +kernel⟩
  refine F.okX sc (fun vs H Q E h => ?_) (fun cdv A outer s H vs Q E hr h => ?_)
  · obtain ⟨a, b, t, L, rfl, _⟩ := h
    rfl
  · obtain ⟨a, b, t, L, rfl, ha, fit, hb, few, fin⟩ := h
    have hN := sc.nd
    refine ⟨_, pss_one (ps_ret (pe_lc (own := [("_law_one", 2)]) (g := gName 2) (tt := tTest (tOp rEqEmp (tLc (iTup K (tVar 2)) (gName 3) (tTest (tOp (rIn K false) (tVar 3) (tVar 1))) (tVar 3) [3]) (tLst tNil))) rfl hN (pi_list (pv 0)) (blkOk_by (N := NF) (sc := defScope sFree) (by decide +kernel)) (fun _ _ _ _ _ => pg_name (i := 2) hN rfl (Or.inl rfl))
      (fun _ _ _ _ _ => pts_one (pt_cmpR (op_eqEmp hr.units0) (pe_lc (own := [("_law_name", 3)]) (g := gName 3) rfl hN (pi_tup (pv 2)) (blkOk_by (N := NF) (sc := scFree) (by decide +kernel)) (fun _ _ _ _ _ => pg_name (i := 3) hN rfl (Or.inl rfl))
        (fun _ _ _ _ _ => pts_one (pt_cmpR (op := .In) (show OpR _ (compareOp .In) (rIn K false) from op_in_seq) (pv 3) (pv 1) (by rfl))) (fun _ _ _ _ _ => pv 3)) (pe_lst pa_nil) (nomark _))) (fun _ _ _ _ _ => pv 2))), ?_⟩
    refine ⟨_, rfl, a, rfl, ⟨_, SqL.of ha⟩, fun D nD => flt (K := K) (f := fun q => !meet t q.2) (L := L) (by omega) ha nD (fun _ => rfl) (fun _ => rfl) (fun q hq G s1 R hR => ?_) (fun G s1 hD => fin D G s1 nD hD)⟩
    refine ⟨_, rfl, q.1, rfl, ⟨_, SqT.of (s1 _ _ (fit.tp q hq))⟩, fun D2 nD2 => fltS (K := K) (f := fun n => decide (n ∈ t)) (ns := q.2) (Nat.le_trans (fit.sm q hq) (by decide)) (s1 _ _ (fit.tp q hq)) nD2 (fun _ => rfl) (fun _ => rfl) (fun n hn G2 s2 R2 hR2 => ?_) (fun G2 s2 hD2 => ?_)⟩
    · refine ⟨_, rfl, _, rfl, b, _, rfl, .inr (SqT.of ((s1.trans s2) _ _ hb)), rfl, flat_strs t, _, rfl, ?_⟩
      show R2 (if false = true then !inV (V.str n) (t.map V.str) else inV (V.str n) (t.map V.str)) G2
      rw [if_neg Bool.false_ne_true, inV_str]
      exact hR2
    · refine ⟨by show 0 ≤ sizeLine; decide, fun r nr => ⟨D2, r, _, rfl, rfl, same_upd nr _ _ hD2, upd_same, _, rfl, ?_⟩⟩
      rw [isEmp]
      exact hR _ (s2.trans (same_upd nr))
end
end R8
end

-- B8s
section
set_option Elab.async false
set_option linter.all false
set_option maxRecDepth 100000
namespace R8
open PySem L2 OwnOps OwnNe G1 EqDict MinKey SetSort DictList StX TryAs DX
abbrev sSo : Stmt := top 29
abbrev NO : List Str := ["_law_some", "_law_many", "_law_paper_here", "_law_one", "_law_name", "_law_rest_here"]
abbrev scSo : Scope := { kind := .function, names := [(".0", .local), ("_law_one", .local), ("_law_paper_here", .cell)], isGenerator := false, isCoroutine := false, more := [] }
theorem short {ds : List PyData} (h : ds.length < 2) (n : Nat) (L : List Spt) (m : Int) : holdsD n (.tuple ds) L m = false :=
  holds_no (fun _ _ e => by rw [e] at h; simp at h) fun _ _ _ _ e => by rw [e] at h; simp at h
theorem all_emp {L : List Spt} {f : Spt → Bool} : (rf (L.filter fun p => !f p)).isEmpty = L.all f := by
  rw [Bool.eq_iff_iff, List.isEmpty_iff, rf, List.map_eq_nil_iff, List.filter_eq_nil_iff, List.all_eq_true]
  exact ⟨fun h p hp => by have := h p hp; simpa using this, fun h p hp => by have := h p hp; simpa using this⟩
section
variable {P : Program} {w : World} {K : PySem.W.Frag} {mg : Str → Option Value} {base : Heap}
set_option maxHeartbeats 4000000 in
theorem so_step {f : Addr} {fd : FuncData} (F : Fun K "_law_so" "_law_so" sSo f fd) (T : Txt mg) (GR : Glb P w K mg base "_law_rest" 1 ["_law_some", "_law_spot"] spRest) (GF : Glb P w K mg base "_law_free" 1 ["_law_some", "_law_spot"] spFree) {n : Nat} (mF : mg "_law_so" = some (.ref f)) (kF : PySem.W.keepIn K (.ref f) = true)
    (bF : L2.Binds K fd ["_law_some", "_law_many", "_law_paper_here"] []) (IH : FnOk P w K mg base (L2.CX P w) (n + 1) f fd ["_law_some", "_law_many", "_law_paper_here"] (spHolds K n)) : FnOk P w K mg base (L2.CX P w) (n + 2) f fd ["_law_some", "_law_many", "_law_paper_here"] (spHolds K (n + 1)) := by
  obtain ⟨fR, fdR, mR, kR, GR, bR⟩ := GR.ex
  obtain ⟨fE, fdE, mE, kE, GE, bE⟩ := GF.ex
  have sc : FnScope NO ["_law_some", "_law_many", "_law_paper_here"] (defScope sSo) := ⟨rfl, rfl, rfl, by decide +kernel, rfl, by decide +kernel, by decide +kernel⟩
  refine F.okX sc (fun vs H Q E h => ?_) (fun cdv A outer s H vs Q E hr h => ?_)
  · obtain ⟨a, l, m, v, d, L, rfl, _⟩ := h
    rfl
  · obtain ⟨a, l, m, v, d, L, rfl, ha, fit, few, few60, m1, dv, shd, fin⟩ := h
    have hN := sc.nd
    refine ⟨_, pss_cons (ps_if (PW.pt (pw_or (pt_not (pt_val (pe_callB call_isi (by rfl) T.isi (by decide +kernel) (pa_cons (pv 2) (pa_cons (pe_bltn (v := .ty "tuple") (by rfl) T.tuple (by decide +kernel) rfl) pa_nil))))) (pw_or1 (pt_cmpR op_lt (pe_callB call_len_seq (by rfl) T.len PySem.boot_len (pa_cons (pv 2) pa_nil)) pe_int (nomark _))))) (pss_one (ps_ret pe_bl)) pss_nil)
      (pss_cons (ps_if (PW.pt (pw_and (pt_cmpR (op_eqX hr.units) (pe_ix ix_tup (pv 2) pe_int (fun _ _ => rfl)) pe_str (nomark _)) (pw_and (pt_cmpR op_eq (pe_callB call_len_seq (by rfl) T.len PySem.boot_len (pa_cons (pv 2) pa_nil)) pe_int (nomark _)) (pw_and1 (pt_val (pe_callB call_isi (by rfl) T.isi (by decide +kernel) (pa_cons (pe_ix ix_tup (pv 2) pe_int (fun _ _ => rfl)) (pa_cons (pe_bltn (v := .ty "tuple") (by rfl) T.tuple (by decide +kernel) rfl) pa_nil))))))))
        (pss_cons (ps_if (pt_cmpR op_gt (pe_callB call_len_seq (by rfl) T.len PySem.boot_len (pa_cons (pe_ix ix_tup (pv 2) pe_int (fun _ _ => rfl)) pa_nil)) (pv 1) (nomark _)) (pss_one (ps_ret pe_bl)) pss_nil)
        (pss_one (ps_ret (pe_cmpR (op_eqEmp hr.units0) (pe_lc (own := [("_law_one", 3)]) (g := gName 3) (tt := tTest (tOp rEqEmp (tLc (iTup K (tVar 3)) (gName 4) (tTest (tOp (rInS K) (tVar 4) (tOp (rIxT K) (tVar 2) (tC (.int 1))))) (tVar 4) [4]) (tLst tNil))) rfl hN (pi_list (pv 0)) (blkOk_by (N := NO) (sc := defScope sSo) (by decide +kernel)) (fun _ _ _ _ _ => pg_name (i := 3) hN rfl (Or.inl rfl))
          (fun _ _ _ _ _ => pts_one (pt_cmpR (op_eqEmp hr.units0) (pe_lc (own := [("_law_name", 4)]) (g := gName 4) rfl hN (pi_tup (pv 3)) (blkOk_by (N := NO) (sc := scSo) (by decide +kernel)) (fun _ _ _ _ _ => pg_name (i := 4) hN rfl (Or.inl rfl))
            (fun _ _ _ _ _ => pts_one (pt_cmpR (op := .In) (show OpR _ (compareOp .In) (rInS K) from op_inS (units66 hr)) (pv 4) (pe_ix (show IxR _ (rIxT K) from ix_tup) (pv 2) pe_int (fun _ _ => rfl)) (by rfl))) (fun _ _ _ _ _ => pv 4)) (pe_lst pa_nil) (nomark _))) (fun _ _ _ _ _ => pv 3)) (pe_lst pa_nil) (nomark _))))) pss_nil)
      (pss_cons (ps_if (PW.pt (pw_or (pt_cmpR (op_neX hr.units) (pe_ix ix_tup (pv 2) pe_int (fun _ _ => rfl)) pe_str (nomark _)) (pw_or (pt_cmpR op_ne (pe_callB call_len_seq (by rfl) T.len PySem.boot_len (pa_cons (pv 2) pa_nil)) pe_int (nomark _)) (pw_or1 (pt_cmpR (op := .NotIn) (op_notInX (units65 hr)) (pe_ix ix_tup (pv 2) pe_int (fun _ _ => rfl)) (pv 0) (by rfl)))))) (pss_one (ps_ret pe_bl)) pss_nil)
      (pss_cons (ps_set (i := 5) hN rfl (Or.inl rfl) (pe_call GR (hr.mono (by omega)) (by rfl) mR kR bR .nil passL (pa_cons (pv 0) (pa_cons (pe_ix ix_tup (pv 2) pe_int (fun _ _ => rfl)) pa_nil))))
      (pss_cons (ps_if (pt_not (pt_val (pe_call IH (hr.mono (by omega)) (by rfl) mF kF bF .nil passL (pa_cons (pe_call GE (hr.mono (by omega)) (by rfl) mE kE bE .nil passL (pa_cons (pv 5) (pa_cons (pe_ix ix_tup (pv 2) pe_int (fun _ _ => rfl)) pa_nil))) (pa_cons (pe_op op_sub (pv 1) pe_int) (pa_cons (pe_ix ix_tup (pv 2) pe_int (fun _ _ => rfl)) pa_nil)))))) (pss_one (ps_ret pe_bl)) pss_nil)
      (pss_one (ps_ret (pe_call IH (hr.mono (by omega)) (by rfl) mF kF bF .nil passL (pa_cons (pv 5) (pa_cons (pv 1) (pa_cons (pe_ix ix_tup (pv 2) pe_int (fun _ _ => rfl)) pa_nil)))))))))), ?_⟩
    obtain ⟨t0, ty0, k0⟩ := dx_ty dv
    have ret0 : holdsD (n + 1) d L m = false → Q (.bl false) H := fun e => by
      rw [← e]
      exact fin H (Same.refl H)
    have other : isTup d = false → holdsD (n + 1) d L m = false := fun e => by
      cases d <;> first | (cases e; done) | simp [holdsD]
    by_cases it : isTup d = true
    case neg =>
      have it : isTup d = false := Bool.not_eq_true _ ▸ it
      rw [it] at k0
      exact ⟨_, rfl, _, _, _, _, _, rfl, .ty _, ty0, k0, _, rfl, if_pos' rfl (if_pos' rfl (ret0 (other it)))⟩
    cases dv with
    | @tup v xs ds h1 hds =>
      have ln := hds.len
      refine ⟨_, rfl, _, _, _, _, _, rfl, .ty _, ty0, k0, _, rfl, if_neg' rfl ⟨_, rfl, v, _, rfl, .inr (SqT.of h1), _, _, rfl, rfl, _, rfl, ?_⟩⟩
      by_cases l2 : ds.length < 2
      · exact if_pos' (decide_eq_true (by rw [ln]; omega)) (ret0 (short l2 _ _ _))
      refine if_neg' (decide_eq_false (by rw [ln]; omega)) ?_
      cases hds with
      | nil => exact absurd (by decide) l2
      | @cons x xr d0 dr hx hr0 =>
        have sh0 : Sh 60 d0 := shd.head
        refine ⟨_, rfl, _, _, _, _, rfl, rfl, SqT.of h1, at_of (j := 0) rfl rfl, l, l, d0, S "touch", hx, .str _, sh0.shaped (by decide), by decide +kernel, _, rfl, ?_⟩
        -- what follows where it is no pair that touches
        apply cutN (c := ∀ x y, d0 :: dr = [x, y] → (PyData.eqv x (S "touch") && touchB y L m) = false)
        · intro later
          by_cases c0 : PyData.eqv d0 (S "touch") = true
          · refine if_pos' c0 ⟨_, rfl, v, _, rfl, .inr (SqT.of h1), rfl, _, rfl, ?_⟩
            by_cases c1 : dr.length = 1
            · refine if_pos' (by rw [ln, List.length_cons, c1]; rfl) ?_
              obtain ⟨d1, rfl⟩ : ∃ d1, dr = [d1] := by
                match dr, c1 with
                | [d1], _ => exact ⟨d1, rfl⟩
              cases hr0 with
              | @cons y yr _ _ hy hr1 =>
              cases hr1
              obtain ⟨t1, ty1, k1⟩ := dx_ty hy
              refine ⟨_, rfl, _, _, _, _, rfl, rfl, SqT.of h1, at_of (j := 1) rfl rfl, _, _, _, _, _, rfl, .ty _, ty1, k1, _, rfl, ?_⟩
              by_cases it1 : isTup d1 = true
              case neg =>
                refine if_neg' (Bool.not_eq_true _ ▸ it1) (later fun x y e => ?_)
                cases e
                rw [Bool.and_eq_false_iff]
                right
                cases d1 <;> first | rfl | exact absurd rfl it1
              refine if_pos' it1 ?_
              cases hy with
              | @tup b ys es h2 hes =>
                have lny := hes.len
                refine ⟨_, rfl, _, _, _, _, rfl, rfl, SqT.of h1, at_of (j := 1) rfl rfl, b, _, rfl, .inr (SqT.of h2), _, rfl, _, _, rfl, rfl, _, rfl, ?_⟩
                have tb : holdsD (n + 1) (.tuple [d0, .tuple es]) L m = (decide ((es.length : Int) ≤ m) && L.all fun p => sees es p.2) := by
                  rw [holds_two, c0, Bool.true_and]
                  rfl
                by_cases many : (ys.length : Int) > m
                · refine if_pos' (decide_eq_true many) (ret0 ?_)
                  rw [tb, decide_eq_false (by omega), Bool.false_and]
                · refine if_neg' (decide_eq_false many) ?_
                  rw [decide_eq_true (by omega : (es.length : Int) ≤ m), Bool.true_and] at tb
                  refine ⟨_, rfl, a, rfl, ⟨_, SqL.of ha⟩, fun D nD => flt (K := K) (f := fun p => !sees es p.2) (L := L) (by omega) ha nD (fun _ => rfl) (fun _ => rfl) (fun q hq G s1 R hR => ?_) (fun G s1 hD => ?_)⟩
                  · refine ⟨_, rfl, q.1, rfl, ⟨_, SqT.of (s1 _ _ (fit.tp q hq))⟩, fun D2 nD2 => fltS (K := K) (f := fun n => es.any fun z => PyData.eqv z (S n)) (ns := q.2) (Nat.le_trans (fit.sm q hq) (by decide)) (s1 _ _ (fit.tp q hq)) nD2 (fun _ => rfl) (fun _ => rfl) (fun n hn G2 s2 R2 hR2 => ?_) (fun G2 s2 hD2 => ?_)⟩
                    · exact ⟨_, rfl, _, rfl, _, _, _, _, rfl, rfl, SqT.of ((s1.trans s2) _ _ h1), at_of (j := 1) rfl rfl, l, b, n, ys, es, rfl, rfl, (s1.trans s2) _ _ h2, DxAll.same (s1.trans s2) _ _ hes, shd.snd, fit.ok q hq n hn, _, rfl, hR2⟩
                    · refine ⟨by show 0 ≤ sizeLine; decide, fun r nr => ⟨D2, r, _, rfl, rfl, same_upd nr _ _ hD2, upd_same, _, rfl, ?_⟩⟩
                      have e : ((q.2.filter fun n => es.any fun z => PyData.eqv z (S n)).map V.str).isEmpty = !sees es q.2 := by
                        rw [← sees_law]
                        cases q.2.filter fun n => es.any fun z => PyData.eqv z (S n) <;> rfl
                      rw [e]
                      exact hR _ (s2.trans (same_upd nr))
                  · refine ⟨by show 0 ≤ sizeLine; decide, fun r nr => ⟨D, r, _, rfl, rfl, same_upd nr _ _ hD, upd_same, ?_⟩⟩
                    rw [all_emp, ← tb]
                    exact fin _ (s1.trans (same_upd nr))
              | _ => cases it1
            · refine if_neg' (decide_eq_false fun z => c1 (by have := V.int.inj z; rw [ln, List.length_cons] at this; omega)) ?_
              refine if_neg' rfl ?_
              exact later fun x y e => by cases e; exact absurd rfl c1
          · refine if_neg' (Bool.not_eq_true _ ▸ c0) ?_
            refine if_neg' rfl ?_
            exact later fun x y e => by
              cases e
              rw [(Bool.not_eq_true _ ▸ c0 : PyData.eqv d0 (S "touch") = false), Bool.false_and]
        · intro no2
          refine ⟨_, rfl, _, _, _, _, rfl, rfl, SqT.of h1, at_of (j := 0) rfl rfl, l, l, d0, S "spot", hx, .str _, sh0.shaped (by decide), by decide +kernel, _, rfl, ?_⟩
          by_cases c2 : PyData.eqv d0 (S "spot") = true
          case neg =>
            exact if_pos' (by rw [(Bool.not_eq_true _ ▸ c2 : PyData.eqv d0 (S "spot") = false)]; rfl) (if_pos' rfl (ret0 (holds_no no2 fun x y u v e z => by cases e; exact absurd z c2)))
          refine if_neg' (by rw [c2]; rfl) ⟨_, rfl, v, _, rfl, .inr (SqT.of h1), rfl, _, rfl, ?_⟩
          by_cases c3 : dr.length = 3
          case neg =>
            exact if_pos' (by rw [Bool.not_eq_true']; exact decide_eq_false fun z => c3 (by have := V.int.inj z; rw [ln, List.length_cons] at this; omega)) (if_pos' rfl (ret0 (holds_no no2 fun x y u v e z => by cases e; exact absurd rfl c3)))
          refine if_neg' (by rw [ln, List.length_cons, c3]; rfl) ?_
          obtain ⟨dy, du, dw, rfl⟩ : ∃ dy du dw, dr = [dy, du, dw] := by
            match dr, c3 with
            | [dy, du, dw], _ => exact ⟨dy, du, dw, rfl⟩
          cases hr0 with
          | @cons y _ _ _ hy hr1 =>
          cases hr1 with
          | @cons u _ _ _ hu hr2 =>
          cases hr2 with
          | @cons z _ _ _ hw hr3 =>
          cases hr3
          obtain ⟨shy, shu, shw⟩ := shd.all
          refine ⟨_, rfl, _, _, _, _, rfl, rfl, SqT.of h1, at_of (j := 1) rfl rfl, _, rfl, l, a + 1, dy, L.map fun p : Spt => tD p.2, hy, .lst (Nat.ne_of_lt (Nat.lt_succ_self a)) ha (dx_tups fit.tp), shy.shaped (by decide), lD_shp fit.ok, _, rfl, ?_⟩
          cases hi : idx dy L with
          | none => exact if_pos' (by rw [idx_none hi]; rfl) (ret0 (holds_no no2 fun x y u v e _ => by cases e; exact hi))
          | some i =>
          refine if_neg' (by rw [idx_any hi]; rfl) ?_
          obtain ⟨p, h2, rfl, h3⟩ := idx_some hi
          obtain ⟨yb, rfl, hyb⟩ := dx_tD hy
          have q4 : holdsD (n + 1) (.tuple [d0, tD p.2, du, dw]) L m = (holdsD n du ((cut L i).filter (off p)) (m - 1) && holdsD n dw (cut L i) m) := by
            rw [holds_four, c2, Bool.true_and, hi]
            dsimp only
            rw [h2]
          have mem := List.mem_of_getElem? h2
          have lt : i < L.length := (List.getElem?_eq_some_iff.mp h2).1
          have lc : (cut L i).length < n := by
            rw [List.length_append, List.length_take, List.length_drop]
            omega
          refine ⟨_, rfl, _, rfl, _, _, _, _, rfl, rfl, SqT.of h1, at_of (j := 1) rfl rfl, a, yb, p.2, L, i, rfl, ha, fit, hyb, fit.ok p mem, hi, by omega, fun c3 H8 S8 nc3 hc3 => ?_⟩
          have fitc : Fit H8 (cut L i) := (fit.same S8).sub fun q hq => cut_mem hq
          refine ⟨_, rfl, _, rfl, _, _, _, _, rfl, rfl, SqT.of (S8 _ _ h1), at_of (j := 1) rfl rfl, c3, yb, p.2, cut L i, rfl, hc3, fitc, S8 _ _ hyb, by omega, fun D4 H9 s9 nD4 hD9 => ?_⟩
          have S9 := S8.trans s9
          have fita : Fit H9 ((cut L i).filter (off p)) := (fitc.same s9).sub fun q hq => (List.mem_filter.mp hq).1
          have la : ((cut L i).filter (off p)).length < n := Nat.lt_of_le_of_lt (List.length_filter_le _ _) lc
          refine ⟨_, rfl, _, _, rfl, rfl, _, rfl, _, _, _, _, rfl, rfl, SqT.of (S9 _ _ h1), at_of (j := 2) rfl rfl, D4, l, m - 1, u, du, _, rfl, hD9, fita, la, by omega, by omega, Dx.same S9 _ _ hu, shu, fun Ha sa => ⟨_, rfl, ?_⟩⟩
          have Sa := S9.trans sa
          cases r1 : holdsD n du ((cut L i).filter (off p)) (m - 1) with
          | false =>
            rw [r1, Bool.false_and] at q4
            refine if_pos' rfl ?_
            rw [← q4]
            exact fin Ha Sa
          | true =>
            rw [r1, Bool.true_and] at q4
            refine if_neg' rfl ⟨_, rfl, _, rfl, _, rfl, _, _, _, _, rfl, rfl, SqT.of (Sa _ _ h1), at_of (j := 3) rfl rfl, c3, l, m, z, dw, _, rfl, sa _ _ (s9 _ _ hc3), fitc.same (s9.trans sa), lc, by omega, m1, Dx.same Sa _ _ hw, shw, fun Hb sb => ?_⟩
            rw [← q4]
            exact fin Hb (Sa.trans sb)
    | _ => cases it
theorem ok_so {f : Addr} {fd : FuncData} (F : Fun K "_law_so" "_law_so" sSo f fd) (T : Txt mg) (GR : Glb P w K mg base "_law_rest" 1 ["_law_some", "_law_spot"] spRest) (GF : Glb P w K mg base "_law_free" 1 ["_law_some", "_law_spot"] spFree) (mF : mg "_law_so" = some (.ref f)) (kF : PySem.W.keepIn K (.ref f) = true) (bF : L2.Binds K fd ["_law_some", "_law_many", "_law_paper_here"] []) :
    ∀ n, FnOk P w K mg base (L2.CX P w) (n + 1) f fd ["_law_some", "_law_many", "_law_paper_here"] (spHolds K n)
  | 0 => by
    have sc : FnScope NO ["_law_some", "_law_many", "_law_paper_here"] (defScope sSo) := ⟨rfl, rfl, rfl, by decide +kernel, rfl, by decide +kernel, by decide +kernel⟩
    refine F.okX sc (fun vs H Q E h => ?_) (fun cdv A outer s H vs Q E hr h => ?_)
    · obtain ⟨a, l, m, v, d, L, rfl, _⟩ := h
      rfl
    · obtain ⟨a, l, m, v, d, L, rfl, ha, fit, few, _⟩ := h
      exact absurd few (Nat.not_lt_zero _)
  | n + 1 => so_step F T GR GF mF kF bF (ok_so F T GR GF mF kF bF n)
end
end R8
end

-- B8t
section
set_option Elab.async false
set_option linter.all false
set_option maxRecDepth 100000
namespace R8
open PySem L2 OwnOps OwnNe G1 EqDict MinKey SetSort DictList StX TryAs DX
abbrev sPap : Stmt := top 30
abbrev NQ : List Str := ["_law_draws_here", "_law_some", "_law_many", "_law_names", "_law_one", "_law_name", "_law_spot", "_law_rest_here"]
theorem cutG {goal : Prop} {C Y : Hp → Prop} (body : (∀ G, C G → Y G) → goal) (next : ∀ G, C G → Y G) : goal := body next
theorem Fit.move {H H' : Hp} {L : List Spt} {l : Addr} {zs : List V} (h : Fit H L) (s : SameX l H H') (hl : H l = some (.lst zs)) : Fit H' L :=
  ⟨fun p hp => s _ _ (fun e => by
    have q : H p.1 = some (.tup (p.2.map V.str)) := h.tp p hp
    rw [e, hl] at q
    cases q) (h.tp p hp), h.fu, h.ok, h.sm⟩
theorem idx_of {L : List Spt} {p : Spt} (hp : p ∈ L) : ∃ i, idx (tD p.2) L = some i := by
  cases h : idx (tD p.2) L with
  | some i => exact ⟨i, rfl⟩
  | none =>
    have := idx_none h
    rw [List.any_eq_false] at this
    exact absurd (by rw [eqv_tD]; exact decide_eq_true rfl) (this (tD p.2) (List.mem_map.mpr ⟨p, hp, rfl⟩))
theorem tD_inj {s t : List Str} (h : tD s = tD t) : s = t := by
  have : PyData.eqv (tD s) (tD t) = true := by rw [h, eqv_tD]; exact decide_eq_true rfl
  rw [eqv_tD] at this
  exact of_decide_eq_true this
section
variable {P : Program} {w : World} {K : PySem.W.Frag} {mg : Str → Option Value} {base : Heap}
def spPaper (K : PySem.W.Frag) (n : Nat) : Sp := fun vs H Q _ => ∃ (l a : Addr) (m : Int) (L : List Spt), vs = [.ref l, .ref a, .int m] ∧ Dr H l ∧ H a = some (.lst (rf L)) ∧ Fit H L ∧ a ≠ l ∧ L.length < n ∧ n ≤ 60 ∧ ∀ v d H', SameX l H H' → Dr H' l → Dx K l H' v d → WP n d → Q v H'
set_option maxHeartbeats 4000000 in
theorem lpap_step {f : Addr} {fd : FuncData} (F : Fun K "_law_paper" "_law_paper" sPap f fd) (T : Txt mg) (GD : Glb P w K mg base "_law_draw" 1 ["_law_draws_here", "_law_upto"] spDraw) (GR : Glb P w K mg base "_law_rest" 1 ["_law_some", "_law_spot"] spRest) (GF : Glb P w K mg base "_law_free" 1 ["_law_some", "_law_spot"] spFree) {n : Nat} (mF : mg "_law_paper" = some (.ref f)) (kF : PySem.W.keepIn K (.ref f) = true)
    (bF : L2.Binds K fd ["_law_draws_here", "_law_some", "_law_many"] []) (IH : FnOk P w K mg base (L2.CX P w) (n + 1) f fd ["_law_draws_here", "_law_some", "_law_many"] (spPaper K n)) : FnOk P w K mg base (L2.CX P w) (n + 2) f fd ["_law_draws_here", "_law_some", "_law_many"] (spPaper K (n + 1)) := by
  obtain ⟨fD, fdD, mD, kD, GD, bD⟩ := GD.ex
  obtain ⟨fR, fdR, mR, kR, GR, bR⟩ := GR.ex
  obtain ⟨fE, fdE, mE, kE, GE, bE⟩ := GF.ex
  have sc : FnScope NQ ["_law_draws_here", "_law_some", "_law_many"] (defScope sPap) := ⟨rfl, rfl, rfl, by decide +kernel, rfl, by decide +kernel, by decide +kernel⟩
  refine F.okX sc (fun vs H Q E h => ?_) (fun cdv A outer s H vs Q E hr h => ?_)
  · obtain ⟨l, a, m, L, rfl, _⟩ := h
    rfl
  · obtain ⟨l, a, m, L, rfl, ⟨x0, y0, hl⟩, ha, fit, al, few, few60, fin⟩ := h
    have hN := sc.nd
    refine ⟨_, pss_cons (ps_set (i := 3) hN rfl (Or.inr rfl) (pe_lst pa_nil))
      (pss_cons (ps_for passOwn rfl (pi_list (pv 1)) (pg_name (i := 4) hN rfl (Or.inl rfl))
        (pss_one (ps_if (pt_cmpR (op_eqEmp hr.units0) (pe_lc (own := [("_law_name", 5)]) (g := gName 5) (tt := tTest (tOp (rIn K false) (tVar 5) (tVar 3))) rfl hN (pi_tup (pv 4)) (blkOk_by (N := NQ) (sc := defScope sPap) (by decide +kernel)) (fun _ _ _ _ _ => pg_name (i := 5) hN rfl (Or.inl rfl))
            (fun _ _ _ _ _ => pts_one (pt_cmpR (op := .In) (show OpR _ (compareOp .In) (rIn K false) from op_in_seq) (pv 5) (pv 3) (by rfl))) (fun _ _ _ _ _ => pv 5)) (pe_lst pa_nil) (nomark _))
          (pss_one (ps_expr (pe_bm PySem.F.plainAttrs_list PySem.F.slot_list_append PySem.F.type_list_append mt_append (pv 3) (pa_cons (pe_ix ix_tup (pv 4) (pe_call GD (hr.mono (by omega)) (by rfl) mD kD bD .nil passL (pa_cons (pv 0) (pa_cons (pe_callB call_len_seq (by rfl) T.len PySem.boot_len (pa_cons (pv 4) pa_nil)) pa_nil))) (fun _ _ => rfl)) pa_nil)))) pss_nil)))
      (pss_cons (ps_if (PW.pt (pw_or (pt_cmpR (op_eqEmp hr.units0) (pv 1) (pe_lst pa_nil) (nomark _)) (pw_or1 (PW.pt (pw_and (pt_cmpR op_le (pe_callB call_len_seq (by rfl) T.len PySem.boot_len (pa_cons (pv 3) pa_nil)) (pv 2) (nomark _)) (pw_and1 (pt_cmpR op_gt (pe_call GD (hr.mono (by omega)) (by rfl) mD kD bD .nil passL (pa_cons (pv 0) (pa_cons pe_int pa_nil))) pe_int (nomark _))))))))
        (pss_one (ps_ret (pe_tup (pa_cons pe_str (pa_cons (pe_callTy call_tuple_of (by rfl) T.tuple (by decide +kernel) (pa_cons (pv 3) pa_nil)) pa_nil))))) pss_nil)
      (pss_cons (ps_set (i := 6) hN rfl (Or.inl rfl) (pe_ix ix_list (pv 1) (pe_call GD (hr.mono (by omega)) (by rfl) mD kD bD .nil passL (pa_cons (pv 0) (pa_cons (pe_callB call_len_seq (by rfl) T.len PySem.boot_len (pa_cons (pv 1) pa_nil)) pa_nil))) (fun _ _ => rfl)))
      (pss_cons (ps_set (i := 7) hN rfl (Or.inl rfl) (pe_call GR (hr.mono (by omega)) (by rfl) mR kR bR .nil passL (pa_cons (pv 1) (pa_cons (pv 6) pa_nil))))
      (pss_one (ps_ret (pe_tup (pa_cons pe_str (pa_cons (pv 6) (pa_cons (pe_call IH (hr.mono (by omega)) (by rfl) mF kF bF .nil passL (pa_cons (pv 0) (pa_cons (pe_call GE (hr.mono (by omega)) (by rfl) mE kE bE .nil passL (pa_cons (pv 7) (pa_cons (pv 6) pa_nil))) (pa_cons (pe_op op_sub (pv 2) pe_int) pa_nil))))
        (pa_cons (pe_call IH (hr.mono (by omega)) (by rfl) mF kF bF .nil passL (pa_cons (pv 0) (pa_cons (pv 7) (pa_cons (pv 2) pa_nil)))) pa_nil))))))))))), ?_⟩
    have tpX : ∀ G, SameX l H G → ∀ p ∈ L, G p.1 = some (.tup (p.2.map V.str)) := fun G s p hp => (fit.move s hl).tp p hp
    refine ⟨by show 0 ≤ sizeLine; decide, fun NA nN => ?_⟩
    have Nl : NA ≠ l := fun e => by rw [e, hl] at nN; cases nN
    have s0 := same_upd (o := .lst []) nN
    refine ⟨_, rfl, a, rfl, ⟨_, SqL.of (s0 _ _ ha)⟩, for_it (walk_list (K := K) (a := a) (xs := rf L)) (fun i σ G => (∃ v4, σ = [some (.ref l), some (.ref a), some (.int m), some (.ref NA), v4, none, none, none]) ∧ SameX l H G ∧ Dr G l ∧ ∃ ns : List Str, G NA = some (.lst (ns.map V.str)) ∧ Okt ns ∧ ns.length ≤ i)
      ⟨⟨_, rfl⟩, SameX.of s0, ⟨x0, y0, s0 _ _ hl⟩, [], upd_same, (fun _ h => nomatch h), Nat.le_refl _⟩ (fun i σ G _ ⟨_, sx, _⟩ => SqL.of (sx _ _ al ha)) (fun i y σ G G' hi ⟨⟨v4, e⟩, sx, ⟨gx, gy, gl⟩, ns, hNA, okn, lens⟩ ⟨e1, hy⟩ => ?_) (fun σ G ⟨⟨v4, e⟩, sx, ⟨gx, gy, gl⟩, ns, hNA, okn, lens⟩ => ?_)⟩
    · subst e e1
      obtain ⟨p, hp, rfl⟩ := rf_at hy
      have pL := List.mem_of_getElem? hp
      have iL : i < L.length := (List.getElem?_eq_some_iff.mp hp).1
      have tp := tpX G' sx p pL
      refine ⟨_, rfl, p.1, rfl, ⟨_, SqT.of tp⟩, fun D nD => fltS (K := K) (f := fun n => decide (n ∈ ns)) (ns := p.2) (Nat.le_trans (fit.sm p pL) (by decide)) tp nD (fun _ => rfl) (fun _ => rfl) (fun n hn G2 s2 R2 hR2 => ?_) (fun G2 s2 hD2 => ?_)⟩
      · refine ⟨_, rfl, _, rfl, NA, _, rfl, .inl (SqL.of (s2 _ _ hNA)), rfl, flat_strs ns, _, rfl, ?_⟩
        show R2 (if false = true then !inV (V.str n) (ns.map V.str) else inV (V.str n) (ns.map V.str)) G2
        rw [if_neg Bool.false_ne_true, inV_str]
        exact hR2
      · refine ⟨by show 0 ≤ sizeLine; decide, fun r nr => ⟨D, r, _, rfl, rfl, same_upd nr _ _ hD2, upd_same, _, rfl, ?_⟩⟩
        rw [isEmp]
        have s3 := s2.trans (same_upd (o := .lst []) nr)
        generalize upd G2 r (.lst []) = G3 at s3 ⊢
        have sx3 := sx.trans (SameX.of s3)
        have hNA3 := s3 _ _ hNA
        have gl3 := s3 _ _ gl
        cases meet ns p.2 with
        | true => exact if_neg' rfl ⟨⟨_, rfl⟩, sx3, ⟨gx, gy, gl3⟩, ns, hNA3, okn, Nat.le_succ_of_le lens⟩
        | false =>
          have ne : 0 < p.2.length := List.length_pos_iff.mpr (fit.fu p pL)
          have sm := fit.sm p pL
          refine if_pos' rfl ⟨_, rfl, .inl ⟨rfl, _, SqL.of hNA3⟩, _, rfl, _, rfl, _, rfl, p.1, _, rfl, .inr (SqT.of (s3 _ _ tp)), l, _, gx, gy, rfl, by rw [List.length_map]; omega, by rw [List.length_map]; omega, gl3, fun d x' y' d0 d1 => ?_⟩
          obtain ⟨c, hc, mc⟩ := atI_get (xs := p.2.map V.str) d0 d1
          obtain ⟨n, hn, rfl⟩ := List.mem_map.mp mc
          have sx4 : SameX l H (upd G3 l (.lst [.int x', .int y'])) := sx3.trans SameX.upd
          have hNA4 : (upd G3 l (.lst [.int x', .int y'])) NA = some (.lst (ns.map V.str)) := by rw [upd_ne Nl]; exact hNA3
          have gl4 : (upd G3 l (.lst [.int x', .int y'])) l = some (.lst [.int x', .int y']) := upd_same
          generalize upd G3 l (.lst [.int x', .int y']) = G4 at sx4 hNA4 gl4 ⊢
          refine ⟨p.1, _, _, _, rfl, rfl, SqT.of (tpX G4 sx4 p pL), hc, NA, _, _, rfl, rfl, hNA4, ?_, ⟨_, rfl⟩, sx_put sx4 nN, ⟨x', y', by rw [upd_ne Nl.symm]; exact gl4⟩, ns ++ [n], ?_, fun z hz => (List.mem_append.mp hz).elim (okn z) fun h => by rw [List.mem_singleton.mp h]; exact fit.ok p pL n hn, by rw [List.length_append]; exact Nat.succ_le_succ lens⟩
          · rw [List.length_map]
            exact Nat.lt_of_le_of_lt (m := 100) (by omega) (by decide)
          · rw [upd_same, List.map_append]
            rfl
    · subst e
      rw [rf_len] at lens
      have touch : ∀ G2, SameX l H G2 → Dr G2 l → G2 NA = some (.lst (ns.map V.str)) → ∀ t, G2 t = none → 2 ≤ sizeLine ∧ ∀ u, (upd G2 t (.tup (ns.map V.str))) u = none → Q (.ref u) (upd (upd G2 t (.tup (ns.map V.str))) u (.tup [.str "touch", .ref t])) := fun G2 sx2 ⟨x2, y2, gl2⟩ h2 t nt => ⟨by decide, fun u nu => by
        have st := same_upd (o := .tup (ns.map V.str)) nt
        have su := same_upd (o := .tup [.str "touch", .ref t]) nu
        exact fin _ _ _ (sx2.trans (SameX.of (st.trans su))) ⟨x2, y2, su _ _ (st _ _ gl2)⟩ (.tup upd_same (.cons (.str _) (.cons (dx_tup (su _ _ upd_same)) .nil))) (.touch okn)⟩
      refine ⟨_, rfl, by show 0 ≤ sizeLine; decide, fun r nr => ⟨a, r, _, rfl, rfl, same_upd nr _ _ (sx _ _ al ha), upd_same, _, rfl, ?_⟩⟩
      have s1 := same_upd (o := .lst []) nr
      have sx1 := sx.trans (SameX.of s1)
      have gl1 := s1 _ _ gl
      have hN1 := s1 _ _ hNA
      generalize upd G r (.lst []) = G1 at sx1 gl1 hN1 ⊢
      by_cases hL : L = []
      · exact if_pos' (by rw [hL]; rfl) (if_pos' rfl ⟨_, rfl, NA, _, rfl, .inl ⟨SqL.of hN1, touch G1 sx1 ⟨_, _, gl1⟩ hN1⟩⟩)
      refine if_neg' (by cases L with | nil => exact absurd rfl hL | cons _ _ => rfl) ?_
      apply cutG (C := fun G => SameX l H G ∧ Dr G l)
      · intro rest
        refine ⟨_, rfl, NA, _, rfl, .inl (SqL.of hN1), _, rfl, _, _, rfl, rfl, _, rfl, ?_⟩
        by_cases c : (((ns.map V.str).length : Nat) : Int) ≤ m
        · refine if_pos' (decide_eq_true c) ⟨_, rfl, l, 3, gx, gy, rfl, by decide, by decide, gl1, fun d x' y' d0 d1 => ⟨_, _, rfl, rfl, _, rfl, ?_⟩⟩
          have sx4 : SameX l H (upd G1 l (.lst [.int x', .int y'])) := sx1.trans SameX.upd
          have hNA4 : (upd G1 l (.lst [.int x', .int y'])) NA = some (.lst (ns.map V.str)) := by rw [upd_ne Nl]; exact hN1
          have gl4 : Dr (upd G1 l (.lst [.int x', .int y'])) l := ⟨x', y', upd_same⟩
          generalize upd G1 l (.lst [.int x', .int y']) = G4 at sx4 hNA4 gl4 ⊢
          by_cases cd : d > 0
          · exact if_pos' (decide_eq_true cd) ⟨_, rfl, NA, _, rfl, .inl ⟨SqL.of hNA4, touch G4 sx4 gl4 hNA4⟩⟩
          · refine if_neg' (decide_eq_false cd) ?_
            exact rest G4 ⟨sx4, gl4⟩
        · refine if_neg' (decide_eq_false c) ?_
          refine if_neg' rfl ?_
          exact rest G1 ⟨sx1, ⟨_, _, gl1⟩⟩
      · intro G2 ⟨sx2, ⟨x2, y2, gl2⟩⟩
        have hpos : 0 < L.length := List.length_pos_iff.mpr hL
        have ha2 := sx2 _ _ al ha
        refine ⟨_, rfl, _, rfl, _, rfl, a, _, rfl, .inl (SqL.of ha2), l, _, x2, y2, rfl, by rw [rf_len]; omega, by rw [rf_len]; omega, gl2, fun d x' y' d0 d1 => ?_⟩
        obtain ⟨c, hc, mc⟩ := atI_get (xs := rf L) d0 d1
        obtain ⟨p, pL, rfl⟩ := List.mem_map.mp mc
        have sx3 : SameX l H (upd G2 l (.lst [.int x', .int y'])) := sx2.trans SameX.upd
        have gl3 : (upd G2 l (.lst [.int x', .int y'])) l = some (.lst [.int x', .int y']) := upd_same
        generalize upd G2 l (.lst [.int x', .int y']) = G3 at sx3 gl3 ⊢
        have ha3 := sx3 _ _ al ha
        have fit3 := fit.move sx3 hl
        obtain ⟨i, hi⟩ := idx_of pL
        obtain ⟨q, hq, eq, _⟩ := idx_some hi
        have lt : i < L.length := (List.getElem?_eq_some_iff.mp hq).1
        have lc : (cut L i).length < n := by
          rw [List.length_append, List.length_take, List.length_drop]
          omega
        refine ⟨a, _, _, _, rfl, rfl, SqL.of ha3, hc, _, rfl, _, rfl, a, p.1, p.2, L, i, rfl, ha3, fit3, fit3.tp p pL, fit.ok p pL, hi, by omega, fun R H8 S8 nR hR => ?_⟩
        have fitc : Fit H8 (cut L i) := (fit3.same S8).sub fun q hq => cut_mem hq
        have Rl : R ≠ l := fun e => by rw [e, gl3] at nR; cases nR
        refine ⟨_, rfl, _, rfl, _, rfl, _, rfl, R, p.1, p.2, cut L i, rfl, hR, fitc, S8 _ _ (fit3.tp p pL), by omega, fun D H9 s9 nD hD => ?_⟩
        have S9 := S8.trans s9
        have gl9 := S9 _ _ gl3
        have Dl : D ≠ l := fun e => by rw [e, S8 _ _ gl3] at nD; cases nD
        have fita : Fit H9 ((cut L i).filter fun q => !meet p.2 q.2) := (fitc.same s9).sub fun q hq => (List.mem_filter.mp hq).1
        have la : ((cut L i).filter fun q => !meet p.2 q.2).length < n := Nat.lt_of_le_of_lt (List.length_filter_le _ _) lc
        refine ⟨_, rfl, _, _, rfl, rfl, l, D, m - 1, _, rfl, ⟨_, _, gl9⟩, hD, fita, Dl, la, by omega, fun v1 d1 Ha sa ⟨xa, ya, gla⟩ x1 w1 => ?_⟩
        refine ⟨_, rfl, _, rfl, _, rfl, l, R, m, cut L i, rfl, ⟨_, _, gla⟩, sa _ _ Rl (s9 _ _ hR), (fitc.same s9).move sa gl9, Rl, lc, by omega, fun v2 d2 Hb sb ⟨xb, yb, glb⟩ x2 w2 => ?_⟩
        refine ⟨by show 4 ≤ sizeLine; decide, fun t nt => ?_⟩
        have st := same_upd (o := .tup [.str "spot", .ref p.1, v1, v2]) nt
        have sxb : SameX l H Hb := (sx3.trans (SameX.of S9)).trans (sa.trans sb)
        exact fin _ _ _ (sxb.trans (SameX.of st)) ⟨xb, yb, st _ _ glb⟩ (.tup upd_same (.cons (.str _) (.cons (dx_tup (st _ _ (tpX Hb sxb p pL))) (.cons (Dx.same st _ _ (Dx.move sb gla _ _ x1)) (.cons (Dx.same st _ _ x2) .nil))))) (.spot (fit.ok p pL) w1 w2)
theorem ok_lpap {f : Addr} {fd : FuncData} (F : Fun K "_law_paper" "_law_paper" sPap f fd) (T : Txt mg) (GD : Glb P w K mg base "_law_draw" 1 ["_law_draws_here", "_law_upto"] spDraw) (GR : Glb P w K mg base "_law_rest" 1 ["_law_some", "_law_spot"] spRest) (GF : Glb P w K mg base "_law_free" 1 ["_law_some", "_law_spot"] spFree) (mF : mg "_law_paper" = some (.ref f)) (kF : PySem.W.keepIn K (.ref f) = true)
    (bF : L2.Binds K fd ["_law_draws_here", "_law_some", "_law_many"] []) : ∀ n, FnOk P w K mg base (L2.CX P w) (n + 1) f fd ["_law_draws_here", "_law_some", "_law_many"] (spPaper K n)
  | 0 => by
    have sc : FnScope NQ ["_law_draws_here", "_law_some", "_law_many"] (defScope sPap) := ⟨rfl, rfl, rfl, by decide +kernel, rfl, by decide +kernel, by decide +kernel⟩
    refine F.okX sc (fun vs H Q E h => ?_) (fun cdv A outer s H vs Q E hr h => ?_)
    · obtain ⟨l, a, m, L, rfl, _⟩ := h
      rfl
    · obtain ⟨l, a, m, L, rfl, _, _, _, _, few, _⟩ := h
      exact absurd few (Nat.not_lt_zero _)
  | n + 1 => lpap_step F T GD GR GF mF kF bF (ok_lpap F T GD GR GF mF kF bF n)
end
end R8
end

-- B8u
section
set_option Elab.async false
set_option linter.all false
set_option maxRecDepth 100000
namespace R8
open PySem L2 OwnOps OwnNe G1 EqDict MinKey SetSort DictList StX TryAs DX
abbrev sBent : Stmt := top 31
abbrev NB : List Str := ["_law_draws_here", "_law_some", "_law_paper_here", "_law_at", "_law_spot", "_law_odd"]
theorem sh_nil {n : Nat} : ∀ d ∈ ([] : List PyData), Sh n d := fun _ h => nomatch h
theorem sh_cons {n : Nat} {a : PyData} {r : List PyData} (h : Sh n a) (k : ∀ d ∈ r, Sh n d) : ∀ d ∈ a :: r, Sh n d := fun d hd => (List.mem_cons.mp hd).elim (fun e => by rw [e]; exact h) (k d)
theorem sh_non : Sh 0 .none := ⟨by simp [PyData.canLay0], by simp [PyData.depth]⟩
theorem sh_int (i : Int) : Sh 0 (.int i) := ⟨by simp [PyData.canLay0], by simp [PyData.depth]⟩
theorem lk_nil : ∀ d ∈ ([] : List PyData), Lk d := fun _ h => nomatch h
theorem lk_cons {a : PyData} {r : List PyData} (h : Lk a) (k : ∀ d ∈ r, Lk d) : ∀ d ∈ a :: r, Lk d := fun d hd => (List.mem_cons.mp hd).elim (fun e => by rw [e]; exact h) (k d)
theorem lk_str {x : Str} (h : PyData.strOk x = true) : Lk (S x) := .inl ((sh_str (n := 0) h).shaped (by decide))
theorem pd_nil : ∀ d ∈ ([] : List PyData), PD d := fun _ h => nomatch h
theorem pd_cons {a : PyData} {r : List PyData} (h : PD a) (k : ∀ d ∈ r, PD d) : ∀ d ∈ a :: r, PD d := fun d hd => (List.mem_cons.mp hd).elim (fun e => by rw [e]; exact h) (k d)
theorem dx_mem {K : PySem.W.Frag} {l : Addr} {H : Hp} {vs : List V} {ds : List PyData} (h : DxAll K l H vs ds) {v : V} (hv : v ∈ vs) : ∃ d ∈ ds, Dx K l H v d := by
  obtain ⟨i, hi, e⟩ := List.getElem_of_mem hv
  obtain ⟨d, hd, x⟩ := h.at2 (i := i) (v := v) (by rw [List.getElem?_eq_getElem hi, e])
  exact ⟨d, List.mem_of_getElem? hd, x⟩
structure Odd (K : PySem.W.Frag) (l : Addr) (G : Hp) (od : Addr) (N : Nat) : Prop where
  ne : od ≠ l
  is : ∃ vs ds, G od = some (.lst vs) ∧ DxAll K l G vs ds ∧ (∀ d ∈ ds, PD d) ∧ vs.length = N
theorem atI_last {xs : List V} (h : xs ≠ []) : ∃ c, atI xs (-1) = some c ∧ c ∈ xs := by
  have hp : 0 < xs.length := List.length_pos_iff.mpr h
  refine ⟨xs[xs.length - 1]'(by omega), ?_, List.getElem_mem _⟩
  have e : ixN xs.length (-1) = some (xs.length - 1) := by
    unfold ixN
    rw [if_neg (by decide), if_pos (by omega)]
    congr 1
    omega
  unfold atI
  rw [e]
  exact List.getElem?_eq_getElem _
section
variable {P : Program} {w : World} {K : PySem.W.Frag} {mg : Str → Option Value} {base : Heap}
def spBent (K : PySem.W.Frag) (n : Nat) : Sp := fun vs H Q _ => ∃ (l a pa : Addr) (dp : PyData) (L : List Spt) (k : Nat), vs = [.ref l, .ref a, .ref pa] ∧ Dr H l ∧ H a = some (.lst (rf L)) ∧ Fit H L ∧ a ≠ l ∧ L ≠ [] ∧ L.length ≤ 60 ∧ Dx K l H (.ref pa) dp ∧ WP k dp ∧ k < n ∧ n ≤ 12 ∧ ∀ v d H', SameX l H H' → Dr H' l → Dx K l H' v d → PD d → Q v H'
set_option maxHeartbeats 8000000 in
theorem bent_step {f : Addr} {fd : FuncData} (F : Fun K "_law_bent" "_law_bent" sBent f fd) (T : Txt mg) (GD : Glb P w K mg base "_law_draw" 1 ["_law_draws_here", "_law_upto"] spDraw) {n : Nat} (mF : mg "_law_bent" = some (.ref f)) (kF : PySem.W.keepIn K (.ref f) = true)
    (bF : L2.Binds K fd ["_law_draws_here", "_law_some", "_law_paper_here"] []) (IH : FnOk P w K mg base (L2.CX P w) (n + 1) f fd ["_law_draws_here", "_law_some", "_law_paper_here"] (spBent K n)) : FnOk P w K mg base (L2.CX P w) (n + 2) f fd ["_law_draws_here", "_law_some", "_law_paper_here"] (spBent K (n + 1)) := by
  obtain ⟨fD, fdD, mD, kD, GD, bD⟩ := GD.ex
  have sc : FnScope NB ["_law_draws_here", "_law_some", "_law_paper_here"] (defScope sBent) := ⟨rfl, rfl, rfl, by decide +kernel, rfl, by decide +kernel, by decide +kernel⟩
  refine F.okX sc (fun vs H Q E h => ?_) (fun cdv A outer s H vs Q E hr h => ?_)
  · obtain ⟨l, a, pa, dp, L, k, rfl, _⟩ := h
    rfl
  · obtain ⟨l, a, pa, dp, L, k, rfl, ⟨x0, y0, hl⟩, ha, fit, al, hL, few, dx0, wp, kn, n12, fin⟩ := h
    have hN := sc.nd
    refine ⟨_, pss_cons (ps_if (PW.pt (pw_and (pt_cmpR op_eq (pe_ix ix_tup (pv 2) pe_int (fun _ _ => rfl)) pe_str (nomark _)) (pw_and1 (pt_cmpR op_gt (pe_call GD (hr.mono (by omega)) (by rfl) mD kD bD .nil passL (pa_cons (pv 0) (pa_cons pe_int pa_nil))) pe_int (nomark _)))))
        (pss_cons (ps_set (i := 3) hN rfl (Or.inl rfl) (pe_op op_add pe_int (pe_call GD (hr.mono (by omega)) (by rfl) mD kD bD .nil passL (pa_cons (pv 0) (pa_cons pe_int pa_nil)))))
        (pss_one (ps_ret (pe_op op_catT (pe_op op_catT (pe_slice sl_tup (pv 2) po_none (po_some (pv 3))) (pe_tup (pa_cons (pe_call IH (hr.mono (by omega)) (by rfl) mF kF bF .nil passL (pa_cons (pv 0) (pa_cons (pv 1) (pa_cons (pe_ix ix_tup (pv 2) (pv 3) (fun _ _ => rfl)) pa_nil)))) pa_nil)))
          (pe_slice sl_tup (pv 2) (po_some (pe_op op_add (pv 3) pe_int)) po_none))))) pss_nil)
      (pss_cons (ps_set (i := 4) hN rfl (Or.inl rfl) (pe_ix ix_list (pv 1) (pe_call GD (hr.mono (by omega)) (by rfl) mD kD bD .nil passL (pa_cons (pv 0) (pa_cons (pe_callB call_len_seq (by rfl) T.len PySem.boot_len (pa_cons (pv 1) pa_nil)) pa_nil))) (fun _ _ => rfl)))
      (pss_cons (ps_set (i := 5) hN rfl (Or.inl rfl) (pe_lst (pa_cons pe_non (pa_cons (pe_tup pa_nil) (pa_cons pe_str (pa_cons (pe_tup (pa_cons pe_str pa_nil)) (pa_cons (pe_tup (pa_cons pe_str (pa_cons pe_non pa_nil))) pa_nil)))))))
      (pss_cons (ps_set (i := 5) hN rfl (Or.inl rfl) (pe_op op_cat (pv 5) (pe_lst (pa_cons (pe_tup (pa_cons pe_str (pa_cons (pe_tup pa_nil) pa_nil))) (pa_cons (pe_tup (pa_cons pe_str (pa_cons (pe_tup (pa_cons pe_str (pa_cons pe_str pa_nil))) pa_nil))) (pa_cons (pe_tup (pa_cons pe_str (pa_cons (pv 4) pa_nil))) pa_nil))))))
      (pss_cons (ps_set (i := 5) hN rfl (Or.inl rfl) (pe_op op_cat (pv 5) (pe_lst (pa_cons (pe_tup (pa_cons pe_str (pa_cons (pe_tup (pa_cons pe_str pa_nil)) (pa_cons (pv 2) (pa_cons (pv 2) pa_nil))))) pa_nil))))
      (pss_cons (ps_set (i := 5) hN rfl (Or.inl rfl) (pe_op op_cat (pv 5) (pe_lst (pa_cons (pe_tup (pa_cons pe_str (pa_cons (pv 4) (pa_cons (pv 2) (pa_cons (pv 2) pa_nil))))) (pa_cons (pe_tup (pa_cons pe_str (pa_cons (pv 2) pa_nil))) (pa_cons (pe_callTy call_list_of (by rfl) T.list (by decide +kernel) (pa_cons (pv 2) pa_nil)) pa_nil))))))
      (pss_cons (ps_set (i := 5) hN rfl (Or.inl rfl) (pe_op op_cat (pv 5) (pe_lst (pa_cons (pe_tup (pa_cons pe_str (pa_cons (pe_tup (pa_cons (pe_lst (pa_cons pe_str pa_nil)) (pa_cons (pe_ix ix_tup (pv 4) pe_int (fun _ _ => rfl)) pa_nil))) pa_nil))) (pa_cons (pe_tup (pa_cons pe_str (pa_cons (pe_tup (pa_cons (pe_lst pa_nil) (pa_cons pe_dnewK (pa_cons (pe_ix ix_tup (pv 4) (pe_un un_neg pe_int) (fun _ _ => rfl)) (pa_cons pe_str pa_nil))))) pa_nil))) pa_nil)))))
      (pss_cons (ps_set (i := 5) hN rfl (Or.inl rfl) (pe_op op_cat (pv 5) (pe_lst (pa_cons (pe_tup (pa_cons pe_str (pa_cons (pe_callTy call_tupleT (by rfl) T.tuple (by decide +kernel) (pa_cons (pv 4) pa_nil)) pa_nil))) (pa_cons (pe_tup (pa_cons pe_str (pa_cons (pe_tup (pa_cons pe_str (pa_cons pe_str (pa_cons pe_str (pa_cons pe_str (pa_cons pe_str (pa_cons pe_str pa_nil))))))) pa_nil))) pa_nil)))))
      (pss_cons (ps_set (i := 5) hN rfl (Or.inl rfl) (pe_op op_cat (pv 5) (pe_lst (pa_cons (pe_op op_catT (pv 2) (pe_tup (pa_cons pe_int pa_nil))) (pa_cons (pe_tup (pa_cons pe_str (pa_cons (pv 4) (pa_cons pe_non (pa_cons (pv 2) pa_nil))))) pa_nil)))))
      (pss_one (ps_ret (pe_ix ix_list (pv 5) (pe_call GD (hr.mono (by omega)) (by rfl) mD kD bD .nil passL (pa_cons (pv 0) (pa_cons (pe_callB call_len_seq (by rfl) T.len PySem.boot_len (pa_cons (pv 5) pa_nil)) pa_nil))) (fun _ _ => rfl)))))))))))), ?_⟩
    have shp : Sh 13 dp := wp.sh.mono (by omega)
    obtain ⟨px, pd, rfl, hpH, dxaH⟩ : ∃ px pd, dp = .tuple pd ∧ H pa = some (.tup px) ∧ DxAll K l H px pd := by
      cases wp with
      | touch => cases dx0 with | tup h1 h2 => exact ⟨_, _, rfl, h1, h2⟩
      | spot => cases dx0 with | tup h1 h2 => exact ⟨_, _, rfl, h1, h2⟩
    apply cutG (C := fun G => SameX l H G ∧ Dr G l)
    · intro rest
      cases wp with
      | touch okn =>
        cases dxaH with
        | cons hx _ =>
          cases hx
          refine ⟨_, rfl, _, _, _, _, rfl, rfl, SqT.of hpH, at_of (j := 0) rfl rfl, rfl, _, rfl, ?_⟩
          refine if_neg' (decide_eq_false (fun z => absurd (V.str.inj z) (by decide))) ?_
          refine if_neg' rfl ?_
          exact rest H ⟨SameX.refl l H, x0, y0, hl⟩
      | @spot k' t u v okt wu wv =>
        cases dxaH with
        | cons hx hr1 =>
        cases hx
        cases hr1 with
        | @cons x1 _ _ _ hx1 hr2 =>
        cases hr2 with
        | @cons x2 _ _ _ hx2 hr3 =>
        cases hr3 with
        | @cons x3 _ _ _ hx3 hr4 =>
        cases hr4
        refine ⟨_, rfl, _, _, _, _, rfl, rfl, SqT.of hpH, at_of (j := 0) rfl rfl, rfl, _, rfl, ?_⟩
        refine if_pos' (decide_eq_true rfl) ⟨_, rfl, l, 3, x0, y0, rfl, by decide, by decide, hl, fun d x' y' d0 d1 => ⟨_, _, rfl, rfl, _, rfl, ?_⟩⟩
        have sx4 : SameX l H (upd H l (.lst [.int x', .int y'])) := SameX.upd
        have gl4 : (upd H l (.lst [.int x', .int y'])) l = some (.lst [.int x', .int y']) := upd_same
        generalize upd H l (.lst [.int x', .int y']) = G4 at sx4 gl4 ⊢
        by_cases cd : d > 0
        · refine if_pos' (decide_eq_true cd) ?_
          refine ⟨_, rfl, l, 2, x', y', rfl, by decide, by decide, gl4, fun e x'' y'' e0 e1 => ⟨_, _, rfl, rfl, ?_⟩⟩
          have sx5 := sx4.trans (SameX.upd (l := l) (H := G4) (o := .lst [.int x'', .int y'']))
          have gl5 : (upd G4 l (.lst [.int x'', .int y''])) l = some (.lst [.int x'', .int y'']) := upd_same
          generalize upd G4 l (.lst [.int x'', .int y'']) = G5 at sx5 gl5 ⊢
          have pal : pa ≠ l := fun z => by rw [z, hl] at hpH; cases hpH
          have hp5 := sx5 _ _ pal hpH
          have y1 := Dx.move sx5 hl _ _ hx1
          have y2 := Dx.move sx5 hl _ _ hx2
          have y3 := Dx.move sx5 hl _ _ hx3
          have sh1 : Sh 60 (tD t) := sh_tD (n := 59) okt
          have shS : Sh 60 (S "spot") := sh_str (by decide +kernel)
          have two : e = 0 ∨ e = 1 := by omega
          rcases two with rfl | rfl
          · obtain ⟨b2, e2⟩ : ∃ b, x2 = .ref b := by
              cases wu with
              | touch => cases hx2; exact ⟨_, rfl⟩
              | spot => cases hx2; exact ⟨_, rfl⟩
            refine ⟨_, rfl, _, rfl, _, rfl, pa, _, rfl, SqT.of hp5, by show ¬(HT.sIx 4 0 none = 0 ∧ HT.sIx 4 4 (some 2) = 4); decide, fun c nc => ?_⟩
            have sc1 := same_upd (o := .tup [.str "spot", x1]) nc
            refine ⟨_, rfl, _, rfl, _, rfl, _, rfl, pa, _, _, _, rfl, rfl, SqT.of (sc1 _ _ hp5), at_of (j := 2) rfl rfl, l, a, b2, u, L, k', by rw [e2]; rfl, ⟨_, _, sc1 _ _ gl5⟩, sc1 _ _ (sx5 _ _ al ha), (fit.move sx5 hl).same sc1, al, hL, few, by rw [← e2]; exact Dx.same sc1 _ _ y2, wu, by omega, by omega, fun v' d' H6 s6 ⟨x6, y6, gl6⟩ dx6 sh6 => ?_⟩
            have cl : c ≠ l := fun z => by rw [z, gl5] at nc; cases nc
            have hc6 : H6 c = some (.tup [.str "spot", x1]) := s6 _ _ cl upd_same
            refine ⟨by show 1 ≤ sizeLine; decide, fun c2 nc2 => ?_⟩
            have sc2 := same_upd (o := .tup [v']) nc2
            refine ⟨c, c2, _, _, rfl, rfl, SqT.of (sc2 _ _ hc6), SqT.of upd_same, by simp, by show 2 + 1 ≤ sizeLine; decide, (fun z => nomatch z), fun _ c3 nc3 => ?_⟩
            have sc3 := same_upd (o := .tup ([.str "spot", x1] ++ [v'])) nc3
            have hc3 : (upd (upd H6 c2 (.tup [v'])) c3 (.tup ([.str "spot", x1] ++ [v']))) c3 = some (.tup [.str "spot", x1, v']) := upd_same
            generalize upd (upd H6 c2 (.tup [v'])) c3 (.tup ([.str "spot", x1] ++ [v'])) = H7 at sc3 hc3 ⊢
            have s67 : SameX l (upd G5 c (.tup [.str "spot", x1])) H7 := s6.trans (SameX.of (sc2.trans sc3))
            have hp7 : H7 pa = _ := s67 _ _ pal (sc1 _ _ hp5)
            refine ⟨_, rfl, _, rfl, _, _, rfl, rfl, _, rfl, pa, _, rfl, SqT.of hp7, by show ¬(HT.sIx 4 0 (some (2 + 0 + 1)) = 0 ∧ HT.sIx 4 4 none = 4); decide, fun c4 nc4 => ?_⟩
            have sc4 := same_upd (o := .tup [x3]) nc4
            refine ⟨c3, c4, _, _, rfl, rfl, SqT.of (sc4 _ _ hc3), SqT.of upd_same, by simp, by show 3 + 1 ≤ sizeLine; decide, (fun z => nomatch z), fun _ c5 nc5 => ?_⟩
            have sc5 := same_upd (o := .tup ([.str "spot", x1, v'] ++ [x3])) nc5
            have all := s67.trans (SameX.of (sc4.trans sc5))
            have g7 : Dr H7 l := ⟨_, _, (sc2.trans sc3) _ _ gl6⟩
            obtain ⟨x7, y7, gl7⟩ := g7
            exact fin _ _ _ (sx5.trans ((SameX.of sc1).trans all)) ⟨x7, y7, (sc4.trans sc5) _ _ gl7⟩ (.tup upd_same (.cons (.str "spot") (.cons (Dx.move all (sc1 _ _ gl5) _ _ (Dx.same sc1 _ _ y1)) (.cons (Dx.same ((sc2.trans sc3).trans (sc4.trans sc5)) _ _ dx6) (.cons (Dx.move all (sc1 _ _ gl5) _ _ (Dx.same sc1 _ _ y3)) .nil))))) (.four shS sh1 sh6 wv.pd)
          · obtain ⟨b3, e3⟩ : ∃ b, x3 = .ref b := by
              cases wv with
              | touch => cases hx3; exact ⟨_, rfl⟩
              | spot => cases hx3; exact ⟨_, rfl⟩
            refine ⟨_, rfl, _, rfl, _, rfl, pa, _, rfl, SqT.of hp5, by show ¬(HT.sIx 4 0 none = 0 ∧ HT.sIx 4 4 (some 3) = 4); decide, fun c nc => ?_⟩
            have sc1 := same_upd (o := .tup [.str "spot", x1, x2]) nc
            refine ⟨_, rfl, _, rfl, _, rfl, _, rfl, pa, _, _, _, rfl, rfl, SqT.of (sc1 _ _ hp5), at_of (j := 3) rfl rfl, l, a, b3, v, L, k', by rw [e3]; rfl, ⟨_, _, sc1 _ _ gl5⟩, sc1 _ _ (sx5 _ _ al ha), (fit.move sx5 hl).same sc1, al, hL, few, by rw [← e3]; exact Dx.same sc1 _ _ y3, wv, by omega, by omega, fun v' d' H6 s6 ⟨x6, y6, gl6⟩ dx6 sh6 => ?_⟩
            have cl : c ≠ l := fun z => by rw [z, gl5] at nc; cases nc
            have hc6 : H6 c = some (.tup [.str "spot", x1, x2]) := s6 _ _ cl upd_same
            refine ⟨by show 1 ≤ sizeLine; decide, fun c2 nc2 => ?_⟩
            have sc2 := same_upd (o := .tup [v']) nc2
            refine ⟨c, c2, _, _, rfl, rfl, SqT.of (sc2 _ _ hc6), SqT.of upd_same, by simp, by show 3 + 1 ≤ sizeLine; decide, (fun z => nomatch z), fun _ c3 nc3 => ?_⟩
            have sc3 := same_upd (o := .tup ([.str "spot", x1, x2] ++ [v'])) nc3
            have hc3 : (upd (upd H6 c2 (.tup [v'])) c3 (.tup ([.str "spot", x1, x2] ++ [v']))) c3 = some (.tup [.str "spot", x1, x2, v']) := upd_same
            generalize upd (upd H6 c2 (.tup [v'])) c3 (.tup ([.str "spot", x1, x2] ++ [v'])) = H7 at sc3 hc3 ⊢
            have s67 : SameX l (upd G5 c (.tup [.str "spot", x1, x2])) H7 := s6.trans (SameX.of (sc2.trans sc3))
            have hp7 : H7 pa = _ := s67 _ _ pal (sc1 _ _ hp5)
            refine ⟨_, rfl, _, rfl, _, _, rfl, rfl, _, rfl, pa, _, rfl, SqT.of hp7, by show ¬(HT.sIx 4 0 (some (2 + 1 + 1)) = 0 ∧ HT.sIx 4 4 none = 4); decide, fun c4 nc4 => ?_⟩
            have sc4 := same_upd (o := .tup []) nc4
            refine ⟨c3, c4, _, _, rfl, rfl, SqT.of (sc4 _ _ hc3), SqT.of upd_same, by simp, by show 4 + 0 ≤ sizeLine; decide, (fun _ => ?_), fun z => absurd rfl z⟩
            have all := s67.trans (SameX.of sc4)
            have g7 : Dr H7 l := ⟨_, _, (sc2.trans sc3) _ _ gl6⟩
            obtain ⟨x7, y7, gl7⟩ := g7
            exact fin _ _ _ (sx5.trans ((SameX.of sc1).trans all)) ⟨x7, y7, sc4 _ _ gl7⟩ (.tup (sc4 _ _ hc3) (.cons (.str "spot") (.cons (Dx.move all (sc1 _ _ gl5) _ _ (Dx.same sc1 _ _ y1)) (.cons (Dx.move all (sc1 _ _ gl5) _ _ (Dx.same sc1 _ _ y2)) (.cons (Dx.same ((sc2.trans sc3).trans sc4) _ _ dx6) .nil))))) (.four shS sh1 wu.pd sh6)
        · refine if_neg' (decide_eq_false cd) ?_
          exact rest G4 ⟨sx4, _, _, gl4⟩
    · intro G9 ⟨sx9, ⟨x9, y9, gl9⟩⟩
      have hpos : 0 < L.length := List.length_pos_iff.mpr hL
      have ha9 := sx9 _ _ al ha
      refine ⟨_, rfl, _, rfl, _, rfl, a, _, rfl, .inl (SqL.of ha9), l, _, x9, y9, rfl, by rw [rf_len]; omega, by rw [rf_len]; omega, gl9, fun d x' y' d0 d1 => ?_⟩
      obtain ⟨c, hc, mc⟩ := atI_get (xs := rf L) d0 d1
      obtain ⟨p, pL, rfl⟩ := List.mem_map.mp mc
      have sx0 : SameX l H (upd G9 l (.lst [.int x', .int y'])) := sx9.trans SameX.upd
      have gl0 : (upd G9 l (.lst [.int x', .int y'])) l = some (.lst [.int x', .int y']) := upd_same
      generalize upd G9 l (.lst [.int x', .int y']) = G0 at sx0 gl0 ⊢
      have hsp : G0 p.1 = some (.tup (p.2.map V.str)) := (fit.move sx0 hl).tp p pL
      have dxp := Dx.move sx0 hl _ _ dx0
      have hpa : G0 pa = some (.tup px) := sx0 _ _ (fun z => by rw [z, hl] at hpH; cases hpH) hpH
      have dxpa := DxAll.move sx0 hl _ _ dxaH
      have pne : px ≠ [] := fun z => by
        cases wp <;> (cases dxaH; cases z)
      have plen : px.length + 1 ≤ sizeLine := by
        cases wp with
        | touch => cases dxaH with | cons _ h => cases h with | cons _ h => cases h; show 2 + 1 ≤ sizeLine; decide
        | spot => cases dxaH with | cons _ h => cases h with | cons _ h => cases h with | cons _ h => cases h with | cons _ h => cases h; show 4 + 1 ≤ sizeLine; decide
      have shs1 : Sh 1 (tD p.2) := sh_tD (fit.ok p pL)
      have lkp : ∀ d ∈ pd, Lk d := fun d hd => .inl ((shp.item d hd).shaped (by decide))
      have lkt : ∀ d ∈ p.2.map S, Lk d := fun d hd => by
        obtain ⟨m, hm, rfl⟩ := List.mem_map.mp hd
        exact lk_str (fit.ok p pL m hm)
      have pdp : PD (.tuple pd) := wp.pd
      have pdp0 : PD (.tuple (pd ++ [.int 0])) := by
        cases wp with
        | touch => exact .more (sh_str (by decide +kernel)) (by simp) (by simp)
        | spot => exact .more (sh_str (by decide +kernel)) (by simp) (by simp)
      have tne : p.2.map V.str ≠ [] := fun z => fit.fu p pL (List.map_eq_nil_iff.mp z)
      obtain ⟨c0, hc0, mc0⟩ := atI_get (xs := p.2.map V.str) (d := 0) (Int.le_refl 0) (by have := List.length_pos_iff.mpr tne; omega)
      obtain ⟨n0, hn0, rfl⟩ := List.mem_map.mp mc0
      have okn0 := fit.ok p pL n0 hn0
      obtain ⟨c1, hc1, mc1⟩ := atI_last tne
      obtain ⟨n1, hn1, rfl⟩ := List.mem_map.mp mc1
      have okn1 := fit.ok p pL n1 hn1
      refine ⟨a, _, _, _, rfl, rfl, SqL.of (sx0 _ _ al ha), hc, ?_⟩
      have SS : Same G0 G0 := Same.refl G0
      refine ⟨by show 0 ≤ sizeLine; decide, fun q1 nq1 => ?_⟩
      have t1 := same_upd (o := .tup []) nq1
      have hq1 : (upd G0 q1 (.tup [])) q1 = some (.tup []) := upd_same
      have lq1 : q1 ≠ l := fun e => by rw [e, SS _ _ gl0] at nq1; cases nq1
      replace SS := SS.trans t1
      generalize upd G0 q1 (.tup []) = G1 at t1 hq1 SS  ⊢
      clear t1 nq1
      have f1 : Dx K l G1 (.ref q1) (.tuple []) := .tup hq1 (.nil)
      have sf1 : Sh 1 (.tuple []) := (Sh.tup (sh_nil (n := 0)))
      refine ⟨by show 1 ≤ sizeLine; decide, fun q2 nq2 => ?_⟩
      have t2 := same_upd (o := .tup [.str "touch"]) nq2
      replace f1 := Dx.same t2 _ _ f1
      have hq2 : (upd G1 q2 (.tup [.str "touch"])) q2 = some (.tup [.str "touch"]) := upd_same
      have lq2 : q2 ≠ l := fun e => by rw [e, SS _ _ gl0] at nq2; cases nq2
      replace SS := SS.trans t2
      generalize upd G1 q2 (.tup [.str "touch"]) = G2 at t2 hq2 SS f1 ⊢
      clear t2 nq2
      have f2 : Dx K l G2 (.ref q2) (.tuple [S "touch"]) := .tup hq2 (.cons (.str _) (.nil))
      have sf2 : Sh 1 (.tuple [S "touch"]) := (Sh.tup (sh_cons ((sh_str (n := 0) (x := "touch") (by decide +kernel))) (sh_nil)))
      refine ⟨by show 2 ≤ sizeLine; decide, fun q3 nq3 => ?_⟩
      have t3 := same_upd (o := .tup [.str "touch", .non]) nq3
      replace f1 := Dx.same t3 _ _ f1
      replace f2 := Dx.same t3 _ _ f2
      have hq3 : (upd G2 q3 (.tup [.str "touch", .non])) q3 = some (.tup [.str "touch", .non]) := upd_same
      have lq3 : q3 ≠ l := fun e => by rw [e, SS _ _ gl0] at nq3; cases nq3
      replace SS := SS.trans t3
      generalize upd G2 q3 (.tup [.str "touch", .non]) = G3 at t3 hq3 SS f1 f2 ⊢
      clear t3 nq3
      have f3 : Dx K l G3 (.ref q3) (.tuple [S "touch", .none]) := .tup hq3 (.cons (.str _) (.cons .non (.nil)))
      have sf3 : Sh 1 (.tuple [S "touch", .none]) := (Sh.tup (sh_cons ((sh_str (n := 0) (x := "touch") (by decide +kernel))) (sh_cons (sh_non) (sh_nil))))
      refine ⟨by show 5 ≤ sizeLine; decide, fun q4 nq4 => ?_⟩
      have t4 := same_upd (o := .lst [.non, .ref q1, .str "touch", .ref q2, .ref q3]) nq4
      replace f1 := Dx.same t4 _ _ f1
      replace f2 := Dx.same t4 _ _ f2
      replace f3 := Dx.same t4 _ _ f3
      have hq4 : (upd G3 q4 (.lst [.non, .ref q1, .str "touch", .ref q2, .ref q3])) q4 = some (.lst [.non, .ref q1, .str "touch", .ref q2, .ref q3]) := upd_same
      have lq4 : q4 ≠ l := fun e => by rw [e, SS _ _ gl0] at nq4; cases nq4
      replace SS := SS.trans t4
      generalize upd G3 q4 (.lst [.non, .ref q1, .str "touch", .ref q2, .ref q3]) = G4 at t4 hq4 SS f1 f2 f3 ⊢
      clear t4 nq4
      have dn : DxAll K l G4 [.non, .ref q1, .str "touch", .ref q2, .ref q3] [.none, .tuple [], S "touch", .tuple [S "touch"], .tuple [S "touch", .none]] := .cons .non (.cons f1 (.cons (.str _) (.cons f2 (.cons f3 (.nil)))))
      have sn : ∀ d ∈ ([.none, .tuple [], S "touch", .tuple [S "touch"], .tuple [S "touch", .none]] : List PyData), PD d := pd_cons (.other fun _ z => nomatch z) (pd_cons .nil (pd_cons (.other fun _ z => nomatch z) (pd_cons (.more (((sh_str (n := 0) (x := "touch") (by decide +kernel))).mono (by decide)) (by decide) (by decide)) (pd_cons (.two (((sh_str (n := 0) (x := "touch") (by decide +kernel))).mono (by decide)) (fun _ z => nomatch z)) (pd_nil)))))
      have O : Odd K l G4 q4 5 := ⟨lq4, _, _, hq4, dn, sn, rfl⟩
      clear dn sn hq4 lq4
      obtain ⟨lod, vs, ds, hod, dxo, sho, lno⟩ := O
      refine ⟨_, rfl, by show 0 ≤ sizeLine; decide, fun q5 nq5 => ?_⟩
      have t5 := same_upd (o := .tup []) nq5
      replace hod := t5 _ _ hod
      replace dxo := DxAll.same t5 _ _ dxo
      have hq5 : (upd G4 q5 (.tup [])) q5 = some (.tup []) := upd_same
      have lq5 : q5 ≠ l := fun e => by rw [e, SS _ _ gl0] at nq5; cases nq5
      replace SS := SS.trans t5
      generalize upd G4 q5 (.tup []) = G5 at t5 hq5 SS  hod dxo ⊢
      clear t5 nq5
      have f5 : Dx K l G5 (.ref q5) (.tuple []) := .tup hq5 (.nil)
      have sf5 : Sh 1 (.tuple []) := (Sh.tup (sh_nil (n := 0)))
      refine ⟨by show 2 ≤ sizeLine; decide, fun q6 nq6 => ?_⟩
      have t6 := same_upd (o := .tup [.str "touch", .ref q5]) nq6
      replace f5 := Dx.same t6 _ _ f5
      replace hod := t6 _ _ hod
      replace dxo := DxAll.same t6 _ _ dxo
      have hq6 : (upd G5 q6 (.tup [.str "touch", .ref q5])) q6 = some (.tup [.str "touch", .ref q5]) := upd_same
      have lq6 : q6 ≠ l := fun e => by rw [e, SS _ _ gl0] at nq6; cases nq6
      replace SS := SS.trans t6
      generalize upd G5 q6 (.tup [.str "touch", .ref q5]) = G6 at t6 hq6 SS f5 hod dxo ⊢
      clear t6 nq6
      have f6 : Dx K l G6 (.ref q6) (.tuple [S "touch", .tuple []]) := .tup hq6 (.cons (.str _) (.cons f5 (.nil)))
      have sf6 : Sh 2 (.tuple [S "touch", .tuple []]) := (Sh.tup (sh_cons (((sh_str (n := 0) (x := "touch") (by decide +kernel))).mono (by decide)) (sh_cons (sf5) (sh_nil))))
      refine ⟨by show 2 ≤ sizeLine; decide, fun q7 nq7 => ?_⟩
      have t7 := same_upd (o := .tup [.str "a", .str "b"]) nq7
      replace f6 := Dx.same t7 _ _ f6
      replace hod := t7 _ _ hod
      replace dxo := DxAll.same t7 _ _ dxo
      have hq7 : (upd G6 q7 (.tup [.str "a", .str "b"])) q7 = some (.tup [.str "a", .str "b"]) := upd_same
      have lq7 : q7 ≠ l := fun e => by rw [e, SS _ _ gl0] at nq7; cases nq7
      replace SS := SS.trans t7
      generalize upd G6 q7 (.tup [.str "a", .str "b"]) = G7 at t7 hq7 SS f6 hod dxo ⊢
      clear t7 nq7
      have f7 : Dx K l G7 (.ref q7) (.tuple [S "a", S "b"]) := .tup hq7 (.cons (.str _) (.cons (.str _) (.nil)))
      have sf7 : Sh 1 (.tuple [S "a", S "b"]) := (Sh.tup (sh_cons ((sh_str (n := 0) (x := "a") (by decide +kernel))) (sh_cons ((sh_str (n := 0) (x := "b") (by decide +kernel))) (sh_nil))))
      refine ⟨by show 2 ≤ sizeLine; decide, fun q8 nq8 => ?_⟩
      have t8 := same_upd (o := .tup [.str "touch", .ref q7]) nq8
      replace f6 := Dx.same t8 _ _ f6
      replace f7 := Dx.same t8 _ _ f7
      replace hod := t8 _ _ hod
      replace dxo := DxAll.same t8 _ _ dxo
      have hq8 : (upd G7 q8 (.tup [.str "touch", .ref q7])) q8 = some (.tup [.str "touch", .ref q7]) := upd_same
      have lq8 : q8 ≠ l := fun e => by rw [e, SS _ _ gl0] at nq8; cases nq8
      replace SS := SS.trans t8
      generalize upd G7 q8 (.tup [.str "touch", .ref q7]) = G8 at t8 hq8 SS f6 f7 hod dxo ⊢
      clear t8 nq8
      have f8 : Dx K l G8 (.ref q8) (.tuple [S "touch", .tuple [S "a", S "b"]]) := .tup hq8 (.cons (.str _) (.cons f7 (.nil)))
      have sf8 : Sh 2 (.tuple [S "touch", .tuple [S "a", S "b"]]) := (Sh.tup (sh_cons (((sh_str (n := 0) (x := "touch") (by decide +kernel))).mono (by decide)) (sh_cons (sf7) (sh_nil))))
      refine ⟨_, rfl, by show 2 ≤ sizeLine; decide, fun q9 nq9 => ?_⟩
      have t9 := same_upd (o := .tup [.str "spot", .ref p.1]) nq9
      replace f6 := Dx.same t9 _ _ f6
      replace f8 := Dx.same t9 _ _ f8
      replace hod := t9 _ _ hod
      replace dxo := DxAll.same t9 _ _ dxo
      have hq9 : (upd G8 q9 (.tup [.str "spot", .ref p.1])) q9 = some (.tup [.str "spot", .ref p.1]) := upd_same
      have lq9 : q9 ≠ l := fun e => by rw [e, SS _ _ gl0] at nq9; cases nq9
      replace SS := SS.trans t9
      generalize upd G8 q9 (.tup [.str "spot", .ref p.1]) = G9 at t9 hq9 SS f6 f8 hod dxo ⊢
      clear t9 nq9
      have f9 : Dx K l G9 (.ref q9) (.tuple [S "spot", tD p.2]) := .tup hq9 (.cons (.str _) (.cons (dx_tup (SS _ _ hsp)) (.nil)))
      have sf9 : Sh 2 (.tuple [S "spot", tD p.2]) := (Sh.tup (sh_cons (((sh_str (n := 0) (x := "spot") (by decide +kernel))).mono (by decide)) (sh_cons (shs1) (sh_nil))))
      refine ⟨by show 3 ≤ sizeLine; decide, fun q10 nq10 => ?_⟩
      have t10 := same_upd (o := .lst [.ref q6, .ref q8, .ref q9]) nq10
      replace f6 := Dx.same t10 _ _ f6
      replace f8 := Dx.same t10 _ _ f8
      replace f9 := Dx.same t10 _ _ f9
      replace hod := t10 _ _ hod
      replace dxo := DxAll.same t10 _ _ dxo
      have hq10 : (upd G9 q10 (.lst [.ref q6, .ref q8, .ref q9])) q10 = some (.lst [.ref q6, .ref q8, .ref q9]) := upd_same
      have lq10 : q10 ≠ l := fun e => by rw [e, SS _ _ gl0] at nq10; cases nq10
      replace SS := SS.trans t10
      generalize upd G9 q10 (.lst [.ref q6, .ref q8, .ref q9]) = G10 at t10 hq10 SS f6 f8 f9 hod dxo ⊢
      clear t10 nq10
      have dn : DxAll K l G10 [.ref q6, .ref q8, .ref q9] [.tuple [S "touch", .tuple []], .tuple [S "touch", .tuple [S "a", S "b"]], .tuple [S "spot", tD p.2]] := .cons f6 (.cons f8 (.cons f9 (.nil)))
      have sn : ∀ d ∈ ([.tuple [S "touch", .tuple []], .tuple [S "touch", .tuple [S "a", S "b"]], .tuple [S "spot", tD p.2]] : List PyData), PD d := pd_cons (.two (((sh_str (n := 0) (x := "touch") (by decide +kernel))).mono (by decide)) (fun es z => by cases z; exact (lk_nil))) (pd_cons (.two (((sh_str (n := 0) (x := "touch") (by decide +kernel))).mono (by decide)) (fun es z => by cases z; exact (lk_cons ((lk_str (x := "a") (by decide +kernel))) (lk_cons ((lk_str (x := "b") (by decide +kernel))) (lk_nil))))) (pd_cons (.two (((sh_str (n := 0) (x := "spot") (by decide +kernel))).mono (by decide)) (fun es z => by cases z; exact lkt)) (pd_nil)))
      refine ⟨q4, q10, _, _, rfl, rfl, hod, hq10, by rw [lno]; show 8 ≤ sizeLine; decide, fun q11 nq11 => ?_⟩
      have tt := same_upd (o := .lst (vs ++ [.ref q6, .ref q8, .ref q9])) nq11
      have lq11 : q11 ≠ l := fun e => by rw [e, SS _ _ gl0] at nq11; cases nq11
      have O : Odd K l (upd G10 q11 (.lst (vs ++ [.ref q6, .ref q8, .ref q9]))) q11 8 := ⟨lq11, _, _, upd_same, (DxAll.same tt _ _ dxo).append (DxAll.same tt _ _ dn), fun d hd => (List.mem_append.mp hd).elim (sho d) (sn d), by rw [List.length_append, lno]; rfl⟩
      replace SS := SS.trans tt
      generalize upd G10 q11 (.lst (vs ++ [.ref q6, .ref q8, .ref q9])) = G11 at SS O ⊢
      clear tt nq11 dn sn hod dxo sho lno hq10 lq10 lq11
      obtain ⟨lod, vs, ds, hod, dxo, sho, lno⟩ := O
      refine ⟨_, rfl, by show 1 ≤ sizeLine; decide, fun q12 nq12 => ?_⟩
      have t12 := same_upd (o := .tup [.str "zz"]) nq12
      replace hod := t12 _ _ hod
      replace dxo := DxAll.same t12 _ _ dxo
      have hq12 : (upd G11 q12 (.tup [.str "zz"])) q12 = some (.tup [.str "zz"]) := upd_same
      have lq12 : q12 ≠ l := fun e => by rw [e, SS _ _ gl0] at nq12; cases nq12
      replace SS := SS.trans t12
      generalize upd G11 q12 (.tup [.str "zz"]) = G12 at t12 hq12 SS  hod dxo ⊢
      clear t12 nq12
      have f12 : Dx K l G12 (.ref q12) (.tuple [S "zz"]) := .tup hq12 (.cons (.str _) (.nil))
      have sf12 : Sh 1 (.tuple [S "zz"]) := (Sh.tup (sh_cons ((sh_str (n := 0) (x := "zz") (by decide +kernel))) (sh_nil)))
      refine ⟨_, rfl, _, rfl, by show 4 ≤ sizeLine; decide, fun q13 nq13 => ?_⟩
      have t13 := same_upd (o := .tup [.str "spot", .ref q12, .ref pa, .ref pa]) nq13
      replace f12 := Dx.same t13 _ _ f12
      replace hod := t13 _ _ hod
      replace dxo := DxAll.same t13 _ _ dxo
      have hq13 : (upd G12 q13 (.tup [.str "spot", .ref q12, .ref pa, .ref pa])) q13 = some (.tup [.str "spot", .ref q12, .ref pa, .ref pa]) := upd_same
      have lq13 : q13 ≠ l := fun e => by rw [e, SS _ _ gl0] at nq13; cases nq13
      replace SS := SS.trans t13
      generalize upd G12 q13 (.tup [.str "spot", .ref q12, .ref pa, .ref pa]) = G13 at t13 hq13 SS f12 hod dxo ⊢
      clear t13 nq13
      have f13 : Dx K l G13 (.ref q13) (.tuple [S "spot", .tuple [S "zz"], .tuple pd, .tuple pd]) := .tup hq13 (.cons (.str _) (.cons f12 (.cons (Dx.same SS _ _ dxp) (.cons (Dx.same SS _ _ dxp) (.nil)))))
      have sf13 : Sh 14 (.tuple [S "spot", .tuple [S "zz"], .tuple pd, .tuple pd]) := (Sh.tup (sh_cons (((sh_str (n := 0) (x := "spot") (by decide +kernel))).mono (by decide)) (sh_cons ((sf12).mono (by decide)) (sh_cons (shp) (sh_cons (shp) (sh_nil))))))
      refine ⟨by show 1 ≤ sizeLine; decide, fun q14 nq14 => ?_⟩
      have t14 := same_upd (o := .lst [.ref q13]) nq14
      replace f13 := Dx.same t14 _ _ f13
      replace hod := t14 _ _ hod
      replace dxo := DxAll.same t14 _ _ dxo
      have hq14 : (upd G13 q14 (.lst [.ref q13])) q14 = some (.lst [.ref q13]) := upd_same
      have lq14 : q14 ≠ l := fun e => by rw [e, SS _ _ gl0] at nq14; cases nq14
      replace SS := SS.trans t14
      generalize upd G13 q14 (.lst [.ref q13]) = G14 at t14 hq14 SS f13 hod dxo ⊢
      clear t14 nq14
      have dn : DxAll K l G14 [.ref q13] [.tuple [S "spot", .tuple [S "zz"], .tuple pd, .tuple pd]] := .cons f13 (.nil)
      have sn : ∀ d ∈ ([.tuple [S "spot", .tuple [S "zz"], .tuple pd, .tuple pd]] : List PyData), PD d := pd_cons (.four (((sh_str (n := 0) (x := "spot") (by decide +kernel))).mono (by decide)) ((sf12).mono (by decide)) pdp pdp) (pd_nil)
      refine ⟨q11, q14, _, _, rfl, rfl, hod, hq14, by rw [lno]; show 9 ≤ sizeLine; decide, fun q15 nq15 => ?_⟩
      have tt := same_upd (o := .lst (vs ++ [.ref q13])) nq15
      have lq15 : q15 ≠ l := fun e => by rw [e, SS _ _ gl0] at nq15; cases nq15
      have O : Odd K l (upd G14 q15 (.lst (vs ++ [.ref q13]))) q15 9 := ⟨lq15, _, _, upd_same, (DxAll.same tt _ _ dxo).append (DxAll.same tt _ _ dn), fun d hd => (List.mem_append.mp hd).elim (sho d) (sn d), by rw [List.length_append, lno]; rfl⟩
      replace SS := SS.trans tt
      generalize upd G14 q15 (.lst (vs ++ [.ref q13])) = G15 at SS O ⊢
      clear tt nq15 dn sn hod dxo sho lno hq14 lq14 lq15
      obtain ⟨lod, vs, ds, hod, dxo, sho, lno⟩ := O
      refine ⟨_, rfl, _, rfl, _, rfl, _, rfl, by show 4 ≤ sizeLine; decide, fun q16 nq16 => ?_⟩
      have t16 := same_upd (o := .tup [.str "spot", .ref p.1, .ref pa, .ref pa]) nq16
      replace hod := t16 _ _ hod
      replace dxo := DxAll.same t16 _ _ dxo
      have hq16 : (upd G15 q16 (.tup [.str "spot", .ref p.1, .ref pa, .ref pa])) q16 = some (.tup [.str "spot", .ref p.1, .ref pa, .ref pa]) := upd_same
      have lq16 : q16 ≠ l := fun e => by rw [e, SS _ _ gl0] at nq16; cases nq16
      replace SS := SS.trans t16
      generalize upd G15 q16 (.tup [.str "spot", .ref p.1, .ref pa, .ref pa]) = G16 at t16 hq16 SS  hod dxo ⊢
      clear t16 nq16
      have f16 : Dx K l G16 (.ref q16) (.tuple [S "spot", tD p.2, .tuple pd, .tuple pd]) := .tup hq16 (.cons (.str _) (.cons (dx_tup (SS _ _ hsp)) (.cons (Dx.same SS _ _ dxp) (.cons (Dx.same SS _ _ dxp) (.nil)))))
      have sf16 : Sh 14 (.tuple [S "spot", tD p.2, .tuple pd, .tuple pd]) := (Sh.tup (sh_cons (((sh_str (n := 0) (x := "spot") (by decide +kernel))).mono (by decide)) (sh_cons ((shs1).mono (by decide)) (sh_cons (shp) (sh_cons (shp) (sh_nil))))))
      refine ⟨_, rfl, by show 2 ≤ sizeLine; decide, fun q17 nq17 => ?_⟩
      have t17 := same_upd (o := .tup [.str "touch", .ref pa]) nq17
      replace f16 := Dx.same t17 _ _ f16
      replace hod := t17 _ _ hod
      replace dxo := DxAll.same t17 _ _ dxo
      have hq17 : (upd G16 q17 (.tup [.str "touch", .ref pa])) q17 = some (.tup [.str "touch", .ref pa]) := upd_same
      have lq17 : q17 ≠ l := fun e => by rw [e, SS _ _ gl0] at nq17; cases nq17
      replace SS := SS.trans t17
      generalize upd G16 q17 (.tup [.str "touch", .ref pa]) = G17 at t17 hq17 SS f16 hod dxo ⊢
      clear t17 nq17
      have f17 : Dx K l G17 (.ref q17) (.tuple [S "touch", .tuple pd]) := .tup hq17 (.cons (.str _) (.cons (Dx.same SS _ _ dxp) (.nil)))
      have sf17 : Sh 14 (.tuple [S "touch", .tuple pd]) := (Sh.tup (sh_cons (((sh_str (n := 0) (x := "touch") (by decide +kernel))).mono (by decide)) (sh_cons (shp) (sh_nil))))
      refine ⟨_, rfl, pa, _, rfl, .inr (SqT.of (SS _ _ hpa)), fun q18 nq18 => ?_⟩
      have t18 := same_upd (o := .lst px) nq18
      replace f16 := Dx.same t18 _ _ f16
      replace f17 := Dx.same t18 _ _ f17
      replace hod := t18 _ _ hod
      replace dxo := DxAll.same t18 _ _ dxo
      have hq18 : (upd G17 q18 (.lst px)) q18 = some (.lst px) := upd_same
      have lq18 : q18 ≠ l := fun e => by rw [e, SS _ _ gl0] at nq18; cases nq18
      replace SS := SS.trans t18
      generalize upd G17 q18 (.lst px) = G18 at t18 hq18 SS f16 f17 hod dxo ⊢
      clear t18 nq18
      have f18 : Dx K l G18 (.ref q18) (.list pd) := .lst lq18 hq18 (DxAll.same SS _ _ dxpa)
      refine ⟨by show 3 ≤ sizeLine; decide, fun q19 nq19 => ?_⟩
      have t19 := same_upd (o := .lst [.ref q16, .ref q17, .ref q18]) nq19
      replace f16 := Dx.same t19 _ _ f16
      replace f17 := Dx.same t19 _ _ f17
      replace f18 := Dx.same t19 _ _ f18
      replace hod := t19 _ _ hod
      replace dxo := DxAll.same t19 _ _ dxo
      have hq19 : (upd G18 q19 (.lst [.ref q16, .ref q17, .ref q18])) q19 = some (.lst [.ref q16, .ref q17, .ref q18]) := upd_same
      have lq19 : q19 ≠ l := fun e => by rw [e, SS _ _ gl0] at nq19; cases nq19
      replace SS := SS.trans t19
      generalize upd G18 q19 (.lst [.ref q16, .ref q17, .ref q18]) = G19 at t19 hq19 SS f16 f17 f18 hod dxo ⊢
      clear t19 nq19
      have dn : DxAll K l G19 [.ref q16, .ref q17, .ref q18] [.tuple [S "spot", tD p.2, .tuple pd, .tuple pd], .tuple [S "touch", .tuple pd], .list pd] := .cons f16 (.cons f17 (.cons f18 (.nil)))
      have sn : ∀ d ∈ ([.tuple [S "spot", tD p.2, .tuple pd, .tuple pd], .tuple [S "touch", .tuple pd], .list pd] : List PyData), PD d := pd_cons (.four (((sh_str (n := 0) (x := "spot") (by decide +kernel))).mono (by decide)) ((shs1).mono (by decide)) pdp pdp) (pd_cons (.two (((sh_str (n := 0) (x := "touch") (by decide +kernel))).mono (by decide)) (fun es z => by cases z; exact lkp)) (pd_cons (.other fun _ z => nomatch z) (pd_nil)))
      refine ⟨q15, q19, _, _, rfl, rfl, hod, hq19, by rw [lno]; show 12 ≤ sizeLine; decide, fun q20 nq20 => ?_⟩
      have tt := same_upd (o := .lst (vs ++ [.ref q16, .ref q17, .ref q18])) nq20
      have lq20 : q20 ≠ l := fun e => by rw [e, SS _ _ gl0] at nq20; cases nq20
      have O : Odd K l (upd G19 q20 (.lst (vs ++ [.ref q16, .ref q17, .ref q18]))) q20 12 := ⟨lq20, _, _, upd_same, (DxAll.same tt _ _ dxo).append (DxAll.same tt _ _ dn), fun d hd => (List.mem_append.mp hd).elim (sho d) (sn d), by rw [List.length_append, lno]; rfl⟩
      replace SS := SS.trans tt
      generalize upd G19 q20 (.lst (vs ++ [.ref q16, .ref q17, .ref q18])) = G20 at SS O ⊢
      clear tt nq20 dn sn hod dxo sho lno hq19 lq19 lq20
      obtain ⟨lod, vs, ds, hod, dxo, sho, lno⟩ := O
      refine ⟨_, rfl, by show 1 ≤ sizeLine; decide, fun q21 nq21 => ?_⟩
      have t21 := same_upd (o := .lst [.str "a"]) nq21
      replace hod := t21 _ _ hod
      replace dxo := DxAll.same t21 _ _ dxo
      have hq21 : (upd G20 q21 (.lst [.str "a"])) q21 = some (.lst [.str "a"]) := upd_same
      have lq21 : q21 ≠ l := fun e => by rw [e, SS _ _ gl0] at nq21; cases nq21
      replace SS := SS.trans t21
      generalize upd G20 q21 (.lst [.str "a"]) = G21 at t21 hq21 SS  hod dxo ⊢
      clear t21 nq21
      have f21 : Dx K l G21 (.ref q21) (.list [S "a"]) := .lst lq21 hq21 (.cons (.str _) (.nil))
      have sf21 : Sh 1 (.list [S "a"]) := (Sh.lst (sh_cons ((sh_str (n := 0) (x := "a") (by decide +kernel))) (sh_nil)))
      refine ⟨_, rfl, p.1, _, _, _, rfl, rfl, SqT.of (SS _ _ hsp), hc0, by show 2 ≤ sizeLine; decide, fun q22 nq22 => ?_⟩
      have t22 := same_upd (o := .tup [.ref q21, .str n0]) nq22
      replace f21 := Dx.same t22 _ _ f21
      replace hod := t22 _ _ hod
      replace dxo := DxAll.same t22 _ _ dxo
      have hq22 : (upd G21 q22 (.tup [.ref q21, .str n0])) q22 = some (.tup [.ref q21, .str n0]) := upd_same
      have lq22 : q22 ≠ l := fun e => by rw [e, SS _ _ gl0] at nq22; cases nq22
      replace SS := SS.trans t22
      generalize upd G21 q22 (.tup [.ref q21, .str n0]) = G22 at t22 hq22 SS f21 hod dxo ⊢
      clear t22 nq22
      have f22 : Dx K l G22 (.ref q22) (.tuple [.list [S "a"], S n0]) := .tup hq22 (.cons f21 (.cons (.str _) (.nil)))
      have sf22 : Sh 2 (.tuple [.list [S "a"], S n0]) := (Sh.tup (sh_cons (sf21) (sh_cons (((sh_str (n := 0) okn0)).mono (by decide)) (sh_nil))))
      refine ⟨by show 2 ≤ sizeLine; decide, fun q23 nq23 => ?_⟩
      have t23 := same_upd (o := .tup [.str "touch", .ref q22]) nq23
      replace f22 := Dx.same t23 _ _ f22
      replace hod := t23 _ _ hod
      replace dxo := DxAll.same t23 _ _ dxo
      have hq23 : (upd G22 q23 (.tup [.str "touch", .ref q22])) q23 = some (.tup [.str "touch", .ref q22]) := upd_same
      have lq23 : q23 ≠ l := fun e => by rw [e, SS _ _ gl0] at nq23; cases nq23
      replace SS := SS.trans t23
      generalize upd G22 q23 (.tup [.str "touch", .ref q22]) = G23 at t23 hq23 SS f22 hod dxo ⊢
      clear t23 nq23
      have f23 : Dx K l G23 (.ref q23) (.tuple [S "touch", .tuple [.list [S "a"], S n0]]) := .tup hq23 (.cons (.str _) (.cons f22 (.nil)))
      have sf23 : Sh 3 (.tuple [S "touch", .tuple [.list [S "a"], S n0]]) := (Sh.tup (sh_cons (((sh_str (n := 0) (x := "touch") (by decide +kernel))).mono (by decide)) (sh_cons (sf22) (sh_nil))))
      refine ⟨by show 0 ≤ sizeLine; decide, fun q24 nq24 => ?_⟩
      have t24 := same_upd (o := .lst []) nq24
      replace f23 := Dx.same t24 _ _ f23
      replace hod := t24 _ _ hod
      replace dxo := DxAll.same t24 _ _ dxo
      have hq24 : (upd G23 q24 (.lst [])) q24 = some (.lst []) := upd_same
      have lq24 : q24 ≠ l := fun e => by rw [e, SS _ _ gl0] at nq24; cases nq24
      replace SS := SS.trans t24
      generalize upd G23 q24 (.lst []) = G24 at t24 hq24 SS f23 hod dxo ⊢
      clear t24 nq24
      have f24 : Dx K l G24 (.ref q24) (.list []) := .lst lq24 hq24 (.nil)
      have sf24 : Sh 1 (.list []) := (Sh.lst (sh_nil (n := 0)))
      intro q25 nq25
      have t25 := same_upd (o := .dK []) nq25
      replace f23 := Dx.same t25 _ _ f23
      replace f24 := Dx.same t25 _ _ f24
      replace hod := t25 _ _ hod
      replace dxo := DxAll.same t25 _ _ dxo
      have hq25 : (upd G24 q25 (.dK [])) q25 = some (.dK []) := upd_same
      have lq25 : q25 ≠ l := fun e => by rw [e, SS _ _ gl0] at nq25; cases nq25
      replace SS := SS.trans t25
      generalize upd G24 q25 (.dK []) = G25 at t25 hq25 SS f23 f24 hod dxo ⊢
      clear t25 nq25
      have f25 : Dx K l G25 (.ref q25) (.dict []) := .dct hq25
      refine ⟨_, rfl, _, rfl, p.1, _, _, _, rfl, rfl, SqT.of (SS _ _ hsp), hc1, by show 4 ≤ sizeLine; decide, fun q26 nq26 => ?_⟩
      have t26 := same_upd (o := .tup [.ref q24, .ref q25, .str n1, .str "a"]) nq26
      replace f23 := Dx.same t26 _ _ f23
      replace f24 := Dx.same t26 _ _ f24
      replace f25 := Dx.same t26 _ _ f25
      replace hod := t26 _ _ hod
      replace dxo := DxAll.same t26 _ _ dxo
      have hq26 : (upd G25 q26 (.tup [.ref q24, .ref q25, .str n1, .str "a"])) q26 = some (.tup [.ref q24, .ref q25, .str n1, .str "a"]) := upd_same
      have lq26 : q26 ≠ l := fun e => by rw [e, SS _ _ gl0] at nq26; cases nq26
      replace SS := SS.trans t26
      generalize upd G25 q26 (.tup [.ref q24, .ref q25, .str n1, .str "a"]) = G26 at t26 hq26 SS f23 f24 f25 hod dxo ⊢
      clear t26 nq26
      have f26 : Dx K l G26 (.ref q26) (.tuple [.list [], .dict [], S n1, S "a"]) := .tup hq26 (.cons f24 (.cons f25 (.cons (.str _) (.cons (.str _) (.nil)))))
      refine ⟨by show 2 ≤ sizeLine; decide, fun q27 nq27 => ?_⟩
      have t27 := same_upd (o := .tup [.str "touch", .ref q26]) nq27
      replace f23 := Dx.same t27 _ _ f23
      replace f26 := Dx.same t27 _ _ f26
      replace hod := t27 _ _ hod
      replace dxo := DxAll.same t27 _ _ dxo
      have hq27 : (upd G26 q27 (.tup [.str "touch", .ref q26])) q27 = some (.tup [.str "touch", .ref q26]) := upd_same
      have lq27 : q27 ≠ l := fun e => by rw [e, SS _ _ gl0] at nq27; cases nq27
      replace SS := SS.trans t27
      generalize upd G26 q27 (.tup [.str "touch", .ref q26]) = G27 at t27 hq27 SS f23 f26 hod dxo ⊢
      clear t27 nq27
      have f27 : Dx K l G27 (.ref q27) (.tuple [S "touch", .tuple [.list [], .dict [], S n1, S "a"]]) := .tup hq27 (.cons (.str _) (.cons f26 (.nil)))
      refine ⟨by show 2 ≤ sizeLine; decide, fun q28 nq28 => ?_⟩
      have t28 := same_upd (o := .lst [.ref q23, .ref q27]) nq28
      replace f23 := Dx.same t28 _ _ f23
      replace f27 := Dx.same t28 _ _ f27
      replace hod := t28 _ _ hod
      replace dxo := DxAll.same t28 _ _ dxo
      have hq28 : (upd G27 q28 (.lst [.ref q23, .ref q27])) q28 = some (.lst [.ref q23, .ref q27]) := upd_same
      have lq28 : q28 ≠ l := fun e => by rw [e, SS _ _ gl0] at nq28; cases nq28
      replace SS := SS.trans t28
      generalize upd G27 q28 (.lst [.ref q23, .ref q27]) = G28 at t28 hq28 SS f23 f27 hod dxo ⊢
      clear t28 nq28
      have dn : DxAll K l G28 [.ref q23, .ref q27] [.tuple [S "touch", .tuple [.list [S "a"], S n0]], .tuple [S "touch", .tuple [.list [], .dict [], S n1, S "a"]]] := .cons f23 (.cons f27 (.nil))
      have sn : ∀ d ∈ ([.tuple [S "touch", .tuple [.list [S "a"], S n0]], .tuple [S "touch", .tuple [.list [], .dict [], S n1, S "a"]]] : List PyData), PD d := pd_cons (.two (((sh_str (n := 0) (x := "touch") (by decide +kernel))).mono (by decide)) (fun es z => by cases z; exact (lk_cons (.inl ((sf21).shaped (by decide))) (lk_cons ((lk_str okn0)) (lk_nil))))) (pd_cons (.two (((sh_str (n := 0) (x := "touch") (by decide +kernel))).mono (by decide)) (fun es z => by cases z; exact (lk_cons (.inl ((sf24).shaped (by decide))) (lk_cons (.inr rfl) (lk_cons ((lk_str okn1)) (lk_cons ((lk_str (x := "a") (by decide +kernel))) (lk_nil))))))) (pd_nil))
      refine ⟨q20, q28, _, _, rfl, rfl, hod, hq28, by rw [lno]; show 14 ≤ sizeLine; decide, fun q29 nq29 => ?_⟩
      have tt := same_upd (o := .lst (vs ++ [.ref q23, .ref q27])) nq29
      have lq29 : q29 ≠ l := fun e => by rw [e, SS _ _ gl0] at nq29; cases nq29
      have O : Odd K l (upd G28 q29 (.lst (vs ++ [.ref q23, .ref q27]))) q29 14 := ⟨lq29, _, _, upd_same, (DxAll.same tt _ _ dxo).append (DxAll.same tt _ _ dn), fun d hd => (List.mem_append.mp hd).elim (sho d) (sn d), by rw [List.length_append, lno]; rfl⟩
      replace SS := SS.trans tt
      generalize upd G28 q29 (.lst (vs ++ [.ref q23, .ref q27])) = G29 at SS O ⊢
      clear tt nq29 dn sn hod dxo sho lno hq28 lq28 lq29
      obtain ⟨lod, vs, ds, hod, dxo, sho, lno⟩ := O
      refine ⟨_, rfl, _, rfl, p.1, _, rfl, SqT.of (SS _ _ hsp), by show 2 ≤ sizeLine; decide, fun q30 nq30 => ?_⟩
      have t30 := same_upd (o := .tup [.str "touch", .ref p.1]) nq30
      replace hod := t30 _ _ hod
      replace dxo := DxAll.same t30 _ _ dxo
      have hq30 : (upd G29 q30 (.tup [.str "touch", .ref p.1])) q30 = some (.tup [.str "touch", .ref p.1]) := upd_same
      have lq30 : q30 ≠ l := fun e => by rw [e, SS _ _ gl0] at nq30; cases nq30
      replace SS := SS.trans t30
      generalize upd G29 q30 (.tup [.str "touch", .ref p.1]) = G30 at t30 hq30 SS  hod dxo ⊢
      clear t30 nq30
      have f30 : Dx K l G30 (.ref q30) (.tuple [S "touch", tD p.2]) := .tup hq30 (.cons (.str _) (.cons (dx_tup (SS _ _ hsp)) (.nil)))
      have sf30 : Sh 2 (.tuple [S "touch", tD p.2]) := (Sh.tup (sh_cons (((sh_str (n := 0) (x := "touch") (by decide +kernel))).mono (by decide)) (sh_cons (shs1) (sh_nil))))
      refine ⟨by show 6 ≤ sizeLine; decide, fun q31 nq31 => ?_⟩
      have t31 := same_upd (o := .tup [.str "a", .str "b", .str "c", .str "d", .str "e", .str "f"]) nq31
      replace f30 := Dx.same t31 _ _ f30
      replace hod := t31 _ _ hod
      replace dxo := DxAll.same t31 _ _ dxo
      have hq31 : (upd G30 q31 (.tup [.str "a", .str "b", .str "c", .str "d", .str "e", .str "f"])) q31 = some (.tup [.str "a", .str "b", .str "c", .str "d", .str "e", .str "f"]) := upd_same
      have lq31 : q31 ≠ l := fun e => by rw [e, SS _ _ gl0] at nq31; cases nq31
      replace SS := SS.trans t31
      generalize upd G30 q31 (.tup [.str "a", .str "b", .str "c", .str "d", .str "e", .str "f"]) = G31 at t31 hq31 SS f30 hod dxo ⊢
      clear t31 nq31
      have f31 : Dx K l G31 (.ref q31) (.tuple [S "a", S "b", S "c", S "d", S "e", S "f"]) := .tup hq31 (.cons (.str _) (.cons (.str _) (.cons (.str _) (.cons (.str _) (.cons (.str _) (.cons (.str _) (.nil)))))))
      have sf31 : Sh 1 (.tuple [S "a", S "b", S "c", S "d", S "e", S "f"]) := (Sh.tup (sh_cons ((sh_str (n := 0) (x := "a") (by decide +kernel))) (sh_cons ((sh_str (n := 0) (x := "b") (by decide +kernel))) (sh_cons ((sh_str (n := 0) (x := "c") (by decide +kernel))) (sh_cons ((sh_str (n := 0) (x := "d") (by decide +kernel))) (sh_cons ((sh_str (n := 0) (x := "e") (by decide +kernel))) (sh_cons ((sh_str (n := 0) (x := "f") (by decide +kernel))) (sh_nil))))))))
      refine ⟨by show 2 ≤ sizeLine; decide, fun q32 nq32 => ?_⟩
      have t32 := same_upd (o := .tup [.str "touch", .ref q31]) nq32
      replace f30 := Dx.same t32 _ _ f30
      replace f31 := Dx.same t32 _ _ f31
      replace hod := t32 _ _ hod
      replace dxo := DxAll.same t32 _ _ dxo
      have hq32 : (upd G31 q32 (.tup [.str "touch", .ref q31])) q32 = some (.tup [.str "touch", .ref q31]) := upd_same
      have lq32 : q32 ≠ l := fun e => by rw [e, SS _ _ gl0] at nq32; cases nq32
      replace SS := SS.trans t32
      generalize upd G31 q32 (.tup [.str "touch", .ref q31]) = G32 at t32 hq32 SS f30 f31 hod dxo ⊢
      clear t32 nq32
      have f32 : Dx K l G32 (.ref q32) (.tuple [S "touch", .tuple [S "a", S "b", S "c", S "d", S "e", S "f"]]) := .tup hq32 (.cons (.str _) (.cons f31 (.nil)))
      have sf32 : Sh 2 (.tuple [S "touch", .tuple [S "a", S "b", S "c", S "d", S "e", S "f"]]) := (Sh.tup (sh_cons (((sh_str (n := 0) (x := "touch") (by decide +kernel))).mono (by decide)) (sh_cons (sf31) (sh_nil))))
      refine ⟨by show 2 ≤ sizeLine; decide, fun q33 nq33 => ?_⟩
      have t33 := same_upd (o := .lst [.ref q30, .ref q32]) nq33
      replace f30 := Dx.same t33 _ _ f30
      replace f32 := Dx.same t33 _ _ f32
      replace hod := t33 _ _ hod
      replace dxo := DxAll.same t33 _ _ dxo
      have hq33 : (upd G32 q33 (.lst [.ref q30, .ref q32])) q33 = some (.lst [.ref q30, .ref q32]) := upd_same
      have lq33 : q33 ≠ l := fun e => by rw [e, SS _ _ gl0] at nq33; cases nq33
      replace SS := SS.trans t33
      generalize upd G32 q33 (.lst [.ref q30, .ref q32]) = G33 at t33 hq33 SS f30 f32 hod dxo ⊢
      clear t33 nq33
      have dn : DxAll K l G33 [.ref q30, .ref q32] [.tuple [S "touch", tD p.2], .tuple [S "touch", .tuple [S "a", S "b", S "c", S "d", S "e", S "f"]]] := .cons f30 (.cons f32 (.nil))
      have sn : ∀ d ∈ ([.tuple [S "touch", tD p.2], .tuple [S "touch", .tuple [S "a", S "b", S "c", S "d", S "e", S "f"]]] : List PyData), PD d := pd_cons (.two (((sh_str (n := 0) (x := "touch") (by decide +kernel))).mono (by decide)) (fun es z => by cases z; exact lkt)) (pd_cons (.two (((sh_str (n := 0) (x := "touch") (by decide +kernel))).mono (by decide)) (fun es z => by cases z; exact (lk_cons ((lk_str (x := "a") (by decide +kernel))) (lk_cons ((lk_str (x := "b") (by decide +kernel))) (lk_cons ((lk_str (x := "c") (by decide +kernel))) (lk_cons ((lk_str (x := "d") (by decide +kernel))) (lk_cons ((lk_str (x := "e") (by decide +kernel))) (lk_cons ((lk_str (x := "f") (by decide +kernel))) (lk_nil))))))))) (pd_nil))
      refine ⟨q29, q33, _, _, rfl, rfl, hod, hq33, by rw [lno]; show 16 ≤ sizeLine; decide, fun q34 nq34 => ?_⟩
      have tt := same_upd (o := .lst (vs ++ [.ref q30, .ref q32])) nq34
      have lq34 : q34 ≠ l := fun e => by rw [e, SS _ _ gl0] at nq34; cases nq34
      have O : Odd K l (upd G33 q34 (.lst (vs ++ [.ref q30, .ref q32]))) q34 16 := ⟨lq34, _, _, upd_same, (DxAll.same tt _ _ dxo).append (DxAll.same tt _ _ dn), fun d hd => (List.mem_append.mp hd).elim (sho d) (sn d), by rw [List.length_append, lno]; rfl⟩
      replace SS := SS.trans tt
      generalize upd G33 q34 (.lst (vs ++ [.ref q30, .ref q32])) = G34 at SS O ⊢
      clear tt nq34 dn sn hod dxo sho lno hq33 lq33 lq34
      obtain ⟨lod, vs, ds, hod, dxo, sho, lno⟩ := O
      refine ⟨_, rfl, _, rfl, by show 1 ≤ sizeLine; decide, fun q35 nq35 => ?_⟩
      have t35 := same_upd (o := .tup [.int 0]) nq35
      replace hod := t35 _ _ hod
      replace dxo := DxAll.same t35 _ _ dxo
      have hq35 : (upd G34 q35 (.tup [.int 0])) q35 = some (.tup [.int 0]) := upd_same
      have lq35 : q35 ≠ l := fun e => by rw [e, SS _ _ gl0] at nq35; cases nq35
      replace SS := SS.trans t35
      generalize upd G34 q35 (.tup [.int 0]) = G35 at t35 hq35 SS  hod dxo ⊢
      clear t35 nq35
      refine ⟨pa, q35, _, _, rfl, rfl, SqT.of (SS _ _ hpa), SqT.of hq35, pne, plen, (fun e => nomatch e), fun _ q36 nq36 => ?_⟩
      have t36 := same_upd (o := .tup (px ++ [.int 0])) nq36
      replace hod := t36 _ _ hod
      replace dxo := DxAll.same t36 _ _ dxo
      have hq36 : (upd G35 q36 (.tup (px ++ [.int 0]))) q36 = some (.tup (px ++ [.int 0])) := upd_same
      have lq36 : q36 ≠ l := fun e => by rw [e, SS _ _ gl0] at nq36; cases nq36
      replace SS := SS.trans t36
      generalize upd G35 q36 (.tup (px ++ [.int 0])) = G36 at t36 hq36 SS  hod dxo ⊢
      clear t36 nq36
      have f36 : Dx K l G36 (.ref q36) (.tuple (pd ++ [.int 0])) := .tup hq36 ((DxAll.same SS _ _ dxpa).append (.cons (.int 0) .nil))
      refine ⟨_, rfl, _, rfl, by show 4 ≤ sizeLine; decide, fun q37 nq37 => ?_⟩
      have t37 := same_upd (o := .tup [.str "spot", .ref p.1, .non, .ref pa]) nq37
      replace f36 := Dx.same t37 _ _ f36
      replace hod := t37 _ _ hod
      replace dxo := DxAll.same t37 _ _ dxo
      have hq37 : (upd G36 q37 (.tup [.str "spot", .ref p.1, .non, .ref pa])) q37 = some (.tup [.str "spot", .ref p.1, .non, .ref pa]) := upd_same
      have lq37 : q37 ≠ l := fun e => by rw [e, SS _ _ gl0] at nq37; cases nq37
      replace SS := SS.trans t37
      generalize upd G36 q37 (.tup [.str "spot", .ref p.1, .non, .ref pa]) = G37 at t37 hq37 SS f36 hod dxo ⊢
      clear t37 nq37
      have f37 : Dx K l G37 (.ref q37) (.tuple [S "spot", tD p.2, .none, .tuple pd]) := .tup hq37 (.cons (.str _) (.cons (dx_tup (SS _ _ hsp)) (.cons .non (.cons (Dx.same SS _ _ dxp) (.nil)))))
      have sf37 : Sh 14 (.tuple [S "spot", tD p.2, .none, .tuple pd]) := (Sh.tup (sh_cons (((sh_str (n := 0) (x := "spot") (by decide +kernel))).mono (by decide)) (sh_cons ((shs1).mono (by decide)) (sh_cons ((sh_non).mono (by decide)) (sh_cons (shp) (sh_nil))))))
      refine ⟨by show 2 ≤ sizeLine; decide, fun q38 nq38 => ?_⟩
      have t38 := same_upd (o := .lst [.ref q36, .ref q37]) nq38
      replace f36 := Dx.same t38 _ _ f36
      replace f37 := Dx.same t38 _ _ f37
      replace hod := t38 _ _ hod
      replace dxo := DxAll.same t38 _ _ dxo
      have hq38 : (upd G37 q38 (.lst [.ref q36, .ref q37])) q38 = some (.lst [.ref q36, .ref q37]) := upd_same
      have lq38 : q38 ≠ l := fun e => by rw [e, SS _ _ gl0] at nq38; cases nq38
      replace SS := SS.trans t38
      generalize upd G37 q38 (.lst [.ref q36, .ref q37]) = G38 at t38 hq38 SS f36 f37 hod dxo ⊢
      clear t38 nq38
      have dn : DxAll K l G38 [.ref q36, .ref q37] [.tuple (pd ++ [.int 0]), .tuple [S "spot", tD p.2, .none, .tuple pd]] := .cons f36 (.cons f37 (.nil))
      have sn : ∀ d ∈ ([.tuple (pd ++ [.int 0]), .tuple [S "spot", tD p.2, .none, .tuple pd]] : List PyData), PD d := pd_cons pdp0 (pd_cons (.four (((sh_str (n := 0) (x := "spot") (by decide +kernel))).mono (by decide)) ((shs1).mono (by decide)) (.other fun _ z => nomatch z) pdp) (pd_nil))
      refine ⟨q34, q38, _, _, rfl, rfl, hod, hq38, by rw [lno]; show 18 ≤ sizeLine; decide, fun q39 nq39 => ?_⟩
      have tt := same_upd (o := .lst (vs ++ [.ref q36, .ref q37])) nq39
      have lq39 : q39 ≠ l := fun e => by rw [e, SS _ _ gl0] at nq39; cases nq39
      have O : Odd K l (upd G38 q39 (.lst (vs ++ [.ref q36, .ref q37]))) q39 18 := ⟨lq39, _, _, upd_same, (DxAll.same tt _ _ dxo).append (DxAll.same tt _ _ dn), fun d hd => (List.mem_append.mp hd).elim (sho d) (sn d), by rw [List.length_append, lno]; rfl⟩
      replace SS := SS.trans tt
      generalize upd G38 q39 (.lst (vs ++ [.ref q36, .ref q37])) = G39 at SS O ⊢
      clear tt nq39 dn sn hod dxo sho lno hq38 lq38 lq39
      obtain ⟨lod, vs, ds, hod, dxo, sho, lno⟩ := O
      refine ⟨_, rfl, _, rfl, _, rfl, q39, _, rfl, .inl (SqL.of hod), l, _, _, _, rfl, by rw [lno]; decide, by rw [lno]; decide, SS _ _ gl0, fun d xx yy d0 d1 => ?_⟩
      obtain ⟨c, hc, mc⟩ := atI_get (xs := vs) d0 d1
      obtain ⟨dd, hdd, dxv⟩ := dx_mem dxo mc
      have sl : SameX l G39 (upd G39 l (.lst [.int xx, .int yy])) := SameX.upd
      exact ⟨q39, _, _, _, rfl, rfl, SqL.of (sl _ _ lod hod), hc, fin _ _ _ (sx0.trans ((SameX.of SS).trans sl)) ⟨xx, yy, upd_same⟩ (Dx.move sl (SS _ _ gl0) _ _ dxv) (sho dd hdd)⟩
theorem ok_bent {f : Addr} {fd : FuncData} (F : Fun K "_law_bent" "_law_bent" sBent f fd) (T : Txt mg) (GD : Glb P w K mg base "_law_draw" 1 ["_law_draws_here", "_law_upto"] spDraw) (mF : mg "_law_bent" = some (.ref f)) (kF : PySem.W.keepIn K (.ref f) = true)
    (bF : L2.Binds K fd ["_law_draws_here", "_law_some", "_law_paper_here"] []) : ∀ n, FnOk P w K mg base (L2.CX P w) (n + 1) f fd ["_law_draws_here", "_law_some", "_law_paper_here"] (spBent K n)
  | 0 => by
    have sc : FnScope NB ["_law_draws_here", "_law_some", "_law_paper_here"] (defScope sBent) := ⟨rfl, rfl, rfl, by decide +kernel, rfl, by decide +kernel, by decide +kernel⟩
    refine F.okX sc (fun vs H Q E h => ?_) (fun cdv A outer s H vs Q E hr h => ?_)
    · obtain ⟨l, a, pa, dp, L, k, rfl, _⟩ := h
      rfl
    · obtain ⟨l, a, pa, dp, L, k, rfl, _, _, _, _, _, _, _, _, kn, _⟩ := h
      exact absurd kn (Nat.not_lt_zero _)
  | n + 1 => bent_step F T GD mF kF bF (ok_bent F T GD mF kF bF n)
end
end R8
end

-- B8v
section
set_option Elab.async false
set_option linter.all false
set_option maxRecDepth 100000
set_option exponentiation.threshold 6000
namespace R8
open PySem L2 OwnOps OwnNe G1 EqDict MinKey SetSort DictList StX TryAs DX
abbrev sLaw : Stmt := top 32
abbrev NL : List Str := ["_law_script", "_law_k", "_law_draws_here", "_law_some", "_law_many", "_law_again", "_law_most", "_law_paper_here", "_law_told"]
theorem cutVG {goal : Prop} {C Y : V → Hp → Prop} (body : (∀ v G, C v G → Y v G) → goal) (next : ∀ v G, C v G → Y v G) : goal := body next
theorem nodup_map : ∀ {L : List Spt}, (L.map (·.1)).Nodup → L.Nodup
  | [], _ => .nil
  | p :: r, h => by
    rw [List.map_cons, List.nodup_cons] at h
    exact List.nodup_cons.mpr ⟨fun m => h.1 (List.mem_map.mpr ⟨p, m, rfl⟩), nodup_map h.2⟩
section
variable {P : Program} {w : World} {K : PySem.W.Frag} {mg : Str → Option Value} {base : Heap} {CP CL : Addr}
def spLaw (K : PySem.W.Frag) : Sp := fun vs H Q _ => ∃ (a : Addr) (ns : List Int), vs = [.ref a] ∧ SqL K H a (ns.map V.int) ∧ ∀ H', Same H H' → Q (.bl true) H'
set_option maxHeartbeats 8000000 in
theorem ok_law {f : Addr} {fd : FuncData} (F : Fun K "law" "law" sLaw f fd) (T : Txt mg) (TB : mg "bool" = none) (GDs : Glb P w K mg base "_law_draws" 1 ["_law_script", "_law_k"] (spDraws K)) (GD : Glb P w K mg base "_law_draw" 1 ["_law_draws_here", "_law_upto"] spDraw) (GSp : Glb P w K mg base "_law_spots" 2 ["_law_draws_here", "_law_most"] spSpots)
    (GP : Glb P w K mg base "_law_paper" 9 ["_law_draws_here", "_law_some", "_law_many"] (spPaper K 8)) (GB : Glb P w K mg base "_law_bent" 10 ["_law_draws_here", "_law_some", "_law_paper_here"] (spBent K 9)) (GO : Glb P w K mg base "_law_so" 16 ["_law_some", "_law_many", "_law_paper_here"] (spHolds K 15))
    (G1 : Glb P w K mg base "most_apart" 17 ["some"] (spMA CP CL)) (G2 : Glb P w K mg base "apart_paper" 19 ["some", "many"] (spAP CP CL)) (G3 : Glb P w K mg base "lets_apart" 17 ["some", "many", "paper"] (spLA K)) : FnOk P w K mg base (L2.CX P w) 20 f fd ["_law_script"] (spLaw K) := by
  obtain ⟨_, _, mS, kS, GS, bS⟩ := GDs.ex
  obtain ⟨_, _, mD, kD, GD, bD⟩ := GD.ex
  obtain ⟨_, _, mR, kR, GR, bR⟩ := GSp.ex
  obtain ⟨_, _, mP, kP, GP, bP⟩ := GP.ex
  obtain ⟨_, _, mB, kB, GB, bB⟩ := GB.ex
  obtain ⟨_, _, mO, kO, GO, bO⟩ := GO.ex
  obtain ⟨_, _, m1, k1, G1, b1⟩ := G1.ex
  obtain ⟨_, _, m2, k2, G2, b2⟩ := G2.ex
  obtain ⟨_, _, m3, k3, G3, b3⟩ := G3.ex
  have sc : FnScope NL ["_law_script"] (defScope sLaw) := ⟨rfl, rfl, rfl, by decide +kernel, rfl, by decide +kernel, by decide +kernel⟩
  refine F.okX sc (fun vs H Q E h => ?_) (fun cdv A outer s H vs Q E hr h => ?_)
  · obtain ⟨a, ns, rfl, _⟩ := h
    rfl
  · obtain ⟨a, ns, rfl, hS, fin⟩ := h
    have hN := sc.nd
    refine ⟨_, pss_cons (ps_for passOwn rfl (pi_range1 rfl T.range (pa_cons (pe_callB (call_max2 rfl) (by rfl) T.max (by decide +kernel) (pa_cons pe_int (pa_cons (pe_callB (call_min2 rfl) (by rfl) T.min (by decide +kernel) (pa_cons pe_int (pa_cons (pe_callB call_len_seq (by rfl) T.len PySem.boot_len (pa_cons (pv 0) pa_nil)) pa_nil))) pa_nil))) pa_nil)) (pg_name (i := 1) hN rfl (Or.inl rfl))
        (pss_cons (ps_set (i := 2) hN rfl (Or.inl rfl) (pe_call GS (hr.mono (by decide)) (by rfl) mS kS bS .nil passL (pa_cons (pv 0) (pa_cons (pv 1) pa_nil))))
        (pss_cons (ps_set (i := 3) hN rfl (Or.inl rfl) (pe_call GR (hr.mono (by decide)) (by rfl) mR kR bR .nil passL (pa_cons (pv 2) (pa_cons pe_int pa_nil))))
        (pss_cons (ps_set (i := 4) hN rfl (Or.inl rfl) (pe_callB call_len_seq (by rfl) T.len PySem.boot_len (pa_cons (pe_call (E := E0) G1 (hr.mono (by decide)) (by rfl) m1 k1 b1 .nil passL (pa_cons (pv 3) pa_nil)) pa_nil)))
        (pss_one (ps_for passOwn rfl (pi_range1 rfl T.range (pa_cons pe_int pa_nil)) (pg_name (i := 5) hN rfl (Or.inl rfl))
          (pss_cons (ps_set (i := 6) hN rfl (Or.inl rfl) (pe_op op_add (pe_op op_sub (pv 4) pe_int) (pe_call GD (hr.mono (by decide)) (by rfl) mD kD bD .nil passL (pa_cons (pv 2) (pa_cons pe_int pa_nil)))))
          (pss_cons (ps_set (i := 7) hN rfl (Or.inl rfl) (pe_call GP (hr.mono (by decide)) (by rfl) mP kP bP .nil passL (pa_cons (pv 2) (pa_cons (pv 3) (pa_cons (pv 6) pa_nil)))))
          (pss_cons (ps_if (pt_cmpR op_eq (pe_call GD (hr.mono (by decide)) (by rfl) mD kD bD .nil passL (pa_cons (pv 2) (pa_cons pe_int pa_nil))) pe_int (nomark _)) (pss_one (ps_set (i := 7) hN rfl (Or.inl rfl) (pe_call (E := E0) G2 (hr.mono (by decide)) (by rfl) m2 k2 b2 .nil passL (pa_cons (pv 3) (pa_cons (pv 4) pa_nil))))) pss_nil)
          (pss_cons (ps_if (PW.pt (pw_and (pt_cmpR op_eq (pe_call GD (hr.mono (by decide)) (by rfl) mD kD bD .nil passL (pa_cons (pv 2) (pa_cons pe_int pa_nil))) pe_int (nomark _)) (pw_and1 (pt_cmpR op_notN (pv 7) pe_non (nomark _))))) (pss_one (ps_set (i := 7) hN rfl (Or.inl rfl) (pe_call GB (hr.mono (by decide)) (by rfl) mB kB bB .nil passL (pa_cons (pv 2) (pa_cons (pv 3) (pa_cons (pv 7) pa_nil)))))) pss_nil)
          (pss_cons (ps_set (i := 8) hN rfl (Or.inl rfl) (pe_call (E := E0) G3 (hr.mono (by decide)) (by rfl) m3 k3 b3 .nil passL (pa_cons (pv 3) (pa_cons (pv 6) (pa_cons (pv 7) pa_nil)))))
          (pss_one (ps_if (PW.pt (pw_or (pt_not (pt_val (pe_callB call_isi (by rfl) T.isi (by decide +kernel) (pa_cons (pv 8) (pa_cons (pe_bltn (v := .ty "bool") (by rfl) TB (by decide +kernel) rfl) pa_nil))))) (pw_or (pt_cmpR op_ne (pv 8) (pe_call GO (hr.mono (by decide)) (by rfl) mO kO bO .nil passL (pa_cons (pv 3) (pa_cons (pv 6) (pa_cons (pv 7) pa_nil)))) (nomark _))
            (pw_or1 (PW.pt (pw_and (pt_truth (pv 8) (by intro _; rfl)) (pw_and1 (pt_cmpR op_lt (pv 6) (pv 4) (nomark _))))))))) (pss_one (ps_ret pe_bl)) pss_nil)))))))))))))
      (pss_one (ps_ret pe_bl)), ?_⟩
    refine ⟨_, rfl, a, _, rfl, .inl hS, _, _, rfl, _, _, rfl, _, rfl, ?_, ?_, for_range (fun j σ G => (∃ v1 v2 v3 v4 v5 v6 v7 v8, σ = [some (.ref a), v1, v2, v3, v4, v5, v6, v7, v8]) ∧ Same H G) ⟨⟨_, _, _, _, _, _, _, _, rfl⟩, Same.refl H⟩ (fun j σ G hj ⟨⟨v1, v2, v3, v4, v5, v6, v7, v8, e⟩, S⟩ => ?_) (fun σ G ⟨⟨v1, v2, v3, v4, v5, v6, v7, v8, e⟩, S⟩ => ?_)⟩
    · rw [List.length_map]
      split <;> (try split) <;> omega
    · rw [List.length_map]
      split <;> (try split) <;> omega
    · subst e
      refine ⟨_, rfl, _, rfl, a, ns, _, rfl, S.seq hS, fun l x y Ga s3 hl nl => ?_⟩
      refine ⟨_, rfl, l, rfl, ⟨x, y, hl⟩, fun b L Gb sx4 dr4 nb hb lot few ne => ?_⟩
      have S4 : Same G Gb := fun c u e => by
        refine sx4 c u (fun z => ?_) (s3 c u e)
        rw [z, nl] at e
        cases e
      have bl : b ≠ l := fun z => by rw [z, hl] at nb; cases nb
      have good := lot.good hb (by omega)
      refine ⟨_, rfl, .ref b, rfl, .inr (.inr ⟨b, L, rfl, good, fun t R Gc s5 nt ht res => ⟨t, _, rfl, .inl (SqL.of ht), ?_⟩⟩)⟩
      rw [rf_len]
      have opt := res.opt
      generalize R.length = many at opt ⊢
      have many7 : many ≤ 7 := by
        obtain ⟨R, f, e⟩ := opt.is
        have := subLen R L (fam_nodup lot.ne f) f.sub
        omega
      have hb5 := s5 _ _ hb
      have lot5 := lot.same s5
      obtain ⟨x5, y5, gl4⟩ := dr4
      have gl5 := s5 _ _ gl4
      have S5 := S4.trans s5
      clear nt ht res good
      refine ⟨_, rfl, by decide, by decide, for_range (fun i σ G2 => (∃ v5 v6 v7 v8, σ = [some (.ref a), some (.int (0 + (j : Int))), some (.ref l), some (.ref b), some (.int many), v5, v6, v7, v8]) ∧ SameX l Gc G2 ∧ Dr G2 l) ⟨⟨_, _, _, _, rfl⟩, SameX.refl l Gc, x5, y5, gl5⟩ (fun i σ G2 hi ⟨⟨v5, v6, v7, v8, e⟩, sx, ⟨xx, yy, gl⟩⟩ => ?_) (fun σ G2 ⟨⟨v5, v6, v7, v8, e⟩, sx, _⟩ => ?_)⟩
      · subst e
        -- the paper, drawn
        refine ⟨_, rfl, _, _, rfl, rfl, _, rfl, l, 3, xx, yy, rfl, by decide, by decide, gl, fun dm x' y' d0 d1 => ⟨_, _, rfl, rfl, ?_⟩⟩
        have sx6 := sx.trans (SameX.upd (l := l) (H := G2) (o := .lst [.int x', .int y']))
        have gl6 : Dr (upd G2 l (.lst [.int x', .int y'])) l := ⟨x', y', upd_same⟩
        generalize upd G2 l (.lst [.int x', .int y']) = G6 at sx6 gl6 ⊢
        have M1 : (many : Int) - 1 + dm ≤ 1000 := by omega
        have fitX : ∀ G, SameX l Gc G → Good G b L := fun G s => (lot5.move s gl5).good (s _ _ bl hb5) (by omega)
        refine ⟨_, rfl, _, rfl, _, rfl, l, b, (many : Int) - 1 + dm, L, rfl, gl6, (fitX G6 sx6).at_, (fitX G6 sx6).fit, bl, by omega, by decide, fun v dv G7 s7 ⟨x7, y7, hl7⟩ dx7 wp7 => ?_⟩
        have sx7 := sx6.trans s7
        apply cutVG (C := fun v G => SameX l Gc G ∧ Dr G l ∧ ∃ d, Dx K l G v d ∧ WP 8 d)
        · intro rest
          refine ⟨_, rfl, l, 3, x7, y7, rfl, by decide, by decide, hl7, fun d x' y' d0 d1 => ⟨rfl, _, rfl, ?_⟩⟩
          have sx8 := sx7.trans (SameX.upd (l := l) (H := G7) (o := .lst [.int x', .int y']))
          have hl8 : (upd G7 l (.lst [.int x', .int y'])) l = some (.lst [.int x', .int y']) := upd_same
          have dx8 := Dx.move (SameX.upd (l := l) (H := G7) (o := .lst [.int x', .int y'])) hl7 _ _ dx7
          generalize upd G7 l (.lst [.int x', .int y']) = G8 at sx8 hl8 dx8 ⊢
          by_cases c : V.int d = V.int 0
          · refine if_pos' (decide_eq_true c) ?_
            refine ⟨_, rfl, _, rfl, .ref b, many, rfl, by omega, by omega, .inr (.inr ⟨b, L, rfl, fitX G8 sx8, fun k opt' => ?_⟩)⟩
            have ek := opt'.uniq opt
            refine ⟨fun lt => by omega, fun _ u G9 s9 pap => ?_⟩
            have g9 := fitX G9 (sx8.trans (SameX.of s9))
            obtain ⟨du, xu, wu⟩ := pap.wp (K := K) (l := l) g9.fit.tp g9.fit.ok
            exact rest u G9 ⟨sx8.trans (SameX.of s9), ⟨x', y', s9 _ _ hl8⟩, du, xu, wu.up (by omega)⟩
          · refine if_neg' (decide_eq_false c) ?_
            exact rest v G8 ⟨sx8, ⟨x', y', hl8⟩, dv, dx8, wp7⟩
        · intro v G8 ⟨sx8, ⟨x8, y8, hl8⟩, dv, dx8, wp8⟩
          apply cutVG (C := fun v G => SameX l Gc G ∧ Dr G l ∧ ∃ d, Dx K l G v d ∧ PD d)
          · intro rest
            refine ⟨_, rfl, l, 2, x8, y8, rfl, by decide, by decide, hl8, fun d x' y' d0 d1 => ⟨rfl, _, rfl, ?_⟩⟩
            have sx9 := sx8.trans (SameX.upd (l := l) (H := G8) (o := .lst [.int x', .int y']))
            have gl9 : Dr (upd G8 l (.lst [.int x', .int y'])) l := ⟨x', y', upd_same⟩
            have dx9 := Dx.move (SameX.upd (l := l) (H := G8) (o := .lst [.int x', .int y'])) hl8 _ _ dx8
            generalize upd G8 l (.lst [.int x', .int y']) = G9 at sx9 gl9 dx9 ⊢
            by_cases c : V.int d = V.int 0
            · refine if_pos' (decide_eq_true c) ?_
              have hv : ∃ pa, v = .ref pa := by
                cases wp8 with
                | touch => cases dx9; exact ⟨_, rfl⟩
                | spot => cases dx9; exact ⟨_, rfl⟩
              refine ⟨_, rfl, rfl, _, rfl, if_pos' (by rw [hv.choose_spec]; simp) ?_⟩
              have g9 := fitX G9 sx9
              refine ⟨_, rfl, _, rfl, _, rfl, l, b, hv.choose, dv, L, 8, by rw [← hv.choose_spec]; rfl, gl9, g9.at_, g9.fit, bl, ne, by omega, by rw [← hv.choose_spec]; exact dx9, wp8, by decide, by decide, fun v' d' G10 s10 gl10 dx10 pd10 => ?_⟩
              exact rest v' G10 ⟨sx9.trans s10, gl10, d', dx10, pd10⟩
            · refine if_neg' (decide_eq_false c) ?_
              refine if_neg' rfl ?_
              exact rest v G9 ⟨sx9, gl9, dv, dx9, wp8.pd⟩
          · intro v G9 ⟨sx9, gl9, dv, dx9, pd9⟩
            have g9 := fitX G9 sx9
            refine ⟨_, rfl, _, rfl, _, rfl, b, l, (many : Int) - 1 + dm, v, dv, L, rfl, g9, M1, dx9, pd9, fun Gd sd => ?_⟩
            have sxd := sx9.trans (SameX.of sd)
            have gd := fitX Gd sxd
            refine ⟨_, rfl, _, _, _, _, _, rfl, .ty _, .base (.bl _), kit_ty (r := true) (by decide +kernel), _, rfl, if_neg' rfl ?_⟩
            refine ⟨_, rfl, _, rfl, _, rfl, _, rfl, b, l, (many : Int) - 1 + dm, v, dv, L, rfl, gd.at_, gd.fit, by omega, by decide, M1, Dx.same sd _ _ dx9, pd9, fun Ge se => ⟨rfl, _, rfl, if_neg' (by simp) ?_⟩⟩
            obtain ⟨x9, y9, hl9⟩ := gl9
            have endG : SameX l Gc Ge ∧ Dr Ge l := ⟨sxd.trans (SameX.of se), x9, y9, se _ _ (sd _ _ hl9)⟩
            refine ⟨_, rfl, _, rfl, ?_⟩
            cases told : holdsD 15 dv L ((many : Int) - 1 + dm) with
            | false => exact if_neg' rfl (if_neg' rfl ⟨⟨_, _, _, _, rfl⟩, endG⟩)
            | true =>
              have := holds_opt told lot.ne opt
              exact if_pos' rfl ⟨_, rfl, _, rfl, _, _, rfl, rfl, _, rfl, if_neg' (decide_eq_false (by omega)) ⟨⟨_, _, _, _, rfl⟩, endG⟩⟩
      · subst e
        refine ⟨⟨_, _, _, _, _, _, _, _, rfl⟩, fun c u e => ?_⟩
        have e2 := S c u e
        refine sx c u (fun z => ?_) (S5 c u e2)
        rw [z, nl] at e2
        cases e2
    · subst e
      exact fin G S
end
end R8
end

-- B8x
section
set_option Elab.async false
set_option linter.all false
set_option maxRecDepth 100000
set_option exponentiation.threshold 10000
namespace R8
open PySem L2 OwnOps OwnNe G1 EqDict MinKey SetSort DictList StX TryAs DX
/-- a def of the top -/
structure DefG (K : PySem.W.Frag) (x : Str) (st : Stmt) (f : Addr) : Prop where
  here : PySem.W.nsIn K mainGlobals x = some (some (.ref f))
  fn : ∃ fd, Fun K x x st f fd
theorem defG_mk {K : PySem.W.Frag} {x : Str} {st : Stmt} {f : Addr} {oc kV doc pm cdv ct : Value} {od an : Option Addr} {osl : Array (Option Value)} (a : PySem.W.nsIn K mainGlobals x = some (some (.ref f)))
    (l : K.lookup f = some ⟨oc, od, .func (PySem.W.fnOf x x (defArgs st) (defBody st) (defScope st) .none kV doc pm an cdv ct), osl⟩) (c : PySem.W.codeIn K cdv x = true) (k : PySem.W.keepIn K (.ref f) = true) : DefG K x st f := ⟨a, _, fun_mk l c k⟩
/-- a def of the class -/
structure DefM (K : PySem.W.Frag) (C : Addr) (x qual : Str) (st : Stmt) (f : Addr) : Prop where
  here : PySem.W.findIn K (.ref C) x = some (some (.ref f))
  is : PySem.W.isFn K (.ref f) = true
  kp : PySem.W.keepIn K (.ref f) = true
  fn : ∃ fd, Fun K x qual st f fd
theorem defM_mk {K : PySem.W.Frag} {C : Addr} {x qual : Str} {st : Stmt} {f : Addr} {oc kV doc pm cdv ct : Value} {od an : Option Addr} {osl : Array (Option Value)} (a : PySem.W.findIn K (.ref C) x = some (some (.ref f))) (i : PySem.W.isFn K (.ref f) = true)
    (l : K.lookup f = some ⟨oc, od, .func (PySem.W.fnOf x qual (defArgs st) (defBody st) (defScope st) .none kV doc pm an cdv ct), osl⟩) (c : PySem.W.codeIn K cdv qual = true) (k : PySem.W.keepIn K (.ref f) = true) : DefM K C x qual st f := ⟨a, i, k, _, fun_mk l c k⟩
section
variable {P : Program} {w : World} {K : PySem.W.Frag} {h base : Heap} {mg : Str → Option Value} {C : Addr}
theorem glb {x : Str} {st : Stmt} {f : Addr} {k : Nat} {ps : List Str} {sp : Sp} (X : K.In h) (G : h.Ns mainGlobals mg) (d : DefG K x st f) (ok : ∀ fd, Fun K x x st f fd → FnOk P w K mg base (L2.CX P w) k f fd ps sp)
    (b : ∀ fd, Fun K x x st f fd → L2.Binds K fd ps []) : Glb P w K mg base x k ps sp :=
  let ⟨fd, F⟩ := d.fn
  ⟨f, fd, PySem.W.mg_of X G d.here, F.kp, ok fd F, b fd F⟩
theorem dun {nm x qual : Str} {st : Stmt} {f : Addr} {k : Nat} {ps : List Str} {sp : Sp} (hn : nm = x) (d : DefM K C x qual st f) (ok : ∀ fd, Fun K x qual st f fd → FnOk P w K mg base (L2.CX P w) k f fd ps sp)
    (b : ∀ fd, Fun K x qual st f fd → L2.Binds K fd ps []) : Dun P w K mg base C nm k ps sp := by
  subst hn
  obtain ⟨fd, F⟩ := d.fn
  exact ⟨f, fd, d.here, d.is, d.kp, ok fd F, b fd F⟩
theorem kit_rt {T : String} {b : Bool} (m : PySem.W.kitMeta T = true) (e : PySem.W.subIn K (.ref C) (.type T) = some b) : PySem.W.kitOne K (.ref C) (.type T) = some b := by
  show (if (Value.ref C == Value.type T) = true then some true else if PySem.W.kitMeta T = true then PySem.W.subIn K (.ref C) (.type T) else none) = some b
  rw [if_neg (fun q => by cases beq_iff_eq.mp q), if_pos m, e]
theorem kit_tr {T : String} {b : Bool} (i : PySem.W.isClsIn K C = true) (t : PySem.W.typeIn K (.ref C) = some (.type "type")) (e : PySem.W.subIn K (.type T) (.ref C) = some b) : PySem.W.kitOne K (.type T) (.ref C) = some b := by
  have q : ((PySem.W.clsIn K C).isSome && PySem.W.typeIn K (.ref C) == some (.type "type")) = true := by
    rw [show (PySem.W.clsIn K C).isSome = true from i, t]
    rfl
  show (if (Value.type T == Value.ref C) = true then some true else if ((PySem.W.clsIn K C).isSome && PySem.W.typeIn K (.ref C) == some (.type "type")) = true then PySem.W.subIn K (.type T) (.ref C) else none) = some b
  rw [if_neg (fun q => by cases beq_iff_eq.mp q), if_pos q, e]
theorem kit_rr : PySem.W.kitOne K (.ref C) (.ref C) = some true := by
  show (if (Value.ref C == Value.ref C) = true then some true else _) = some true
  rw [if_pos (beq_self_eq_true _)]
/-- the error classes, as the top has made them -/
structure DefE (K : PySem.W.Frag) (cn qn : Str) (newId : String) (bt : List Value) (E fE : Addr) : Prop where
  here : PySem.W.nsIn K mainGlobals cn = some (some (.ref E))
  txt : ∀ mg : Str → Option Value, mg cn = some (.ref E) → PySem.Giv.ErrTxt K mg cn qn newId bt E fE
  ty : PySem.W.typeIn K (.ref E) = some (.type "type")
  ex : PySem.W.subIn K (.ref E) (.type "BaseException") = some true
  hd : PySem.W.hasDictIn K E = true
theorem defE_mk {cn qn : Str} {newId : String} {bt bm : List Value} {E fE N : Addr} {nm q : Str} {bs : List Value} {sn : List Str} {sub : List Value} {ab : Bool} {col : Option Bool} {dd an od : Option Addr} {k0 k1 k2 k3 k5 : Option Value} {oc doc pm cdv ct : Value} {osl : Array (Option Value)} {p1 p2 q1 q2 q3 q4 : Pos}
    (a : PySem.W.nsIn K mainGlobals cn = some (some (.ref E))) (xL : K.lookup E = some (PySem.excClassObj nm q E N bs bm true sn sub ab col dd k0 k1 k2 k3 k5 newId)) (tl : PySem.Giv.tailIs bt bm = true)
    (sa : PySem.W.findIn K (.ref E) "__setattr__" = some (some (.builtin "object.__setattr__"))) (ga : PySem.W.findIn K (.ref E) "__getattribute__" = some (some (.builtin "BaseException.__getattribute__"))) (gg : PySem.W.findIn K (.ref E) "__getattr__" = some none)
    (no : PySem.W.findIn K (.ref E) "given" = some none) (iC : PySem.W.findIn K (.ref E) "__init__" = some (some (.ref fE))) (tC : PySem.W.typeIn K (.ref fE) = some (.type "function"))
    (l : K.lookup fE = some ⟨oc, od, .func (PySem.W.fnOf "__init__" qn (PySem.Giv.gA p1 p2) (PySem.Giv.gB q1 q2 q3 q4) PySem.Giv.gS .none .none doc pm an cdv ct), osl⟩) (c : PySem.W.codeIn K cdv qn = true)
    (kC : PySem.W.keepIn K (.ref E) = true) (ex : PySem.W.subIn K (.ref E) (.type "BaseException") = some true) (ty : PySem.W.typeIn K (.ref E) = some (.type "type")) (hd : PySem.W.hasDictIn K E = true) (ss : PySem.W.subIn K (.ref E) (.ref E) = some true) : DefE K cn qn newId bt E fE :=
  ⟨a, fun mg hg => { gC := hg, cls := ⟨nm, q, N, bs, bm, sn, sub, ab, col, dd, k0, k1, k2, k3, k5, xL, tl⟩, sa := sa, ga := ga, gg := gg, noN := no, iC := iC, tC := tC, kC := kC, exC := ex, tyC := ty, hdC := hd, te := (PySem.W.exm_ref ex hd ty ss), fn := ⟨oc, od, doc, pm, an, cdv, ct, osl, p1, p2, q1, q2, q3, q4, l, c⟩ }, ty, ex, hd⟩
end
theorem all_mk {l : PySem.W.OpenLaw} {w : World} {K : PySem.W.Frag} {h : Heap} {mg : Str → Option Value} {tw1 tw2 tw3 : Tok} {fa CP fP CL fL a0 a1 a2 a3 a4 a5 a6 a7 a8 a9 a10 a11 a12 a13 a14 a15 a16 a17 a18 a19 a20 a21 : Addr} (X : K.In h) (G : h.Ns mainGlobals mg) (hfa : mg "law" = some (.ref fa))
    (eP : DefE K "InvalidPaper" "InvalidPaper.__init__" "ValueError.__new__" veT CP fP)
    (eL : DefE K "LimitExceeded" "LimitExceeded.__init__" "OverflowError.__new__" oeT CL fL)
    (c0 : PySem.W.nsIn K mainGlobals "WORD_SIGNS" = some (some (.int 12 tw1)))
    (c1 : PySem.W.nsIn K mainGlobals "NAME_WORDS" = some (some (.int 64 tw2)))
    (c2 : PySem.W.nsIn K mainGlobals "MOST_SPOTS" = some (some (.int 14 tw3)))
    (fg0 : DefG K "is_word" sWord a0)
    (fg1 : DefG K "is_name" sName a1)
    (fg2 : DefG K "tally" sTally a2)
    (fg3 : DefG K "_check_spots" sCheck a3)
    (fg4 : DefG K "_meet" sMeet a4)
    (fg5 : DefG K "_shares" sShares a5)
    (fg6 : DefG K "_most" sMost a6)
    (fg7 : DefG K "_touching" sTouch a7)
    (fg8 : DefG K "_paper" sPaper a8)
    (fg9 : DefG K "_holds" sHolds a9)
    (fg10 : DefG K "most_apart" sMA a10)
    (fg11 : DefG K "apart_paper" sAP a11)
    (fg12 : DefG K "lets_apart" sLA a12)
    (fg13 : DefG K "_law_draws" sDraws a13)
    (fg14 : DefG K "_law_draw" sDraw a14)
    (fg15 : DefG K "_law_spots" sSpots a15)
    (fg16 : DefG K "_law_rest" sRest a16)
    (fg17 : DefG K "_law_free" sFree a17)
    (fg18 : DefG K "_law_so" sSo a18)
    (fg19 : DefG K "_law_paper" sPap a19)
    (fg20 : DefG K "_law_bent" sBent a20)
    (fg21 : DefG K "law" sLaw a21)
    (nisinstance : PySem.W.nsIn K mainGlobals "isinstance" = some none)
    (nstr : PySem.W.nsIn K mainGlobals "str" = some none)
    (nint : PySem.W.nsIn K mainGlobals "int" = some none)
    (ntuple : PySem.W.nsIn K mainGlobals "tuple" = some none)
    (nlist : PySem.W.nsIn K mainGlobals "list" = some none)
    (nlen : PySem.W.nsIn K mainGlobals "len" = some none)
    (nset : PySem.W.nsIn K mainGlobals "set" = some none)
    (nall : PySem.W.nsIn K mainGlobals "all" = some none)
    (nany : PySem.W.nsIn K mainGlobals "any" = some none)
    (nsorted : PySem.W.nsIn K mainGlobals "sorted" = some none)
    (nmin : PySem.W.nsIn K mainGlobals "min" = some none)
    (nmax : PySem.W.nsIn K mainGlobals "max" = some none)
    (nenumerate : PySem.W.nsIn K mainGlobals "enumerate" = some none)
    (nrange : PySem.W.nsIn K mainGlobals "range" = some none)
    (nbool : PySem.W.nsIn K mainGlobals "bool" = some none) :
    ∃ fd : FuncData, (∀ (s : Shared) (v : Value), BindsTo s fd ⟨[v], []⟩ [("_law_script", v)]) ∧ ∀ base : Heap, K.In base → base.Ns mainGlobals mg → FnOk l.prog w K mg base (L2.CX l.prog w) 20 fa fd ["_law_script"] (spLaw K) := by
  have e := hfa.symm.trans (PySem.W.mg_of X G fg21.here)
  cases e
  obtain ⟨fdL, FL⟩ := fg21.fn
  refine ⟨fdL, fun s v => ?_, fun base KX KG => ?_⟩
  · obtain ⟨oc, od, kV, doc, pm, an, cdv, ct, osl, rfl, _, _⟩ := FL.ex
    exact .of_eq rfl
  have T : Txt mg := { isi := PySem.W.mg_none_of KX KG nisinstance, str := PySem.W.mg_none_of KX KG nstr, int := PySem.W.mg_none_of KX KG nint, tuple := PySem.W.mg_none_of KX KG ntuple, list := PySem.W.mg_none_of KX KG nlist, len := PySem.W.mg_none_of KX KG nlen, set := PySem.W.mg_none_of KX KG nset, all := PySem.W.mg_none_of KX KG nall, any := PySem.W.mg_none_of KX KG nany, sorted := PySem.W.mg_none_of KX KG nsorted, min := PySem.W.mg_none_of KX KG nmin, max := PySem.W.mg_none_of KX KG nmax, enum := PySem.W.mg_none_of KX KG nenumerate, range := PySem.W.mg_none_of KX KG nrange }
  have NU : Nums mg := ⟨⟨_, PySem.W.mg_of KX KG c0⟩, ⟨_, PySem.W.mg_of KX KG c1⟩, ⟨_, PySem.W.mg_of KX KG c2⟩⟩
  have U : Errs K mg CP fP CL fL := ⟨eP.txt mg (PySem.W.mg_of KX KG eP.here), eL.txt mg (PySem.W.mg_of KX KG eL.here)⟩
  have g0 : Glb l.prog w K mg base "is_word" 1 ["value"] spWord := glb KX KG fg0 (fun fd F => ok_word F T NU) (fun fd F => F.binds (ps := ["value"]) fun _ _ _ _ _ _ us hl => match us, hl with | [_], _ => rfl)
  have g1 : Glb l.prog w K mg base "is_name" 2 ["value"] spName := glb KX KG fg1 (fun fd F => ok_name F T NU g0) (fun fd F => F.binds (ps := ["value"]) fun _ _ _ _ _ _ us hl => match us, hl with | [_], _ => rfl)
  have g2 : Glb l.prog w K mg base "tally" 1 ["values"] spTally := glb KX KG fg2 (fun fd F => ok_tally F T) (fun fd F => F.binds (ps := ["values"]) fun _ _ _ _ _ _ us hl => match us, hl with | [_], _ => rfl)
  have g3 : Glb l.prog w K mg base "_check_spots" 3 ["some"] (spCheck CP CL) := glb KX KG fg3 (fun fd F => ok_check F T NU U g1) (fun fd F => F.binds (ps := ["some"]) fun _ _ _ _ _ _ us hl => match us, hl with | [_], _ => rfl)
  have g4 : Glb l.prog w K mg base "_meet" 1 ["one", "other"] spMeet := glb KX KG fg4 (fun fd F => ok_meet F T) (fun fd F => F.binds (ps := ["one", "other"]) fun _ _ _ _ _ _ us hl => match us, hl with | [_, _], _ => rfl)
  have gX : Glb l.prog w K mg base "_meet" 1 ["one", "other"] (spMeetX K) := glb KX KG fg4 (fun fd F => ok_meetX F T) (fun fd F => F.binds (ps := ["one", "other"]) fun _ _ _ _ _ _ us hl => match us, hl with | [_, _], _ => rfl)
  have g5 : Glb l.prog w K mg base "_shares" 2 ["left"] spShares := glb KX KG fg5 (fun fd F => ok_shares F T g2) (fun fd F => F.binds (ps := ["left"]) fun _ _ _ _ _ _ us hl => match us, hl with | [_], _ => rfl)
  have g6 : ∀ n, Glb l.prog w K mg base "_most" (n + 2) ["left"] (spMost n) := fun n => by
    obtain ⟨fd, F⟩ := fg6.fn
    have m := PySem.W.mg_of KX KG fg6.here
    have b : L2.Binds K fd ["left"] [] := F.binds (ps := ["left"]) fun _ _ _ _ _ _ us hl => match us, hl with | [_], _ => rfl
    exact ⟨a6, fd, m, F.kp, ok_most F T g4 m F.kp b n, b⟩
  have g7 : ∀ n, Glb l.prog w K mg base "_touching" (n + 3) ["left", "many"] (spTouch n) := fun n => by
    obtain ⟨fd, F⟩ := fg7.fn
    have m := PySem.W.mg_of KX KG fg7.here
    have b : L2.Binds K fd ["left", "many"] [] := F.binds (ps := ["left", "many"]) fun _ _ _ _ _ _ us hl => match us, hl with | [_, _], _ => rfl
    exact ⟨a7, fd, m, F.kp, ok_touch F T g5 m F.kp b n, b⟩
  have g8 : ∀ n, Glb l.prog w K mg base "_paper" (n + 4) ["left", "many"] (spPap n) := fun n => by
    obtain ⟨fd, F⟩ := fg8.fn
    have m := PySem.W.mg_of KX KG fg8.here
    have b : L2.Binds K fd ["left", "many"] [] := F.binds (ps := ["left", "many"]) fun _ _ _ _ _ _ us hl => match us, hl with | [_, _], _ => rfl
    exact ⟨a8, fd, m, F.kp, ok_paper F T g4 g7 m F.kp b n, b⟩
  have g9 : ∀ n, Glb l.prog w K mg base "_holds" (n + 1) ["left", "many", "paper"] (spHolds K n) := fun n => by
    obtain ⟨fd, F⟩ := fg9.fn
    have m := PySem.W.mg_of KX KG fg9.here
    have b : L2.Binds K fd ["left", "many", "paper"] [] := F.binds (ps := ["left", "many", "paper"]) fun _ _ _ _ _ _ us hl => match us, hl with | [_, _, _], _ => rfl
    exact ⟨a9, fd, m, F.kp, ok_holds F T g4 gX m F.kp b n, b⟩
  have g10 : Glb l.prog w K mg base "most_apart" 17 ["some"] (spMA CP CL) := glb KX KG fg10 (fun fd F => ok_MA F T g3 (g6 14)) (fun fd F => F.binds (ps := ["some"]) fun _ _ _ _ _ _ us hl => match us, hl with | [_], _ => rfl)
  have g11 : Glb l.prog w K mg base "apart_paper" 19 ["some", "many"] (spAP CP CL) := glb KX KG fg11 (fun fd F => ok_AP F T g3 (g6 14) (g8 14)) (fun fd F => F.binds (ps := ["some", "many"]) fun _ _ _ _ _ _ us hl => match us, hl with | [_, _], _ => rfl)
  have g12 : Glb l.prog w K mg base "lets_apart" 17 ["some", "many", "paper"] (spLA K) := glb KX KG fg12 (fun fd F => ok_LA F T g3 (g9 15)) (fun fd F => F.binds (ps := ["some", "many", "paper"]) fun _ _ _ _ _ _ us hl => match us, hl with | [_, _, _], _ => rfl)
  have g13 : Glb l.prog w K mg base "_law_draws" 1 ["_law_script", "_law_k"] (spDraws K) := glb KX KG fg13 (fun fd F => ok_draws F T) (fun fd F => F.binds (ps := ["_law_script", "_law_k"]) fun _ _ _ _ _ _ us hl => match us, hl with | [_, _], _ => rfl)
  have g14 : Glb l.prog w K mg base "_law_draw" 1 ["_law_draws_here", "_law_upto"] spDraw := glb KX KG fg14 (fun fd F => ok_draw F T) (fun fd F => F.binds (ps := ["_law_draws_here", "_law_upto"]) fun _ _ _ _ _ _ us hl => match us, hl with | [_, _], _ => rfl)
  have g15 : Glb l.prog w K mg base "_law_spots" 2 ["_law_draws_here", "_law_most"] spSpots := glb KX KG fg15 (fun fd F => ok_spots F T g14) (fun fd F => F.binds (ps := ["_law_draws_here", "_law_most"]) fun _ _ _ _ _ _ us hl => match us, hl with | [_, _], _ => rfl)
  have g16 : Glb l.prog w K mg base "_law_rest" 1 ["_law_some", "_law_spot"] spRest := glb KX KG fg16 (fun fd F => ok_rest F T) (fun fd F => F.binds (ps := ["_law_some", "_law_spot"]) fun _ _ _ _ _ _ us hl => match us, hl with | [_, _], _ => rfl)
  have g17 : Glb l.prog w K mg base "_law_free" 1 ["_law_some", "_law_spot"] spFree := glb KX KG fg17 (fun fd F => ok_free F T) (fun fd F => F.binds (ps := ["_law_some", "_law_spot"]) fun _ _ _ _ _ _ us hl => match us, hl with | [_, _], _ => rfl)
  have g18 : ∀ n, Glb l.prog w K mg base "_law_so" (n + 1) ["_law_some", "_law_many", "_law_paper_here"] (spHolds K n) := fun n => by
    obtain ⟨fd, F⟩ := fg18.fn
    have m := PySem.W.mg_of KX KG fg18.here
    have b : L2.Binds K fd ["_law_some", "_law_many", "_law_paper_here"] [] := F.binds (ps := ["_law_some", "_law_many", "_law_paper_here"]) fun _ _ _ _ _ _ us hl => match us, hl with | [_, _, _], _ => rfl
    exact ⟨a18, fd, m, F.kp, ok_so F T g16 g17 m F.kp b n, b⟩
  have g19 : ∀ n, Glb l.prog w K mg base "_law_paper" (n + 1) ["_law_draws_here", "_law_some", "_law_many"] (spPaper K n) := fun n => by
    obtain ⟨fd, F⟩ := fg19.fn
    have m := PySem.W.mg_of KX KG fg19.here
    have b : L2.Binds K fd ["_law_draws_here", "_law_some", "_law_many"] [] := F.binds (ps := ["_law_draws_here", "_law_some", "_law_many"]) fun _ _ _ _ _ _ us hl => match us, hl with | [_, _, _], _ => rfl
    exact ⟨a19, fd, m, F.kp, ok_lpap F T g14 g16 g17 m F.kp b n, b⟩
  have g20 : ∀ n, Glb l.prog w K mg base "_law_bent" (n + 1) ["_law_draws_here", "_law_some", "_law_paper_here"] (spBent K n) := fun n => by
    obtain ⟨fd, F⟩ := fg20.fn
    have m := PySem.W.mg_of KX KG fg20.here
    have b : L2.Binds K fd ["_law_draws_here", "_law_some", "_law_paper_here"] [] := F.binds (ps := ["_law_draws_here", "_law_some", "_law_paper_here"]) fun _ _ _ _ _ _ us hl => match us, hl with | [_, _, _], _ => rfl
    exact ⟨a20, fd, m, F.kp, ok_bent F T g14 m F.kp b n, b⟩
  exact ok_law FL T (PySem.W.mg_none_of KX KG nbool) g13 g14 g15 (g19 8) (g20 9) (g18 15) g10 g11 g12
theorem walk {l : PySem.W.OpenLaw} {q : Program} {loose : List Str} {XP : (Str → Option Value) → Heap → Prop} {YP : World → Heap → Prop} {d : DefRec} {K : Params → PySem.W.Frag} (hn : l.most = some 63) (hdf : d.params.defaults = [])
    (hY : ∀ (w : World) (h : Heap), YP w h → (K w.params).In h)
    (F : ∀ (w : World) (mg : Str → Option Value) (fa : Addr) (h : Heap), (K w.params).In h → h.Ns mainGlobals mg → mg d.name = some (.ref fa) →
      ∃ fd : FuncData, (∀ (s : Shared) (u : Value), BindsTo s fd ⟨[u], []⟩ [("_law_script", u)]) ∧ ∀ base : Heap, (K w.params).In base → base.Ns mainGlobals mg → FnOk l.prog w (K w.params) mg base (L2.CX l.prog w) 20 fa fd ["_law_script"] (spLaw (K w.params))) :
    PySem.W.WalkO q loose XP YP l.row.toRowW d [] (fun f vs => PySem.call f vs) :=
  L2.walk_of (n := 63) (k := 20) (x := "_law_script") (CX := fun w => L2.CX l.prog w) (sp := fun w => spLaw (K w.params)) hn (by decide) hdf ⟨rfl, by decide, by decide⟩ hY F (fun _ _ a ns hl _ hS => ⟨a, ns, rfl, hS, fun _ _ => rfl⟩) fun w H s e s' z => by
    obtain ⟨_, _, _, _, _, _, _, _, _, _, _, _, z⟩ := z
    exact z
end R8
end

-- B8y
section
set_option Elab.async false
set_option linter.all false
open PySem PySem.W PyProof.Rows
set_option maxRecDepth 100000 in
set_option maxHeartbeats 0 in
theorem PySem.Challenge.cw_wishedwires_k28_whole_no_paper_for_too_f_holds : PySem.Challenge.rw_wishedwires_k28_whole_no_paper_for_too_f.Holds := by
  w_on; o_law; k_head; (case hw => w_witness2)
  k_fill
  refine R8.walk (l := PySem.Challenge.rw_wishedwires_k28_whole_no_paper_for_too_f) rfl rfl (fun w h Y => PySem.W.kIn_of Y) ?F
  case F =>
    intro w mg fa h KX G hmg
    refine' R8.all_mk KX G hmg ?eP ?eL ?c0 ?c1 ?c2 ?fg0 ?fg1 ?fg2 ?fg3 ?fg4 ?fg5 ?fg6 ?fg7 ?fg8 ?fg9 ?fg10 ?fg11 ?fg12 ?fg13 ?fg14 ?fg15 ?fg16 ?fg17 ?fg18 ?fg19 ?fg20 ?fg21 ?nisinstance ?nstr ?nint ?ntuple ?nlist ?nlen ?nset ?nall ?nany ?nsorted ?nmin ?nmax ?nenumerate ?nrange ?nbool
    case eP => (refine' R8.defE_mk ?a ?xL ?tl ?sa ?ga ?gg ?no ?iC ?tC ?l ?c ?kC ?ex ?ty ?hd ?ss); (case a => k_is); (case xL => k_is); (case tl => decide +kernel); (case sa => k_is); (case ga => k_is); (case gg => k_is); (case no => k_is); (case iC => k_is); (case tC => k_is); (case l => k_is); (case c => k_is); (case kC => k_is); (case ex => k_is); (case ty => k_is); (case hd => k_is); (case ss => first | rfl | k_is)
    case eL => (refine' R8.defE_mk ?a ?xL ?tl ?sa ?ga ?gg ?no ?iC ?tC ?l ?c ?kC ?ex ?ty ?hd ?ss); (case a => k_is); (case xL => k_is); (case tl => decide +kernel); (case sa => k_is); (case ga => k_is); (case gg => k_is); (case no => k_is); (case iC => k_is); (case tC => k_is); (case l => k_is); (case c => k_is); (case kC => k_is); (case ex => k_is); (case ty => k_is); (case hd => k_is); (case ss => first | rfl | k_is)
    case c0 => k_is
    case c1 => k_is
    case c2 => k_is
    case fg0 => (refine' R8.defG_mk ?a ?l ?c ?k); (case a => k_is); (case l => k_is); (case c => k_is); (case k => k_is)
    case fg1 => (refine' R8.defG_mk ?a ?l ?c ?k); (case a => k_is); (case l => k_is); (case c => k_is); (case k => k_is)
    case fg2 => (refine' R8.defG_mk ?a ?l ?c ?k); (case a => k_is); (case l => k_is); (case c => k_is); (case k => k_is)
    case fg3 => (refine' R8.defG_mk ?a ?l ?c ?k); (case a => k_is); (case l => k_is); (case c => k_is); (case k => k_is)
    case fg4 => (refine' R8.defG_mk ?a ?l ?c ?k); (case a => k_is); (case l => k_is); (case c => k_is); (case k => k_is)
    case fg5 => (refine' R8.defG_mk ?a ?l ?c ?k); (case a => k_is); (case l => k_is); (case c => k_is); (case k => k_is)
    case fg6 => (refine' R8.defG_mk ?a ?l ?c ?k); (case a => k_is); (case l => k_is); (case c => k_is); (case k => k_is)
    case fg7 => (refine' R8.defG_mk ?a ?l ?c ?k); (case a => k_is); (case l => k_is); (case c => k_is); (case k => k_is)
    case fg8 => (refine' R8.defG_mk ?a ?l ?c ?k); (case a => k_is); (case l => k_is); (case c => k_is); (case k => k_is)
    case fg9 => (refine' R8.defG_mk ?a ?l ?c ?k); (case a => k_is); (case l => k_is); (case c => k_is); (case k => k_is)
    case fg10 => (refine' R8.defG_mk ?a ?l ?c ?k); (case a => k_is); (case l => k_is); (case c => k_is); (case k => k_is)
    case fg11 => (refine' R8.defG_mk ?a ?l ?c ?k); (case a => k_is); (case l => k_is); (case c => k_is); (case k => k_is)
    case fg12 => (refine' R8.defG_mk ?a ?l ?c ?k); (case a => k_is); (case l => k_is); (case c => k_is); (case k => k_is)
    case fg13 => (refine' R8.defG_mk ?a ?l ?c ?k); (case a => k_is); (case l => k_is); (case c => k_is); (case k => k_is)
    case fg14 => (refine' R8.defG_mk ?a ?l ?c ?k); (case a => k_is); (case l => k_is); (case c => k_is); (case k => k_is)
    case fg15 => (refine' R8.defG_mk ?a ?l ?c ?k); (case a => k_is); (case l => k_is); (case c => k_is); (case k => k_is)
    case fg16 => (refine' R8.defG_mk ?a ?l ?c ?k); (case a => k_is); (case l => k_is); (case c => k_is); (case k => k_is)
    case fg17 => (refine' R8.defG_mk ?a ?l ?c ?k); (case a => k_is); (case l => k_is); (case c => k_is); (case k => k_is)
    case fg18 => (refine' R8.defG_mk ?a ?l ?c ?k); (case a => k_is); (case l => k_is); (case c => k_is); (case k => k_is)
    case fg19 => (refine' R8.defG_mk ?a ?l ?c ?k); (case a => k_is); (case l => k_is); (case c => k_is); (case k => k_is)
    case fg20 => (refine' R8.defG_mk ?a ?l ?c ?k); (case a => k_is); (case l => k_is); (case c => k_is); (case k => k_is)
    case fg21 => (refine' R8.defG_mk ?a ?l ?c ?k); (case a => k_is); (case l => k_is); (case c => k_is); (case k => k_is)
    case nisinstance => k_is
    case nstr => k_is
    case nint => k_is
    case ntuple => k_is
    case nlist => k_is
    case nlen => k_is
    case nset => k_is
    case nall => k_is
    case nany => k_is
    case nsorted => k_is
    case nmin => k_is
    case nmax => k_is
    case nenumerate => k_is
    case nrange => k_is
    case nbool => k_is
end
