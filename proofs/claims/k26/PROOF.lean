import PyProof.Rows.All
import Wide.All
import OpenK.AllK
import Wide.FinOn
import HandS.ForMost
import HandS.TupAny
import HandS.TupMul
import HandS.Conv
import HandS.Zip
import KE.GoesEnum
import KE.GoesMore
import KE.GoesZip
import KE.KDictPairs
import HandS.IsInst
import HandS.TupLe
import HandS.SortInts
import HandS.StrMore
import HandS.Style
import HandS.Deep
import KE.SortData
import HandS.Strs
import HandS.SetFor
import HandS.DictTup
import PyProof.ReprRoads
import HandS.Call
import PyProof.TupleOfSeq
import PyProof.Rows.SortShell
import HandS.Text
import HandS.FStr
import KE.GoesEnumKw
import PySem.Challenge.RW_howmanyslips_k26_numbers_among_any_value
set_option Elab.async false
set_option linter.all false
set_option maxRecDepth 100000
set_option maxHeartbeats 4000000
namespace FP
open PySem PySem.Spec PyProof.Rows L2
/-! ### tuples that are known as objects: no dict hangs on them. All that makes a tuple, told so -/
def PTup (K : PySem.W.Frag) (H : Hp) (a : Addr) (xs : List V) : Prop :=
  (∃ o, H a = some (.frz o (.tup xs)) ∧ o.dict = none) ∨
    ∃ (o : Obj) (its : Array Value) (n : Nat), (K.lookup a = some o ∧ o.cls = .type "tuple" ∧ o.data = .seq its n ∧ its.size ≤ sizeLine ∧ Vals xs its.toList) ∧ o.dict = none
/-- the object of a new tuple -/
abbrev oTup (its : List Value) : Obj := { cls := .type "tuple", data := .seq its.toArray }
/-- the tracked new tuple -/
abbrev fTupO (its : List Value) (xs : List V) : HO := .frz (oTup its) (.tup xs)
/-- a new tuple, any object without a dict -/
abbrev newT (xs : List V) (Q : VK) (H : Hp) : Prop := ∀ p o, o.dict = none → H p = none → Q (.ref p) (upd H p (.frz o (.tup xs)))
section
variable {K : PySem.W.Frag} {H H' : Hp} {a : Addr} {xs : List V}
theorem PTup.sq (h : PTup K H a xs) : SqT K H a xs := by
  rcases h with ⟨o, h, _⟩ | ⟨o, its, n, h, _⟩
  · exact .inl (.inr ⟨o, h⟩)
  · exact .inr ⟨o, its, n, h⟩
theorem PTup.of {o : Obj} (h : H a = some (.frz o (.tup xs))) (d : o.dict = none) : PTup K H a xs := .inl ⟨o, h, d⟩
theorem PTup.keep (h : PTup K H a xs) (ht : ∀ a o, H a = some o → ¬ Mut (some o) → H' a = some o) : PTup K H' a xs := by
  rcases h with ⟨o, h, d⟩ | h
  · exact .inl ⟨o, ht _ _ h (fun z => z), d⟩
  · exact .inr h
/-- its object -/
theorem PTup.obj {X : Cx} {pins : List (Addr × Obj)} {σ : L2.St} {s : Shared} (h : PTup X.K H a xs) (I : Inv X pins σ H s) : ∃ its : List Value, Vals xs its ∧ PlainSeq "tuple" s.heap a its.toArray ∧ xs.length ≤ sizeLine := by
  rcases h with ⟨o, h, d⟩ | ⟨o, its, n, ⟨h, c, e, z, r⟩, d⟩
  · obtain ⟨e, z, its, r, o', e', c, n, q⟩ := I.hok _ _ h
    rw [e] at e'
    cases e'
    exact ⟨its, r, ⟨o, n, e, c, d, q⟩, z⟩
  · exact ⟨its.toList, r, ⟨o, n, I.kIn _ _ h, c, d, by simpa using e⟩, by rw [r.length]; simpa using z⟩
end
section
variable {X : Cx} {pins : List (Addr × Obj)} {σ : L2.St} {H : Hp} {s : Shared} {e : Expr} {es : List Expr} {t : TA} {pos : Pos}
/-- a tuple is laid -/
theorem laidT {h' : Heap} {t' : Nat} {p : Addr} {its : List Value} {xs : List V} (I : Inv X pins σ H s) (k : ∀ b u, s.heap.get? b = some u → h'.get? b = some u) (hp : s.heap.objs.size ≤ p) (e : h'.get? p = some (oTup its)) (z : xs.length ≤ sizeLine) (r : Vals xs its) :
    Inv X pins σ (upd H p (fTupO its xs)) { s with heap := h', toks := t' } := I.laid (t' := t') (o := fTupO its xs) k hp ⟨e, z, its, r, ⟨_, e, rfl, _, rfl⟩⟩
/-- it is pushed, and is the result -/
theorem pushT {its : List Value} {xs : List V} {Q : VK} (I : Inv X pins σ H s) (z : xs.length ≤ sizeLine) (r : Vals xs its) (q : newT xs Q H) {t' : Nat} : EP X pins σ Q (.ref s.heap.objs.size) { s with heap := s.heap.push (oTup its), toks := t' } :=
  ⟨.ref s.heap.objs.size, _, laidT I (fun b u e => Heap.get?_push_of_some _ e) (Nat.le_refl _) (Heap.get?_push_size _ rfl) z r, rfl, q _ _ rfl (I.hok.fresh (Nat.le_refl _))⟩
/-- (a, b, ..) -/
theorem pe_tupF {x1} (h : PA X es t) : PE X (.Tuple es x1 pos) (fun σ H Q => t σ H fun xs H1 => xs.length ≤ sizeLine ∧ newT xs Q H1) :=
  ⟨fun pins s σ H Q I hq => wpAny_Tuple_spliced (thn (h.run pos pins s σ H _ I hq) fun us s1 ⟨xs, H1, I1, r, z, q⟩ => ⟨by rw [← r.length]; exact z, pushT I1 z r q⟩)⟩
/-- tuple(a list): new; tuple(a tuple): itself -/
theorem call_tupleF : CallR X (.type "tuple") (fun xs H Q => ∃ p ys, xs = [.ref p] ∧ ((SqL X.K H p ys ∧ newT ys Q H) ∨ (SqT X.K H p ys ∧ Q (.ref p) H))) := by
  intro pins s σ H xs us Q I r h
  obtain ⟨p, ys, rfl, h⟩ := h
  rcases h with ⟨hq, q⟩ | h
  · obtain ⟨u, rfl, rx⟩ := vals1 r
    cases rx
    obtain ⟨its, r', pl, z⟩ := I.list hq
    exact call_tuple_list pl.isList (fun h' kp => pushT (s := { s with heap := h' }) (I.kept (t' := s.toks) kp) z r' q) (by rw [List.size_toArray, ← r'.length]; exact z)
  · exact call_tupleT pins s σ H _ us Q I r ⟨p, ys, rfl, h⟩
/-- t + u -/
def rCatF (K : PySem.W.Frag) : R2 := fun x y H Q => ∃ a b xs ys, x = .ref a ∧ y = .ref b ∧ SqT K H a xs ∧ SqT K H b ys ∧ xs.length + ys.length ≤ sizeLine ∧
  (xs = [] → Q (.ref b) H) ∧ (xs ≠ [] → ys = [] → Q (.ref a) H) ∧ (xs ≠ [] → ys ≠ [] → newT (xs ++ ys) Q H)
theorem op_catF : OpR X (binaryOp .Add) (rCatF X.K) := by
  intro pins s σ H x y v u Q I rx ry ⟨a, b, xs, ys, ex, ey, ha, hb, hz, q0, q1, q2⟩
  subst ex ey
  cases rx; cases ry
  obtain ⟨its, r1, p1, _⟩ := I.tuple ha
  obtain ⟨its2, r2, p2, _⟩ := I.tuple hb
  by_cases hx : xs = []
  · subst hx
    cases r1
    exact cat_tup0 p1 p2 ⟨.ref b, H, I, rfl, q0 rfl⟩
  · refine HT.cat_tup p1 p2 (fun z => hx (r1.nil_iff.mp z)) (fun z => ⟨.ref a, H, I, rfl, q1 hx (r2.nil_iff.mp z)⟩) (fun z => ?_) (by rw [← r1.length, ← r2.length]; exact hz)
    exact pushT (t' := s.toks) I (by rw [List.length_append]; exact hz) (r1.append r2) (q2 hx fun w => z (r2.nil_iff.mpr w))
/-- t[lo:hi] -/
def rSlF (K : PySem.W.Frag) : V → Option Int → Option Int → Hp → VK → Prop := fun x lo hi H Q => ∃ a xs, x = .ref a ∧ SqT K H a xs ∧
  (HT.sIx xs.length 0 lo = 0 ∧ HT.sIx xs.length xs.length hi = xs.length → Q (.ref a) H) ∧ (¬ (HT.sIx xs.length 0 lo = 0 ∧ HT.sIx xs.length xs.length hi = xs.length) → newT (cutV xs lo hi) Q H)
theorem sl_tupF : SlR X (rSlF X.K) := by
  intro pins s σ H x v vl vu lo hi sl Q I rx hs pl pu ⟨a, xs, ex, hx, q1, q2⟩
  rcases Classical.em (HT.sIx xs.length 0 lo = 0 ∧ HT.sIx xs.length xs.length hi = xs.length) with hw | hw
  · exact sl_tupA pins s σ H x v vl vu lo hi sl Q I rx hs pl pu ⟨a, xs, ex, hx, q1, fun z => absurd hw z⟩
  · subst ex
    cases rx
    obtain ⟨its, r, ht, z⟩ := I.tuple hx
    have n : its.toArray.size = xs.length := by rw [List.size_toArray, r.length]
    refine ⟨"tuple", _, PyProof.Rows.slot_tuple_getitem.lookup, ht.typeIs, HT.getItem_tuple_cut ht hs pl pu (by rw [n]; exact hw) ?_ (by rw [n]; exact z)⟩
    rw [n]
    exact pushT (t' := s.toks) I (Nat.le_trans (cutV_length xs lo hi) z) ((r.drop _).take _) (q2 hw)
/-! t * k -/
theorem times_same (l : Addr) (items : Array Value) (n : Nat) (dd : Option Addr) (sl : Array (Option Value)) (k : Int) (t : Tok) (h1 : -1000 ≤ k) (h2 : k ≤ 1000) (c : (items.isEmpty || k == 1) = true) :
    Meets (Builtin.«tuple.__mul__» ⟨[.ref l, .int k t], []⟩) (fun _ R s => s.heap.get? l = some { cls := .type "tuple", dict := dd, data := .seq items n, slots := sl } ∧ R (.ok (.ret (.ref l))) s) :=
  .of_wp fun prog w A R s ⟨hl, h⟩ => by
    have ix := AutoSeq1.idx_int
    have c0 : ¬ (decide (k < -(2 ^ 63)) || decide (k ≥ 2 ^ 63)) = true := by
      simp only [Bool.or_eq_true, decide_eq_true_eq]; omega
    wp_walk using wpAny_loadPart' hl
    repeat (first
      | (refine wpAny_ite_false (decide_eq_false c0) ?_; wp_walk using wpAny_loadPart' hl)
      | (refine wpAny_ite_true (decide_eq_true c) ?_; wp_walk using wpAny_loadPart' hl))
    exact ⟨_, rfl, h⟩
theorem times_none (l : Addr) (items : Array Value) (n : Nat) (dd : Option Addr) (sl : Array (Option Value)) (k : Int) (t : Tok) (h1 : -1000 ≤ k) (h2 : k ≤ 0) (c : (items.isEmpty || k == 1) = false) :
    Meets (Builtin.«tuple.__mul__» ⟨[.ref l, .int k t], []⟩) (fun _ R s => s.heap.get? l = some { cls := .type "tuple", dict := dd, data := .seq items n, slots := sl } ∧ R (.ok (.ret (.ref s.heap.objs.size))) { s with heap := s.heap.push (oTup []) }) :=
  .of_wp fun prog w A R s ⟨hl, h⟩ => by
    have ix := AutoSeq1.idx_int
    have c0 : ¬ (decide (k < -(2 ^ 63)) || decide (k ≥ 2 ^ 63)) = true := by
      simp only [Bool.or_eq_true, decide_eq_true_eq]; omega
    have c2 : (decide (k ≤ 0) || items.isEmpty) = true := by simp [h2]
    wp_walk using wpAny_loadPart' hl
    repeat (first
      | (refine wpAny_ite_false (decide_eq_false c0) ?_; wp_walk using wpAny_loadPart' hl)
      | (refine wpAny_ite_false (decide_eq_false (by rw [c]; exact Bool.false_ne_true)) ?_; wp_walk using wpAny_loadPart' hl)
      | (refine wpAny_ite_true (decide_eq_true c2) ?_; wp_walk using wpAny_loadPart' hl))
    exact ⟨_, rfl, h⟩
/-- t * k, both at most 1000 -/
def rRepF (K : PySem.W.Frag) : R2 := fun x y H Q => ∃ l k xs, x = .ref l ∧ y = .int k ∧ SqT K H l xs ∧ -1000 ≤ k ∧ k ≤ 1000 ∧ xs.length ≤ 1000 ∧ (xs = [] ∨ k = 1 → Q (.ref l) H) ∧ (¬ (xs = [] ∨ k = 1) → newT (List.replicate k.toNat xs).flatten Q H)
theorem op_repF : OpR X (binaryOp .Mult) (rRepF X.K) := by
  intro pins s σ H x y v u Q I rx ry ⟨l, k, xs, ex, ey, hT, h1, h2, hz, q0, q1⟩
  subst ex ey
  cases rx
  obtain ⟨t, rfl⟩ := ry
  obtain ⟨its, r, ⟨⟨cls, dd, data, sl⟩, ho, hc, n, hd⟩, hs⟩ := I.tuple hT
  simp only at hc hd
  subst hc hd
  have len : its.length = xs.length := r.length.symm
  refine wpAny_binaryOp_repeat_ref (T := "tuple") (U := "int") (by decide) ⟨_, ho, rfl⟩ (fun s' => typeIs_int s' k t) noFill_tuple_mul F.fills_int_mul F.slot_int_rmul repeat_tuple F.slot_int_index.lookup
    (call_meets F.slot_int_rmul (typeIs_int s k t) F.entry_int_rmul (F.args_int_rmul_2 _ _) (int_rmul_tuple k t l its.toArray n dd sl) ⟨ho, rfl, ⟨_, ho, rfl⟩, ?_⟩)
  by_cases c : xs = [] ∨ k = 1
  · have cc : (its.toArray.isEmpty || k == 1) = true := by
      rcases c with c | c
      · subst c; cases r; rfl
      · subst c; simp
    exact call_meets F.slot_tuple_mul ⟨_, ho, rfl⟩ F.entry_tuple_mul (F.args_tuple_mul_2 _ _) (times_same l its.toArray n dd sl k t h1 h2 cc) ⟨ho, .ref l, H, I, rfl, q0 c⟩
  · have ne : its ≠ [] := fun z => c (.inl (r.nil_iff.mp z))
    have cc : (its.toArray.isEmpty || k == 1) = false := by
      have k1 : k ≠ 1 := fun z => c (.inr z)
      cases its with
      | nil => exact absurd rfl ne
      | cons a b => simp [k1]
    by_cases k0 : k ≤ 0
    · refine call_meets F.slot_tuple_mul ⟨_, ho, rfl⟩ F.entry_tuple_mul (F.args_tuple_mul_2 _ _) (times_none l its.toArray n dd sl k t h1 k0 cc) ⟨ho, ?_⟩
      have e : (List.replicate k.toNat xs).flatten = [] := by rw [Int.toNat_of_nonpos k0]; rfl
      exact pushT (its := []) (xs := []) (t' := s.toks) I (Nat.zero_le _) .nil (by rw [← e]; exact q1 c)
    · have m : ((its.toArray.size : Nat) : Int) * k ≤ 1000 * 1000 := by
        rw [List.size_toArray, len]
        exact Int.mul_le_mul (by omega) h2 (by omega) (by omega)
      have fl : (List.replicate k.toNat its).flatten.length ≤ 1000 * 1000 := by
        rw [PyProof.Rows.lm_len_rep_flat, len]
        exact Nat.mul_le_mul (by omega) hz
      have c0 : (decide (k < -(2 ^ 63)) || decide (k ≥ 2 ^ 63)) = false := by
        rw [decide_eq_false (by omega), decide_eq_false (by omega)] <;> rfl
      have c2 : (decide (k ≤ 0) || its.toArray.isEmpty) = false := by
        rw [decide_eq_false k0, Bool.false_or]
        exact (Bool.or_eq_false_iff.mp cc).1
      have c4 : Builtin.Tuple.tupleTooMany (((its.toArray.size : Nat) : Int) * k) = false := by
        unfold Builtin.Tuple.tupleTooMany
        rw [sizeLine_eq]
        exact decide_eq_false (by omega)
      refine call_meets F.slot_tuple_mul ⟨_, ho, rfl⟩ F.entry_tuple_mul (F.args_tuple_mul_2 _ _) (tuple_mulW l its.toArray n dd sl k t c0 cc c2 (by omega) c4 (by rw [size_rep, List.size_toArray, sizeLine_eq]; omega)) ⟨ho, ?_⟩
      rw [size_rep]
      exact pushT (t' := s.toks) I (by rw [(r.rep k.toNat).length, sizeLine_eq]; omega) (r.rep k.toNat) (q1 c)
end
end FP
namespace FP
open PySem PySem.Spec PyProof.Rows L2
/-! data without lists and dicts inside -/
mutual
def imm : PyData → Bool
  | .none => true
  | .bool _ => true
  | .int _ => true
  | .str _ => true
  | .list _ => false
  | .tuple xs => imms xs
  | .dict _ => false
def imms : List PyData → Bool
  | [] => true
  | x :: xs => imm x && imms xs
end
def kD : Key → PyData
  | .inl i => .int i
  | .inr x => .str x
/-! a value reads as data; the last list: the lists and dicts that it reaches -/
mutual
inductive DV (K : PySem.W.Frag) (H : Hp) : V → PyData → List Addr → Prop
  | non : DV K H .non .none []
  | bl (b : Bool) : DV K H (.bl b) (.bool b) []
  | int (i : Int) : DV K H (.int i) (.int i) []
  | str (x : Str) : DV K H (.str x) (.str x) []
  | tup {a : Addr} {xs : List V} {ds : List PyData} {R : List Addr} : PTup K H a xs → DVs K H xs ds R → DV K H (.ref a) (.tuple ds) R
  | lst {a : Addr} {xs : List V} {ds : List PyData} {R : List Addr} : H a = some (.lst xs) → DVs K H xs ds R → DV K H (.ref a) (.list ds) (a :: R)
  | dic {a : Addr} {kvs : List (Key × V)} {ds : List PyData} {R : List Addr} {e : List (PyData × PyData)} : H a = some (.dK kvs) → DVs K H (kvs.map (·.2)) ds R →
      (kvs.map (·.1)).Nodup → e = (kvs.map fun p => kD p.1).zip ds → DV K H (.ref a) (.dict e) (a :: R)
inductive DVs (K : PySem.W.Frag) (H : Hp) : List V → List PyData → List Addr → Prop
  | nil : DVs K H [] [] []
  | cons {v : V} {vs : List V} {d : PyData} {ds : List PyData} {R R' : List Addr} : DV K H v d R → DVs K H vs ds R' → DVs K H (v :: vs) (d :: ds) (R ++ R')
end
section
variable {K : PySem.W.Frag} {H H' : Hp}
theorem SqT.keep {a : Addr} {xs : List V} (h : SqT K H a xs) (ht : ∀ a o, H a = some o → ¬ Mut (some o) → H' a = some o) : SqT K H' a xs := by
  rcases h with (h | ⟨o, h⟩) | h
  · exact .inl (.inl (ht _ _ h (fun z => z)))
  · exact .inl (.inr ⟨o, ht _ _ h (fun z => z)⟩)
  · exact .inr h
mutual
theorem DV.mono {K : PySem.W.Frag} {H H' : Hp} (ht : ∀ a o, H a = some o → ¬ Mut (some o) → H' a = some o) : ∀ {v : V} {d : PyData} {R : List Addr}, DV K H v d R → (∀ a ∈ R, ∀ o, H a = some o → H' a = some o) → DV K H' v d R
  | _, _, _, .non, _ => .non
  | _, _, _, .bl b, _ => .bl b
  | _, _, _, .int i, _ => .int i
  | _, _, _, .str x, _ => .str x
  | _, _, _, .tup h hs, k => .tup (h.keep ht) (DVs.mono ht hs k)
  | _, _, _, .lst h hs, k => .lst (k _ (List.mem_cons_self) _ h) (DVs.mono ht hs fun a ha => k a (List.mem_cons_of_mem _ ha))
  | _, _, _, .dic h hs n e, k => .dic (k _ (List.mem_cons_self) _ h) (DVs.mono ht hs fun a ha => k a (List.mem_cons_of_mem _ ha)) n e
theorem DVs.mono {K : PySem.W.Frag} {H H' : Hp} (ht : ∀ a o, H a = some o → ¬ Mut (some o) → H' a = some o) : ∀ {vs : List V} {ds : List PyData} {R : List Addr}, DVs K H vs ds R → (∀ a ∈ R, ∀ o, H a = some o → H' a = some o) → DVs K H' vs ds R
  | _, _, _, .nil, _ => .nil
  | _, _, _, .cons h hs, k => .cons (DV.mono ht h fun a ha => k a (List.mem_append_left _ ha)) (DVs.mono ht hs fun a ha => k a (List.mem_append_right _ ha))
end
mutual
theorem DV.imm_nil {K : PySem.W.Frag} {H : Hp} : ∀ {v : V} {d : PyData} {R : List Addr}, DV K H v d R → imm d = true → R = []
  | _, _, _, .non, _ => rfl
  | _, _, _, .bl b, _ => rfl
  | _, _, _, .int i, _ => rfl
  | _, _, _, .str x, _ => rfl
  | _, _, _, .tup h hs, k => DVs.imm_nil hs (by simpa [imm] using k)
  | _, _, _, .lst h hs, k => by simp [imm] at k
  | _, _, _, .dic h hs n e, k => by simp [imm] at k
theorem DVs.imm_nil {K : PySem.W.Frag} {H : Hp} : ∀ {vs : List V} {ds : List PyData} {R : List Addr}, DVs K H vs ds R → imms ds = true → R = []
  | _, _, _, .nil, _ => rfl
  | _, _, _, .cons h hs, k => by
    simp only [imms, Bool.and_eq_true] at k
    rw [DV.imm_nil h k.1, DVs.imm_nil hs k.2]; rfl
end
theorem DV.same {v : V} {d : PyData} {R : List Addr} (h : DV K H v d R) (s : Same H H') : DV K H' v d R := h.mono (fun a o e _ => s a o e) fun a _ o e => s a o e
theorem DVs.same {v : List V} {d : List PyData} {R : List Addr} (h : DVs K H v d R) (s : Same H H') : DVs K H' v d R := h.mono (fun a o e _ => s a o e) fun a _ o e => s a o e
theorem DVs.length {K : PySem.W.Frag} {H : Hp} : ∀ {vs : List V} {ds : List PyData} {R : List Addr}, DVs K H vs ds R → vs.length = ds.length
  | _, _, _, .nil => rfl
  | _, _, _, .cons _ hs => by simp [DVs.length hs]
mutual
theorem DV.tracked {K : PySem.W.Frag} {H : Hp} : ∀ {v : V} {d : PyData} {R : List Addr}, DV K H v d R → ∀ a ∈ R, H a ≠ none
  | _, _, _, .non, _, h => nomatch h
  | _, _, _, .bl b, _, h => nomatch h
  | _, _, _, .int i, _, h => nomatch h
  | _, _, _, .str x, _, h => nomatch h
  | _, _, _, .tup h hs, a, m => DVs.tracked hs a m
  | _, _, _, .lst h hs, a, m => by
    rcases List.mem_cons.mp m with rfl | m
    · rw [h]; simp
    · exact DVs.tracked hs a m
  | _, _, _, .dic h hs n e, a, m => by
    rcases List.mem_cons.mp m with rfl | m
    · rw [h]; simp
    · exact DVs.tracked hs a m
theorem DVs.tracked {K : PySem.W.Frag} {H : Hp} : ∀ {vs : List V} {ds : List PyData} {R : List Addr}, DVs K H vs ds R → ∀ a ∈ R, H a ≠ none
  | _, _, _, .nil, _, h => nomatch h
  | _, _, _, .cons h hs, a, m => by
    rcases List.mem_append.mp m with m | m
    · exact DV.tracked h a m
    · exact DVs.tracked hs a m
end
theorem DVs.get {K : PySem.W.Frag} {H : Hp} : ∀ {vs : List V} {ds : List PyData} {R : List Addr} {i : Nat} {d : PyData}, DVs K H vs ds R → ds[i]? = some d → ∃ v R', vs[i]? = some v ∧ DV K H v d R' ∧ (∀ a ∈ R', a ∈ R)
  | _, _, _, _, _, .nil, e => by simp at e
  | _, _, _, 0, _, .cons h _, e => by
    simp at e; subst e
    exact ⟨_, _, rfl, h, fun a ha => List.mem_append_left _ ha⟩
  | _, _, _, i + 1, d, .cons _ t, e => by
    obtain ⟨v, R', h1, h2, h3⟩ := DVs.get (i := i) (d := d) t (by simpa using e)
    exact ⟨v, R', by simpa using h1, h2, fun a ha => List.mem_append_right _ (h3 a ha)⟩
theorem DVs.get' {K : PySem.W.Frag} {H : Hp} : ∀ {vs : List V} {ds : List PyData} {R : List Addr} {i : Nat} {v : V}, DVs K H vs ds R → vs[i]? = some v → ∃ d R', ds[i]? = some d ∧ DV K H v d R' ∧ (∀ a ∈ R', a ∈ R)
  | _, _, _, _, _, .nil, e => by simp at e
  | _, _, _, 0, _, .cons h _, e => by
    simp at e; subst e
    exact ⟨_, _, rfl, h, fun a ha => List.mem_append_left _ ha⟩
  | _, _, _, i + 1, d, .cons _ t, e => by
    obtain ⟨v, R', h1, h2, h3⟩ := DVs.get' (i := i) (v := d) t (by simpa using e)
    exact ⟨v, R', by simpa using h1, h2, fun a ha => List.mem_append_right _ (h3 a ha)⟩
theorem DVs.append {K : PySem.W.Frag} {H : Hp} : ∀ {vs ws : List V} {ds es : List PyData} {R R' : List Addr}, DVs K H vs ds R → DVs K H ws es R' → DVs K H (vs ++ ws) (ds ++ es) (R ++ R')
  | _, _, _, _, _, _, .nil, h => h
  | _, _, _, _, _, _, .cons h t, h' => by
    have := DVs.cons h (DVs.append t h')
    simpa [List.append_assoc] using this
end
/-! the state -/
abbrev EV := List (Option PyData)
abbrev Fo := Nat → List Addr
def InF (own : Nat → Bool) (F : Fo) (a : Addr) : Prop := ∃ i, own i = true ∧ a ∈ F i
structure RepE (K : PySem.W.Frag) (own : Nat → Bool) (σ : L2.St) (H : Hp) (ρ : EV) (F : Fo) : Prop where
  len : σ.length = ρ.length
  val : ∀ i d, ρ[i]? = some (some d) → ∃ v, σ[i]? = some (some v) ∧ DV K H v d (F i)
  emp : ∀ i, (∀ d, ρ[i]? ≠ some (some d)) → F i = []
  nod : ∀ i, own i = true → (F i).Nodup
  mu : ∀ i, own i = true → ∀ a ∈ F i, Mut (H a)
  dis : ∀ i j, i ≠ j → own j = true → ∀ a ∈ F i, a ∉ F j
/-- behind a statement -/
structure StpS (own : Nat → Bool) (H : Hp) (F : Fo) (H' : Hp) (F' : Fo) : Prop where
  keep : ∀ a o, H a = some o → ¬ InF own F a → H' a = some o
  dom : ∀ a, H a ≠ none → H' a ≠ none
  grow : ∀ i, own i = true → ∀ a ∈ F' i, a ∈ F i ∨ H a = none
/-- behind an expression -/
structure Stp (own : Nat → Bool) (H : Hp) (F : Fo) (H' : Hp) (F' : Fo) : Prop extends StpS own H F H' F' where
  pu : ∀ i, own i = false → F' i = F i
section
variable {K : PySem.W.Frag} {own : Nat → Bool} {σ : L2.St} {H H1 H2 H' : Hp} {ρ ρ' : EV} {F F1 F2 F' : Fo} {R : List Addr}
theorem StpS.refl : StpS own H F H F := ⟨fun _ _ e _ => e, fun _ e => e, fun _ _ _ h => .inl h⟩
theorem Stp.refl : Stp own H F H F := ⟨.refl, fun _ _ => rfl⟩
theorem Stp.same (s : Same H H') : Stp own H F H' F := ⟨⟨fun _ _ e _ => s _ _ e, fun a e => by
  cases q : H a with
  | none => exact absurd q e
  | some o => rw [s a o q]; simp, fun _ _ _ h => .inl h⟩, fun _ _ => rfl⟩
theorem StpS.no (s : StpS own H F H' F') {a : Addr} (h : H' a = none) : H a = none := by
  cases q : H a with
  | none => rfl
  | some o => exact absurd h (s.dom a (by rw [q]; simp))
theorem StpS.trans (s : StpS own H F H1 F1) (t : StpS own H1 F1 H2 F2) : StpS own H F H2 F2 where
  keep := fun a o e n => t.keep a o (s.keep a o e n) fun ⟨i, oi, m⟩ => by
    rcases s.grow i oi a m with z | z
    · exact n ⟨i, oi, z⟩
    · rw [e] at z; cases z
  dom := fun a e => t.dom a (s.dom a e)
  grow := fun i oi a m => by
    rcases t.grow i oi a m with z | z
    · exact s.grow i oi a z
    · exact .inr (s.no z)
theorem Stp.no (s : Stp own H F H' F') {a : Addr} (h : H' a = none) : H a = none := s.toStpS.no h
theorem Stp.trans (s : Stp own H F H1 F1) (t : Stp own H1 F1 H2 F2) : Stp own H F H2 F2 := ⟨s.toStpS.trans t.toStpS, fun i oi => (t.pu i oi).trans (s.pu i oi)⟩
theorem mut_some {o : Option HO} (h : Mut o) : ∃ u, o = some u := by
  cases o with
  | none => exact h.elim
  | some u => exact ⟨u, rfl⟩
theorem RepE.tracked (r : RepE K own σ H ρ F) {a : Addr} (h : InF own F a) : H a ≠ none := by
  obtain ⟨i, oi, m⟩ := h
  obtain ⟨u, e⟩ := mut_some (r.mu i oi a m)
  rw [e]; simp
theorem RepE.fresh (r : RepE K own σ H ρ F) {a : Addr} (h : H a = none) : ¬ InF own F a := fun z => r.tracked z h
theorem RepE.tr (r : RepE K own σ H ρ F) {i : Nat} {a : Addr} (m : a ∈ F i) : H a ≠ none := by
  by_cases h : ∃ d, ρ[i]? = some (some d)
  · obtain ⟨d, e⟩ := h
    obtain ⟨v, _, h2⟩ := r.val i d e
    exact h2.tracked a m
  · rw [r.emp i fun d e => h ⟨d, e⟩] at m
    exact absurd m List.not_mem_nil
/-- what is not owned and not mutable stays -/
theorem StpS.tups (r : RepE K own σ H ρ F) (s : StpS own H F H' F') : ∀ a o, H a = some o → ¬ Mut (some o) → H' a = some o := fun a o e n =>
  s.keep a o e fun ⟨i, oi, m⟩ => by
    have := r.mu i oi a m
    rw [e] at this; exact n this
theorem DV.step {v : V} {d : PyData} (h : DV K H v d R) (r : RepE K own σ H ρ F) (s : StpS own H F H' F') (n : ∀ a ∈ R, ¬ InF own F a) : DV K H' v d R :=
  h.mono (s.tups r) fun a ha o e => s.keep a o e (n a ha)
theorem DVs.step {v : List V} {d : List PyData} (h : DVs K H v d R) (r : RepE K own σ H ρ F) (s : StpS own H F H' F') (n : ∀ a ∈ R, ¬ InF own F a) : DVs K H' v d R :=
  h.mono (s.tups r) fun a ha o e => s.keep a o e (n a ha)
/-- what was disjoint stays so -/
theorem StpS.apart (s : StpS own H F H' F') {a : Addr} (h : H a ≠ none) (n : ¬ InF own F a) : ¬ InF own F' a := fun ⟨i, oi, m⟩ => by
  rcases s.grow i oi a m with z | z
  · exact n ⟨i, oi, z⟩
  · exact h z
theorem RepE.pureApart (r : RepE K own σ H ρ F) {i : Nat} (oi : own i = false) : ∀ a ∈ F i, ¬ InF own F a := fun a m ⟨j, oj, mj⟩ =>
  r.dis i j (fun e => by rw [e, oj] at oi; cases oi) oj a m mj
theorem RepE.same (r : RepE K own σ H ρ F) (s : Same H H') : RepE K own σ H' ρ F where
  len := r.len
  val := fun i d e => by
    obtain ⟨v, h1, h2⟩ := r.val i d e
    exact ⟨v, h1, h2.same s⟩
  emp := r.emp
  nod := r.nod
  mu := fun i oi a m => by
    have := r.mu i oi a m
    obtain ⟨u, e⟩ := mut_some this
    rw [s a u e]; rw [e] at this; exact this
  dis := r.dis
def setF (F : Fo) (j : Nat) (R : List Addr) : Fo := fun i => if i = j then R else F i
theorem setF_same {j : Nat} : setF F j R j = R := by simp [setF]
theorem setF_ne {i j : Nat} (h : i ≠ j) : setF F j R i = F i := by simp [setF, h]
/-- an owned thing is written -/
theorem RepE.write {j : Nat} {v : V} {d : PyData} (r : RepE K own σ H ρ F) (oj : own j = true) (hv : σ[j]? = some (some v)) (keep : ∀ a u, H a = some u → a ∉ F j → H' a = some u) (dom : ∀ a, H a ≠ none → H' a ≠ none)
    (hd : DV K H' v d R) (nd : R.Nodup) (hm : ∀ a ∈ R, Mut (H' a) ∧ (a ∈ F j ∨ H a = none)) : RepE K own σ H' (ρ.set j (some d)) (setF F j R) ∧ Stp own H F H' (setF F j R) := by
  have tup : ∀ a o, H a = some o → ¬ Mut (some o) → H' a = some o := fun a o e n => keep a o e fun m => by
    have := r.mu j oj a m
    rw [e] at this; exact n this
  have hj : j < ρ.length := by rw [← r.len]; exact (List.getElem?_eq_some_iff.mp hv).1
  refine ⟨⟨by simpa using r.len, fun i e q => ?_, fun i n => ?_, fun i oi => ?_, fun i oi a m => ?_, fun i k ne ok a m m2 => ?_⟩, ⟨⟨fun a o e n => keep a o e fun m => n ⟨j, oj, m⟩, dom, fun i oi a m => ?_⟩, fun i oi => ?_⟩⟩
  · by_cases h : i = j
    · subst h
      rw [List.getElem?_set_self hj] at q
      cases q
      exact ⟨v, hv, by rw [setF_same]; exact hd⟩
    · rw [List.getElem?_set_ne (Ne.symm h)] at q
      obtain ⟨u, h1, h2⟩ := r.val i e q
      exact ⟨u, h1, by rw [setF_ne h]; exact h2.mono tup fun a ha o e => keep a o e (r.dis i j h oj a ha)⟩
  · by_cases h : i = j
    · subst h
      exact absurd (List.getElem?_set_self hj) (n d)
    · rw [setF_ne h]
      exact r.emp i fun e q => n e (by rw [List.getElem?_set_ne (Ne.symm h)]; exact q)
  · by_cases h : i = j
    · subst h; rw [setF_same]; exact nd
    · rw [setF_ne h]; exact r.nod i oi
  · by_cases h : i = j
    · subst h; rw [setF_same] at m; exact (hm a m).1
    · rw [setF_ne h] at m
      have := r.mu i oi a m
      obtain ⟨u, e⟩ := mut_some this
      rw [keep a u e (r.dis i j h oj a m), ← e]; exact this
  · by_cases h : i = j
    · subst h
      rw [setF_same] at m
      rw [setF_ne (Ne.symm ne)] at m2
      rcases (hm a m).2 with z | z
      · exact r.dis i k ne ok a z m2
      · exact r.tr m2 z
    · rw [setF_ne h] at m
      by_cases h2 : k = j
      · subst h2
        rw [setF_same] at m2
        rcases (hm a m2).2 with z | z
        · exact r.dis i k ne ok a m z
        · exact r.tr m z
      · rw [setF_ne h2] at m2
        exact r.dis i k ne ok a m m2
  · by_cases h : i = j
    · subst h; rw [setF_same] at m; exact (hm a m).2
    · rw [setF_ne h] at m; exact .inl m
  · exact setF_ne fun e => by rw [e, oj] at oi; cases oi
/-- a name that is not owned is set -/
theorem RepE.setP {j : Nat} {v : V} {d : PyData} (r : RepE K own σ H ρ F) (oj : own j = false) (hj : j < σ.length) (hd : DV K H v d R) (ap : ∀ a ∈ R, ¬ InF own F a) : RepE K own (σ.set j (some v)) H (ρ.set j (some d)) (setF F j R) ∧ StpS own H F H (setF F j R) := by
  have hj' : j < ρ.length := by rw [← r.len]; exact hj
  refine ⟨⟨by simpa using r.len, fun i e q => ?_, fun i n => ?_, fun i oi => ?_, fun i oi a m => ?_, fun i k ne ok a m m2 => ?_⟩, ⟨fun a o e n => e, fun _ h => h, fun i oi a m => ?_⟩⟩
  · by_cases h : i = j
    · subst h
      rw [List.getElem?_set_self hj'] at q
      cases q
      exact ⟨v, List.getElem?_set_self hj, by rw [setF_same]; exact hd⟩
    · rw [List.getElem?_set_ne (Ne.symm h)] at q
      obtain ⟨u, h1, h2⟩ := r.val i e q
      exact ⟨u, by rw [List.getElem?_set_ne (Ne.symm h)]; exact h1, by rw [setF_ne h]; exact h2⟩
  · by_cases h : i = j
    · subst h
      exact absurd (List.getElem?_set_self hj') (n d)
    · rw [setF_ne h]
      exact r.emp i fun e q => n e (by rw [List.getElem?_set_ne (Ne.symm h)]; exact q)
  · rw [setF_ne fun e => by rw [e, oj] at oi; cases oi]; exact r.nod i oi
  · rw [setF_ne fun e => by rw [e, oj] at oi; cases oi] at m; exact r.mu i oi a m
  · have hk : k ≠ j := fun e => by rw [e, oj] at ok; cases ok
    rw [setF_ne hk] at m2
    by_cases h : i = j
    · subst h
      rw [setF_same] at m
      exact ap a m ⟨k, ok, m2⟩
    · rw [setF_ne h] at m
      exact r.dis i k ne ok a m m2
  · rw [setF_ne fun e => by rw [e, oj] at oi; cases oi] at m; exact .inl m
/-- what is new is in no slot -/
theorem far_of (s : Stp own H F H' F') (r0 : RepE K own σ H ρ F) (nw : ∀ a ∈ R, H a = none) (ap : ∀ a ∈ R, ¬ InF own F' a) : ∀ i, ∀ a ∈ R, a ∉ F' i := fun i a m2 m => by
  cases oi : own i with
  | true => exact ap a m2 ⟨i, oi, m⟩
  | false =>
    rw [s.pu i oi] at m
    exact r0.tr m (nw a m2)
/-- an owned name is set to something that is in no other slot -/
theorem RepE.setO {j : Nat} {v : V} {d : PyData} (r : RepE K own σ H ρ F) (hj : j < σ.length) (hd : DV K H v d R) (nd : R.Nodup) (mu : ∀ a ∈ R, Mut (H a)) (far : ∀ i, ∀ a ∈ R, a ∉ F i) :
    RepE K own (σ.set j (some v)) H (ρ.set j (some d)) (setF F j R) := by
  have hj' : j < ρ.length := by rw [← r.len]; exact hj
  refine ⟨by simpa using r.len, fun i e q => ?_, fun i n => ?_, fun i oi => ?_, fun i oi a m => ?_, fun i k ne ok a m m2 => ?_⟩
  · by_cases h : i = j
    · subst h
      rw [List.getElem?_set_self hj'] at q
      cases q
      exact ⟨v, List.getElem?_set_self hj, by rw [setF_same]; exact hd⟩
    · rw [List.getElem?_set_ne (Ne.symm h)] at q
      obtain ⟨u, h1, h2⟩ := r.val i e q
      exact ⟨u, by rw [List.getElem?_set_ne (Ne.symm h)]; exact h1, by rw [setF_ne h]; exact h2⟩
  · by_cases h : i = j
    · subst h
      exact absurd (List.getElem?_set_self hj') (n d)
    · rw [setF_ne h]
      exact r.emp i fun e q => n e (by rw [List.getElem?_set_ne (Ne.symm h)]; exact q)
  · by_cases h : i = j
    · subst h; rw [setF_same]; exact nd
    · rw [setF_ne h]; exact r.nod i oi
  · by_cases h : i = j
    · subst h; rw [setF_same] at m; exact mu a m
    · rw [setF_ne h] at m; exact r.mu i oi a m
  · by_cases h : i = j
    · subst h
      rw [setF_same] at m
      rw [setF_ne (Ne.symm ne)] at m2
      exact far k a m m2
    · rw [setF_ne h] at m
      by_cases h2 : k = j
      · subst h2
        rw [setF_same] at m2
        exact far i a m2 m
      · rw [setF_ne h2] at m2
        exact r.dis i k ne ok a m m2
theorem StpS.setF {j : Nat} (s : StpS own H F H' F') (nw : ∀ a ∈ R, H a = none) : StpS own H F H' (setF F' j R) := ⟨s.keep, s.dom, fun i oi a m => by
  by_cases h : i = j
  · subst h; rw [setF_same] at m; exact .inr (nw a m)
  · rw [setF_ne h] at m; exact s.grow i oi a m⟩
theorem StpS.setFP {j : Nat} (s : StpS own H F H' F') (oj : own j = false) : StpS own H F H' (FP.setF F' j R) := ⟨s.keep, s.dom, fun i oi a m => by
  rw [setF_ne fun e => by rw [e, oj] at oi; cases oi] at m; exact s.grow i oi a m⟩
end
/-! what is known of a result: 1: apart from what is owned; 2: new, each object once -/
def RC (own : Nat → Bool) (c : Nat) (H H' : Hp) (F' : Fo) (R : List Addr) : Prop :=
  (1 ≤ c → ∀ a ∈ R, ¬ InF own F' a) ∧ (2 ≤ c → R.Nodup ∧ ∀ a ∈ R, H a = none ∧ Mut (H' a))
theorem RC.nil {own : Nat → Bool} {c : Nat} {H H' : Hp} {F' : Fo} : RC own c H H' F' [] := ⟨fun _ _ h => absurd h List.not_mem_nil, fun _ => ⟨List.nodup_nil, fun _ h => absurd h List.not_mem_nil⟩⟩
theorem RC.le {own : Nat → Bool} {c c' : Nat} {H H' : Hp} {F' : Fo} {R : List Addr} (h : RC own c H H' F' R) (l : c' ≤ c) : RC own c' H H' F' R :=
  ⟨fun q => h.1 (Nat.le_trans q l), fun q => h.2 (Nat.le_trans q l)⟩
/-- the functional reading of an expression -/
abbrev FX := EV → Option (PyData × EV)
def tD (K : PySem.W.Frag) (own : Nat → Bool) (c : Nat) (p : Bool) (f : FX) : TE := fun σ H Q => ∃ ρ F d ρ', RepE K own σ H ρ F ∧ f ρ = some (d, ρ') ∧
  ∀ v H' F' R, RepE K own σ H' ρ' F' → Stp own H F H' F' → (p = true → ρ' = ρ ∧ F' = F ∧ Same H H') → DV K H' v d R → RC own c H H' F' R → Q v H'
/-- of a test -/
abbrev FB := EV → Option (Bool × EV)
def tT (K : PySem.W.Frag) (own : Nat → Bool) (p : Bool) (f : FB) : TT := fun σ H Q => ∃ ρ F b ρ', RepE K own σ H ρ F ∧ f ρ = some (b, ρ') ∧
  ∀ H' F', RepE K own σ H' ρ' F' → Stp own H F H' F' → (p = true → ρ' = ρ ∧ F' = F ∧ Same H H') → Q b H'
/-- of arguments -/
abbrev FL := EV → Option (List PyData × EV)
def tA (K : PySem.W.Frag) (own : Nat → Bool) (c : Nat) (p : Bool) (f : FL) : TA := fun σ H Q => ∃ ρ F ds ρ', RepE K own σ H ρ F ∧ f ρ = some (ds, ρ') ∧
  ∀ vs H' F' R, RepE K own σ H' ρ' F' → Stp own H F H' F' → (p = true → ρ' = ρ ∧ F' = F ∧ Same H H') → DVs K H' vs ds R → RC own c H H' F' R → Q vs H'
abbrev FE (X : Cx) (own : Nat → Bool) (c : Nat) (p : Bool) (e : Expr) (f : FX) : Prop := PE X e (tD X.K own c p f)
abbrev FT (X : Cx) (own : Nat → Bool) (p : Bool) (e : Expr) (f : FB) : Prop := PT X e (tT X.K own p f)
abbrev FA (X : Cx) (own : Nat → Bool) (c : Nat) (p : Bool) (es : List Expr) (f : FL) : Prop := PA X es (tA X.K own c p f)
theorem _root_.L2.PE.conv {X : Cx} {e : Expr} {t t' : TE} (h : PE X e t) (i : ∀ σ H Q, t' σ H Q → t σ H Q) : PE X e t' := ⟨fun pins s σ H Q I q => h.run pins s σ H Q I (i σ H Q q)⟩
theorem _root_.L2.PT.conv {X : Cx} {e : Expr} {t t' : TT} (h : PT X e t) (i : ∀ σ H Q, t' σ H Q → t σ H Q) : PT X e t' := ⟨fun pins s σ H Q I q => h.run pins s σ H Q I (i σ H Q q)⟩
theorem _root_.L2.PA.conv {X : Cx} {e : List Expr} {t t' : TA} (h : PA X e t) (i : ∀ σ H Q, t' σ H Q → t σ H Q) : PA X e t' := ⟨fun pos pins s σ H Q I q => h.run pos pins s σ H Q I (i σ H Q q)⟩
theorem _root_.L2.PS.conv {X : Cx} {e : Stmt} {t t' : TS} (h : PS X e t) (i : ∀ D σ H, t' D σ H → t D σ H) : PS X e t' := ⟨fun pins s σ H D I q => h.run pins s σ H D I (i D σ H q)⟩
theorem _root_.L2.PSs.conv {X : Cx} {e : List Stmt} {t t' : TS} (h : PSs X e t) (i : ∀ D σ H, t' D σ H → t D σ H) : PSs X e t' := ⟨fun pins s σ H D I q => h.run pins s σ H D I (i D σ H q)⟩
section
variable {X : Cx} {own : Nat → Bool}
/-! ### names, constants -/
def fC (d : PyData) : FX := fun ρ => some (d, ρ)
def fN (i : Nat) : FX := fun ρ => match ρ[i]? with
  | some (some d) => some (d, ρ)
  | _ => none
theorem fe_const {e : Expr} {v : V} {d : PyData} (h : PE X e (tC v)) (hd : ∀ H, DV X.K H v d []) : FE X own 2 true e (fC d) := h.conv fun σ H Q ⟨ρ, F, d', ρ', r, e1, k⟩ => by
  cases e1
  exact k v H F [] r .refl (fun _ => ⟨rfl, rfl, .refl H⟩) (hd H) .nil
theorem fe_int {i : Int} {j pos} : FE X own 2 true (.Constant (.int i) j pos) (fC (.int i)) := fe_const pe_int fun _ => .int i
theorem fe_bl {b : Bool} {j pos} : FE X own 2 true (.Constant (.bool b) j pos) (fC (.bool b)) := fe_const pe_bl fun _ => .bl b
theorem fe_non {j pos} : FE X own 2 true (.Constant .none j pos) (fC .none) := fe_const pe_non fun _ => .non
theorem fe_str {x : Str} {j pos} : FE X own 2 true (.Constant (.str x) j pos) (fC (.str x)) := fe_const pe_str fun _ => .str x
theorem fe_name0 {e : Expr} {i : Nat} (h : PE X e (tVar i)) : FE X own 0 true e (fN i) := h.conv fun σ H Q ⟨ρ, F, d', ρ', r, e1, k⟩ => by
  unfold fN at e1
  split at e1
  · rename_i d q
    cases e1
    obtain ⟨v, h1, h2⟩ := r.val i _ q
    exact ⟨v, h1, k v H F _ r .refl (fun _ => ⟨rfl, rfl, .refl H⟩) h2 ⟨fun z => absurd z (by decide), fun z => absurd z (by decide)⟩⟩
  · cases e1
theorem fe_name {e : Expr} {i : Nat} (h : PE X e (tVar i)) (ho : own i = false := by rfl) : FE X own 1 true e (fN i) := h.conv fun σ H Q ⟨ρ, F, d', ρ', r, e1, k⟩ => by
  unfold fN at e1
  split at e1
  · rename_i d q
    cases e1
    obtain ⟨v, h1, h2⟩ := r.val i _ q
    exact ⟨v, h1, k v H F _ r .refl (fun _ => ⟨rfl, rfl, .refl H⟩) h2 ⟨fun _ => r.pureApart ho, fun z => absurd z (by decide)⟩⟩
  · cases e1
/-- a result without lists and dicts is new -/
def fImm (f : FX) : FX := fun ρ => match f ρ with
  | some (d, ρ') => if imm d = true then some (d, ρ') else none
  | none => none
theorem fe_imm {e : Expr} {c : Nat} {p : Bool} {f : FX} (h : FE X own c p e f) : FE X own 2 p e (fImm f) := h.conv fun σ H Q ⟨ρ, F, d, ρ', r, e1, k⟩ => by
  unfold fImm at e1
  split at e1
  · rename_i d' ρ1 q
    split at e1
    · rename_i hi
      cases e1
      refine ⟨ρ, F, d, ρ', r, q, fun v H' F' R r' s' p' hv hc => k v H' F' R r' s' p' hv ?_⟩
      rw [hv.imm_nil hi]; exact .nil
    · cases e1
  · cases e1
theorem fe_le {e : Expr} {c c' : Nat} {p p' : Bool} {f : FX} (h : FE X own c p e f) (l : c' ≤ c) (lp : p' = true → p = true) : FE X own c' p' e f := h.conv fun σ H Q ⟨ρ, F, d, ρ', r, e1, k⟩ =>
  ⟨ρ, F, d, ρ', r, e1, fun v H' F' R r' s' p' hv hc => k v H' F' R r' s' (fun z => p' (lp z)) hv (hc.le l)⟩
/-! ### operators, by values -/
abbrev G2 := PyData → PyData → Option PyData
/-- what is new behind a call by values -/
def New (H H' : Hp) (R : List Addr) : Prop := R.Nodup ∧ ∀ a ∈ R, H a = none ∧ Mut (H' a)
theorem New.nil {H H' : Hp} : New H H' [] := ⟨List.nodup_nil, fun _ h => nomatch h⟩
def DOp (K : PySem.W.Frag) (r : R2) (g : G2) : Prop := ∀ H x y d e Rx Ry z (Q : VK), DV K H x d Rx → DV K H y e Ry → g d e = some z → (∀ v H' R, Same H H' → DV K H' v z R → New H H' R → Q v H') → r x y H Q
def fBin (g : G2) (fa fb : FX) : FX := fun ρ => match fa ρ with
  | some (x, ρ1) => match fb ρ1 with
    | some (y, ρ2) => match g x y with
      | some z => some (z, ρ2)
      | none => none
    | none => none
  | none => none
/-- two in a row -/
theorem two {K : PySem.W.Frag} {ca cb : Nat} {pa pb : Bool} {fa fb : FX} (hc : 1 ≤ ca ∨ pb = true) {σ : L2.St} {H : Hp} {ρ ρ1 ρ2 : EV} {F : Fo} {x y : PyData} (r : RepE K own σ H ρ F) (ea : fa ρ = some (x, ρ1)) (eb : fb ρ1 = some (y, ρ2))
    {W : V → V → Hp → Prop} (k : ∀ v w H2 F2 Rx Ry, RepE K own σ H2 ρ2 F2 → Stp own H F H2 F2 → ((pa && pb) = true → ρ2 = ρ ∧ F2 = F ∧ Same H H2) → DV K H2 v x Rx → DV K H2 w y Ry → W v w H2) :
    tD K own ca pa fa σ H fun v H1 => tD K own cb pb fb σ H1 fun w H2 => W v w H2 := by
  refine ⟨ρ, F, x, ρ1, r, ea, fun v H1 F1 R1 r1 s1 p1 v1 c1 => ⟨ρ1, F1, y, ρ2, r1, eb, fun w H2 F2 R2 r2 s2 p2 v2 c2 => ?_⟩⟩
  refine k v w H2 F2 R1 R2 r2 (s1.trans s2) (fun z => ?_) ?_ v2
  · rw [Bool.and_eq_true] at z
    obtain ⟨q1, q2, q3⟩ := p1 z.1
    obtain ⟨u1, u2, u3⟩ := p2 z.2
    exact ⟨u1.trans q1, u2.trans q2, q3.trans u3⟩
  · rcases hc with z | z
    · exact v1.step r1 s2.toStpS (c1.1 z)
    · exact v1.same (p2 z).2.2
/-- the end of a step that made something new -/
theorem fin {K : PySem.W.Frag} {p : Bool} {σ : L2.St} {H H2 H' : Hp} {ρ ρ2 : EV} {F F2 : Fo} {v : V} {d : PyData} {R : List Addr} {Q : VK}
    (k : ∀ v H' F' R, RepE K own σ H' ρ2 F' → Stp own H F H' F' → (p = true → ρ2 = ρ ∧ F' = F ∧ Same H H') → DV K H' v d R → RC own 2 H H' F' R → Q v H')
    (r2 : RepE K own σ H2 ρ2 F2) (s2 : Stp own H F H2 F2) (p2 : p = true → ρ2 = ρ ∧ F2 = F ∧ Same H H2) (sm : Same H2 H') (hv : DV K H' v d R) (hn : New H2 H' R) : Q v H' :=
  k v H' F2 R (r2.same sm) (s2.trans (.same sm)) (fun z => ⟨(p2 z).1, (p2 z).2.1, (p2 z).2.2.trans sm⟩) hv
    ⟨fun _ a ha => r2.fresh (hn.2 a ha).1, fun _ => ⟨hn.1, fun a ha => ⟨s2.no (hn.2 a ha).1, (hn.2 a ha).2⟩⟩⟩
theorem fe_op {op : Operator} {r : R2} {g : G2} {a b : Expr} {pos : Pos} {ca cb : Nat} {pa pb : Bool} {fa fb : FX} (ho : OpR X (binaryOp op) r) (hg : DOp X.K r g) (ha : FE X own ca pa a fa) (hb : FE X own cb pb b fb)
    (hc : 1 ≤ ca ∨ pb = true := by first | exact .inl (by decide) | exact .inr rfl) : FE X own 2 (pa && pb) (.BinOp a op b pos) (fBin g fa fb) :=
  (pe_op ho ha hb).conv fun σ H Q ⟨ρ, F, d, ρ', r, e1, k⟩ => by
    unfold fBin at e1
    split at e1
    · rename_i x ρ1 ea
      split at e1
      · rename_i y ρ2 eb
        split at e1
        · rename_i z eg
          cases e1
          exact two hc r ea eb fun v w H2 F2 Rx Ry r2 s2 p2 v2 w2 => hg H2 v w x y Rx Ry d _ v2 w2 eg fun u H' R sm hv hn => fin k r2 s2 p2 sm hv hn
        · cases e1
      · cases e1
    · cases e1
theorem fe_cmp {op : CmpOp} {r : R2} {g : G2} {a b : Expr} {pos : Pos} {ca cb : Nat} {pa pb : Bool} {fa fb : FX} (ho : OpR X (compareOp op) r) (hg : DOp X.K r g) (ha : FE X own ca pa a fa) (hb : FE X own cb pb b fb)
    (hm : behindInMarks op b = false := by first | rfl | exact nomark _) (hc : 1 ≤ ca ∨ pb = true := by first | exact .inl (by decide) | exact .inr rfl) : FE X own 2 (pa && pb) (.Compare a [op] [b] pos) (fBin g fa fb) :=
  (pe_cmpR ho ha hb hm).conv fun σ H Q ⟨ρ, F, d, ρ', r, e1, k⟩ => by
    unfold fBin at e1
    split at e1
    · rename_i x ρ1 ea
      split at e1
      · rename_i y ρ2 eb
        split at e1
        · rename_i z eg
          cases e1
          exact two hc r ea eb fun v w H2 F2 Rx Ry r2 s2 p2 v2 w2 => hg H2 v w x y Rx Ry d _ v2 w2 eg fun u H' R sm hv hn => fin k r2 s2 p2 sm hv hn
        · cases e1
      · cases e1
    · cases e1
theorem fe_ix {r : R2} {g : G2} {a b : Expr} {pos : Pos} {ca cb : Nat} {pa pb : Bool} {fa fb : FX} (ho : IxR X r) (hg : DOp X.K r g) (ha : FE X own ca pa a fa) (hb : FE X own cb pb b fb)
    (hs : PlainIx b := by intro _ _; rfl) (hc : 1 ≤ ca ∨ pb = true := by first | exact .inl (by decide) | exact .inr rfl) : FE X own 2 (pa && pb) (.Subscript a b pos) (fBin g fa fb) :=
  (pe_ix ho ha hb hs).conv fun σ H Q ⟨ρ, F, d, ρ', r, e1, k⟩ => by
    unfold fBin at e1
    split at e1
    · rename_i x ρ1 ea
      split at e1
      · rename_i y ρ2 eb
        split at e1
        · rename_i z eg
          cases e1
          exact two hc r ea eb fun v w H2 F2 Rx Ry r2 s2 p2 v2 w2 => hg H2 v w x y Rx Ry d _ v2 w2 eg fun u H' R sm hv hn => fin k r2 s2 p2 sm hv hn
        · cases e1
      · cases e1
    · cases e1
/-! ### arguments -/
def fNil : FL := fun ρ => some ([], ρ)
def fCons (fa : FX) (fs : FL) : FL := fun ρ => match fa ρ with
  | some (x, ρ1) => match fs ρ1 with
    | some (xs, ρ2) => some (x :: xs, ρ2)
    | none => none
  | none => none
theorem fa_nil : FA X own 2 true [] fNil := pa_nil.conv fun σ H Q ⟨ρ, F, ds, ρ', r, e1, k⟩ => by
  cases e1
  exact k [] H F [] r .refl (fun _ => ⟨rfl, rfl, .refl H⟩) .nil .nil
theorem cons_tA {K : PySem.W.Frag} {ca cb : Nat} {pa pb : Bool} {fa : FX} {fs : FL} (hc : 1 ≤ ca ∨ pb = true) : ∀ σ H Q, tA K own (min ca cb) (pa && pb) (fCons fa fs) σ H Q → tCons (tD K own ca pa fa) (tA K own cb pb fs) σ H Q := fun σ H Q ⟨ρ, F, ds, ρ', r, e1, k⟩ => by
    unfold fCons at e1
    split at e1
    · rename_i x ρ1 ea
      split at e1
      · rename_i xs ρ2 eb
        cases e1
        refine ⟨ρ, F, x, ρ1, r, ea, fun v H1 F1 R1 r1 s1 p1 v1 c1 => ⟨ρ1, F1, xs, ρ', r1, eb, fun vs H2 F2 R2 r2 s2 p2 v2 c2 => ?_⟩⟩
        have hv : DV K H2 v x R1 := by
          rcases hc with z | z
          · exact v1.step r1 s2.toStpS (c1.1 z)
          · exact v1.same (p2 z).2.2
        have tr1 := v1.tracked
        refine k (v :: vs) H2 F2 (R1 ++ R2) r2 (s1.trans s2) (fun z => ?_) (.cons hv v2) ⟨fun z a ha => ?_, fun z => ⟨?_, fun a ha => ?_⟩⟩
        · rw [Bool.and_eq_true] at z
          obtain ⟨q1, q2, q3⟩ := p1 z.1
          obtain ⟨u1, u2, u3⟩ := p2 z.2
          exact ⟨u1.trans q1, u2.trans q2, q3.trans u3⟩
        · rcases List.mem_append.mp ha with ha | ha
          · exact s2.apart (tr1 a ha) (c1.1 (by omega) a ha)
          · exact c2.1 (by omega) a ha
        · have h1 := c1.2 (by omega)
          have h2 := c2.2 (by omega)
          refine List.nodup_append.mpr ⟨h1.1, h2.1, fun a ha b hb e => ?_⟩
          subst e
          exact tr1 a ha (h2.2 a hb).1
        · have h1 := c1.2 (by omega)
          have h2 := c2.2 (by omega)
          rcases List.mem_append.mp ha with ha | ha
          · refine ⟨(h1.2 a ha).1, ?_⟩
            obtain ⟨u, e⟩ := mut_some (h1.2 a ha).2
            rw [s2.keep a u e (c1.1 (by omega) a ha), ← e]
            exact (h1.2 a ha).2
          · exact ⟨s1.no (h2.2 a ha).1, (h2.2 a ha).2⟩
      · cases e1
    · cases e1
theorem fa_cons {e : Expr} {es : List Expr} {c ca cb : Nat} {p pa pb : Bool} {fa : FX} {fs : FL} (ha : FE X own ca pa e fa) (hr : FA X own cb pb es fs)
    (hs : starEach (e :: es) X.env = (false, eval e X.env) :: starEach es X.env := by rfl) (hc : 1 ≤ ca ∨ pb = true := by first | exact .inl (by decide) | exact .inr rfl) (hcc : c = min ca cb := by rfl) (hpp : p = (pa && pb) := by rfl) : FA X own c p (e :: es) (fCons fa fs) := by
  subst hcc hpp
  exact (pa_cons ha hr hs).conv (cons_tA hc)
theorem fa_le {es : List Expr} {c c' : Nat} {p p' : Bool} {f : FL} (h : FA X own c p es f) (l : c' ≤ c) (lp : p' = true → p = true) : FA X own c' p' es f := h.conv fun σ H Q ⟨ρ, F, d, ρ', r, e1, k⟩ =>
  ⟨ρ, F, d, ρ', r, e1, fun v H' F' R r' s' p' hv hc => k v H' F' R r' s' (fun z => p' (lp z)) hv (hc.le l)⟩
/-! ### displays -/
def fTup (fs : FL) : FX := fun ρ => match fs ρ with
  | some (xs, ρ1) => if xs.length ≤ 1000 then some (.tuple xs, ρ1) else none
  | none => none
def fLst (fs : FL) : FX := fun ρ => match fs ρ with
  | some (xs, ρ1) => if xs.length ≤ 1000 then some (.list xs, ρ1) else none
  | none => none
theorem same_upd {H : Hp} {p : Addr} {o : HO} (h : H p = none) : Same H (upd H p o) := fun b u e => by rw [upd_ne (ne_of_none e h)]; exact e
theorem line1000 : (1000 : Nat) ≤ sizeLine := by rw [sizeLine_eq]; decide
theorem fe_tup {es : List Expr} {x1} {pos : Pos} {c : Nat} {p : Bool} {fs : FL} (h : FA X own c p es fs) : FE X own c p (.Tuple es x1 pos) (fTup fs) :=
  (pe_tupF h).conv fun σ H Q ⟨ρ, F, d, ρ', r, e1, k⟩ => by
    unfold fTup at e1
    split at e1
    · rename_i xs ρ1 ea
      split at e1
      · rename_i hl
        cases e1
        refine ⟨ρ, F, xs, ρ', r, ea, fun vs H1 F1 R1 r1 s1 p1 v1 c1 => ⟨by rw [v1.length]; exact Nat.le_trans hl line1000, fun a o dn hn => ?_⟩⟩
        have sm : Same H1 (upd H1 a (.frz o (.tup vs))) := same_upd hn
        refine k (.ref a) _ F1 R1 (r1.same sm) (s1.trans (.same sm)) (fun z => ⟨(p1 z).1, (p1 z).2.1, (p1 z).2.2.trans sm⟩) (.tup (.of upd_same dn) (v1.same sm)) ⟨c1.1, fun z => ⟨(c1.2 z).1, fun b hb => ⟨((c1.2 z).2 b hb).1, ?_⟩⟩⟩
        have m := ((c1.2 z).2 b hb).2
        obtain ⟨u, e⟩ := mut_some m
        rw [sm b u e, ← e]; exact m
      · cases e1
    · cases e1
theorem fe_lst {es : List Expr} {pos : Pos} {c : Nat} {p : Bool} {fs : FL} (h : FA X own c p es fs) : FE X own c p (.List es pos) (fLst fs) :=
  (pe_lst h).conv fun σ H Q ⟨ρ, F, d, ρ', r, e1, k⟩ => by
    unfold fLst at e1
    split at e1
    · rename_i xs ρ1 ea
      split at e1
      · rename_i hl
        cases e1
        refine ⟨ρ, F, xs, ρ', r, ea, fun vs H1 F1 R1 r1 s1 p1 v1 c1 => ⟨by rw [v1.length]; exact Nat.le_trans hl line1000, fun a hn => ?_⟩⟩
        have sm : Same H1 (upd H1 a (.lst vs)) := same_upd hn
        refine k (.ref a) _ F1 (a :: R1) (r1.same sm) (s1.trans (.same sm)) (fun z => ⟨(p1 z).1, (p1 z).2.1, (p1 z).2.2.trans sm⟩) (.lst upd_same (v1.same sm)) ⟨fun z b hb => ?_, fun z => ⟨List.nodup_cons.mpr ⟨fun hm => v1.tracked a hm hn, (c1.2 z).1⟩, fun b hb => ?_⟩⟩
        · rcases List.mem_cons.mp hb with rfl | hb
          · exact r1.fresh hn
          · exact c1.1 z b hb
        · rcases List.mem_cons.mp hb with rfl | hb
          · exact ⟨s1.no hn, by rw [upd_same]; trivial⟩
          · refine ⟨((c1.2 z).2 b hb).1, ?_⟩
            have m := ((c1.2 z).2 b hb).2
            obtain ⟨u, e⟩ := mut_some m
            rw [sm b u e, ← e]; exact m
      · cases e1
    · cases e1
/-! ### built-ins by values -/
abbrev GL := List PyData → Option PyData
def DCall (K : PySem.W.Frag) (r : List V → Hp → VK → Prop) (g : GL) : Prop := ∀ H xs ds Rx z (Q : VK), DVs K H xs ds Rx → g ds = some z → (∀ v H' R, Same H H' → DV K H' v z R → New H H' R → Q v H') → r xs H Q
def fB (g : GL) (fs : FL) : FX := fun ρ => match fs ρ with
  | some (xs, ρ1) => match g xs with
    | some z => some (z, ρ1)
    | none => none
  | none => none
theorem fB_conv {K : PySem.W.Frag} {r : List V → Hp → VK → Prop} {g : GL} (hg : DCall K r g) {c : Nat} {p : Bool} {fs : FL} : ∀ σ H Q, tD K own 2 p (fB g fs) σ H Q → tCB r (tA K own c p fs) σ H Q := fun σ H Q ⟨ρ, F, d, ρ', r, e1, k⟩ => by
  unfold fB at e1
  split at e1
  · rename_i xs ρ1 ea
    split at e1
    · rename_i z eg
      cases e1
      exact ⟨ρ, F, xs, ρ', r, ea, fun vs H1 F1 R1 r1 s1 p1 v1 c1 => hg H1 vs xs R1 d _ v1 eg fun u H' R sm hv hn => fin k r1 s1 p1 sm hv hn⟩
    · cases e1
  · cases e1
theorem fe_callB {id : String} {r : List V → Hp → VK → Prop} {g : GL} {e : Expr} {es : List Expr} {x : Str} {pf pos : Pos} {c : Nat} {p : Bool} {fs : FL} (hc : CallR X (.builtin id) r) (hd : DCall X.K r g) (hg : Gl X x) (hm : X.mg x = none)
    (hv : bootBuiltins x = some (.builtin id)) (ha : FA X own c p (e :: es) fs) (hn : x ≠ "__name__" := by decide) (hdb : (x == ("__debug__" : Str)) = false := by decide)
    (he : starEach (e :: es) X.env = (false, eval e X.env) :: starEach es X.env := by rfl) (hpl : (backTo pos (starEach es X.env)).any (·.1) = false := by rfl) : FE X own 2 p (.Call (.Name x pf) (e :: es) [] pos) (fB g fs) :=
  (pe_callB hc hg hm hv ha hn hdb he hpl).conv (fB_conv hd)
theorem fe_callTy {T : String} {r : List V → Hp → VK → Prop} {g : GL} {e : Expr} {es : List Expr} {x : Str} {pf pos : Pos} {c : Nat} {p : Bool} {fs : FL} (hc : CallR X (.type T) r) (hd : DCall X.K r g) (hg : Gl X x) (hm : X.mg x = none)
    (hv : bootBuiltins x = some (.type T)) (ha : FA X own c p (e :: es) fs) (hn : x ≠ "__name__" := by decide) (hdb : (x == ("__debug__" : Str)) = false := by decide)
    (he : starEach (e :: es) X.env = (false, eval e X.env) :: starEach es X.env := by rfl) (hpl : (backTo pos (starEach es X.env)).any (·.1) = false := by rfl) : FE X own 2 p (.Call (.Name x pf) (e :: es) [] pos) (fB g fs) :=
  (pe_callTy hc hg hm hv ha hn hdb he hpl).conv (fB_conv hd)
end
end FP
namespace FP
open PySem PySem.Spec PyProof.Rows L2
section
variable {X : Cx} {K : PySem.W.Frag}
theorem big_line : (1000000 : Nat) ≤ sizeLine := by rw [sizeLine_eq]; decide
mutual
theorem DVs.imm_each {H : Hp} : ∀ {vs : List V} {ds : List PyData}, imms ds = true → ∀ {R}, DVs K H vs ds R → DVs K H vs ds []
  | _, _, k, _, h => by have := h.imm_nil k; subst this; exact h
end
theorem imms_append (a b : List PyData) : imms (a ++ b) = (imms a && imms b) := by
  induction a with
  | nil => simp [imms]
  | cons x xs ih => simp [imms, ih, Bool.and_assoc]
theorem imms_mem {ds : List PyData} (h : imms ds = true) : ∀ d ∈ ds, imm d = true := by
  induction ds with
  | nil => intro d m; cases m
  | cons x xs ih =>
    simp only [imms, Bool.and_eq_true] at h
    intro d m
    rcases List.mem_cons.mp m with rfl | m
    · exact h.1
    · exact ih h.2 d m
theorem imms_of {ds : List PyData} (h : ∀ d ∈ ds, imm d = true) : imms ds = true := by
  induction ds with
  | nil => rfl
  | cons x xs ih => simp only [imms, Bool.and_eq_true]; exact ⟨h x List.mem_cons_self, ih fun d m => h d (List.mem_cons_of_mem _ m)⟩
/-- a new list of data without lists -/
theorem new_lst {H : Hp} {p : Addr} {vs : List V} {ds : List PyData} (hn : H p = none) (h : DVs K H vs ds []) : DV K (upd H p (.lst vs)) (.ref p) (.list ds) [p] ∧ New H (upd H p (.lst vs)) [p] :=
  ⟨.lst upd_same (h.same (same_upd hn)), by simp, fun a ha => by
    have e : a = p := by simpa using ha
    subst e
    exact ⟨hn, by rw [upd_same]; trivial⟩⟩
theorem new_tup {H : Hp} {p : Addr} {o : Obj} {vs : List V} {ds : List PyData} (dn : o.dict = none) (hn : H p = none) (h : DVs K H vs ds []) : DV K (upd H p (.frz o (.tup vs))) (.ref p) (.tuple ds) [] :=
  .tup (.of upd_same dn) (h.same (same_upd hn))
/-! ### + -/
/-- + of data -/
def gAdd : G2
  | .int a, .int b => some (.int (a + b))
  | .str a, .str b => if a.length + b.length ≤ 1000000 then some (.str (a ++ b)) else none
  | .tuple a, .tuple b => if (imms a && imms b && decide (a.length + b.length ≤ 1000000)) = true then some (.tuple (a ++ b)) else none
  | .list a, .list b => if (imms a && imms b && decide (a.length + b.length ≤ 1000000)) = true then some (.list (a ++ b)) else none
  | _, _ => none
def rOr2 (r r' : R2) : R2 := fun x y H Q => r x y H Q ∨ r' x y H Q
def rOrL (r r' : List V → Hp → VK → Prop) : List V → Hp → VK → Prop := fun x H Q => r x H Q ∨ r' x H Q
def rAddS : R2 := fun x y H Q => ∃ i j, x = V.str i ∧ y = .str j ∧ i.length + j.length ≤ sizeLine ∧ Q (.str (i ++ j)) H
def rAddU (K : PySem.W.Frag) : R2 := rOr2 (rI0 fun i j => .int (i + j)) (rOr2 rAddS (rOr2 (rCatF K) rCat))
theorem op_addU : OpR X (binaryOp .Add) (rAddU X.K) := op_add.or (op_add_str.or (op_catF.or op_cat))
theorem dop_add : DOp K (rAddU K) gAdd := by
  intro H x y d e Rx Ry z Q hx hy hg k
  have bl := big_line
  unfold gAdd at hg
  split at hg
  · cases hx; cases hy; cases hg
    exact .inl ⟨_, _, rfl, rfl, k _ H [] (.refl H) (.int _) .nil⟩
  · split at hg
    · rename_i hl
      cases hx; cases hy; cases hg
      exact .inr (.inl ⟨_, _, rfl, rfl, by omega, k _ H [] (.refl H) (.str _) .nil⟩)
    · cases hg
  · rename_i a b
    split at hg
    · rename_i hl
      simp only [Bool.and_eq_true, decide_eq_true_eq] at hl
      cases hg
      cases hx with
      | tup h1 h2 =>
        cases hy with
        | tup g1 g2 =>
          have l1 := h2.length
          have l2 := g2.length
          have f1 := DVs.imm_each hl.1.1 h2
          have f2 := DVs.imm_each hl.1.2 g2
          refine .inr (.inr (.inl ⟨_, _, _, _, rfl, rfl, h1.sq, g1.sq, by omega, fun e => ?_, fun e e' => ?_, fun _ _ p o dn hp => ?_⟩))
          · subst e
            cases h2
            exact k _ H [] (.refl H) (.tup g1 f2) .nil
          · subst e'
            cases g2
            rw [List.append_nil] at k
            exact k _ H [] (.refl H) (.tup h1 f1) .nil
          · exact k _ _ [] (same_upd hp) (new_tup dn hp (f1.append f2)) .nil
    · cases hg
  · rename_i a b
    split at hg
    · rename_i hl
      simp only [Bool.and_eq_true, decide_eq_true_eq] at hl
      cases hg
      cases hx with
      | lst h1 h2 =>
        cases hy with
        | lst g1 g2 =>
          have l1 := h2.length
          have l2 := g2.length
          have f1 := DVs.imm_each hl.1.1 h2
          have f2 := DVs.imm_each hl.1.2 g2
          refine .inr (.inr (.inr ⟨_, _, _, _, rfl, rfl, h1, g1, by omega, fun p hp => ?_⟩))
          obtain ⟨q1, q2⟩ := new_lst hp (f1.append f2)
          exact k _ _ _ (same_upd hp) q1 q2
    · cases hg
  · cases hg
/-! ### - * // % ** -/
def gI (C : Int → Int → Bool) (g : Int → Int → Int) : G2
  | .int a, .int b => if C a b = true then some (.int (g a b)) else none
  | _, _ => none
theorem dop_I {C : Int → Int → Prop} {C' : Int → Int → Bool} {g : Int → Int → Int} (hC : ∀ a b, C' a b = true → C a b) : DOp K (rI C fun i j => .int (g i j)) (gI C' g) := by
  intro H x y d e Rx Ry z Q hx hy hg k
  unfold gI at hg
  split at hg
  · split at hg
    · rename_i hc
      cases hx; cases hy; cases hg
      exact ⟨_, _, rfl, rfl, hC _ _ hc, k _ H [] (.refl H) (.int _) .nil⟩
    · cases hg
  · cases hg
theorem dop_I0 {g : Int → Int → Int} : DOp K (rI0 fun i j => .int (g i j)) (gI (fun _ _ => true) g) := by
  intro H x y d e Rx Ry z Q hx hy hg k
  unfold gI at hg
  split at hg
  · split at hg
    · rename_i hc
      cases hx; cases hy; cases hg
      exact ⟨_, _, rfl, rfl, k _ H [] (.refl H) (.int _) .nil⟩
    · cases hg
  · cases hg
abbrev gSub : G2 := gI (fun _ _ => true) fun a b => a - b
theorem dop_sub : DOp K (rI0 fun i j => .int (i - j)) gSub := dop_I0
abbrev gMod : G2 := gI (fun _ b => decide (0 < b)) fun a b => a % b
theorem dop_mod : DOp K (rI (fun _ j => 0 < j) fun i j => .int (i % j)) gMod := dop_I fun a b h => by simpa using h
abbrev gDiv : G2 := gI (fun _ b => decide (0 < b) && decide (b < 1073741824)) fun a b => a / b
theorem dop_div : DOp K (rI CDiv fun i j => .int (i / j)) gDiv := dop_I fun a b h => by simpa [CDiv] using h
abbrev gPow : G2 := gI (fun a b => decide (0 ≤ b) && decide (b ≤ 1000000) && decide (a.natAbs < 2 ^ 64)) fun a b => a ^ b.toNat
theorem dop_pow : DOp K (rI CPow fun i j => .int (i ^ j.toNat)) gPow := dop_I fun a b h => by
  simp only [Bool.and_eq_true, decide_eq_true_eq] at h
  exact ⟨h.1.1, h.1.2, h.2⟩
def gMul : G2
  | .int a, .int b => if (decide (-(2 ^ 64) < a) && decide (a < 2 ^ 64) || decide (-(2 ^ 64) < b) && decide (b < 2 ^ 64)) = true then some (.int (a * b)) else none
  | .list a, .int k => if (imms a && decide (k ≤ 1000) && decide (-1000 ≤ k) && decide (a.length ≤ 1000)) = true then some (.list (List.replicate k.toNat a).flatten) else none
  | .tuple a, .int k => if (imms a && decide (k ≤ 1000) && decide (-1000 ≤ k) && decide (a.length ≤ 1000)) = true then some (.tuple (List.replicate k.toNat a).flatten) else none
  | _, _ => none
def rMulU (K : PySem.W.Frag) : R2 := rOr2 (rI CMul fun i j => .int (i * j)) (rOr2 rRep (rRepF K))
theorem op_mulU : OpR X (binaryOp .Mult) (rMulU X.K) := op_mul.or (op_rep.or op_repF)
theorem DVs.rep {H : Hp} {vs : List V} {ds : List PyData} (h : DVs K H vs ds []) : ∀ k : Nat, DVs K H (List.replicate k vs).flatten (List.replicate k ds).flatten []
  | 0 => .nil
  | k + 1 => by
    have := h.append (DVs.rep h k)
    simpa [List.replicate_succ] using this
theorem dop_mul : DOp K (rMulU K) gMul := by
  intro H x y d e Rx Ry z Q hx hy hg k
  have bl := big_line
  unfold gMul at hg
  split at hg
  · split at hg
    · rename_i hc
      cases hx; cases hy; cases hg
      refine .inl ⟨_, _, rfl, rfl, ?_, k _ H [] (.refl H) (.int _) .nil⟩
      simp only [Bool.or_eq_true, Bool.and_eq_true, decide_eq_true_eq] at hc
      exact hc
    · cases hg
  · split at hg
    · rename_i hc
      simp only [Bool.and_eq_true, decide_eq_true_eq] at hc
      obtain ⟨⟨⟨hi, h1⟩, h2⟩, h3⟩ := hc
      cases hy; cases hg
      cases hx with
      | lst g1 g2 =>
        have l1 := g2.length
        have f1 := DVs.imm_each hi g2
        refine .inr (.inl ⟨_, _, _, rfl, rfl, g1, by omega, by omega, ?_, fun p hp => ?_⟩)
        · rw [l1]
          refine Nat.le_trans (Nat.mul_le_mul h3 (show _ ≤ 1000 from ?_)) (by omega)
          omega
        · obtain ⟨q1, q2⟩ := new_lst hp (DVs.rep f1 _)
          exact k _ _ _ (same_upd hp) q1 q2
    · cases hg
  · split at hg
    · rename_i hc
      simp only [Bool.and_eq_true, decide_eq_true_eq] at hc
      obtain ⟨⟨⟨hi, h1⟩, h2⟩, h3⟩ := hc
      rename_i a kk
      cases hy; cases hg
      cases hx with
      | tup g1 g2 =>
        have l1 := g2.length
        have f1 := DVs.imm_each hi g2
        refine .inr (.inr ⟨_, _, _, rfl, rfl, g1.sq, h2, h1, by omega, fun w => ?_, fun _ p o dn hp => k _ _ [] (same_upd hp) (new_tup dn hp (DVs.rep f1 _)) .nil⟩)
        have e : (List.replicate kk.toNat a).flatten = a := by
          rcases w with w | w
          · subst w
            cases g2
            simp
          · subst w
            simp
        rw [e] at k
        exact k _ H [] (.refl H) (.tup g1 f1) .nil
    · cases hg
  · cases hg
/-! ### comparisons of ints -/
def gCmp (p : Int → Int → Bool) : G2
  | .int a, .int b => some (.bool (p a b))
  | _, _ => none
theorem dop_cmp {p : Int → Int → Bool} : DOp K (rI0 fun i j => .bl (p i j)) (gCmp p) := by
  intro H x y d e Rx Ry z Q hx hy hg k
  unfold gCmp at hg
  split at hg
  · cases hx; cases hy; cases hg
    exact ⟨_, _, rfl, rfl, k _ H [] (.refl H) (.bl _) .nil⟩
  · cases hg
abbrev gLt : G2 := gCmp fun i j => decide (i < j)
abbrev gLe : G2 := gCmp fun i j => decide (i ≤ j)
abbrev gGt : G2 := gCmp fun i j => decide (j < i)
abbrev gGe : G2 := gCmp fun i j => decide (j ≤ i)
/-! ### == of data -/
mutual
def noD : PyData → Bool
  | .none => true
  | .bool _ => true
  | .int _ => true
  | .str _ => true
  | .list xs => noDs xs
  | .tuple xs => noDs xs
  | .dict _ => false
def noDs : List PyData → Bool
  | [] => true
  | x :: xs => noD x && noDs xs
end
mutual
theorem DV.dp {H : Hp} : ∀ {v : V} {d : PyData} {R : List Addr}, DV K H v d R → noD d = true → Dp K H v d
  | _, _, _, .non, _ => .non
  | _, _, _, .bl b, _ => .bl b
  | _, _, _, .int i, _ => .int i
  | _, _, _, .str x, _ => .str x
  | _, _, _, .tup h hs, k => .tup h.sq (DVs.dp hs (by simpa [noD] using k))
  | _, _, _, .lst h hs, k => .lst (SqL.of h) (DVs.dp hs (by simpa [noD] using k))
  | _, _, _, .dic h hs n e, k => by simp [noD] at k
theorem DVs.dp {H : Hp} : ∀ {v : List V} {d : List PyData} {R : List Addr}, DVs K H v d R → noDs d = true → DpAll K H v d
  | _, _, _, .nil, _ => .nil
  | _, _, _, .cons h hs, k => by
    simp only [noDs, Bool.and_eq_true] at k
    exact .cons (DV.dp h k.1) (DVs.dp hs k.2)
end
def okD (d : PyData) : Bool := noD d && SeqAt.shaped d
def gEq : G2 := fun a b => if (okD a && okD b) = true then some (.bool (PyData.eqv a b)) else none
def gNe : G2 := fun a b => if (okD a && okD b) = true then some (.bool (!PyData.eqv a b)) else none
theorem dop_eq : DOp K (rEqD K) gEq := by
  intro H x y d e Rx Ry z Q hx hy hg k
  unfold gEq at hg
  split at hg
  · rename_i h
    simp only [okD, Bool.and_eq_true] at h
    cases hg
    exact ⟨d, e, hx.dp h.1.1, hy.dp h.2.1, h.1.2, h.2.2, k _ H [] (.refl H) (.bl _) .nil⟩
  · cases hg
theorem dop_ne : DOp K (rNeD K) gNe := by
  intro H x y d e Rx Ry z Q hx hy hg k
  unfold gNe at hg
  split at hg
  · rename_i h
    simp only [okD, Bool.and_eq_true] at h
    cases hg
    exact ⟨d, e, hx.dp h.1.1, hy.dp h.2.1, h.1.2, h.2.2, k _ H [] (.refl H) (.bl _) .nil⟩
  · cases hg
/-! ### is None -/
def isN : PyData → Bool
  | .none => true
  | _ => false
theorem DV.isN {H : Hp} {v : V} {d : PyData} {R : List Addr} (h : DV K H v d R) : decide (v = .non) = isN d := by
  cases h <;> simp [FP.isN]
def gIsN : G2 := fun a b => match b with
  | .none => some (.bool (isN a))
  | _ => none
def gNotN : G2 := fun a b => match b with
  | .none => some (.bool (!isN a))
  | _ => none
theorem dop_isN : DOp K (fun x y H Q => y = .non ∧ Q (.bl (decide (x = .non))) H) gIsN := by
  intro H x y d e Rx Ry z Q hx hy hg k
  unfold gIsN at hg
  split at hg
  · cases hy; cases hg
    exact ⟨rfl, by rw [hx.isN]; exact k _ H [] (.refl H) (.bl _) .nil⟩
  · cases hg
theorem dop_notN : DOp K (fun x y H Q => y = .non ∧ Q (.bl (!decide (x = .non))) H) gNotN := by
  intro H x y d e Rx Ry z Q hx hy hg k
  unfold gNotN at hg
  split at hg
  · cases hy; cases hg
    exact ⟨rfl, by rw [hx.isN]; exact k _ H [] (.refl H) (.bl _) .nil⟩
  · cases hg
/-! ### items -/
def gIx : G2
  | .list xs, .int i => match atI xs i with
    | some d => if imm d = true then some d else none
    | none => none
  | .tuple xs, .int i => match atI xs i with
    | some d => if imm d = true then some d else none
    | none => none
  | _, _ => none
theorem DVs.at {H : Hp} {vs : List V} {ds : List PyData} {R : List Addr} (h : DVs K H vs ds R) {i : Int} {d : PyData} (e : atI ds i = some d) : ∃ v R', atI vs i = some v ∧ DV K H v d R' ∧ ∀ a ∈ R', a ∈ R := by
  unfold atI at e ⊢
  rw [h.length]
  cases q : ixN ds.length i with
  | none => rw [q] at e; cases e
  | some j =>
    rw [q] at e
    obtain ⟨v, R', h1, h2, h3⟩ := h.get (i := j) (by simpa using e)
    exact ⟨v, R', by simpa using h1, h2, h3⟩
theorem op_ixU : IxR X (rOr2 (rIxL X.K) (rIxT X.K)) := (ix_list (X := X)).or ix_tup
theorem dop_ix : DOp K (rOr2 (rIxL K) (rIxT K)) gIx := by
  intro H x y d e Rx Ry z Q hx hy hg k
  unfold gIx at hg
  split at hg
  · split at hg
    · rename_i d' e1
      split at hg
      · rename_i hi
        cases hg
        cases hx with
        | lst h1 h2 =>
          cases hy
          obtain ⟨v, R', q1, q2, q3⟩ := h2.at e1
          have e := q2.imm_nil hi
          subst e
          exact .inl ⟨_, _, _, v, rfl, rfl, SqL.of h1, q1, k v H [] (.refl H) q2 .nil⟩
      · cases hg
    · cases hg
  · split at hg
    · rename_i d' e1
      split at hg
      · rename_i hi
        cases hg
        cases hx with
        | tup h1 h2 =>
          cases hy
          obtain ⟨v, R', q1, q2, q3⟩ := h2.at e1
          have e := q2.imm_nil hi
          subst e
          exact .inr ⟨_, _, _, v, rfl, rfl, h1.sq, q1, k v H [] (.refl H) q2 .nil⟩
      · cases hg
    · cases hg
  · cases hg
/-! ### len, list, tuple -/
def gLen : GL
  | [.list xs] => some (.int xs.length)
  | [.tuple xs] => some (.int xs.length)
  | [.str x] => if x.length ≤ 1000000 then some (.int x.length) else none
  | _ => none
def rLenQ (K : PySem.W.Frag) : List V → Hp → VK → Prop := fun xs H Q => ∃ p ys, xs = [.ref p] ∧ (SqL K H p ys ∨ SqT K H p ys) ∧ Q (.int ys.length) H
def rLenS : List V → Hp → VK → Prop := fun xs H Q => ∃ z, xs = [.str z] ∧ z.length ≤ sizeLine ∧ Q (.int z.length) H
theorem call_lenU : CallR X (.builtin "len") (rOrL (rLenQ X.K) rLenS) := call_len_seq.or call_len_str
theorem dc_len : DCall K (rOrL (rLenQ K) rLenS) gLen := by
  intro H xs ds Rx z Q hx hg k
  have bl := big_line
  unfold gLen at hg
  split at hg
  · cases hg
    cases hx with
    | cons h t =>
      cases t
      cases h with
      | lst h1 h2 => exact .inl ⟨_, _, rfl, .inl (SqL.of h1), by rw [h2.length]; exact k _ H [] (.refl H) (.int _) .nil⟩
  · cases hg
    cases hx with
    | cons h t =>
      cases t
      cases h with
      | tup h1 h2 => exact .inl ⟨_, _, rfl, .inr h1.sq, by rw [h2.length]; exact k _ H [] (.refl H) (.int _) .nil⟩
  · split at hg
    · rename_i hl
      cases hg
      cases hx with
      | cons h t =>
        cases t
        cases h
        exact .inr ⟨_, rfl, by omega, k _ H [] (.refl H) (.int _) .nil⟩
    · cases hg
  · cases hg
def gList : GL
  | [.list xs] => if imms xs = true then some (.list xs) else none
  | [.tuple xs] => if imms xs = true then some (.list xs) else none
  | _ => none
theorem dc_list : DCall K (fun xs H Q => ∃ p ys, xs = [.ref p] ∧ (SqL K H p ys ∨ SqT K H p ys) ∧ ∀ l, H l = none → Q (.ref l) (upd H l (.lst ys))) gList := by
  intro H xs ds Rx z Q hx hg k
  unfold gList at hg
  split at hg
  · split at hg
    · rename_i hi
      cases hg
      cases hx with
      | cons h t =>
        cases t
        cases h with
        | lst h1 h2 =>
          refine ⟨_, _, rfl, .inl (SqL.of h1), fun p hp => ?_⟩
          obtain ⟨q1, q2⟩ := new_lst hp (DVs.imm_each hi h2)
          exact k _ _ _ (same_upd hp) q1 q2
    · cases hg
  · split at hg
    · rename_i hi
      cases hg
      cases hx with
      | cons h t =>
        cases t
        cases h with
        | tup h1 h2 =>
          refine ⟨_, _, rfl, .inr h1.sq, fun p hp => ?_⟩
          obtain ⟨q1, q2⟩ := new_lst hp (DVs.imm_each hi h2)
          exact k _ _ _ (same_upd hp) q1 q2
    · cases hg
  · cases hg
def gTuple : GL
  | [.list xs] => if imms xs = true then some (.tuple xs) else none
  | [.tuple xs] => if imms xs = true then some (.tuple xs) else none
  | _ => none
theorem dc_tuple : DCall K (fun xs H Q => ∃ p ys, xs = [.ref p] ∧ ((SqL K H p ys ∧ newT ys Q H) ∨ (SqT K H p ys ∧ Q (.ref p) H))) gTuple := by
  intro H xs ds Rx z Q hx hg k
  unfold gTuple at hg
  split at hg
  · split at hg
    · rename_i hi
      cases hg
      cases hx with
      | cons h t =>
        cases t
        cases h with
        | lst h1 h2 =>
          exact ⟨_, _, rfl, .inl ⟨SqL.of h1, fun p o dn hp => k _ _ [] (same_upd hp) (new_tup dn hp (DVs.imm_each hi h2)) .nil⟩⟩
    · cases hg
  · split at hg
    · rename_i hi
      cases hg
      cases hx with
      | cons h t =>
        cases t
        cases h with
        | tup h1 h2 => exact ⟨_, _, rfl, .inr ⟨h1.sq, k _ H [] (.refl H) (.tup h1 (DVs.imm_each hi h2)) .nil⟩⟩
    · cases hg
  · cases hg
end
end FP
namespace FP
open PySem PySem.Spec PyProof.Rows L2
section
variable {X : Cx} {own : Nat → Bool}
/-! ### tests -/
def gTru : PyData → Option Bool
  | .none => some false
  | .bool b => some b
  | .int i => some (i != 0)
  | .str x => if x.length ≤ 1000000 then some ((x.length : Int) != 0) else none
  | .list xs => some (!xs.isEmpty)
  | .tuple xs => some (!xs.isEmpty)
  | .dict kvs => none
def fTru (f : FX) : FB := fun ρ => match f ρ with
  | some (d, ρ1) => match gTru d with
    | some b => some (b, ρ1)
    | none => none
  | none => none
theorem isEmpty_of_len {α β : Type} {xs : List α} {ys : List β} (h : xs.length = ys.length) : xs.isEmpty = ys.isEmpty := by
  cases xs <;> cases ys <;> simp_all
theorem DV.tru {K : PySem.W.Frag} {H : Hp} {v : V} {d : PyData} {R : List Addr} {b : Bool} (h : DV K H v d R) (e : gTru d = some b) : TruV K v H b := by
  have bl := big_line
  cases h with
  | non => cases e; rfl
  | bl c => cases e; rfl
  | int i => cases e; rfl
  | str x =>
    simp only [gTru] at e
    split at e
    · cases e; exact ⟨by omega, rfl⟩
    · cases e
  | tup h1 h2 => cases e; exact .inr (.inl ⟨_, h1.sq, by rw [isEmpty_of_len h2.length]⟩)
  | lst h1 h2 => cases e; exact .inl ⟨_, SqL.of h1, by rw [isEmpty_of_len h2.length]⟩
  | dic => cases e
theorem ft_truth {e : Expr} {c : Nat} {p : Bool} {f : FX} (h : FE X own c p e f) (he : ∀ whole, isTrue e X.env whole = (do let v ← whole; standAt e.pos; holding [v] (truthy v)) := by intro _; rfl) : FT X own p e (fTru f) :=
  (pt_truth h he).conv fun σ H Q ⟨ρ, F, b, ρ', r, e1, k⟩ => by
    unfold fTru at e1
    split at e1
    · rename_i d ρ1 q
      split at e1
      · rename_i b' q2
        cases e1
        exact ⟨ρ, F, d, ρ', r, q, fun v H' F' R r' s' p' hv hc => ⟨b, hv.tru q2, k H' F' r' s' p'⟩⟩
      · cases e1
    · cases e1
def fTB (f : FX) : FB := fun ρ => match f ρ with
  | some (.bool b, ρ1) => some (b, ρ1)
  | _ => none
theorem fTB_some {f : FX} {ρ ρ' : EV} {b : Bool} (h : fTB f ρ = some (b, ρ')) : f ρ = some (.bool b, ρ') := by
  unfold fTB at h
  split at h
  · rename_i q; cases h; exact q
  · cases h
theorem ft_cmp {op : CmpOp} {r : R2} {g : G2} {a b : Expr} {pos : Pos} {ca cb : Nat} {pa pb : Bool} {fa fb : FX} (ho : OpR X (compareOp op) r) (hg : DOp X.K r g) (ha : FE X own ca pa a fa) (hb : FE X own cb pb b fb)
    (hm : behindInMarks op b = false := by first | rfl | exact nomark _) (hc : 1 ≤ ca ∨ pb = true := by first | exact .inl (by decide) | exact .inr rfl) : FT X own (pa && pb) (.Compare a [op] [b] pos) (fTB (fBin g fa fb)) :=
  (pt_cmpR ho ha hb hm).conv fun σ H Q ⟨ρ, F, d, ρ', r, e1, k⟩ => by
    have e1 := fTB_some e1
    unfold fBin at e1
    split at e1
    · rename_i x ρ1 ea
      split at e1
      · rename_i y ρ2 eb
        split at e1
        · rename_i z eg
          cases e1
          refine two hc r ea eb fun v w H2 F2 Rx Ry r2 s2 p2 v2 w2 => hg H2 v w x y Rx Ry _ _ v2 w2 eg fun u H' R sm hv hn => ?_
          cases hv
          exact ⟨d, rfl, k H' F2 (r2.same sm) (s2.trans (.same sm)) fun z => ⟨(p2 z).1, (p2 z).2.1, (p2 z).2.2.trans sm⟩⟩
        · cases e1
      · cases e1
    · cases e1
def fTNot (f : FB) : FB := fun ρ => match f ρ with
  | some (b, ρ1) => some (!b, ρ1)
  | none => none
def fTAnd (f g : FB) : FB := fun ρ => match f ρ with
  | some (true, ρ1) => g ρ1
  | some (false, ρ1) => some (false, ρ1)
  | none => none
def fTOr (f g : FB) : FB := fun ρ => match f ρ with
  | some (true, ρ1) => some (true, ρ1)
  | some (false, ρ1) => g ρ1
  | none => none
theorem ft_not {a : Expr} {pos : Pos} {p : Bool} {f : FB} (h : FT X own p a f) : FT X own p (.UnaryOp .Not a pos) (fTNot f) :=
  (pt_not h).conv fun σ H Q ⟨ρ, F, b, ρ', r, e1, k⟩ => by
    unfold fTNot at e1
    split at e1
    · rename_i b' ρ1 q
      cases e1
      exact ⟨ρ, F, b', ρ', r, q, k⟩
    · cases e1
theorem glueB {K : PySem.W.Frag} {pa pb : Bool} {H H1 H2 : Hp} {ρ ρ1 ρ2 : EV} {F F1 F2 : Fo} (p1 : pa = true → ρ1 = ρ ∧ F1 = F ∧ Same H H1) (p2 : pb = true → ρ2 = ρ1 ∧ F2 = F1 ∧ Same H1 H2) (z : (pa && pb) = true) : ρ2 = ρ ∧ F2 = F ∧ Same H H2 := by
  rw [Bool.and_eq_true] at z
  obtain ⟨q1, q2, q3⟩ := p1 z.1
  obtain ⟨u1, u2, u3⟩ := p2 z.2
  exact ⟨u1.trans q1, u2.trans q2, q3.trans u3⟩
theorem glue1 {pa pb : Bool} {H H1 : Hp} {ρ ρ1 : EV} {F F1 : Fo} (p1 : pa = true → ρ1 = ρ ∧ F1 = F ∧ Same H H1) (z : (pa && pb) = true) : ρ1 = ρ ∧ F1 = F ∧ Same H H1 := p1 (Bool.and_eq_true _ _ ▸ z).1
/-- and, or within a chain -/
abbrev FW (X : Cx) (own : Nat → Bool) (p : Bool) (e : Expr) (f : FB) : Prop := PW X e (tT X.K own p f)
theorem _root_.L2.PW.conv {X : Cx} {e : Expr} {t t' : TT} (h : PW X e t) (i : ∀ σ H Q, t' σ H Q → t σ H Q) : PW X e t' := ⟨fun w pins s σ H Q I q => h.run w pins s σ H Q I (i σ H Q q)⟩
theorem fw_and1 {a : Expr} {pos : Pos} {p : Bool} {f : FB} (h : FT X own p a f) : FW X own p (.BoolOp .And [a] pos) f := pw_and1 h
theorem fw_or1 {a : Expr} {pos : Pos} {p : Bool} {f : FB} (h : FT X own p a f) : FW X own p (.BoolOp .Or [a] pos) f := pw_or1 h
theorem tAnd_conv {K : PySem.W.Frag} {pa pb : Bool} {f g : FB} : ∀ σ H Q, tT K own (pa && pb) (fTAnd f g) σ H Q → tAnd (tT K own pa f) (tT K own pb g) σ H Q := fun σ H Q ⟨ρ, F, b, ρ', r, e1, k⟩ => by
  unfold fTAnd at e1
  split at e1
  · rename_i ρ1 q
    exact ⟨ρ, F, true, ρ1, r, q, fun H1 F1 r1 s1 p1 => iteT ⟨ρ1, F1, b, ρ', r1, e1, fun H2 F2 r2 s2 p2 => k H2 F2 r2 (s1.trans s2) (glueB (K := K) p1 p2)⟩⟩
  · rename_i ρ1 q
    cases e1
    exact ⟨ρ, F, false, ρ', r, q, fun H1 F1 r1 s1 p1 => iteF (k H1 F1 r1 s1 (glue1 p1))⟩
  · cases e1
theorem tOr_conv {K : PySem.W.Frag} {pa pb : Bool} {f g : FB} : ∀ σ H Q, tT K own (pa && pb) (fTOr f g) σ H Q → tOr (tT K own pa f) (tT K own pb g) σ H Q := fun σ H Q ⟨ρ, F, b, ρ', r, e1, k⟩ => by
  unfold fTOr at e1
  split at e1
  · rename_i ρ1 q
    cases e1
    exact ⟨ρ, F, true, ρ', r, q, fun H1 F1 r1 s1 p1 => iteT (k H1 F1 r1 s1 (glue1 p1))⟩
  · rename_i ρ1 q
    exact ⟨ρ, F, false, ρ1, r, q, fun H1 F1 r1 s1 p1 => iteF ⟨ρ1, F1, b, ρ', r1, e1, fun H2 F2 r2 s2 p2 => k H2 F2 r2 (s1.trans s2) (glueB (K := K) p1 p2)⟩⟩
  · cases e1
theorem fw_and {a b : Expr} {rest : List Expr} {pos : Pos} {pa pb : Bool} {f g : FB} (ha : FT X own pa a f) (hb : FW X own pb (.BoolOp .And (b :: rest) pos) g) : FW X own (pa && pb) (.BoolOp .And (a :: b :: rest) pos) (fTAnd f g) :=
  (pw_and ha hb).conv tAnd_conv
theorem fw_or {a b : Expr} {rest : List Expr} {pos : Pos} {pa pb : Bool} {f g : FB} (ha : FT X own pa a f) (hb : FW X own pb (.BoolOp .Or (b :: rest) pos) g) : FW X own (pa && pb) (.BoolOp .Or (a :: b :: rest) pos) (fTOr f g) :=
  (pw_or ha hb).conv tOr_conv
theorem ft_pw {e : Expr} {p : Bool} {f : FB} (h : FW X own p e f) : FT X own p e f := h.pt
/-! ### .. as values -/
def fAnd (f g : FX) : FX := fun ρ => match f ρ with
  | some (.bool true, ρ1) => g ρ1
  | some (.bool false, ρ1) => some (.bool false, ρ1)
  | _ => none
def fOr (f g : FX) : FX := fun ρ => match f ρ with
  | some (.bool true, ρ1) => some (.bool true, ρ1)
  | some (.bool false, ρ1) => g ρ1
  | _ => none
def fNot (f : FX) : FX := fun ρ => match f ρ with
  | some (.bool b, ρ1) => some (.bool (!b), ρ1)
  | _ => none
theorem fe_one {op} {a : Expr} {pos : Pos} {c : Nat} {p : Bool} {f : FX} (h : FE X own c p a f) : FE X own c p (.BoolOp op [a] pos) f := pe_one h
/-- a later result: it is as new as it was -/
theorem RC.later {c : Nat} {H H1 H2 : Hp} {F F1 F2 : Fo} {R : List Addr} (h : RC own c H1 H2 F2 R) (s : Stp own H F H1 F1) : RC own c H H2 F2 R :=
  ⟨h.1, fun z => ⟨(h.2 z).1, fun a ha => ⟨s.no ((h.2 z).2 a ha).1, ((h.2 z).2 a ha).2⟩⟩⟩
theorem fe_and {a b : Expr} {rest : List Expr} {pos : Pos} {ca cb : Nat} {pa pb : Bool} {f g : FX} (ha : FE X own ca pa a f) (hb : FE X own cb pb (.BoolOp .And (b :: rest) pos) g) : FE X own cb (pa && pb) (.BoolOp .And (a :: b :: rest) pos) (fAnd f g) :=
  (pe_and ha hb).conv fun σ H Q ⟨ρ, F, d, ρ', r, e1, k⟩ => by
    unfold fAnd at e1
    split at e1
    · rename_i ρ1 q
      refine ⟨ρ, F, _, ρ1, r, q, fun v H1 F1 R1 r1 s1 p1 v1 c1 => ?_⟩
      cases v1
      exact ⟨true, rfl, iteT ⟨ρ1, F1, d, ρ', r1, e1, fun w H2 F2 R2 r2 s2 p2 v2 c2 => k w H2 F2 R2 r2 (s1.trans s2) (glueB (K := X.K) p1 p2) v2 (c2.later s1)⟩⟩
    · rename_i ρ1 q
      cases e1
      refine ⟨ρ, F, _, ρ', r, q, fun v H1 F1 R1 r1 s1 p1 v1 c1 => ?_⟩
      cases v1
      exact ⟨false, rfl, iteF (k _ H1 F1 [] r1 s1 (glue1 p1) (.bl _) .nil)⟩
    · cases e1
theorem fe_or {a b : Expr} {rest : List Expr} {pos : Pos} {ca cb : Nat} {pa pb : Bool} {f g : FX} (ha : FE X own ca pa a f) (hb : FE X own cb pb (.BoolOp .Or (b :: rest) pos) g) : FE X own cb (pa && pb) (.BoolOp .Or (a :: b :: rest) pos) (fOr f g) :=
  (pe_or ha hb).conv fun σ H Q ⟨ρ, F, d, ρ', r, e1, k⟩ => by
    unfold fOr at e1
    split at e1
    · rename_i ρ1 q
      cases e1
      refine ⟨ρ, F, _, ρ', r, q, fun v H1 F1 R1 r1 s1 p1 v1 c1 => ?_⟩
      cases v1
      exact ⟨true, rfl, iteT (k _ H1 F1 [] r1 s1 (glue1 p1) (.bl _) .nil)⟩
    · rename_i ρ1 q
      refine ⟨ρ, F, _, ρ1, r, q, fun v H1 F1 R1 r1 s1 p1 v1 c1 => ?_⟩
      cases v1
      exact ⟨false, rfl, iteF ⟨ρ1, F1, d, ρ', r1, e1, fun w H2 F2 R2 r2 s2 p2 v2 c2 => k w H2 F2 R2 r2 (s1.trans s2) (glueB (K := X.K) p1 p2) v2 (c2.later s1)⟩⟩
    · cases e1
theorem fe_not {a : Expr} {pos : Pos} {c : Nat} {p : Bool} {f : FX} (h : FE X own c p a f) : FE X own 2 p (.UnaryOp .Not a pos) (fNot f) :=
  (pe_not h).conv fun σ H Q ⟨ρ, F, d, ρ', r, e1, k⟩ => by
    unfold fNot at e1
    split at e1
    · rename_i b ρ1 q
      cases e1
      refine ⟨ρ, F, _, ρ', r, q, fun v H1 F1 R1 r1 s1 p1 v1 c1 => ?_⟩
      cases v1
      exact ⟨b, rfl, k _ H1 F1 [] r1 s1 p1 (.bl _) .nil⟩
    · cases e1
def fIf (t : FB) (f g : FX) : FX := fun ρ => match t ρ with
  | some (true, ρ1) => f ρ1
  | some (false, ρ1) => g ρ1
  | none => none
theorem fe_if0 {t a b : Expr} {pos : Pos} {ca cb : Nat} {pt pa pb : Bool} {ft : FB} {f g : FX} (ht : FT X own pt t ft) (ha : FE X own ca pa a f) (hb : FE X own cb pb b g) : FE X own (min ca cb) (pt && (pa && pb)) (.IfExp t a b pos) (fIf ft f g) :=
  (pe_ifExp ht ha hb).conv fun σ H Q ⟨ρ, F, d, ρ', r, e1, k⟩ => by
    unfold fIf at e1
    split at e1
    · rename_i ρ1 q
      refine ⟨ρ, F, _, ρ1, r, q, fun H1 F1 r1 s1 p1 => iteT ⟨ρ1, F1, d, ρ', r1, e1, fun w H2 F2 R2 r2 s2 p2 v2 c2 => k w H2 F2 R2 r2 (s1.trans s2) (fun z => ?_) v2 ((c2.later s1).le (Nat.min_le_left _ _))⟩⟩
      exact glueB (K := X.K) (pb := pa) p1 p2 (by revert z; cases pt <;> cases pa <;> simp)
    · rename_i ρ1 q
      refine ⟨ρ, F, _, ρ1, r, q, fun H1 F1 r1 s1 p1 => iteF ⟨ρ1, F1, d, ρ', r1, e1, fun w H2 F2 R2 r2 s2 p2 v2 c2 => k w H2 F2 R2 r2 (s1.trans s2) (fun z => ?_) v2 ((c2.later s1).le (Nat.min_le_right _ _))⟩⟩
      exact glueB (K := X.K) (pb := pb) p1 p2 (by revert z; cases pt <;> cases pa <;> simp)
    · cases e1
/-! ### slices -/
theorem fe_if {t a b : Expr} {pos : Pos} {c ca cb : Nat} {p pt pa pb : Bool} {ft : FB} {f g : FX} (ht : FT X own pt t ft) (ha : FE X own ca pa a f) (hb : FE X own cb pb b g) (hcc : c = min ca cb := by rfl) (hpp : p = (pt && (pa && pb)) := by rfl) : FE X own c p (.IfExp t a b pos) (fIf ft f g) := by
  subst hcc hpp
  exact fe_if0 ht ha hb
abbrev FP' := EV → Option (Option Int × EV)
def tO (K : PySem.W.Frag) (own : Nat → Bool) (p : Bool) (f : FP') : TO := fun σ H Q => ∃ ρ F i ρ', RepE K own σ H ρ F ∧ f ρ = some (i, ρ') ∧
  ∀ H' F', RepE K own σ H' ρ' F' → Stp own H F H' F' → (p = true → ρ' = ρ ∧ F' = F ∧ Same H H') → Q i H'
abbrev FO (X : Cx) (own : Nat → Bool) (p : Bool) (e : Option Expr) (f : FP') : Prop := PO X e (tO X.K own p f)
theorem _root_.L2.PO.conv {X : Cx} {e : Option Expr} {t t' : TO} (h : PO X e t) (i : ∀ σ H Q, t' σ H Q → t σ H Q) : PO X e t' := ⟨fun pins s σ H Q I q => h.run pins s σ H Q I (i σ H Q q)⟩
def fNoP : FP' := fun ρ => some (none, ρ)
def fPart (f : FX) : FP' := fun ρ => match f ρ with
  | some (.int i, ρ1) => some (some i, ρ1)
  | _ => none
theorem fo_none : FO X own true none fNoP := po_none.conv fun σ H Q ⟨ρ, F, i, ρ', r, e1, k⟩ => by
  cases e1
  exact k H F r .refl fun _ => ⟨rfl, rfl, .refl H⟩
theorem fo_some {e : Expr} {c : Nat} {p : Bool} {f : FX} (h : FE X own c p e f) : FO X own p (some e) (fPart f) := (po_some h).conv fun σ H Q ⟨ρ, F, i, ρ', r, e1, k⟩ => by
  unfold fPart at e1
  split at e1
  · rename_i j ρ1 q
    cases e1
    refine ⟨ρ, F, _, ρ', r, q, fun v H1 F1 R1 r1 s1 p1 v1 c1 => ?_⟩
    cases v1
    exact ⟨j, rfl, k H1 F1 r1 s1 p1⟩
  · cases e1
abbrev G3 := PyData → Option Int → Option Int → Option PyData
def DSl (K : PySem.W.Frag) (r : V → Option Int → Option Int → Hp → VK → Prop) (g : G3) : Prop := ∀ H x d Rx lo hi z (Q : VK), DV K H x d Rx → g d lo hi = some z → (∀ v H' R, Same H H' → DV K H' v z R → New H H' R → Q v H') → r x lo hi H Q
def fSl (g : G3) (f : FX) (l h : FP') : FX := fun ρ => match f ρ with
  | some (x, ρ1) => match l ρ1 with
    | some (lo, ρ2) => match h ρ2 with
      | some (hi, ρ3) => match g x lo hi with
        | some z => some (z, ρ3)
        | none => none
      | none => none
    | none => none
  | none => none
theorem fe_slice {r : V → Option Int → Option Int → Hp → VK → Prop} {g : G3} {e : Expr} {lo hi : Option Expr} {p2 pos : Pos} {c : Nat} {p pl ph : Bool} {f : FX} {l h : FP'} (hr : SlR X r) (hg : DSl X.K r g) (he : FE X own c p e f) (hl : FO X own pl lo l) (hh : FO X own ph hi h)
    (hc : 1 ≤ c ∨ (pl && ph) = true := by first | exact .inl (by decide) | exact .inr rfl) : FE X own 2 (p && (pl && ph)) (.Subscript e (.Slice lo hi none p2) pos) (fSl g f l h) :=
  (pe_slice hr he hl hh).conv fun σ H Q ⟨ρ, F, d, ρ', r, e1, k⟩ => by
    unfold fSl at e1
    split at e1
    · rename_i x ρ1 ea
      split at e1
      · rename_i lo ρ2 eb
        split at e1
        · rename_i hi ρ3 ec
          split at e1
          · rename_i z eg
            cases e1
            refine ⟨ρ, F, x, ρ1, r, ea, fun v H1 F1 R1 r1 s1 p1 v1 c1 => ⟨ρ1, F1, lo, ρ2, r1, eb, fun H2 F2 r2 s2 p2 => ⟨ρ2, F2, hi, ρ', r2, ec, fun H3 F3 r3 s3 p3 => ?_⟩⟩⟩
            have pp : (p && (pl && ph)) = true → ρ' = ρ ∧ F3 = F ∧ Same H H3 := fun z => glueB (K := X.K) p1 (fun y => glueB (K := X.K) p2 p3 y) z
            refine hg H3 v x R1 lo hi d _ ?_ eg fun u H' R sm hv hn => fin k r3 ((s1.trans s2).trans s3) pp sm hv hn
            rcases hc with z | z
            · exact v1.step r1 (s2.trans s3).toStpS (c1.1 z)
            · exact v1.same (glueB (K := X.K) p2 p3 z).2.2
          · cases e1
        · cases e1
      · cases e1
    · cases e1
def cut {α : Type} (xs : List α) (lo hi : Option Int) : List α := (xs.drop (HT.sIx xs.length 0 lo)).take (HT.sIx xs.length xs.length hi - HT.sIx xs.length 0 lo)
def gSl : G3
  | .list xs, lo, hi => if imms xs = true then some (.list (cut xs lo hi)) else none
  | .tuple xs, lo, hi => if imms xs = true then some (.tuple (cut xs lo hi)) else none
  | .str x, lo, hi => if x.length ≤ 1000000 then some (.str (cutS x lo hi)) else none
  | _, _, _ => none
theorem DVs.drop {K : PySem.W.Frag} {H : Hp} : ∀ {vs : List V} {ds : List PyData} (n : Nat), DVs K H vs ds [] → DVs K H (vs.drop n) (ds.drop n) []
  | _, _, 0, h => h
  | _, _, n + 1, h => by
    generalize hr : ([] : List Addr) = R at h
    cases h with
    | nil => exact .nil
    | cons h t =>
      obtain ⟨e1, e⟩ := List.append_eq_nil_iff.mp hr.symm
      subst e e1
      exact DVs.drop n t
theorem DVs.take {K : PySem.W.Frag} {H : Hp} : ∀ {vs : List V} {ds : List PyData} (n : Nat), DVs K H vs ds [] → DVs K H (vs.take n) (ds.take n) []
  | _, _, 0, h => .nil
  | _, _, n + 1, h => by
    generalize hr : ([] : List Addr) = R at h
    cases h with
    | nil => exact .nil
    | cons h t =>
      obtain ⟨e1, e⟩ := List.append_eq_nil_iff.mp hr.symm
      subst e e1
      have := DVs.cons h (DVs.take n t)
      simpa using this
theorem DVs.cut {K : PySem.W.Frag} {H : Hp} {vs : List V} {ds : List PyData} (h : DVs K H vs ds []) (lo hi : Option Int) : DVs K H (cutV vs lo hi) (cut ds lo hi) [] := by
  unfold cutV FP.cut
  rw [h.length]
  exact (h.drop _).take _
theorem cut_whole {α : Type} {xs : List α} {lo hi : Option Int} (h : HT.sIx xs.length 0 lo = 0 ∧ HT.sIx xs.length xs.length hi = xs.length) : cut xs lo hi = xs := by
  unfold cut
  rw [h.1, h.2]
  simp
def rSlU (K : PySem.W.Frag) : V → Option Int → Option Int → Hp → VK → Prop := fun x lo hi H Q => rSlL K x lo hi H Q ∨ (rSlF K x lo hi H Q ∨ rSlS x lo hi H Q)
theorem sl_U : SlR X (rSlU X.K) := (sl_list (X := X)).or (sl_tupF.or sl_str)
theorem ds_sl {K : PySem.W.Frag} : DSl K (rSlU K) gSl := by
  intro H x d Rx lo hi z Q hx hg k
  have bl := big_line
  unfold gSl at hg
  split at hg
  · split at hg
    · rename_i hi'
      cases hg
      cases hx with
      | lst h1 h2 =>
        refine .inl ⟨_, _, rfl, SqL.of h1, fun p hp => ?_⟩
        obtain ⟨q1, q2⟩ := new_lst hp ((DVs.imm_each hi' h2).cut lo hi)
        exact k _ _ _ (same_upd hp) q1 q2
    · cases hg
  · split at hg
    · rename_i hi'
      cases hg
      cases hx with
      | tup h1 h2 =>
        have f := DVs.imm_each hi' h2
        refine .inr (.inl ⟨_, _, rfl, h1.sq, fun w => ?_, fun w p o dn hp => k _ _ [] (same_upd hp) (new_tup dn hp (f.cut lo hi)) .nil⟩)
        rw [h2.length] at w
        rw [cut_whole w] at k
        exact k _ H [] (.refl H) (.tup h1 f) .nil
    · cases hg
  · split at hg
    · rename_i hl
      cases hx; cases hg
      exact .inr (.inr ⟨_, rfl, by omega, k _ H [] (.refl H) (.str _) .nil⟩)
    · cases hg
  · cases hg
end
end FP
namespace FP
open PySem PySem.Spec PyProof.Rows L2
/-! ### promises that are kept where no text of an object is being written (so that such texts are the plain ones) -/
structure FnG (P : Program) (w : World) (K : PySem.W.Frag) (mg : Str → Option Value) (base : Heap) (CX : CXT) (k : Nat) (f : Addr) (fd : FuncData) (ps : List Str) (sp : Sp) : Prop where
  arity : ∀ vs H Q E, sp vs H Q E → vs.length = ps.length
  keeps : ∀ (A : Around) (out : List Env) (s : Shared) (H : Hp) (args : Args) (us : List Value) (vs : List V) (Q : VK) (E : XK), A.guards = some [] → Room k A → Env0 P w K mg base A out s H → BindsTo s fd args (ps.zip us) →
    Vals vs us → sp vs H Q E → codeAny (model P w) A (.call (.ref f) args) (CR CX out P w H s Q E) s
theorem FnG.of {P : Program} {w : World} {K : PySem.W.Frag} {mg : Str → Option Value} {base : Heap} {CX : CXT} {k : Nat} {f : Addr} {fd : FuncData} {ps : List Str} {sp : Sp} (F : FnOk P w K mg base CX k f fd ps sp) : FnG P w K mg base CX k f fd ps sp :=
  ⟨F.len, fun A out s H args us vs Q E _ hr e b r h => F.run A out s H args us vs Q E hr e b r h⟩
section
variable {P : Program} {w : World} {K : PySem.W.Frag} {mg : Str → Option Value} {base : Heap} {k : Nat} {f : Addr} {fd : FuncData} {ps N : List Str} {sp : Sp} {nm : Str} {st : Stmt}
/-- a def's body keeps its promise -/
theorem body_kept {x0 : Str} (Fn : Fun K x0 nm st f fd) (S : FnScope N ps (defScope st)) (ar : ∀ vs H Q E, sp vs H Q E → vs.length = ps.length)
    (body : ∀ (cd : Value) (A : Around) (out : List Env) (s : Shared) (H : Hp) (vs : List V) (Q : VK) (E : XK), Room k (A.deeper (envOfC nm (defScope st) s.heap.objs.size f cd)) → A.guards = some [] → sp vs H Q E →
      ∃ t, PSs (cxOf CX0 P w K mg base N nm (defScope st) f cd A out s H E).nox (defBody st) t ∧ t { nx := fun _ H' => Q .non H', rt := Q } (L2.start N vs) H) : FnG P w K mg base CX0 (k + 1) f fd ps sp where
  arity := ar
  keeps := by
    intro A out s H args us vs Q E gd room e0 bnd vu prom
    obtain ⟨oc, od, kV, doc, pm, an, cd, ct, osl, efd, look, rec⟩ := Fn.ex
    subst efd
    have still : ∀ b o, base.get? b = some o → s.heap.get? b = some o := fun b o q => (e0.bs b o q).1
    have inK : K.In s.heap := e0.mod.kin.keeps still
    have free : s.heap.NoLimit := e0.mod.nolimit.keeps still
    refine codeAny_call_function room.depth (inK _ _ look) rfl S.co S.gen rfl (PySem.W.codeRec_of inK rec) (bnd _ _ _ _ ?_)
    have kinds : ∀ y ∈ ps.zip us, (defScope st).names.lookup y.1 = some .local ∨ ((defScope st).names.lookup y.1 = some .cell ∧ ((cellsFrom (s.heap.objs.size + 1) (defScope st).names []).lookup y.1).isSome = true) := by
      rintro ⟨x, u⟩ hy
      rcases S.par x (List.of_mem_zip hy).1 with loc | cel
      · exact Or.inl loc
      · exact Or.inr ⟨cel, PySem.W.cellsFrom_some _ _ _ (Or.inl cel)⟩
    refine wpAny_newFunctionEnv_cells S.kind kinds ?_
    intro env eq s1 made
    subst eq
    refine ⟨free.keeps made.toInCall.keep, codeAny_func ?_⟩
    obtain ⟨t, ok, holds⟩ := body cd A out s H vs Q E (room.deeper _) gd prom
    have J0 := inv_start (CX := CX0) (E := E) S room.hd e0 (ar vs H Q E prom) vu made
    have run := ok.nox.run [] s1 _ H _ J0 holds
    refine wpAny_mono run ?_ fun _ _ q => q
    intro fl s2 q
    cases fl with
    | ret u =>
      obtain ⟨v, _, H', J, rel, done⟩ := q
      exact ⟨v, H', J.os, J.bare, J.base, J.hok, rel, done⟩
    | next =>
      obtain ⟨_, H', J, done⟩ := q
      exact ⟨V.non, H', J.os, J.bare, J.base, J.hok, rfl, done⟩
    | brk => exact q.elim fun _ z => z.elim fun _ y => y.2.elim
    | cont => exact q.elim fun _ z => z.elim fun _ y => y.2.elim
end
section
variable {X : Cx} {k : Nat} {f : Addr} {fd : FuncData} {ps : List Str} {sp : Sp} {E : XK} {x : Str} {p pos : Pos} {e : Expr} {es : List Expr} {t : TA}
theorem enter {pins : List (Addr × Obj)} {σ : L2.St} {H : Hp} {s : Shared} {Q : VK} {us : List Value} {vs : List V} (F : FnG X.prog X.w X.K X.mg X.base CX0 k f fd ps sp) (gd : X.A.guards = some []) (room : Room k X.A) (bnd : L2.Binds X.K fd ps [])
    (I : Inv X pins σ H s) (vu : Vals vs us) (prom : sp vs H Q E) : wpAny (model X.prog X.w) X.A (call (.ref f) us) (EP X pins σ Q) X.xe s := by
  have n : (us ++ []).length = ps.length := by
    rw [List.append_nil, ← vu.length]
    exact F.arity _ _ _ _ prom
  have b := bnd s us I.kIn n
  rw [List.append_nil] at b
  refine wpAny_call (codeAny_mono (F.keeps X.A X.stack s H _ us vs Q E gd room I.env0 b vu prom) ?_)
  intro r s2 q
  match r, q with
  | .error _, q => exact q.elim
  | .ok (.ret _), q => exact I.after q
  | .ok .next, q => exact q.elim
  | .ok .brk, q => exact q.elim
  | .ok .cont, q => exact q.elim
/-- the reading of a call -/
def tGo (sp : Sp) (E : XK) (t : TA) : TE := fun σ H Q => t σ H fun vs H1 => sp vs H1 Q E
theorem pe_go (F : FnG X.prog X.w X.K X.mg X.base CX0 k f fd ps sp) (gd : X.A.guards = some []) (room : Room k X.A) (hg : Gl X x) (hm : X.mg x = some (.ref f)) (hk : PySem.W.keepIn X.K (.ref f) = true) (bnd : L2.Binds X.K fd ps [])
    (ha : PA X (e :: es) t) (hdb : (x == ("__debug__" : Str)) = false := by decide) (he : starEach (e :: es) X.env = (false, eval e X.env) :: starEach es X.env := by rfl) (hpl : (backTo pos (starEach es X.env)).any (·.1) = false := by rfl) :
    PE X (.Call (.Name x p) (e :: es) [] pos) (tGo sp E t) := by
  constructor
  intro pins s σ H Q I h
  apply wpAny_Call_Name_kw
  apply ld_glob I hg hm _ hdb
  refine PySem.W.callWith_K (h₀ := X.base) I.ok.mod.kin hk (thn (ha.run pos pins s σ H _ I h) ?_) he hpl
  rintro us s1 ⟨vs, H1, I1, r, q⟩
  exact ⟨I1.kIn, enter F gd room bnd I1 r q⟩
theorem pe_go0 (F : FnG X.prog X.w X.K X.mg X.base CX0 k f fd ps sp) (gd : X.A.guards = some []) (room : Room k X.A) (hg : Gl X x) (hm : X.mg x = some (.ref f)) (hk : PySem.W.keepIn X.K (.ref f) = true) (bnd : L2.Binds X.K fd ps [])
    (hdb : (x == ("__debug__" : Str)) = false := by decide) : PE X (.Call (.Name x p) [] [] pos) (tGo sp E tNil) := by
  constructor
  intro pins s σ H Q I h
  apply wpAny_Call_Name_kw
  apply ld_glob I hg hm _ hdb
  exact PySem.W.callWith_K0 I.kIn hk (enter (us := []) F gd room bnd I .nil h)
/-- keywords, all parameters given, by position first, then by name: perm tells the place of each -/
structure KwB (K : PySem.W.Frag) (fd : FuncData) (ps ks : List Str) (g : List Value → List Value → List Value) (gV : List V → List V → List V) : Prop where
  b : KBinds K fd ps ks g gV
end
/-! ### the law's own call -/
section
variable {P : Program} {w : World} {K : PySem.W.Frag} {mg mb : Str → Option Value} {k : Nat} {fa a : Addr} {fd : FuncData} {x : Str} {sp : Sp} {s : Shared} {vs : List Value} {ns : List Int}
/-- what is hidden is no namespace and nothing of the written part -/
theorem hidden {h : Heap} {H : Hp} {a : Addr} {vs : List Value} (ha : h.get? a = some { cls := .type "list", data := .seq vs.toArray }) (only : ∀ b, H b ≠ none → b = a) {b : Addr} {o : Obj} (e : h.get? b = some o) (no : b = a → False ∨ H b = none) : (hidT h H).get? b = some o := by
  apply hidT_get e
  by_cases z : H b = none
  · exact z
  · rcases no (only b z) with q | q
    · exact q.elim
    · exact q
theorem law_go (KX : K.In s.heap) (hns : s.heap.Ns mainGlobals mg) (hb : s.heap.Ns builtinsNs mb) (hbb : ∀ x : Str, x ≠ "__name__" → mb x = bootBuiltins x) (hlim : s.heap.NoLimit) (hg : s.gens = #[])
    (ha : s.heap.get? a = some { cls := .type "list", data := .seq vs.toArray }) (hi : IntsAre vs ns) (hl : ns.length ≤ sizeLine) (room : Room k callerA)
    (F : ∀ base : Heap, K.In base → base.Ns mainGlobals mg → FnG P w K mg base CX0 k fa fd [x] sp) (bnd : ∀ (s : Shared) (u : Value), BindsTo s fd ⟨[u], []⟩ [(x, u)])
    (prom : ∀ H : Hp, Only H → SqL K H a (ns.map V.int) → sp [.ref a] H (fun v _ => v = .bl true) E0) :
    codeAny (model P w) callerA (.call (.ref fa) ⟨[.ref a], []⟩) (fun r s' => r = .ok (.ret (.bool true)) ∧ OldK s.heap s'.heap ∧ s'.os = s.os ∧ AllBare s'.gens) s := by
  have rv := vals_ints hi
  -- H: the script alone, where it is no object of the module; else nothing
  obtain ⟨H, only, tracked, isFree, seq, frozen⟩ : ∃ H : Hp, Only H ∧ HOk P w H s.heap ∧ (∀ b o, K.lookup b = some o → H b = none) ∧ SqL K H a (ns.map V.int) ∧ ∀ b, H b ≠ none → b = a := by
    cases q : K.lookup a with
    | some o =>
      have eo := KX a o q
      rw [ha] at eo
      cases eo
      refine ⟨fun _ => none, fun _ => Or.inl rfl, (fun b u z => nomatch (show (none : Option HO) = some u from z)), fun _ _ _ => rfl, Or.inr ⟨_, vs.toArray, _, q, rfl, rfl, rfl, ?_, ?_⟩, fun _ z => absurd rfl z⟩
      · rw [List.size_toArray, hi.length]; exact hl
      · simpa using rv
    | none =>
      let sc : HO := .frz { cls := .type "list", data := .seq vs.toArray } (.lst (ns.map V.int))
      refine ⟨fun b => if b = a then some sc else none, fun b => ?_, fun b u z => ?_, fun b o z => ?_, Or.inl (Or.inr ⟨{ cls := .type "list", data := .seq vs.toArray }, if_pos rfl⟩), fun b z => ?_⟩
      · rcases Classical.em (b = a) with h | h
        · exact Or.inr ⟨_, _, if_pos h⟩
        · exact Or.inl (if_neg h)
      · rcases Classical.em (b = a) with h | h
        · have z2 := (if_pos h).symm.trans z
          cases z2
          rw [h]
          exact ⟨ha, by rw [List.length_map]; exact hl, vs, _, rv, ha⟩
        · exact nomatch (if_neg h).symm.trans z
      · exact if_neg fun h => by rw [h, q] at z; cases z
      · exact Classical.byContradiction fun h => z (if_neg h)
  -- a namespace is no list
  have space : ∀ {b : Addr} {m : Str → Option Value}, s.heap.Ns b m → (hidT s.heap H).Ns b m := by
    rintro b m ⟨o, es, ep, e, d, rest⟩
    refine ⟨o, es, ep, hidden ha frozen e fun z => Or.inl ?_, d, rest⟩
    rw [z, ha] at e
    cases e
    cases d
  have inB : K.In (hidT s.heap H) := fun b o q => hidden ha frozen (KX b o q) fun _ => Or.inr (isFree b o q)
  have mod : Mod K mg (hidT s.heap H) := ⟨inB, space hns, ⟨mb, space hb, hbb⟩, hlim.elim fun mc z => ⟨mc, space z.1, z.2⟩⟩
  have e0 : Env0 P w K mg (hidT s.heap H) callerA [] s H := ⟨rfl, mod, fun _ _ e => of_hidT e, Nat.le_of_eq (hidT_size _ _), trivial, fun b z => absurd (show b ∈ ([] : List Addr) from z) List.not_mem_nil, tracked, .of_eq hg⟩
  have go := (F _ inB (space hns)).keeps callerA [] s H ⟨[.ref a], []⟩ [.ref a] [.ref a] _ E0 rfl room e0 (bnd s (.ref a)) (.cons rfl .nil) (prom H only seq)
  refine codeAny_mono go ?_
  intro r s2 q
  match r, q with
  | .error _, q => exact q.elim
  | .ok .next, q => exact q.elim
  | .ok .brk, q => exact q.elim
  | .ok .cont, q => exact q.elim
  | .ok (.ret u), ⟨v, H2, os, bare, un, ok2, rel, done⟩ =>
    have done : v = .bl true := done
    subst done
    have rel : u = Value.bool true := rel
    subst rel
    refine ⟨rfl, OldK.of_keep ?_, os, bare⟩
    intro b o e
    rcases only b with z | ⟨ob, xs, z⟩
    · exact un.keep b o e z (fun y => absurd (show b ∈ ([] : List Addr) from y) List.not_mem_nil) List.not_mem_nil
    · have t1 := tracked b _ z
      have t2 := ok2 b _ (un.frzs b ob _ z)
      have e1 : s.heap.get? b = some ob := t1.1
      have e2 : s2.heap.get? b = some ob := t2.1
      rw [e1] at e
      rw [e2, ← e]
theorem walk_go {l : PySem.W.OpenLaw} {n : Nat} {q : Program} {loose : List Str} {XP : (Str → Option Value) → Heap → Prop} {YP : World → Heap → Prop} {d : DefRec} {K : Params → PySem.W.Frag} {sp : PySem.W.Frag → Sp} {x : Str} {k : Nat}
    (hn : l.most = some n) (hn2 : n ≤ sizeLine) (hdf : d.params.defaults = []) (room : Room k callerA) (hY : ∀ (w : World) (h : Heap), YP w h → (K w.params).In h)
    (F : ∀ (w : World) (mg : Str → Option Value) (fa : Addr) (h : Heap), (K w.params).In h → h.Ns mainGlobals mg → mg d.name = some (.ref fa) →
      ∃ fd : FuncData, (∀ (s : Shared) (u : Value), BindsTo s fd ⟨[u], []⟩ [(x, u)]) ∧ ∀ base : Heap, (K w.params).In base → base.Ns mainGlobals mg → FnG l.prog w (K w.params) mg base CX0 k fa fd [x] (sp (K w.params)))
    (prom : ∀ (K : PySem.W.Frag) (H : Hp) (a : Addr) (ns : List Int), ns.length ≤ n → Only H → SqL K H a (ns.map V.int) → sp K [.ref a] H (fun v _ => v = .bl true) E0) :
    PySem.W.WalkO q loose XP YP l.row.toRowW d [] (fun f vs => PySem.call f vs) := by
  refine Att.attach_call hn hdf ?_
  intro w s₀ s₁ mg mb fa o pm cd doc a vs ns G Y _ _ _ at_ obj isInts few gens
  have inK := hY w _ Y
  obtain ⟨fd, bnd, FF⟩ := F w mg fa _ inK G.T.g at_
  exact law_go inK G.T.g G.T.b G.T.builtins G.T.nolimit gens obj isInts (Nat.le_trans few hn2) room FF bnd fun H only seq => prom _ H a ns few only seq
end
end FP
namespace FP
open PySem PySem.Spec PyProof.Rows L2
/-! ### what a def promises: without a thing that it changes; with one, its first parameter -/
def spP (K : PySem.W.Frag) (m : GL) : Sp := fun vs H Q _ => ∃ ds R r, DVs K H vs ds R ∧ m ds = some r ∧ ∀ v H' R', Same H H' → DV K H' v r R' → New H H' R' → Q v H'
abbrev MI := PyData → List PyData → Option (PyData × PyData)
def spI (K : PySem.W.Frag) (m : MI) : Sp := fun vs H Q _ => ∃ v0 ws d0 ds R0 R r o, vs = v0 :: ws ∧ DV K H v0 d0 R0 ∧ R0.Nodup ∧ (∀ a ∈ R0, Mut (H a)) ∧ DVs K H ws ds R ∧ (∀ a ∈ R, a ∉ R0) ∧ m d0 ds = some (r, o) ∧
  ∀ v H' R0' R', (∀ a u, H a = some u → a ∉ R0 → H' a = some u) → (∀ a, H a ≠ none → H' a ≠ none) → DV K H' v0 o R0' → R0'.Nodup → (∀ a ∈ R0', Mut (H' a) ∧ (a ∈ R0 ∨ H a = none)) →
    DV K H' v r R' → R'.Nodup → (∀ a ∈ R', H a = none ∧ Mut (H' a) ∧ a ∉ R0') → Q v H'
section
variable {X : Cx} {own : Nat → Bool} {k : Nat} {f : Addr} {fd : FuncData} {ps : List Str} {E : XK} {x : Str} {p0 pos : Pos} {e : Expr} {es : List Expr}
def fCall (m : GL) (fs : FL) : FX := fun ρ => match fs ρ with
  | some (ds, ρ1) => match m ds with
    | some r => some (r, ρ1)
    | none => none
  | none => none
theorem fe_callP {m : GL} {c : Nat} {p : Bool} {fs : FL} (F : FnG X.prog X.w X.K X.mg X.base CX0 k f fd ps (spP X.K m)) (gd : X.A.guards = some []) (hr : Room k X.A) (hg : Gl X x) (hm : X.mg x = some (.ref f)) (hk : PySem.W.keepIn X.K (.ref f) = true) (hb : Binds X.K fd ps [])
    (ha : FA X own c p (e :: es) fs) (hdb : (x == ("__debug__" : Str)) = false := by decide) (he : starEach (e :: es) X.env = (false, eval e X.env) :: starEach es X.env := by rfl) (hpl : (backTo pos (starEach es X.env)).any (·.1) = false := by rfl) :
    FE X own 2 p (.Call (.Name x p0) (e :: es) [] pos) (fCall m fs) :=
  (pe_go (E := E0) F gd hr hg hm hk hb ha hdb he hpl).conv fun σ H Q ⟨ρ, F, d, ρ', r, e1, k⟩ => by
    unfold fCall at e1
    split at e1
    · rename_i ds ρ1 ea
      split at e1
      · rename_i z eg
        cases e1
        refine ⟨ρ, F, ds, ρ', r, ea, fun vs H1 F1 R1 r1 s1 p1 v1 c1 => ?_⟩
        show spP X.K m vs H1 Q E0
        exact ⟨ds, R1, d, v1, eg, fun u H' R sm hv hn => fin k r1 s1 p1 sm hv hn⟩
      · cases e1
    · cases e1
/-- f(): no arguments -/
theorem fe_callP0 {m : GL} (F : FnG X.prog X.w X.K X.mg X.base CX0 k f fd ps (spP X.K m)) (gd : X.A.guards = some []) (hr : Room k X.A) (hg : Gl X x) (hm : X.mg x = some (.ref f)) (hk : PySem.W.keepIn X.K (.ref f) = true) (hb : Binds X.K fd ps [])
    (hdb : (x == ("__debug__" : Str)) = false := by decide) : FE X own 2 true (.Call (.Name x p0) [] [] pos) (fCall m fNil) :=
  (pe_go0 (E := E0) F gd hr hg hm hk hb hdb).conv fun σ H Q ⟨ρ, F, d, ρ', r, e1, k⟩ => by
    unfold fCall fNil at e1
    simp only at e1
    split at e1
    · rename_i z eg
      cases e1
      exact ⟨[], [], d, .nil, eg, fun u H' R sm hv hn => fin k r .refl (fun _ => ⟨rfl, rfl, .refl H⟩) sm hv hn⟩
    · cases e1
/-- keywords: the arguments by position, then the keywords' values; g: the parameters' order -/
def fCallK (m : GL) (g : List PyData → List PyData → List PyData) (fs fk : FL) : FX := fun ρ => match fs ρ with
  | some (ds, ρ1) => match fk ρ1 with
    | some (zs, ρ2) => match m (g ds zs) with
      | some r => some (r, ρ2)
      | none => none
    | none => none
  | none => none
def fCallI (m : MI) (j : Nat) (fs : FL) : FX := fun ρ => match ρ[j]? with
  | some (some _) => match fs ρ with
    | some (ds, ρ1) => match ρ1[j]? with
      | some (some d0) => match m d0 ds with
        | some (r, o) => some (r, ρ1.set j (some o))
        | none => none
      | _ => none
    | none => none
  | _ => none
theorem fe_callI {m : MI} {j : Nat} {c : Nat} {p : Bool} {fs : FL} (F : FnG X.prog X.w X.K X.mg X.base CX0 k f fd ps (spI X.K m)) (gd : X.A.guards = some []) (hr : Room k X.A) (hg : Gl X x) (hm : X.mg x = some (.ref f)) (hk : PySem.W.keepIn X.K (.ref f) = true) (hb : Binds X.K fd ps [])
    (h0 : PE X e (tVar j)) (oj : own j = true) (ha : FA X own c p es fs) (hc : 1 ≤ c := by decide) (hdb : (x == ("__debug__" : Str)) = false := by decide) (he : starEach (e :: es) X.env = (false, eval e X.env) :: starEach es X.env := by rfl) (hpl : (backTo pos (starEach es X.env)).any (·.1) = false := by rfl) :
    FE X own 2 false (.Call (.Name x p0) (e :: es) [] pos) (fCallI m j fs) :=
  (pe_go (E := E0) F gd hr hg hm hk hb (pa_cons h0 ha he) hdb he hpl).conv fun σ H Q ⟨ρ, F, d, ρ', r, e1, k⟩ => by
    unfold fCallI at e1
    split at e1
    · rename_i d00 e00
      obtain ⟨v0, hv0, _⟩ := r.val j _ e00
      split at e1
      · rename_i ds ρ1 ea
        split at e1
        · rename_i d0 e0
          split at e1
          · rename_i rr o eg
            cases e1
            refine ⟨v0, hv0, ρ, F, ds, ρ1, r, ea, fun vs H1 F1 R1 r1 s1 p1 v1 c1 => ?_⟩
            obtain ⟨v0', q1, q2⟩ := r1.val j d0 e0
            rw [hv0] at q1; cases q1
            show spI X.K m (v0 :: vs) H1 Q E0
            refine ⟨v0, vs, d0, ds, F1 j, R1, d, o, rfl, q2, r1.nod j oj, fun a m => r1.mu j oj a m, v1, fun a ha m => c1.1 hc a ha ⟨j, oj, m⟩, eg, fun v H' R0' R' kp dm w0 nd0 mu0 wv nd mu => ?_⟩
            obtain ⟨r2, s2⟩ := r1.write oj hv0 kp dm w0 nd0 mu0
            refine k v H' _ R' r2 (s1.trans s2) (fun z => nomatch z) wv ⟨fun _ a ha ⟨i, oi, m⟩ => ?_, fun _ => ⟨nd, fun a ha => ⟨s1.no (mu a ha).1, (mu a ha).2.1⟩⟩⟩
            by_cases h : i = j
            · subst h; rw [setF_same] at m; exact (mu a ha).2.2 m
            · rw [setF_ne h] at m; exact r1.tr m (mu a ha).1
          · cases e1
        · cases e1
      · cases e1
    · cases e1
end
end FP
namespace FP
open PySem PySem.Spec PyProof.Rows L2
/-! ### statements -/
inductive Out where
  | nx (ρ : EV)
  | rt (d : PyData) (ρ : EV)
  | bk (ρ : EV)
  | ct (ρ : EV)
  | no
abbrev FSt := EV → Out
/-- behind a statement; io: the slot of what is handed in to be changed -/
structure StpT (own io : Nat → Bool) (σ : L2.St) (H : Hp) (F : Fo) (σ' : L2.St) (H' : Hp) (F' : Fo) : Prop extends StpS own H F H' F' where
  sl : ∀ j, io j = true → σ'[j]? = σ[j]?
/-- what is handed back: new, or what an owned name held -/
def RR (own io : Nat → Bool) (H H' : Hp) (F' : Fo) (R : List Addr) : Prop :=
  R.Nodup ∧ (∀ a ∈ R, Mut (H' a)) ∧ ((∀ a ∈ R, H a = none ∧ ¬ InF own F' a) ∨ ∃ i, own i = true ∧ io i = false ∧ R.Sublist (F' i))
def Post (K : PySem.W.Frag) (own io : Nat → Bool) (D : Ends) (σ : L2.St) (H : Hp) (F : Fo) : Out → Prop
  | .nx ρ' => ∀ σ' H' F', RepE K own σ' H' ρ' F' → StpT own io σ H F σ' H' F' → D.nx σ' H'
  | .bk ρ' => ∀ σ' H' F', RepE K own σ' H' ρ' F' → StpT own io σ H F σ' H' F' → D.bk σ' H'
  | .ct ρ' => ∀ σ' H' F', RepE K own σ' H' ρ' F' → StpT own io σ H F σ' H' F' → D.ct σ' H'
  | .rt d ρ' => ∀ v σ' H' F' R, RepE K own σ' H' ρ' F' → StpT own io σ H F σ' H' F' → DV K H' v d R → RR own io H H' F' R → D.rt v H'
  | .no => False
def tS (K : PySem.W.Frag) (own io : Nat → Bool) (g : FSt) : TS := fun D σ H => ∃ ρ F, RepE K own σ H ρ F ∧ Post K own io D σ H F (g ρ)
abbrev FS (X : Cx) (own io : Nat → Bool) (st : Stmt) (g : FSt) : Prop := PS X st (tS X.K own io g)
abbrev FSs (X : Cx) (own io : Nat → Bool) (sts : List Stmt) (g : FSt) : Prop := PSs X sts (tS X.K own io g)
section
variable {K : PySem.W.Frag} {own io : Nat → Bool} {σ σ1 σ2 : L2.St} {H H1 H2 : Hp} {F F1 F2 : Fo}
theorem StpT.refl : StpT own io σ H F σ H F := ⟨.refl, fun _ _ => rfl⟩
theorem StpT.trans (s : StpT own io σ H F σ1 H1 F1) (t : StpT own io σ1 H1 F1 σ2 H2 F2) : StpT own io σ H F σ2 H2 F2 := ⟨s.toStpS.trans t.toStpS, fun j h => (t.sl j h).trans (s.sl j h)⟩
theorem StpT.ofE (s : Stp own H F H1 F1) : StpT own io σ H F σ H1 F1 := ⟨s.toStpS, fun _ _ => rfl⟩
theorem RR.later {R : List Addr} (h : RR own io H1 H2 F2 R) (s : StpS own H F H1 F1) : RR own io H H2 F2 R :=
  ⟨h.1, h.2.1, h.2.2.imp (fun q a ha => ⟨s.no (q a ha).1, (q a ha).2⟩) fun q => q⟩
theorem Post.later {D : Ends} {o : Out} (s : StpT own io σ H F σ1 H1 F1) (h : Post K own io D σ H F o) : Post K own io D σ1 H1 F1 o := by
  cases o with
  | nx ρ => exact fun σ' H' F' r t => h σ' H' F' r (s.trans t)
  | bk ρ => exact fun σ' H' F' r t => h σ' H' F' r (s.trans t)
  | ct ρ => exact fun σ' H' F' r t => h σ' H' F' r (s.trans t)
  | rt d ρ => exact fun v σ' H' F' R r t hv hr => h v σ' H' F' R r (s.trans t) hv (hr.later s.toStpS)
  | no => exact h.elim
end
section
variable {X : Cx} {own io : Nat → Bool} {pos : Pos}
def gNil : FSt := fun ρ => .nx ρ
def gSeq (g h : FSt) : FSt := fun ρ => match g ρ with
  | .nx ρ1 => h ρ1
  | o => o
theorem fss_nil : FSs X own io [] gNil := pss_nil.conv fun D σ H ⟨ρ, F, r, k⟩ => k σ H F r .refl
theorem fss_cons {st : Stmt} {rest : List Stmt} {g h : FSt} (h1 : FS X own io st g) (h2 : FSs X own io rest h) : FSs X own io (st :: rest) (gSeq g h) := (pss_cons h1 h2).conv fun D σ H ⟨ρ, F, r, k⟩ => by
  refine ⟨ρ, F, r, ?_⟩
  unfold gSeq at k
  cases q : g ρ with
  | nx ρ1 =>
    rw [q] at k
    exact fun σ' H' F' r' s' => ⟨ρ1, F', r', Post.later s' k⟩
  | bk ρ1 => rw [q] at k; exact k
  | ct ρ1 => rw [q] at k; exact k
  | rt d ρ1 => rw [q] at k; exact k
  | no => rw [q] at k; exact k.elim
theorem fss_one {st : Stmt} {g : FSt} (h1 : FS X own io st g) : FSs X own io [st] g := pss_one h1
def gPass : FSt := fun ρ => .nx ρ
def gBreak : FSt := fun ρ => .bk ρ
def gCont : FSt := fun ρ => .ct ρ
def gNo : FSt := fun _ => .no
theorem fs_pass : FS X own io (.Pass pos) gPass := ps_pass.conv fun D σ H ⟨ρ, F, r, k⟩ => k σ H F r .refl
theorem fs_break : FS X own io (.Break pos) gBreak := ps_break.conv fun D σ H ⟨ρ, F, r, k⟩ => k σ H F r .refl
theorem fs_cont : FS X own io (.Continue pos) gCont := ps_continue.conv fun D σ H ⟨ρ, F, r, k⟩ => k σ H F r .refl
theorem fs_no {st : Stmt} : FS X own io st gNo := ps_never.conv fun D σ H ⟨ρ, F, r, k⟩ => k
def gDrop (f : FX) : FSt := fun ρ => match f ρ with
  | some (_, ρ1) => .nx ρ1
  | none => .no
theorem fs_expr {e : Expr} {c : Nat} {p : Bool} {f : FX} (he : FE X own c p e f) (hs : swapsWith e none pos.line X.env = pure false := by rfl) : FS X own io (.Expr e pos) (gDrop f) := (ps_expr he hs).conv fun D σ H ⟨ρ, F, r, k⟩ => by
  unfold gDrop at k
  cases q : f ρ with
  | none => rw [q] at k; exact k.elim
  | some y =>
    obtain ⟨d, ρ1⟩ := y
    rw [q] at k
    exact ⟨ρ, F, d, ρ1, r, q, fun v H' F' R r' s' p' hv hc => k σ H' F' r' (.ofE s')⟩
def gRet (f : FX) : FSt := fun ρ => match f ρ with
  | some (d, ρ1) => .rt d ρ1
  | none => .no
theorem fs_ret {e : Expr} {p : Bool} {f : FX} (he : FE X own 2 p e f) : FS X own io (.Return (some e) pos) (gRet f) := (ps_ret he).conv fun D σ H ⟨ρ, F, r, k⟩ => by
  unfold gRet at k
  cases q : f ρ with
  | none => rw [q] at k; exact k.elim
  | some y =>
    obtain ⟨d, ρ1⟩ := y
    rw [q] at k
    exact ⟨ρ, F, d, ρ1, r, q, fun v H' F' R r' s' p' hv hc => k v σ H' F' R r' (.ofE s') hv ⟨(hc.2 (Nat.le_refl 2)).1, fun a ha => ((hc.2 (Nat.le_refl 2)).2 a ha).2, .inl fun a ha => ⟨((hc.2 (Nat.le_refl 2)).2 a ha).1, hc.1 (by decide) a ha⟩⟩⟩
/-- an owned name is handed back -/
theorem fs_retO {e : Expr} {i : Nat} (h : PE X e (tVar i)) (oi : own i = true := by rfl) (ii : io i = false := by rfl) : FS X own io (.Return (some e) pos) (gRet (fN i)) := (ps_ret h).conv fun D σ H ⟨ρ, F, r, k⟩ => by
  unfold gRet fN at k
  cases q : ρ[i]? with
  | none => rw [q] at k; exact k.elim
  | some y =>
    cases y with
    | none => rw [q] at k; exact k.elim
    | some d =>
      rw [q] at k
      obtain ⟨v, h1, h2⟩ := r.val i d q
      exact ⟨v, h1, k v σ H F (F i) r .refl h2 ⟨r.nod i oi, fun a m => r.mu i oi a m, .inr ⟨i, oi, ii, List.Sublist.refl _⟩⟩⟩
def gRetN : FSt := fun ρ => .rt .none ρ
theorem fs_retN : FS X own io (.Return none pos) gRetN := ps_retN.conv fun D σ H ⟨ρ, F, r, k⟩ => k .non σ H F [] r .refl .non ⟨List.nodup_nil, fun _ h => absurd h List.not_mem_nil, .inl fun _ h => absurd h List.not_mem_nil⟩
def gIf (t : FB) (g h : FSt) : FSt := fun ρ => match t ρ with
  | some (true, ρ1) => g ρ1
  | some (false, ρ1) => h ρ1
  | none => .no
theorem fs_if {t : Expr} {a b : List Stmt} {p : Bool} {ft : FB} {g h : FSt} (ht : FT X own p t ft) (ha : FSs X own io a g) (hb : FSs X own io b h) : FS X own io (.If t a b pos) (gIf ft g h) := (ps_if ht ha hb).conv fun D σ H ⟨ρ, F, r, k⟩ => by
  unfold gIf at k
  cases q : ft ρ with
  | none => rw [q] at k; exact k.elim
  | some y =>
    obtain ⟨b, ρ1⟩ := y
    rw [q] at k
    refine ⟨ρ, F, b, ρ1, r, q, fun H1 F1 r1 s1 p1 => ?_⟩
    cases b with
    | true => exact iteT ⟨ρ1, F1, r1, Post.later (.ofE s1) k⟩
    | false => exact iteF ⟨ρ1, F1, r1, Post.later (.ofE s1) k⟩
/-! ### assignments -/
def gSet (i : Nat) (f : FX) : FSt := fun ρ => match f ρ with
  | some (d, ρ1) => if i < ρ1.length then .nx (ρ1.set i (some d)) else .no
  | none => .no
theorem setP_conv {i : Nat} {c : Nat} {p : Bool} {f : FX} (hc : 1 ≤ c) (oi : own i = false) (ii : io i = false) : ∀ D σ H, tS X.K own io (gSet i f) D σ H → tAsg (tD X.K own c p f) (gName i) D σ H := fun D σ H ⟨ρ, F, r, k⟩ => by
  unfold gSet at k
  cases q : f ρ with
  | none => rw [q] at k; exact k.elim
  | some y =>
    obtain ⟨d, ρ1⟩ := y
    rw [q] at k
    simp only at k
    split at k
    · rename_i hl
      refine ⟨ρ, F, d, ρ1, r, q, fun v H' F' R r' s' p' hv hc' => ?_⟩
      obtain ⟨r2, _⟩ := r'.setP oi (by rw [r'.len]; exact hl) hv (hc'.1 hc)
      exact k _ H' _ r2 ⟨s'.toStpS.setFP oi, fun j hj => List.getElem?_set_ne fun e => by subst e; rw [hj] at ii; cases ii⟩
    · exact k.elim
theorem setO_conv {i : Nat} {p : Bool} {f : FX} (ii : io i = false) : ∀ D σ H, tS X.K own io (gSet i f) D σ H → tAsg (tD X.K own 2 p f) (gName i) D σ H := fun D σ H ⟨ρ, F, r, k⟩ => by
  unfold gSet at k
  cases q : f ρ with
  | none => rw [q] at k; exact k.elim
  | some y =>
    obtain ⟨d, ρ1⟩ := y
    rw [q] at k
    simp only at k
    split at k
    · rename_i hl
      refine ⟨ρ, F, d, ρ1, r, q, fun v H' F' R r' s' p' hv hc' => ?_⟩
      have n2 := hc'.2 (Nat.le_refl 2)
      have r2 := r'.setO (j := i) (by rw [r'.len]; exact hl) hv n2.1 (fun a ha => (n2.2 a ha).2) (far_of s' r (fun a ha => (n2.2 a ha).1) (hc'.1 (by decide)))
      exact k _ H' _ r2 ⟨s'.toStpS.setF fun a ha => (n2.2 a ha).1, fun j hj => List.getElem?_set_ne fun e => by subst e; rw [hj] at ii; cases ii⟩
    · exact k.elim
theorem fs_setP {i : Nat} {x : Str} {pos' : Pos} {e : Expr} {c : Nat} {p : Bool} {f : FX} (hN : X.N.Nodup) (hi : X.N[i]? = some x) (hx : Loc X.env.scope x) (he : FE X own c p e f) (hc : 1 ≤ c := by decide) (oi : own i = false := by rfl) (ii : io i = false := by rfl)
    (hs : swapsWith e (some (.Name x pos')) pos.line X.env = pure false := by rfl) (hf : X.fn x = true ∨ X.env.scope.names.lookup x = some .local := by first | exact .inl rfl | exact .inr rfl | assumption) : FS X own io (.Assign [.Name x pos'] e pos) (gSet i f) :=
  (ps_set hN hi hx he hs hf).conv (setP_conv hc oi ii)
theorem fs_setO {i : Nat} {x : Str} {pos' : Pos} {e : Expr} {p : Bool} {f : FX} (hN : X.N.Nodup) (hi : X.N[i]? = some x) (hx : Loc X.env.scope x) (he : FE X own 2 p e f) (ii : io i = false := by rfl)
    (hs : swapsWith e (some (.Name x pos')) pos.line X.env = pure false := by rfl) (hf : X.fn x = true ∨ X.env.scope.names.lookup x = some .local := by first | exact .inl rfl | exact .inr rfl | assumption) : FS X own io (.Assign [.Name x pos'] e pos) (gSet i f) :=
  (ps_set hN hi hx he hs hf).conv (setO_conv ii)
/-! ### targets of several names -/
abbrev FTg := PyData → EV → Option EV
def tG (K : PySem.W.Frag) (own io : Nat → Bool) (ts : List Nat) (h : FTg) : TG := fun v σ H Q => ∃ ρ F d R ρ', RepE K own σ H ρ F ∧ DV K H v d R ∧ (∀ a ∈ R, ¬ InF own F a) ∧ h d ρ = some ρ' ∧
  ∀ σ' F', RepE K own σ' H ρ' F' → StpT own io σ H F σ' H F' → (∀ i, own i = true ∨ i ∉ ts → F' i = F i) → (∀ i, i ∉ ts → σ'[i]? = σ[i]?) → σ'.length = σ.length → (∀ i, i ∉ ts → ρ'[i]? = ρ[i]?) → Q σ' H
abbrev FTgs := List PyData → EV → Option EV
def tGs (K : PySem.W.Frag) (own io : Nat → Bool) (ts : List Nat) (h : FTgs) : TGs := fun vs σ H Q => ∃ ρ F ds R ρ', RepE K own σ H ρ F ∧ DVs K H vs ds R ∧ (∀ a ∈ R, ¬ InF own F a) ∧ h ds ρ = some ρ' ∧
  ∀ σ' F', RepE K own σ' H ρ' F' → StpT own io σ H F σ' H F' → (∀ i, own i = true ∨ i ∉ ts → F' i = F i) → (∀ i, i ∉ ts → σ'[i]? = σ[i]?) → σ'.length = σ.length → (∀ i, i ∉ ts → ρ'[i]? = ρ[i]?) → Q σ' H
abbrev FG (X : Cx) (own io : Nat → Bool) (ts : List Nat) (t : Expr) (h : FTg) : Prop := PG X t (tG X.K own io ts h)
abbrev FGs (X : Cx) (own io : Nat → Bool) (is : List Nat) (ts : List Expr) (h : FTgs) : Prop := PGs X ts (tGs X.K own io is h)
theorem _root_.L2.PG.conv {X : Cx} {e : Expr} {t t' : TG} (h : PG X e t) (i : ∀ v σ H Q, t' v σ H Q → t v σ H Q) : PG X e t' := ⟨fun pins s σ H v u Q I r q => h.run pins s σ H v u Q I r (i v σ H Q q)⟩
theorem _root_.L2.PGs.conv {X : Cx} {e : List Expr} {t t' : TGs} (h : PGs X e t) (i : ∀ v σ H Q, t' v σ H Q → t v σ H Q) : PGs X e t' := ⟨fun pins s σ H v u Q I r q => h.run pins s σ H v u Q I r (i v σ H Q q)⟩
def hName (i : Nat) : FTg := fun d ρ => if i < ρ.length then some (ρ.set i (some d)) else none
theorem fg_name {i : Nat} {x : Str} (hN : X.N.Nodup) (hi : X.N[i]? = some x) (hx : Loc X.env.scope x) (oi : own i = false := by rfl) (ii : io i = false := by rfl) (hf : X.fn x = true ∨ X.env.scope.names.lookup x = some .local := by first | exact .inl rfl | exact .inr rfl | assumption) :
    FG X own io [i] (.Name x pos) (hName i) := (pg_name hN hi hx hf).conv fun v σ H Q ⟨ρ, F, d, R, ρ', r, hv, ap, e, k⟩ => by
  unfold hName at e
  split at e
  · rename_i hl
    cases e
    obtain ⟨r2, s2⟩ := r.setP oi (by rw [r.len]; exact hl) hv ap
    exact k _ _ r2 ⟨s2, fun j hj => List.getElem?_set_ne fun e => by subst e; rw [hj] at ii; cases ii⟩ (fun j oj => setF_ne fun e => by
      subst e
      rcases oj with oj | oj
      · rw [oi] at oj; cases oj
      · exact oj (by simp)) (fun j hj => List.getElem?_set_ne fun e => hj (by simp [e])) (by simp) fun j hj => List.getElem?_set_ne fun e => hj (by simp [e])
  · cases e
def hNil : FTgs := fun ds ρ => match ds with
  | [] => some ρ
  | _ => none
def hCons (h : FTg) (hs : FTgs) : FTgs := fun ds ρ => match ds with
  | d :: r => match h d ρ with
    | some ρ1 => hs r ρ1
    | none => none
  | [] => none
theorem fgs_nil : FGs X own io [] [] hNil := pgs_nil.conv fun vs σ H Q ⟨ρ, F, ds, R, ρ', r, hv, ap, e, k⟩ => by
  unfold hNil at e
  split at e
  · cases e
    cases hv
    exact ⟨rfl, k σ F r .refl (fun _ _ => rfl) (fun _ _ => rfl) rfl fun _ _ => rfl⟩
  · cases e
theorem fgs_cons {e : Expr} {es : List Expr} {h : FTg} {hs' : FTgs} {t1 t2 : List Nat} (h1 : FG X own io t1 e h) (h2 : FGs X own io t2 es hs')
    (hs : (assignEach (e :: es) X.env).map (·.2) = assign e X.env :: (assignEach es X.env).map (·.2) := by rfl) : FGs X own io (t1 ++ t2) (e :: es) (hCons h hs') := (pgs_cons h1 h2 hs).conv fun vs σ H Q ⟨ρ, F, ds, R, ρ', r, hv, ap, e, k⟩ => by
  unfold hCons at e
  split at e
  · rename_i d rr
    split at e
    · rename_i ρ1 q
      cases hv with
      | cons hv ht =>
        refine ⟨_, _, rfl, ρ, F, d, _, ρ1, r, hv, fun a ha => ap a (List.mem_append_left _ ha), q, fun σ1 F1 r1 s1 f1 g1 l1 e1 => ⟨ρ1, F1, rr, _, ρ', r1, ht, fun a ha ⟨i, oi, m⟩ => ?_, e, fun σ2 F2 r2 s2 f2 g2 l2 e2 => k σ2 F2 r2 (s1.trans s2) (fun i oi => (f2 i (oi.imp id fun z m => z (List.mem_append_right _ m))).trans (f1 i (oi.imp id fun z m => z (List.mem_append_left _ m)))) (fun i hi => (g2 i fun z => hi (List.mem_append_right _ z)).trans (g1 i fun z => hi (List.mem_append_left _ z))) (l2.trans l1) fun i hi => (e2 i fun z => hi (List.mem_append_right _ z)).trans (e1 i fun z => hi (List.mem_append_left _ z))⟩⟩
        rw [f1 i (.inl oi)] at m
        exact ap a (List.mem_append_right _ ha) ⟨i, oi, m⟩
    · cases e
  · cases e
def hTup (hs : FTgs) : FTg := fun d ρ => match d with
  | .tuple ds => hs ds ρ
  | _ => none
theorem hlen_nil {ds : List PyData} {ρ ρ' : EV} (h : hNil ds ρ = some ρ') : ds.length = 0 := by
  unfold hNil at h
  split at h
  · rfl
  · cases h
theorem hlen_cons {g : FTg} {hs : FTgs} {n : Nat} (ih : ∀ ds ρ ρ', hs ds ρ = some ρ' → ds.length = n) : ∀ ds ρ ρ', hCons g hs ds ρ = some ρ' → ds.length = n + 1 := fun ds ρ ρ' h => by
  unfold hCons at h
  split at h
  · split at h
    · rw [List.length_cons, ih _ _ _ h]
    · cases h
  · cases h
theorem fg_tup {es : List Expr} {kk : Nat} {hs : FTgs} {n : Nat} {ts : List Nat} (hc : X.calm = true) (h : FGs X own io ts es hs) (hl : ∀ ds ρ ρ', hs ds ρ = some ρ' → ds.length = n)
    (hn : (assignEach es X.env).length = n := by rfl) (hst : (assignEach es X.env).findIdx? (·.1) = none := by rfl) : FG X own io ts (.Tuple es kk pos) (hTup hs) := (pg_tup hc h hn hst).conv fun v σ H Q ⟨ρ, F, d, R, ρ', r, hv, ap, e, k⟩ => by
  unfold hTup at e
  split at e
  · rename_i ds
    cases hv with
    | tup h1 h2 => exact ⟨_, _, rfl, h1.sq, by rw [h2.length]; exact hl _ _ _ e, ρ, F, ds, R, ρ', r, h2, ap, e, k⟩
  · cases e
def gAsg (f : FX) (h : FTg) : FSt := fun ρ => match f ρ with
  | some (d, ρ1) => match h d ρ1 with
    | some ρ2 => .nx ρ2
    | none => .no
  | none => .no
theorem fs_asg {tg e : Expr} {c : Nat} {p : Bool} {f : FX} {h : FTg} {ts : List Nat} (he : FE X own c p e f) (hg : FG X own io ts tg h) (hc : 1 ≤ c := by decide) (hs : swapsWithSole [tg] e pos.line X.env = pure false := by rfl) (hw : swappedStores [tg] e X.env = pure none := by rfl)
    (h1 : (assignEach [tg] X.env).map (·.2) = [assign tg X.env] := by rfl) : FS X own io (.Assign [tg] e pos) (gAsg f h) := (ps_asg he hg hs hw h1).conv fun D σ H ⟨ρ, F, r, k⟩ => by
  unfold gAsg at k
  cases q : f ρ with
  | none => rw [q] at k; exact k.elim
  | some y =>
    obtain ⟨d, ρ1⟩ := y
    rw [q] at k
    simp only at k
    cases q2 : h d ρ1 with
    | none => rw [q2] at k; exact k.elim
    | some ρ2 =>
      rw [q2] at k
      exact ⟨ρ, F, d, ρ1, r, q, fun v H' F' R r' s' p' hv hc' => ⟨ρ1, F', d, R, ρ2, r', hv, hc'.1 hc, q2, fun σ2 F2 r2 s2 _ _ _ _ => k σ2 H' F2 r2 ((StpT.ofE s').trans s2)⟩⟩
/-- a, b = x, y with plain local names -/
def gPar (i j : Nat) (fs : FL) : FSt := fun ρ => match fs ρ with
  | some ([x, y], ρ1) => if i < ρ1.length ∧ j < ρ1.length then .nx ((ρ1.set i (some x)).set j (some y)) else .no
  | _ => .no
theorem fs_par {i j : Nat} {x y : Str} {a b : Expr} {px py pt : Pos} {kt k2 pt2} {p : Bool} {fs : FL} (hc : X.calm = true) (hN : X.N.Nodup) (hi : X.N[i]? = some x) (hj : X.N[j]? = some y) (hij : i ≠ j)
    (hx : X.env.scope.names.lookup x = some .local) (hy : X.env.scope.names.lookup y = some .local) (ha : FA X own 2 p [a, b] fs)
    (hw : swappedStores [.Tuple [.Name x px, .Name y py] kt pt] (.Tuple [a, b] k2 pt2) X.env = pure (some [x, y])) (ii : io i = false := by rfl) (jj : io j = false := by rfl)
    (hs : swapsWithSole [.Tuple [.Name x px, .Name y py] kt pt] (.Tuple [a, b] k2 pt2) pos.line X.env = pure false := by rfl) :
    FS X own io (.Assign [.Tuple [.Name x px, .Name y py] kt pt] (.Tuple [a, b] k2 pt2) pos) (gPar i j fs) := (ps_par hc hN hi hj hij hx hy ha hw hs).conv fun D σ H ⟨ρ, F, r, k⟩ => by
  unfold gPar at k
  split at k
  · rename_i dx dy ρ1 q
    split at k
    · rename_i hl
      refine ⟨ρ, F, _, ρ1, r, q, fun vs H' F' R r' s' p' hv hc' => ?_⟩
      generalize hR : R = R0 at hv
      cases hv with
      | cons v1 vt =>
        cases vt with
        | cons v2 vt =>
          cases vt
          rename_i v R1 w R2
          subst hR
          rw [List.append_nil] at hc'
          have n2 := hc'.2 (Nat.le_refl 2)
          have nd := List.nodup_append.mp n2.1
          have fr := far_of s' r (fun a ha => (n2.2 a ha).1) (hc'.1 (by decide))
          have r2 := r'.setO (j := i) (by rw [r'.len]; exact hl.1) v1 nd.1 (fun a ha => (n2.2 a (List.mem_append_left _ ha)).2) fun k a ha => fr k a (List.mem_append_left _ ha)
          have r3 := r2.setO (j := j) (by rw [List.length_set, r'.len]; exact hl.2) v2 nd.2.1 (fun a ha => (n2.2 a (List.mem_append_right _ ha)).2) fun k a ha m => by
            by_cases h : k = i
            · subst h
              rw [setF_same] at m
              exact nd.2.2 a m a ha rfl
            · rw [setF_ne h] at m
              exact fr k a (List.mem_append_right _ ha) m
          refine ⟨v, w, rfl, k _ H' _ r3 ⟨(s'.toStpS.setF fun a ha => (n2.2 a (List.mem_append_left _ ha)).1).setF fun a ha => (n2.2 a (List.mem_append_right _ ha)).1, fun m hm => ?_⟩⟩
          have n1 : j ≠ m := fun e => by subst e; rw [hm] at jj; cases jj
          have n3 : i ≠ m := fun e => by subst e; rw [hm] at ii; cases ii
          rw [List.getElem?_set_ne n1, List.getElem?_set_ne n3]
    · exact k.elim
  · exact k.elim
end
end FP
namespace FP
open PySem PySem.Spec PyProof.Rows L2
/-! ### what is walked -/
/-- the tuples and the lists at R are as they were -/
def Ext (R : List Addr) (H0 H : Hp) : Prop := ∀ a o, H0 a = some o → (¬ Mut (some o) ∨ a ∈ R) → H a = some o
structure DIt (K : PySem.W.Frag) (J : It) (ds : List PyData) (R RI : List Addr) (H0 : Hp) : Prop where
  go : ∀ H i, Ext R H0 H → i < ds.length → J.go i H
  yld : ∀ H i x H', Ext R H0 H → i < ds.length → J.yld i H x H' → Same H H' ∧ ∃ d Ri, ds[i]? = some d ∧ DV K H' x d Ri ∧ ∀ a ∈ Ri, a ∈ RI
  stop : ∀ H i, Ext R H0 H → ds.length ≤ i → J.stop i H
abbrev FIt := EV → Option (List PyData × EV)
def tI (K : PySem.W.Frag) (own : Nat → Bool) (c : Nat) (p : Bool) (f : FIt) : TI := fun σ H Q => ∃ ρ F ds ρ', RepE K own σ H ρ F ∧ f ρ = some (ds, ρ') ∧
  ∀ J H' F' R RI, RepE K own σ H' ρ' F' → Stp own H F H' F' → (p = true → ρ' = ρ ∧ F' = F ∧ Same H H') → DIt K J ds R RI H' → (1 ≤ c → ∀ a ∈ R, ¬ InF own F' a) → (∀ a ∈ RI, ¬ InF own F' a ∧ H' a ≠ none) → Q J H'
abbrev FI (X : Cx) (own : Nat → Bool) (tg : Expr) (c : Nat) (p : Bool) (iter : Expr) (f : FIt) : Prop := PI X tg iter (tI X.K own c p f)
theorem _root_.L2.PI.conv {X : Cx} {tg e : Expr} {t t' : TI} (h : PI X tg e t) (i : ∀ σ H Q, t' σ H Q → t σ H Q) : PI X tg e t' := ⟨fun pins s σ H Q I q => h.run pins s σ H Q I (i σ H Q q)⟩
theorem _root_.L2.PI.or {X : Cx} {tg e : Expr} {t t' : TI} (h : PI X tg e t) (h' : PI X tg e t') : PI X tg e (fun σ H Q => t σ H Q ∨ t' σ H Q) := ⟨fun pins s σ H Q I q => q.elim (h.run pins s σ H Q I) (h'.run pins s σ H Q I)⟩
section
variable {X : Cx} {own io : Nat → Bool} {tg : Expr} {pos : Pos}
theorem SqT.ext {K : PySem.W.Frag} {R : List Addr} {H0 H : Hp} {a : Addr} {xs : List V} (h : SqT K H0 a xs) (e : Ext R H0 H) : SqT K H a xs := SqT.keep h fun a o q n => e a o q (.inl n)
theorem DV.ext {K : PySem.W.Frag} {R R' : List Addr} {H0 H : Hp} {v : V} {d : PyData} (h : DV K H0 v d R') (e : Ext R H0 H) (m : ∀ a ∈ R', a ∈ R) : DV K H v d R' := h.mono (fun a o q n => e a o q (.inl n)) fun a ha o q => e a o q (.inr (m a ha))
theorem dit_list {K : PySem.W.Frag} {H0 : Hp} {a : Addr} {xs : List V} {ds : List PyData} {R : List Addr} (h : H0 a = some (.lst xs)) (hs : DVs K H0 xs ds R) : DIt K (Itl K a) ds (a :: R) R H0 where
  go := fun H i e hi => by
    have hx : i < xs.length := by rw [hs.length]; exact hi
    exact ⟨xs, xs[i], SqL.of (e _ _ h (.inr List.mem_cons_self)), by simp [hx]⟩
  yld := fun H i x H' e hi y => by
    obtain ⟨e1, y⟩ := y
    subst e1
    have q := y xs (SqL.of (e _ _ h (.inr List.mem_cons_self)))
    obtain ⟨d, R', h1, h2, h3⟩ := hs.get' q
    exact ⟨.refl _, d, R', h1, h2.ext e fun a ha => List.mem_cons_of_mem _ (h3 a ha), h3⟩
  stop := fun H i e hi => ⟨xs, SqL.of (e _ _ h (.inr List.mem_cons_self)), by rw [hs.length]; exact hi⟩
theorem dit_tup {K : PySem.W.Frag} {H0 : Hp} {a : Addr} {xs : List V} {ds : List PyData} {R : List Addr} (h : SqT K H0 a xs) (hs : DVs K H0 xs ds R) : DIt K (Itt K a) ds R R H0 where
  go := fun H i e hi => by
    have hx : i < xs.length := by rw [hs.length]; exact hi
    exact ⟨xs, xs[i], SqT.ext h e, by simp [hx]⟩
  yld := fun H i x H' e hi y => by
    obtain ⟨e1, y⟩ := y
    subst e1
    have q := y xs (SqT.ext h e)
    obtain ⟨d, R', h1, h2, h3⟩ := hs.get' q
    exact ⟨.refl _, d, R', h1, h2.ext e h3, h3⟩
  stop := fun H i e hi => ⟨xs, SqT.ext h e, by rw [hs.length]; exact hi⟩
def fSeq (f : FX) : FIt := fun ρ => match f ρ with
  | some (.list ds, ρ1) => some (ds, ρ1)
  | some (.tuple ds, ρ1) => some (ds, ρ1)
  | _ => none
theorem fi_seq {e : Expr} {c : Nat} {p : Bool} {f : FX} (h : FE X own c p e f) (hc1 : 1 ≤ c := by decide) : FI X own tg c p e (fSeq f) := ((pi_list h).or (pi_tup h)).conv fun σ H Q ⟨ρ, F, ds, ρ', r, e1, k⟩ => by
  unfold fSeq at e1
  split at e1
  · rename_i q
    cases e1
    refine .inl ⟨ρ, F, _, ρ', r, q, fun v H' F' R r' s' p' hv hc => ?_⟩
    cases hv with
    | lst h1 h2 => exact ⟨_, rfl, ⟨_, SqL.of h1⟩, k _ H' F' _ _ r' s' p' (dit_list h1 h2) hc.1 fun a ha => ⟨hc.1 hc1 a (List.mem_cons_of_mem _ ha), h2.tracked a ha⟩⟩
  · rename_i q
    cases e1
    refine .inr ⟨ρ, F, _, ρ', r, q, fun v H' F' R r' s' p' hv hc => ?_⟩
    cases hv with
    | tup h1 h2 => exact ⟨_, rfl, ⟨_, h1.sq⟩, k _ H' F' _ _ r' s' p' (dit_tup h1.sq h2) hc.1 fun a ha => ⟨hc.1 hc1 a ha, h2.tracked a ha⟩⟩
  · cases e1
/-- .. of items without lists -/
def fSeqI (f : FX) : FIt := fun ρ => match f ρ with
  | some (.list ds, ρ1) => if imms ds = true then some (ds, ρ1) else none
  | some (.tuple ds, ρ1) => if imms ds = true then some (ds, ρ1) else none
  | _ => none
theorem fi_seqI {e : Expr} {c : Nat} {p : Bool} {f : FX} (h : FE X own c p e f) : FI X own tg c p e (fSeqI f) := ((pi_list h).or (pi_tup h)).conv fun σ H Q ⟨ρ, F, ds, ρ', r, e1, k⟩ => by
  unfold fSeqI at e1
  split at e1
  · rename_i q
    split at e1
    · rename_i hi
      cases e1
      refine .inl ⟨ρ, F, _, ρ', r, q, fun v H' F' R r' s' p' hv hc => ?_⟩
      cases hv with
      | lst h1 h2 =>
        have e := h2.imm_nil hi
        subst e
        exact ⟨_, rfl, ⟨_, SqL.of h1⟩, k _ H' F' _ [] r' s' p' (dit_list h1 h2) hc.1 fun a ha => absurd ha List.not_mem_nil⟩
    · cases e1
  · rename_i q
    split at e1
    · rename_i hi
      cases e1
      refine .inr ⟨ρ, F, _, ρ', r, q, fun v H' F' R r' s' p' hv hc => ?_⟩
      cases hv with
      | tup h1 h2 =>
        have e := h2.imm_nil hi
        subst e
        exact ⟨_, rfl, ⟨_, h1.sq⟩, k _ H' F' _ [] r' s' p' (dit_tup h1.sq h2) hc.1 fun a ha => absurd ha List.not_mem_nil⟩
    · cases e1
  · cases e1
def intsF (lo : Int) (n : Nat) : List PyData := (List.range n).map fun (k : Nat) => .int (lo + k)
theorem dit_range {K : PySem.W.Frag} {H0 : Hp} {lo : Int} {n : Nat} : DIt K (Itr lo n) (intsF lo n) [] [] H0 where
  go := fun H i e hi => by
    show i < n
    simpa [intsF] using hi
  yld := fun H i x H' e hi y => by
    obtain ⟨e1, e2⟩ := y
    subst e1 e2
    have hi' : i < n := by simpa [intsF] using hi
    exact ⟨.refl _, .int (lo + i), [], by simp [intsF, hi'], .int _, fun a ha => ha⟩
  stop := fun H i e hi => by
    show n ≤ i
    simpa [intsF] using hi
def fRange1 (fs : FL) : FIt := fun ρ => match fs ρ with
  | some ([.int j], ρ1) => if (decide (-1000000 ≤ j) && decide (j ≤ 1000000)) = true then some (intsF 0 j.toNat, ρ1) else none
  | _ => none
def fRange2 (fs : FL) : FIt := fun ρ => match fs ρ with
  | some ([.int i, .int j], ρ1) => if (decide (-1000000 ≤ i) && decide (i ≤ 1000000) && decide (-1000000 ≤ j) && decide (j ≤ 1000000)) = true then some (intsF i (j - i).toNat, ρ1) else none
  | _ => none
theorem fi_range1 {a : Expr} {px : Pos} {c : Nat} {p : Bool} {fs : FL} (hg : Gl X "range") (hm : X.mg "range" = none) (ha : FA X own c p [a] fs) (hs : starEach [a] X.env = [(false, eval a X.env)] := by rfl) : FI X own tg 2 p (.Call (.Name "range" px) [a] [] pos) (fRange1 fs) :=
  (pi_range1 hg hm ha hs).conv fun σ H Q ⟨ρ, F, ds, ρ', r, e1, k⟩ => by
    unfold fRange1 at e1
    split at e1
    · rename_i j ρ1 q
      split at e1
      · rename_i hl
        simp only [Bool.and_eq_true, decide_eq_true_eq] at hl
        cases e1
        refine ⟨ρ, F, _, ρ', r, q, fun vs H' F' R r' s' p' hv hc => ?_⟩
        cases hv with
        | cons h t =>
          cases t
          cases h
          exact ⟨j, rfl, by omega, by omega, k _ H' F' [] [] r' s' p' dit_range (fun _ a ha => absurd ha List.not_mem_nil) fun a ha => absurd ha List.not_mem_nil⟩
      · cases e1
    · cases e1
theorem fi_range2 {a b : Expr} {px : Pos} {c : Nat} {p : Bool} {fs : FL} (hg : Gl X "range") (hm : X.mg "range" = none) (ha : FA X own c p [a, b] fs) (hs : starEach [a, b] X.env = [(false, eval a X.env), (false, eval b X.env)] := by rfl) (hs2 : starEach [b] X.env = [(false, eval b X.env)] := by rfl) : FI X own tg 2 p (.Call (.Name "range" px) [a, b] [] pos) (fRange2 fs) :=
  (pi_range2 hg hm ha hs hs2).conv fun σ H Q ⟨ρ, F, ds, ρ', r, e1, k⟩ => by
    unfold fRange2 at e1
    split at e1
    · rename_i i j ρ1 q
      split at e1
      · rename_i hl
        simp only [Bool.and_eq_true, decide_eq_true_eq] at hl
        cases e1
        refine ⟨ρ, F, _, ρ', r, q, fun vs H' F' R r' s' p' hv hc => ?_⟩
        cases hv with
        | cons h t =>
          cases t with
          | cons h' t =>
            cases t
            cases h
            cases h'
            exact ⟨i, j, rfl, ⟨by omega, by omega, by omega, by omega⟩, k _ H' F' [] [] r' s' p' dit_range (fun _ a ha => absurd ha List.not_mem_nil) fun a ha => absurd ha List.not_mem_nil⟩
      · cases e1
    · cases e1
/-! ### for -/
def loopF (h : FTg) (g : FSt) : List PyData → FSt
  | [], ρ => .nx ρ
  | d :: ds, ρ => match h d ρ with
    | none => .no
    | some ρ1 => match g ρ1 with
      | .nx ρ2 => loopF h g ds ρ2
      | .ct ρ2 => loopF h g ds ρ2
      | .bk ρ2 => .nx ρ2
      | .rt d ρ2 => .rt d ρ2
      | .no => .no
def gFor (f : FIt) (h : FTg) (g : FSt) : FSt := fun ρ => match f ρ with
  | some (ds, ρ1) => loopF h g ds ρ1
  | none => .no
theorem drop_at {α : Type} {l : List α} {i : Nat} (h : i < l.length) : l.drop i = l[i] :: l.drop (i + 1) := by simp
theorem Ext.of {R : List Addr} {K : PySem.W.Frag} {σ : L2.St} {ρ : EV} {H H' : Hp} {F F' : Fo} (r : RepE K own σ H ρ F) (s : StpS own H F H' F') (ap : ∀ a ∈ R, ¬ InF own F a) : Ext R H H' := fun a o e q => by
  rcases q with q | q
  · exact s.tups r a o e q
  · exact s.keep a o e (ap a q)
theorem fs_for {iter : Expr} {body : List Stmt} {c : Nat} {p : Bool} {f : FIt} {h : FTg} {g : FSt} {ts : List Nat} (hp : PassesOwn (model X.prog X.w) X.A X.env X.xe) (hc : X.calm = true) (hi : FI X own tg c p iter f) (hg : FG X own io ts tg h) (hb : FSs X own io body g) (hc1 : 1 ≤ c := by decide)
    (hs : ∀ x, foldedSetIterable iter X.env x = pure x := by intro _; rfl) : FS X own io (.For tg iter body [] pos) (gFor f h g) := (ps_for hp hc hi hg hb hs).conv fun D σ H ⟨ρ, F, r, k⟩ => by
  unfold gFor at k
  cases q : f ρ with
  | none => rw [q] at k; exact k.elim
  | some y =>
    obtain ⟨ds, ρ1⟩ := y
    rw [q] at k
    refine ⟨ρ, F, ds, ρ1, r, q, fun J H1 F1 R RI r1 s1 p1 dit ap tr => ?_⟩
    have ap := ap hc1
    have k1 := Post.later (StpT.ofE (io := io) (σ := σ) s1) k
    refine ⟨fun i m σ' H' => m = ds.length - i ∧ i ≤ ds.length ∧ ∃ ρ' F', RepE X.K own σ' H' ρ' F' ∧ StpS own H1 F1 H' F' ∧ Post X.K own io D σ' H' F' (loopF h g (ds.drop i) ρ'), ⟨ds.length, by simp, Nat.zero_le _, ρ1, F1, r1, .refl, by simpa using k1⟩, ?_⟩
    rintro i m σ' H' ⟨rfl, hi, ρ', F', r', s', k'⟩
    have ex : Ext R H1 H' := Ext.of r1 s' ap
    by_cases hlt : i < ds.length
    · refine .inr ⟨dit.go H' i ex hlt, fun σ3 H3 => i + 1 ≤ ds.length ∧ ∃ ρ3 F3, RepE X.K own σ3 H3 ρ3 F3 ∧ StpS own H1 F1 H3 F3 ∧ Post X.K own io D σ3 H3 F3 (loopF h g (ds.drop (i + 1)) ρ3), fun σ3 H3 ⟨h1, h2⟩ => ⟨ds.length - (i + 1), by omega, rfl, h1, h2⟩, fun x H2 y => ?_⟩
      obtain ⟨sm, d, Ri, e1, hv, hr⟩ := dit.yld H' i x H2 ex hlt y
      rw [drop_at hlt] at k'
      have ed : ds[i] = d := by
        rw [List.getElem?_eq_getElem hlt] at e1
        exact Option.some.inj e1
      rw [ed] at k'
      unfold loopF at k'
      cases q2 : h d ρ' with
      | none => rw [q2] at k'; exact k'.elim
      | some ρ2 =>
        rw [q2] at k'
        simp only at k'
        refine ⟨ρ', F', d, Ri, ρ2, r'.same sm, hv, fun a ha => s'.apart (tr a (hr a ha)).2 (tr a (hr a ha)).1, q2, fun σ2 F2 r2 s2 f2 g2 l2 e2 => ⟨ρ2, F2, r2, ?_⟩⟩
        have s02 : StpT own io σ' H' F' σ2 H2 F2 := (StpT.ofE (σ := σ') (Stp.same sm)).trans s2
        have s12 : StpS own H1 F1 H2 F2 := s'.trans s02.toStpS
        cases q3 : g ρ2 with
        | nx ρ3 =>
          rw [q3] at k'
          exact fun σ3 H3 F3 r3 s3 => ⟨hlt, ρ3, F3, r3, s12.trans s3.toStpS, Post.later (s02.trans s3) k'⟩
        | ct ρ3 =>
          rw [q3] at k'
          exact fun σ3 H3 F3 r3 s3 => ⟨hlt, ρ3, F3, r3, s12.trans s3.toStpS, Post.later (s02.trans s3) k'⟩
        | bk ρ3 =>
          rw [q3] at k'
          exact fun σ3 H3 F3 r3 s3 => k' σ3 H3 F3 r3 (s02.trans s3)
        | rt d' ρ3 =>
          rw [q3] at k'
          exact fun v σ3 H3 F3 R3 r3 s3 hv' hr' => k' v σ3 H3 F3 R3 r3 (s02.trans s3) hv' (hr'.later s02.toStpS)
        | no => rw [q3] at k'; exact k'.elim
    · have e : i = ds.length := by omega
      subst e
      rw [List.drop_length] at k'
      exact .inl ⟨dit.stop H' _ ex (Nat.le_refl _), k' σ' H' F' r' .refl⟩
/-! ### while: n turns at most -/
def loopW (t : FB) (g : FSt) : Nat → FSt
  | 0, _ => .no
  | n + 1, ρ => match t ρ with
    | some (true, ρ1) => match g ρ1 with
      | .nx ρ2 => loopW t g n ρ2
      | .ct ρ2 => loopW t g n ρ2
      | .bk ρ2 => .nx ρ2
      | .rt d ρ2 => .rt d ρ2
      | .no => .no
    | some (false, ρ1) => .nx ρ1
    | none => .no
theorem fs_while {t : Expr} {body : List Stmt} {p : Bool} {ft : FB} {g : FSt} (n : Nat) (hp : PassesOwn (model X.prog X.w) X.A X.env X.xe) (ht : FT X own p t ft) (hb : FSs X own io body g) : FS X own io (.While t body [] pos) (loopW ft g n) := (ps_while hp ht hb).conv fun D σ H ⟨ρ, F, r, k⟩ => by
  refine ⟨fun m σ' H' => ∃ ρ' F', RepE X.K own σ' H' ρ' F' ∧ Post X.K own io D σ' H' F' (loopW ft g m ρ'), ⟨n, ρ, F, r, k⟩, ?_⟩
  rintro m σ' H' ⟨ρ', F', r', k'⟩
  cases m with
  | zero => exact k'.elim
  | succ m =>
    unfold loopW at k'
    cases q : ft ρ' with
    | none => rw [q] at k'; exact k'.elim
    | some y =>
      obtain ⟨b, ρ1⟩ := y
      rw [q] at k'
      refine ⟨ρ', F', b, ρ1, r', q, fun H1 F1 r1 s1 p1 => ?_⟩
      have s01 : StpT own io σ' H' F' σ' H1 F1 := .ofE s1
      cases b with
      | false => exact iteF (k' σ' H1 F1 r1 s01)
      | true =>
        refine iteT ⟨fun σ3 H3 => ∃ ρ3 F3, RepE X.K own σ3 H3 ρ3 F3 ∧ Post X.K own io D σ3 H3 F3 (loopW ft g m ρ3), fun σ3 H3 h => ⟨m, Nat.lt_succ_self m, h⟩, ρ1, F1, r1, ?_⟩
        simp only at k'
        cases q3 : g ρ1 with
        | nx ρ3 =>
          rw [q3] at k'
          exact fun σ3 H3 F3 r3 s3 => ⟨ρ3, F3, r3, Post.later (s01.trans s3) k'⟩
        | ct ρ3 =>
          rw [q3] at k'
          exact fun σ3 H3 F3 r3 s3 => ⟨ρ3, F3, r3, Post.later (s01.trans s3) k'⟩
        | bk ρ3 =>
          rw [q3] at k'
          exact fun σ3 H3 F3 r3 s3 => k' σ3 H3 F3 r3 (s01.trans s3)
        | rt d' ρ3 =>
          rw [q3] at k'
          exact fun v σ3 H3 F3 R3 r3 s3 hv' hr' => k' v σ3 H3 F3 R3 r3 (s01.trans s3) hv' (hr'.later s01.toStpS)
        | no => rw [q3] at k'; exact k'.elim
end
end FP
namespace FP
open PySem PySem.Spec PyProof.Rows L2
/-! ### list comprehensions -/
def wipeE (ρ : EV) : List Nat → EV
  | [] => ρ
  | v :: vs => (wipeE ρ vs).set v none
/-- the block's own names as they were ahead of it -/
def back (ρ ρ' : EV) : List Nat → EV
  | [] => ρ'
  | v :: vs => (back ρ ρ' vs).set v (ρ.getD v none)
def wipeF (F : Fo) (vs : List Nat) : Fo := fun i => if i ∈ vs then [] else F i
def backF (F F' : Fo) (vs : List Nat) : Fo := fun i => if i ∈ vs then F i else F' i
theorem wipeE_len (ρ : EV) : ∀ vs, (wipeE ρ vs).length = ρ.length
  | [] => rfl
  | v :: vs => by unfold wipeE; rw [List.length_set, wipeE_len ρ vs]
theorem wipeE_get {ρ : EV} {i : Nat} {d : PyData} : ∀ {vs : List Nat}, (wipeE ρ vs)[i]? = some (some d) → ρ[i]? = some (some d) ∧ i ∉ vs
  | [], h => ⟨h, by simp⟩
  | v :: vs, h => by
    unfold wipeE at h
    by_cases hi : v = i
    · subst hi
      by_cases hv : v < (wipeE ρ vs).length
      · rw [List.getElem?_set_self hv] at h; cases h
      · rw [List.getElem?_eq_none (by simpa using hv)] at h; cases h
    · rw [List.getElem?_set_ne hi] at h
      obtain ⟨h1, h2⟩ := wipeE_get h
      exact ⟨h1, by simp only [List.mem_cons, not_or]; exact ⟨fun e => hi e.symm, h2⟩⟩
theorem wipeE_out {ρ : EV} {i : Nat} : ∀ {vs : List Nat}, i ∉ vs → (wipeE ρ vs)[i]? = ρ[i]?
  | [], _ => rfl
  | v :: vs, h => by
    unfold wipeE
    rw [List.getElem?_set_ne fun e => h (by simp [e])]
    exact wipeE_out fun z => h (List.mem_cons_of_mem _ z)
theorem back_len (ρ ρ' : EV) : ∀ vs, (back ρ ρ' vs).length = ρ'.length
  | [] => rfl
  | v :: vs => by unfold back; rw [List.length_set, back_len ρ ρ' vs]
theorem back_in {ρ ρ' : EV} {i : Nat} (hl : ρ'.length = ρ.length) : ∀ {vs : List Nat}, i ∈ vs → i < ρ.length → (back ρ ρ' vs)[i]? = ρ[i]?
  | [], h, _ => nomatch h
  | v :: vs, h, hi => by
    unfold back
    by_cases e : v = i
    · subst e
      rw [List.getElem?_set_self (by rw [back_len, hl]; exact hi)]
      simp [List.getD, hi]
    · rw [List.getElem?_set_ne e]
      exact back_in hl (by
        rcases List.mem_cons.mp h with z | z
        · exact absurd z.symm e
        · exact z) hi
theorem back_out {ρ ρ' : EV} {i : Nat} : ∀ {vs : List Nat}, i ∉ vs → (back ρ ρ' vs)[i]? = ρ'[i]?
  | [], _ => rfl
  | v :: vs, h => by
    unfold back
    rw [List.getElem?_set_ne fun e => h (by simp [e])]
    exact back_out fun z => h (List.mem_cons_of_mem _ z)
theorem wipe_eq {σ σ' : L2.St} (hl : σ'.length = σ.length) : ∀ {vs : List Nat}, (∀ i, i ∉ vs → σ'[i]? = σ[i]?) → wipe σ' vs = wipe σ vs := fun {vs} h => by
  apply List.ext_getElem?
  intro i
  have w1 : ∀ (τ : L2.St) (ws : List Nat), i ∉ ws → (wipe τ ws)[i]? = τ[i]? := fun τ ws => by
    induction ws with
    | nil => intro _; rfl
    | cons w ws ih =>
      intro hn
      unfold wipe
      rw [List.getElem?_set_ne fun e => hn (by simp [e])]
      exact ih fun z => hn (List.mem_cons_of_mem _ z)
  have w2 : ∀ (τ : L2.St) (ws : List Nat), i ∈ ws → (wipe τ ws)[i]? = if i < τ.length then some none else none := fun τ ws => by
    induction ws with
    | nil => intro h; cases h
    | cons w ws ih =>
      intro hm
      unfold wipe
      by_cases e : w = i
      · subst e
        by_cases hw : w < τ.length
        · rw [List.getElem?_set_self (by rw [wipe_length]; exact hw), if_pos hw]
        · rw [List.getElem?_eq_none (by rw [List.length_set, wipe_length]; omega), if_neg hw]
      · rw [List.getElem?_set_ne e]
        rcases List.mem_cons.mp hm with z | z
        · exact absurd z.symm e
        · exact ih z
  by_cases hi : i ∈ vs
  · rw [w2 _ _ hi, w2 _ _ hi, hl]
  · rw [w1 _ _ hi, w1 _ _ hi, h i hi]
theorem wipe_get {σ : L2.St} {i : Nat} : ∀ {vs : List Nat}, i ∉ vs → (wipe σ vs)[i]? = σ[i]?
  | [], _ => rfl
  | v :: vs, h => by
    unfold wipe
    rw [List.getElem?_set_ne fun e => h (by simp [e])]
    exact wipe_get fun z => h (List.mem_cons_of_mem _ z)
section
variable {K : PySem.W.Frag} {own io : Nat → Bool} {σ σ' : L2.St} {H H1 H' : Hp} {ρ ρ' : EV} {F F1 F' : Fo} {vs : List Nat}
theorem InF.wipe {a : Addr} (hv : ∀ i ∈ vs, own i = false) : InF own (wipeF F vs) a ↔ InF own F a := by
  constructor
  · rintro ⟨i, oi, m⟩
    unfold wipeF at m
    split at m
    · cases m
    · exact ⟨i, oi, m⟩
  · rintro ⟨i, oi, m⟩
    refine ⟨i, oi, ?_⟩
    unfold wipeF
    rw [if_neg fun z => by rw [hv i z] at oi; cases oi]
    exact m
theorem RepE.wipe (r : RepE K own σ H ρ F) : RepE K own (wipe σ vs) H (wipeE ρ vs) (wipeF F vs) where
  len := by rw [wipe_length, wipeE_len]; exact r.len
  val := fun i d e => by
    obtain ⟨h1, h2⟩ := wipeE_get e
    obtain ⟨v, q1, q2⟩ := r.val i d h1
    exact ⟨v, by rw [wipe_get h2]; exact q1, by unfold wipeF; rw [if_neg h2]; exact q2⟩
  emp := fun i n => by
    unfold wipeF
    split
    · rfl
    · rename_i h
      exact r.emp i fun d e => n d (by rw [wipeE_out h]; exact e)
  nod := fun i oi => by
    unfold wipeF
    split
    · exact List.nodup_nil
    · exact r.nod i oi
  mu := fun i oi a m => by
    unfold wipeF at m
    split at m
    · cases m
    · exact r.mu i oi a m
  dis := fun i j ne oj a m m2 => by
    unfold wipeF at m m2
    split at m
    · cases m
    · split at m2
      · cases m2
      · exact r.dis i j ne oj a m m2
/-- back in the def: what the block changed are the owned things -/
theorem RepE.back (r : RepE K own σ H ρ F) (r' : RepE K own (L2.wipe σ vs) H' ρ' F') (s : StpS own H (wipeF F vs) H' F') (hv : ∀ i ∈ vs, own i = false) (hF : ∀ i, own i = false → i ∉ vs → F' i = F i) (hv2 : ∀ i ∈ vs, F' i = []) :
    RepE K own σ H' (FP.back ρ ρ' vs) (backF F F' vs) := by
  have hl : ρ'.length = ρ.length := by rw [← r'.len, wipe_length, r.len]
  have ap : ∀ i ∈ vs, ∀ a ∈ F i, ¬ InF own (wipeF F vs) a := fun i hi a m z => r.pureApart (hv i hi) a m ((InF.wipe hv).mp z)
  refine ⟨by rw [back_len, hl]; exact r.len, fun i d e => ?_, fun i n => ?_, fun i oi => ?_, fun i oi a m => ?_, fun i j ne oj a m m2 => ?_⟩
  · by_cases hi : i ∈ vs
    · have hil : i < ρ.length := by
        have := (List.getElem?_eq_some_iff.mp e).1
        rw [back_len, hl] at this; exact this
      rw [back_in hl hi hil] at e
      obtain ⟨v, q1, q2⟩ := r.val i d e
      refine ⟨v, q1, ?_⟩
      unfold backF
      rw [if_pos hi]
      exact q2.mono (s.tups (RepE.wipe (vs := vs) r)) fun a ha o q => s.keep a o q (ap i hi a ha)
    · rw [back_out hi] at e
      obtain ⟨v, q1, q2⟩ := r'.val i d e
      rw [wipe_get hi] at q1
      exact ⟨v, q1, by unfold backF; rw [if_neg hi]; exact q2⟩
  · unfold backF
    by_cases hi : i ∈ vs
    · rw [if_pos hi]
      refine r.emp i fun d e => n d ?_
      rw [back_in hl hi (List.getElem?_eq_some_iff.mp e).1]; exact e
    · rw [if_neg hi]
      exact r'.emp i fun d e => n d (by rw [back_out hi]; exact e)
  · unfold backF
    rw [if_neg fun z => by rw [hv i z] at oi; cases oi]
    exact r'.nod i oi
  · unfold backF at m
    rw [if_neg fun z => by rw [hv i z] at oi; cases oi] at m
    exact r'.mu i oi a m
  · unfold backF at m m2
    rw [if_neg fun z => by rw [hv j z] at oj; cases oj] at m2
    by_cases hi : i ∈ vs
    · rw [if_pos hi] at m
      rcases s.grow j oj a m2 with z | z
      · exact ap i hi a m ⟨j, oj, z⟩
      · exact r.tr m z
    · rw [if_neg hi] at m
      exact r'.dis i j ne oj a m m2
end
/-- tests of a comprehension -/
abbrev FTs (X : Cx) (own : Nat → Bool) (p : Bool) (es : List Expr) (f : FB) : Prop := PTs X es (tT X.K own p f)
def fYes : FB := fun ρ => some (true, ρ)
theorem _root_.L2.PTs.conv {X : Cx} {e : List Expr} {t t' : TT} (h : PTs X e t) (i : ∀ σ H Q, t' σ H Q → t σ H Q) : PTs X e t' := ⟨fun pins s σ H Q I q => h.run pins s σ H Q I (i σ H Q q)⟩
section
variable {X : Cx} {own io : Nat → Bool} {tg : Expr} {pos : Pos}
theorem fts_nil : FTs X own true [] fYes := pts_nil.conv fun σ H Q ⟨ρ, F, b, ρ', r, e1, k⟩ => by
  cases e1
  exact k H F r .refl fun _ => ⟨rfl, rfl, .refl H⟩
theorem fts_one {e : Expr} {p : Bool} {f : FB} (h : FT X own p e f) : FTs X own p [e] f := pts_one h
/-- the block, item by item; each turn begins with the block's own names forgotten -/
def loopC (vs : List Nat) (h : FTg) (t : FB) (f : FX) : List PyData → EV → Option (List PyData × EV)
  | [], ρ => some ([], ρ)
  | d :: ds, ρ => match h d (wipeE ρ vs) with
    | none => none
    | some ρ1 => match t ρ1 with
      | none => none
      | some (false, ρ2) => loopC vs h t f ds ρ2
      | some (true, ρ2) => match f ρ2 with
        | none => none
        | some (y, ρ3) => match loopC vs h t f ds ρ3 with
          | some (ys, ρ4) => some (y :: ys, ρ4)
          | none => none
def fLc (vs : List Nat) (it : FIt) (h : FTg) (t : FB) (f : FX) : FX := fun ρ => match it ρ with
  | some (ds, ρ1) => if ds.length ≤ 1000000 then match loopC vs h t f ds ρ1 with
      | some (ys, ρ2) => some (.list ys, back ρ1 ρ2 vs)
      | none => none
    else none
  | none => none
/-- a thing that is in no slot is written -/
theorem RepE.other {K : PySem.W.Frag} {σ : L2.St} {H : Hp} {ρ : EV} {F : Fo} {D : Addr} {o u : HO} (r : RepE K own σ H ρ F) (hD : H D = some o) (m : Mut (some o)) (n : ∀ i, D ∉ F i) : RepE K own σ (upd H D u) ρ F where
  len := r.len
  val := fun i d e => by
    obtain ⟨v, q1, q2⟩ := r.val i d e
    refine ⟨v, q1, q2.mono (fun a w e nm => ?_) fun a ha w e => ?_⟩
    · rw [upd_ne fun z => by subst z; rw [hD] at e; cases e; exact nm m]; exact e
    · rw [upd_ne fun z => by subst z; exact n i ha]; exact e
  emp := r.emp
  nod := r.nod
  mu := fun i oi a ha => by rw [upd_ne fun z => by subst z; exact n i ha]; exact r.mu i oi a ha
  dis := r.dis
theorem wipeF_in {F : Fo} {vs : List Nat} {i : Nat} (h : i ∈ vs) : wipeF F vs i = [] := by unfold wipeF; rw [if_pos h]
theorem wipeF_out {F : Fo} {vs : List Nat} {i : Nat} (h : i ∉ vs) : wipeF F vs i = F i := by unfold wipeF; rw [if_neg h]
theorem wipeE_idem (ρ : EV) (vs : List Nat) : wipeE (wipeE ρ vs) vs = wipeE ρ vs := by
  apply List.ext_getElem?
  intro i
  by_cases hi : i ∈ vs
  · have w2 : ∀ (τ : EV) (ws : List Nat), i ∈ ws → (wipeE τ ws)[i]? = if i < τ.length then some none else none := fun τ ws => by
      induction ws with
      | nil => intro h; cases h
      | cons w ws ih =>
        intro hm
        unfold wipeE
        by_cases e : w = i
        · subst e
          by_cases hw : w < τ.length
          · rw [List.getElem?_set_self (by rw [wipeE_len]; exact hw), if_pos hw]
          · rw [List.getElem?_eq_none (by rw [List.length_set, wipeE_len]; omega), if_neg hw]
        · rw [List.getElem?_set_ne e]
          rcases List.mem_cons.mp hm with z | z
          · exact absurd z.symm e
          · exact ih z
    rw [w2 _ _ hi, w2 _ _ hi, wipeE_len]
  · rw [wipeE_out hi]
theorem back_self {ρ ρ' : EV} {vs : List Nat} (hl : ρ'.length = ρ.length) (h : ∀ i, i ∉ vs → ρ'[i]? = ρ[i]?) : back ρ ρ' vs = ρ := by
  apply List.ext_getElem?
  intro i
  by_cases hi : i ∈ vs
  · by_cases hil : i < ρ.length
    · exact back_in hl hi hil
    · rw [List.getElem?_eq_none (by rw [back_len, hl]; omega), List.getElem?_eq_none (by omega)]
  · rw [back_out hi]; exact h i hi
abbrev noIo : Nat → Bool := fun _ => false
structure LcW (K : PySem.W.Frag) (own : Nat → Bool) (σ : L2.St) (vs : List Nat) (D : Addr) (H1 : Hp) (ρ1 : EV) (F1 : Fo) (pure : Bool) (h : FTg) (t : FB) (f : FX) (ds : List PyData) (Y : List PyData) (ρe : EV) (i : Nat) (H' : Hp) : Prop where
  le : i ≤ ds.length
  ex : ∃ (ρ' : EV) (F' : Fo) (acc : List V) (rs : List PyData) (Ra : List Addr) (ys : List PyData), RepE K own (wipe σ vs) H' (wipeE ρ' vs) F' ∧ StpS own H1 (wipeF F1 vs) H' F' ∧ (∀ k, own k = false → k ∉ vs → F' k = F1 k) ∧ (∀ k ∈ vs, F' k = []) ∧
    H' D = some (.lst acc) ∧ DVs K H' acc rs Ra ∧ Ra.Nodup ∧ (∀ a ∈ Ra, H1 a = none ∧ Mut (H' a) ∧ ¬ InF own F' a ∧ a ≠ D) ∧ (∀ k, D ∉ F' k) ∧ acc.length ≤ i ∧ loopC vs h t f (ds.drop i) ρ' = some (ys, ρe) ∧ Y = rs ++ ys ∧
    (pure = true → wipeE ρ' vs = wipeE ρ1 vs ∧ F' = wipeF F1 vs ∧ Same H1 H') ∧ ρ'.length = ρ1.length
theorem lc_conv {K : PySem.W.Frag} {vs : List Nat} {c : Nat} {p pt pe : Bool} {it : FIt} {h : FTg} {t : FB} {f : FX} {ts : List Nat} (hv : ∀ i ∈ vs, own i = false) (hts : ∀ i ∈ ts, i ∈ vs) (hcl : 1 ≤ c ∨ (pt && pe) = true) :
    ∀ σ H Q, tD K own 2 (p && (pt && pe)) (fLc vs it h t f) σ H Q → tLc (tI K own c p it) (tG K own noIo ts h) (tT K own pt t) (tD K own 2 pe f) vs σ H Q := fun σ H Q ⟨ρ, F, d, ρ', r, e1, k⟩ => by
  unfold fLc at e1
  split at e1
  · rename_i ds ρ1 q
    split at e1
    · rename_i hlen
      split at e1
      · rename_i Y ρe q2
        cases e1
        refine ⟨ρ, F, ds, ρ1, r, q, fun J H1 F1 R RI r1 s1 p1 dit ap tr D hD => ?_⟩
        have sm0 : Same H1 (upd H1 D (.lst [])) := same_upd hD
        have hn1 : ∀ k, D ∉ F1 k := fun k m => r1.tr m hD
        have w1 : RepE K own (wipe σ vs) H1 (wipeE ρ1 vs) (wipeF F1 vs) := r1.wipe
        refine ⟨fun i m H' => m = ds.length - i ∧ LcW K own σ vs D H1 ρ1 F1 (pt && pe) h t f ds Y ρe i H', ⟨ds.length, by simp, Nat.zero_le _, ρ1, wipeF F1 vs, [], [], [], Y, w1.same sm0, (Stp.same sm0).toStpS, fun k ok nk => wipeF_out nk, fun k hk => wipeF_in hk, upd_same, .nil, List.nodup_nil, fun a ha => absurd ha List.not_mem_nil, fun k m => ?_, Nat.le_refl _, by simpa using q2, rfl, fun _ => ⟨rfl, rfl, sm0⟩, rfl⟩, ?_⟩
        · unfold wipeF at m
          split at m
          · cases m
          · exact hn1 k m
        rintro i m H' ⟨rfl, hle, ρ', F', acc, rs, Ra, ys, r', s', pu', em', hDc, hacc, nda, hRa, hnD, hal, hlp, hY, hpure, hlen'⟩
        have ex : Ext R H1 H' := by
          rcases hcl with z | z
          · exact Ext.of w1 s' fun a ha y => ap z a ha ((InF.wipe hv).mp y)
          · exact fun a o e _ => (hpure z).2.2 a o e
        by_cases hlt : i < ds.length
        · refine .inr ⟨dit.go H' i ex hlt, fun H3 => LcW K own σ vs D H1 ρ1 F1 (pt && pe) h t f ds Y ρe (i + 1) H3, fun H3 w => ⟨ds.length - (i + 1), by omega, rfl, w⟩, fun x H2 y => ?_⟩
          obtain ⟨sm, d, Ri, ed, hvx, hr⟩ := dit.yld H' i x H2 ex hlt y
          rw [drop_at hlt] at hlp
          have ed' : ds[i] = d := by
            rw [List.getElem?_eq_getElem hlt] at ed
            exact Option.some.inj ed
          rw [ed'] at hlp
          unfold loopC at hlp
          cases qh : h d (wipeE ρ' vs) with
          | none => rw [qh] at hlp; cases hlp
          | some ρ2 =>
            rw [qh] at hlp
            simp only at hlp
            have apx : ∀ a ∈ Ri, ¬ InF own F' a := fun a ha => s'.apart (tr a (hr a ha)).2 fun z => (tr a (hr a ha)).1 ((InF.wipe hv).mp z)
            refine ⟨wipeE ρ' vs, F', d, Ri, ρ2, r'.same sm, hvx, apx, qh, fun σ2 F2 r2 st2 f2 g2 l2 e2 => ?_⟩
            have hw : wipe σ2 vs = wipe σ vs := wipe_eq (by rw [l2, wipe_length]) fun j hj => by rw [g2 j fun z => hj (hts j z), wipe_get hj]
            refine ⟨hw, ?_⟩
            have len2 : σ2.length = ρ1.length := by rw [l2, wipe_length, r1.len]
            have s12 : StpS own H' F' H2 F2 := (Stp.same sm).toStpS.trans st2.toStpS
            have pu2 : ∀ k, own k = false → k ∉ vs → F2 k = F1 k := fun k ok nk => by
              rw [← pu' k ok nk]
              exact f2 k (.inr fun z => nk (hts k z))
            have DnH2 : H2 D ≠ none := by rw [sm D _ hDc]; simp
            have nDI : ¬ InF own F' D := fun ⟨k, _, m⟩ => hnD k m
            have next : ∀ {H4 : Hp} {F4 : Fo} {ρ4 : EV}, RepE K own σ2 H4 ρ4 F4 → Stp own H2 F2 H4 F4 → RepE K own (wipe σ vs) H4 (wipeE ρ4 vs) (wipeF F4 vs) ∧ StpS own H1 (wipeF F1 vs) H4 (wipeF F4 vs) ∧ (∀ k, own k = false → k ∉ vs → wipeF F4 vs k = F1 k) ∧
                H4 D = some (.lst acc) ∧ DVs K H4 acc rs Ra ∧ (∀ a ∈ Ra, H1 a = none ∧ Mut (H4 a) ∧ ¬ InF own (wipeF F4 vs) a ∧ a ≠ D) ∧ (∀ k, D ∉ wipeF F4 vs k) ∧ ρ4.length = ρ1.length := fun {H4 F4 ρ4} r4 st => by
              have sA : StpS own H' F' H4 F4 := s12.trans st.toStpS
              have sB := s'.trans sA
              refine ⟨by rw [← hw]; exact r4.wipe, ⟨sB.keep, sB.dom, fun j oj a m => ?_⟩, fun k ok nk => ?_, sA.keep D _ hDc nDI, hacc.step r' sA fun a ha => (hRa a ha).2.2.1, fun a ha => ?_, fun k m => ?_, by rw [← r4.len]; exact len2⟩
              · rw [wipeF_out fun z => by rw [hv j z] at oj; cases oj] at m
                exact sB.grow j oj a m
              · rw [wipeF_out nk, st.pu k ok]; exact pu2 k ok nk
              · obtain ⟨h1, h2, h3, h4⟩ := hRa a ha
                obtain ⟨u, eu⟩ := mut_some h2
                refine ⟨h1, by rw [sA.keep a u eu h3, ← eu]; exact h2, fun z => sA.apart (by rw [eu]; simp) h3 ((InF.wipe hv).mp z), h4⟩
              · by_cases hk : k ∈ vs
                · rw [wipeF_in hk] at m; cases m
                · rw [wipeF_out hk] at m
                  cases ok : own k with
                  | true =>
                    rcases st.grow k ok D m with z | z
                    · rw [f2 k (.inl ok)] at z; exact hnD k z
                    · exact DnH2 z
                  | false =>
                    rw [st.pu k ok, pu2 k ok hk] at m
                    exact hn1 k m
            have purity : ∀ {H4 : Hp} {F4 : Fo} {ρ4 : EV}, ((pt && pe) = true → ρ4 = ρ2 ∧ F4 = F2 ∧ Same H2 H4) → (pt && pe) = true → wipeE ρ4 vs = wipeE ρ1 vs ∧ wipeF F4 vs = wipeF F1 vs ∧ Same H1 H4 := fun {H4 F4 ρ4} pp z => by
              obtain ⟨a1, a2, a3⟩ := pp z
              obtain ⟨b1, b2, b3⟩ := hpure z
              subst a1 a2
              refine ⟨?_, ?_, (b3.trans sm).trans a3⟩
              · rw [← b1]
                have hl2 : ρ4.length = ρ'.length := by rw [← r2.len, len2, hlen']
                apply List.ext_getElem?
                intro j
                by_cases hj : j ∈ vs
                · have w2 : ∀ (τ : EV) (ws : List Nat), j ∈ ws → (wipeE τ ws)[j]? = if j < τ.length then some none else none := fun τ ws => by
                    induction ws with
                    | nil => intro h; cases h
                    | cons w ws ih =>
                      intro hm
                      unfold wipeE
                      by_cases e : w = j
                      · subst e
                        by_cases hw : w < τ.length
                        · rw [List.getElem?_set_self (by rw [wipeE_len]; exact hw), if_pos hw]
                        · rw [List.getElem?_eq_none (by rw [List.length_set, wipeE_len]; omega), if_neg hw]
                      · rw [List.getElem?_set_ne e]
                        rcases List.mem_cons.mp hm with z | z
                        · exact absurd z.symm e
                        · exact ih z
                  rw [w2 _ _ hj, w2 _ _ hj, hl2]
                · rw [wipeE_out hj, e2 j fun z => hj (hts j z)]
              · funext j
                by_cases hj : j ∈ vs
                · rw [wipeF_in hj, wipeF_in hj]
                · rw [wipeF_out hj, f2 j (.inr fun z => hj (hts j z)), b2]
            cases qt : t ρ2 with
            | none => rw [qt] at hlp; cases hlp
            | some w =>
              obtain ⟨b, ρ3⟩ := w
              rw [qt] at hlp
              refine ⟨ρ2, F2, b, ρ3, r2, qt, fun H3 F3 r3 st3 p3 => ?_⟩
              cases b with
              | false =>
                refine iteF ?_
                obtain ⟨n1, n2, n3, n4, n5, n6, n7, n8⟩ := next r3 st3
                exact ⟨hlt, ρ3, wipeF F3 vs, acc, rs, Ra, ys, n1, n2, n3, fun k hk => wipeF_in hk, n4, n5, nda, n6, n7, by omega, hlp, hY, purity fun z => p3 (Bool.and_eq_true _ _ ▸ z).1, n8⟩
              | true =>
                refine iteT ?_
                simp only at hlp
                cases qf : f ρ3 with
                | none => rw [qf] at hlp; cases hlp
                | some w =>
                  obtain ⟨yd, ρ4⟩ := w
                  rw [qf] at hlp
                  simp only at hlp
                  cases ql : loopC vs h t f (ds.drop (i + 1)) ρ4 with
                  | none => rw [ql] at hlp; cases hlp
                  | some w =>
                    obtain ⟨ys', ρ5⟩ := w
                    rw [ql] at hlp
                    cases hlp
                    refine ⟨ρ3, F3, yd, ρ4, r3, qf, fun v H4 F4 R4 r4 st4 p4 hv4 c4 => ?_⟩
                    obtain ⟨n1, n2, n3, n4, n5, n6, n7, n8⟩ := next r4 (st3.trans st4)
                    have c42 := c4.2 (Nat.le_refl 2)
                    have bl := big_line
                    have DH3 : H3 D ≠ none := st3.dom D DnH2
                    have R4D : ∀ a ∈ R4, a ≠ D := fun a ha z => by subst z; exact DH3 (c42.2 _ ha).1
                    have upk : ∀ a o, H4 a = some o → ¬ Mut (some o) → upd H4 D (.lst (acc ++ [v])) a = some o := fun a o e nm => by
                      rw [upd_ne fun z => by subst z; rw [n4] at e; cases e; exact nm trivial]; exact e
                    have upn : ∀ a, a ≠ D → upd H4 D (.lst (acc ++ [v])) a = H4 a := fun a z => upd_ne z
                    refine ⟨acc, n4, by omega, hlt, ρ4, wipeF F4 vs, acc ++ [v], rs ++ [yd], Ra ++ R4, ys', n1.other n4 trivial n7, ⟨fun a o e n => ?_, fun a e => ?_, n2.grow⟩, n3, fun k hk => wipeF_in hk, upd_same, ?_, ?_, fun a ha => ?_, n7, by simp; omega, ql, by rw [hY]; simp, fun z => ?_, n8⟩
                    · rw [upn a fun z => by subst z; rw [hD] at e; cases e]
                      exact n2.keep a o e n
                    · by_cases hz : a = D
                      · subst hz; rw [upd_same]; simp
                      · rw [upn a hz]; exact n2.dom a e
                    · have m1 : DVs K (upd H4 D (.lst (acc ++ [v]))) acc rs Ra := n5.mono upk fun a ha o e => by rw [upn a (n6 a ha).2.2.2]; exact e
                      have m2 : DV K (upd H4 D (.lst (acc ++ [v]))) v yd R4 := hv4.mono upk fun a ha o e => by rw [upn a (R4D a ha)]; exact e
                      have m3 := m1.append (.cons m2 .nil)
                      rwa [List.append_nil] at m3
                    · refine List.nodup_append.mpr ⟨nda, c42.1, fun a ha b hb e => ?_⟩
                      subst e
                      obtain ⟨u, eu⟩ := mut_some (hRa a ha).2.1
                      have : H3 a ≠ none := st3.dom a (s12.dom a (by rw [eu]; simp))
                      exact this (c42.2 a hb).1
                    · rcases List.mem_append.mp ha with ha | ha
                      · obtain ⟨h1, h2, h3, h4⟩ := n6 a ha
                        exact ⟨h1, by rw [upn a h4]; exact h2, h3, h4⟩
                      · have z := R4D a ha
                        refine ⟨s'.no (s12.no (st3.no (c42.2 a ha).1)), by rw [upn a z]; exact (c42.2 a ha).2, fun q => c4.1 (by decide) a ha ((InF.wipe hv).mp q), z⟩
                    · obtain ⟨z1, z2, z3⟩ := purity (H4 := H4) (F4 := F4) (ρ4 := ρ4) (fun z => glueB (K := K) p3 p4 z) z
                      refine ⟨z1, z2, fun a o e => ?_⟩
                      rw [upn a fun z => by subst z; rw [hD] at e; cases e]
                      exact z3 a o e
        · have e : i = ds.length := by omega
          subst e
          rw [List.drop_length] at hlp
          unfold loopC at hlp
          cases hlp
          refine .inl ⟨dit.stop H' _ ex (Nat.le_refl _), ?_⟩
          have hlenF : ρe.length = ρ1.length := hlen'
          have rb : RepE K own σ H' (back ρ1 (wipeE ρe vs) vs) (backF F1 F' vs) := RepE.back r1 r' s' hv pu' em'
          have eb : back ρ1 (wipeE ρe vs) vs = back ρ1 ρe vs := by
            apply List.ext_getElem?
            intro j
            by_cases hj : j ∈ vs
            · by_cases hjl : j < ρ1.length
              · rw [back_in (by rw [wipeE_len]; exact hlenF) hj hjl, back_in hlenF hj hjl]
              · rw [List.getElem?_eq_none (by rw [back_len, wipeE_len, hlenF]; omega), List.getElem?_eq_none (by rw [back_len, hlenF]; omega)]
            · rw [back_out hj, back_out hj, wipeE_out hj]
          rw [eb] at rb
          have sB : StpS own H1 F1 H' (backF F1 F' vs) := ⟨fun a o e n => s'.keep a o e fun z => n ((InF.wipe hv).mp z), s'.dom, fun j oj a m => by
            unfold backF at m
            rw [if_neg fun z => by rw [hv j z] at oj; cases oj] at m
            have := s'.grow j oj a m
            rwa [wipeF_out fun z => by rw [hv j z] at oj; cases oj] at this⟩
          have sBp : Stp own H1 F1 H' (backF F1 F' vs) := ⟨sB, fun j oj => by
            unfold backF
            split
            · rfl
            · rename_i hj; exact pu' j oj hj⟩
          have apB : ∀ a, ¬ InF own F' a → ¬ InF own (backF F1 F' vs) a := fun a n ⟨j, oj, m⟩ => by
            unfold backF at m
            rw [if_neg fun z => by rw [hv j z] at oj; cases oj] at m
            exact n ⟨j, oj, m⟩
          rw [List.append_nil] at hY
          subst hY
          refine k (.ref D) H' _ (D :: Ra) rb (s1.trans sBp) (fun z => ?_) (.lst hDc hacc) ⟨fun _ a ha => ?_, fun _ => ⟨List.nodup_cons.mpr ⟨fun m => (hRa D m).2.2.2 rfl, nda⟩, fun a ha => ?_⟩⟩
          · rw [Bool.and_eq_true] at z
            obtain ⟨z1, z2⟩ := z
            obtain ⟨u1, u2, u3⟩ := p1 z1
            obtain ⟨v1, v2, v3⟩ := hpure z2
            refine ⟨?_, ?_, u3.trans v3⟩
            · rw [← u1]
              refine back_self hlenF fun j hj => ?_
              have := congrArg (fun l => l[j]?) v1
              simp only [wipeE_out hj] at this
              exact this
            · rw [← u2, v2]
              funext j
              unfold backF wipeF
              split <;> rfl
          · rcases List.mem_cons.mp ha with rfl | ha
            · exact apB _ fun ⟨j, _, m⟩ => hnD j m
            · exact apB _ (hRa a ha).2.2.1
          · rcases List.mem_cons.mp ha with rfl | ha
            · exact ⟨s1.no hD, by rw [hDc]; trivial⟩
            · exact ⟨s1.no (hRa a ha).1, (hRa a ha).2.1⟩
      · cases e1
    · cases e1
  · cases e1
theorem fe_lc {elt iter : Expr} {ifs : List Expr} {scope : Scope} (ownN : List (Str × Nat)) {c : Nat} {p pt pe : Bool} {it : FIt} {h : FTg} {t : FB} {f : FX} {ts : List Nat} (hc : X.calm = true) (hN : X.N.Nodup) (hi : FI X own tg c p iter it) (ok : BlkOk X.N X.env.scope scope ownN)
    (hg : ∀ (s : Shared) (H : Hp) (C : Addr) (cl : List (Str × Addr)) (fp : List Addr), FG (X.blk s H scope (compEnvC scope cl C X.env) fp) own noIo ts tg h) (ht : ∀ (s : Shared) (H : Hp) (C : Addr) (cl : List (Str × Addr)) (fp : List Addr), FTs (X.blk s H scope (compEnvC scope cl C X.env) fp) own pt ifs t)
    (he : ∀ (s : Shared) (H : Hp) (C : Addr) (cl : List (Str × Addr)) (fp : List Addr), FE (X.blk s H scope (compEnvC scope cl C X.env) fp) own 2 pe elt f) (hv : ∀ i ∈ ownN.map (·.2), own i = false := by decide) (hts : ∀ i ∈ ts, i ∈ ownN.map (·.2) := by decide) (hcl : 1 ≤ c ∨ (pt && pe) = true := by first | exact .inl (by decide) | exact .inr rfl)
    (hs : ∀ x, foldedSetIterable iter X.env x = pure x := by intro _; rfl) : FE X own 2 (p && (pt && pe)) (.ListComp elt [⟨tg, iter, ifs, 0⟩] scope pos) (fLc (ownN.map (·.2)) it h t f) :=
  (pe_lc (g := tG X.K own noIo ts h) (tt := tT X.K own pt t) (te := tD X.K own 2 pe f) hc hN hi ok hg ht he hs).conv (lc_conv hv hts hcl)
/-- name = [..] on one line, the name a local -/
theorem fs_setLc {i : Nat} {y : Str} {py spos : Pos} {elt iter : Expr} {ifs : List Expr} {scope : Scope} (ownN : List (Str × Nat)) {c : Nat} {p pt pe : Bool} {it : FIt} {h : FTg} {t : FB} {f : FX} {ts : List Nat} (hc : X.calm = true) (hN : X.N.Nodup) (hy : X.N[i]? = some y) (hyl : X.env.scope.names.lookup y = some .local)
    (hsw : swapsWith (.ListComp elt [⟨tg, iter, ifs, 0⟩] scope pos) (some (.Name y py)) spos.line X.env = pure true) (hi : FI X own tg c p iter it) (ok : BlkOk X.N X.env.scope scope ownN)
    (hg : ∀ (s : Shared) (H : Hp) (C : Addr) (cl : List (Str × Addr)) (fp : List Addr), FG (X.blk s H scope (compEnvC scope cl C X.env) fp) own noIo ts tg h) (ht : ∀ (s : Shared) (H : Hp) (C : Addr) (cl : List (Str × Addr)) (fp : List Addr), FTs (X.blk s H scope (compEnvC scope cl C X.env) fp) own pt ifs t)
    (he : ∀ (s : Shared) (H : Hp) (C : Addr) (cl : List (Str × Addr)) (fp : List Addr), FE (X.blk s H scope (compEnvC scope cl C X.env) fp) own 2 pe elt f) (ii : io i = false := by rfl) (hv : ∀ i ∈ ownN.map (·.2), own i = false := by decide) (hts : ∀ i ∈ ts, i ∈ ownN.map (·.2) := by decide) (hcl : 1 ≤ c ∨ (pt && pe) = true := by first | exact .inl (by decide) | exact .inr rfl)
    (hs : ∀ x, foldedSetIterable iter X.env x = pure x := by intro _; rfl) : FS X own io (.Assign [.Name y py] (.ListComp elt [⟨tg, iter, ifs, 0⟩] scope pos) spos) (gSet i (fLc (ownN.map (·.2)) it h t f)) :=
  (ps_setLc (g := tG X.K own noIo ts h) (tt := tT X.K own pt t) (te := tD X.K own 2 pe f) hc hN hy hyl hsw hi ok hg ht he hs).conv fun D σ H q => by
    have z := (setO_conv (X := X) (own := own) (io := io) (i := i) (p := (p && (pt && pe))) (f := fLc (ownN.map (·.2)) it h t f) ii) D σ H q
    exact lc_conv hv hts hcl σ H _ z
end
end FP
namespace FP
open PySem PySem.Spec PyProof.Rows L2
/-! ### a def -/
def ev0 (n : Nat) (ds : List PyData) : EV := ds.map some ++ List.replicate (n - ds.length) none
def runP (np n : Nat) (g : FSt) : GL := fun ds => if ds.length = np then match g (ev0 n ds) with
    | .rt d _ => some d
    | .nx _ => some .none
    | _ => none
  else none
def runI (np n : Nat) (g : FSt) : MI := fun d0 ds => if ds.length + 1 = np then match g (ev0 n (d0 :: ds)) with
    | .rt d ρ => match ρ[0]? with
      | some (some o) => some (d, o)
      | _ => none
    | .nx ρ => match ρ[0]? with
      | some (some o) => some (.none, o)
      | _ => none
    | _ => none
  else none
theorem DVs.split {K : PySem.W.Frag} {H : Hp} : ∀ {vs : List V} {ds : List PyData} {R : List Addr}, DVs K H vs ds R → ∃ Fs : List (List Addr), Fs.length = ds.length ∧ (∀ i d, ds[i]? = some d → ∃ v, vs[i]? = some v ∧ DV K H v d (Fs.getD i [])) ∧ ∀ i, ∀ a ∈ Fs.getD i [], a ∈ R
  | _, _, _, .nil => ⟨[], rfl, fun i d e => by simp at e, fun i a ha => by simp at ha⟩
  | _, _, _, .cons (R := R) h t => by
    obtain ⟨Fs, h1, h2, h3⟩ := DVs.split t
    refine ⟨R :: Fs, by simp [h1], fun i d e => ?_, fun i a ha => ?_⟩
    · cases i with
      | zero => simp at e; subst e; exact ⟨_, rfl, h⟩
      | succ i =>
        obtain ⟨v, q1, q2⟩ := h2 i d (by simpa using e)
        exact ⟨v, by simpa using q1, by simpa using q2⟩
    · cases i with
      | zero => exact List.mem_append_left _ (by simpa using ha)
      | succ i => exact List.mem_append_right _ (h3 i a (by simpa using ha))
theorem ev0_get {n : Nat} {ds : List PyData} {i : Nat} {d : PyData} (h : (ev0 n ds)[i]? = some (some d)) : ds[i]? = some d := by
  unfold ev0 at h
  by_cases hi : i < ds.length
  · rw [List.getElem?_append_left (by simpa using hi)] at h
    simpa [List.getElem?_map] using h
  · rw [List.getElem?_append_right (by simpa using Nat.le_of_not_lt hi)] at h
    simp [List.getElem?_replicate] at h
theorem start_get {N : List Str} {vs : List V} {i : Nat} {v : V} (h : vs[i]? = some v) : (L2.start N vs)[i]? = some (some v) := by
  unfold L2.start
  have hi : i < vs.length := (List.getElem?_eq_some_iff.mp h).1
  rw [List.getElem?_append_left (by simpa using hi)]
  simp [h]
section
variable {P : Program} {w : World} {K : PySem.W.Frag} {mg : Str → Option Value} {base : Heap} {x qual : Str} {st : Stmt} {f : Addr} {fd : FuncData} {N ps : List Str} {k : Nat}
/-- the state at a def's entry -/
theorem rep0 {own : Nat → Bool} {H : Hp} {vs : List V} {ds : List PyData} (Fs : List (List Addr)) (hl : vs.length = ds.length) (hF : Fs.length = ds.length) (hv : ∀ i d, ds[i]? = some d → ∃ v, vs[i]? = some v ∧ DV K H v d (Fs.getD i []))
    (nod : ∀ i, own i = true → (Fs.getD i []).Nodup) (mu : ∀ i, own i = true → ∀ a ∈ Fs.getD i [], Mut (H a)) (dis : ∀ i j, i ≠ j → own j = true → ∀ a ∈ Fs.getD i [], a ∉ Fs.getD j []) : RepE K own (L2.start N vs) H (ev0 N.length ds) (fun i => Fs.getD i []) where
  len := by unfold L2.start ev0; simp [hl]
  val := fun i d e => by
    obtain ⟨v, q1, q2⟩ := hv i d (ev0_get e)
    exact ⟨v, start_get q1, q2⟩
  emp := fun i n => by
    by_cases hi : i < ds.length
    · exfalso
      refine n ds[i] ?_
      unfold ev0
      rw [List.getElem?_append_left (by simpa using hi)]
      simp [hi]
    · simp [List.getElem?_eq_none (show Fs.length ≤ i by omega)]
  nod := nod
  mu := mu
  dis := dis
theorem mkP (np n : Nat) (own : Nat → Bool) (g : FSt) (hnp : ps.length = np) (hn : N.length = n) (Fn : Fun K x qual st f fd) (S : FnScope N ps (defScope st)) (hown : ∀ i, i < ps.length → own i = false)
    (hbody : ∀ (cdv : Value) (A : Around) (outer : List Env) (s : Shared) (H : Hp) (E : XK), Room k (A.deeper (envOfC qual (defScope st) s.heap.objs.size f cdv)) → A.guards = some [] → FSs (cxOf CX0 P w K mg base N qual (defScope st) f cdv A outer s H E).nox own noIo (defBody st) g) :
    FnG P w K mg base CX0 (k + 1) f fd ps (spP K (runP np n g)) := by
  subst hnp hn
  refine body_kept Fn S (fun vs H Q E h => ?_) (fun cdv A outer s H vs Q E hr gd h => ?_)
  · obtain ⟨ds, R, r, hv, hm, _⟩ := h
    unfold runP at hm
    split at hm
    · rename_i hl; rw [hv.length]; exact hl
    · cases hm
  · obtain ⟨ds, R, r, hv, hm, kq⟩ := h
    refine ⟨_, hbody cdv A outer s H E hr gd, ?_⟩
    obtain ⟨Fs, f1, f2, f3⟩ := hv.split
    unfold runP at hm
    split at hm
    · rename_i hl
      have emp : ∀ i, own i = true → Fs.getD i [] = [] := fun i oi => by
        have : ps.length ≤ i := Nat.le_of_not_lt fun z => by rw [hown i z] at oi; cases oi
        simp [List.getElem?_eq_none (show Fs.length ≤ i by omega)]
      have r0 : RepE K own (L2.start N vs) H (ev0 N.length ds) (fun i => Fs.getD i []) := rep0 Fs hv.length f1 f2 (fun i oi => by rw [emp i oi]; exact List.nodup_nil) (fun i oi a ha => by rw [emp i oi] at ha; cases ha) fun i j _ oj a _ m => by rw [emp j oj] at m; cases m
      have nF : ∀ a, ¬ InF own (fun i => Fs.getD i []) a := fun a ⟨i, oi, m⟩ => by
        have m : a ∈ Fs.getD i [] := m
        rw [emp i oi] at m; cases m
      refine ⟨ev0 N.length ds, _, r0, ?_⟩
      split at hm
      · rename_i d ρ' e
        cases hm
        rw [e]
        refine fun v σ' H' F' R' r' s' hv' hr' => kq v H' R' (fun a o e => s'.keep a o e (nF a)) hv' ⟨hr'.1, fun a ha => ⟨?_, hr'.2.1 a ha⟩⟩
        rcases hr'.2.2 with z | ⟨i, oi, _, z⟩
        · exact (z a ha).1
        · rcases s'.grow i oi a (z.subset ha) with z | z
          · have z : a ∈ Fs.getD i [] := z
            rw [emp i oi] at z; cases z
          · exact z
      · rename_i ρ' e
        cases hm
        rw [e]
        exact fun σ' H' F' r' s' => kq .non H' [] (fun a o e => s'.keep a o e (nF a)) .non .nil
      · cases hm
    · cases hm
theorem mkI (np n : Nat) (own : Nat → Bool) (g : FSt) (hnp : ps.length = np) (hn : N.length = n) (Fn : Fun K x qual st f fd) (S : FnScope N ps (defScope st)) (h0 : own 0 = true) (hown : ∀ i, i < ps.length → i ≠ 0 → own i = false)
    (hbody : ∀ (cdv : Value) (A : Around) (outer : List Env) (s : Shared) (H : Hp) (E : XK), Room k (A.deeper (envOfC qual (defScope st) s.heap.objs.size f cdv)) → A.guards = some [] → FSs (cxOf CX0 P w K mg base N qual (defScope st) f cdv A outer s H E).nox own (fun i => i == 0) (defBody st) g) :
    FnG P w K mg base CX0 (k + 1) f fd ps (spI K (runI np n g)) := by
  subst hnp hn
  refine body_kept Fn S (fun vs H Q E h => ?_) (fun cdv A outer s H vs Q E hr gd h => ?_)
  · obtain ⟨v0, ws, d0, ds, R0, R, r, o, rfl, hv0, _, _, hv, _, hm, _⟩ := h
    unfold runI at hm
    split at hm
    · rename_i hl; rw [List.length_cons, hv.length]; exact hl
    · cases hm
  · obtain ⟨v0, ws, d0, ds, R0, R, r, o, rfl, hv0, nd0, mu0, hv, hd, hm, kq⟩ := h
    refine ⟨_, hbody cdv A outer s H E hr gd, ?_⟩
    obtain ⟨Fs, f1, f2, f3⟩ := hv.split
    unfold runI at hm
    split at hm
    · rename_i hl
      have own0 : ∀ i, own i = true → i ≠ 0 → (R0 :: Fs).getD i [] = [] := fun i oi ne => by
        have : ps.length ≤ i := Nat.le_of_not_lt fun z => by rw [hown i z ne] at oi; cases oi
        simp [List.getElem?_eq_none (show (R0 :: Fs).length ≤ i by simp; omega)]
      have r0 : RepE K own (L2.start N (v0 :: ws)) H (ev0 N.length (d0 :: ds)) (fun i => (R0 :: Fs).getD i []) := rep0 (R0 :: Fs) (by simp [hv.length]) (by simp [f1]) (fun i d e => by
          cases i with
          | zero => simp at e; subst e; exact ⟨v0, rfl, hv0⟩
          | succ i =>
            obtain ⟨v, q1, q2⟩ := f2 i d (by simpa using e)
            exact ⟨v, by simpa using q1, by simpa using q2⟩)
        (fun i oi => by
          by_cases hi : i = 0
          · subst hi; simpa using nd0
          · rw [own0 i oi hi]; exact List.nodup_nil)
        (fun i oi a ha => by
          by_cases hi : i = 0
          · subst hi; exact mu0 a (by simpa using ha)
          · rw [own0 i oi hi] at ha; cases ha)
        fun i j ne oj a ha m => by
          by_cases hj : j = 0
          · subst hj
            cases i with
            | zero => exact ne rfl
            | succ i => exact hd a (f3 i a (by simpa using ha)) (by simpa using m)
          · rw [own0 j oj hj] at m; cases m
      have nF : ∀ a, a ∉ R0 → ¬ InF own (fun i => (R0 :: Fs).getD i []) a := fun a n ⟨i, oi, m⟩ => by
        have m : a ∈ (R0 :: Fs).getD i [] := m
        by_cases hi : i = 0
        · subst hi; exact n (by simpa using m)
        · rw [own0 i oi hi] at m; cases m
      have at0 : ∀ {σ' : L2.St} {H' : Hp} {F' : Fo} {ρ' : EV} {o' : PyData}, RepE K own σ' H' ρ' F' → σ'[0]? = (L2.start N (v0 :: ws))[0]? → ρ'[0]? = some (some o') → DV K H' v0 o' (F' 0) := fun {σ' H' F' ρ' o'} r' e1 e2 => by
        obtain ⟨v, q1, q2⟩ := r'.val 0 o' e2
        have e3 : (L2.start N (v0 :: ws))[0]? = some (some v0) := start_get (by rfl)
        rw [e1, e3] at q1
        cases q1
        exact q2
      refine ⟨ev0 N.length (d0 :: ds), _, r0, ?_⟩
      split at hm
      · rename_i d ρ' e
        split at hm
        · rename_i o' e2
          cases hm
          rw [e]
          refine fun v σ' H' F' R' r' s' hv' hr' => kq v H' (F' 0) R' (fun a u e n => s'.keep a u e (nF a n)) s'.dom (at0 r' (s'.sl 0 rfl) e2) (r'.nod 0 h0) (fun a ha => ⟨r'.mu 0 h0 a ha, ?_⟩) hv' hr'.1 fun a ha => ?_
          · rcases s'.grow 0 h0 a ha with z | z
            · exact .inl (by simpa using z)
            · exact .inr z
          · rcases hr'.2.2 with z | ⟨i, oi, ii, z⟩
            · exact ⟨(z a ha).1, hr'.2.1 a ha, fun m => (z a ha).2 ⟨0, h0, m⟩⟩
            · have ha' := z.subset ha
              have hi : i ≠ 0 := fun e => by subst e; cases ii
              refine ⟨?_, hr'.2.1 a ha, fun m => r'.dis i 0 hi h0 a ha' m⟩
              rcases s'.grow i oi a ha' with z | z
              · have z : a ∈ (R0 :: Fs).getD i [] := z
                rw [own0 i oi hi] at z; cases z
              · exact z
        · cases hm
      · rename_i ρ' e
        split at hm
        · rename_i o' e2
          cases hm
          rw [e]
          refine fun σ' H' F' r' s' => kq .non H' (F' 0) [] (fun a u e n => s'.keep a u e (nF a n)) s'.dom (at0 r' (s'.sl 0 rfl) e2) (r'.nod 0 h0) (fun a ha => ⟨r'.mu 0 h0 a ha, ?_⟩) .non List.nodup_nil fun a ha => absurd ha List.not_mem_nil
          rcases s'.grow 0 h0 a ha with z | z
          · exact .inl (by simpa using z)
          · exact .inr z
        · cases hm
      · cases hm
    · cases hm
end
end FP
namespace FP
open PySem PySem.Spec PyProof.Rows L2
section
variable {X : Cx} {own io : Nat → Bool} {K : PySem.W.Frag}
/-! ### isinstance(x, T) -/
def tyn : PyData → String
  | .none => "NoneType"
  | .bool _ => "bool"
  | .int _ => "int"
  | .str _ => "str"
  | .list _ => "list"
  | .tuple _ => "tuple"
  | .dict _ => "dict"
theorem DV.tyx {H : Hp} {v : V} {d : PyData} {R : List Addr} (h : DV K H v d R) : TyX K H v (.type (tyn d)) := by
  cases h with
  | non => exact .base .non
  | bl b => exact .base (.bl b)
  | int i => exact .base (.int i)
  | str x => exact .base (.str x)
  | tup h _ =>
    rcases h.sq with (h | ⟨o, h⟩) | ⟨o, its, n, h, c, _⟩
    · exact .base (.tup h)
    · exact .fTuple h
    · exact .kTuple h c
  | lst h _ => exact .base (.lst h)
  | dic h _ _ _ => exact .base (.dK h)
/-- T's answers, one for each kind of data -/
structure IsT (T : String) (g : PyData → Bool) : Prop where
  ok : ∀ d, kitB (tyn d) T = some (g d)
def isInt : PyData → Bool
  | .int _ => true
  | .bool _ => true
  | _ => false
def isBool : PyData → Bool
  | .bool _ => true
  | _ => false
def isStr : PyData → Bool
  | .str _ => true
  | _ => false
def isTup : PyData → Bool
  | .tuple _ => true
  | _ => false
def isLst : PyData → Bool
  | .list _ => true
  | _ => false
theorem isT_int : IsT "int" isInt := ⟨fun d => match d with
  | .none => (by decide +kernel : kitB "NoneType" "int" = some false)
  | .bool _ => (by decide +kernel : kitB "bool" "int" = some true)
  | .int _ => (by decide +kernel : kitB "int" "int" = some true)
  | .str _ => (by decide +kernel : kitB "str" "int" = some false)
  | .list _ => (by decide +kernel : kitB "list" "int" = some false)
  | .tuple _ => (by decide +kernel : kitB "tuple" "int" = some false)
  | .dict _ => (by decide +kernel : kitB "dict" "int" = some false)⟩
theorem isT_bool : IsT "bool" isBool := ⟨fun d => match d with
  | .none => (by decide +kernel : kitB "NoneType" "bool" = some false)
  | .bool _ => (by decide +kernel : kitB "bool" "bool" = some true)
  | .int _ => (by decide +kernel : kitB "int" "bool" = some false)
  | .str _ => (by decide +kernel : kitB "str" "bool" = some false)
  | .list _ => (by decide +kernel : kitB "list" "bool" = some false)
  | .tuple _ => (by decide +kernel : kitB "tuple" "bool" = some false)
  | .dict _ => (by decide +kernel : kitB "dict" "bool" = some false)⟩
theorem isT_str : IsT "str" isStr := ⟨fun d => match d with
  | .none => (by decide +kernel : kitB "NoneType" "str" = some false)
  | .bool _ => (by decide +kernel : kitB "bool" "str" = some false)
  | .int _ => (by decide +kernel : kitB "int" "str" = some false)
  | .str _ => (by decide +kernel : kitB "str" "str" = some true)
  | .list _ => (by decide +kernel : kitB "list" "str" = some false)
  | .tuple _ => (by decide +kernel : kitB "tuple" "str" = some false)
  | .dict _ => (by decide +kernel : kitB "dict" "str" = some false)⟩
theorem isT_tuple : IsT "tuple" isTup := ⟨fun d => match d with
  | .none => (by decide +kernel : kitB "NoneType" "tuple" = some false)
  | .bool _ => (by decide +kernel : kitB "bool" "tuple" = some false)
  | .int _ => (by decide +kernel : kitB "int" "tuple" = some false)
  | .str _ => (by decide +kernel : kitB "str" "tuple" = some false)
  | .list _ => (by decide +kernel : kitB "list" "tuple" = some false)
  | .tuple _ => (by decide +kernel : kitB "tuple" "tuple" = some true)
  | .dict _ => (by decide +kernel : kitB "dict" "tuple" = some false)⟩
theorem isT_list : IsT "list" isLst := ⟨fun d => match d with
  | .none => (by decide +kernel : kitB "NoneType" "list" = some false)
  | .bool _ => (by decide +kernel : kitB "bool" "list" = some false)
  | .int _ => (by decide +kernel : kitB "int" "list" = some false)
  | .str _ => (by decide +kernel : kitB "str" "list" = some false)
  | .list _ => (by decide +kernel : kitB "list" "list" = some true)
  | .tuple _ => (by decide +kernel : kitB "tuple" "list" = some false)
  | .dict _ => (by decide +kernel : kitB "dict" "list" = some false)⟩
def fIsi (g : PyData → Bool) (f : FX) : FX := fun ρ => match f ρ with
  | some (d, ρ1) => some (.bool (g d), ρ1)
  | none => none
theorem fe_isi {T : String} {g : PyData → Bool} {e : Expr} {x : Str} {c : Nat} {p : Bool} {f : FX} {pf px pos : Pos} (hT : IsT T g) (he : FE X own c p e f) (hg : Gl X "isinstance") (hm : X.mg "isinstance" = none) (hgT : Gl X x) (hmT : X.mg x = none) (hvT : bootBuiltins x = some (.type T))
    (hn : x ≠ "__name__" := by decide) (hdb : (x == ("__debug__" : Str)) = false := by decide)
    (hs : starEach [e, .Name x px] X.env = (false, eval e X.env) :: starEach [.Name x px] X.env := by rfl) (hs1 : starEach [.Name x px] X.env = (false, eval (.Name x px) X.env) :: starEach [] X.env := by rfl) (hpl : (backTo pos (starEach [.Name x px] X.env)).any (·.1) = false := by rfl) :
    FE X own 2 p (.Call (.Name "isinstance" pf) [e, .Name x px] [] pos) (fIsi g f) :=
  (pe_callB call_isi hg hm (by decide +kernel) (pa_cons he (pa_cons (pe_bltn hgT hmT hvT (v := .ty T) rfl hn hdb) pa_nil hs1) hs) (by decide) (by decide) hs hpl).conv fun σ H Q ⟨ρ, F, d, ρ', r, e1, k⟩ => by
    unfold fIsi at e1
    split at e1
    · rename_i d' ρ1 q
      cases e1
      refine ⟨ρ, F, d', ρ', r, q, fun v H' F' R r' s' p' hv hc => ?_⟩
      exact ⟨v, .ty T, .type (tyn d'), .type T, g d', rfl, .ty T, hv.tyx, kit_ty (hT.ok d'), k _ H' F' [] r' s' p' (.bl _) .nil⟩
    · cases e1
/-! ### int(x), all, any, sum, max, min -/
def gInt : GL
  | [.int i] => some (.int i)
  | [.bool b] => some (.int (if b then 1 else 0))
  | _ => none
theorem dc_int : DCall K (fun xs H Q => (∃ i, xs = [.int i] ∧ Q (.int i) H) ∨ ∃ k, xs = [.bl k] ∧ Q (.int (if k then 1 else 0)) H) gInt := by
  intro H xs ds Rx z Q hx hg k
  unfold gInt at hg
  split at hg
  · cases hg
    cases hx with
    | cons h t => cases t; cases h; exact .inl ⟨_, rfl, k _ H [] (.refl H) (.int _) .nil⟩
  · cases hg
    cases hx with
    | cons h t => cases t; cases h; exact .inr ⟨_, rfl, k _ H [] (.refl H) (.int _) .nil⟩
  · cases hg
def allB : List PyData → Option (List Bool)
  | [] => some []
  | .bool b :: r => match allB r with
    | some bs => some (b :: bs)
    | none => none
  | _ :: _ => none
def allI : List PyData → Option (List Int)
  | [] => some []
  | .int i :: r => match allI r with
    | some is => some (i :: is)
    | none => none
  | _ :: _ => none
theorem DVs.bools {H : Hp} : ∀ {vs : List V} {ds : List PyData} {R : List Addr} {bs : List Bool}, DVs K H vs ds R → allB ds = some bs → vs = bs.map V.bl
  | _, _, _, _, .nil, e => by cases e; rfl
  | _, _, _, _, .cons h t, e => by
    cases h with
    | bl b =>
      simp only [allB] at e
      split at e
      · rename_i bs q
        cases e
        rw [DVs.bools t q]; rfl
      · cases e
    | _ => simp [allB] at e
theorem DVs.ints {H : Hp} : ∀ {vs : List V} {ds : List PyData} {R : List Addr} {bs : List Int}, DVs K H vs ds R → allI ds = some bs → vs = bs.map V.int
  | _, _, _, _, .nil, e => by cases e; rfl
  | _, _, _, _, .cons h t, e => by
    cases h with
    | int b =>
      simp only [allI] at e
      split at e
      · rename_i bs q
        cases e
        rw [DVs.ints t q]; rfl
      · cases e
    | _ => simp [allI] at e
def gAll : GL
  | [.list ds] => match allB ds with
    | some bs => some (.bool (bs.all id))
    | none => none
  | _ => none
def gAny : GL
  | [.list ds] => match allB ds with
    | some bs => some (.bool (bs.any id))
    | none => none
  | _ => none
theorem dc_all : DCall K (rAll K) gAll := by
  intro H xs ds Rx z Q hx hg k
  unfold gAll at hg
  split at hg
  · split at hg
    · rename_i bs q
      cases hg
      cases hx with
      | cons h t =>
        cases t
        cases h with
        | lst h1 h2 =>
          have e := h2.bools q
          subst e
          exact ⟨_, bs, rfl, SqL.of h1, k _ H [] (.refl H) (.bl _) .nil⟩
    · cases hg
  · cases hg
theorem dc_any : DCall K (rAny K) gAny := by
  intro H xs ds Rx z Q hx hg k
  unfold gAny at hg
  split at hg
  · split at hg
    · rename_i bs q
      cases hg
      cases hx with
      | cons h t =>
        cases t
        cases h with
        | lst h1 h2 =>
          have e := h2.bools q
          subst e
          exact ⟨_, bs, rfl, SqL.of h1, k _ H [] (.refl H) (.bl _) .nil⟩
    · cases hg
  · cases hg
def gSum : GL
  | [.list ds] => match allI ds with
    | some is => some (.int is.sum)
    | none => none
  | _ => none
theorem dc_sum : DCall K (rSum K) gSum := by
  intro H xs ds Rx z Q hx hg k
  unfold gSum at hg
  split at hg
  · split at hg
    · rename_i bs q
      cases hg
      cases hx with
      | cons h t =>
        cases t
        cases h with
        | lst h1 h2 =>
          have e := h2.ints q
          subst e
          exact ⟨_, bs, rfl, SqL.of h1, k _ H [] (.refl H) (.int _) .nil⟩
    · cases hg
  · cases hg
def maxI : List Int → Int
  | [] => 0
  | x :: xs => xs.foldl max x
def minI : List Int → Int
  | [] => 0
  | x :: xs => xs.foldl min x
theorem foldl_max_mem : ∀ (xs : List Int) (x : Int), xs.foldl max x ∈ x :: xs ∧ ∀ y ∈ x :: xs, y ≤ xs.foldl max x
  | [], x => by simp
  | z :: xs, x => by
    obtain ⟨h1, h2⟩ := foldl_max_mem xs (max x z)
    simp only [List.foldl_cons]
    have hx : x ≤ xs.foldl max (max x z) := Int.le_trans (Int.le_max_left x z) (h2 _ List.mem_cons_self)
    have hz : z ≤ xs.foldl max (max x z) := Int.le_trans (Int.le_max_right x z) (h2 _ List.mem_cons_self)
    refine ⟨?_, fun y hy => ?_⟩
    · rcases List.mem_cons.mp h1 with e | e
      · rw [e]
        rcases Int.le_total x z with h | h
        · rw [Int.max_eq_right h]; simp
        · rw [Int.max_eq_left h]; simp
      · exact List.mem_cons_of_mem _ (List.mem_cons_of_mem _ e)
    · rcases List.mem_cons.mp hy with rfl | hy
      · exact hx
      · rcases List.mem_cons.mp hy with rfl | hy
        · exact hz
        · exact h2 y (List.mem_cons_of_mem _ hy)
theorem foldl_min_mem : ∀ (xs : List Int) (x : Int), xs.foldl min x ∈ x :: xs ∧ ∀ y ∈ x :: xs, xs.foldl min x ≤ y
  | [], x => by simp
  | z :: xs, x => by
    obtain ⟨h1, h2⟩ := foldl_min_mem xs (min x z)
    simp only [List.foldl_cons]
    have hx : xs.foldl min (min x z) ≤ x := Int.le_trans (h2 _ List.mem_cons_self) (Int.min_le_left x z)
    have hz : xs.foldl min (min x z) ≤ z := Int.le_trans (h2 _ List.mem_cons_self) (Int.min_le_right x z)
    refine ⟨?_, fun y hy => ?_⟩
    · rcases List.mem_cons.mp h1 with e | e
      · rw [e]
        rcases Int.le_total x z with h | h
        · rw [Int.min_eq_left h]; simp
        · rw [Int.min_eq_right h]; simp
      · exact List.mem_cons_of_mem _ (List.mem_cons_of_mem _ e)
    · rcases List.mem_cons.mp hy with rfl | hy
      · exact hx
      · rcases List.mem_cons.mp hy with rfl | hy
        · exact hz
        · exact h2 y (List.mem_cons_of_mem _ hy)
theorem maxI_ok {xs : List Int} {m : Int} (h1 : m ∈ xs) (h2 : ∀ y ∈ xs, y ≤ m) : m = maxI xs := by
  cases xs with
  | nil => cases h1
  | cons x xs =>
    obtain ⟨q1, q2⟩ := foldl_max_mem xs x
    exact Int.le_antisymm (q2 m h1) (h2 _ q1)
theorem minI_ok {xs : List Int} {m : Int} (h1 : m ∈ xs) (h2 : ∀ y ∈ xs, m ≤ y) : m = minI xs := by
  cases xs with
  | nil => cases h1
  | cons x xs =>
    obtain ⟨q1, q2⟩ := foldl_min_mem xs x
    exact Int.le_antisymm (h2 _ q1) (q2 m h1)
def gMaxL : GL
  | [.list ds] => match allI ds with
    | some is => if is.isEmpty = true then none else some (.int (maxI is))
    | none => none
  | _ => none
def gMinL : GL
  | [.list ds] => match allI ds with
    | some is => if is.isEmpty = true then none else some (.int (minI is))
    | none => none
  | _ => none
theorem dc_maxL : DCall K (rMax K) gMaxL := by
  intro H xs ds Rx z Q hx hg k
  unfold gMaxL at hg
  split at hg
  · split at hg
    · rename_i bs q
      split at hg
      · cases hg
      · rename_i hne
        cases hg
        cases hx with
        | cons h t =>
          cases t
          cases h with
          | lst h1 h2 =>
            have e := h2.ints q
            subst e
            refine ⟨_, bs, rfl, SqL.of h1, ?_, fun m m1 m2 => ?_⟩
            · cases bs with
              | nil => exact absurd rfl hne
              | cons a b => simp
            · rw [maxI_ok m1 m2]; exact k _ H [] (.refl H) (.int _) .nil
    · cases hg
  · cases hg
theorem dc_minL : DCall K (rMin K) gMinL := by
  intro H xs ds Rx z Q hx hg k
  unfold gMinL at hg
  split at hg
  · split at hg
    · rename_i bs q
      split at hg
      · cases hg
      · rename_i hne
        cases hg
        cases hx with
        | cons h t =>
          cases t
          cases h with
          | lst h1 h2 =>
            have e := h2.ints q
            subst e
            refine ⟨_, bs, rfl, SqL.of h1, ?_, fun m m1 m2 => ?_⟩
            · cases bs with
              | nil => exact absurd rfl hne
              | cons a b => simp
            · rw [minI_ok m1 m2]; exact k _ H [] (.refl H) (.int _) .nil
    · cases hg
  · cases hg
def gMax2 : GL
  | [.int i, .int j] => some (.int (max i j))
  | _ => none
def gMin2 : GL
  | [.int i, .int j] => some (.int (min i j))
  | _ => none
theorem dc_max2 : DCall K (fun xs H Q => ∃ i j, xs = [.int i, .int j] ∧ Q (.int (if j > i then j else i)) H) gMax2 := by
  intro H xs ds Rx z Q hx hg k
  unfold gMax2 at hg
  split at hg
  · cases hg
    cases hx with
    | cons h t =>
      cases t with
      | cons h' t =>
        cases t; cases h; cases h'
        refine ⟨_, _, rfl, ?_⟩
        have e : ∀ i j : Int, (if j > i then j else i) = max i j := fun i j => by rw [Int.max_def]; split <;> split <;> omega
        rw [e]; exact k _ H [] (.refl H) (.int _) .nil
  · cases hg
theorem dc_min2 : DCall K (fun xs H Q => ∃ i j, xs = [.int i, .int j] ∧ Q (.int (if j < i then j else i)) H) gMin2 := by
  intro H xs ds Rx z Q hx hg k
  unfold gMin2 at hg
  split at hg
  · cases hg
    cases hx with
    | cons h t =>
      cases t with
      | cons h' t =>
        cases t; cases h; cases h'
        refine ⟨_, _, rfl, ?_⟩
        have e : ∀ i j : Int, (if j < i then j else i) = min i j := fun i j => by rw [Int.min_def]; split <;> split <;> omega
        rw [e]; exact k _ H [] (.refl H) (.int _) .nil
  · cases hg
/-! ### a unary minus -/
def gNeg (f : FX) : FX := fun ρ => match f ρ with
  | some (.int i, ρ1) => some (.int (-i), ρ1)
  | _ => none
theorem fe_neg {a : Expr} {pos : Pos} {c : Nat} {p : Bool} {f : FX} (h : FE X own c p a f) : FE X own 2 p (.UnaryOp .USub a pos) (gNeg f) :=
  (pe_un un_neg h).conv fun σ H Q ⟨ρ, F, d, ρ', r, e1, k⟩ => by
    unfold gNeg at e1
    split at e1
    · rename_i i ρ1 q
      cases e1
      refine ⟨ρ, F, _, ρ', r, q, fun v H1 F1 R1 r1 s1 p1 v1 c1 => ?_⟩
      cases v1
      exact ⟨i, rfl, k _ H1 F1 [] r1 s1 p1 (.int _) .nil⟩
    · cases e1
/-! ### x in a list or tuple of flat things -/
def flatD : PyData → Bool
  | .none => true
  | .bool _ => true
  | .int _ => true
  | .str _ => true
  | _ => false
end
/-! ### calls of the program's own defs, all facts in one -/
structure Callee (P : Program) (w : World) (K : PySem.W.Frag) (mg : Str → Option Value) (base : Heap) (x : Str) (st : Stmt) (k : Nat) (ps : List Str) (sp : Sp) : Prop where
  ex : ∃ (f : Addr) (fd : FuncData), FnG P w K mg base CX0 k f fd ps sp ∧ mg x = some (.ref f) ∧ PySem.W.keepIn K (.ref f) = true ∧ L2.Binds K fd ps [] ∧ Fun K x x st f fd
def OwnF (K : PySem.W.Frag) (mg : Str → Option Value) (x : Str) (st : Stmt) (ps : List Str) : Prop := ∃ (f : Addr) (fd : FuncData), Fun K x x st f fd ∧ mg x = some (.ref f) ∧ L2.Binds K fd ps []
section
variable {X : Cx} {own : Nat → Bool} {k j : Nat} {ps : List Str} {x : Str} {st : Stmt} {p0 pos : Pos} {e : Expr} {es : List Expr}
theorem fe_cP {m : GL} {c : Nat} {p : Bool} {fs : FL} (C : Callee X.prog X.w X.K X.mg X.base x st k ps (spP X.K m)) (gd : X.A.guards = some []) (hr : Room j X.A) (hk : k ≤ j) (hg : Gl X x)
    (ha : FA X own c p (e :: es) fs) (hdb : (x == ("__debug__" : Str)) = false := by decide) (he : starEach (e :: es) X.env = (false, eval e X.env) :: starEach es X.env := by rfl) (hpl : (backTo pos (starEach es X.env)).any (·.1) = false := by rfl) :
    FE X own 2 p (.Call (.Name x p0) (e :: es) [] pos) (fCall m fs) := by
  obtain ⟨f, fd, F, hm, hkp, hb, _⟩ := C.ex
  exact fe_callP F gd (hr.mono hk) hg hm hkp hb ha hdb he hpl
theorem fe_cI {m : MI} {i : Nat} {c : Nat} {p : Bool} {fs : FL} (C : Callee X.prog X.w X.K X.mg X.base x st k ps (spI X.K m)) (gd : X.A.guards = some []) (hr : Room j X.A) (hk : k ≤ j) (hg : Gl X x)
    (h0 : PE X e (tVar i)) (oj : own i = true) (ha : FA X own c p es fs) (hc : 1 ≤ c := by decide) (hdb : (x == ("__debug__" : Str)) = false := by decide) (he : starEach (e :: es) X.env = (false, eval e X.env) :: starEach es X.env := by rfl) (hpl : (backTo pos (starEach es X.env)).any (·.1) = false := by rfl) :
    FE X own 2 false (.Call (.Name x p0) (e :: es) [] pos) (fCallI m i fs) := by
  obtain ⟨f, fd, F, hm, hkp, hb, _⟩ := C.ex
  exact fe_callI F gd (hr.mono hk) hg hm hkp hb h0 oj ha hc hdb he hpl
end
end FP
namespace FP
open PySem PySem.Spec PyProof.Rows L2
section
variable {X : Cx} {own io : Nat → Bool} {K : PySem.W.Frag}
/-! ### an owned list -/
theorem own_list {σ : L2.St} {H : Hp} {ρ : EV} {F : Fo} {j : Nat} {ds : List PyData} (r : RepE K own σ H ρ F) (oj : own j = true) (e : ρ[j]? = some (some (.list ds))) :
    ∃ l xs R, σ[j]? = some (some (.ref l)) ∧ H l = some (.lst xs) ∧ DVs K H xs ds R ∧ F j = l :: R := by
  obtain ⟨v, h1, h2⟩ := r.val j _ e
  generalize hR : F j = R0 at h2
  cases h2 with
  | lst q1 q2 =>
    rename_i a xs R
    exact ⟨a, xs, R, h1, q1, q2, rfl⟩
/-- the list is written anew, of data without lists -/
theorem write_list {σ : L2.St} {H : Hp} {ρ : EV} {F : Fo} {j : Nat} {l : Addr} {xs xs' : List V} {R R' : List Addr} {ds' : List PyData} (r : RepE K own σ H ρ F) (oj : own j = true) (h1 : σ[j]? = some (some (.ref l))) (h2 : H l = some (.lst xs)) (hF : F j = l :: R)
    (hd : DVs K H xs' ds' R') (sub : R'.Sublist R) : RepE K own σ (upd H l (.lst xs')) (ρ.set j (some (.list ds'))) (setF F j (l :: R')) ∧ Stp own H F (upd H l (.lst xs')) (setF F j (l :: R')) := by
  have nd := r.nod j oj
  rw [hF] at nd
  have nd' := List.nodup_cons.mp nd
  have ne : ∀ a ∈ R', a ≠ l := fun a ha z => by subst z; exact nd'.1 (sub.subset ha)
  refine r.write oj h1 (fun a u e n => ?_) (fun a e => ?_) (.lst upd_same (hd.mono (fun a o e nm => ?_) fun a ha o e => ?_)) (List.nodup_cons.mpr ⟨fun m => ne l m rfl, nd'.2.sublist sub⟩) fun a ha => ?_
  · rw [upd_ne fun z => n (by rw [hF, z]; exact List.mem_cons_self)]; exact e
  · by_cases z : a = l
    · subst z; rw [upd_same]; simp
    · rw [upd_ne z]; exact e
  · rw [upd_ne fun z => by subst z; rw [h2] at e; cases e; exact nm trivial]; exact e
  · rw [upd_ne (ne a ha)]; exact e
  · rcases List.mem_cons.mp ha with rfl | ha
    · exact ⟨by rw [upd_same]; trivial, .inl (by rw [hF]; exact List.mem_cons_self)⟩
    · refine ⟨?_, .inl (by rw [hF]; exact List.mem_cons_of_mem _ (sub.subset ha))⟩
      rw [upd_ne (ne a ha)]
      exact r.mu j oj a (by rw [hF]; exact List.mem_cons_of_mem _ (sub.subset ha))
section
variable {i : Nat} {o e : Expr} {apos cpos : Pos} {p : Bool} {f : FX} {c : Nat}
def fAppend (i : Nat) (f : FX) : FX := fun ρ => match ρ[i]? with
  | some (some (.list _)) => match f ρ with
    | some (d, ρ1) => match ρ1[i]? with
      | some (some (.list ds)) => if (imm d && decide (ds.length < 1000000)) = true then some (.none, ρ1.set i (some (.list (ds ++ [d])))) else none
      | _ => none
    | none => none
  | _ => none
theorem fe_append (ho : PE X o (tVar i)) (oi : own i = true) (he : FE X own c p e f)
    (hbase : attributeBase o "append" X.env (eval o X.env) = eval o X.env := by rfl)
    (hfew : ((backTo cpos (starEach [e] X.env)).all (fun x => !x.1) && (backToKw cpos (keywordEach [] X.env)).all (fun x => x.1.isSome)
      && decide (([e] : List Expr).length + ([] : List Keyword).length + (if ([] : List Keyword).isEmpty then 0 else 1) < 30)) = true := by rfl)
    (hline : (apos.endLine == cpos.line) = true := by rfl) (hs : starEach [e] X.env = (false, eval e X.env) :: starEach [] X.env := by rfl) (hplain : (backTo cpos (starEach [] X.env)).any (·.1) = false := by rfl) :
    FE X own 2 false (.Call (.Attribute o "append" apos) [e] [] cpos) (fAppend i f) :=
  (pe_bm PySem.F.plainAttrs_list PySem.F.slot_list_append PySem.F.type_list_append mt_append ho (pa_cons he pa_nil hs) hbase hfew hline hs hplain).conv fun σ H Q ⟨ρ, F, d, ρ', r, e1, k⟩ => by
    unfold fAppend at e1
    split at e1
    · rename_i ds0 e0
      obtain ⟨l0, xs0, R0, q1, q2, q3, q4⟩ := own_list r oi e0
      split at e1
      · rename_i y ρ1 ef
        split at e1
        · rename_i ds e2
          split at e1
          · rename_i hi
            rw [Bool.and_eq_true, decide_eq_true_eq] at hi
            cases e1
            refine ⟨_, q1, .inl ⟨rfl, _, SqL.of q2⟩, ρ, F, y, ρ1, r, ef, fun v H1 F1 R1 r1 s1 p1 v1 c1 => ?_⟩
            obtain ⟨l, xs, R, h1, h2, h3, h4⟩ := own_list r1 oi e2
            rw [q1] at h1; cases h1
            have eR := v1.imm_nil hi.1
            subst eR
            have hd := h3.append (.cons v1 .nil)
            rw [List.append_nil, List.append_nil] at hd
            obtain ⟨r2, s2⟩ := write_list r1 oi q1 h2 h4 hd (List.Sublist.refl R)
            have bl := big_line
            refine ⟨l0, xs, v, rfl, rfl, h2, by rw [h3.length]; omega, k _ _ _ [] r2 (s1.trans s2) (fun z => nomatch z) .non .nil⟩
          · cases e1
        · cases e1
      · cases e1
    · cases e1
def fPop (i : Nat) : FX := fun ρ => match ρ[i]? with
  | some (some (.list ds)) => if imms ds = true then match ds[ds.length - 1]? with
      | some d => some (d, ρ.set i (some (.list ds.dropLast)))
      | none => none
    else none
  | _ => none
theorem DVs.dropLast {H : Hp} {vs : List V} {ds : List PyData} (h : DVs K H vs ds []) : DVs K H vs.dropLast ds.dropLast [] := by
  rw [List.dropLast_eq_take, List.dropLast_eq_take, h.length]
  exact h.take _
theorem fe_pop (ho : PE X o (tVar i)) (oi : own i = true) (hbase : attributeBase o "pop" X.env (eval o X.env) = eval o X.env := by rfl) (hline : (apos.endLine == cpos.line) = true := by rfl) :
    FE X own 2 false (.Call (.Attribute o "pop" apos) [] [] cpos) (fPop i) :=
  (pe_bm0 PySem.F.plainAttrs_list PySem.F.slot_list_pop PySem.F.type_list_pop mt_pop ho hbase hline).conv fun σ H Q ⟨ρ, F, d, ρ', r, e1, k⟩ => by
    unfold fPop at e1
    split at e1
    · rename_i ds e0
      split at e1
      · rename_i hi
        split at e1
        · rename_i y ey
          cases e1
          obtain ⟨l, xs, R, q1, q2, q3, q4⟩ := own_list r oi e0
          have f1 := DVs.imm_each hi q3
          obtain ⟨v, R', h1, h2, h3⟩ := f1.get ey
          have eR : R' = [] := List.eq_nil_iff_forall_not_mem.mpr fun a ha => List.not_mem_nil (h3 a ha)
          subst eR
          obtain ⟨r2, s2⟩ := write_list r oi q1 q2 q4 f1.dropLast (List.nil_sublist _)
          exact ⟨_, q1, .inl ⟨rfl, _, SqL.of q2⟩, l, xs, v, rfl, rfl, q2, by rw [f1.length]; exact h1, k v _ _ [] r2 s2 (fun z => nomatch z) (h2.step r s2.toStpS fun a ha => absurd ha List.not_mem_nil) .nil⟩
        · cases e1
      · cases e1
    · cases e1
def fPopAt (i : Nat) (f : FX) : FX := fun ρ => match ρ[i]? with
  | some (some (.list _)) => match f ρ with
    | some (.int k, ρ1) => match ρ1[i]? with
      | some (some (.list ds)) => if (imms ds && decide (-1000000 ≤ k) && decide (k ≤ 1000000)) = true then match seqIndex? k ds.length with
          | some m => match ds[m]? with
            | some d => some (d, ρ1.set i (some (.list (ds.eraseIdx m))))
            | none => none
          | none => none
        else none
      | _ => none
    | _ => none
  | _ => none
theorem DVs.eraseIdx {H : Hp} : ∀ {vs : List V} {ds : List PyData} (n : Nat), DVs K H vs ds [] → DVs K H (vs.eraseIdx n) (ds.eraseIdx n) []
  | [], _, n, h => by
    cases h
    simpa using DVs.nil
  | v :: vs, ds, n, h => by
    generalize hr : ([] : List Addr) = R at h
    cases h with
    | cons h t =>
      obtain ⟨e1, e⟩ := List.append_eq_nil_iff.mp hr.symm
      subst e e1
      cases n with
      | zero => exact t
      | succ n =>
        have := DVs.cons h (DVs.eraseIdx n t)
        simpa using this
theorem fe_popAt (ho : PE X o (tVar i)) (oi : own i = true) (he : FE X own c p e f)
    (hbase : attributeBase o "pop" X.env (eval o X.env) = eval o X.env := by rfl)
    (hfew : ((backTo cpos (starEach [e] X.env)).all (fun x => !x.1) && (backToKw cpos (keywordEach [] X.env)).all (fun x => x.1.isSome)
      && decide (([e] : List Expr).length + ([] : List Keyword).length + (if ([] : List Keyword).isEmpty then 0 else 1) < 30)) = true := by rfl)
    (hline : (apos.endLine == cpos.line) = true := by rfl) (hs : starEach [e] X.env = (false, eval e X.env) :: starEach [] X.env := by rfl) (hplain : (backTo cpos (starEach [] X.env)).any (·.1) = false := by rfl) :
    FE X own 2 false (.Call (.Attribute o "pop" apos) [e] [] cpos) (fPopAt i f) :=
  (pe_bm PySem.F.plainAttrs_list PySem.F.slot_list_pop PySem.F.type_list_pop mt_popAt ho (pa_cons he pa_nil hs) hbase hfew hline hs hplain).conv fun σ H Q ⟨ρ, F, d, ρ', r, e1, k⟩ => by
    unfold fPopAt at e1
    split at e1
    · rename_i ds0 e0
      obtain ⟨l0, xs0, R0, q1, q2, q3, q4⟩ := own_list r oi e0
      split at e1
      · rename_i n ρ1 ef
        split at e1
        · rename_i ds e2
          split at e1
          · rename_i hi
            simp only [Bool.and_eq_true, decide_eq_true_eq] at hi
            split at e1
            · rename_i m em
              split at e1
              · rename_i y ey
                cases e1
                refine ⟨_, q1, .inl ⟨rfl, _, SqL.of q2⟩, ρ, F, _, ρ1, r, ef, fun v H1 F1 R1 r1 s1 p1 v1 c1 => ?_⟩
                cases v1
                obtain ⟨l, xs, R, h1, h2, h3, h4⟩ := own_list r1 oi e2
                rw [q1] at h1; cases h1
                have f1 := DVs.imm_each hi.1.1 h3
                obtain ⟨v, R', g1, g2, g3⟩ := f1.get ey
                have eR : R' = [] := List.eq_nil_iff_forall_not_mem.mpr fun a ha => List.not_mem_nil (g3 a ha)
                subst eR
                obtain ⟨r2, s2⟩ := write_list r1 oi q1 h2 h4 (f1.eraseIdx m) (List.nil_sublist _)
                exact ⟨l0, xs, n, m, v, rfl, rfl, h2, by omega, by omega, by rw [f1.length]; exact em, g1, k v _ _ [] r2 (s1.trans s2) (fun z => nomatch z) (g2.step r1 s2.toStpS fun a ha => absurd ha List.not_mem_nil) .nil⟩
              · cases e1
            · cases e1
          · cases e1
        · cases e1
      · cases e1
    · cases e1
def fExtend (i : Nat) (f : FX) : FX := fun ρ => match ρ[i]? with
  | some (some (.list _)) => match f ρ with
    | some (.list es, ρ1) => match ρ1[i]? with
      | some (some (.list ds)) => if (imms es && decide (ds.length + es.length < 1000000)) = true then some (.none, ρ1.set i (some (.list (ds ++ es)))) else none
      | _ => none
    | _ => none
  | _ => none
theorem fe_extend (ho : PE X o (tVar i)) (oi : own i = true) (he : FE X own 2 p e f)
    (hbase : attributeBase o "extend" X.env (eval o X.env) = eval o X.env := by rfl)
    (hfew : ((backTo cpos (starEach [e] X.env)).all (fun x => !x.1) && (backToKw cpos (keywordEach [] X.env)).all (fun x => x.1.isSome)
      && decide (([e] : List Expr).length + ([] : List Keyword).length + (if ([] : List Keyword).isEmpty then 0 else 1) < 30)) = true := by rfl)
    (hline : (apos.endLine == cpos.line) = true := by rfl) (hs : starEach [e] X.env = (false, eval e X.env) :: starEach [] X.env := by rfl) (hplain : (backTo cpos (starEach [] X.env)).any (·.1) = false := by rfl) :
    FE X own 2 false (.Call (.Attribute o "extend" apos) [e] [] cpos) (fExtend i f) :=
  (pe_bm PySem.F.plainAttrs_list PySem.F.slot_list_extend PySem.F.type_list_extend mt_extend ho (pa_cons he pa_nil hs) hbase hfew hline hs hplain).conv fun σ H Q ⟨ρ, F, d, ρ', r, e1, k⟩ => by
    unfold fExtend at e1
    split at e1
    · rename_i ds0 e0
      obtain ⟨l0, xs0, R0, q1, q2, q3, q4⟩ := own_list r oi e0
      split at e1
      · rename_i es ρ1 ef
        split at e1
        · rename_i ds e2
          split at e1
          · rename_i hi
            rw [Bool.and_eq_true, decide_eq_true_eq] at hi
            cases e1
            refine ⟨_, q1, .inl ⟨rfl, _, SqL.of q2⟩, ρ, F, _, ρ1, r, ef, fun v H1 F1 R1 r1 s1 p1 v1 c1 => ?_⟩
            obtain ⟨l, xs, R, h1, h2, h3, h4⟩ := own_list r1 oi e2
            rw [q1] at h1; cases h1
            cases v1 with
            | lst g1 g2 =>
              rename_i b zs Rz
              have eR := g2.imm_nil hi.1
              subst eR
              have hb : H1 b = some (.lst zs) := g1
              have hd := h3.append g2
              rw [List.append_nil] at hd
              obtain ⟨r2, s2⟩ := write_list r1 oi q1 h2 h4 hd (List.Sublist.refl R)
              have bl := big_line
              exact ⟨l0, b, xs, zs, rfl, rfl, h2, hb, by rw [h3.length, g2.length]; omega, k _ _ _ [] r2 (s1.trans s2) (fun z => nomatch z) .non .nil⟩
          · cases e1
        · cases e1
      · cases e1
    · cases e1
end
/-- x[k] = e, x an owned list -/
def gLput (i : Nat) (fk fv : FX) : FSt := fun ρ => match fv ρ with
  | some (d, ρ1) => match fk ρ1 with
    | some (.int k, ρ2) => match ρ1[i]? with
      | some (some (.list _)) => match ρ2[i]? with
        | some (some (.list ds)) => if (imm d && imms ds) = true then match ixN ds.length k with
            | some m => .nx (ρ2.set i (some (.list (ds.set m d))))
            | none => .no
          else .no
        | _ => .no
      | _ => .no
    | _ => .no
  | none => .no
theorem DVs.set {H : Hp} {v : V} {d : PyData} (hv : DV K H v d []) : ∀ {vs : List V} {ds : List PyData} (n : Nat), DVs K H vs ds [] → DVs K H (vs.set n v) (ds.set n d) []
  | [], _, n, h => by cases h; simpa using DVs.nil
  | w :: vs, ds, n, h => by
    generalize hr : ([] : List Addr) = R at h
    cases h with
    | cons h t =>
      obtain ⟨e1, e⟩ := List.append_eq_nil_iff.mp hr.symm
      subst e e1
      cases n with
      | zero => have := DVs.cons hv t; simpa using this
      | succ n => have := DVs.cons h (DVs.set hv n t); simpa using this
theorem fs_lput {i : Nat} {o k e : Expr} {cpos pos : Pos} {ck cv : Nat} {pk pv : Bool} {fk fv : FX} (ho : PE X o (tVar i)) (oi : own i = true) (hk : FE X own ck pk k fk) (he : FE X own cv pv e fv)
    (ha : ∀ v, assign (.Subscript o k cpos) X.env v = (do
      let ov ← holding [v] (eval o X.env)
      let iv ← holding [v, ov] (eval k X.env)
      standAt cpos
      holding [v, ov, iv] (setItem ov iv v)
      release [v, ov, iv] []) := by intro _; rfl)
    (hs : swapsWithSole [.Subscript o k cpos] e pos.line X.env = pure false := by rfl) (hw : swappedStores [.Subscript o k cpos] e X.env = pure none := by rfl)
    (h1 : (assignEach [.Subscript o k cpos] X.env).map (·.2) = [assign (.Subscript o k cpos) X.env] := by rfl) : FS X own io (.Assign [.Subscript o k cpos] e pos) (gLput i fk fv) :=
  (ps_asg he (pg_sub ho hk set_list ha) hs hw h1).conv fun D σ H ⟨ρ, F, r, kk⟩ => by
    unfold gLput at kk
    split at kk
    · rename_i d ρ1 ev
      split at kk
      · rename_i n ρ2 ek
        split at kk
        · rename_i ds0 e0
          split at kk
          · rename_i ds e2
            split at kk
            · rename_i hi
              rw [Bool.and_eq_true] at hi
              split at kk
              · rename_i m em
                refine ⟨ρ, F, d, ρ1, r, ev, fun v H1 F1 R1 r1 s1 p1 v1 c1 => ?_⟩
                obtain ⟨l0, xs0, R0, q1, q2, q3, q4⟩ := own_list r1 oi e0
                refine ⟨_, q1, ρ1, F1, _, ρ2, r1, ek, fun w H2 F2 R2 r2 s2 p2 w2 c2 => ?_⟩
                cases w2
                obtain ⟨l, xs, R, g1, g2, g3, g4⟩ := own_list r2 oi e2
                rw [q1] at g1; cases g1
                have eR := v1.imm_nil hi.1
                subst eR
                have f1 := DVs.imm_each hi.2 g3
                have v2 := v1.step r1 s2.toStpS fun a ha => absurd ha List.not_mem_nil
                obtain ⟨r3, s3⟩ := write_list r2 oi q1 g2 g4 (f1.set v2 m) (List.nil_sublist _)
                exact ⟨l0, xs, n, m, rfl, rfl, g2, by rw [f1.length]; exact em, kk _ _ _ r3 (.ofE ((s1.trans s2).trans s3))⟩
              · exact kk.elim
            · exact kk.elim
          · exact kk.elim
        · exact kk.elim
      · exact kk.elim
    · exact kk.elim
end
end FP
namespace FP
open PySem PySem.Spec PyProof.Rows L2
/-! ### dicts as data -/
def eqK : PyData → Key → Bool
  | .int i, .inl j => decide (i = j)
  | .str x, .inr y => decide (x = y)
  | _, _ => false
def keyOf : PyData → Option Key
  | .int i => some (.inl i)
  | .str x => some (.inr x)
  | _ => none
theorem keyOf_kD {d : PyData} {k : Key} (h : keyOf d = some k) : d = kD k := by
  cases d <;> simp [keyOf] at h <;> subst h <;> rfl
theorem eqK_kD (a b : Key) : eqK (kD a) b = decide (a = b) := by
  cases a with
  | inl i =>
    cases b with
    | inl j =>
      show decide (i = j) = _
      by_cases h : i = j
      · subst h; simp
      · rw [decide_eq_false h, decide_eq_false fun z => h (Sum.inl.inj z)]
    | inr y => show false = _; rw [decide_eq_false fun z => nomatch z]
  | inr x =>
    cases b with
    | inl j => show false = _; rw [decide_eq_false fun z => nomatch z]
    | inr y =>
      show decide (x = y) = _
      by_cases h : x = y
      · subst h; simp
      · rw [decide_eq_false h, decide_eq_false fun z => h (Sum.inr.inj z)]
abbrev Tab := List (PyData × PyData)
def dget : Tab → Key → Option PyData
  | [], _ => none
  | (p, d) :: r, k => if eqK p k = true then some d else dget r k
def dput : Tab → Key → PyData → Tab
  | [], k, d => [(kD k, d)]
  | (p, e) :: r, k, d => if eqK p k = true then (p, d) :: r else (p, e) :: dput r k d
section
variable {K : PySem.W.Frag} {H : Hp}
abbrev zipK (kvs : List (Key × V)) (ds : List PyData) : Tab := (kvs.map fun p => kD p.1).zip ds
theorem dget_val : ∀ {kvs : List (Key × V)} {ds : List PyData} {R : List Addr} (k : Key), DVs K H (kvs.map (·.2)) ds R → match dget (zipK kvs ds) k with
    | some d => ∃ v R', valV kvs k = some v ∧ DV K H v d R' ∧ ∀ a ∈ R', a ∈ R
    | none => valV kvs k = none
  | [], _, _, k, h => by
    cases h
    simp [zipK, dget, valV]
  | (k0, v0) :: kvs, _, _, k, h => by
    generalize hl : ((k0, v0) :: kvs).map (·.2) = vs at h
    cases h with
    | nil => cases hl
    | cons h t =>
      cases hl
      rename_i d ds R R'
      have ih := dget_val (kvs := kvs) k t
      show match dget ((kD k0, d) :: zipK kvs ds) k with
        | some d => _
        | none => _
      unfold dget
      rw [eqK_kD]
      by_cases e : k0 = k
      · subst e
        simp only [decide_true, if_true]
        exact ⟨v0, R, valV_pos rfl, h, fun a ha => List.mem_append_left _ ha⟩
      · rw [if_neg (by simpa using e)]
        rw [valV_neg (p := (k0, v0)) e]
        revert ih
        cases dget (zipK kvs ds) k with
        | none => exact fun ih => ih
        | some d' => exact fun ⟨v, R2, q1, q2, q3⟩ => ⟨v, R2, q1, q2, fun a ha => List.mem_append_right _ (q3 a ha)⟩
theorem putK_cons {k0 k : Key} {v0 v : V} {r : List (Key × V)} (nd : k0 ∉ r.map (·.1)) : putK ((k0, v0) :: r) k v = if k0 = k then (k0, v) :: r else (k0, v0) :: putK r k v := by
  unfold putK
  by_cases e : k0 = k
  · subst e
    rw [if_pos rfl]
    have : (((k0, v0) :: r).any fun kv => decide (kv.1 = k0)) = true := by simp
    rw [if_pos this]
    simp only [List.map_cons, if_true]
    congr 1
    rw [List.map_congr_left (g := id)]
    · simp
    · intro p hp
      have : p.1 ≠ k0 := fun z => nd (by rw [← z]; exact List.mem_map_of_mem hp)
      simp [this]
  · rw [if_neg e]
    have : (((k0, v0) :: r).any fun kv => decide (kv.1 = k)) = (r.any fun kv => decide (kv.1 = k)) := by simp [e]
    rw [this]
    split
    · simp [e]
    · simp
theorem dput_val (k : Key) {v : V} {d : PyData} (hv : DV K H v d []) : ∀ {kvs : List (Key × V)} {ds : List PyData} {R : List Addr}, DVs K H (kvs.map (·.2)) ds R → (kvs.map (·.1)).Nodup →
    ∃ ds' R', DVs K H ((putK kvs k v).map (·.2)) ds' R' ∧ R'.Sublist R ∧ dput (zipK kvs ds) k d = zipK (putK kvs k v) ds' ∧ ((putK kvs k v).map (·.1)).Nodup ∧ (∀ q, q ∈ (putK kvs k v).map (·.1) → q = k ∨ q ∈ kvs.map (·.1))
  | [], _, _, h, _ => by
    cases h
    exact ⟨[d], [], .cons hv .nil, List.Sublist.refl _, rfl, by simp [putK], fun q hq => by simp [putK] at hq; exact .inl hq⟩
  | (k0, v0) :: kvs, _, _, h, nd => by
    generalize hl : ((k0, v0) :: kvs).map (·.2) = vs at h
    cases h with
    | nil => cases hl
    | cons h t =>
      cases hl
      rename_i d0 ds R R'
      rw [List.map_cons, List.nodup_cons] at nd
      rw [putK_cons nd.1]
      show ∃ ds' R2, _ ∧ _ ∧ dput ((kD k0, d0) :: zipK kvs ds) k d = _ ∧ _ ∧ _
      unfold dput
      rw [eqK_kD]
      by_cases e : k0 = k
      · subst e
        simp only [decide_true, if_true]
        exact ⟨d :: ds, [] ++ R', .cons hv t, by simpa using List.sublist_append_right R R', rfl, List.nodup_cons.mpr nd, fun q hq => by
          rw [List.map_cons, List.mem_cons] at hq
          rcases hq with hq | hq
          · exact .inl hq
          · exact .inr (by rw [List.map_cons]; exact List.mem_cons_of_mem _ hq)⟩
      · rw [if_neg e, if_neg (by simpa using e)]
        obtain ⟨ds', R2, q1, q2, q3, q4, q5⟩ := dput_val k hv t nd.2
        refine ⟨d0 :: ds', R ++ R2, .cons h q1, List.Sublist.append_left q2 R, by rw [q3]; rfl, List.nodup_cons.mpr ⟨fun m => ?_, q4⟩, fun q hq => ?_⟩
        · rcases q5 _ m with z | z
          · exact e z
          · exact nd.1 z
        · rw [List.map_cons, List.mem_cons] at hq
          rcases hq with hq | hq
          · exact .inr (by rw [List.map_cons, hq]; exact List.mem_cons_self)
          · rcases q5 _ hq with z | z
            · exact .inl z
            · exact .inr (by rw [List.map_cons]; exact List.mem_cons_of_mem _ z)
/-- a list within is written -/
theorem dlist_val (k : Key) {l : Addr} {xs xs' : List V} {es' : List PyData} (hl' : H l = some (.lst xs)) (hx : DVs K H xs' es' []) : ∀ {kvs : List (Key × V)} {ds : List PyData} {R : List Addr}, DVs K H (kvs.map (·.2)) ds R → R.Nodup → valV kvs k = some (.ref l) → (∃ es, dget (zipK kvs ds) k = some (.list es) ∧ imms es = true) →
    ∃ ds', DVs K (upd H l (.lst xs')) (kvs.map (·.2)) ds' R ∧ dput (zipK kvs ds) k (.list es') = zipK kvs ds'
  | [], _, _, h, _, hv, _ => by simp [valV] at hv
  | (k0, v0) :: kvs, _, _, h, nd, hv, hd => by
    have tup : ∀ a o, H a = some o → ¬ Mut (some o) → upd H l (.lst xs') a = some o := fun a o e nm => by
      rw [upd_ne fun z => by subst z; rw [hl'] at e; cases e; exact nm trivial]; exact e
    generalize hl : ((k0, v0) :: kvs).map (·.2) = vs at h
    cases h with
    | nil => cases hl
    | cons h t =>
      cases hl
      rename_i d0 ds R R'
      rw [List.nodup_append] at nd
      obtain ⟨es, hd, hi⟩ := hd
      have hd : dget ((kD k0, d0) :: zipK kvs ds) k = some (.list es) := hd
      unfold dget at hd
      rw [eqK_kD] at hd
      show ∃ ds', _ ∧ dput ((kD k0, d0) :: zipK kvs ds) k _ = _
      unfold dput
      rw [eqK_kD]
      by_cases e : k0 = k
      · subst e
        simp only [decide_true, if_true] at hd ⊢
        cases hd
        have hv' : v0 = .ref l := by
          rw [valV_pos (p := (k0, v0)) rfl] at hv
          exact Option.some.inj hv
        subst hv'
        generalize hR : R = R0 at h
        cases h with
        | lst g1 g2 =>
          rename_i xs0 R2
          have z := g2.imm_nil hi
          subst z
          subst hR
          have n : ∀ a ∈ R', a ≠ l := fun a ha z => nd.2.2 l List.mem_cons_self a ha z.symm
          refine ⟨.list es' :: ds, .cons (.lst upd_same (hx.mono tup fun a ha => absurd ha List.not_mem_nil)) (t.mono tup fun a ha o e => ?_), rfl⟩
          rw [upd_ne (n a ha)]; exact e
      · rw [if_neg (by simpa using e)] at hd ⊢
        rw [valV_neg (p := (k0, v0)) e] at hv
        obtain ⟨ds', q1, q2⟩ := dlist_val k hl' hx t nd.2.1 hv ⟨es, hd, hi⟩
        -- l is within R'
        have hl2 : l ∈ R' := by
          have := dget_val k t
          rw [hd] at this
          obtain ⟨v, R2, g1, g2, g3⟩ := this
          rw [hv] at g1; cases g1
          cases g2 with
          | lst p1 p2 => exact g3 l List.mem_cons_self
        refine ⟨d0 :: ds', .cons (h.mono tup fun a ha o e => ?_) q1, by rw [q2]; rfl⟩
        rw [upd_ne fun z => nd.2.2 a ha l hl2 z]; exact e
end
section
variable {X : Cx} {own io : Nat → Bool} {K : PySem.W.Frag}
theorem own_dict {σ : L2.St} {H : Hp} {ρ : EV} {F : Fo} {j : Nat} {t : Tab} (r : RepE K own σ H ρ F) (oj : own j = true) (e : ρ[j]? = some (some (.dict t))) :
    ∃ a kvs ds R, σ[j]? = some (some (.ref a)) ∧ H a = some (.dK kvs) ∧ DVs K H (kvs.map (·.2)) ds R ∧ (kvs.map (·.1)).Nodup ∧ t = zipK kvs ds ∧ F j = a :: R := by
  obtain ⟨v, h1, h2⟩ := r.val j _ e
  generalize hR : F j = R0 at h2
  cases h2 with
  | dic q1 q2 q3 q4 => exact ⟨_, _, _, _, h1, q1, q2, q3, q4, rfl⟩
/-! ### d[k] -/
def gDix : G2 := fun t k => match t, keyOf k with
  | .dict t, some k => match dget t k with
    | some d => if imm d = true then some d else none
    | none => none
  | _, _ => none
theorem fe_dix {j : Nat} {a b : Expr} {pos : Pos} {ca cb : Nat} {pa pb : Bool} {fa fb : FX} (hr : Room j X.A) (ha : FE X own ca pa a fa) (hb : FE X own cb pb b fb) (hs : NoSl b := by intro _ _; rfl) (hc : 1 ≤ ca ∨ pb = true := by first | exact .inl (by decide) | exact .inr rfl) :
    FE X own 2 (pa && pb) (.Subscript a b pos) (fBin gDix fa fb) :=
  (pe_dget (hu_of hr) ha hb hs).conv fun σ H Q ⟨ρ, F, d, ρ', r, e1, k⟩ => by
    unfold fBin at e1
    split at e1
    · rename_i x ρ1 ea
      split at e1
      · rename_i y ρ2 eb
        split at e1
        · rename_i z eg
          cases e1
          refine two hc r ea eb fun v w H2 F2 Rx Ry r2 s2 p2 v2 w2 => ?_
          unfold gDix at eg
          split at eg
          · rename_i t kk ek
            have := keyOf_kD ek
            subst this
            split at eg
            · rename_i d' ed
              split at eg
              · rename_i hi
                cases eg
                cases v2 with
                | dic g1 g2 g3 g4 =>
                  subst g4
                  have q := dget_val kk g2
                  rw [ed] at q
                  obtain ⟨u, R', q1, q2, q3⟩ := q
                  have eR := q2.imm_nil hi
                  subst eR
                  have ew : w = kV kk := by
                    cases kk with
                    | inl i => cases w2; rfl
                    | inr x => cases w2; rfl
                  subst ew
                  have dg := DGet.k (k := kk) g1
                  rw [q1] at dg
                  exact ⟨_, u, rfl, dg, fin k r2 s2 p2 (.refl _) q2 .nil⟩
              · cases eg
            · cases eg
          · cases eg
        · cases e1
      · cases e1
    · cases e1
/-- .. that may be a list, read at once -/
def gDix0 : G2 := fun t k => match t, keyOf k with
  | .dict t, some k => dget t k
  | _, _ => none
theorem fe_dix0 {j : Nat} {a b : Expr} {pos : Pos} {ca cb : Nat} {fa fb : FX} (hr : Room j X.A) (ha : FE X own ca true a fa) (hb : FE X own cb true b fb) (hs : NoSl b := by intro _ _; rfl) : FE X own 0 true (.Subscript a b pos) (fBin gDix0 fa fb) :=
  (pe_dget (hu_of hr) ha hb hs).conv fun σ H Q ⟨ρ, F, d, ρ', r, e1, k⟩ => by
    unfold fBin at e1
    split at e1
    · rename_i x ρ1 ea
      split at e1
      · rename_i y ρ2 eb
        split at e1
        · rename_i z eg
          cases e1
          refine two (.inr rfl) r ea eb fun v w H2 F2 Rx Ry r2 s2 p2 v2 w2 => ?_
          unfold gDix0 at eg
          split at eg
          · rename_i t kk ek
            have := keyOf_kD ek
            subst this
            cases v2 with
            | dic g1 g2 g3 g4 =>
              subst g4
              have q := dget_val kk g2
              rw [eg] at q
              obtain ⟨u, R', q1, q2, q3⟩ := q
              have ew : w = kV kk := by
                cases kk with
                | inl i => cases w2; rfl
                | inr x => cases w2; rfl
              subst ew
              have dg := DGet.k (k := kk) g1
              rw [q1] at dg
              exact ⟨_, u, rfl, dg, k u H2 F2 R' r2 s2 (fun z => p2 rfl) q2 ⟨fun z => absurd z (by decide), fun z => absurd z (by decide)⟩⟩
          · cases eg
        · cases e1
      · cases e1
    · cases e1
/-! ### k in d -/
def fDin (neg : Bool) (fk ft : FX) : FX := fun ρ => match fk ρ with
  | some (y, ρ1) => match ft ρ1 with
    | some (.dict t, ρ2) => match keyOf y with
      | some k => some (.bool (if neg then !(dget t k).isSome else (dget t k).isSome), ρ2)
      | none => none
    | _ => none
  | none => none
theorem dget_isSome {H : Hp} {kvs : List (Key × V)} {ds : List PyData} {R : List Addr} (k : Key) (h : DVs K H (kvs.map (·.2)) ds R) : (valV kvs k).isSome = (dget (zipK kvs ds) k).isSome := by
  have := dget_val k h
  revert this
  cases dget (zipK kvs ds) k with
  | none => intro q; rw [show valV kvs k = none from q]; rfl
  | some d => intro ⟨v, R', q, _⟩; rw [q]; rfl
theorem din_conv {neg : Bool} {ca cb : Nat} {pa pb : Bool} {fa fb : FX} (hc : 1 ≤ ca ∨ pb = true) : ∀ σ H Q, tD K own 2 (pa && pb) (fDin neg fa fb) σ H Q →
    (tD K own ca pa fa σ H fun y H1 => tD K own cb pb fb σ H1 fun x H2 => ∃ a o, x = .ref a ∧ DGet H2 a y o ∧ Q (.bl (if neg then !o.isSome else o.isSome)) H2) := fun σ H Q ⟨ρ, F, d, ρ', r, e1, k⟩ => by
  unfold fDin at e1
  split at e1
  · rename_i y ρ1 ea
    split at e1
    · rename_i t ρ2 eb
      split at e1
      · rename_i kk ek
        cases e1
        refine two hc r ea eb fun v w H2 F2 Rx Ry r2 s2 p2 v2 w2 => ?_
        have := keyOf_kD ek
        subst this
        cases w2 with
        | dic g1 g2 g3 g4 =>
          subst g4
          have ew : v = kV kk := by
            cases kk with
            | inl i => cases v2; rfl
            | inr x => cases v2; rfl
          subst ew
          refine ⟨_, _, rfl, DGet.k (k := kk) g1, ?_⟩
          rw [dget_isSome kk g2]
          exact fin k r2 s2 p2 (.refl _) (.bl _) .nil
      · cases e1
    · cases e1
  · cases e1
theorem fe_din {j : Nat} {a b : Expr} {pos : Pos} {ca cb : Nat} {pa pb : Bool} {fa fb : FX} (hr : Room j X.A) (ha : FE X own ca pa a fa) (hb : FE X own cb pb b fb) (hm : behindInMarks .In b = false := by rfl) (hc : 1 ≤ ca ∨ pb = true := by first | exact .inl (by decide) | exact .inr rfl) :
    FE X own 2 (pa && pb) (.Compare a [.In] [b] pos) (fDin false fa fb) := (pe_cmp (pc_din (hu_of hr) ha hb) hm).conv (din_conv (neg := false) hc)
theorem fe_dnotin {j : Nat} {a b : Expr} {pos : Pos} {ca cb : Nat} {pa pb : Bool} {fa fb : FX} (hr : Room j X.A) (ha : FE X own ca pa a fa) (hb : FE X own cb pb b fb) (hm : behindInMarks .NotIn b = false := by rfl) (hc : 1 ≤ ca ∨ pb = true := by first | exact .inl (by decide) | exact .inr rfl) :
    FE X own 2 (pa && pb) (.Compare a [.NotIn] [b] pos) (fDin true fa fb) := (pe_cmp (pc_dnotin (hu_of hr) ha hb) hm).conv (din_conv (neg := true) hc)
theorem ft_conv {c : Nat} {p : Bool} {f : FX} : ∀ σ H (Q : Bool → Hp → Prop), tT K own p (fTB f) σ H Q → tD K own c p f σ H fun x H1 => ∃ k, x = .bl k ∧ Q k H1 := fun σ H Q ⟨ρ, F, b, ρ', r, e1, k⟩ =>
  ⟨ρ, F, _, ρ', r, fTB_some e1, fun v H' F' R r' s' p' hv hc => by cases hv; exact ⟨b, rfl, k H' F' r' s' p'⟩⟩
theorem ft_din {j : Nat} {a b : Expr} {pos : Pos} {ca cb : Nat} {pa pb : Bool} {fa fb : FX} (hr : Room j X.A) (ha : FE X own ca pa a fa) (hb : FE X own cb pb b fb) (hm : behindInMarks .In b = false := by rfl) (hc : 1 ≤ ca ∨ pb = true := by first | exact .inl (by decide) | exact .inr rfl) :
    FT X own (pa && pb) (.Compare a [.In] [b] pos) (fTB (fDin false fa fb)) := (pt_cmp (pc_din (hu_of hr) ha hb) hm).conv fun σ H Q h => din_conv (neg := false) hc σ H _ (ft_conv (c := 2) σ H Q h)
theorem ft_dnotin {j : Nat} {a b : Expr} {pos : Pos} {ca cb : Nat} {pa pb : Bool} {fa fb : FX} (hr : Room j X.A) (ha : FE X own ca pa a fa) (hb : FE X own cb pb b fb) (hm : behindInMarks .NotIn b = false := by rfl) (hc : 1 ≤ ca ∨ pb = true := by first | exact .inl (by decide) | exact .inr rfl) :
    FT X own (pa && pb) (.Compare a [.NotIn] [b] pos) (fTB (fDin true fa fb)) := (pt_cmp (pc_dnotin (hu_of hr) ha hb) hm).conv fun σ H Q h => din_conv (neg := true) hc σ H _ (ft_conv (c := 2) σ H Q h)
/-! ### d[k] = e, d an owned dict -/
theorem write_dict {σ : L2.St} {H : Hp} {ρ : EV} {F : Fo} {j : Nat} {a : Addr} {kvs kvs' : List (Key × V)} {R R' : List Addr} {t' : Tab} (r : RepE K own σ H ρ F) (oj : own j = true) (h1 : σ[j]? = some (some (.ref a))) (h2 : H a = some (.dK kvs)) (hF : F j = a :: R)
    {ds' : List PyData} (hd : DVs K H (kvs'.map (·.2)) ds' R') (hn : (kvs'.map (·.1)).Nodup) (ht : t' = zipK kvs' ds') (sub : R'.Sublist R) : RepE K own σ (upd H a (.dK kvs')) (ρ.set j (some (.dict t'))) (setF F j (a :: R')) ∧ Stp own H F (upd H a (.dK kvs')) (setF F j (a :: R')) := by
  have nd := r.nod j oj
  rw [hF] at nd
  have nd' := List.nodup_cons.mp nd
  have ne : ∀ b ∈ R', b ≠ a := fun b hb z => by subst z; exact nd'.1 (sub.subset hb)
  refine r.write oj h1 (fun b u e n => ?_) (fun b e => ?_) (.dic upd_same (hd.mono (fun b o e nm => ?_) fun b hb o e => ?_) hn ht) (List.nodup_cons.mpr ⟨fun m => ne a m rfl, nd'.2.sublist sub⟩) fun b hb => ?_
  · rw [upd_ne fun z => n (by rw [hF, z]; exact List.mem_cons_self)]; exact e
  · by_cases z : b = a
    · subst z; rw [upd_same]; simp
    · rw [upd_ne z]; exact e
  · rw [upd_ne fun z => by subst z; rw [h2] at e; cases e; exact nm trivial]; exact e
  · rw [upd_ne (ne b hb)]; exact e
  · rcases List.mem_cons.mp hb with rfl | hb
    · exact ⟨by rw [upd_same]; trivial, .inl (by rw [hF]; exact List.mem_cons_self)⟩
    · refine ⟨?_, .inl (by rw [hF]; exact List.mem_cons_of_mem _ (sub.subset hb))⟩
      rw [upd_ne (ne b hb)]
      exact r.mu j oj b (by rw [hF]; exact List.mem_cons_of_mem _ (sub.subset hb))
def gDput (i : Nat) (fk fv : FX) : FSt := fun ρ => match fv ρ with
  | some (d, ρ1) => match fk ρ1 with
    | some (y, ρ2) => match ρ1[i]? with
      | some (some (.dict _)) => match ρ2[i]? with
        | some (some (.dict t)) => if (imm d && decide (t.length < 1000)) = true then match keyOf y with
            | some k => .nx (ρ2.set i (some (.dict (dput t k d))))
            | none => .no
          else .no
        | _ => .no
      | _ => .no
    | none => .no
  | none => .no
theorem fs_dput {j i : Nat} {o k e : Expr} {cpos pos : Pos} {ck cv : Nat} {pk pv : Bool} {fk fv : FX} (hr : Room j X.A) (ho : PE X o (tVar i)) (oi : own i = true) (hk : FE X own ck pk k fk) (he : FE X own cv pv e fv)
    (hs : swapsWith e (some (.Subscript o k cpos)) pos.line X.env = pure false := by rfl) : FS X own io (.Assign [.Subscript o k cpos] e pos) (gDput i fk fv) :=
  (ps_dput (hu_of hr) ho hk he hs).conv fun D σ H ⟨ρ, F, r, kk⟩ => by
    unfold gDput at kk
    split at kk
    · rename_i d ρ1 ev
      split at kk
      · rename_i y ρ2 ek
        split at kk
        · rename_i t0 e0
          split at kk
          · rename_i t e2
            split at kk
            · rename_i hi
              rw [Bool.and_eq_true, decide_eq_true_eq] at hi
              split at kk
              · rename_i key em
                have := keyOf_kD em
                subst this
                refine ⟨ρ, F, d, ρ1, r, ev, fun v H1 F1 R1 r1 s1 p1 v1 c1 => ?_⟩
                obtain ⟨a0, kvs0, ds0, R0, q1, q2, q3, q4, q5, q6⟩ := own_dict r1 oi e0
                refine ⟨_, q1, ρ1, F1, _, ρ2, r1, ek, fun w H2 F2 R2 r2 s2 p2 w2 c2 => ?_⟩
                obtain ⟨a, kvs, ds, R, g1, g2, g3, g4, g5, g6⟩ := own_dict r2 oi e2
                rw [q1] at g1; cases g1
                have eR := v1.imm_nil hi.1
                subst eR
                have v2 := v1.step r1 s2.toStpS fun a ha => absurd ha List.not_mem_nil
                obtain ⟨ds', R', z1, z2, z3, z4, _⟩ := dput_val key v2 g3 g4
                have ew : w = kV key := by
                  cases key with
                  | inl i => cases w2; rfl
                  | inr x => cases w2; rfl
                subst ew
                subst g5
                have hl : kvs.length < sizeLine := by
                  have h1 := hi.2
                  have l1 := g3.length
                  rw [List.length_map] at l1
                  have h2 : (zipK kvs ds).length = kvs.length := by simp [zipK, l1]
                  rw [h2] at h1
                  have := line1000; omega
                obtain ⟨r3, s3⟩ := write_dict r2 oi q1 g2 g6 z1 z4 z3 z2
                exact ⟨a0, _, rfl, DPut.k (k := key) g2 hl, kk _ _ _ r3 (.ofE ((s1.trans s2).trans s3))⟩
              · exact kk.elim
            · exact kk.elim
          · exact kk.elim
        · exact kk.elim
      · exact kk.elim
    · exact kk.elim
/-! ### d["k"].append(e), d["k"].pop(), d an owned dict that holds a list -/
/-- the list at a key of an owned dict -/
theorem own_dlist {σ : L2.St} {H : Hp} {ρ : EV} {F : Fo} {j : Nat} {t : Tab} {k : Key} {es : List PyData} (r : RepE K own σ H ρ F) (oj : own j = true) (e : ρ[j]? = some (some (.dict t))) (e2 : dget t k = some (.list es)) :
    ∃ a kvs l xs, σ[j]? = some (some (.ref a)) ∧ H a = some (.dK kvs) ∧ valV kvs k = some (.ref l) ∧ H l = some (.lst xs) ∧ (imms es = true → DVs K H xs es []) := by
  obtain ⟨a, kvs, ds, R, q1, q2, q3, q4, q5, q6⟩ := own_dict r oj e
  subst q5
  have h := dget_val k q3
  rw [e2] at h
  obtain ⟨v, R', h1, h2, h3⟩ := h
  cases h2 with
  | lst g1 g2 =>
    rename_i l xs R2
    exact ⟨a, kvs, l, xs, q1, q2, h1, g1, fun hi => DVs.imm_each hi g2⟩
theorem write_dlist {σ : L2.St} {H : Hp} {ρ : EV} {F : Fo} {j : Nat} {t : Tab} {k : Key} {es es' : List PyData} {a l : Addr} {kvs : List (Key × V)} {xs xs' : List V} (r : RepE K own σ H ρ F) (oj : own j = true) (e : ρ[j]? = some (some (.dict t))) (e2 : dget t k = some (.list es)) (hi : imms es = true)
    (h1 : σ[j]? = some (some (.ref a))) (h2 : H a = some (.dK kvs)) (h3 : valV kvs k = some (.ref l)) (h4 : H l = some (.lst xs)) (hx : DVs K H xs' es' []) :
    RepE K own σ (upd H l (.lst xs')) (ρ.set j (some (.dict (dput t k (.list es'))))) (setF F j (F j)) ∧ Stp own H F (upd H l (.lst xs')) (setF F j (F j)) := by
  obtain ⟨a', kvs', ds, R, q1, q2, q3, q4, q5, q6⟩ := own_dict r oj e
  rw [h1] at q1; cases q1
  rw [h2] at q2; cases q2
  subst q5
  have nd := r.nod j oj
  rw [q6] at nd
  have nd' := List.nodup_cons.mp nd
  obtain ⟨ds', z1, z2⟩ := dlist_val k h4 hx q3 nd'.2 h3 ⟨es, e2, hi⟩
  have hl : l ∈ R := by
    have h := dget_val k q3
    rw [e2] at h
    obtain ⟨v, R', g1, g2, g3⟩ := h
    rw [h3] at g1; cases g1
    cases g2 with
    | lst p1 p2 => exact g3 l List.mem_cons_self
  have hla : a ≠ l := fun z => by subst z; exact nd'.1 hl
  refine r.write oj h1 (fun b u e n => ?_) (fun b e => ?_) (by rw [q6]; exact .dic (by rw [upd_ne hla]; exact h2) z1 q4 z2) (r.nod j oj) fun b hb => ⟨?_, .inl hb⟩
  · rw [upd_ne fun z => n (by rw [q6, z]; exact List.mem_cons_of_mem _ hl)]; exact e
  · by_cases z : b = l
    · subst z; rw [upd_same]; simp
    · rw [upd_ne z]; exact e
  · by_cases z : b = l
    · subst z; rw [upd_same]; trivial
    · rw [upd_ne z]; exact r.mu j oj b hb
section
variable {i j : Nat} {o e : Expr} {apos cpos spos kpos : Pos} {p : Bool} {f : FX} {c kj : Nat} {key : Str}
def fDappend (i : Nat) (key : Str) (f : FX) : FX := fun ρ => match ρ[i]? with
  | some (some (.dict t0)) => match dget t0 (.inr key) with
    | some (.list _) => match f ρ with
      | some (d, ρ1) => match ρ1[i]? with
        | some (some (.dict t)) => match dget t (.inr key) with
          | some (.list es) => if (imm d && imms es && decide (es.length < 1000000)) = true then some (.none, ρ1.set i (some (.dict (dput t (.inr key) (.list (es ++ [d])))))) else none
          | _ => none
        | _ => none
      | none => none
    | _ => none
  | _ => none
theorem fe_dappend (hr : Room j X.A) (ho : PE X o (tVar i)) (oi : own i = true) (he : FE X own c true e f)
    (hsl : NoSl (.Constant (.str key) kj kpos) := by intro _ _; rfl) (hbase : attributeBase (.Subscript o (.Constant (.str key) kj kpos) spos) "append" X.env (eval (.Subscript o (.Constant (.str key) kj kpos) spos) X.env) = eval (.Subscript o (.Constant (.str key) kj kpos) spos) X.env := by rfl)
    (hfew : ((backTo cpos (starEach [e] X.env)).all (fun x => !x.1) && (backToKw cpos (keywordEach [] X.env)).all (fun x => x.1.isSome)
      && decide (([e] : List Expr).length + ([] : List Keyword).length + (if ([] : List Keyword).isEmpty then 0 else 1) < 30)) = true := by rfl)
    (hline : (apos.endLine == cpos.line) = true := by rfl) (hs : starEach [e] X.env = (false, eval e X.env) :: starEach [] X.env := by rfl) (hplain : (backTo cpos (starEach [] X.env)).any (·.1) = false := by rfl) :
    FE X own 2 false (.Call (.Attribute (.Subscript o (.Constant (.str key) kj kpos) spos) "append" apos) [e] [] cpos) (fDappend i key f) :=
  (pe_bm PySem.F.plainAttrs_list PySem.F.slot_list_append PySem.F.type_list_append mt_append (pe_dget (hu_of hr) ho pe_str hsl) (pa_cons he pa_nil hs) hbase hfew hline hs hplain).conv fun σ H Q ⟨ρ, F, d, ρ', r, e1, k⟩ => by
    unfold fDappend at e1
    split at e1
    · rename_i t0 e0
      split at e1
      · rename_i es0 ed0
        obtain ⟨a0, kvs0, l0, xs0, q1, q2, q3, q4, _⟩ := own_dlist r oi e0 ed0
        split at e1
        · rename_i y ρ1 ef
          split at e1
          · rename_i t e2
            split at e1
            · rename_i es ed
              split at e1
              · rename_i hi
                simp only [Bool.and_eq_true, decide_eq_true_eq] at hi
                cases e1
                have dg : DGet H a0 (.str key) (some (.ref l0)) := by
                  have := DGet.k (k := Sum.inr key) q2
                  rwa [q3] at this
                refine ⟨_, q1, a0, .ref l0, rfl, dg, .inl ⟨rfl, _, SqL.of q4⟩, ρ, F, y, ρ1, r, ef, fun v H1 F1 R1 r1 s1 p1 v1 c1 => ?_⟩
                obtain ⟨pe1, pe2, pe3⟩ := p1 rfl
                subst pe1 pe2
                obtain ⟨a, kvs, l, xs, h1, h2, h3, h4, h5⟩ := own_dlist r1 oi e2 ed
                rw [q1] at h1; cases h1
                rw [pe3 _ _ q2] at h2; cases h2
                rw [q3] at h3; cases h3
                rw [pe3 _ _ q4] at h4; cases h4
                have eR := v1.imm_nil hi.1.1
                subst eR
                have f5 := h5 hi.1.2
                have hx := f5.append (.cons v1 .nil)
                rw [List.append_nil] at hx
                obtain ⟨r2, s2⟩ := write_dlist r1 oi e2 ed hi.1.2 q1 (pe3 _ _ q2) q3 (pe3 _ _ q4) hx
                have bl := big_line
                exact ⟨l0, xs0, v, rfl, rfl, pe3 _ _ q4, by rw [f5.length]; omega, k _ _ _ [] r2 (s1.trans s2) (fun z => nomatch z) .non .nil⟩
              · cases e1
            · cases e1
          · cases e1
        · cases e1
      · cases e1
    · cases e1
def fDpop (i : Nat) (key : Str) : FX := fun ρ => match ρ[i]? with
  | some (some (.dict t)) => match dget t (.inr key) with
    | some (.list es) => if imms es = true then match es[es.length - 1]? with
        | some d => some (d, ρ.set i (some (.dict (dput t (.inr key) (.list es.dropLast)))))
        | none => none
      else none
    | _ => none
  | _ => none
theorem fe_dpop (hr : Room j X.A) (ho : PE X o (tVar i)) (oi : own i = true)
    (hsl : NoSl (.Constant (.str key) kj kpos) := by intro _ _; rfl) (hbase : attributeBase (.Subscript o (.Constant (.str key) kj kpos) spos) "pop" X.env (eval (.Subscript o (.Constant (.str key) kj kpos) spos) X.env) = eval (.Subscript o (.Constant (.str key) kj kpos) spos) X.env := by rfl)
    (hline : (apos.endLine == cpos.line) = true := by rfl) :
    FE X own 2 false (.Call (.Attribute (.Subscript o (.Constant (.str key) kj kpos) spos) "pop" apos) [] [] cpos) (fDpop i key) :=
  (pe_bm0 PySem.F.plainAttrs_list PySem.F.slot_list_pop PySem.F.type_list_pop mt_pop (pe_dget (hu_of hr) ho pe_str hsl) hbase hline).conv fun σ H Q ⟨ρ, F, d, ρ', r, e1, k⟩ => by
    unfold fDpop at e1
    split at e1
    · rename_i t e0
      split at e1
      · rename_i es ed
        split at e1
        · rename_i hi
          split at e1
          · rename_i y ey
            cases e1
            obtain ⟨a0, kvs0, l0, xs0, q1, q2, q3, q4, q5⟩ := own_dlist r oi e0 ed
            have f5 := q5 hi
            obtain ⟨v, R', h1, h2, h3⟩ := f5.get ey
            have eR : R' = [] := List.eq_nil_iff_forall_not_mem.mpr fun a ha => List.not_mem_nil (h3 a ha)
            subst eR
            have dg : DGet H a0 (.str key) (some (.ref l0)) := by
              have := DGet.k (k := Sum.inr key) q2
              rwa [q3] at this
            obtain ⟨r2, s2⟩ := write_dlist r oi e0 ed hi q1 q2 q3 q4 f5.dropLast
            exact ⟨_, q1, a0, .ref l0, rfl, dg, .inl ⟨rfl, _, SqL.of q4⟩, l0, xs0, v, rfl, rfl, q4, by rw [f5.length]; exact h1, k v _ _ [] r2 s2 (fun z => nomatch z) (h2.step r s2.toStpS fun a ha => absurd ha List.not_mem_nil) .nil⟩
          · cases e1
        · cases e1
      · cases e1
    · cases e1
end
/-! ### dict displays -/
theorem fe_dnew {pos : Pos} : FE X own 2 true (.Dict [] [] pos) (fC (.dict [])) := pe_dnewK.conv fun σ H Q ⟨ρ, F, d, ρ', r, e1, k⟩ p hp => by
  cases e1
  have sm : Same H (upd H p (.dK [])) := same_upd hp
  exact k (.ref p) _ F [p] (r.same sm) (.same sm) (fun _ => ⟨rfl, rfl, sm⟩) (.dic upd_same .nil (by simp) rfl) ⟨fun _ a ha => by
    have e : a = p := by simpa using ha
    subst e; exact r.fresh hp, fun _ => ⟨by simp, fun a ha => by
    have e : a = p := by simpa using ha
    subst e; exact ⟨hp, by rw [upd_same]; trivial⟩⟩⟩
end
end FP
namespace FP
open PySem PySem.Spec PyProof.Rows L2
/-! ### pairs that an iterator of pairs brings: from lists and tuples in any mixture -/
/-- G: the sources stand; n: so many pairs; Y: the pair of turn i -/
def It2 (G : Hp → Prop) (n : Nat) (Y : Nat → V → V → Prop) : It :=
  ⟨fun i H => G H ∧ i < n, fun i H v H' => ∃ T o x y, v = .ref T ∧ H T = none ∧ H' = upd H T (.frz o (.tup [x, y])) ∧ o.dict = none ∧ Y i x y, fun i H => G H ∧ n ≤ i⟩
/-- each item is a new tuple, known as an object -/
def Fresh (P : Program) (w : World) (A : Around) (it : Addr) (wr : List Addr) (n : Nat) (Pt : Nat → Array Value → Prop) (St : Nat → Heap → Prop) (Mid : Nat → Addr → Heap → Prop) : Prop :=
  ∀ (i : Nat) (s : Shared) (Q : Option Value → Shared → Prop) (E : Value → Shared → Prop), i < n → St i s.heap →
    (∀ vals h' tk, Pt i vals → h'.get? s.heap.objs.size = some { cls := .type "tuple", data := .seq vals } → Mid i s.heap.objs.size h' → (∀ b o, b ∉ wr → s.heap.get? b = some o → h'.get? b = some o) → Q (some (.ref s.heap.objs.size)) { s with heap := h', toks := tk }) →
    wpAny (model P w) A (pyNext (.ref it)) Q E s
/-- an iterator of pairs that walks as the library tells (WalksT) takes turns -/
theorem turn_pairs {P : Program} {w : World} {K : PySem.W.Frag} {elts : List Expr} {kk : Nat} {tpos : Pos} {it : Addr} {fp wr : List Addr} {n : Nat} {G : Hp → Prop} {Y : Nat → V → V → Prop} {C : Nat → Heap → Prop}
    (mem : it ∈ fp) (sub : ∀ b ∈ wr, b ∈ fp) (obj : ∀ i h, C i h → ∀ b ∈ fp, ∃ o, h.get? b = some o ∧ ∀ v, o.data ≠ .cell v)
    (keep : ∀ i h h', C i h → (∀ b ∈ fp, ∀ o, h.get? b = some o → h'.get? b = some o) → C i h')
    (walk : ∀ (X : Cx) (pins : List (Addr × Obj)) (σ : L2.St) (H : Hp) (s : Shared), X.prog = P → X.w = w → X.K = K → X.calm = true → Inv X pins σ H s → G H →
      ∃ fpa Pt St Mid, WalksT X.prog X.w X.A it fpa wr n Pt St Mid ∧ Fresh X.prog X.w X.A it wr n Pt St Mid ∧ (∀ i, C i s.heap → St i s.heap) ∧ (∀ i h, St i h → C i h) ∧ ∀ i vals, Pt i vals → ∃ x y u u', vals = #[u, u'] ∧ RelV x u ∧ RelV y u' ∧ Y i x y)
    (self : ∀ (A : Around) (i : Nat) (s : Shared) (Q : Value → Shared → Prop) (E : Value → Shared → Prop), C i s.heap → Q (.ref it) s → wpAny (model P w) A (pyIter (.ref it)) Q E s) :
    Turn P w K (.Tuple elts kk tpos) (It2 G n Y) fp it (fun i h => C i h ∧ i ≤ n) where
  mem := mem
  obj := fun i h st => obj i h st.1
  keep := fun i h h' st k => ⟨keep i h h' st.1 k, st.2⟩
  item := by
    intro X hP hw hK hc i pins s σ H E I hf st hg
    obtain ⟨g, hi⟩ := hg
    obtain ⟨fpa, Pt, St, Mid, W, N, c1, c2, c3⟩ := walk X pins σ H s hP hw hK hc I g
    subst hP hw hK
    refine N i s _ _ hi (c1 i st.1) fun vals h' tk hp hT hm hk => ?_
    refine ⟨_, rfl, W.go _ _ _ i _ _ _ _ hm fun h'' hs hk2 => ?_⟩
    obtain ⟨x, y, u, u', e, rx, ry, hy⟩ := c3 i vals hp
    subst e
    have tup : h''.get? s.heap.objs.size = some (oTup [u, u']) := hk2 _ _ (W.apart i _ h' hm) hT
    have new : ObjOk X.prog X.w (upd H s.heap.objs.size (fTupO [u, u'] [x, y])) h'' s.heap.objs.size (fTupO [u, u'] [x, y]) := ⟨tup, by show 2 ≤ sizeLine; decide, [u, u'], .cons rx (.cons ry .nil), ⟨_, tup, rfl, _, rfl⟩⟩
    have I1 : Inv X pins σ (upd H s.heap.objs.size (fTupO [u, u'] [x, y])) { s with heap := h'', toks := tk } :=
      I.turnedNew (t' := tk) (ch := wr) (fun c o hb q => hk2 c o hb (hk c o hb q)) (fun b hb => hf b (sub b hb)) (Nat.le_refl _) new
    refine ⟨.ref s.heap.objs.size, _, I1, rfl, ⟨_, _, x, y, rfl, I.hok.fresh (Nat.le_refl _), rfl, rfl, hy⟩, ⟨c2 _ _ hs, hi⟩, fun c hcm => ?_⟩
    obtain ⟨o, ho, _⟩ := obj i s.heap st.1 c hcm
    rw [upd_ne (Nat.ne_of_lt (Heap.lt_size ho))]
    exact (hf c hcm).1
  done := by
    intro X hP hw hK hc i pins s σ H E I hf st hg
    obtain ⟨g, hi⟩ := hg
    obtain ⟨fpa, Pt, St, Mid, W, N, c1, c2, c3⟩ := walk X pins σ H s hP hw hK hc I g
    subst hP hw hK
    have e : i = n := Nat.le_antisymm st.2 hi
    subst e
    exact W.done s _ _ (c1 _ st.1) fun h' tk hk => ⟨rfl, I.turnedL (t' := tk) (ch := wr) hk fun b hb => hf b (sub b hb)⟩
  self := fun A i s Q E st h => self A i s Q E st.1 h
theorem vals_back : ∀ {xs : List V} {us : List Value} {i : Nat} {u : Value}, Vals xs us → us[i]? = some u → ∃ x, xs[i]? = some x ∧ RelV x u
  | _, _, _, _, .nil, e => by simp at e
  | _, _, 0, _, .cons r _, e => by simp at e; subst e; exact ⟨_, rfl, r⟩
  | _, _, i + 1, _, .cons _ t, e => by
    obtain ⟨x, h1, h2⟩ := vals_back (i := i) t (by simpa using e)
    exact ⟨x, by simpa using h1, h2⟩
/-- a list or a tuple that is walked: C: where its iterator stands -/
structure Src (K : PySem.W.Frag) (a : Addr) (xs : List V) (G : Hp → Prop) (C : Addr → Nat → Heap → Prop) : Prop where
  draws : ∀ (X : Cx) (pins : List (Addr × Obj)) (σ : L2.St) (H : Hp) (s : Shared), X.K = K → X.calm = true → Inv X pins σ H s → G H → ∀ it, a ≠ it →
    ∃ (its : List Value) (St : Nat → Heap → Prop), Vals xs its ∧ Draws X.prog X.w X.A.in1 it [it, a] xs.length (fun i v => its[i]? = some v) St ∧ (∀ i, C it i s.heap → St i s.heap) ∧ ∀ i h, St i h → C it i h
  beg : ∀ (X : Cx) (pins : List (Addr × Obj)) (σ : L2.St) (H : Hp) (s : Shared), X.K = K → Inv X pins σ H s → G H → ∃ o Hc, Begins (.ref a) o Hc ∧ Hc s.heap ∧ a < s.heap.objs.size ∧ ∀ h it, h.get? it = some o → C it 0 h
  obj : ∀ it i h, C it i h → ∃ o, h.get? it = some o ∧ ∀ v, o.data ≠ .cell v
  keep : ∀ it i h h', C it i h → (∀ o, h.get? it = some o → h'.get? it = some o) → C it i h'
section
variable {K : PySem.W.Frag} {a b : Addr} {xs ys : List V}
theorem src_lst : Src K a xs (fun H => SqL K H a xs) (fun it i h => h.IsListIter it a i) where
  draws := fun X pins σ H s hK hc I g it ne => by
    subst hK
    obtain ⟨its, rv, p, _⟩ := I.list g
    have e : its.toArray.size = xs.length := by simp [rv.length]
    have D := Draws.list (prog := X.prog) (w := X.w) (A := X.A.in1) (I.ok.hd hc) it a ne its.toArray
    rw [e] at D
    refine ⟨its, _, rv, ⟨D.live, D.frame, fun i s Q E hi st hQ => D.item i s Q E hi st fun x h' tk p => hQ x h' tk (by simpa using p), D.done⟩, fun i c => ⟨c, p.isList⟩, fun i h st => st.1⟩
  beg := fun X pins σ H s hK I g => by
    subst hK
    obtain ⟨its, rv, p, _⟩ := I.list g
    exact ⟨_, _, begins_list a its.toArray, p.isList, p.lt, fun h it e => ⟨_, e, rfl, rfl⟩⟩
  obj := fun it i h ⟨o, e1, _, d1⟩ => ⟨o, e1, fun v q => by rw [d1] at q; cases q⟩
  keep := fun it i h h' c k => c.at fun o e => k o e
theorem src_tup : Src K a xs (fun H => SqT K H a xs) (fun it i h => h.IsTupleIter it a i) where
  draws := fun X pins σ H s hK hc I g it ne => by
    subst hK
    obtain ⟨its, rv, p, _⟩ := I.tuple g
    have e : its.toArray.size = xs.length := by simp [rv.length]
    have D := Draws.tuple (prog := X.prog) (w := X.w) (A := X.A.in1) (I.ok.hd hc) it a ne its.toArray
    rw [e] at D
    refine ⟨its, _, rv, ⟨D.live, D.frame, fun i s Q E hi st hQ => D.item i s Q E hi st fun x h' tk p => hQ x h' tk (by simpa using p), D.done⟩, fun i c => ⟨c, p⟩, fun i h st => st.1⟩
  beg := fun X pins σ H s hK I g => by
    subst hK
    obtain ⟨its, rv, p, _⟩ := I.tuple g
    obtain ⟨o1, ho1, _⟩ := id p
    exact ⟨_, _, begins_tuple a its.toArray, p, Heap.lt_size ho1, fun h it e => ⟨_, e, rfl, rfl⟩⟩
  obj := fun it i h ⟨o, e1, _, d1⟩ => ⟨o, e1, fun v q => by rw [d1] at q; cases q⟩
  keep := fun it i h h' c k => c.at fun o e => k o e
/-! zip -/
def YZip (xs ys : List V) : Nat → V → V → Prop := fun i x y => xs[i]? = some x ∧ ys[i]? = some y
theorem turn_zipS {P : Program} {w : World} {elts : List Expr} {kk : Nat} {tpos : Pos} {G1 G2 : Hp → Prop} {C1 C2 : Addr → Nat → Heap → Prop} {z TI TO i1 i2 : Addr} (S1 : Src K a xs G1 C1) (S2 : Src K b ys G2 C2) (D : ZipSep2 z TI TO i1 i2 [i1, a] [i2, b]) (n1 : a ≠ i1) (n2 : b ≠ i2) :
    Turn P w K (.Tuple elts kk tpos) (It2 (fun H => G1 H ∧ G2 H) (min xs.length ys.length) (YZip xs ys)) [z, TI, TO, i1, i2] z
      (fun i h => (IsZip h z TI TO .none ∧ IsTupOf2 h TI (.ref i1) (.ref i2) ∧ (∃ x y, IsTupOf2 h TO x y) ∧ C1 i1 i h ∧ C2 i2 i h) ∧ i ≤ min xs.length ys.length) :=
  turn_pairs (wr := [z, TO, i1, i2]) (by simp) (fun b hb => by
      simp only [List.mem_cons, List.not_mem_nil, or_false] at hb ⊢
      rcases hb with h | h | h | h <;> simp [h])
    (fun i h ⟨hz, hTI, ⟨x, y, hTO⟩, h1, h2⟩ c hc => by
      simp only [List.mem_cons, List.not_mem_nil, or_false] at hc
      rcases hc with q | q | q | q | q
      · rw [q]; exact ⟨_, hz, fun v q => nomatch q⟩
      · rw [q]; exact ⟨_, hTI, fun v q => nomatch q⟩
      · rw [q]; exact ⟨_, hTO, fun v q => nomatch q⟩
      · rw [q]; exact S1.obj _ _ _ h1
      · rw [q]; exact S2.obj _ _ _ h2)
    (fun i h h' ⟨hz, hTI, ⟨x, y, hTO⟩, h1, h2⟩ k => ⟨k z (by simp) _ hz, k TI (by simp) _ hTI, ⟨x, y, k TO (by simp) _ hTO⟩, S1.keep _ _ _ _ h1 fun o q => k i1 (by simp) o q, S2.keep _ _ _ _ h2 fun o q => k i2 (by simp) o q⟩)
    (fun X pins σ H s hP hw hK hc I g => by
      obtain ⟨its, St1, rv, D1, c1, c2⟩ := S1.draws X pins σ H s hK hc I g.1 i1 n1
      obtain ⟨its2, St2, rv2, D2, d1, d2⟩ := S2.draws X pins σ H s hK hc I g.2 i2 n2
      refine ⟨_, _, _, _, WalksT.zipD2 D D1 D2, fun i s Q E hi ⟨hz, hTI, ⟨_, _, hTO⟩, st1, st2⟩ hQ => wpAny_pyNext_zipD2_item D D1 D2 hz hTI hTO st1 st2 (by omega) (by omega) fun x1 x2 h' tk y1 y2 b1 b2 d1 d2 b5 _ hk => ?_, fun i ⟨q1, q2, q3, q4, q5⟩ => ⟨q1, q2, q3, c1 i q4, d1 i q5⟩, fun i h ⟨q1, q2, q3, q4, q5⟩ => ⟨q1, q2, q3, c2 i h q4, d2 i h q5⟩, fun i vals ⟨u, u', h1, h2, e⟩ => ?_⟩
      · have lt : ∀ {c o}, s.heap.get? c = some o → s.heap.objs.size ≠ c := fun e => Nat.ne_of_gt (Heap.lt_size e)
        obtain ⟨_, l1⟩ := D1.live _ _ st1
        obtain ⟨_, l2⟩ := D2.live _ _ st2
        exact hQ _ h' tk ⟨x1, x2, y1, y2, rfl⟩ b5 ⟨b1, hk _ _ D.TIz D.TITO D.TIi1 D.TIi2 hTI, ⟨_, _, b2⟩, d1, d2, lt hz, lt hTO, lt l1, lt l2⟩ fun c o hc e => by
          simp only [List.mem_cons, List.not_mem_nil, or_false, not_or] at hc
          exact hk c o hc.1 hc.2.1 hc.2.2.1 hc.2.2.2 e
      obtain ⟨x, hx, rx⟩ := vals_back rv h1
      obtain ⟨y, hy, ry⟩ := vals_back rv2 h2
      exact ⟨x, y, u, u', e, rx, ry, hx, hy⟩)
    (fun A i s Q E st h => wpAny_pyIter_zip st.1 h)
end
section
variable {X : Cx} {K : PySem.W.Frag} {a b : Addr} {xs ys : List V}
theorem five_new {pins : List (Addr × Obj)} {σ : L2.St} {H : Hp} {s : Shared} (I : Inv X pins σ H s) (k : Nat) : FpOk X pins H (s.heap.objs.size + k) :=
  I.fpOk (Nat.le_add_right _ _) (I.hok.fresh (Nat.le_add_right _ _))
/-- what zip is asked for -/
def iZipS (K : PySem.W.Frag) (ta : TA) : TI := fun σ H R => ta σ H fun vs H1 => ∃ a b xs ys G1 G2 C1 C2, vs = [.ref a, .ref b] ∧ Src K a xs G1 C1 ∧ Src K b ys G2 C2 ∧ G1 H1 ∧ G2 H1 ∧ R (It2 (fun H => G1 H ∧ G2 H) (min xs.length ys.length) (YZip xs ys)) H1
theorem pi_zipS {e e2 : Expr} {ta : TA} {p pos tpos : Pos} {elts : List Expr} {kk : Nat} (hg : Gl X "zip") (hm : X.mg "zip" = none) (ha : PA X [e, e2] ta)
    (hs : starEach [e, e2] X.env = (false, eval e X.env) :: starEach [e2] X.env := by rfl) (hpl : (backTo pos (starEach [e2] X.env)).any (·.1) = false := by rfl) :
    PI X (.Tuple elts kk tpos) (.Call (.Name "zip" p) [e, e2] [] pos) (iZipS X.K ta) := by
  refine ⟨fun pins s σ H R I h => ?_⟩
  refine Call_ (ld_blt I hg hm PyProof.Rows.boot_zip (PyProof.Rows.callWith_type1 (thn (ha.run pos pins s σ H _ I h) fun us s1 ⟨vs, H1, I1, r1, q1⟩ => ?_) hs hpl))
  obtain ⟨a, b, xs, ys, G1, G2, C1, C2, rfl, S1, S2, g1, g2, q⟩ := q1
  cases r1 with
  | cons r rr =>
    cases rr with
    | cons r' rr =>
      cases rr
      cases r
      cases r'
      obtain ⟨o1, Hc1, B1, b1, l1, f1⟩ := S1.beg X pins σ H1 s1 rfl I1 g1
      obtain ⟨o2, Hc2, B2, b2, l2, f2⟩ := S2.beg X pins σ H1 s1 rfl I1 g2
      refine zip_begins2 B1 B2 b1 b2 fun h' hz hTI hTO e1 e2 hsz hk => wpAny_pyIter_zip hz ?_
      have I2 : Inv X pins σ H1 { s1 with heap := h' } := I1.kept (t' := s1.toks) hk
      have D : ZipSep2 (s1.heap.objs.size + 4) (s1.heap.objs.size + 2) (s1.heap.objs.size + 3) s1.heap.objs.size (s1.heap.objs.size + 1) [s1.heap.objs.size, a] [s1.heap.objs.size + 1, b] :=
        zip_sep2 (N := s1.heap.objs.size) (fp1 := [a]) (fp2 := [b]) (fun c hc => by rw [List.mem_singleton.mp hc]; exact l1) (fun c hc => by rw [List.mem_singleton.mp hc]; exact l2)
      refine ⟨s1.heap.objs.size + 4, [s1.heap.objs.size + 4, s1.heap.objs.size + 2, s1.heap.objs.size + 3, s1.heap.objs.size, s1.heap.objs.size + 1], _, _, H1, rfl, I2,
        turn_zipS S1 S2 D (Nat.ne_of_lt l1) (Nat.ne_of_lt (Nat.lt_succ_of_lt l2)), ⟨⟨hz, hTI, ⟨_, _, hTO⟩, f1 _ _ e1, f2 _ _ e2⟩, Nat.zero_le _⟩, fun c hcm => ?_, q⟩
      simp only [List.mem_cons, List.not_mem_nil, or_false] at hcm
      rcases hcm with z | z | z | z | z
      · rw [z]; exact five_new I1 4
      · rw [z]; exact five_new I1 2
      · rw [z]; exact five_new I1 3
      · rw [z]; exact five_new I1 0
      · rw [z]; exact five_new I1 1
/-! enumerate, from the count k -/
def YEnum (k : Int) (xs : List V) : Nat → V → V → Prop := fun i x y => x = .int (k + i) ∧ xs[i]? = some y
theorem turn_enumS {P : Program} {w : World} {elts : List Expr} {kk : Nat} {tpos : Pos} {G : Hp → Prop} {C : Addr → Nat → Heap → Prop} {e it : Addr} (k : Int) (S : Src K a xs G C) (n1 : e ≠ it) (n2 : e ≠ a) (n3 : a ≠ it) :
    Turn P w K (.Tuple elts kk tpos) (It2 G xs.length (YEnum k xs)) [e, it] e (fun i h => ((∃ old, IsEnum h e it (k + (i : Int)) old) ∧ C it i h) ∧ i ≤ xs.length) :=
  turn_pairs (wr := [e, it]) (by simp) (fun b hb => hb)
    (fun i h ⟨⟨old, he⟩, h1⟩ c hc => by
      simp only [List.mem_cons, List.not_mem_nil, or_false] at hc
      rcases hc with q | q
      · rw [q]; exact ⟨_, he, fun v q => nomatch q⟩
      · rw [q]; exact S.obj _ _ _ h1)
    (fun i h h' ⟨⟨old, he⟩, h1⟩ k => ⟨⟨old, k e (by simp) _ he⟩, S.keep _ _ _ _ h1 fun o q => k it (by simp) o q⟩)
    (fun X pins σ H s hP hw hK hc I g => by
      obtain ⟨its, St1, rv, D1, c1, c2⟩ := S.draws X pins σ H s hK hc I g it n3
      refine ⟨_, _, _, _, WalksT.enumFrom k D1 e n1 (by simp [n1, n2]) (by simp), fun i s Q E hi ⟨⟨_, he⟩, st1⟩ hQ => wpAny_pyNext_enum_itemC D1 he st1 hi n1 (by simp [n1, n2]) fun x h' tk hP ho hs' hT _ hk => ?_, fun i ⟨q1, q2⟩ => ⟨q1, c1 i q2⟩, fun i h ⟨q1, q2⟩ => ⟨q1, c2 i h q2⟩, fun i vals ⟨t, u, h1, e⟩ => ?_⟩
      · obtain ⟨_, l1⟩ := D1.live _ _ st1
        exact hQ _ h' (tk + 1) ⟨_, _, hP, rfl⟩ hT ⟨⟨_, ho⟩, hs', Nat.ne_of_gt (Heap.lt_size he), Nat.ne_of_gt (Heap.lt_size l1)⟩ fun c o hc e => by
          simp only [List.mem_cons, List.not_mem_nil, or_false, not_or] at hc
          exact hk c o hc.1 hc.2 e
      obtain ⟨x, hx, rx⟩ := vals_back rv h1
      exact ⟨.int (k + i), x, _, u, e, ⟨t, rfl⟩, rx, rfl, hx⟩)
    (fun A i s Q E st h => let ⟨⟨_, he⟩, _⟩ := st; wpAny_pyIter_enum he h)
/-- enumerate of anything whose iterator is known, as it is made: no count told -/
theorem enum_made {v : Value} {o : Obj} {Hc : Heap → Prop} (B : Begins v o Hc) :
    Meets (Builtin.«enumerate.__new__» ⟨[.type "enumerate", v], []⟩) (fun _ R s => Hc s.heap ∧
      R (.ok (.ret (.ref (s.heap.push o).objs.size))) { s with heap := (s.heap.push o).push { cls := .type "enumerate", data := .fields #[.none, .bool false, .ref s.heap.objs.size, rawInt 0, .none, .none] } }) :=
  .of_wp fun prog w A R s ⟨h1, h⟩ => by
    have is := sub_enumerate
    have go : ∀ {A' : Around} {E : Value → Shared → Prop} {Q : Value → Shared → Prop}, Q (.ref s.heap.objs.size) { s with heap := s.heap.push o } → wpAny (model prog w) A' (pyIter v) Q E s := fun q => B.iter prog w _ _ s _ h1 q
    wp_walk using go
    refine wpAny_stack_any fun st => wpAny_pure ?_
    split
    next c _ _ _ _ _ =>
      cases (c == Value.type "enumerate") <;>
      · wp_walk using go
        exact ⟨_, rfl, h⟩
    next =>
      wp_walk using go
      exact ⟨_, rfl, h⟩
theorem enum_go {A : Around} {E : Value → Shared → Prop} {s : Shared} {P : Program} {w : World} {v : Value} {o : Obj} {Hc : Heap → Prop} {Q : Value → Shared → Prop} (B : Begins v o Hc) (h1 : Hc s.heap)
    (h : ∀ h', IsEnum h' (s.heap.objs.size + 1) s.heap.objs.size 0 .none → h'.get? s.heap.objs.size = some o → (∀ b o, s.heap.get? b = some o → h'.get? b = some o) → Q (.ref (s.heap.objs.size + 1)) { s with heap := h' }) :
    wpAny (model P w) A (call (.type "enumerate") [v]) Q E s := by
  refine callType_new F.called_enumerate (by decide) (F.typeCall_enumerate_1 _) (F.newCall_enumerate_1 _) (fun obj => F.args_object_init_2 obj _) F.entry_enumerate_new (enum_made B) ⟨h1, ?_⟩
  let oe : Obj := { cls := .type "enumerate", data := .fields #[.none, .bool false, .ref s.heap.objs.size, rawInt 0, .none, .none] }
  have sz : (s.heap.push o).objs.size = s.heap.objs.size + 1 := Heap.size_push ..
  have at_ : ((s.heap.push o).push oe).get? (s.heap.objs.size + 1) = some oe := by
    rw [← sz]; exact Heap.get?_push_size _ rfl
  show _ ∧ Q (.ref (s.heap.push o).objs.size) _
  rw [sz]
  exact ⟨⟨_, at_, rfl⟩, h _ at_ (Heap.get?_push_of_some _ (Heap.get?_push_size _ B.free)) fun b o x => Heap.get?_push_of_some _ (Heap.get?_push_of_some _ x)⟩
def iEnumS (K : PySem.W.Frag) (ta : TA) : TI := fun σ H R => ta σ H fun vs H1 => ∃ a xs G C, vs = [.ref a] ∧ Src K a xs G C ∧ G H1 ∧ R (It2 G xs.length (YEnum 0 xs)) H1
theorem pi_enumS {e : Expr} {ta : TA} {p pos tpos : Pos} {elts : List Expr} {kk : Nat} (hg : Gl X "enumerate") (hm : X.mg "enumerate" = none) (ha : PA X [e] ta) (hs : starEach [e] X.env = [(false, eval e X.env)] := by rfl) :
    PI X (.Tuple elts kk tpos) (.Call (.Name "enumerate" p) [e] [] pos) (iEnumS X.K ta) := by
  refine ⟨fun pins s σ H R I h => ?_⟩
  refine Call_ (ld_blt I hg hm boot_enumerate (PyProof.Rows.callWith_type1 (thn (ha.run pos pins s σ H _ I h) fun us s1 ⟨vs, H1, I1, r1, q1⟩ => ?_) hs rfl))
  obtain ⟨a, xs, G, C, rfl, S, g, q⟩ := q1
  cases r1 with
  | cons r rr =>
    cases rr
    cases r
    obtain ⟨o, Hc, B, b, l, f⟩ := S.beg X pins σ H1 s1 rfl I1 g
    refine enum_go B b fun h' he ho hk => wpAny_pyIter_enum he ?_
    have I2 : Inv X pins σ H1 { s1 with heap := h' } := I1.kept (t' := s1.toks) hk
    refine ⟨s1.heap.objs.size + 1, [s1.heap.objs.size + 1, s1.heap.objs.size], _, _, H1, rfl, I2,
      turn_enumS 0 S (Nat.succ_ne_self _) (Nat.ne_of_gt (Nat.lt_succ_of_lt l)) (Nat.ne_of_lt l), ⟨⟨⟨.none, he⟩, f _ _ ho⟩, Nat.zero_le _⟩, fun c hcm => ?_, q⟩
    simp only [List.mem_cons, List.not_mem_nil, or_false] at hcm
    rcases hcm with z | z
    · rw [z]; exact five_new I1 1
    · rw [z]; exact five_new I1 0
end
/-! their readings -/
def seqOf : PyData → Option (List PyData)
  | .list ds => some ds
  | .tuple ds => some ds
  | _ => none
section
variable {X : Cx} {own : Nat → Bool} {pos : Pos} {K : PySem.W.Frag}
/-- a value that reads as a list or tuple is a source -/
theorem DV.src {H : Hp} {v : V} {d : PyData} {R : List Addr} {ds : List PyData} (h : DV K H v d R) (e : seqOf d = some ds) : ∃ a xs G C R', v = .ref a ∧ Src K a xs G C ∧ G H ∧ DVs K H xs ds R' ∧ (∀ b ∈ R', b ∈ R) ∧ ∀ H', Ext R H H' → G H' := by
  cases h with
  | lst h1 h2 =>
    cases e
    exact ⟨_, _, _, _, _, rfl, src_lst, SqL.of h1, h2, fun b hb => List.mem_cons_of_mem _ hb, fun H' x => SqL.of (x _ _ h1 (.inr List.mem_cons_self))⟩
  | tup h1 h2 =>
    cases e
    exact ⟨_, _, _, _, _, rfl, src_tup, h1.sq, h2, fun b hb => hb, fun H' x => SqT.ext h1.sq x⟩
  | _ => cases e
def pairsD (xs ys : List PyData) : List PyData := List.zipWith (fun x y => .tuple [x, y]) xs ys
def fZip (fs : FL) : FIt := fun ρ => match fs ρ with
  | some ([a, b], ρ1) => match seqOf a, seqOf b with
    | some xs, some ys => some (pairsD xs ys, ρ1)
    | _, _ => none
  | _ => none
def enumD (xs : List PyData) : List PyData := xs.mapIdx fun i x => .tuple [.int i, x]
def fEnum (f : FX) : FIt := fun ρ => match f ρ with
  | some (a, ρ1) => match seqOf a with
    | some xs => some (enumD xs, ρ1)
    | none => none
  | none => none
theorem dv_pair {H : Hp} {T : Addr} {o : Obj} {x y : V} {d e : PyData} {R R' : List Addr} (dn : o.dict = none) (hT : H T = none) (h1 : DV K H x d R) (h2 : DV K H y e R') : DV K (upd H T (.frz o (.tup [x, y]))) (.ref T) (.tuple [d, e]) (R ++ (R' ++ [])) :=
  .tup (.of upd_same dn) ((DVs.cons h1 (.cons h2 .nil)).same (same_upd hT))
theorem fi_zip {e e2 : Expr} {c : Nat} {p : Bool} {fs : FL} {px tpos : Pos} {elts : List Expr} {kk : Nat} (hg : Gl X "zip") (hm : X.mg "zip" = none) (ha : FA X own c p [e, e2] fs) (hc1 : 1 ≤ c := by decide)
    (hs : starEach [e, e2] X.env = (false, eval e X.env) :: starEach [e2] X.env := by rfl) (hpl : (backTo pos (starEach [e2] X.env)).any (·.1) = false := by rfl) :
    FI X own (.Tuple elts kk tpos) c p (.Call (.Name "zip" px) [e, e2] [] pos) (fZip fs) :=
  (pi_zipS hg hm ha hs hpl).conv fun σ H Q ⟨ρ, F, ds, ρ', r, e1, k⟩ => by
    unfold fZip at e1
    split at e1
    · rename_i da db ρ1 ea
      split at e1
      · rename_i xd yd ex ey
        cases e1
        refine ⟨ρ, F, _, ρ', r, ea, fun vs H' F' R r' s' p' hv hc => ?_⟩
        cases hv with
        | cons h1 t =>
          cases t with
          | cons h2 t =>
            cases t
            rename_i v1 Ra v2 Rb
            obtain ⟨a, xs, G1, C1, R1, e1, S1, g1, dx, m1, k1⟩ := h1.src ex
            obtain ⟨b, ys, G2, C2, R2, e2, S2, g2, dy, m2, k2⟩ := h2.src ey
            subst e1 e2
            refine ⟨a, b, xs, ys, G1, G2, C1, C2, rfl, S1, S2, g1, g2, k _ H' F' (Ra ++ (Rb ++ [])) (Ra ++ (Rb ++ [])) r' s' p' ?_ hc.1 fun z hz => ⟨hc.1 hc1 z hz, ?_⟩⟩
            · have len : (pairsD xd yd).length = min xs.length ys.length := by simp [pairsD, dx.length, dy.length]
              have x1 : ∀ {H2}, Ext (Ra ++ (Rb ++ [])) H' H2 → Ext Ra H' H2 := fun x a o q z => x a o q (z.imp id fun m => List.mem_append_left _ m)
              have x2 : ∀ {H2}, Ext (Ra ++ (Rb ++ [])) H' H2 → Ext Rb H' H2 := fun x a o q z => x a o q (z.imp id fun m => List.mem_append_right _ (List.mem_append_left _ m))
              refine ⟨fun H2 i x hi => ⟨⟨k1 _ (x1 x), k2 _ (x2 x)⟩, by rw [← len]; exact hi⟩, fun H2 i v H3 x hi y => ?_, fun H2 i x hi => ⟨⟨k1 _ (x1 x), k2 _ (x2 x)⟩, by rw [← len]; exact hi⟩⟩
              obtain ⟨T, o, vx, vy, rfl, hT, rfl, dn, qx, qy⟩ := y
              obtain ⟨d1, R3, z1, z2, z3⟩ := dx.get' qx
              obtain ⟨d2, R4, w1, w2, w3⟩ := dy.get' qy
              refine ⟨same_upd hT, .tuple [d1, d2], _, ?_, dv_pair dn hT (z2.ext (x1 x) fun a ha => m1 a (z3 a ha)) (w2.ext (x2 x) fun a ha => m2 a (w3 a ha)), fun a ha => ?_⟩
              · simp [pairsD, List.getElem?_zipWith, z1, w1]
              · simp only [List.mem_append, List.not_mem_nil, or_false] at ha ⊢
                rcases ha with h | h
                · exact .inl (m1 a (z3 a h))
                · exact .inr (m2 a (w3 a h))
            · simp only [List.mem_append, List.not_mem_nil, or_false] at hz
              rcases hz with h | h
              · exact h1.tracked z h
              · exact h2.tracked z h
      · cases e1
    · cases e1
theorem fi_enum {e : Expr} {c : Nat} {p : Bool} {f : FX} {px tpos : Pos} {elts : List Expr} {kk : Nat} (hg : Gl X "enumerate") (hm : X.mg "enumerate" = none) (ha : FE X own c p e f) (hc1 : 1 ≤ c := by decide)
    (hs : starEach [e] X.env = [(false, eval e X.env)] := by rfl) : FI X own (.Tuple elts kk tpos) c p (.Call (.Name "enumerate" px) [e] [] pos) (fEnum f) :=
  (pi_enumS hg hm (pa_cons ha pa_nil hs) hs).conv fun σ H Q ⟨ρ, F, ds, ρ', r, e1, k⟩ => by
    unfold fEnum at e1
    split at e1
    · rename_i da ρ1 ea
      split at e1
      · rename_i xd ex
        cases e1
        refine ⟨ρ, F, _, ρ', r, ea, fun v H' F' R r' s' p' hv hc => ?_⟩
        obtain ⟨a, xs, G1, C1, R1, e1, S1, g1, dx, m1, k1⟩ := hv.src ex
        subst e1
        refine ⟨a, xs, G1, C1, rfl, S1, g1, k _ H' F' R R r' s' p' ?_ hc.1 fun z hz => ⟨hc.1 hc1 z hz, hv.tracked z hz⟩⟩
        have len : (enumD xd).length = xs.length := by simp [enumD, dx.length]
        refine ⟨fun H2 i x hi => ⟨k1 _ x, by rw [← len]; exact hi⟩, fun H2 i v H3 x hi y => ?_, fun H2 i x hi => ⟨k1 _ x, by rw [← len]; exact hi⟩⟩
        obtain ⟨T, o, vx, vy, rfl, hT, rfl, dn, qx, qy⟩ := y
        obtain ⟨d1, R3, z1, z2, z3⟩ := dx.get' qy
        subst qx
        refine ⟨same_upd hT, .tuple [.int i, d1], _, ?_, dv_pair dn hT (by simpa using DV.int (i : Int)) (z2.ext x fun a ha => m1 a (z3 a ha)), fun a ha => ?_⟩
        · simp [enumD, List.getElem?_mapIdx, z1]
        · simpa using m1 a (z3 a (by simpa using ha))
      · cases e1
    · cases e1
end
end FP
namespace FP
open PySem PySem.Spec PyProof.Rows L2
section
variable {X : Cx} {K : PySem.W.Frag}
/-! ### in, not in: data of any depth in lists and tuples, texts in texts -/
theorem Room.units1 {k : Nat} {A : Around} (r : Room k A) : A.units + 65 < cLine := by have := r.un; omega
def anyEq (d : PyData) (ds : List PyData) : Bool := ds.any fun z => PyData.eqv z d
def inStr (i j : Str) : Bool := !(Builtin.Str.occurrences j i 0 j.length 1).isEmpty
def ng (neg b : Bool) : Bool := if neg then !b else b
def rInQ (K : PySem.W.Frag) (neg : Bool) : R2 := fun x y H Q => ∃ d e ds, Dp K H x d ∧ Dp K H y e ∧ seqOf e = some ds ∧ SeqAt.shaped d = true ∧ SeqAt.shaped e = true ∧ Q (.bl (ng neg (anyEq d ds))) H
def rInT (neg : Bool) : R2 := fun x y H Q => ∃ i j, x = .str i ∧ y = .str j ∧ Q (.bl (ng neg (inStr i j))) H
theorem seqOf_cases {e : PyData} {ds : List PyData} (h : seqOf e = some ds) : e = .list ds ∨ e = .tuple ds := by
  cases e with
  | list a => exact .inl (by cases h; rfl)
  | tuple a => exact .inr (by cases h; rfl)
  | _ => cases h
theorem op_inQ (hu : X.A.units + 65 < cLine) : OpR X (compareOp .In) (rInQ X.K false) := by
  intro pins s σ H x y v u Q I rx ry ⟨d, e, ds, hd, he, es, sd, se, q⟩
  obtain ⟨as, r1⟩ := Dp.reads I d x v hd rx
  obtain ⟨bs, r2⟩ := Dp.reads I e y u he ry
  rcases seqOf_cases es with z | z
  · subst z; exact SeqAt.in_list_reads r2 r1 (SeqAt.canLay_of_shaped se) (SeqAt.canLay_of_shaped sd) (room_in_shaped sd hu) ⟨.bl _, H, I, rfl, q⟩
  · subst z; exact SeqAt.in_tuple_reads r2 r1 (SeqAt.canLay_of_shaped se) (SeqAt.canLay_of_shaped sd) (room_in_shaped sd hu) ⟨.bl _, H, I, rfl, q⟩
theorem op_notinQ (hu : X.A.units + 65 < cLine) : OpR X (compareOp .NotIn) (rInQ X.K true) := by
  intro pins s σ H x y v u Q I rx ry ⟨d, e, ds, hd, he, es, sd, se, q⟩
  obtain ⟨as, r1⟩ := Dp.reads I d x v hd rx
  obtain ⟨bs, r2⟩ := Dp.reads I e y u he ry
  rcases seqOf_cases es with z | z
  · subst z; exact SeqAt.notIn_list_reads r2 r1 (SeqAt.canLay_of_shaped se) (SeqAt.canLay_of_shaped sd) (room_in_shaped sd hu) ⟨.bl _, H, I, rfl, q⟩
  · subst z; exact SeqAt.notIn_tuple_reads r2 r1 (SeqAt.canLay_of_shaped se) (SeqAt.canLay_of_shaped sd) (room_in_shaped sd hu) ⟨.bl _, H, I, rfl, q⟩
def rInU (K : PySem.W.Frag) (neg : Bool) : R2 := rOr2 (rInT neg) (rInQ K neg)
theorem op_inU (hu : X.A.units + 65 < cLine) : OpR X (compareOp .In) (rInU X.K false) := op_in_str.or (op_inQ hu)
theorem op_notinU (hu : X.A.units + 65 < cLine) : OpR X (compareOp .NotIn) (rInU X.K true) := op_notin_str.or (op_notinQ hu)
def gInN (neg : Bool) : G2 := fun a b => match b with
  | .str y => match a with
    | .str x => some (.bool (ng neg (inStr x y)))
    | _ => none
  | b => match seqOf b with
    | some ds => if (okD a && okD b) = true then some (.bool (ng neg (anyEq a ds))) else none
    | none => none
theorem dop_inN {neg : Bool} : DOp K (rInU K neg) (gInN neg) := by
  intro H x y d e Rx Ry z Q hx hy hg k
  unfold gInN at hg
  split at hg
  · split at hg
    · cases hx; cases hy; cases hg
      exact .inl ⟨_, _, rfl, rfl, k _ H [] (.refl H) (.bl _) .nil⟩
    · cases hg
  · split at hg
    · rename_i ds es
      split at hg
      · rename_i h
        simp only [okD, Bool.and_eq_true] at h
        cases hg
        exact .inr ⟨d, _, ds, hx.dp h.1.1, hy.dp h.2.1, es, h.1.2, h.2.2, k _ H [] (.refl H) (.bl _) .nil⟩
      · cases hg
    · cases hg
abbrev gIn : G2 := gInN false
abbrev gNotIn : G2 := gInN true
theorem dop_in : DOp K (rInU K false) gIn := dop_inN
theorem dop_notin : DOp K (rInU K true) gNotIn := dop_inN
/-! ### is True -/
def gIsBN (neg : Bool) : G2 := fun a b => match a, b with
  | .bool x, .bool y => some (.bool (ng neg (decide (x = y))))
  | _, _ => none
abbrev gIsB : G2 := gIsBN false
abbrev gIsNB : G2 := gIsBN true
theorem dop_isB : DOp K rIsB gIsB := by
  intro H x y d e Rx Ry z Q hx hy hg k
  unfold gIsB gIsBN at hg
  split at hg
  · cases hx; cases hy; cases hg
    exact ⟨_, _, rfl, rfl, k _ H [] (.refl H) (.bl _) .nil⟩
  · cases hg
theorem dop_isNB : DOp K rNotB gIsNB := by
  intro H x y d e Rx Ry z Q hx hy hg k
  unfold gIsNB gIsBN at hg
  split at hg
  · cases hx; cases hy; cases hg
    exact ⟨_, _, rfl, rfl, k _ H [] (.refl H) (.bl _) .nil⟩
  · cases hg
/-! ### dict(pairs), of a list or a tuple -/
theorem pairs_at {pins : List (Addr × Obj)} {σ : L2.St} {H : Hp} {s : Shared} (I : Inv X pins σ H s) : ∀ {ps : List Addr} {kvs : List (Key × V)}, Paired (fun p (kv : Key × V) => SqT X.K H p [kV kv.1, kv.2]) ps kvs →
    ∃ (prs : List (Key × Value)) (pv : List (Value × Value)), KV kvs prs ∧ prs.length = ps.length ∧ pv.length = ps.length ∧ ∀ (j : Nat) (a b : Value), pv[j]? = some (a, b) → ∃ (p : Addr) (k : Key), ps[j]? = some p ∧ IsTup s.heap p #[a, b] ∧ prs[j]? = some (k, b) ∧ (mixKind X.prog X.w).is k a = true
  | _, _, .nil => ⟨[], [], .nil, rfl, rfl, fun j a b e => by simp at e⟩
  | _, _, .cons (a := p) (b := kv) h t => by
    obtain ⟨prs, pv, r, l1, l2, hp⟩ := pairs_at I t
    obtain ⟨its, rv, ht, _⟩ := I.tuple h
    obtain ⟨u, y, ei, ru, ry⟩ := vals2 rv
    subst ei
    refine ⟨(kv.1, y) :: prs, (u, y) :: pv, .cons ⟨rfl, ry⟩ r, by simp [l1], by simp [l2], fun j a b e => ?_⟩
    cases j with
    | zero =>
      cases e
      exact ⟨p, kv.1, rfl, ht, rfl, kV_is (P := X.prog) (w := X.w) ru⟩
    | succ j =>
      obtain ⟨q, k, e1, e2, e3, e4⟩ := hp j a b (by simpa using e)
      exact ⟨q, k, by simpa using e1, e2, by simpa using e3, e4⟩
def rDictT (K : PySem.W.Frag) : List V → Hp → VK → Prop := fun xs H Q => ∃ (a : Addr) (ps : List Addr) (kvs : List (Key × V)), xs = [.ref a] ∧ (PTup K H a (ps.map V.ref) ∨ SqL K H a (ps.map V.ref)) ∧ Paired (fun p (kv : Key × V) => SqT K H p [kV kv.1, kv.2]) ps kvs ∧
    ∀ p, H p = none → Q (.ref p) (upd H p (.dK (mergeK [] kvs)))
theorem call_dictT (hc : X.calm = true) : CallR X (.type "dict") (rDictT X.K) := by
  intro pins s σ H xs us Q I r ⟨a, ps, kvs, ex, hq, hp, q⟩
  subst ex
  obtain ⟨u, eu, rx⟩ := vals1 r
  subst eu
  cases rx
  obtain ⟨prs, pv, rel, l1, l2, at_⟩ := pairs_at I hp
  have fin : ∀ (T : String) (its : List Value), Vals (ps.map V.ref) its → PlainSeq T s.heap a its.toArray → ps.length ≤ sizeLine →
      (∀ Ts : Nat → Addr, PairArg X.prog X.w T a (a :: (List.range pv.length).map Ts) [] pv.length (PairRel pv) (fun h => PlainSeq T h a its.toArray ∧ PairItems h its.toArray Ts pv)) → wpAny (model X.prog X.w) X.A (call (.type "dict") [.ref a]) (EP X pins σ Q) X.xe s := by
    intro T its rv pl hz arg
    have ei := refs_at rv
    subst ei
    refine PySem.call_dict_pairs (knd := mixKind X.prog X.w) (kvs := prs) (arg fun j => ps.getD j 0) (I.ok.hd hc) ⟨pl, by simp [l2], fun j k v e => ?_⟩ ⟨by rw [l1, l2], fun j k v e => ?_⟩ (by rw [l2]; exact hz) fun h' tk hd' hk => ?_
    · obtain ⟨p, key, e1, e2, _, _⟩ := at_ j k v e
      have g : ps.getD j 0 = p := by simp [List.getD, e1]
      exact ⟨by simp [e1], .inl (by show s.heap.IsTuple (ps.getD j 0) #[k, v]; rw [g]; exact e2)⟩
    · obtain ⟨p, key, _, _, e3, e4⟩ := at_ j k v e
      exact ⟨key, e3, e4⟩
    · have hm : (s.heap.objs.size == sysModules) = false := beq_eq_false_iff_ne.mpr (Nat.ne_of_gt I.big)
      have len : (mergeK [] kvs).length ≤ sizeLine := Nat.le_trans (length_mergeK kvs []) (by rw [List.length_nil, Nat.zero_add, rel.length, l1]; exact hz)
      exact ⟨.ref s.heap.objs.size, _, I.laid (t' := tk) (fun b o e => hk b o List.not_mem_nil e) (Nat.le_refl _) (show ObjOk X.prog X.w _ _ _ (.dK (mergeK [] kvs)) from ⟨len, hm, merged [] prs, KV.merge rel .nil, hd'⟩), rfl, q _ (I.hok.fresh (Nat.le_refl _))⟩
  rcases hq with hq | hq
  · obtain ⟨its, rv, pl, hz⟩ := hq.obj I
    exact fin "tuple" its rv pl (by simpa using hz) fun Ts => PairArg.tuple a its.toArray Ts pv
  · obtain ⟨its, rv, pl, hz⟩ := I.list hq
    obtain ⟨o, n, ho, h1, h2, h3⟩ := pl
    exact fin "list" its rv ⟨o, n, ho, h1, h2, h3⟩ (by simpa using hz) fun Ts => PairArg.list a its.toArray Ts pv
/-- the pairs of data -/
def pairOf : PyData → Option (Key × PyData)
  | .tuple [k, d] => match keyOf k with
    | some k => if imm d = true then some (k, d) else none
    | none => none
  | _ => none
def pairsOf : List PyData → Option (List (Key × PyData))
  | [] => some []
  | d :: ds => match pairOf d, pairsOf ds with
    | some p, some ps => some (p :: ps)
    | _, _ => none
def mergeD : Tab → List (Key × PyData) → Tab
  | t, [] => t
  | t, (k, d) :: ps => mergeD (dput t k d) ps
theorem dv_key {H : Hp} {v : V} {d : PyData} {k : Key} {R : List Addr} (h : DV K H v d R) (e : keyOf d = some k) : v = kV k := by
  cases h <;> simp [keyOf] at e <;> subst e <;> rfl
theorem prs_of {H : Hp} : ∀ {xs : List V} {ds : List PyData} {R : List Addr} {kd : List (Key × PyData)}, DVs K H xs ds R → pairsOf ds = some kd →
    ∃ ps kvs, xs = ps.map V.ref ∧ Paired (fun p (kv : Key × V) => SqT K H p [kV kv.1, kv.2]) ps kvs ∧ kvs.map (·.1) = kd.map (·.1) ∧ DVs K H (kvs.map (·.2)) (kd.map (·.2)) []
  | _, _, _, _, .nil, e => by
    cases e
    exact ⟨[], [], rfl, .nil, rfl, .nil⟩
  | _, _, _, kd, .cons (d := d) h t, e => by
    unfold pairsOf at e
    split at e
    · rename_i p ps ep es
      cases e
      obtain ⟨as, kvs, rfl, h1, h2, h3⟩ := prs_of t es
      unfold pairOf at ep
      split at ep
      · rename_i k0 d0
        split at ep
        · rename_i k ek
          split at ep
          · rename_i im
            cases ep
            cases h with
            | tup q1 q2 =>
              cases q2 with
              | cons a1 q2 =>
                cases q2 with
                | cons a2 q2 =>
                  cases q2
                  have e1 := dv_key a1 ek
                  subst e1
                  have e2 := a2.imm_nil im
                  subst e2
                  exact ⟨_ :: as, (k, _) :: kvs, rfl, .cons q1.sq h1, by simp [h2], .cons a2 h3⟩
          · cases ep
        · cases ep
      · cases ep
    · cases e
theorem merge_val {H : Hp} : ∀ {more : List (Key × V)} {kd : List (Key × PyData)} {kvs : List (Key × V)} {ds : List PyData}, more.map (·.1) = kd.map (·.1) → DVs K H (more.map (·.2)) (kd.map (·.2)) [] →
    DVs K H (kvs.map (·.2)) ds [] → (kvs.map (·.1)).Nodup → ∃ ds', DVs K H ((mergeK kvs more).map (·.2)) ds' [] ∧ mergeD (zipK kvs ds) kd = zipK (mergeK kvs more) ds' ∧ ((mergeK kvs more).map (·.1)).Nodup
  | [], [], kvs, ds, _, _, h, nd => ⟨ds, h, rfl, nd⟩
  | [], _ :: _, _, _, e, _, _, _ => by simp at e
  | _ :: _, [], _, _, e, _, _, _ => by simp at e
  | (k, v) :: more, (k', d) :: kd, kvs, ds, e, hm, h, nd => by
    simp only [List.map_cons, List.cons.injEq] at e
    obtain ⟨e1, e2⟩ := e
    subst e1
    generalize hl : ((k, v) :: more).map (·.2) = vs at hm
    generalize hr : ((k, d) :: kd).map (·.2) = es at hm
    generalize hn : ([] : List Addr) = rs at hm
    cases hm with
    | nil => cases hl
    | cons a1 a2 =>
      cases hl
      cases hr
      obtain ⟨n1, n2⟩ := List.append_eq_nil_iff.mp hn.symm
      subst n1 n2
      obtain ⟨ds1, R1, b1, b2, b3, b4, _⟩ := dput_val k a1 h nd
      have e := List.sublist_nil.mp b2
      subst e
      obtain ⟨ds2, c1, c2, c3⟩ := merge_val (kvs := putK kvs k v) e2 a2 b1 b4
      refine ⟨ds2, c1, ?_, c3⟩
      show mergeD (dput (zipK kvs ds) k d) kd = _
      rw [b3]; exact c2
def gDict : GL
  | [x] => match seqOf x with
    | some ds => match pairsOf ds with
      | some kd => some (.dict (mergeD [] kd))
      | none => none
    | none => none
  | _ => none
theorem dc_dict : DCall K (rDictT K) gDict := by
  intro H xs ds Rx z Q hx hg k
  unfold gDict at hg
  split at hg
  · split at hg
    · rename_i d es ed
      split at hg
      · rename_i kd ek
        cases hg
        cases hx with
        | cons h t =>
          cases t
          have go : ∀ (a : Addr) (vs : List V) (R : List Addr), DVs K H vs es R → (PTup K H a vs ∨ SqL K H a vs) → rDictT K [.ref a] H Q := by
            intro a vs R hv hs
            obtain ⟨ps, kvs, rfl, h1, h2, h3⟩ := prs_of hv ek
            obtain ⟨ds', c1, c2, c3⟩ := merge_val (kvs := []) (ds := []) h2 h3 .nil (by simp)
            refine ⟨a, ps, kvs, rfl, hs, h1, fun p hp => ?_⟩
            have sm : Same H (upd H p (.dK (mergeK [] kvs))) := same_upd hp
            exact k _ _ [p] sm (.dic upd_same (c1.same sm) c3 c2) ⟨by simp, fun a ha => by
              have e : a = p := by simpa using ha
              subst e
              exact ⟨hp, by rw [upd_same]; trivial⟩⟩
          rcases seqOf_cases ed with q | q
          · subst q
            cases h with
            | lst a1 a2 => exact go _ _ _ a2 (.inr (SqL.of a1))
          · subst q
            cases h with
            | tup a1 a2 => exact go _ _ _ a2 (.inl a1)
      · cases hg
    · cases hg
  · cases hg
end
end FP
namespace FP
open PySem PySem.Spec PyProof.Rows L2
section
variable {X : Cx} {K : PySem.W.Frag}
/-! ### sorted(xs) of a list of data of one shape -/
abbrev leD : PyData → PyData → Bool := PySem.W.dataLe false id
def isRow : PyData → Bool
  | .tuple (_ :: _) => true
  | _ => false
def isBare : PyData → Bool
  | .none => false
  | .tuple _ => false
  | _ => true
/-- what can be sorted -/
def okSort (ds : List PyData) : Bool := imms ds && decide (ds.length ≤ 1000000) && ds.all okD && (ds.all fun d => ds.all fun e => PySem.W.alike d e) && (ds.all isRow || ds.all isBare)
structure OkSort (ds : List PyData) : Prop where
  im : imms ds = true
  few : ds.length ≤ 1000000
  ok : ∀ d ∈ ds, noD d = true ∧ SeqAt.shaped d = true
  al : PySem.W.AllAlike ds
  so : PySem.W.Sortable ds
theorem okSort_is {ds : List PyData} (h : okSort ds = true) : OkSort ds := by
  simp only [okSort, Bool.and_eq_true, decide_eq_true_eq, List.all_eq_true, Bool.or_eq_true] at h
  obtain ⟨⟨⟨⟨h1, h2⟩, h3⟩, h4⟩, h5⟩ := h
  refine ⟨h1, h2, fun d hd => ?_, fun d hd e he => h4 d hd e he, ?_⟩
  · have := h3 d hd
    simpa only [okD, Bool.and_eq_true] using this
  · rcases h5 with h | h
    · refine .inl fun d hd => ?_
      have := h d hd
      cases d with
      | tuple xs =>
        cases xs with
        | nil => simp [isRow] at this
        | cons x r => exact ⟨x, r, rfl⟩
      | _ => simp [isRow] at this
    · refine .inr fun d hd => ?_
      have := h d hd
      cases d with
      | none => simp [isBare] at this
      | tuple xs => simp [isBare] at this
      | _ => exact ⟨(fun z => nomatch z), fun xs z => nomatch z⟩
theorem each_zip {s : Shared} : ∀ {xs : List V} {vs : List Value} {ds : List PyData}, Vals xs vs → xs.length = ds.length → PySem.W.EachIs (fun v (b : V × PyData) => RelV b.1 v) vs (xs.zip ds)
  | [], _, _, .nil, _ => .nil
  | _ :: _, _, [], _, h => by simp at h
  | x :: xs, _, d :: ds, .cons r t, h => .cons r (each_zip (s := s) t (by simpa using h))
theorem each_reads {pins : List (Addr × Obj)} {σ : L2.St} {H : Hp} {s : Shared} (I : Inv X pins σ H s) : ∀ {xs : List V} {vs : List Value} {ds : List PyData}, Vals xs vs → DpAll X.K H xs ds → PySem.W.EachIs (fun v (b : V × PyData) => ∃ as, Reads s.heap v b.2 as) vs (xs.zip ds)
  | _, _, _, .nil, .nil => .nil
  | _, _, _, .cons r t, .cons h k => .cons (Dp.reads I _ _ _ h r) (each_reads I t k)
theorem vals_each : ∀ {vs : List Value} {bs : List (V × PyData)}, PySem.W.EachIs (fun v (b : V × PyData) => RelV b.1 v) vs bs → Vals (bs.map (·.1)) vs
  | _, _, .nil => .nil
  | _, _, .cons r t => .cons r (vals_each t)
def rSortD (K : PySem.W.Frag) : List V → Hp → VK → Prop := fun xs H Q => ∃ (a : Addr) (vs : List V) (ds : List PyData), xs = [.ref a] ∧ SqL K H a vs ∧ DpAll K H vs ds ∧ vs.length = ds.length ∧ OkSort ds ∧
  ∀ p, H p = none → Q (.ref p) (upd H p (.lst (((vs.zip ds).mergeSort (PySem.W.dataLe false (·.2))).map (·.1))))
theorem call_sorted (hu : X.A.units + 68 < cLine) : CallR X (.builtin "sorted") (rSortD X.K) := by
  intro pins s σ H xs us Q I r ⟨a, vs, ds, ex, hq, hd, hl, ok, q⟩
  subst ex
  obtain ⟨u, eu, rx⟩ := vals1 r
  subst eu
  cases rx
  obtain ⟨its, rv, pl, hz⟩ := I.list hq
  have m2 : (vs.zip ds).map (·.2) = ds := List.map_snd_zip (by omega)
  have len : (vs.zip ds).length = vs.length := by simp [hl]
  refine PySem.W.sorted_data (enc := fun b : V × PyData => b.2) pl.isList (each_zip (s := s) rv hl) (each_reads I rv hd) (by rw [m2]; exact ok.al) (by rw [m2]; exact ok.so) (by rw [len]; exact hz) (fun b hb => ?_) fun out hlen eo => ?_
  · have : b.2 ∈ ds := by rw [← m2]; exact List.mem_map_of_mem hb
    have := SeqAt.depth_of_shaped (ok.ok _ this).2
    omega
  · obtain ⟨e, at_⟩ := sortedAll_at s.heap its out.toArray
    have r2 := vals_each eo
    refine ⟨.ref (s.heap.objs.size + 1), _, I.laid (t' := s.toks) (o := .lst _) (fun b o h => sortedAll_old h) (Nat.le_succ _) ⟨?_, out, e, r2, at_⟩, rfl, q _ (I.hok.fresh (Nat.le_succ _))⟩
    rw [List.length_map, List.length_mergeSort, len]
    exact hz
def gSorted : GL
  | [.list ds] => if okSort ds = true then some (.list (ds.mergeSort leD)) else none
  | _ => none
theorem zip_dvs {H : Hp} : ∀ {vs : List V} {ds : List PyData}, DVs K H vs ds [] → ∀ b ∈ vs.zip ds, DV K H b.1 b.2 []
  | [], _, _, b, m => by simp at m
  | _ :: _, [], h, b, m => by simp at m
  | v :: vs, d :: ds, h, b, m => by
    generalize e : ([] : List Addr) = R at h
    cases h with
    | cons h t =>
      obtain ⟨e1, e2⟩ := List.append_eq_nil_iff.mp e.symm
      subst e1 e2
      rw [List.zip_cons_cons, List.mem_cons] at m
      rcases m with m | m
      · subst m; exact h
      · exact zip_dvs t b m
theorem dvs_of {H : Hp} : ∀ {bs : List (V × PyData)}, (∀ b ∈ bs, DV K H b.1 b.2 []) → DVs K H (bs.map (·.1)) (bs.map (·.2)) []
  | [], _ => .nil
  | b :: bs, h => .cons (R := []) (R' := []) (h b List.mem_cons_self) (dvs_of fun c m => h c (List.mem_cons_of_mem _ m))
theorem noDs_of : ∀ {es : List PyData}, (∀ d ∈ es, noD d = true) → noDs es = true
  | [], _ => rfl
  | x :: xs, all => by
    simp only [noDs, Bool.and_eq_true]
    exact ⟨all x List.mem_cons_self, noDs_of fun d hd => all d (List.mem_cons_of_mem _ hd)⟩
theorem dc_sorted : DCall K (rSortD K) gSorted := by
  intro H xs ds Rx z Q hx hg k
  unfold gSorted at hg
  split at hg
  · split at hg
    · rename_i es ho
      have ok := okSort_is ho
      cases hg
      cases hx with
      | cons h t =>
        cases t
        cases h with
        | lst h1 h2 =>
          have f := DVs.imm_each ok.im h2
          refine ⟨_, _, es, rfl, SqL.of h1, ?_, f.length, ok, fun p hp => ?_⟩
          · exact f.dp (noDs_of fun d hd => (ok.ok d hd).1)
          · rename_i a vs R
            have l := f.length
            have m2 : ((vs.zip es).mergeSort (PySem.W.dataLe false (·.2))).map (·.2) = es.mergeSort leD := by
              have := List.map_mergeSort (r := PySem.W.dataLe false (fun b : V × PyData => b.2)) (s := leD) (f := (·.2)) (l := vs.zip es) fun a _ b _ => rfl
              rw [this, List.map_snd_zip (by omega)]
            have d := dvs_of (K := K) (H := H) (bs := (vs.zip es).mergeSort (PySem.W.dataLe false (·.2))) fun b hb => zip_dvs f b ((List.mergeSort_perm _ _).mem_iff.mp hb)
            rw [m2] at d
            obtain ⟨q1, q2⟩ := new_lst hp d
            exact k _ _ _ (same_upd hp) q1 q2
    · cases hg
  · cases hg
theorem Room.units2 {k : Nat} {A : Around} (r : Room k A) : A.units + 68 < cLine := by have := r.un; omega
end
end FP
namespace FP
open PySem PySem.Spec PyProof.Rows L2
section
variable {X : Cx} {own : Nat → Bool} {pos : Pos} {K : PySem.W.Frag}
/-! ### list(range(n)) -/
theorem dvs_ints {H : Hp} (f : Nat → Int) : ∀ l : List Nat, DVs K H (l.map fun i => V.int (f i)) (l.map fun i => .int (f i)) []
  | [] => .nil
  | i :: l => .cons (R := []) (R' := []) (.int _) (dvs_ints f l)
theorem dvs_rg {H : Hp} (n : Int) : DVs K H (rgV 0 n) (intsF 0 n.toNat) [] := by
  have := dvs_ints (K := K) (H := H) (fun i => 0 + (i : Int)) (List.range n.toNat)
  unfold rgV intsF
  rw [Int.sub_zero]
  exact this
def fLrange (f : FX) : FX := fun ρ => match f ρ with
  | some (.int n, ρ1) => if (decide (-1000000 ≤ n) && decide (n ≤ 1000000)) = true then some (.list (intsF 0 n.toNat), ρ1) else none
  | _ => none
theorem fe_lrange {a : Expr} {p1 p2 q : Pos} {c : Nat} {p : Bool} {f : FX} (hc : X.calm = true) (hg : Gl X "list") (hm : X.mg "list" = none) (hg2 : Gl X "range") (hm2 : X.mg "range" = none) (ha : FE X own c p a f)
    (na : starEach [a] X.env = (false, eval a X.env) :: starEach [] X.env := by rfl) (na2 : starEach [.Call (.Name "range" p2) [a] [] q] X.env = (false, eval (.Call (.Name "range" p2) [a] [] q) X.env) :: starEach [] X.env := by rfl) :
    FE X own 2 p (.Call (.Name "list" p1) [.Call (.Name "range" p2) [a] [] q] [] pos) (fLrange f) :=
  (pe_listRg hc hg hm (prg_1 hg2 hm2 ha na) na2).conv fun σ H Q ⟨ρ, F, d, ρ', r, e1, k⟩ => by
    unfold fLrange at e1
    split at e1
    · rename_i n ρ1 ea
      split at e1
      · rename_i hl
        simp only [Bool.and_eq_true, decide_eq_true_eq] at hl
        cases e1
        refine ⟨ρ, F, .int n, ρ', r, ea, fun v H1 F1 R1 r1 s1 p1 v1 c1 => ?_⟩
        cases v1
        refine ⟨n, rfl, ⟨by omega, by omega, by omega, by omega, by omega⟩, fun q hq => ?_⟩
        obtain ⟨q1, q2⟩ := new_lst hq (dvs_rg (K := X.K) (H := H1) n)
        exact fin k r1 s1 p1 (same_upd hq) q1 q2
      · cases e1
    · cases e1
/-! ### sorted(set(xs)), xs a list of fewer than 64 ints -/
def intsOf : List PyData → Option (List Int)
  | [] => some []
  | .int i :: ds => match intsOf ds with
    | some is => some (i :: is)
    | none => none
  | _ :: _ => none
theorem dvs_intsOf {H : Hp} : ∀ {vs : List V} {ds : List PyData} {R : List Addr} {is : List Int}, DVs K H vs ds R → intsOf ds = some is → vs = is.map V.int
  | _, _, _, _, .nil, e => by cases e; rfl
  | _, _, _, _, .cons (d := d) h t, e => by
    cases d with
    | int i =>
      unfold intsOf at e
      split at e
      · rename_i js ej
        cases e
        cases h
        rw [dvs_intsOf t ej]
        rfl
      · cases e
    | _ => simp [intsOf] at e
end
/-- the object of a new set -/
abbrev oSet (w : World) : Obj := { cls := .type "set", dict := none, data := .set #[] 0 (.fresh 0 0 (!w.params.followText "set-order")) }
section
variable {P : Program} {w : World} {A : Around} {E : Value → Shared → Prop} {s : Shared}
/-- the body of __init__: a list of ints walked into the empty set at S -/
theorem set_filled {S l : Addr} {vs : Array Value} {ns : List Int} {A : Around} {R : Fin → Shared → Prop} (hh : A.handled = none) (hS : s.heap.get? S = some (oSet w)) (hl : s.heap.IsList l vs) (ne : l ≠ S) (hi : IntsAre vs.toList ns) (few : ns.length + 1 < scanBound)
    (h : ∀ h' tk c, SetR w h' S (fun j => decide (j ∈ ns)) c → c ≤ ns.length → (∀ b o, b ≠ S → s.heap.get? b = some o → h'.get? b = some o) → R (.done (.ret .none)) { s with heap := h', toks := tk }) :
    wpAny (model P w) A (Builtin.«set.__init__» ⟨[.ref S, .ref l], []⟩) R E s := by
  have size : vs.size = ns.length := by simpa using IntsAre.length hi
  obtain ⟨⟨cls, dd, dat, sl⟩, at_, c, n, d⟩ := hl
  simp only at c d
  subst c d
  have isl : s.heap.IsList l vs := ⟨_, at_, rfl, n, rfl⟩
  have no1 := F.sub_list_set
  have no2 := F.sub_list_frozenset
  have no3 : (Value.type "list" == Value.type "dict") = false := by decide
  obtain ⟨hp, g, dr, tk, os⟩ := s
  unfold Builtin.«set.__init__» noKeywords Builtin.Frozenset.updateFrom
  generalize hPI : pyIter = PI
  wp_walk
  subst hPI
  refine wpAny_pyIter_list isl (wpAny_bind (wpAny_runValue ?_))
  let it : Obj := { cls := .type "list_iterator", data := .fields #[.ref l, .int 0 0] }
  have neI : l ≠ hp.objs.size := Nat.ne_of_lt (Heap.lt_size at_)
  have SI : S ≠ hp.objs.size := Nat.ne_of_lt (Heap.lt_size hS)
  have hh3 : A.in1.handled = none := by simp [hh]
  have at2 : (hp.push it).get? S = some (oSet w) := Heap.get?_push_of_some _ hS
  refine set_update_ints (P := P) (w := w) ((Walks.list hh3 _ l neI vs).toS) S (by simp [SI, Ne.symm ne]) ns size few (fun i v hv => ?_) (vs.size - 0) 0 ⟨hp.push it, g, dr, tk, os⟩ (by omega) (Nat.zero_le _) ⟨⟨_, Heap.get?_push_size _ rfl, rfl, rfl⟩, isl.push _⟩ ⟨0, Nat.le_refl 0, setR_new_at (w := w) (h := hp.push it) (a := S) (ns := ns) at2⟩ fun s' c' hm hc' hS' => ?_
  · have lt : i < ns.length := by rw [← size]; exact (Array.getElem?_eq_some_iff.mp hv).1
    obtain ⟨t, e⟩ := PyProof.Rows.IntsAre.int_at hi i v (by rw [Array.getElem?_toList]; exact hv)
    exact ⟨ns[i], t, List.getElem?_eq_getElem lt, by rw [e, List.getD_eq_getElem?_getD, List.getElem?_eq_getElem lt]; rfl⟩
  · obtain ⟨h', g2, d2, t2, o2⟩ := s'
    obtain rfl : g2 = g := hm.gens
    obtain rfl : d2 = dr := hm.drawn
    obtain rfl : o2 = os := hm.os
    rw [size] at hc'
    refine wpAny_pure (wpAny_pure (h h' t2 c' hS' hc' fun b o nb e => hm.heap b o ?_ (Heap.get?_push_of_some _ e)))
    simp only [List.mem_cons, List.not_mem_nil, or_false, not_or]
    exact ⟨nb, Nat.ne_of_lt (Heap.lt_size e)⟩
/-- set(a list of ints) -/
theorem set_of_list {l : Addr} {vs : Array Value} {ns : List Int} {Q : Value → Shared → Prop} (hh : A.handled = none) (hl : s.heap.IsList l vs) (hi : IntsAre vs.toList ns) (few : ns.length + 1 < scanBound)
    (h : ∀ h' tk c, SetR w h' s.heap.objs.size (fun j => decide (j ∈ ns)) c → c ≤ ns.length → (∀ b o, s.heap.get? b = some o → h'.get? b = some o) → Q (.ref s.heap.objs.size) { s with heap := h', toks := tk }) :
    wpAny (model P w) A (call (.type "set") [.ref l]) Q E s := by
  have T := F.called_set
  obtain ⟨c, tl, hmro⟩ := T.mro
  have hmade := T.made
  have hsub := T.sub
  refine wpAny_call (codeAny_of_tree ?_)
  show wpAny _ _ (callAny (.type "set") _) _ _ _
  refine wpAny_pure ⟨Code.quiet_builtin _ (by decide +kernel), codeAny_builtin F.entry_type_call ?_⟩
  rw [Around.under_plain (weight_type_call_type "set" [.ref l] []) rfl]
  have h1 := T.notType
  have h2 := T.canCreate
  have hct := F.typeCall_set_1 (.ref l)
  repeat (any_goals (first | assumption | wp_step))
  let s0 : Shared := { s with heap := s.heap.push (oSet w) }
  have at_ : s0.heap.get? s.heap.objs.size = some (oSet w) := Heap.get?_push_size _ rfl
  refine codeAny_mono (code_set_led1 (.ref l) (E := E) (Q₁ := fun obj s₁ => obj = .ref s.heap.objs.size ∧ s₁ = s0) ⟨rfl, rfl⟩) fun r s₁ hr => ?_
  match r, hr with
  | .error e, hr => exact hr
  | .ok .next, hr => exact hr.elim
  | .ok .brk, hr => exact hr.elim
  | .ok .cont, hr => exact hr.elim
  | .ok (.ret obj), ⟨eo, es⟩ =>
    subst eo es
    have hT : s0.TypeIs (.ref s.heap.objs.size) "set" := ⟨_, at_, rfl⟩
    have hli := T.init.lookup
    have hbi := T.init.bind (.ref s.heap.objs.size)
    repeat (any_goals (first | assumption | wp_step))
    refine codeAny_mono (codeAny_call_builtin (R := wants (fun r s₂ => r = .none ∧ Q (.ref s.heap.objs.size) s₂) E) T.init.plain F.entry_set_init (check_set_init_1 hT ?_)) fun r₂ s₂ hr₂ => ?_
    · have lt : l < s.heap.objs.size := by
        obtain ⟨_, e, _⟩ := id hl
        exact Heap.lt_size e
      refine set_filled (s := s0) (by simp [hh]) at_ (hl.push _) (Nat.ne_of_lt lt) hi few fun h' tk c hS hc hk => ?_
      exact ⟨rfl, h h' tk c hS hc fun b o e => hk b o (Nat.ne_of_lt (Heap.lt_size e)) (Heap.get?_push_of_some _ e)⟩
    · match r₂, hr₂ with
      | .error e, hr => exact hr
      | .ok .next, hr => exact hr.elim
      | .ok .brk, hr => exact hr.elim
      | .ok .cont, hr => exact hr.elim
      | .ok (.ret v), ⟨ev, hq⟩ =>
        subst ev
        repeat (any_goals (first | assumption | wp_step))
end
end FP
namespace FP
open PySem PySem.Spec PyProof.Rows L2
/-! ### sorted(set(xs)) -/
/-- a number into an ascending list, once -/
def insU (k : Int) : List Int → List Int
  | [] => [k]
  | x :: xs => if k < x then k :: x :: xs else if k = x then x :: xs else x :: insU k xs
def sortU : List Int → List Int
  | [] => []
  | k :: ks => insU k (sortU ks)
theorem mem_insU {k j : Int} : ∀ {xs : List Int}, j ∈ insU k xs ↔ j = k ∨ j ∈ xs
  | [] => by simp [insU]
  | x :: xs => by
    unfold insU
    split
    · simp
    · split
      · rename_i h
        subst h
        simp
      · rw [List.mem_cons, mem_insU, List.mem_cons]
        constructor
        · rintro (h | h | h)
          · exact .inr (.inl h)
          · exact .inl h
          · exact .inr (.inr h)
        · rintro (h | h | h)
          · exact .inr (.inl h)
          · exact .inl h
          · exact .inr (.inr h)
theorem mem_sortU {j : Int} : ∀ {xs : List Int}, j ∈ sortU xs ↔ j ∈ xs
  | [] => Iff.rfl
  | x :: xs => by rw [sortU, mem_insU, mem_sortU, List.mem_cons]
theorem insU_up {k : Int} : ∀ {xs : List Int}, xs.Pairwise (· < ·) → (insU k xs).Pairwise (· < ·)
  | [], _ => by simp [insU]
  | x :: xs, h => by
    rw [List.pairwise_cons] at h
    unfold insU
    split
    · rename_i l
      refine List.pairwise_cons.mpr ⟨fun y hy => ?_, List.pairwise_cons.mpr h⟩
      rcases List.mem_cons.mp hy with e | e
      · omega
      · have := h.1 y e; omega
    · split
      · exact List.pairwise_cons.mpr h
      · refine List.pairwise_cons.mpr ⟨fun y hy => ?_, insU_up h.2⟩
        rcases mem_insU.mp hy with e | e
        · omega
        · exact h.1 y e
theorem sortU_up : ∀ xs : List Int, (sortU xs).Pairwise (· < ·)
  | [] => List.Pairwise.nil
  | x :: xs => insU_up (sortU_up xs)
theorem up_unique : ∀ {xs ys : List Int}, xs.Pairwise (· < ·) → ys.Pairwise (· < ·) → (∀ j, j ∈ xs ↔ j ∈ ys) → xs = ys
  | [], [], _, _, _ => rfl
  | [], y :: ys, _, _, h => absurd ((h y).mpr List.mem_cons_self) List.not_mem_nil
  | x :: xs, [], _, _, h => absurd ((h x).mp List.mem_cons_self) List.not_mem_nil
  | x :: xs, y :: ys, hx, hy, h => by
    rw [List.pairwise_cons] at hx hy
    have e : x = y := by
      rcases List.mem_cons.mp ((h x).mp List.mem_cons_self) with e | e
      · exact e
      · rcases List.mem_cons.mp ((h y).mpr List.mem_cons_self) with e2 | e2
        · exact e2.symm
        · have := hy.1 x e; have := hx.1 y e2; omega
    subst e
    rw [up_unique hx.2 hy.2 fun j => ⟨fun m => ?_, fun m => ?_⟩]
    · rcases List.mem_cons.mp ((h j).mp (List.mem_cons_of_mem _ m)) with e | e
      · subst e; have := hx.1 _ m; omega
      · exact e
    · rcases List.mem_cons.mp ((h j).mpr (List.mem_cons_of_mem _ m)) with e | e
      · subst e; have := hy.1 _ m; omega
      · exact e
section
variable {X : Cx} {own : Nat → Bool} {pos : Pos} {K : PySem.W.Frag}
def rSetL (K : PySem.W.Frag) (w : World) : List V → Hp → VK → Prop := fun xs H Q => ∃ (p : Addr) (ns : List Int), xs = [.ref p] ∧ SqL K H p (ns.map V.int) ∧ ns.length ≤ 4000 ∧ ∀ a c, H a = none → c ≤ ns.length → Q (.ref a) (upd H a (SetO w a (fun j => decide (j ∈ ns)) c))
theorem cr_setL (hc : X.calm = true) : CallR X (.type "set") (rSetL X.K X.w) := by
  intro pins s σ H xs us Q I r ⟨p, ns, ex, hq, hl, q⟩
  subst ex
  obtain ⟨u, eu, rx⟩ := vals1 r
  subst eu
  cases rx
  obtain ⟨its, rv, pl, hz⟩ := I.list hq
  refine set_of_list (ns := ns) (I.ok.hd hc) pl.isList (by simpa using ints_of_vals rv) (by unfold scanBound; omega) fun h' tk c R hcn hk => ?_
  exact ⟨.ref s.heap.objs.size, _, I.laid (t' := tk) hk (Nat.le_refl _) (setO_new R), rfl, q _ c (I.hok.fresh (Nat.le_refl _)) hcn⟩
theorem boot_sorted' : bootBuiltins "sorted" = some (.builtin "sorted") := by decide +kernel
theorem boot_set' : bootBuiltins "set" = some (.type "set") := by decide +kernel
theorem up_nodup : ∀ {xs : List Int}, xs.Pairwise (· < ·) → xs.Nodup := fun h => h.imp fun a => Int.ne_of_lt a
def fSortSet (f : FX) : FX := fun ρ => match f ρ with
  | some (.list ds, ρ1) => match intsOf ds with
    | some is => if is.length < 64 then some (.list ((sortU is).map PyData.int), ρ1) else none
    | none => none
  | _ => none
theorem dvs_ints' {H : Hp} : ∀ l : List Int, DVs K H (l.map V.int) (l.map PyData.int) []
  | [] => .nil
  | i :: l => .cons (R := []) (R' := []) (.int _) (dvs_ints' l)
theorem fe_sortset {a : Expr} {p1 p2 q : Pos} {c : Nat} {p : Bool} {f : FX} (hc : X.calm = true) (hg : Gl X "sorted") (hm : X.mg "sorted" = none) (hg2 : Gl X "set") (hm2 : X.mg "set" = none) (ha : FE X own c p a f)
    (na : starEach [a] X.env = (false, eval a X.env) :: starEach [] X.env := by rfl) (na2 : starEach [.Call (.Name "set" p2) [a] [] q] X.env = (false, eval (.Call (.Name "set" p2) [a] [] q) X.env) :: starEach [] X.env := by rfl)
    (z1 : (backTo q (starEach [] X.env)).any (·.1) = false := by rfl) (z2 : (backTo pos (starEach [] X.env)).any (·.1) = false := by rfl) :
    FE X own 2 p (.Call (.Name "sorted" p1) [.Call (.Name "set" p2) [a] [] q] [] pos) (fSortSet f) :=
  (pe_callB (cr_sortedSet hc) hg hm boot_sorted' (pa_cons (pe_callTy (cr_setL hc) hg2 hm2 boot_set' (pa_cons ha pa_nil na) (by decide) (by decide) na z1) pa_nil na2) (by decide) (by decide) na2 z2).conv fun σ H Q ⟨ρ, F, d, ρ', r, e1, k⟩ => by
    unfold fSortSet at e1
    split at e1
    · rename_i ds ρ1 ea
      split at e1
      · rename_i is ei
        split at e1
        · rename_i hl
          cases e1
          refine ⟨ρ, F, .list ds, ρ', r, ea, fun v H1 F1 R1 r1 s1 p1 v1 c1 => ?_⟩
          cases v1 with
          | lst h1 h2 =>
            have e := dvs_intsOf h2 ei
            subst e
            refine ⟨_, is, rfl, SqL.of h1, by omega, fun b n hb hn => ⟨b, fun j => decide (j ∈ is), n, rfl, upd_same, by omega, fun ns q up mem len hq => ?_⟩⟩
            have e : ns = sortU is := up_unique up (sortU_up is) fun j => by rw [mem, mem_sortU, decide_eq_true_eq]
            subst e
            have sm : Same H1 (upd (upd H1 b (SetO X.w b (fun j => decide (j ∈ is)) n)) q (.lst ((sortU is).map V.int))) := (same_upd hb).trans (same_upd hq)
            obtain ⟨q1, q2⟩ := new_lst hq (dvs_ints' (K := X.K) (sortU is))
            refine fin k r1 s1 p1 sm q1 ⟨q2.1, fun a ha => ?_⟩
            have h := q2.2 a ha
            refine ⟨?_, h.2⟩
            have h3 := h.1
            by_cases e : a = b
            · subst e; rw [upd_same] at h3; cases h3
            · rw [upd_ne e] at h3; exact h3
        · cases e1
      · cases e1
    · cases e1
end
end FP
namespace FP
open PySem PySem.Spec PyProof.Rows L2
section
variable {X : Cx} {own : Nat → Bool} {pos : Pos} {K : PySem.W.Frag}
/-! ### repr of data -/
def rRepr (K : PySem.W.Frag) : List V → Hp → VK → Prop := fun xs H Q => ∃ x d, xs = [x] ∧ Dp K H x d ∧ SeqAt.shaped d = true ∧ d.showable = true ∧ d.shown.length ≤ sizeLine ∧ Q (.str d.shown) H
theorem call_repr (gd : X.A.guards = some []) (hu : X.A.units + 68 < cLine) : CallR X (.builtin "repr") (rRepr X.K) := by
  intro pins s σ H xs us Q I r ⟨x, d, ex, hd, sh, so, z, q⟩
  subst ex
  obtain ⟨u, eu, rx⟩ := vals1 r
  subst eu
  have hu' := SeqAt.depth_of_shaped sh
  have deep : ∀ a : Addr, RelV x (.ref a) → wpAny (model X.prog X.w) X.A (call (.builtin "repr") [.ref a]) (EP X pins σ Q) X.xe s := fun a rx => by
    obtain ⟨as, r1⟩ := Dp.reads I d x _ hd rx
    refine repr_of_reads' r1 so (PyData.noDict_hsm (PyData.hasDict_of_canLay d (SeqAt.canLay_of_shaped sh))) gd (by omega) (fun _ _ e => e) (fun h' u tk hk => ?_) z
    exact ⟨.str d.shown, H, I.kept (t' := tk) hk, ⟨u, rfl⟩, q⟩
  cases hd with
  | non => cases rx; exact PySem.P.repr_of_none ⟨.str "None", H, I.tok _, ⟨_, rfl⟩, q⟩
  | bl b => cases rx; exact PySem.P.repr_of_bool ⟨.str _, H, I.tok _, ⟨_, rfl⟩, q⟩
  | int i =>
    obtain ⟨t, rfl⟩ := rx
    exact PySem.P.repr_of_int (by simpa [PyData.showable] using so) ⟨.str _, H, I.tok _, ⟨_, rfl⟩, q⟩
  | str y =>
    obtain ⟨t, rfl⟩ := rx
    exact PySem.P.repr_of_str ⟨.str _, H, I.tok _, ⟨_, rfl⟩, q⟩ z
  | tup h1 h2 => cases rx; exact deep _ rfl
  | lst h1 h2 => cases rx; exact deep _ rfl
def gRepr : GL
  | [d] => if (okD d && d.showable && decide (d.shown.length ≤ 1000000)) = true then some (.str d.shown) else none
  | _ => none
theorem dc_repr : DCall K (rRepr K) gRepr := by
  intro H xs ds Rx z Q hx hg k
  have bl := big_line
  unfold gRepr at hg
  split at hg
  · split at hg
    · rename_i h
      simp only [okD, Bool.and_eq_true, decide_eq_true_eq] at h
      cases hg
      cases hx with
      | cons h1 t =>
        cases t
        exact ⟨_, _, rfl, h1.dp h.1.1.1, h.1.1.2, h.1.2, by omega, k _ H [] (.refl H) (.str _) .nil⟩
    · cases hg
  · cases hg
/-! ### {k: v, ..}, the values without lists -/
def fPairs : List (FX × FX) → EV → Option (List (Key × PyData) × EV)
  | [], ρ => some ([], ρ)
  | (fk, fv) :: r, ρ => match fk ρ with
    | some (y, ρ1) => match keyOf y, fv ρ1 with
      | some k, some (d, ρ2) => if imm d = true then match fPairs r ρ2 with
          | some (ps, ρ3) => some ((k, d) :: ps, ρ3)
          | none => none
        else none
      | _, _ => none
    | none => none
def tPs (K : PySem.W.Frag) (own : Nat → Bool) (p : Bool) (fps : List (FX × FX)) : L2.St → Hp → (List (V × V) → Hp → Prop) → Prop := fun σ H Q => ∃ ρ F kd ρ', RepE K own σ H ρ F ∧ fPairs fps ρ = some (kd, ρ') ∧
  ∀ ps H' F', RepE K own σ H' ρ' F' → Stp own H F H' F' → (p = true → ρ' = ρ ∧ F' = F ∧ Same H H') → (∃ kvs : List (Key × V), ps = kvs.map (fun kv => (kV kv.1, kv.2)) ∧ kvs.map (·.1) = kd.map (·.1) ∧ DVs K H' (kvs.map (·.2)) (kd.map (·.2)) []) → Q ps H'
structure FPs (X : Cx) (own : Nat → Bool) (pos : Pos) (keys : List (Option Expr)) (values : List Expr) (p : Bool) (fps : List (FX × FX)) : Prop where
  ex : ∃ trs, PPs X pos keys values trs ∧ ∀ σ H Q, tPs X.K own p fps σ H Q → tPairs trs σ H Q
theorem fps_nil : FPs X own pos [] [] true [] := ⟨[], pps_nil, fun σ H Q ⟨ρ, F, kd, ρ', r, e, k⟩ => by
  cases e
  exact k [] H F r .refl (fun _ => ⟨rfl, rfl, .refl H⟩) ⟨[], rfl, rfl, .nil⟩⟩
theorem fps_cons {ke ve : Expr} {ks : List (Option Expr)} {vs : List Expr} {ck cv : Nat} {pk pv pr : Bool} {fk fv : FX} {fps : List (FX × FX)} (hk : FE X own ck pk ke fk) (hv : FE X own cv pv ve fv) (hr : FPs X own pos ks vs pr fps) :
    FPs X own pos (some ke :: ks) (ve :: vs) (pk && pv && pr) ((fk, fv) :: fps) := by
  obtain ⟨trs, h, c⟩ := hr.ex
  refine ⟨_, pps_cons hk hv h, fun σ H Q ⟨ρ, F, kd, ρ', r, e, k⟩ => ?_⟩
  unfold fPairs at e
  split at e
  · rename_i y ρ1 ek
    split at e
    · rename_i key d ρ2 ey ev
      split at e
      · rename_i im
        split at e
        · rename_i ps ρ3 er
          cases e
          show tD X.K own ck pk fk σ H fun x H1 => tD X.K own cv pv fv σ H1 fun w H2 => tPairs trs σ H2 fun ps H3 => Q ((x, w) :: ps) H3
          refine ⟨ρ, F, y, ρ1, r, ek, fun x H1 F1 R1 r1 s1 p1 v1 c1 => ⟨ρ1, F1, d, ρ2, r1, ev, fun w H2 F2 R2 r2 s2 p2 v2 c2 => ?_⟩⟩
          have ex := dv_key v1 ey
          subst ex
          have e2 := v2.imm_nil im
          subst e2
          refine c σ H2 _ ⟨ρ2, F2, ps, ρ', r2, er, fun zs H3 F3 r3 s3 p3 ⟨kvs, q1, q2, q3⟩ => ?_⟩
          refine k _ H3 F3 r3 ((s1.trans s2).trans s3) (fun z => ?_) ⟨(key, w) :: kvs, by rw [q1]; rfl, by simp [q2], .cons (R := []) (R' := []) (v2.step r2 s3.toStpS fun a ha => absurd ha List.not_mem_nil) q3⟩
          simp only [Bool.and_eq_true] at z
          obtain ⟨a1, a2, a3⟩ := p1 z.1.1
          obtain ⟨b1, b2, b3⟩ := p2 z.1.2
          obtain ⟨c1, c2, c3⟩ := p3 z.2
          exact ⟨c1.trans (b1.trans a1), c2.trans (b2.trans a2), (a3.trans b3).trans c3⟩
        · cases e
      · cases e
    · cases e
  · cases e
/-- something that is in no slot changes -/
theorem RepE.except {σ : L2.St} {H H' : Hp} {ρ : EV} {F : Fo} {p : Addr} (r : RepE K own σ H ρ F) (keep : ∀ a o, a ≠ p → H a = some o → H' a = some o) (np : ∀ i, p ∉ F i) (mp : ∀ o, H p = some o → Mut (some o)) : RepE K own σ H' ρ F where
  len := r.len
  val := fun i d e => by
    obtain ⟨v, h1, h2⟩ := r.val i d e
    exact ⟨v, h1, h2.mono (fun a o e n => keep a o (fun z => n (mp o (by rw [← z]; exact e))) e) fun a ha o e => keep a o (fun z => np i (by rw [← z]; exact ha)) e⟩
  emp := r.emp
  nod := r.nod
  mu := fun i oi a m => by
    have h := r.mu i oi a m
    obtain ⟨u, e⟩ := mut_some h
    rw [keep a u (fun z => np i (by rw [← z]; exact m)) e, ← e]; exact h
  dis := r.dis
def fDisp (fps : List (FX × FX)) : FX := fun ρ => match fPairs fps ρ with
  | some (kd, ρ1) => if kd.length ≤ 15 then some (.dict (mergeD [] kd), ρ1) else none
  | none => none
theorem fe_disp {keys : List (Option Expr)} {values : List Expr} {p : Bool} {fps : List (FX × FX)} (h : FPs X own pos keys values p fps) (hall : keys.all (·.isSome) = true := by rfl) (hl : keys.length = values.length := by rfl) (h0 : keys ≠ [] := by simp) (h15 : keys.length ≤ 15 := by decide) :
    FE X own 2 p (.Dict keys values pos) (fDisp fps) := by
  obtain ⟨trs, hp, c⟩ := h.ex
  refine (pe_disp hp hall hl h0 h15).conv fun σ H Q ⟨ρ, F, d, ρ', r, e1, k⟩ q hq => c σ _ _ ?_
  unfold fDisp at e1
  split at e1
  · rename_i kd ρ1 ed
    split at e1
    · rename_i few
      cases e1
      have sm : Same H (upd H q (.dK [])) := same_upd hq
      refine ⟨ρ, F, kd, ρ', r.same sm, ed, fun ps H2 F2 r2 s2 p2 ⟨kvs, q1, q2, q3⟩ => ?_⟩
      have nq : ∀ i, q ∉ F i := fun i m => r.tr m hq
      have at_ : H2 q = some (.dK []) := s2.keep q _ upd_same fun ⟨i, oi, m⟩ => nq i m
      have nq2 : ∀ i, q ∉ F2 i := fun i m => by
        cases oi : own i with
        | false => rw [s2.pu i oi] at m; exact nq i m
        | true =>
          rcases s2.grow i oi q m with z | z
          · exact nq i z
          · rw [upd_same] at z; cases z
      obtain ⟨ds', c1, c2, c3⟩ := merge_val (kvs := []) (ds := []) q2 q3 .nil (by simp)
      have len : kvs.length = kd.length := by simpa using congrArg List.length q2
      refine ⟨at_, kvs, q1, by omega, ?_⟩
      have kp : ∀ a o, a ≠ q → H2 a = some o → upd H2 q (.dK (mergeK [] kvs)) a = some o := fun a o n e => by rw [upd_ne n]; exact e
      have r3 := r2.except kp nq2 fun o e => by rw [at_] at e; cases e; trivial
      have s1 : Stp own H F (upd H q (.dK [])) F := .same sm
      refine k (.ref q) _ F2 [q] r3 ⟨⟨fun a o e n => ?_, fun a e => ?_, fun i oi a m => ?_⟩, s2.pu⟩ (fun z => ⟨(p2 z).1, (p2 z).2.1, fun a o e => ?_⟩) (.dic upd_same (c1.mono (fun a o e n => kp a o (fun z => n (by subst z; rw [at_] at e; cases e; trivial)) e) fun a ha => absurd ha List.not_mem_nil) c3 c2)
        ⟨fun _ a ha => ?_, fun _ => ⟨by simp, fun a ha => ?_⟩⟩
      · have ne : a ≠ q := fun z => by rw [z, hq] at e; cases e
        exact kp a o ne (s2.keep a o (sm a o e) n)
      · by_cases z : a = q
        · subst z; rw [upd_same]; simp
        · rw [upd_ne z]; exact s2.dom a (by rw [upd_ne z]; exact e)
      · rcases s2.grow i oi a m with z | z
        · exact .inl z
        · refine .inr ?_
          by_cases e : a = q
          · subst e; rw [upd_same] at z; cases z
          · rwa [upd_ne e] at z
      · have ne : a ≠ q := fun z => by rw [z, hq] at e; cases e
        exact kp a o ne ((p2 z).2.2 a o (sm a o e))
      · have e : a = q := by simpa using ha
        subst e
        exact fun ⟨i, _, m⟩ => nq2 i m
      · have e : a = q := by simpa using ha
        subst e
        exact ⟨hq, by rw [upd_same]; trivial⟩
    · cases e1
  · cases e1
end
end FP
namespace FP
open PySem PySem.Spec PyProof.Rows L2
/-! ### calls with all arguments by name -/
/-- the items at the places ix -/
def atL {α : Type} (ix : List Nat) (l : List α) : List α := ix.filterMap fun i => l[i]?
theorem atL_rel {ix : List Nat} : ∀ {vs : List V} {us : List Value}, Vals vs us → Vals (atL ix vs) (atL ix us) := by
  intro vs us r
  induction ix with
  | nil => exact .nil
  | cons i ix ih =>
    unfold atL
    simp only [List.filterMap_cons]
    cases e : vs[i]? with
    | none =>
      have : us[i]? = none := by
        rw [List.getElem?_eq_none_iff] at e ⊢
        rw [← r.length]; exact e
      rw [this]; exact ih
    | some v =>
      obtain ⟨u, e2, rv⟩ := r.get e
      rw [e2]
      exact .cons rv ih
theorem DVs.atL {K : PySem.W.Frag} {H : Hp} {ix : List Nat} {vs : List V} {ds : List PyData} {R : List Addr} (h : DVs K H vs ds R) : ∃ R', DVs K H (FP.atL ix vs) (FP.atL ix ds) R' := by
  induction ix with
  | nil => exact ⟨[], .nil⟩
  | cons i ix ih =>
    obtain ⟨R', t⟩ := ih
    unfold FP.atL at t ⊢
    simp only [List.filterMap_cons]
    cases e : ds[i]? with
    | none =>
      have : vs[i]? = none := by
        rw [List.getElem?_eq_none_iff] at e ⊢
        rw [h.length]; exact e
      rw [this]; exact ⟨R', t⟩
    | some d =>
      obtain ⟨v, R1, e2, hv, _⟩ := h.get e
      rw [e2]
      exact ⟨R1 ++ R', .cons hv t⟩
/-- how the names bind: told of the def's text alone -/
def KwEq (x : Str) (st : Stmt) (ps ks : List Str) (ix : List Nat) : Prop := ∀ (kV doc pm : Value) (an : Option Addr) (cdv ct : Value) (ws : List Value), ws.length = ks.length →
  bindArgs (PySem.W.fnOf x x (defArgs st) (defBody st) (defScope st) .none kV doc pm an cdv ct) ⟨[], ks.zip ws⟩ = pure (ps.zip (atL ix ws))
section
variable {X : Cx} {k : Nat} {f : Addr} {fd : FuncData} {ps ks : List Str} {ix : List Nat} {sp : Sp} {E : XK} {x : Str} {p pos : Pos} {kws : List Keyword} {tk : TA}
theorem enterK {pins : List (Addr × Obj)} {σ : L2.St} {H : Hp} {s : Shared} {Q : VK} {ws : List Value} {zs : List V} (F : FnG X.prog X.w X.K X.mg X.base CX0 k f fd ps sp) (gd : X.A.guards = some []) (room : Room k X.A) (b : BindsTo s fd ⟨[], ks.zip ws⟩ (ps.zip (atL ix ws)))
    (I : Inv X pins σ H s) (r : Vals zs ws) (prom : sp (atL ix zs) H Q E) : wpAny (model X.prog X.w) X.A (call (.ref f) [] (ks.zip ws)) (EP X pins σ Q) X.xe s := by
  refine wpAny_call (codeAny_mono (F.keeps X.A X.stack s H _ (atL ix ws) (atL ix zs) Q E gd room I.env0 b (atL_rel r) prom) ?_)
  intro r s2 q
  match r, q with
  | .error _, q => exact q.elim
  | .ok (.ret _), q => exact I.after q
  | .ok .next, q => exact q.elim
  | .ok .brk, q => exact q.elim
  | .ok .cont, q => exact q.elim
theorem pe_goK {st : Stmt} (C : Callee X.prog X.w X.K X.mg X.base x st k ps sp) (eq : KwEq x st ps ks ix) (gd : X.A.guards = some []) (room : Room k X.A) (hg : Gl X x) (hkw : PK X kws tk) (many : ∀ σ H Q, tk σ H Q → tk σ H fun zs H1 => zs.length = ks.length ∧ Q zs H1)
    (hall : (backToKw pos (keywordEach kws X.env)).all (·.1.isSome) = true := by rfl) (hks : (backToKw pos (keywordEach kws X.env)).filterMap (·.1) = ks := by rfl) (hdb : (x == ("__debug__" : Str)) = false := by decide)
    (hpl : ((backTo pos (starEach [] X.env)).any (·.1) || (backToKw pos (keywordEach kws X.env)).any (·.1.isNone)) = false := by rfl) :
    PE X (.Call (.Name x p) [] kws pos) (fun σ H Q => tk σ H fun zs H1 => sp (atL ix zs) H1 Q E) := by
  obtain ⟨f, fd, F, hm, hk, _, Fn⟩ := C.ex
  constructor
  intro pins s σ H Q I h
  apply wpAny_Call_Name_kw
  apply ld_glob I hg hm _ hdb
  refine PySem.W.callWith_KW0 (h₀ := X.base) I.ok.mod.kin hk hall (thn (hkw.run pos pins s σ H _ I (many σ H _ h)) ?_) hpl
  rintro ws s1 ⟨zs, H1, I1, r, len, q⟩
  refine ⟨I1.kIn, ?_⟩
  rw [hks]
  refine enterK F gd room ?_ I1 r q
  obtain ⟨oc, od, kV, doc, pm, an, cd, ct, osl, efd, _, _⟩ := Fn.ex
  subst efd
  exact BindsTo.of_eq (eq kV doc pm an cd ct ws (by rw [← r.length]; exact len))
end
section
variable {X : Cx} {own : Nat → Bool} {pos : Pos}
/-- the keywords' values -/
abbrev FK (X : Cx) (own : Nat → Bool) (c : Nat) (p : Bool) (kws : List Keyword) (f : FL) : Prop := PK X kws (tA X.K own c p f)
theorem _root_.L2.PK.conv {X : Cx} {e : List Keyword} {t t' : TA} (h : PK X e t) (i : ∀ σ H Q, t' σ H Q → t σ H Q) : PK X e t' := ⟨fun pos pins s σ H Q I q => h.run pos pins s σ H Q I (i σ H Q q)⟩
theorem fk_nil : FK X own 2 true [] fNil := pk_nil.conv fun σ H Q ⟨ρ, F, ds, ρ', r, e1, k⟩ => by
  unfold fNil at e1
  cases e1
  exact k [] H F [] r .refl (fun _ => ⟨rfl, rfl, .refl H⟩) .nil .nil
theorem fk_cons {nm : Option Str} {kpos : Pos} {e : Expr} {kws : List Keyword} {c ca cb : Nat} {p pa pb : Bool} {fa : FX} {fs : FL} (ha : FE X own ca pa e fa) (hr : FK X own cb pb kws fs) (hc : 1 ≤ ca ∨ pb = true := by first | exact .inl (by decide) | exact .inr rfl)
    (hcc : c = min ca cb := by rfl) (hpp : p = (pa && pb) := by rfl) : FK X own c p (⟨nm, e, kpos⟩ :: kws) (fCons fa fs) := by
  subst hcc hpp
  exact (pk_cons ha hr).conv (cons_tA hc)
def fCallN (m : GL) (ix : List Nat) (n : Nat) (fs : FL) : FX := fun ρ => match fs ρ with
  | some (ds, ρ1) => if ds.length = n then match m (atL ix ds) with
      | some r => some (r, ρ1)
      | none => none
    else none
  | none => none
theorem fe_cK {x : Str} {st : Stmt} {k j : Nat} {ps ks : List Str} {ix : List Nat} {m : GL} {n c : Nat} {p : Bool} {fs : FL} {kws : List Keyword} {p0 : Pos} (C : Callee X.prog X.w X.K X.mg X.base x st k ps (spP X.K m)) (eq : KwEq x st ps ks ix) (hn : ks.length = n) (gd : X.A.guards = some []) (hr : Room j X.A) (hk : k ≤ j) (hg : Gl X x)
    (hkw : FK X own c p kws fs) (hall : (backToKw pos (keywordEach kws X.env)).all (·.1.isSome) = true := by rfl) (hks : (backToKw pos (keywordEach kws X.env)).filterMap (·.1) = ks := by rfl) (hdb : (x == ("__debug__" : Str)) = false := by decide)
    (hpl : ((backTo pos (starEach [] X.env)).any (·.1) || (backToKw pos (keywordEach kws X.env)).any (·.1.isNone)) = false := by rfl) :
    FE X own 2 p (.Call (.Name x p0) [] kws pos) (fCallN m ix n fs) := by
  refine PE.conv (pe_goK (E := E0) (tk := fun σ H Q => ∃ ρ F ds ρ', RepE X.K own σ H ρ F ∧ fs ρ = some (ds, ρ') ∧ ds.length = ks.length ∧
    ∀ vs H' F' R, RepE X.K own σ H' ρ' F' → Stp own H F H' F' → (p = true → ρ' = ρ ∧ F' = F ∧ Same H H') → DVs X.K H' vs ds R → RC own c H H' F' R → Q vs H') C eq gd (hr.mono hk) hg (hkw.conv fun σ H Q ⟨ρ, F, ds, ρ', r, e, _, k⟩ => ⟨ρ, F, ds, ρ', r, e, k⟩) ?_ hall hks hdb hpl) ?_
  · exact fun σ H Q ⟨ρ, F, ds, ρ', r, e, l, k⟩ => ⟨ρ, F, ds, ρ', r, e, l, fun vs H' F' R r' s' p' v' c' => ⟨by rw [v'.length]; exact l, k vs H' F' R r' s' p' v' c'⟩⟩
  · intro σ H Q ⟨ρ, F, d, ρ', r, e1, k⟩
    unfold fCallN at e1
    split at e1
    · rename_i ds ρ1 ea
      split at e1
      · rename_i hl
        split at e1
        · rename_i z eg
          cases e1
          refine ⟨ρ, F, ds, ρ', r, ea, by rw [hl, hn], fun vs H1 F1 R1 r1 s1 p1 v1 c1 => ?_⟩
          obtain ⟨R', v2⟩ := v1.atL (ix := ix)
          exact ⟨_, R', d, v2, eg, fun u H' R sm hv hn => fin k r1 s1 p1 sm hv hn⟩
        · cases e1
      · cases e1
    · cases e1
end
end FP
namespace FP
open PySem PySem.Spec PyProof.Rows L2 L2.DX
section
variable {X : Cx} {own : Nat → Bool} {pos : Pos} {K : PySem.W.Frag}
/-! ### sorted(d.items()) -/
def rItemsK : V → List V → Hp → VK → Prop := fun x xs H Q => ∃ (a : Addr) (kvs : List (Key × V)), x = .ref a ∧ xs = [] ∧ H a = some (.dK kvs) ∧ ∀ p, H p = none → Q (.ref p) (upd H p (itemsO p a))
theorem mt_itemsK : MtR X "dict.items" rItemsK := by
  intro pins s σ H x xs v us Q I rx rxs ⟨a, kvs, ex, es, ha, q⟩
  subst ex es
  cases rx
  cases rxs
  obtain ⟨_, hd, vs, _, o, es, ep, ho, hx, hdat, _⟩ := dk_of I.hok ha
  refine DT.callItems (es := es) (ep := ep) hd ⟨o, ho, hx, hdat⟩ ?_
  exact ⟨.ref s.heap.objs.size, upd H s.heap.objs.size (itemsO s.heap.objs.size a), I.laid (t' := s.toks) (fun b u e => Heap.get?_push_of_some _ e) (Nat.le_refl _) (itemsO_ok (Heap.get?_push_size _ rfl)), rfl, q _ (I.hok.fresh (Nat.le_refl _))⟩
theorem pairs_get {P : Program} {w : World} : ∀ {es : List DictEntry} {vs : List (Key × Value)} {j : Nat} {e : DictEntry}, Pairs (mixKind P w) es vs → es[j]? = some e → ∃ kv, vs[j]? = some kv ∧ keyIs kv.1 e.key = true ∧ e.val = kv.2
  | _, _, _, _, .nil, h => by simp at h
  | _, _, 0, _, .cons a b _, h => by
    simp at h; subst h
    exact ⟨_, rfl, a, b⟩
  | _, _, j + 1, _, .cons _ _ t, h => by
    obtain ⟨kv, q1, q2⟩ := pairs_get (j := j) t (by simpa using h)
    exact ⟨kv, by simpa using q1, q2⟩
theorem pairs_len {P : Program} {w : World} : ∀ {es : List DictEntry} {vs : List (Key × Value)}, Pairs (mixKind P w) es vs → es.length = vs.length
  | _, _, .nil => rfl
  | _, _, .cons _ _ t => by simp [pairs_len t]
theorem dp_get {H : Hp} : ∀ {vs : List V} {ds : List PyData} {j : Nat} {v : V}, DpAll K H vs ds → vs[j]? = some v → ∃ d, ds[j]? = some d ∧ Dp K H v d
  | _, _, _, _, .nil, h => by simp at h
  | _, _, 0, _, .cons a _, h => by
    simp at h; subst h
    exact ⟨_, rfl, a⟩
  | _, _, j + 1, _, .cons _ t, h => by
    obtain ⟨d, q1, q2⟩ := dp_get (j := j) t (by simpa using h)
    exact ⟨d, by simpa using q1, q2⟩
theorem dp_len {H : Hp} : ∀ {vs : List V} {ds : List PyData}, DpAll K H vs ds → vs.length = ds.length
  | _, _, .nil => rfl
  | _, _, .cons _ t => by simp [dp_len t]
theorem key_reads {h : Heap} {k : Key} {u : Value} (e : keyIs k u = true) : Reads h u (kD k) [] ∧ RelV (kV k) u := by
  cases k with
  | inl i =>
    cases u <;> simp [keyIs, Value.isInt] at e
    subst e
    exact ⟨.int _ _, _, rfl⟩
  | inr x =>
    cases u <;> simp [keyIs, Value.isStrOf] at e
    subst e
    exact ⟨.str _ _, _, rfl⟩
mutual
theorem reads_imm {h : Heap} : ∀ {v : Value} {d : PyData} {as : List Addr}, Reads h v d as → imm d = true → as = []
  | _, _, _, .none, _ => rfl
  | _, _, _, .bool _, _ => rfl
  | _, _, _, .int _ _, _ => rfl
  | _, _, _, .str _ _, _ => rfl
  | _, _, _, .list _ _ _ _, k => by simp [imm] at k
  | _, _, _, .tuple _ _ _ t, k => readsAll_imm t (by simpa [imm] using k)
  | _, _, _, .dict _ _ _ _ _, k => by simp [imm] at k
theorem readsAll_imm {h : Heap} : ∀ {v : List Value} {d : List PyData} {as : List Addr}, ReadsAll h v d as → imms d = true → as = []
  | _, _, _, .nil, _ => rfl
  | _, _, _, .cons a t, k => by
    simp only [imms, Bool.and_eq_true] at k
    rw [reads_imm a k.1, readsAll_imm t k.2]; rfl
end
/-- objects that are there already are tracked -/
theorem takeAll {pins : List (Addr × Obj)} {σ : L2.St} {H0 : Hp} {s : Shared} {h' : Heap} {tk : Nat} (I0 : Inv X pins σ H0 s) : ∀ (L : List (Addr × HO)) (H1 : Hp), Inv X pins σ H1 { s with heap := h', toks := tk } → (L.map (·.1)).Nodup →
    (∀ b ∈ L, s.heap.objs.size ≤ b.1 ∧ H1 b.1 = none ∧ ∀ H2, ObjOk X.prog X.w H2 h' b.1 b.2) →
    ∃ H2, Inv X pins σ H2 { s with heap := h', toks := tk } ∧ Same H1 H2 ∧ (∀ b ∈ L, H2 b.1 = some b.2) ∧ ∀ a, a ∉ L.map (·.1) → H2 a = H1 a
  | [], H1, I1, _, _ => ⟨H1, I1, .refl _, (fun _ h => nomatch h), fun _ _ => rfl⟩
  | (a, u) :: L, H1, I1, nd, h => by
    obtain ⟨lo, no, ok⟩ := h _ List.mem_cons_self
    rw [List.map_cons, List.nodup_cons] at nd
    have I2 : Inv X pins σ (upd H1 a u) { s with heap := h', toks := tk } := I1.take (h' := h') (t' := tk) (fun b ob _ e => e) (I0.fpOk lo no) (ok _)
    obtain ⟨H2, I3, sm, all, out⟩ := takeAll I0 L (upd H1 a u) I2 nd.2 fun c hc => by
      obtain ⟨c1, c2, c3⟩ := h c (List.mem_cons_of_mem _ hc)
      exact ⟨c1, by rw [upd_ne fun z => nd.1 (List.mem_map.mpr ⟨c, hc, z⟩)]; exact c2, c3⟩
    refine ⟨H2, I3, (same_upd no).trans sm, fun b hb => ?_, fun b nb => ?_⟩
    · rcases List.mem_cons.mp hb with e | e
      · subst e; exact sm _ _ upd_same
      · exact all b e
    · rw [List.map_cons, List.mem_cons, not_or] at nb
      rw [out b nb.2, upd_ne nb.1]
/-- the rows of a dict -/
def rowsD (t : Tab) : List PyData := t.map fun p => .tuple [p.1, p.2]
abbrev Row := Addr × (Key × V) × PyData
def encR (b : Row) : PyData := .tuple [kD b.2.1.1, b.2.2]
def rSortK (K : PySem.W.Frag) : List V → Hp → VK → Prop := fun xs H Q => ∃ (p a : Addr) (kvs : List (Key × V)) (ds : List PyData), xs = [.ref p] ∧ H p = some (itemsO p a) ∧ H a = some (.dK kvs) ∧ DpAll K H (kvs.map (·.2)) ds ∧ OkSort (rowsD (zipK kvs ds)) ∧
  ∀ (H' : Hp) (l : Addr) (N : List Row), Same H H' → H l = none → N.map (·.2) = kvs.zip ds → H' l = some (.lst ((N.mergeSort (PySem.W.dataLe false encR)).map fun b => .ref b.1)) →
    (∀ b ∈ N, ∃ o : Obj, o.dict = none ∧ H' b.1 = some (.frz o (.tup [kV b.2.1.1, b.2.1.2]))) → Q (.ref l) H'
theorem rows_zip : ∀ {kvs : List (Key × V)} {ds : List PyData}, rowsD (zipK kvs ds) = (kvs.zip ds).map fun z => .tuple [kD z.1.1, z.2]
  | [], _ => rfl
  | _ :: _, [] => rfl
  | (k, v) :: kvs, d :: ds => by
    show _ :: rowsD (zipK kvs ds) = _ :: _
    rw [rows_zip]
    rfl
theorem call_sortItems (hc : X.calm = true) (hu : X.A.units + 68 < cLine) : CallR X (.builtin "sorted") (rSortK X.K) := by
  intro pins s σ H xs us Q I r ⟨p, a, kvs, ds, ex, hp, ha, hd, ok, q⟩
  subst ex
  obtain rfl := Vals.ref1 r
  have view : s.heap.IsItemsView p a := (show ObjOk X.prog X.w H s.heap p (itemsO p a) from I.hok p _ hp).1
  obtain ⟨z, _, vs, rel, o, es, ep, ho, hx, hdat, _, pr, _⟩ := dk_of I.hok ha
  have l1 := rel.length
  have l2 := pairs_len pr
  have l3 := dp_len hd
  rw [List.length_map] at l3
  have l4 : es.size = es.toList.length := by simp
  classical
  refine DT.sortedI (es := es) (ep := ep) (I.ok.hd hc) view ⟨o, ho, hx, hdat⟩ (by omega) fun h' tk as hk hlt hl made => ?_
  let N : List Row := as.zip (kvs.zip ds)
  have lN : N.length = as.length := by simp [N]; omega
  have m2 : N.map (·.2) = kvs.zip ds := List.map_snd_zip (by simp; omega)
  have m1 : N.map (·.1) = as := List.map_fst_zip (by simp; omega)
  have mE : N.map encR = rowsD (zipK kvs ds) := by
    rw [rows_zip, ← m2, List.map_map]; rfl
  have nd : as.Nodup := made.rise.imp fun h => Nat.ne_of_lt h
  have at_ : ∀ b ∈ N, ∃ u y, h'.get? b.1 = some (oTup [u, y]) ∧ Reads s.heap u (kD b.2.1.1) [] ∧ Reads s.heap y b.2.2 [] ∧ Vals [kV b.2.1.1, b.2.1.2] [u, y] := by
    intro b hb
    obtain ⟨j, hj⟩ := List.mem_iff_getElem?.mp hb
    obtain ⟨j1, j2⟩ := List.getElem?_zip_eq_some.mp hj
    obtain ⟨j3, j4⟩ := List.getElem?_zip_eq_some.mp j2
    obtain ⟨en, he, hg⟩ := made.pairs j _ j1
    obtain ⟨kv, e1, e2, e3⟩ := pairs_get pr (show es.toList[j]? = some en by simpa using he)
    obtain ⟨kv', f1, f2, f3⟩ := pget rel e1
    rw [j3] at f1
    cases f1
    obtain ⟨d, g1, g2⟩ := dp_get hd (show (kvs.map (·.2))[j]? = some b.2.1.2 by simp [j3])
    rw [j4] at g1
    cases g1
    rw [← f2] at e2
    obtain ⟨r1, r2⟩ := key_reads (h := s.heap) e2
    rw [← e3] at f3
    obtain ⟨as', r3⟩ := Dp.reads I _ _ _ g2 f3
    have im : imm b.2.2 = true := by
      have := imms_mem ok.im (.tuple [kD b.2.1.1, b.2.2]) (by rw [← mE]; exact List.mem_map_of_mem hb)
      simp only [imm, imms, Bool.and_eq_true] at this
      exact this.2.1
    have e := reads_imm r3 im
    subst e
    exact ⟨en.key, en.val, hg, r1, r3, .cons r2 (.cons f3 .nil)⟩
  let h2 := h'.push { cls := .type "list", data := .seq (as.map Value.ref).toArray }
  have ka : ∀ b o, h'.get? b = some o → h2.get? b = some o := fun b o e => Heap.get?_push_of_some _ e
  have kb : ∀ b o, s.heap.get? b = some o → h2.get? b = some o := fun b o e => ka b o (hk b o e)
  have hob : h2.get? h'.objs.size = some (seqObj "list" (as.map Value.ref).toArray 0) := Heap.get?_push_size _ rfl
  have eR : PySem.W.EachIs (fun v (b : Row) => v = Value.ref b.1) (as.map Value.ref) N := by
    have go : ∀ M : List Row, PySem.W.EachIs (fun v (b : Row) => v = Value.ref b.1) ((M.map (·.1)).map Value.ref) M := fun M => by
      induction M with
      | nil => exact .nil
      | cons b M ih => exact .cons rfl ih
    have := go N
    rw [m1] at this
    exact this
  have each : ∀ M : List Row, (∀ b ∈ M, b ∈ N) → PySem.W.EachIs (fun v (b : Row) => ∃ as', Reads h2 v (encR b) as' ∧ h'.objs.size ∉ as') ((M.map (·.1)).map Value.ref) M := fun M => by
    induction M with
    | nil => exact fun _ => .nil
    | cons b M ih =>
      intro sub
      obtain ⟨u, y, g, r1, r2, _⟩ := at_ b (sub b List.mem_cons_self)
      exact .cons ⟨[], .tuple (ka _ _ g) rfl rfl (.cons (as := []) (bs := []) (PyProof.Rows.Reads.keeps kb r1) (.cons (as := []) (bs := []) (PyProof.Rows.Reads.keeps kb r2) .nil)), List.not_mem_nil⟩ (ih fun c hc => sub c (List.mem_cons_of_mem _ hc))
  have eE := each N fun b hb => hb
  rw [m1] at eE
  refine PySem.W.list_sort_data (s := { s with heap := h2, toks := tk }) (n := 0) (R := fun v (b : Row) => v = Value.ref b.1) (enc := encR) (bs := N) hob eR eE (by rw [mE]; exact ok.al) (by rw [mE]; exact ok.so) (by rw [sizeLine_eq]; rw [sizeLine_eq] at z; omega) (fun b hb => ?_) fun out hlen eo => ?_
  · have := SeqAt.depth_of_shaped (ok.ok (encR b) (by rw [← mE]; exact List.mem_map_of_mem hb)).2
    show X.A.units + 1 + 1 + _ < _
    omega
  · have eout : out = (N.mergeSort (PySem.W.dataLe false encR)).map fun b => Value.ref b.1 := by
      have go : ∀ (us : List Value) (M : List Row), PySem.W.EachIs (fun v (b : Row) => v = Value.ref b.1) us M → us = M.map fun b => Value.ref b.1 := fun us M h => by
        induction h with
        | nil => rfl
        | cons a _ ih => rw [List.map_cons, a, ih]
      exact go _ _ eo
    let hF := sortedHeap h2 h'.objs.size (as.map Value.ref) out.toArray
    have ne0 : ∀ b o, h'.get? b = some o → b ≠ h'.objs.size := fun b o e => Nat.ne_of_lt (Heap.lt_size e)
    have kF : ∀ b o, b ≠ h'.objs.size → h2.get? b = some o → hF.get? b = some o := fun b o hb e => (PyProof.Rows.sortedHeap_old hb (Heap.lt_size e)).trans e
    have kS : ∀ b o, s.heap.get? b = some o → hF.get? b = some o := fun b o e => kF b o (ne0 _ _ (hk b o e)) (kb b o e)
    obtain ⟨eF, heF⟩ := PyProof.Rows.sortedHeap_at (vs := as.map Value.ref) (out := out.toArray) hob
    have I1 : Inv X pins σ H { s with heap := hF, toks := tk } := I.kept (t' := tk) kS
    have hn0 : H h'.objs.size = none := I.hok.fresh (Nat.le_of_lt hlt)
    let vl : List V := (N.mergeSort (PySem.W.dataLe false encR)).map fun b => V.ref b.1
    have rv : Vals vl out := by
      rw [eout]
      have go : ∀ M : List Row, Vals (M.map fun b => V.ref b.1) (M.map fun b => Value.ref b.1) := fun M => by
        induction M with
        | nil => exact .nil
        | cons b M ih => exact .cons rfl ih
      exact go _
    have few : vl.length ≤ sizeLine := by
      simp only [vl, List.length_map, List.length_mergeSort]
      omega
    have tupOk : ∀ b ∈ N, ∃ o : Obj, o.dict = none ∧ ∀ H2, ObjOk X.prog X.w H2 hF b.1 (.frz o (.tup [kV b.2.1.1, b.2.1.2])) := fun b hb => by
      obtain ⟨u, y, g, _, _, rr⟩ := at_ b hb
      have g2 := kF _ _ (ne0 _ _ g) (ka _ _ g)
      exact ⟨oTup [u, y], rfl, fun H2 => ⟨g2, by show 2 ≤ sizeLine; decide, [u, y], rr, ⟨_, g2, rfl, _, rfl⟩⟩⟩
    let f : Row → HO := fun b => if hb : b ∈ N then .frz (tupOk b hb).choose (.tup [kV b.2.1.1, b.2.1.2]) else .lst []
    have ff : ∀ b ∈ N, ∃ o : Obj, o.dict = none ∧ f b = .frz o (.tup [kV b.2.1.1, b.2.1.2]) ∧ ∀ H2, ObjOk X.prog X.w H2 hF b.1 (f b) := fun b hb => by
      have e : f b = .frz (tupOk b hb).choose (.tup [kV b.2.1.1, b.2.1.2]) := dif_pos hb
      exact ⟨_, (tupOk b hb).choose_spec.1, e, fun H2 => by rw [e]; exact (tupOk b hb).choose_spec.2 H2⟩
    let L : List (Addr × HO) := (h'.objs.size, .lst vl) :: N.map fun b => (b.1, f b)
    have mL : L.map (·.1) = h'.objs.size :: as := by
      simp only [L, List.map_cons, List.map_map]
      rw [← m1]
      rfl
    obtain ⟨H2, I2, sm, all, _⟩ := takeAll (h' := hF) (tk := tk) I L H I1 (by
        rw [mL, List.nodup_cons]
        exact ⟨fun m => absurd (made.there m) (Nat.lt_irrefl _), nd⟩) fun b hb => by
      rcases List.mem_cons.mp hb with e | e
      · subst e
        exact ⟨Nat.le_of_lt hlt, hn0, fun H2 => ⟨few, out, eF, rv, heF⟩⟩
      · obtain ⟨c, hc, e⟩ := List.mem_map.mp e
        subst e
        have lo : s.heap.objs.size ≤ c.1 := Nat.le_of_lt (made.above _ (by rw [← m1]; exact List.mem_map_of_mem hc))
        obtain ⟨_, _, _, q3⟩ := ff c hc
        exact ⟨lo, I.hok.fresh lo, q3⟩
    refine ⟨.ref h'.objs.size, H2, I2, rfl, q H2 h'.objs.size N sm hn0 m2 (all _ List.mem_cons_self) fun b hb => ?_⟩
    obtain ⟨o, q1, q2, _⟩ := ff b hb
    exact ⟨o, q1, by rw [← q2]; exact all (b.1, f b) (List.mem_cons_of_mem _ (List.mem_map_of_mem hb))⟩
def fSortItems (f : FX) : FX := fun ρ => match f ρ with
  | some (.dict t, ρ1) => if okSort (rowsD t) = true then some (.list ((rowsD t).mergeSort leD), ρ1) else none
  | _ => none
theorem rows_imm : ∀ {t : Tab}, imms (rowsD t) = true → imms (t.map (·.2)) = true
  | [], _ => rfl
  | p :: t, h => by
    simp only [rowsD, List.map_cons, imms, imm, Bool.and_eq_true] at h ⊢
    exact ⟨h.1.2.1, rows_imm h.2⟩
theorem fe_sortitems {j : Nat} {o : Expr} {p1 q apos : Pos} {c : Nat} {p : Bool} {f : FX} (hr : Room j X.A) (hc : X.calm = true) (hg : Gl X "sorted") (hm : X.mg "sorted" = none) (ho : FE X own c p o f)
    (na2 : starEach [.Call (.Attribute o "items" apos) [] [] q] X.env = (false, eval (.Call (.Attribute o "items" apos) [] [] q) X.env) :: starEach [] X.env := by rfl)
    (hbase : attributeBase o "items" X.env (eval o X.env) = eval o X.env := by rfl) (hline : (apos.endLine == q.line) = true := by rfl) (z2 : (backTo pos (starEach [] X.env)).any (·.1) = false := by rfl) :
    FE X own 2 p (.Call (.Name "sorted" p1) [.Call (.Attribute o "items" apos) [] [] q] [] pos) (fSortItems f) :=
  (pe_callB (call_sortItems hc (Room.units2 hr)) hg hm boot_sorted' (pa_cons (pe_bm0 PySem.F.plainAttrs_dict PySem.F.slot_dict_items PySem.F.type_dict_items mt_itemsK ho hbase hline) pa_nil na2) (by decide) (by decide) na2 z2).conv fun σ H Q ⟨ρ, F, d, ρ', r, e1, k⟩ => by
    unfold fSortItems at e1
    split at e1
    · rename_i t ρ1 ea
      split at e1
      · rename_i hs
        have ok := okSort_is hs
        cases e1
        refine ⟨ρ, F, .dict t, ρ', r, ea, fun v H1 F1 R1 r1 s1 p1 v1 c1 => ?_⟩
        cases v1 with
        | dic h1 h2 nd et =>
          rename_i a kvs ds R
          subst et
          have l := h2.length
          rw [List.length_map] at l
          have m2 : (zipK kvs ds).map (·.2) = ds := List.map_snd_zip (by simp; omega)
          have im : imms ds = true := by
            have := rows_imm ok.im
            rw [m2] at this
            exact this
          have f2 := DVs.imm_each im h2
          have nod : noDs ds = true := noDs_of fun d hd => by
            rw [← m2] at hd
            obtain ⟨x, hx, e⟩ := List.mem_map.mp hd
            have := (ok.ok (.tuple [x.1, x.2]) (List.mem_map_of_mem (f := fun p : PyData × PyData => PyData.tuple [p.1, p.2]) hx)).1
            simp only [noD, noDs, Bool.and_eq_true] at this
            rw [← e]
            exact this.2.1
          refine ⟨.inr (.inr (.inl ⟨rfl, .inl ⟨_, h1⟩⟩)), a, kvs, rfl, rfl, h1, fun b hb => ?_⟩
          have sm1 : Same H1 (upd H1 b (itemsO b a)) := same_upd hb
          have ne : a ≠ b := fun e => by subst e; rw [hb] at h1; cases h1
          refine ⟨b, a, kvs, ds, rfl, upd_same, sm1 _ _ h1, (f2.same sm1).dp nod, ok, fun H' lst N sm hl mN at_ tups => ?_⟩
          have sm2 : Same H1 H' := sm1.trans sm
          have mE : (N.mergeSort (PySem.W.dataLe false encR)).map encR = (rowsD (zipK kvs ds)).mergeSort leD := by
            have := List.map_mergeSort (r := PySem.W.dataLe false encR) (s := leD) (f := encR) (l := N) fun a _ b _ => rfl
            rw [this, rows_zip, ← mN, List.map_map]
            rfl
          have each : ∀ M : List Row, (∀ c ∈ M, c ∈ N) → DVs X.K H' (M.map fun c => V.ref c.1) (M.map encR) [] := fun M => by
            induction M with
            | nil => exact fun _ => .nil
            | cons c M ih =>
              intro sub
              have hc := sub c List.mem_cons_self
              obtain ⟨o, o1, o2⟩ := tups c hc
              have z : c.2 ∈ kvs.zip ds := by rw [← mN]; exact List.mem_map_of_mem hc
              have vz : DV X.K H1 c.2.1.2 c.2.2 [] := by
                have : (c.2.1.2, c.2.2) ∈ (kvs.map (·.2)).zip ds := by
                  rw [List.zip_map_left]
                  exact List.mem_map.mpr ⟨c.2, z, rfl⟩
                exact zip_dvs f2 _ this
              have kz : DV X.K H' (kV c.2.1.1) (kD c.2.1.1) [] := by
                cases c.2.1.1 with
                | inl i => exact .int i
                | inr x => exact .str x
              exact .cons (R := []) (R' := []) (.tup (.of o2 o1) (.cons (R := []) (R' := []) kz (.cons (R := []) (R' := []) (vz.same sm2) .nil))) (ih fun d hd => sub d (List.mem_cons_of_mem _ hd))
          have dv := each (N.mergeSort (PySem.W.dataLe false encR)) fun c hc => (List.mergeSort_perm _ _).mem_iff.mp hc
          rw [mE] at dv
          have hl1 : H1 lst = none := by
            by_cases e : lst = b
            · subst e; exact hb
            · rwa [upd_ne e] at hl
          refine fin k r1 s1 p1 sm2 (.lst at_ dv) ⟨by simp, fun x hx => ?_⟩
          have e : x = lst := by simpa using hx
          subst e
          exact ⟨hl1, by rw [at_]; trivial⟩
      · cases e1
    · cases e1
end
end FP
namespace FP
open PySem PySem.Spec PyProof.Rows L2
/-! ### the deck of a law: its script stands frozen, in slot 0 -/
theorem loop_turns {K : PySem.W.Frag} {own io : Nat → Bool} {ts : List Nat} {h : FTg} {g : FSt} {D : Ends} {σ : L2.St} {H1 : Hp} {ρ1 : EV} {F1 : Fo} {J : It} {ds : List PyData} {R RI : List Addr} (r1 : RepE K own σ H1 ρ1 F1) (dit : DIt K J ds R RI H1) (ap : ∀ a ∈ R, ¬ InF own F1 a) (tr : ∀ a ∈ RI, ¬ InF own F1 a ∧ H1 a ≠ none)
    (k1 : Post K own io D σ H1 F1 (loopF h g ds ρ1)) : ∃ W : Nat → Nat → L2.St → Hp → Prop, (∃ m, W 0 m σ H1) ∧ ∀ i m σ H, W i m σ H →
      (J.stop i H ∧ D.nx σ H) ∨ (J.go i H ∧ ∃ N : L2.St → Hp → Prop, (∀ σ' H', N σ' H' → ∃ m', m' < m ∧ W (i + 1) m' σ' H') ∧ ∀ x H', J.yld i H x H' → tG K own io ts h x σ H' fun σ2 H2 => tS K own io g { D with nx := N, ct := N, bk := D.nx } σ2 H2) := by
  refine ⟨fun i m σ' H' => m = ds.length - i ∧ i ≤ ds.length ∧ ∃ ρ' F', RepE K own σ' H' ρ' F' ∧ StpS own H1 F1 H' F' ∧ Post K own io D σ' H' F' (loopF h g (ds.drop i) ρ'), ⟨ds.length, by simp, Nat.zero_le _, ρ1, F1, r1, .refl, by simpa using k1⟩, ?_⟩
  rintro i m σ' H' ⟨rfl, hi, ρ', F', r', s', k'⟩
  have ex : Ext R H1 H' := Ext.of r1 s' ap
  by_cases hlt : i < ds.length
  · refine .inr ⟨dit.go H' i ex hlt, fun σ3 H3 => i + 1 ≤ ds.length ∧ ∃ ρ3 F3, RepE K own σ3 H3 ρ3 F3 ∧ StpS own H1 F1 H3 F3 ∧ Post K own io D σ3 H3 F3 (loopF h g (ds.drop (i + 1)) ρ3), fun σ3 H3 ⟨h1, h2⟩ => ⟨ds.length - (i + 1), by omega, rfl, h1, h2⟩, fun x H2 y => ?_⟩
    obtain ⟨sm, d, Ri, e1, hv, hr⟩ := dit.yld H' i x H2 ex hlt y
    rw [drop_at hlt] at k'
    have ed : ds[i] = d := by
      rw [List.getElem?_eq_getElem hlt] at e1
      exact Option.some.inj e1
    rw [ed] at k'
    unfold loopF at k'
    cases q2 : h d ρ' with
    | none => rw [q2] at k'; exact k'.elim
    | some ρ2 =>
      rw [q2] at k'
      simp only at k'
      refine ⟨ρ', F', d, Ri, ρ2, r'.same sm, hv, fun a ha => s'.apart (tr a (hr a ha)).2 (tr a (hr a ha)).1, q2, fun σ2 F2 r2 s2 f2 g2 l2 e2 => ⟨ρ2, F2, r2, ?_⟩⟩
      have s02 : StpT own io σ' H' F' σ2 H2 F2 := (StpT.ofE (σ := σ') (Stp.same sm)).trans s2
      have s12 : StpS own H1 F1 H2 F2 := s'.trans s02.toStpS
      cases q3 : g ρ2 with
      | nx ρ3 =>
        rw [q3] at k'
        exact fun σ3 H3 F3 r3 s3 => ⟨hlt, ρ3, F3, r3, s12.trans s3.toStpS, Post.later (s02.trans s3) k'⟩
      | ct ρ3 =>
        rw [q3] at k'
        exact fun σ3 H3 F3 r3 s3 => ⟨hlt, ρ3, F3, r3, s12.trans s3.toStpS, Post.later (s02.trans s3) k'⟩
      | bk ρ3 =>
        rw [q3] at k'
        exact fun σ3 H3 F3 r3 s3 => k' σ3 H3 F3 r3 (s02.trans s3)
      | rt d' ρ3 =>
        rw [q3] at k'
        exact fun v σ3 H3 F3 R3 r3 s3 hv' hr' => k' v σ3 H3 F3 R3 r3 (s02.trans s3) hv' (hr'.later s02.toStpS)
      | no => rw [q3] at k'; exact k'.elim
  · have e : i = ds.length := by omega
    subst e
    rw [List.drop_length] at k'
    exact .inl ⟨dit.stop H' _ ex (Nat.le_refl _), k' σ' H' F' r' .refl⟩
/-- a list that nothing changes -/
def FzL (K : PySem.W.Frag) (H : Hp) (a : Addr) (xs : List V) : Prop := (∃ o, H a = some (.frz o (.lst xs))) ∨
  ∃ (o : Obj) (its : Array Value) (n : Nat), K.lookup a = some o ∧ o.cls = .type "list" ∧ o.dict = none ∧ o.data = .seq its n ∧ its.size ≤ sizeLine ∧ Vals xs its.toList
section
variable {K : PySem.W.Frag} {H H' : Hp} {a : Addr} {xs : List V}
theorem FzL.sq (h : FzL K H a xs) : SqL K H a xs := h.elim (fun ⟨o, h⟩ => .inl (.inr ⟨o, h⟩)) .inr
theorem FzL.keep (h : FzL K H a xs) (k : ∀ b o, H b = some o → ¬ Mut (some o) → H' b = some o) : FzL K H' a xs := h.elim (fun ⟨o, h⟩ => .inl ⟨o, k _ _ h fun z => z⟩) .inr
theorem FzL.of (o : Only H) (h : SqL K H a xs) : FzL K H a xs := by
  rcases h with (h | h) | h
  · rcases o a with z | ⟨_, _, z⟩
    · rw [h] at z; cases z
    · rw [h] at z; cases z
  · exact .inl h
  · exact .inr h
/-- the script in slot 0 -/
def Scr (K : PySem.W.Frag) (σ : L2.St) (H : Hp) (ns : List Int) : Prop := ∃ a, σ[0]? = some (some (.ref a)) ∧ FzL K H a (ns.map V.int)
theorem Scr.later {own io : Nat → Bool} {σ σ' : L2.St} {F F' : Fo} {ρ : EV} {ns : List Int} (h : Scr K σ H ns) (i0 : io 0 = true) (r : RepE K own σ H ρ F) (s : StpT own io σ H F σ' H' F') : Scr K σ' H' ns := by
  obtain ⟨a, h1, h2⟩ := h
  exact ⟨a, (s.sl 0 i0).trans h1, h2.keep (s.toStpS.tups r)⟩
theorem Scr.same {σ : L2.St} {ns : List Int} (h : Scr K σ H ns) (s : Same H H') : Scr K σ H' ns := by
  obtain ⟨a, h1, h2⟩ := h
  exact ⟨a, h1, h2.keep fun b o e _ => s b o e⟩
theorem cut_ints (ns : List Int) (n : Nat) : cutV (ns.map V.int) none (some (n : Int)) = (ns.take n).map V.int := by
  unfold cutV
  rw [HT.sIx_nat]
  show ((ns.map V.int).drop 0).take (min n _ - 0) = _
  rw [List.drop_zero, Nat.sub_zero, List.map_take]
  by_cases h : n ≤ (ns.map V.int).length
  · rw [Nat.min_eq_left h]
  · rw [Nat.min_eq_right (by omega), List.take_of_length_le (Nat.le_refl _), List.take_of_length_le (by omega)]
/-- the first n cells, as data -/
abbrev cells (n : Nat) (ns : List Int) : List PyData := (ns.take n).map PyData.int
/-- script[:n] -/
abbrev tCut (K : PySem.W.Frag) (n : Nat) : TE := tSl (rSlL K) (tVar 0) tNoPart (tPart (tC (.int (n : Int))))
theorem cut_new {σ : L2.St} {ns : List Int} {n : Nat} {Q : VK} (h : Scr K σ H ns) (k : ∀ p, H p = none → Q (.ref p) (upd H p (.lst ((ns.take n).map V.int)))) : tCut K n σ H Q := by
  obtain ⟨a, h1, h2⟩ := h
  exact ⟨_, h1, n, rfl, a, _, rfl, h2.sq, fun p hp => by rw [cut_ints]; exact k p hp⟩
end
section
variable {X : Cx} {own io : Nat → Bool} {pos : Pos}
/-- for cell in script[:n] -/
def tDeckFor (K : PySem.W.Frag) (own io : Nat → Bool) (n : Nat) (h : FTg) (g : FSt) : TS := fun D σ H => ∃ ns ρ F, Scr K σ H ns ∧ RepE K own σ H ρ F ∧ Post K own io D σ H F (loopF h g (cells n ns) ρ)
theorem deck_for {tg iter : Expr} {body : List Stmt} {n : Nat} {h : FTg} {g : FSt} {ts : List Nat} (hp : PassesOwn (model X.prog X.w) X.A X.env X.xe) (hc : X.calm = true) (hi : PE X iter (tCut X.K n)) (hg : FG X own io ts tg h) (hb : FSs X own io body g)
    (hs : ∀ x, foldedSetIterable iter X.env x = pure x := by intro _; rfl) : PS X (.For tg iter body [] pos) (tDeckFor X.K own io n h g) := (ps_for hp hc (pi_list hi) hg hb hs).conv fun D σ H ⟨ns, ρ, F, sc, r, k⟩ => by
  refine cut_new sc fun p hp => ⟨p, rfl, ⟨_, SqL.of upd_same⟩, ?_⟩
  have sm : Same H (upd H p (.lst ((ns.take n).map V.int))) := same_upd hp
  have r1 := r.same sm
  have dv := dvs_ints' (K := X.K) (H := upd H p (.lst ((ns.take n).map V.int))) (ns.take n)
  refine loop_turns r1 (dit_list upd_same dv) (fun a ha => ?_) (fun a ha => absurd ha List.not_mem_nil) (Post.later (StpT.ofE (io := io) (σ := σ) (.same sm)) k)
  have e : a = p := by simpa using ha
  subst e
  exact r.fresh hp
/-- the deck -/
def deckD (l : List PyData) (m : Int) : PyData := .dict [(.str "left", .list l), (.str "mixed", .int m), (.str "draws", .int 0)]
def tDeckRet (K : PySem.W.Frag) (n : Nat) : TS := fun D σ H => ∃ ns m, Scr K σ H ns ∧ σ[1]? = some (some (.int m)) ∧ ∀ v H' R', Same H H' → DV K H' v (deckD (cells n ns).reverse m) R' → New H H' R' → D.rt v H'
theorem deck_ret {n : Nat} {e v1 v2 : Expr} {k : Nat} {q1 q2 q3 q4 q5 pos' : Pos} {j1 j2 j3} {qa qb qc qd : Pos} (hc : X.calm = true) (hg : Gl X "list") (hm : X.mg "list" = none) (he : PE X e (tCut X.K n)) (h1 : PE X v1 (tVar 1)) (h2 : PE X v2 (tC (.int 0)))
    (na : starEach [e] X.env = (false, eval e X.env) :: starEach [] X.env := by rfl) (z1 : (backTo q4 (starEach [] X.env)).any (·.1) = false := by rfl) :
    PS X (.Return (some (.Dict [some (.Constant (.str "left") j1 qa), some (.Constant (.str "mixed") j2 qb), some (.Constant (.str "draws") j3 qc)]
      [.Subscript (.Call (.Name "list" q5) [e] [] q4) (.Slice none none (some (.UnaryOp .USub (.Constant (.int 1) k q1) q2)) q3) pos', v1, v2] qd)) pos) (tDeckRet X.K n) :=
  (ps_ret (pe_disp (pps_cons pe_str (pe_revL (pe_callTy call_list_of hg hm (by decide +kernel) (pa_cons he pa_nil na) (by decide) (by decide) na z1)) (pps_cons pe_str h1 (pps_cons pe_str h2 pps_nil))) rfl rfl (by simp) (show 3 ≤ 15 by decide))).conv fun D σ H ⟨ns, m, sc, hv, k⟩ p hp => by
    have w1 : Str.ofString "left" ≠ Str.ofString "mixed" := by decide
    have w2 : Str.ofString "left" ≠ Str.ofString "draws" := by decide
    have w3 : Str.ofString "mixed" ≠ Str.ofString "draws" := by decide
    have s1 : Same H (upd H p (.dK [])) := same_upd hp
    refine cut_new (sc.same s1) fun q hq => ?_
    have s2 := s1.trans (same_upd (o := .lst ((ns.take n).map V.int)) hq)
    refine ⟨q, _, rfl, .inl (SqL.of upd_same), fun l hl => ?_⟩
    have s3 := s2.trans (same_upd (o := .lst ((ns.take n).map V.int)) hl)
    refine ⟨l, _, rfl, SqL.of upd_same, fun t ht => ?_⟩
    have sm3 := same_upd (o := .lst ((ns.take n).map V.int).reverse) ht
    have s4 := s3.trans sm3
    have pn : ∀ {x : Addr} {H2 : Hp} {o : HO}, H2 x = none → H2 p = some o → p ≠ x := fun a b e => by subst e; rw [a] at b; cases b
    have p1 : upd H p (.dK []) p = some (.dK []) := upd_same
    have p2 := same_upd (o := .lst ((ns.take n).map V.int)) hq p _ p1
    have p3 := same_upd (o := .lst ((ns.take n).map V.int)) hl p _ p2
    have p4 := sm3 p _ p3
    refine ⟨_, hv, p4, [(.inr "left", .ref t), (.inr "mixed", .int m), (.inr "draws", .int 0)], rfl, by simp, ?_⟩
    have em : mergeK [] [((.inr "left" : Key), V.ref t), (.inr "mixed", .int m), (.inr "draws", .int 0)] = [(.inr "left", .ref t), (.inr "mixed", .int m), (.inr "draws", .int 0)] := by
      simp [mergeK, putK, w1, w2, w3]
    rw [em]
    have tp : t ≠ p := fun e => by subst e; rw [ht] at p3; cases p3
    have none_of : ∀ {x : Addr} {H2 : Hp}, Same H H2 → H2 x = none → H x = none := fun s e => by
      cases z : H _ with
      | none => rfl
      | some o => rw [s _ _ z] at e; cases e
    have rev : ((ns.take n).map V.int).reverse = ((ns.take n).reverse).map V.int := by rw [List.map_reverse]
    refine k (.ref p) _ [p, t] (fun a o e => ?_) (.dic (kvs := [(.inr "left", .ref t), (.inr "mixed", .int m), (.inr "draws", .int 0)]) (ds := [.list (cells n ns).reverse, .int m, .int 0]) (R := [t]) upd_same ?_ (by simp [w1, w2, w3]) rfl) ⟨by simp [Ne.symm tp], fun a ha => ?_⟩
    · have ne : a ≠ p := fun z => by subst z; rw [hp] at e; cases e
      rw [upd_ne ne]; exact s4 a o e
    · have dl : ∀ {H2 : Hp}, DVs X.K H2 (((ns.take n).map V.int).reverse) ((cells n ns).reverse) [] := fun {H2} => by
        rw [rev, ← List.map_reverse]
        exact dvs_ints' _
      refine .cons (R := [t]) (R' := []) (.lst (by rw [upd_ne tp]; exact upd_same) dl) (.cons (R := []) (R' := []) (.int m) (.cons (R := []) (R' := []) (.int 0) .nil))
    · rcases List.mem_cons.mp ha with e | e
      · subst e; exact ⟨hp, by rw [upd_same]; trivial⟩
      · have e : a = t := by simpa using e
        subst e
        exact ⟨none_of s3 ht, by rw [upd_ne tp, upd_same]; trivial⟩
end
end FP
namespace FP
open PySem PySem.Spec PyProof.Rows L2
abbrev nOwn : Nat → Bool := fun _ => false
abbrev ioD : Nat → Bool := fun i => i == 0
/-- what the deck is, of the script's cells -/
def mDeck (n : Nat) (c : Int) (h : FTg) (g : FSt) : List Int → Option PyData := fun ns => match (loopF h g (cells n ns) [none, some (.int c), none] : Out) with
  | .nx ρ => match (ρ : EV)[1]? with
    | some (some (PyData.int m)) => some (deckD (cells n ns).reverse m)
    | _ => none
  | _ => none
/-- a promise of the frozen script -/
def spDk (K : PySem.W.Frag) (m : List Int → Option PyData) : Sp := fun vs H Q _ => ∃ a ns r, vs = [.ref a] ∧ FzL K H a (ns.map V.int) ∧ m ns = some r ∧ ∀ v H' R', Same H H' → DV K H' v r R' → New H H' R' → Q v H'
section
variable {P : Program} {w : World} {K : PySem.W.Frag} {mg : Str → Option Value} {base : Heap} {x qual : Str} {st : Stmt} {f : Addr} {fd : FuncData} {N : List Str} {k n : Nat} {c : Int} {h : FTg} {g : FSt} {s1 s2 s3 : Stmt}
theorem same_of {H H' : Hp} {F F' : Fo} (s : StpS nOwn H F H' F') : Same H H' := fun a o e => s.keep a o e fun ⟨i, oi, _⟩ => nomatch oi
theorem deck_ok (hN : N.length = 3) (Fn : Fun K x qual st f fd) (S : FnScope N ["script"] (defScope st)) (hb : defBody st = [s1, s2, s3])
    (parts : ∀ (cdv : Value) (A : Around) (outer : List Env) (s : Shared) (H : Hp) (E : XK), Room k (A.deeper (envOfC qual (defScope st) s.heap.objs.size f cdv)) → A.guards = some [] →
      FS (cxOf CX0 P w K mg base N qual (defScope st) f cdv A outer s H E).nox nOwn ioD s1 (gSet 1 (fC (.int c))) ∧ PS (cxOf CX0 P w K mg base N qual (defScope st) f cdv A outer s H E).nox s2 (tDeckFor K nOwn ioD n h g) ∧
        PS (cxOf CX0 P w K mg base N qual (defScope st) f cdv A outer s H E).nox s3 (tDeckRet K n)) : FnG P w K mg base CX0 (k + 1) f fd ["script"] (spDk K (mDeck n c h g)) := by
  refine body_kept Fn S (fun vs H Q E h => ?_) (fun cdv A outer s H vs Q E hr gd sp => ?_)
  · obtain ⟨a, ns, r, e, _⟩ := h
    rw [e]; rfl
  · obtain ⟨a, ns, r, e, hz, hm, kq⟩ := sp
    subst e
    obtain ⟨p1, p2, p3⟩ := parts cdv A outer s H E hr gd
    rw [hb]
    refine ⟨_, pss_cons p1 (pss_cons p2 (pss_one p3)), ?_⟩
    have st0 : (L2.start N [V.ref a])[0]? = some (some (.ref a)) := start_get rfl
    have len : (L2.start N [V.ref a]).length = 3 := by unfold L2.start; simp [hN]
    have r0 : RepE K nOwn (L2.start N [V.ref a]) H [none, none, none] (fun _ => []) := {
      len := len
      val := fun i d e => by
        rcases i with _ | _ | _ | i
        · simp at e
        · simp at e
        · simp at e
        · simp at e
      emp := fun _ _ => rfl
      nod := fun _ _ => List.nodup_nil
      mu := fun _ _ _ m => absurd m List.not_mem_nil
      dis := fun _ _ _ _ _ m => absurd m List.not_mem_nil }
    have sc0 : Scr K (L2.start N [V.ref a]) H ns := ⟨a, st0, hz⟩
    refine ⟨[none, none, none], _, r0, ?_⟩
    show ∀ σ' H' F', _ → _ → _
    intro σ1 H1 F1 r1 t1
    have sc1 := sc0.later rfl r0 t1
    refine ⟨ns, _, F1, sc1, r1, ?_⟩
    unfold mDeck at hm
    show Post K nOwn ioD _ σ1 H1 F1 (loopF h g (cells n ns) [none, some (.int c), none])
    cases q : loopF h g (cells n ns) [none, some (.int c), none] with
    | nx ρ2 =>
      rw [q] at hm
      simp only at hm
      split at hm
      · rename_i m em
        cases hm
        intro σ2 H2 F2 r2 t2
        have sc2 := sc1.later rfl r1 t2
        obtain ⟨v, q1, q2⟩ := r2.val 1 _ em
        have ev : v = .int m := by
          generalize F2 1 = R at q2
          cases q2; rfl
        subst ev
        have sm : Same H H2 := (same_of t1.toStpS).trans (same_of t2.toStpS)
        refine ⟨ns, m, sc2, q1, fun v H' R' s' hv hn => kq v H' R' (sm.trans s') hv ⟨hn.1, fun b hb => ⟨?_, (hn.2 b hb).2⟩⟩⟩
        have := (hn.2 b hb).1
        cases z : H b with
        | none => rfl
        | some o => rw [sm _ _ z] at this; cases this
      · cases hm
    | _ => rw [q] at hm; cases hm
end
end FP
namespace FP
open PySem PySem.Spec PyProof.Rows L2
/-- what the law tells, of the script's cells: the deck, then the rest of its body -/
def mLaw (n : Nat) (m : List Int → Option PyData) (g : FSt) : List Int → Option PyData := fun ns => match m ns with
  | some dk => match (g ((List.replicate n none).set 1 (some dk)) : Out) with
    | .rt d _ => some d
    | _ => none
  | none => none
section
variable {X : Cx} {own io : Nat → Bool} {pos : Pos}
/-- deck = _law_deck(script) -/
def tLawSet (K : PySem.W.Frag) (own io : Nat → Bool) (m : List Int → Option PyData) : TS := fun D σ H => ∃ ns r, Scr K σ H ns ∧ m ns = some r ∧ tS K own io (gSet 1 (fC r)) D σ H
theorem law_set {x : Str} {pos' : Pos} {e : Expr} {m : List Int → Option PyData} (hN : X.N.Nodup) (hi : X.N[1]? = some x) (hx : Loc X.env.scope x) (he : PE X e (tGo (spDk X.K m) E0 (tCons (tVar 0) tNil))) (ii : io 1 = false := by rfl)
    (hs : swapsWith e (some (.Name x pos')) pos.line X.env = pure false := by rfl) (hf : X.fn x = true ∨ X.env.scope.names.lookup x = some .local := by first | exact .inl rfl | exact .inr rfl | assumption) :
    PS X (.Assign [.Name x pos'] e pos) (tLawSet X.K own io m) := (ps_set hN hi hx he hs hf).conv fun D σ H ⟨ns, r, ⟨a, h1, h2⟩, em, q⟩ => by
  have z := setO_conv (p := true) ii D σ H q
  obtain ⟨ρ, F, d, ρ', r0, e1, k⟩ := (show tD X.K own 2 true (fC r) σ H _ from z)
  cases e1
  exact ⟨_, h1, a, ns, _, rfl, h2, em, fun v H' R' sm hv hn => fin k r0 .refl (fun _ => ⟨rfl, rfl, .refl H⟩) sm hv hn⟩
end
section
variable {P : Program} {w : World} {K : PySem.W.Frag} {mg : Str → Option Value} {base : Heap} {x qual : Str} {st : Stmt} {f : Addr} {fd : FuncData} {N : List Str} {k : Nat} {m : List Int → Option PyData} {g : FSt} {s1 : Stmt} {rest : List Stmt}
theorem law_ok (n : Nat) (own : Nat → Bool) (g : FSt) (hN : N.length = n) (h1 : 1 < n) (Fn : Fun K x qual st f fd) (S : FnScope N ["script"] (defScope st)) (hb : defBody st = s1 :: rest)
    (parts : ∀ (cdv : Value) (A : Around) (outer : List Env) (s : Shared) (H : Hp) (E : XK), Room k (A.deeper (envOfC qual (defScope st) s.heap.objs.size f cdv)) → A.guards = some [] →
      PS (cxOf CX0 P w K mg base N qual (defScope st) f cdv A outer s H E).nox s1 (tLawSet K own noIo m) ∧ FSs (cxOf CX0 P w K mg base N qual (defScope st) f cdv A outer s H E).nox own noIo rest g) :
    FnG P w K mg base CX0 (k + 1) f fd ["script"] (spDk K (mLaw n m g)) := by
  subst hN
  refine body_kept Fn S (fun vs H Q E h => ?_) (fun cdv A outer s H vs Q E hr gd sp => ?_)
  · obtain ⟨a, ns, r, e, _⟩ := h
    rw [e]; rfl
  · obtain ⟨a, ns, r, e, hz, hm, kq⟩ := sp
    subst e
    obtain ⟨p1, p2⟩ := parts cdv A outer s H E hr gd
    rw [hb]
    refine ⟨_, pss_cons p1 p2, ?_⟩
    have st0 : (L2.start N [V.ref a])[0]? = some (some (.ref a)) := start_get rfl
    have lenN : 1 ≤ N.length := by
      have := S.pre
      cases N with
      | nil => simp at this
      | cons y ys => simp
    have len : (L2.start N [V.ref a]).length = N.length := by unfold L2.start; simp; omega
    have r0 : RepE K own (L2.start N [V.ref a]) H (List.replicate N.length none) (fun _ => []) := {
      len := by rw [len]; simp
      val := fun i d e => by
        rw [List.getElem?_replicate] at e
        split at e <;> cases e
      emp := fun _ _ => rfl
      nod := fun _ _ => List.nodup_nil
      mu := fun _ _ _ m => absurd m List.not_mem_nil
      dis := fun _ _ _ _ _ m => absurd m List.not_mem_nil }
    have nF : ∀ b, ¬ InF own (fun _ => []) b := fun b ⟨i, _, z⟩ => absurd z List.not_mem_nil
    unfold mLaw at hm
    split at hm
    · rename_i dk ed
      split at hm
      · rename_i d ρ2 eg
        cases hm
        refine ⟨ns, dk, ⟨a, st0, hz⟩, ed, _, _, r0, ?_⟩
        unfold gSet fC
        simp only [List.length_replicate]
        rw [if_pos h1]
        intro σ1 H1 F1 r1 t1
        refine ⟨_, F1, r1, ?_⟩
        show Post K own noIo _ σ1 H1 F1 (g ((List.replicate N.length none).set 1 (some dk)))
        rw [eg]
        intro v σ2 H2 F2 R2 r2 t2 hv hr2
        have s' := t1.toStpS.trans t2.toStpS
        refine kq v H2 R2 (fun b o e => s'.keep b o e (nF b)) hv ⟨hr2.1, fun b hb => ⟨?_, hr2.2.1 b hb⟩⟩
        rcases hr2.2.2 with z | ⟨i, oi, _, z⟩
        · exact t1.toStpS.no (z b hb).1
        · rcases s'.grow i oi b (z.subset hb) with z | z
          · exact absurd z List.not_mem_nil
          · exact z
      · cases hm
    · cases hm
end
end FP
namespace FP
open PySem PySem.Spec PyProof.Rows L2
/-- where a def of the top stands -/
structure DefAt (K : PySem.W.Frag) (x : Str) (st : Stmt) : Prop where
  ex : ∃ (f : Addr) (fd : FuncData), PySem.W.nsIn K mainGlobals x = some (some (.ref f)) ∧ Fun K x x st f fd
theorem DefAt.mk' {K : PySem.W.Frag} {x : Str} {st : Stmt} {f : Addr} {od an : Option Addr} {sl : Array (Option Value)} {oc kV dc pm cd ct : Value} (a : PySem.W.nsIn K mainGlobals x = some (some (.ref f)))
    (l : K.lookup f = some ⟨oc, od, .func (PySem.W.fnOf x x (defArgs st) (defBody st) (defScope st) .none kV dc pm an cd ct), sl⟩) (c : PySem.W.codeIn K cd x = true) (k : PySem.W.keepIn K (.ref f) = true) : DefAt K x st :=
  ⟨f, _, a, fun_mk (st := st) l c k⟩
/-- how positions bind: told of the def's text alone -/
def PosEq (x : Str) (st : Stmt) (ps : List Str) : Prop := ∀ (kV doc pm : Value) (an : Option Addr) (cdv ct : Value) (us : List Value), us.length = ps.length →
  bindArgs (PySem.W.fnOf x x (defArgs st) (defBody st) (defScope st) .none kV doc pm an cdv ct) ⟨us, []⟩ = pure (ps.zip us)
theorem DefAt.own {K : PySem.W.Frag} {x : Str} {st : Stmt} {ps : List Str} {h : Heap} {mg : Str → Option Value} (D : DefAt K x st) (X : K.In h) (G : h.Ns mainGlobals mg) (e : PosEq x st ps) : OwnF K mg x st ps := by
  obtain ⟨f, fd, a, F⟩ := D.ex
  exact ⟨f, fd, F, PySem.W.mg_of X G a, F.binds e⟩
/-- the law's promise as walk_go wants it -/
theorem law_prom {m : List Int → Option PyData} {n : Nat} (math : ∀ ns : List Int, ns.length ≤ n → m ns = some (.bool true)) (K : PySem.W.Frag) (H : Hp) (a : Addr) (ns : List Int) (hl : ns.length ≤ n) (o : Only H) (s : SqL K H a (ns.map V.int)) :
    spDk K m [.ref a] H (fun v _ => v = .bl true) E0 := ⟨a, ns, _, rfl, .of o s, math ns hl, fun v H' R' _ hv _ => by
  generalize e : PyData.bool true = d at hv
  cases hv <;> cases e
  rfl⟩
/-- the law's def, found by its name -/
theorem law_fn {P : Program} {w : World} {K : PySem.W.Frag} {mg : Str → Option Value} {fa : Addr} {st : Stmt} {k : Nat} {sp : Sp} {h : Heap} (hm : mg "law" = some (.ref fa)) (D : DefAt K "law" st) (X : K.In h) (G : h.Ns mainGlobals mg) (b : ∀ (kV doc pm : Value) (an : Option Addr) (cdv ct : Value) (s : Shared) (u : Value), BindsTo s (PySem.W.fnOf "law" "law" (defArgs st) (defBody st) (defScope st) .none kV doc pm an cdv ct) ⟨[u], []⟩ [("script", u)])
    (C : ∀ base : Heap, Callee P w K mg base "law" st k ["script"] sp) : ∃ fd : FuncData, (∀ (s : Shared) (u : Value), BindsTo s fd ⟨[u], []⟩ [("script", u)]) ∧ ∀ base : Heap, K.In base → base.Ns mainGlobals mg → FnG P w K mg base CX0 k fa fd ["script"] sp := by
  obtain ⟨f, fd, F, hm2, _, _, Fn⟩ := (C h).ex
  rw [hm] at hm2
  cases hm2
  obtain ⟨oc, od, kV, doc, pm, an, cd, ct, osl, efd, lk, rc⟩ := Fn.ex
  refine ⟨fd, fun s u => ?_, fun base _ _ => ?_⟩
  · subst efd
    exact b kV doc pm an cd ct s u
  · obtain ⟨f', fd', F', hm', _, _, Fn'⟩ := (C base).ex
    rw [hm] at hm'
    cases hm'
    obtain ⟨oc', od', kV', doc', pm', an', cd', ct', osl', efd', lk', rc'⟩ := Fn'.ex
    rw [lk] at lk'
    cases lk'
    exact F'
/-! ### x + e, x an owned name, e changing other owned things -/
def fBinN (g : G2) (i : Nat) (fb : FX) : FX := fun ρ => match ρ[i]? with
  | some (some _) => match fb ρ with
    | some (y, ρ2) => match ρ2[i]? with
      | some (some x) => match g x y with
        | some z => some (z, ρ2)
        | none => none
      | _ => none
    | none => none
  | _ => none
theorem fe_opN {X : Cx} {own : Nat → Bool} {op : Operator} {r : R2} {g : G2} {a b : Expr} {pos : Pos} {i cb : Nat} {pb : Bool} {fb : FX} (ho : OpR X (binaryOp op) r) (hg : DOp X.K r g) (ha : PE X a (tVar i)) (hb : FE X own cb pb b fb) : FE X own 2 pb (.BinOp a op b pos) (fBinN g i fb) :=
  (pe_op ho ha hb).conv fun σ H Q ⟨ρ, F, d, ρ', r0, e1, k⟩ => by
    unfold fBinN at e1
    split at e1
    · rename_i x0 e0
      obtain ⟨v, hv, _⟩ := r0.val i _ e0
      split at e1
      · rename_i y ρ2 eb
        split at e1
        · rename_i x ex
          split at e1
          · rename_i z eg
            cases e1
            refine ⟨v, hv, ρ, F, y, ρ', r0, eb, fun u H2 F2 R2 r2 s2 p2 v2 c2 => ?_⟩
            obtain ⟨v', q1, q2⟩ := r2.val i _ ex
            rw [hv] at q1
            cases q1
            exact hg H2 v u x y _ R2 d _ q2 v2 eg fun t H' R sm hv hn => fin k r2 s2 p2 sm hv hn
          · cases e1
        · cases e1
      · cases e1
    · cases e1
end FP
namespace FP
open PySem PySem.Spec PyProof.Rows L2 PySem.W
/-! ### sorted(t) of a tuple -/
section
variable {prog : Program} {w : World} {A : Around} {E : Value → Shared → Prop} {s : Shared}
/-- the heap behind the items of a tuple, taken -/
abbrev tookT (h : Heap) (its : Array Value) : Heap := (h.push (seqObj "list" #[] 0)).update h.objs.size (Obj.mapSeq (· ++ its))
theorem took_tup {K : List Value → Shared → Prop} {a : Addr} {ob : Obj} {its : Array Value} {m : Nat} (hob : s.heap.get? a = some ob) (hcl : ob.cls = .type "tuple") (hda : ob.data = .seq its m) (few : its.size ≤ sizeLine)
    (k : K its.toList { s with heap := tookT s.heap its }) : wpAny (model prog w) A (collect (.ref a)) K E s := by
  unfold collect
  refine wpAny_bind (wpAny_runValue (codeAny_builtin F.entry_proto_collect ?_)); rw [Around.under_plainId F.plain_proto_collect _]
  show wpAny _ A.in1 (do again (.builtin "list.__iadd__" ⟨[← newList [], .ref a], []⟩)) _ _ s
  refine wpAny_bind (wpAny_newList (wpAny_pure ⟨plainId_quiet F.plain_list_iadd _, codeAny_builtin F.entry_list_iadd ?_⟩)); rw [Around.under_plainId F.plain_list_iadd _]
  have z0 : (s.heap.push (seqObj "list" #[] 0)).get? s.heap.objs.size = some (seqObj "list" #[] 0) := Heap.get?_push_size _ rfl
  have last : wpAny (model prog w) A (match Value.ref s.heap.objs.size with | Value.ref b => do { match (← load b).data with | Data.seq ys _ => pure ys.toList | _ => unsupported "internal:collect" } | _ => unsupported "internal:collect") K E { s with heap := tookT s.heap its } := by
    show wpAny _ A (load s.heap.objs.size >>= _) _ _ _
    refine wpAny_bind (wpAny_load (get?_update_seq z0 _) (wpAny_pure ?_))
    rw [show ((#[] : Array Value) ++ its).toList = its.toList by simp]
    exact k
  refine wpAny_mono (wpAny_extend_seq (hsz := few) (A := A) (s := { s with heap := s.heap.push (seqObj "list" #[] 0) }) (R := fun r t => r = .ok (.ret (.ref s.heap.objs.size)) ∧ t = { s with heap := tookT s.heap its }) _ a _ 0 (.inr rfl) z0 (Heap.get?_push_of_some _ hob) hcl hda ⟨rfl, rfl⟩) (fun fn t q => ?_) fun e t q => absurd q.1 (by simp)
  cases fn with
  | done f =>
    obtain ⟨e, rfl⟩ := q
    cases e
    exact last
  | again c => exact ⟨q.1, codeAny_mono q.2 fun r t q => by obtain ⟨rfl, rfl⟩ := q; exact last⟩
end
section
variable {X : Cx} {K : PySem.W.Frag}
def rSortTup (K : PySem.W.Frag) : List V → Hp → VK → Prop := fun xs H Q => ∃ (a : Addr) (vs : List V) (ds : List PyData), xs = [.ref a] ∧ SqT K H a vs ∧ DpAll K H vs ds ∧ vs.length = ds.length ∧ OkSort ds ∧
  ∀ p, H p = none → Q (.ref p) (upd H p (.lst (((vs.zip ds).mergeSort (PySem.W.dataLe false (·.2))).map (·.1))))
theorem each_flat {h : Heap} {p : Addr} : ∀ {us : List Value} {bs : List (V × PyData)}, PySem.W.EachIs (fun v (b : V × PyData) => ∃ as, Reads h v b.2 as) us bs → (∀ b ∈ bs, imm b.2 = true) → PySem.W.EachIs (fun v (b : V × PyData) => ∃ as, Reads h v b.2 as ∧ p ∉ as) us bs
  | _, _, .nil, _ => .nil
  | _, _, .cons ⟨as, r⟩ t, im => .cons ⟨as, r, by rw [reads_imm r (im _ List.mem_cons_self)]; exact List.not_mem_nil⟩ (each_flat t fun b hb => im b (List.mem_cons_of_mem _ hb))
theorem call_sortedTup (hu : X.A.units + 68 < cLine) : CallR X (.builtin "sorted") (rSortTup X.K) := by
  intro pins s σ H xs us Q I r ⟨a, vs, ds, ex, hq, hd, hl, ok, q⟩
  subst ex
  obtain ⟨u, eu, rx⟩ := vals1 r
  subst eu
  cases rx
  obtain ⟨its, rv, ⟨o, ho, hc, n, hdat⟩, hz⟩ := I.tuple hq
  have li := rv.length
  have m2 : (vs.zip ds).map (·.2) = ds := List.map_snd_zip (by omega)
  have len : (vs.zip ds).length = vs.length := by simp [hl]
  refine PySem.Calls.call_function_entry kind_sorted plain_sorted entry_sorted (args_sorted1 _) ?_
  unfold Builtin.«sorted»
  refine wpAny_bind (m := checkCount "sorted" 1 1 _) (wpAny_pure ?_)
  refine wpAny_bind (took_tup ho hc hdat (by rw [List.size_toArray, ← li]; exact hz) ?_)
  refine wpAny_bind (wpAny_newList ?_ (by show its.toArray.toList.length ≤ _; simpa [← li] using hz))
  have hk : ∀ b o, s.heap.get? b = some o → (tookT s.heap its.toArray).get? b = some o := fun b o e => (Heap.get?_update_other _ _ (Nat.ne_of_gt (Heap.lt_size e))).trans (Heap.get?_push_of_some _ e)
  have lo : s.heap.objs.size ≤ (tookT s.heap its.toArray).objs.size := by
    simp [tookT, Heap.update, Heap.push]
  generalize tookT s.heap its.toArray = h' at *
  let h2 := h'.push { cls := .type "list", data := .seq its.toArray }
  have kb : ∀ b o, s.heap.get? b = some o → h2.get? b = some o := fun b o e => Heap.get?_push_of_some _ (hk b o e)
  have hob : h2.get? h'.objs.size = some (seqObj "list" its.toArray 0) := Heap.get?_push_size _ rfl
  have im : ∀ b ∈ vs.zip ds, imm b.2 = true := fun b hb => imms_mem ok.im _ (by rw [← m2]; exact List.mem_map_of_mem hb)
  have go : wpAny (model X.prog X.w) X.A.in1 (call (.builtin "list.sort") [.ref h'.objs.size]) (fun _ s' => EP X pins σ Q (.ref h'.objs.size) s') X.xe { s with heap := h2 } := by
    refine PySem.W.list_sort_data (s := { s with heap := h2 }) (n := 0) (enc := fun b : V × PyData => b.2) (vs := its) hob (each_zip (s := s) rv hl) (each_flat ((each_reads I rv hd).mono fun v b ⟨as, r⟩ => ⟨as, PyProof.Rows.Reads.keeps kb r⟩) im) (by rw [m2]; exact ok.al) (by rw [m2]; exact ok.so) (by rw [len]; exact hz) (fun b hb => ?_) fun out hlen eo => ?_
    · have : b.2 ∈ ds := by rw [← m2]; exact List.mem_map_of_mem hb
      have := SeqAt.depth_of_shaped (ok.ok _ this).2
      show X.A.units + 1 + 1 + _ < _
      omega
    · obtain ⟨e, at_⟩ := PyProof.Rows.sortedHeap_at (vs := its) (out := out.toArray) hob
      have r2 := vals_each eo
      have kF : ∀ b o, s.heap.get? b = some o → (sortedHeap h2 h'.objs.size its out.toArray).get? b = some o := fun b o eb => (PyProof.Rows.sortedHeap_old (Nat.ne_of_lt (Heap.lt_size (hk b o eb))) (Heap.lt_size (kb b o eb))).trans (kb b o eb)
      refine ⟨.ref h'.objs.size, _, I.laid (t' := s.toks) (o := .lst _) kF lo ⟨?_, out, e, r2, at_⟩, rfl, q _ (I.hok.fresh lo)⟩
      rw [List.length_map, List.length_mergeSort, len]
      exact hz
  refine wpAny_bind (wpAny_holding (wpAny_mono go (fun _ s' x => ?_) fun _ _ e => e))
  exact wpAny_pure ⟨_, rfl, x⟩
def gSortedT : GL
  | [.tuple ds] => if okSort ds = true then some (.list (ds.mergeSort leD)) else none
  | _ => none
theorem dc_sortedT : DCall K (rSortTup K) gSortedT := by
  intro H xs ds Rx z Q hx hg k
  unfold gSortedT at hg
  split at hg
  · split at hg
    · rename_i es ho
      have ok := okSort_is ho
      cases hg
      cases hx with
      | cons h t =>
        cases t
        cases h with
        | tup h1 h2 =>
          have f := DVs.imm_each ok.im h2
          refine ⟨_, _, es, rfl, h1.sq, ?_, f.length, ok, fun p hp => ?_⟩
          · exact f.dp (noDs_of fun d hd => (ok.ok d hd).1)
          · rename_i a vs
            have l := f.length
            have m2 : ((vs.zip es).mergeSort (PySem.W.dataLe false (·.2))).map (·.2) = es.mergeSort leD := by
              have := List.map_mergeSort (r := PySem.W.dataLe false (fun b : V × PyData => b.2)) (s := leD) (f := (·.2)) (l := vs.zip es) fun a _ b _ => rfl
              rw [this, List.map_snd_zip (by omega)]
            have d := dvs_of (K := K) (H := H) (bs := (vs.zip es).mergeSort (PySem.W.dataLe false (·.2))) fun b hb => zip_dvs f b ((List.mergeSort_perm _ _).mem_iff.mp hb)
            rw [m2] at d
            obtain ⟨q1, q2⟩ := new_lst hp d
            exact k _ _ _ (same_upd hp) q1 q2
    · cases hg
  · cases hg
end
end FP
namespace FP
open PySem PySem.Spec PyProof.Rows L2
section
variable {X : Cx} {own io : Nat → Bool} {K : PySem.W.Frag} {pos apos : Pos}
/-! ### methods of texts -/
/-- without arguments -/
def DM0 (K : PySem.W.Frag) (r : V → List V → Hp → VK → Prop) (g : GL) : Prop := ∀ H x d Rx z (Q : VK), DV K H x d Rx → g [d] = some z → (∀ v H' R, Same H H' → DV K H' v z R → New H H' R → Q v H') → (∃ a, x = .str a) ∧ r x [] H Q
theorem fe_m0 {id : String} {name : Str} {r : V → List V → Hp → VK → Prop} {g : GL} {o : Expr} {c : Nat} {p : Bool} {f : FX} (slot : Slot "str" name id) (ty : typeOf (.builtin id) = pure (.type "method_descriptor")) (hm : MtR X id r) (hd : DM0 X.K r g) (ho : FE X own c p o f)
    (hb : attributeBase o name X.env (eval o X.env) = eval o X.env := by rfl) (hl : (apos.endLine == pos.line) = true := by rfl) : FE X own 2 p (.Call (.Attribute o name apos) [] [] pos) (fB g (fCons f fNil)) :=
  (pe_m0 slot ty hm ho hb hl).conv fun σ H Q ⟨ρ, F, d, ρ', r, e1, k⟩ => by
    unfold fB fCons fNil at e1
    cases q : f ρ with
    | none => simp [q] at e1
    | some y =>
      obtain ⟨x, ρ1⟩ := y
      simp only [q] at e1
      split at e1
      · rename_i z eg
        cases e1
        refine ⟨ρ, F, x, ρ', r, q, fun v H1 F1 R1 r1 s1 p1 v1 c1 => ?_⟩
        exact hd H1 v x R1 d _ v1 eg fun u H' R sm hv hn => fin k r1 s1 p1 sm hv hn
      · cases e1
def gIsascii : GL
  | [.str a] => some (.bool (Txt.isascii a))
  | _ => none
def gIsdigit : GL
  | [.str a] => some (.bool (Txt.isdigit a))
  | _ => none
theorem dm_isascii : DM0 K (fun x xs H Q => ∃ a, x = V.str a ∧ xs = [] ∧ True ∧ Q (V.bl (Txt.isascii a)) H) gIsascii := by
  intro H x d Rx z Q hx hg k
  unfold gIsascii at hg
  split at hg
  · rename_i q
    cases q
    cases hg
    cases hx
    exact ⟨⟨_, rfl⟩, _, rfl, rfl, trivial, k _ H [] (.refl H) (.bl _) .nil⟩
  · cases hg
theorem dm_isdigit : DM0 K (fun x xs H Q => ∃ a, x = V.str a ∧ xs = [] ∧ True ∧ Q (V.bl (Txt.isdigit a)) H) gIsdigit := by
  intro H x d Rx z Q hx hg k
  unfold gIsdigit at hg
  split at hg
  · rename_i q
    cases q
    cases hg
    cases hx
    exact ⟨⟨_, rfl⟩, _, rfl, rfl, trivial, k _ H [] (.refl H) (.bl _) .nil⟩
  · cases hg
/-- with one -/
def DM1 (K : PySem.W.Frag) (T : String) (r : V → List V → Hp → VK → Prop) (g : G2) : Prop :=
  (∀ H x d e Rx z, DV K H x d Rx → g d e = some z → tyV K T x H) ∧ DOp K (fun x y H Q => r x [y] H Q) g
theorem DV.ty_later {H H' : Hp} {v : V} {d : PyData} {R : List Addr} (h : DV K H v d R) : DV K H v d R := h
theorem fe_m1 {T id : String} {name : Str} {r : V → List V → Hp → VK → Prop} {g : G2} {o e : Expr} {ca cb : Nat} {p pa pb : Bool} {fa fb : FX} (pl : PlainAttrs T) (slot : Slot T name id) (ty : typeOf (.builtin id) = pure (.type "method_descriptor")) (hm : MtR X id r) (hd : DM1 X.K T r g)
    (ho : FE X own ca pa o fa) (he : FE X own cb pb e fb)
    (hb : attributeBase o name X.env (eval o X.env) = eval o X.env := by rfl)
    (hfew : (((backTo pos (starEach [e] X.env)).all (fun x => !x.1) && (backToKw pos (keywordEach [] X.env)).all (fun x => x.1.isSome) && decide (([e] : List Expr).length + ([] : List Keyword).length + (if ([] : List Keyword).isEmpty = true then 0 else 1) < 30)) = true) := by rfl)
    (hl : (apos.endLine == pos.line) = true := by rfl)
    (hs : starEach [e] X.env = (false, eval e X.env) :: starEach [] X.env := by rfl) (hpl : (backTo pos (starEach [] X.env)).any (·.1) = false := by rfl) (hpp : p = pa := by rfl) (hpb : pb = true := by rfl) :
    FE X own 2 p (.Call (.Attribute o name apos) [e] [] pos) (fBin g fa fb) := by
  subst hpp hpb
  exact (pe_bm pl slot ty hm ho (pa_cons he pa_nil hs) hb hfew hl hs hpl).conv fun σ H Q ⟨ρ, F, d, ρ', r, e1, k⟩ => by
    unfold fBin at e1
    split at e1
    · rename_i x ρ1 ea
      split at e1
      · rename_i y ρ2 eb
        split at e1
        · rename_i z eg
          cases e1
          refine ⟨ρ, F, x, ρ1, r, ea, fun v H1 F1 R1 r1 s1 p1 v1 c1 => ⟨hd.1 H1 v x y R1 d v1 eg, ?_⟩⟩
          refine ⟨ρ1, F1, y, _, r1, eb, fun w H2 F2 R2 r2 s2 p2 w2 c2 => ?_⟩
          obtain ⟨rfl, rfl, sm⟩ := p2 rfl
          refine hd.2 H2 v w x y R1 R2 d _ (v1.same sm) w2 eg fun u H' R sm' hv hn => fin k r2 (s1.trans s2) (fun pp => ⟨(p1 pp).1, (p1 pp).2.1, (p1 pp).2.2.trans sm⟩) sm' hv hn
        · cases e1
      · cases e1
    · cases e1
/-! split, join, partition, index -/
def allS : List PyData → Option (List Str)
  | [] => some []
  | .str b :: r => match allS r with
    | some bs => some (b :: bs)
    | none => none
  | _ :: _ => none
theorem DVs.strs {H : Hp} : ∀ {vs : List V} {ds : List PyData} {R : List Addr} {bs : List Str}, DVs K H vs ds R → allS ds = some bs → vs = bs.map V.str
  | _, _, _, _, .nil, e => by cases e; rfl
  | _, _, _, _, .cons h t, e => by
    cases h with
    | str b =>
      simp only [allS] at e
      split at e
      · rename_i bs q
        cases e
        rw [DVs.strs t q]; rfl
      · cases e
    | _ => simp [allS] at e
theorem dvs_strs {H : Hp} : ∀ l : List Str, DVs K H (l.map V.str) (l.map PyData.str) []
  | [] => .nil
  | i :: l => .cons (R := []) (R' := []) (.str i) (dvs_strs l)
def gSplit : G2
  | .str a, .str b => if ((b.length == 0) == false && decide (a.length + 2 ≤ 1000000)) = true then some (.list ((Txt.split a b).map PyData.str)) else none
  | _, _ => none
theorem dm_split : DM1 K "str" (fun x xs H Q => ∃ a b, x = V.str a ∧ xs = [V.str b] ∧ (b.length == 0) = false ∧ a.length + 2 ≤ sizeLine ∧ rNewStrs (Txt.split a b) H Q) gSplit := by
  refine ⟨fun H x d e Rx z h g => ?_, fun H x y d e Rx Ry z Q hx hy hg k => ?_⟩
  · unfold gSplit at g
    split at g
    · cases h; rfl
    · cases g
  · unfold gSplit at hg
    split at hg
    · split at hg
      · rename_i hl
        simp only [Bool.and_eq_true, decide_eq_true_eq, beq_iff_eq] at hl
        cases hg
        cases hx; cases hy
        refine ⟨_, _, rfl, rfl, by simpa using hl.1, by rw [sizeLine_eq]; omega, fun p hp => ?_⟩
        obtain ⟨q1, q2⟩ := new_lst hp (dvs_strs (K := K) (H := H) (Txt.split _ _))
        exact k _ _ _ (same_upd hp) q1 q2
      · cases hg
    · cases hg
def gJoin : G2
  | .str a, .list ds => match allS ds with
    | some ys => if decide ((ys.map (fun x => x.length)).sum + ys.length * a.length ≤ 16777216) = true then some (.str (Txt.join a ys)) else none
    | none => none
  | _, _ => none
theorem dm_join : DM1 K "str" (fun x xs H Q => ∃ a p ys, x = V.str a ∧ xs = [V.ref p] ∧ (SqL K H p (ys.map V.str) ∨ SqT K H p (ys.map V.str)) ∧ (ys.map (fun x => x.length)).sum + ys.length * a.length ≤ 16777216 ∧ Q (V.str (Txt.join a ys)) H) gJoin := by
  refine ⟨fun H x d e Rx z h g => ?_, fun H x y d e Rx Ry z Q hx hy hg k => ?_⟩
  · unfold gJoin at g
    split at g
    · cases h; rfl
    · cases g
  · unfold gJoin at hg
    split at hg
    · split at hg
      · rename_i ys qs
        split at hg
        · rename_i hl
          cases hg
          cases hx
          cases hy with
          | lst h1 h2 =>
            have e := h2.strs qs
            subst e
            exact ⟨_, _, ys, rfl, rfl, .inl (SqL.of h1), of_decide_eq_true hl, k _ H [] (.refl H) (.str _) .nil⟩
        · cases hg
      · cases hg
    · cases hg
/-- partition: a new tuple of three, known as an object -/
def rPart (x : V) (xs : List V) (H : Hp) (Q : VK) : Prop := ∃ a b, x = V.str a ∧ xs = [V.str b] ∧ (b.length == 0) = false ∧ a.length ≤ sizeLine ∧ newT [V.str (Txt.partition a b).1, V.str (Txt.partition a b).2.1, V.str (Txt.partition a b).2.2] Q H
theorem mt_partF : MtR X "str.partition" rPart := by
  intro pins s σ H x xs v us Q I rx rs ⟨a, b, ex, exs, hb, ha, hn⟩
  subst ex exs
  obtain ⟨t, rfl⟩ := rx
  obtain ⟨u, rfl, t2, rfl⟩ := vals1 rs
  refine call_meets F.slot_str_partition (typeIs_str s a t) F.entry_str_partition (F.args_str_partition_2 _ _) (meets_str_partition a b t t2 hb ha) ?_
  have z3 : ∀ x y z : V, [x, y, z].length ≤ sizeLine := fun x y z => by rw [sizeLine_eq]; simp
  unfold Txt.partition at hn
  split
  · rename_i i tl q
    rw [q] at hn
    have r : ∀ x y z : Str, ∀ t1 t2 t3 : Tok, Vals [V.str x, V.str y, V.str z] [.str x t1, .str y t2, .str z t3] := fun x y z t1 t2 t3 => .cons (show RelV (.str x) _ from ⟨_, rfl⟩) (.cons (show RelV (.str y) _ from ⟨_, rfl⟩) (.cons (show RelV (.str z) _ from ⟨_, rfl⟩) .nil))
    exact pushT (t' := s.toks + 1 + 1) I (z3 _ _ _) (r _ _ _ s.toks t2 (s.toks + 1)) hn
  · rename_i q
    rw [q] at hn
    have r : ∀ x y z : Str, ∀ t1 t2 t3 : Tok, Vals [V.str x, V.str y, V.str z] [.str x t1, .str y t2, .str z t3] := fun x y z t1 t2 t3 => .cons (show RelV (.str x) _ from ⟨_, rfl⟩) (.cons (show RelV (.str y) _ from ⟨_, rfl⟩) (.cons (show RelV (.str z) _ from ⟨_, rfl⟩) .nil))
    exact pushT (t' := s.toks + 1) I (z3 _ _ _) (r _ _ _ t s.toks s.toks) hn
def gPart : G2
  | .str a, .str b => if ((b.length == 0) == false && decide (a.length ≤ 1000000)) = true then some (.tuple [.str (Txt.partition a b).1, .str (Txt.partition a b).2.1, .str (Txt.partition a b).2.2]) else none
  | _, _ => none
theorem dm_part : DM1 K "str" rPart gPart := by
  refine ⟨fun H x d e Rx z h g => ?_, fun H x y d e Rx Ry z Q hx hy hg k => ?_⟩
  · unfold gPart at g
    split at g
    · cases h; rfl
    · cases g
  · unfold gPart at hg
    split at hg
    · split at hg
      · rename_i hl
        simp only [Bool.and_eq_true, decide_eq_true_eq, beq_iff_eq] at hl
        cases hg
        cases hx; cases hy
        refine ⟨_, _, rfl, rfl, by simpa using hl.1, by rw [sizeLine_eq]; omega, fun p o hd hp => ?_⟩
        exact k _ _ [] (same_upd hp) (.tup (.of upd_same hd) ((DVs.cons (R := []) (R' := []) (.str _) (.cons (R := []) (R' := []) (.str _) (.cons (R := []) (R' := []) (.str _) .nil))))) .nil
      · cases hg
    · cases hg
/-- xs.index(y): texts alone -/
def findS (y : Str) : List Str → Option Nat
  | [] => none
  | x :: xs => if (x == y) = true then some 0 else match findS y xs with
    | some j => some (j + 1)
    | none => none
def gIndex : G2
  | .list ds, .str y => match allS ds with
    | some xs => match findS y xs with
      | some j => some (.int j)
      | none => none
    | none => none
  | _, _ => none
theorem findS_ok {y : Str} : ∀ {xs : List Str} {j : Nat}, findS y xs = some j → (∃ z, xs[j]? = some z ∧ (z == y) = true) ∧ ∀ m z, m < j → xs[m]? = some z → (z == y) = false
  | [], j, h => by simp [findS] at h
  | x :: xs, j, h => by
    unfold findS at h
    split at h
    · rename_i q
      cases h
      exact ⟨⟨x, rfl, q⟩, fun m z hm => absurd hm (Nat.not_lt_zero m)⟩
    · rename_i q
      split at h
      · rename_i j' e
        cases h
        obtain ⟨h1, h2⟩ := findS_ok e
        refine ⟨by simpa using h1, fun m z hm hz => ?_⟩
        cases m with
        | zero => simp at hz; subst hz; simpa using q
        | succ m => exact h2 m z (by omega) (by simpa using hz)
      · cases h
theorem dm_index : DM1 K "list" (rIndex K) gIndex := by
  refine ⟨fun H x d e Rx z h g => ?_, fun H x y d e Rx Ry z Q hx hy hg k => ?_⟩
  · unfold gIndex at g
    split at g
    · cases h with
      | lst h1 h2 => exact .inl ⟨rfl, _, SqL.of h1⟩
    · cases g
  · unfold gIndex at hg
    split at hg
    · split at hg
      · rename_i xs qs
        split at hg
        · rename_i j ej
          cases hg
          cases hy
          cases hx with
          | lst h1 h2 =>
            have e := h2.strs qs
            subst e
            obtain ⟨⟨z, e1, e2⟩, e3⟩ := findS_ok ej
            refine ⟨_, _, _, j, .str z, rfl, rfl, SqL.of h1, rfl, by simp [flatV], by simp [e1], by simpa [eqV] using e2, fun m z' hm hz => ?_, k _ H [] (.refl H) (.int _) .nil⟩
            simp only [List.getElem?_map, Option.map_eq_some_iff] at hz
            obtain ⟨a, ha, rfl⟩ := hz
            simpa [eqV] using e3 m a hm ha
        · cases hg
      · cases hg
    · cases hg
/-! ### int(a text) -/
def gIntS : GL
  | [.str a] => match intText? a with
    | some n => if decide (a.length ≤ 640) = true then some (.int n) else none
    | none => none
  | _ => none
theorem dc_intS : DCall K (fun xs H Q => ∃ a n, xs = [V.str a] ∧ intText? a = some n ∧ a.length ≤ 640 ∧ Q (V.int n) H) gIntS := by
  intro H xs ds Rx z Q hx hg k
  unfold gIntS at hg
  split at hg
  · split at hg
    · rename_i n qn
      split at hg
      · rename_i hl
        cases hg
        cases hx with
        | cons h t =>
          cases t
          cases h
          exact ⟨_, _, rfl, qn, of_decide_eq_true hl, k _ H [] (.refl H) (.int _) .nil⟩
      · cases hg
    · cases hg
  · cases hg
/-! ### str(an int) -/
def gStr : GL
  | [.int i] => if decide (Nat.log2 i.natAbs < 1900) = true then some (.str (Str.ofString (toString i))) else none
  | _ => none
theorem dc_str : DCall K (fun xs H Q => ∃ i, xs = [V.int i] ∧ Nat.log2 i.natAbs < 1920 ∧ Q (V.str (Str.ofString (toString i))) H) gStr := by
  intro H xs ds Rx z Q hx hg k
  unfold gStr at hg
  split at hg
  · split at hg
    · rename_i hl
      cases hg
      have hl := of_decide_eq_true hl
      cases hx with
      | cons h t =>
        cases t
        cases h
        exact ⟨_, rfl, by omega, k _ H [] (.refl H) (.str _) .nil⟩
    · cases hg
  · cases hg
/-! ### f-strings -/
def txtOf : PyData → Option Str
  | .str y => some y
  | .int i => if decide (Nat.log2 i.natAbs < 1900) = true then some (Str.ofString (toString i)) else none
  | _ => none
def fFmt (f : FX) : FX := fun ρ => match f ρ with
  | some (d, ρ1) => match txtOf d with
    | some y => if decide (y.length ≤ 1000000) = true then some (.str y, ρ1) else none
    | none => none
  | none => none
theorem fe_fmt {e : Expr} {c : Nat} {p : Bool} {f : FX} (he : FE X own c p e f) : FE X own 2 p (.FormattedValue e (-1) none pos) (fFmt f) :=
  (pe_fmt he).conv fun σ H Q ⟨ρ, F, d, ρ', r, e1, k⟩ => by
    unfold fFmt at e1
    split at e1
    · rename_i x ρ1 ea
      split at e1
      · rename_i y ey
        split at e1
        · rename_i hl
          cases e1
          have hl := of_decide_eq_true hl
          refine ⟨ρ, F, x, ρ', r, ea, fun v H1 F1 R1 r1 s1 p1 v1 c1 => ?_⟩
          unfold txtOf at ey
          split at ey
          · cases ey
            cases v1
            exact .inl ⟨_, rfl, by rw [sizeLine_eq]; omega, k _ H1 F1 [] r1 s1 p1 (.str _) .nil⟩
          · split at ey
            · rename_i hz
              cases ey
              cases v1
              have hz := of_decide_eq_true hz
              exact .inr ⟨_, rfl, by omega, k _ H1 F1 [] r1 s1 p1 (.str _) .nil⟩
            · cases ey
          · cases ey
        · cases e1
      · cases e1
    · cases e1
/-- three parts -/
def fJ3 (fa fb fc : FX) : FX := fun ρ => match fa ρ with
  | some (.str a, ρ1) => match fb ρ1 with
    | some (.str b, ρ2) => match fc ρ2 with
      | some (.str c, ρ3) => if (decide (a.length ≤ 300000) && decide (b.length ≤ 300000) && decide (c.length ≤ 300000)) = true then some (.str (Str.empty ++ a ++ b ++ c), ρ3) else none
      | _ => none
    | _ => none
  | _ => none
theorem fe_joined3 {a b c : Expr} {ca cb cc : Nat} {p pa pb pc : Bool} {fa fb fc : FX} (ha : FE X own ca pa a fa) (hb : FE X own cb pb b fb) (hc : FE X own cc pc c fc) (hpp : p = (pa && pb && pc) := by rfl) :
    FE X own 2 p (.JoinedStr [a, b, c] pos) (fJ3 fa fb fc) := by
  subst hpp
  exact (pe_joined (.cons ha (.cons hb (.cons hc .nil)))).conv fun σ H Q ⟨ρ, F, d, ρ', r, e1, k⟩ => by
    unfold fJ3 at e1
    split at e1
    · rename_i xa ρ1 ea
      split at e1
      · rename_i xb ρ2 eb
        split at e1
        · rename_i xc ρ3 ec
          split at e1
          · rename_i hl
            simp only [Bool.and_eq_true, decide_eq_true_eq] at hl
            cases e1
            have l0 : Str.empty.length = 0 := rfl
            have la : ∀ x y : Str, (x ++ y).length = x.length + y.length := fun x y => by rw [TL.len_tl, TL.len_tl, TL.len_tl, TL.tl_append, List.length_append]
            simp only [tJs]
            refine ⟨ρ, F, _, ρ1, r, ea, fun v H1 F1 R1 r1 s1 p1 v1 c1 => ?_⟩
            cases v1
            refine ⟨xa, rfl, by rw [sizeLine_eq, la, l0]; omega, ρ1, F1, _, ρ2, r1, eb, fun v H2 F2 R2 r2 s2 p2 v2 c2 => ?_⟩
            cases v2
            refine ⟨xb, rfl, by rw [sizeLine_eq, la, la, l0]; omega, ρ2, F2, _, ρ', r2, ec, fun v H3 F3 R3 r3 s3 p3 v3 c3 => ?_⟩
            cases v3
            refine ⟨xc, rfl, by rw [sizeLine_eq, la, la, la, l0]; omega, ?_⟩
            refine k _ H3 F3 [] r3 ((s1.trans s2).trans s3) (fun pp => ?_) (.str _) .nil
            simp only [Bool.and_eq_true] at pp
            obtain ⟨q1, q2, q3⟩ := p1 pp.1.1
            obtain ⟨q4, q5, q6⟩ := p2 pp.1.2
            obtain ⟨q7, q8, q9⟩ := p3 pp.2
            exact ⟨q7.trans (q4.trans q1), q8.trans (q5.trans q2), (q3.trans q6).trans q9⟩
          · cases e1
        · cases e1
      · cases e1
    · cases e1
/-! ### for over a changed list, when the body changes nothing -/
def PostQ (K : PySem.W.Frag) (own io : Nat → Bool) (D : Ends) (σ : L2.St) (H : Hp) (F : Fo) : Out → Prop
  | .nx ρ' => ∀ σ' H' F', RepE K own σ' H' ρ' F' → StpT own io σ H F σ' H' F' → Same H H' → D.nx σ' H'
  | .rt d ρ' => ∀ v σ' H' F' R, RepE K own σ' H' ρ' F' → StpT own io σ H F σ' H' F' → DV K H' v d R → RR own io H H' F' R → D.rt v H'
  | .bk ρ' => ∀ σ' H' F', RepE K own σ' H' ρ' F' → StpT own io σ H F σ' H' F' → Same H H' → D.bk σ' H'
  | .ct ρ' => ∀ σ' H' F', RepE K own σ' H' ρ' F' → StpT own io σ H F σ' H' F' → Same H H' → D.ct σ' H'
  | .no => False
def tSQ (K : PySem.W.Frag) (own io : Nat → Bool) (g : FSt) : TS := fun D σ H => ∃ ρ F, RepE K own σ H ρ F ∧ PostQ K own io D σ H F (g ρ)
/-- if t: return e -/
theorem fsq_ifret {t e : Expr} {q : Pos} {p : Bool} {ft : FB} {f : FX} (ht : FT X own true t ft) (he : FE X own 2 p e f) : PSs X [.If t [.Return (some e) q] [] pos] (tSQ X.K own io (gIf ft (gRet f) gNil)) :=
  (pss_one (ps_if ht (fss_one (fs_ret (io := io) he)) pss_nil)).conv fun D σ H ⟨ρ, F, r, k⟩ => by
    unfold gIf at k
    cases q : ft ρ with
    | none => rw [q] at k; exact k.elim
    | some y =>
      obtain ⟨b, ρ1⟩ := y
      rw [q] at k
      refine ⟨ρ, F, b, ρ1, r, q, fun H1 F1 r1 s1 p1 => ?_⟩
      obtain ⟨_, _, sm⟩ := p1 rfl
      cases b with
      | true =>
        refine iteT ⟨ρ1, F1, r1, Post.later (.ofE s1) ?_⟩
        unfold gRet at k ⊢
        cases q2 : f ρ1 with
        | none => simp [q2, PostQ] at k
        | some y => simp only [q2] at k ⊢; exact k
      | false => exact iteF (k σ H1 F1 r1 (.ofE s1) sm)
theorem fs_forQ {tg iter : Expr} {body : List Stmt} {c : Nat} {p : Bool} {f : FIt} {h : FTg} {g : FSt} {ts : List Nat} (hp : PassesOwn (model X.prog X.w) X.A X.env X.xe) (hc : X.calm = true) (hi : FI X own tg c p iter f) (hg : FG X own io ts tg h) (hb : PSs X body (tSQ X.K own io g))
    (hs : ∀ x, foldedSetIterable iter X.env x = pure x := by intro _; rfl) : FS X own io (.For tg iter body [] pos) (gFor f h g) := (ps_for hp hc hi hg hb hs).conv fun D σ H ⟨ρ, F, r, k⟩ => by
  unfold gFor at k
  cases q : f ρ with
  | none => rw [q] at k; exact k.elim
  | some y =>
    obtain ⟨ds, ρ1⟩ := y
    rw [q] at k
    refine ⟨ρ, F, ds, ρ1, r, q, fun J H1 F1 R RI r1 s1 p1 dit ap tr => ?_⟩
    have k1 := Post.later (StpT.ofE (io := io) (σ := σ) s1) k
    refine ⟨fun i m σ' H' => m = ds.length - i ∧ i ≤ ds.length ∧ ∃ ρ' F', RepE X.K own σ' H' ρ' F' ∧ StpS own H1 F1 H' F' ∧ Same H1 H' ∧ Post X.K own io D σ' H' F' (loopF h g (ds.drop i) ρ'), ⟨ds.length, by simp, Nat.zero_le _, ρ1, F1, r1, .refl, .refl _, by simpa using k1⟩, ?_⟩
    rintro i m σ' H' ⟨rfl, hi, ρ', F', r', s', sm', k'⟩
    have ex : Ext R H1 H' := fun a o e _ => sm' a o e
    by_cases hlt : i < ds.length
    · refine .inr ⟨dit.go H' i ex hlt, fun σ3 H3 => i + 1 ≤ ds.length ∧ ∃ ρ3 F3, RepE X.K own σ3 H3 ρ3 F3 ∧ StpS own H1 F1 H3 F3 ∧ Same H1 H3 ∧ Post X.K own io D σ3 H3 F3 (loopF h g (ds.drop (i + 1)) ρ3), fun σ3 H3 ⟨h1, h2⟩ => ⟨ds.length - (i + 1), by omega, rfl, h1, h2⟩, fun x H2 y => ?_⟩
      obtain ⟨sm, d, Ri, e1, hv, hr⟩ := dit.yld H' i x H2 ex hlt y
      rw [drop_at hlt] at k'
      have ed : ds[i] = d := by
        rw [List.getElem?_eq_getElem hlt] at e1
        exact Option.some.inj e1
      rw [ed] at k'
      unfold loopF at k'
      cases q2 : h d ρ' with
      | none => rw [q2] at k'; exact k'.elim
      | some ρ2 =>
        rw [q2] at k'
        simp only at k'
        refine ⟨ρ', F', d, Ri, ρ2, r'.same sm, hv, fun a ha => s'.apart (tr a (hr a ha)).2 (tr a (hr a ha)).1, q2, fun σ2 F2 r2 s2 f2 g2 l2 e2 => ⟨ρ2, F2, r2, ?_⟩⟩
        have s02 : StpT own io σ' H' F' σ2 H2 F2 := (StpT.ofE (σ := σ') (Stp.same sm)).trans s2
        have s12 : StpS own H1 F1 H2 F2 := s'.trans s02.toStpS
        have sm12 : Same H1 H2 := sm'.trans sm
        cases q3 : g ρ2 with
        | nx ρ3 =>
          rw [q3] at k'
          exact fun σ3 H3 F3 r3 s3 m3 => ⟨hlt, ρ3, F3, r3, s12.trans s3.toStpS, sm12.trans m3, Post.later (s02.trans s3) k'⟩
        | ct ρ3 =>
          rw [q3] at k'
          exact fun σ3 H3 F3 r3 s3 m3 => ⟨hlt, ρ3, F3, r3, s12.trans s3.toStpS, sm12.trans m3, Post.later (s02.trans s3) k'⟩
        | bk ρ3 =>
          rw [q3] at k'
          exact fun σ3 H3 F3 r3 s3 m3 => k' σ3 H3 F3 r3 (s02.trans s3)
        | rt d' ρ3 =>
          rw [q3] at k'
          exact fun v σ3 H3 F3 R3 r3 s3 hv' hr' => k' v σ3 H3 F3 R3 r3 (s02.trans s3) hv' (hr'.later s02.toStpS)
        | no => rw [q3] at k'; exact k'.elim
    · have e : i = ds.length := by omega
      subst e
      rw [List.drop_length] at k'
      exact .inl ⟨dit.stop H' _ ex (Nat.le_refl _), k' σ' H' F' r' .refl⟩
/-! ### sorted(set(a tuple of ints)) -/
end
theorem istup_push {h : Heap} {l : Addr} {vs : Array Value} (hl : h.IsTuple l vs) (o : Obj) : (h.push o).IsTuple l vs := by
  obtain ⟨ob, at_, r⟩ := hl
  exact ⟨ob, Heap.get?_push_of_some _ at_, r⟩
section
variable {P : Program} {w : World} {A : Around} {E : Value → Shared → Prop} {s : Shared}
/-- the body of __init__: a list of ints walked into the empty set at S -/
theorem set_filledT {S l : Addr} {vs : Array Value} {ns : List Int} {A : Around} {R : Fin → Shared → Prop} (hh : A.handled = none) (hS : s.heap.get? S = some (oSet w)) (hl : s.heap.IsTuple l vs) (ne : l ≠ S) (hi : IntsAre vs.toList ns) (few : ns.length + 1 < scanBound)
    (h : ∀ h' tk c, SetR w h' S (fun j => decide (j ∈ ns)) c → c ≤ ns.length → (∀ b o, b ≠ S → s.heap.get? b = some o → h'.get? b = some o) → R (.done (.ret .none)) { s with heap := h', toks := tk }) :
    wpAny (model P w) A (Builtin.«set.__init__» ⟨[.ref S, .ref l], []⟩) R E s := by
  have size : vs.size = ns.length := by simpa using IntsAre.length hi
  obtain ⟨⟨cls, dd, dat, sl⟩, at_, c, n, d⟩ := hl
  simp only at c d
  subst c d
  have isl : s.heap.IsTuple l vs := ⟨_, at_, rfl, n, rfl⟩
  have no1 := F.sub_tuple_set
  have no2 := F.sub_tuple_frozenset
  have no3 : (Value.type "list" == Value.type "dict") = false := by decide
  obtain ⟨hp, g, dr, tk, os⟩ := s
  unfold Builtin.«set.__init__» noKeywords Builtin.Frozenset.updateFrom
  generalize hPI : pyIter = PI
  wp_walk
  subst hPI
  refine wpAny_pyIter_tuple isl (wpAny_bind (wpAny_runValue ?_))
  let it : Obj := { cls := .type "tuple_iterator", data := .fields #[.ref l, .int 0 0] }
  have neI : l ≠ hp.objs.size := Nat.ne_of_lt (Heap.lt_size at_)
  have SI : S ≠ hp.objs.size := Nat.ne_of_lt (Heap.lt_size hS)
  have hh3 : A.in1.handled = none := by simp [hh]
  have at2 : (hp.push it).get? S = some (oSet w) := Heap.get?_push_of_some _ hS
  refine set_update_ints (P := P) (w := w) ((Walks.tuple hh3 _ l neI vs).toS) S (by simp [SI, Ne.symm ne]) ns size few (fun i v hv => ?_) (vs.size - 0) 0 ⟨hp.push it, g, dr, tk, os⟩ (by omega) (Nat.zero_le _) ⟨⟨_, Heap.get?_push_size _ rfl, rfl, rfl⟩, istup_push isl _⟩ ⟨0, Nat.le_refl 0, setR_new_at (w := w) (h := hp.push it) (a := S) (ns := ns) at2⟩ fun s' c' hm hc' hS' => ?_
  · have lt : i < ns.length := by rw [← size]; exact (Array.getElem?_eq_some_iff.mp hv).1
    obtain ⟨t, e⟩ := PyProof.Rows.IntsAre.int_at hi i v (by rw [Array.getElem?_toList]; exact hv)
    exact ⟨ns[i], t, List.getElem?_eq_getElem lt, by rw [e, List.getD_eq_getElem?_getD, List.getElem?_eq_getElem lt]; rfl⟩
  · obtain ⟨h', g2, d2, t2, o2⟩ := s'
    obtain rfl : g2 = g := hm.gens
    obtain rfl : d2 = dr := hm.drawn
    obtain rfl : o2 = os := hm.os
    rw [size] at hc'
    refine wpAny_pure (wpAny_pure (h h' t2 c' hS' hc' fun b o nb e => hm.heap b o ?_ (Heap.get?_push_of_some _ e)))
    simp only [List.mem_cons, List.not_mem_nil, or_false, not_or]
    exact ⟨nb, Nat.ne_of_lt (Heap.lt_size e)⟩
/-- set(a list of ints) -/
theorem set_of_tup {l : Addr} {vs : Array Value} {ns : List Int} {Q : Value → Shared → Prop} (hh : A.handled = none) (hl : s.heap.IsTuple l vs) (hi : IntsAre vs.toList ns) (few : ns.length + 1 < scanBound)
    (h : ∀ h' tk c, SetR w h' s.heap.objs.size (fun j => decide (j ∈ ns)) c → c ≤ ns.length → (∀ b o, s.heap.get? b = some o → h'.get? b = some o) → Q (.ref s.heap.objs.size) { s with heap := h', toks := tk }) :
    wpAny (model P w) A (call (.type "set") [.ref l]) Q E s := by
  have T := F.called_set
  obtain ⟨c, tl, hmro⟩ := T.mro
  have hmade := T.made
  have hsub := T.sub
  refine wpAny_call (codeAny_of_tree ?_)
  show wpAny _ _ (callAny (.type "set") _) _ _ _
  refine wpAny_pure ⟨Code.quiet_builtin _ (by decide +kernel), codeAny_builtin F.entry_type_call ?_⟩
  rw [Around.under_plain (weight_type_call_type "set" [.ref l] []) rfl]
  have h1 := T.notType
  have h2 := T.canCreate
  have hct := F.typeCall_set_1 (.ref l)
  repeat (any_goals (first | assumption | wp_step))
  let s0 : Shared := { s with heap := s.heap.push (oSet w) }
  have at_ : s0.heap.get? s.heap.objs.size = some (oSet w) := Heap.get?_push_size _ rfl
  refine codeAny_mono (code_set_led1 (.ref l) (E := E) (Q₁ := fun obj s₁ => obj = .ref s.heap.objs.size ∧ s₁ = s0) ⟨rfl, rfl⟩) fun r s₁ hr => ?_
  match r, hr with
  | .error e, hr => exact hr
  | .ok .next, hr => exact hr.elim
  | .ok .brk, hr => exact hr.elim
  | .ok .cont, hr => exact hr.elim
  | .ok (.ret obj), ⟨eo, es⟩ =>
    subst eo es
    have hT : s0.TypeIs (.ref s.heap.objs.size) "set" := ⟨_, at_, rfl⟩
    have hli := T.init.lookup
    have hbi := T.init.bind (.ref s.heap.objs.size)
    repeat (any_goals (first | assumption | wp_step))
    refine codeAny_mono (codeAny_call_builtin (R := wants (fun r s₂ => r = .none ∧ Q (.ref s.heap.objs.size) s₂) E) T.init.plain F.entry_set_init (check_set_init_1 hT ?_)) fun r₂ s₂ hr₂ => ?_
    · have lt : l < s.heap.objs.size := by
        obtain ⟨_, e, _⟩ := id hl
        exact Heap.lt_size e
      refine set_filledT (s := s0) (by simp [hh]) at_ (istup_push hl _) (Nat.ne_of_lt lt) hi few fun h' tk c hS hc hk => ?_
      exact ⟨rfl, h h' tk c hS hc fun b o e => hk b o (Nat.ne_of_lt (Heap.lt_size e)) (Heap.get?_push_of_some _ e)⟩
    · match r₂, hr₂ with
      | .error e, hr => exact hr
      | .ok .next, hr => exact hr.elim
      | .ok .brk, hr => exact hr.elim
      | .ok .cont, hr => exact hr.elim
      | .ok (.ret v), ⟨ev, hq⟩ =>
        subst ev
        repeat (any_goals (first | assumption | wp_step))
end
section
variable {X : Cx} {own io : Nat → Bool} {K : PySem.W.Frag} {pos apos : Pos}
def rSetT (K : PySem.W.Frag) (w : World) : List V → Hp → VK → Prop := fun xs H Q => ∃ (p : Addr) (ns : List Int), xs = [.ref p] ∧ SqT K H p (ns.map V.int) ∧ ns.length ≤ 4000 ∧ ∀ a c, H a = none → c ≤ ns.length → Q (.ref a) (upd H a (SetO w a (fun j => decide (j ∈ ns)) c))
theorem cr_setT (hc : X.calm = true) : CallR X (.type "set") (rSetT X.K X.w) := by
  intro pins s σ H xs us Q I r ⟨p, ns, ex, hq, hl, q⟩
  subst ex
  obtain ⟨u, eu, rx⟩ := vals1 r
  subst eu
  cases rx
  obtain ⟨its, rv, pl, hz⟩ := I.tuple hq
  refine set_of_tup (ns := ns) (I.ok.hd hc) pl (by simpa using ints_of_vals rv) (by unfold scanBound; omega) fun h' tk c R hcn hk => ?_
  exact ⟨.ref s.heap.objs.size, _, I.laid (t' := tk) hk (Nat.le_refl _) (setO_new R), rfl, q _ c (I.hok.fresh (Nat.le_refl _)) hcn⟩
def fSortSetT (f : FX) : FX := fun ρ => match f ρ with
  | some (.tuple ds, ρ1) => match intsOf ds with
    | some is => if is.length < 64 then some (.list ((sortU is).map PyData.int), ρ1) else none
    | none => none
  | _ => none
theorem fe_sortsetT {a : Expr} {p1 p2 q : Pos} {c : Nat} {p : Bool} {f : FX} (hc : X.calm = true) (hg : Gl X "sorted") (hm : X.mg "sorted" = none) (hg2 : Gl X "set") (hm2 : X.mg "set" = none) (ha : FE X own c p a f)
    (na : starEach [a] X.env = (false, eval a X.env) :: starEach [] X.env := by rfl) (na2 : starEach [.Call (.Name "set" p2) [a] [] q] X.env = (false, eval (.Call (.Name "set" p2) [a] [] q) X.env) :: starEach [] X.env := by rfl)
    (z1 : (backTo q (starEach [] X.env)).any (·.1) = false := by rfl) (z2 : (backTo pos (starEach [] X.env)).any (·.1) = false := by rfl) :
    FE X own 2 p (.Call (.Name "sorted" p1) [.Call (.Name "set" p2) [a] [] q] [] pos) (fSortSetT f) :=
  (pe_callB (cr_sortedSet hc) hg hm boot_sorted' (pa_cons (pe_callTy (cr_setT hc) hg2 hm2 boot_set' (pa_cons ha pa_nil na) (by decide) (by decide) na z1) pa_nil na2) (by decide) (by decide) na2 z2).conv fun σ H Q ⟨ρ, F, d, ρ', r, e1, k⟩ => by
    unfold fSortSetT at e1
    split at e1
    · rename_i ds ρ1 ea
      split at e1
      · rename_i is ei
        split at e1
        · rename_i hl
          cases e1
          refine ⟨ρ, F, .tuple ds, ρ', r, ea, fun v H1 F1 R1 r1 s1 p1 v1 c1 => ?_⟩
          cases v1 with
          | tup h1 h2 =>
            have e := dvs_intsOf h2 ei
            subst e
            refine ⟨_, is, rfl, h1.sq, by omega, fun b n hb hn => ⟨b, fun j => decide (j ∈ is), n, rfl, upd_same, by omega, fun ns q up mem len hq => ?_⟩⟩
            have e : ns = sortU is := up_unique up (sortU_up is) fun j => by rw [mem, mem_sortU, decide_eq_true_eq]
            subst e
            have sm : Same H1 (upd (upd H1 b (SetO X.w b (fun j => decide (j ∈ is)) n)) q (.lst ((sortU is).map V.int))) := (same_upd hb).trans (same_upd hq)
            obtain ⟨q1, q2⟩ := new_lst hq (dvs_ints' (K := X.K) (sortU is))
            refine fin k r1 s1 p1 sm q1 ⟨q2.1, fun a ha => ?_⟩
            have h := q2.2 a ha
            refine ⟨?_, h.2⟩
            have h3 := h.1
            by_cases e : a = b
            · subst e; rw [upd_same] at h3; cases h3
            · rw [upd_ne e] at h3; exact h3
        · cases e1
      · cases e1
    · cases e1
/-! ### enumerate(x, start=k) -/
def iEnumK (K : PySem.W.Frag) (k : Int) (ta : TA) : TI := fun σ H R => ta σ H fun vs H1 => ∃ a xs G C, vs = [.ref a] ∧ Src K a xs G C ∧ G H1 ∧ R (It2 G xs.length (YEnum k xs)) H1
theorem pi_enumK {e : Expr} {k : Int} {j : Nat} {ta : TA} {p pk kpos tpos : Pos} {elts : List Expr} {kk : Nat} (l1 : -2 ^ 63 ≤ k) (l2 : k < 2 ^ 63) (hg : Gl X "enumerate") (hm : X.mg "enumerate" = none) (ha : PA X [e] ta) (hs : starEach [e] X.env = (false, eval e X.env) :: starEach [] X.env := by rfl)
    (hpl : ((backTo pos (starEach [e] X.env)).any (·.1) || (backToKw pos (keywordEach [⟨some "start", .Constant (.int k) j pk, kpos⟩] X.env)).any (·.1.isNone)) = false := by rfl) :
    PI X (.Tuple elts kk tpos) (.Call (.Name "enumerate" p) [e] [⟨some "start", .Constant (.int k) j pk, kpos⟩] pos) (iEnumK X.K k ta) := by
  refine ⟨fun pins s σ H R I h => ?_⟩
  have hkw : PK X [⟨some "start", .Constant (.int k) j pk, kpos⟩] _ := pk_cons (pe_int (X := X)) pk_nil
  apply wpAny_Call_Name_kw
  refine ld_blt I hg hm boot_enumerate ?_
  refine PySem.W.callWith_of (P := fun _ => True) hpl (fun h _ => ⟨.machine, .inr (.inl rfl), .now⟩) (PyProof.Rows.evalArgs_kw2 rfl (thn (ha.run pos pins s σ H _ I h) fun us s1 ⟨vs, H1, I1, r1, q1⟩ => ?_) hs)
  obtain ⟨a, xs, G, C, rfl, S, g, q⟩ := q1
  refine thn (hkw.run pos pins s1 σ H1 (fun zs H2 => zs = [.int k] ∧ H2 = H1) I1 ⟨rfl, rfl⟩) fun ks s2 ⟨zs, H2, I2, r2, ez, eH⟩ => ⟨trivial, ?_⟩
  subst ez eH
  cases r1 with
  | cons r rr =>
    cases rr
    cases r
    obtain ⟨t, rfl⟩ : ∃ t, ks = [Value.int k t] := by
      cases r2 with
      | cons q1 q2 =>
        cases q2
        obtain ⟨t, rfl⟩ := q1
        exact ⟨t, rfl⟩
    obtain ⟨o, Hc, B, b, l, f⟩ := S.beg X pins σ H2 s2 rfl I2 g
    refine enum_begins_start (t := t) B b l1 l2 fun h' he ho hsz hk => wpAny_pyIter_enum he ?_
    have I3 : Inv X pins σ H2 { s2 with heap := h' } := I2.kept (t' := s2.toks) hk
    refine ⟨s2.heap.objs.size + 1, [s2.heap.objs.size + 1, s2.heap.objs.size], _, _, H2, rfl, I3,
      turn_enumS k S (Nat.succ_ne_self _) (Nat.ne_of_gt (Nat.lt_succ_of_lt l)) (Nat.ne_of_lt l), ⟨⟨⟨.none, by simpa using he⟩, f _ _ ho⟩, Nat.zero_le _⟩, fun c hcm => ?_, q⟩
    simp only [List.mem_cons, List.not_mem_nil, or_false] at hcm
    rcases hcm with z | z
    · rw [z]; exact five_new I2 1
    · rw [z]; exact five_new I2 0
def enumK (k : Int) (xs : List PyData) : List PyData := xs.mapIdx fun i x => .tuple [.int (k + i), x]
def fEnumK (k : Int) (f : FX) : FIt := fun ρ => match f ρ with
  | some (a, ρ1) => match seqOf a with
    | some xs => some (enumK k xs, ρ1)
    | none => none
  | none => none
theorem fi_enumK {e : Expr} {c : Nat} {k : Int} {j : Nat} {p : Bool} {f : FX} {px pk kpos tpos : Pos} {elts : List Expr} {kk : Nat} (l1 : -2 ^ 63 ≤ k) (l2 : k < 2 ^ 63) (hg : Gl X "enumerate") (hm : X.mg "enumerate" = none) (ha : FE X own c p e f) (hc1 : 1 ≤ c := by decide)
    (hs : starEach [e] X.env = (false, eval e X.env) :: starEach [] X.env := by rfl)
    (hpl : ((backTo pos (starEach [e] X.env)).any (·.1) || (backToKw pos (keywordEach [⟨some "start", .Constant (.int k) j pk, kpos⟩] X.env)).any (·.1.isNone)) = false := by rfl) :
    FI X own (.Tuple elts kk tpos) c p (.Call (.Name "enumerate" px) [e] [⟨some "start", .Constant (.int k) j pk, kpos⟩] pos) (fEnumK k f) :=
  (pi_enumK l1 l2 hg hm (pa_cons ha pa_nil hs) hs hpl).conv fun σ H Q ⟨ρ, F, ds, ρ', r, e1, kq⟩ => by
    unfold fEnumK at e1
    split at e1
    · rename_i da ρ1 ea
      split at e1
      · rename_i xd ex
        cases e1
        refine ⟨ρ, F, _, ρ', r, ea, fun v H' F' R r' s' p' hv hc => ?_⟩
        obtain ⟨a, xs, G1, C1, R1, e1, S1, g1, dx, m1, k1⟩ := hv.src ex
        subst e1
        refine ⟨a, xs, G1, C1, rfl, S1, g1, kq _ H' F' R R r' s' p' ?_ hc.1 fun z hz => ⟨hc.1 hc1 z hz, hv.tracked z hz⟩⟩
        have len : (enumK k xd).length = xs.length := by simp [enumK, dx.length]
        refine ⟨fun H2 i x hi => ⟨k1 _ x, by rw [← len]; exact hi⟩, fun H2 i v H3 x hi y => ?_, fun H2 i x hi => ⟨k1 _ x, by rw [← len]; exact hi⟩⟩
        obtain ⟨T, o, vx, vy, rfl, hT, rfl, dn, qx, qy⟩ := y
        obtain ⟨d1, R3, z1, z2, z3⟩ := dx.get' qy
        subst qx
        refine ⟨same_upd hT, .tuple [.int (k + i), d1], _, ?_, dv_pair dn hT (DV.int (k + (i : Int))) (z2.ext x fun a ha => m1 a (z3 a ha)), fun a ha => ?_⟩
        · simp [enumK, List.getElem?_mapIdx, z1]
        · simpa using m1 a (z3 a (by simpa using ha))
      · cases e1
    · cases e1
end
section
variable {X : Cx} {own io : Nat → Bool} {K : PySem.W.Frag} {pos apos : Pos}
/-! ### a, b, c = e1, e2, e3 -/
def gPar3 (i j l : Nat) (fs : FL) : FSt := fun ρ => match fs ρ with
  | some ([x, y, z], ρ1) => if i < ρ1.length ∧ j < ρ1.length ∧ l < ρ1.length then .nx (((ρ1.set i (some x)).set j (some y)).set l (some z)) else .no
  | _ => .no
theorem fs_par3 {i j l : Nat} {x y z : Str} {a b c : Expr} {px py pz pt : Pos} {kt k2 pt2} {p : Bool} {fs : FL} (hc : X.calm = true) (hN : X.N.Nodup) (hi : X.N[i]? = some x) (hj : X.N[j]? = some y) (hl : X.N[l]? = some z) (hij : i ≠ j) (hil : i ≠ l) (hjl : j ≠ l)
    (hx : X.env.scope.names.lookup x = some .local) (hy : X.env.scope.names.lookup y = some .local) (hz : X.env.scope.names.lookup z = some .local) (ha : FA X own 2 p [a, b, c] fs)
    (hw : swappedStores [.Tuple [.Name x px, .Name y py, .Name z pz] kt pt] (.Tuple [a, b, c] k2 pt2) X.env = pure (some [x, y, z])) (ii : io i = false := by rfl) (jj : io j = false := by rfl) (ll : io l = false := by rfl)
    (hs : swapsWithSole [.Tuple [.Name x px, .Name y py, .Name z pz] kt pt] (.Tuple [a, b, c] k2 pt2) pos.line X.env = pure false := by rfl) :
    FS X own io (.Assign [.Tuple [.Name x px, .Name y py, .Name z pz] kt pt] (.Tuple [a, b, c] k2 pt2) pos) (gPar3 i j l fs) := (ps_par3 hc hN hi hj hl hij hil hjl hx hy hz ha hw hs).conv fun D σ H ⟨ρ, F, r, k⟩ => by
  unfold gPar3 at k
  split at k
  · rename_i dx dy dz ρ1 q
    split at k
    · rename_i hlen
      refine ⟨ρ, F, _, ρ1, r, q, fun vs H' F' R r' s' p' hv hc' => ?_⟩
      generalize hR : R = R0 at hv
      cases hv with
      | cons v1 vt =>
        cases vt with
        | cons v2 vt =>
          cases vt with
          | cons v3 vt =>
            cases vt
            rename_i v R1 w R2 u R3
            subst hR
            rw [List.append_nil] at hc'
            have n2 := hc'.2 (Nat.le_refl 2)
            have nd := List.nodup_append.mp n2.1
            have nd2 := List.nodup_append.mp nd.2.1
            have m1 : ∀ a ∈ R1, a ∈ R1 ++ (R2 ++ R3) := fun a ha => List.mem_append_left _ ha
            have m2 : ∀ a ∈ R2, a ∈ R1 ++ (R2 ++ R3) := fun a ha => List.mem_append_right _ (List.mem_append_left _ ha)
            have m3 : ∀ a ∈ R3, a ∈ R1 ++ (R2 ++ R3) := fun a ha => List.mem_append_right _ (List.mem_append_right _ ha)
            have fr := far_of s' r (fun a ha => (n2.2 a ha).1) (hc'.1 (by decide))
            have r2 := r'.setO (j := i) (by rw [r'.len]; exact hlen.1) v1 nd.1 (fun a ha => (n2.2 a (m1 a ha)).2) fun k a ha => fr k a (m1 a ha)
            have r3 := r2.setO (j := j) (by rw [List.length_set, r'.len]; exact hlen.2.1) v2 nd2.1 (fun a ha => (n2.2 a (m2 a ha)).2) fun k a ha m => by
              by_cases h : k = i
              · subst h
                rw [setF_same] at m
                exact nd.2.2 a m a (List.mem_append_left _ ha) rfl
              · rw [setF_ne h] at m
                exact fr k a (m2 a ha) m
            have r4 := r3.setO (j := l) (by rw [List.length_set, List.length_set, r'.len]; exact hlen.2.2) v3 nd2.2.1 (fun a ha => (n2.2 a (m3 a ha)).2) fun k a ha m => by
              by_cases h : k = j
              · subst h
                rw [setF_same] at m
                exact nd2.2.2 a m a ha rfl
              · rw [setF_ne h] at m
                by_cases h2 : k = i
                · subst h2
                  rw [setF_same] at m
                  exact nd.2.2 a m a (List.mem_append_right _ ha) rfl
                · rw [setF_ne h2] at m
                  exact fr k a (m3 a ha) m
            refine ⟨v, w, u, rfl, k _ H' _ r4 ⟨((s'.toStpS.setF fun a ha => (n2.2 a (m1 a ha)).1).setF fun a ha => (n2.2 a (m2 a ha)).1).setF fun a ha => (n2.2 a (m3 a ha)).1, fun m hm => ?_⟩⟩
            have n1 : j ≠ m := fun e => by subst e; rw [hm] at jj; cases jj
            have n3 : i ≠ m := fun e => by subst e; rw [hm] at ii; cases ii
            have n4 : l ≠ m := fun e => by subst e; rw [hm] at ll; cases ll
            rw [List.getElem?_set_ne n4, List.getElem?_set_ne n1, List.getElem?_set_ne n3]
    · exact k.elim
  · exact k.elim
end
end FP
namespace FP
open PySem PySem.Spec PyProof.Rows L2
section
variable {X : Cx} {own io : Nat → Bool} {K : PySem.W.Frag} {pos apos : Pos}
/-! ### a < b < c, all quiet -/
def fChain (g g' : G2) (fa fb fc : FX) : FX := fun ρ => match fa ρ with
  | some (x, ρ1) => match fb ρ1 with
    | some (y, ρ2) => match g x y with
      | some (.bool true) => match fc ρ2 with
        | some (z, ρ3) => match g' y z with
          | some w => some (w, ρ3)
          | none => none
        | none => none
      | some (.bool false) => some (.bool false, ρ2)
      | _ => none
    | none => none
  | none => none
theorem fe_chain {op op' : CmpOp} {r r' : R2} {g g' : G2} {a b c : Expr} {ca cb cc : Nat} {fa fb fc : FX} (ho : OpR X (compareOp op) r) (hg : DOp X.K r g) (ho' : OpR X (compareOp op') r') (hg' : DOp X.K r' g') (ha : FE X own ca true a fa) (hb : FE X own cb true b fb) (hc : FE X own cc true c fc)
    (hm : lastMarks [op, op'] [b, c] = false := by rfl) :
    FE X own 2 true (.Compare a [op, op'] [b, c] pos) (fChain g g' fa fb fc) :=
  (pe_chain ho ho' ha hb hc hm).conv fun σ H Q ⟨ρ, F, d, ρ', r, e1, k⟩ => by
    unfold fChain at e1
    split at e1
    · rename_i x ρ1 ea
      split at e1
      · rename_i y ρ2 eb
        split at e1
        · rename_i eg
          split at e1
          · rename_i z ρ3 ec
            split at e1
            · rename_i w' eg'
              cases e1
              refine ⟨ρ, F, x, ρ1, r, ea, fun v H1 F1 R1 r1 s1 p1 v1 c1 => ?_⟩
              obtain ⟨rfl, rfl, sm1⟩ := p1 rfl
              refine ⟨_, _, y, ρ2, r1, eb, fun w H2 F2 R2 r2 s2 p2 w2 c2 => ?_⟩
              obtain ⟨rfl, rfl, sm2⟩ := p2 rfl
              refine hg H2 v w x y R1 R2 (.bool true) _ (v1.same sm2) w2 eg fun u H' R sm hv hn => ?_
              cases hv
              refine ⟨true, rfl, ?_⟩
              rw [if_pos rfl]
              refine ⟨_, _, z, _, r2.same sm, ec, fun w' H4 F4 R4 r4 s4 p4 w4 c4 => ?_⟩
              obtain ⟨rfl, rfl, sm4⟩ := p4 rfl
              exact hg' H4 w w' y z R2 R4 d _ ((w2.same sm).same sm4) w4 eg' fun u H5 R5 sm5 hv5 hn5 => fin k r4 (((s1.trans s2).trans (Stp.same sm)).trans s4) (fun _ => ⟨rfl, rfl, ((sm1.trans sm2).trans sm).trans sm4⟩) sm5 hv5 hn5
            · cases e1
          · cases e1
        · rename_i eg
          cases e1
          refine ⟨ρ, F, x, ρ1, r, ea, fun v H1 F1 R1 r1 s1 p1 v1 c1 => ?_⟩
          obtain ⟨rfl, rfl, sm1⟩ := p1 rfl
          refine ⟨_, _, y, _, r1, eb, fun w H2 F2 R2 r2 s2 p2 w2 c2 => ?_⟩
          obtain ⟨rfl, rfl, sm2⟩ := p2 rfl
          refine hg H2 v w x y R1 R2 (.bool false) _ (v1.same sm2) w2 eg fun u H' R sm hv hn => ?_
          cases hv
          refine ⟨false, rfl, ?_⟩
          rw [if_neg (by decide)]
          exact k _ H' _ [] (r2.same sm) ((s1.trans s2).trans (Stp.same sm)) (fun _ => ⟨rfl, rfl, (sm1.trans sm2).trans sm⟩) (.bl _) .nil
        · cases e1
      · cases e1
    · cases e1
/-! ### xs[i] that may be a list -/
def gIx1 : G2
  | .list xs, .int i => L2.atI xs i
  | .tuple xs, .int i => L2.atI xs i
  | _, _ => none
theorem fe_ix1 {a b : Expr} {ca cb : Nat} {fa fb : FX} (ha : FE X own ca true a fa) (hb : FE X own cb true b fb) (hs : PlainIx b := by intro _ _; rfl) (hc : ca ≤ 1 := by decide) : FE X own ca true (.Subscript a b pos) (fBin gIx1 fa fb) :=
  (pe_ix op_ixU ha hb hs).conv fun σ H Q ⟨ρ, F, d, ρ', r, e1, k⟩ => by
    unfold fBin at e1
    split at e1
    · rename_i x ρ1 ea
      split at e1
      · rename_i y ρ2 eb
        split at e1
        · rename_i z eg
          cases e1
          refine ⟨ρ, F, x, ρ1, r, ea, fun v H1 F1 R1 r1 s1 p1 v1 c1 => ?_⟩
          obtain ⟨rfl, rfl, sm1⟩ := p1 rfl
          refine ⟨_, _, y, _, r1, eb, fun w H2 F2 R2 r2 s2 p2 w2 c2 => ?_⟩
          obtain ⟨rfl, rfl, sm2⟩ := p2 rfl
          have v2 := v1.same sm2
          unfold gIx1 at eg
          split at eg
          · cases v2 with
            | lst h1 h2 =>
              cases w2
              obtain ⟨u, R', q1, q2, q3⟩ := h2.at eg
              exact .inl ⟨_, _, _, u, rfl, rfl, SqL.of h1, q1, k u H2 _ R' r2 (s1.trans s2) (fun _ => ⟨rfl, rfl, sm1.trans sm2⟩) q2 ⟨fun z a ha => c1.1 z a (List.mem_cons_of_mem _ (q3 a ha)), fun z => absurd (Nat.le_trans z hc) (by decide)⟩⟩
          · cases v2 with
            | tup h1 h2 =>
              cases w2
              obtain ⟨u, R', q1, q2, q3⟩ := h2.at eg
              exact .inr ⟨_, _, _, u, rfl, rfl, h1.sq, q1, k u H2 _ R' r2 (s1.trans s2) (fun _ => ⟨rfl, rfl, sm1.trans sm2⟩) q2 ⟨fun z a ha => c1.1 z a (q3 a ha), fun z => absurd (Nat.le_trans z hc) (by decide)⟩⟩
          · cases eg
        · cases e1
      · cases e1
    · cases e1
end
end FP
namespace FP
open PySem PySem.Spec PyProof.Rows L2
/-! ### a def that changes its first parameter, and hands back a part of the others -/
def spIr (K : PySem.W.Frag) (m : MI) : Sp := fun vs H Q _ => ∃ v0 ws d0 ds R0 R r o, vs = v0 :: ws ∧ DV K H v0 d0 R0 ∧ R0.Nodup ∧ (∀ a ∈ R0, Mut (H a)) ∧ DVs K H ws ds R ∧ (∀ a ∈ R, a ∉ R0) ∧ m d0 ds = some (r, o) ∧
  ∀ v H' R0' R', (∀ a u, H a = some u → a ∉ R0 → H' a = some u) → (∀ a, H a ≠ none → H' a ≠ none) → DV K H' v0 o R0' → R0'.Nodup → (∀ a ∈ R0', Mut (H' a) ∧ (a ∈ R0 ∨ H a = none)) →
    DV K H' v r R' → R'.Sublist R → Q v H'
theorem DVs.getS {K : PySem.W.Frag} {H : Hp} : ∀ {vs : List V} {ds : List PyData} {R : List Addr} {i : Nat} {d : PyData}, DVs K H vs ds R → ds[i]? = some d → ∃ v R', vs[i]? = some v ∧ DV K H v d R' ∧ R'.Sublist R
  | _, _, _, _, _, .nil, e => by simp at e
  | _, _, _, 0, d, .cons (v := v) (R := R) h t, e => by
    simp at e; subst e
    exact ⟨v, R, rfl, h, List.sublist_append_left _ _⟩
  | _, _, _, i + 1, d, .cons h t, e => by
    obtain ⟨v, R', h1, h2, h3⟩ := DVs.getS (i := i) t (by simpa using e)
    exact ⟨v, R', by simpa using h1, h2, h3.trans (List.sublist_append_right _ _)⟩
theorem DVs.atS {K : PySem.W.Frag} {H : Hp} {vs : List V} {ds : List PyData} {R : List Addr} (h : DVs K H vs ds R) {i : Int} {d : PyData} (e : atI ds i = some d) : ∃ v R', atI vs i = some v ∧ DV K H v d R' ∧ R'.Sublist R := by
  unfold atI at e ⊢
  rw [h.length]
  cases q : ixN ds.length i with
  | none => rw [q] at e; cases e
  | some j =>
    rw [q] at e
    obtain ⟨v, R', h1, h2, h3⟩ := h.getS (i := j) (by simpa using e)
    exact ⟨v, R', by simpa using h1, h2, h3⟩
section
variable {X : Cx} {own : Nat → Bool} {k : Nat} {f : Addr} {fd : FuncData} {ps : List Str} {E : XK} {x : Str} {p0 pos : Pos} {e : Expr} {es : List Expr}
theorem fe_callIr {m : MI} {j : Nat} {c : Nat} {p : Bool} {fs : FL} (F : FnG X.prog X.w X.K X.mg X.base CX0 k f fd ps (spIr X.K m)) (gd : X.A.guards = some []) (hr : Room k X.A) (hg : Gl X x) (hm : X.mg x = some (.ref f)) (hk : PySem.W.keepIn X.K (.ref f) = true) (hb : Binds X.K fd ps [])
    (h0 : PE X e (tVar j)) (oj : own j = true) (ha : FA X own c p es fs) (hc : 1 ≤ c := by decide) (hdb : (x == ("__debug__" : Str)) = false := by decide) (he : starEach (e :: es) X.env = (false, eval e X.env) :: starEach es X.env := by rfl) (hpl : (backTo pos (starEach es X.env)).any (·.1) = false := by rfl) :
    FE X own c false (.Call (.Name x p0) (e :: es) [] pos) (fCallI m j fs) :=
  (pe_go (E := E0) F gd hr hg hm hk hb (pa_cons h0 ha he) hdb he hpl).conv fun σ H Q ⟨ρ, F, d, ρ', r, e1, k⟩ => by
    unfold fCallI at e1
    split at e1
    · rename_i d00 e00
      obtain ⟨v0, hv0, _⟩ := r.val j _ e00
      split at e1
      · rename_i ds ρ1 ea
        split at e1
        · rename_i d0 e0
          split at e1
          · rename_i rr o eg
            cases e1
            refine ⟨v0, hv0, ρ, F, ds, ρ1, r, ea, fun vs H1 F1 R1 r1 s1 p1 v1 c1 => ?_⟩
            obtain ⟨v0', q1, q2⟩ := r1.val j d0 e0
            rw [hv0] at q1; cases q1
            show spIr X.K m (v0 :: vs) H1 Q E0
            have far : ∀ a ∈ R1, a ∉ F1 j := fun a ha m => c1.1 hc a ha ⟨j, oj, m⟩
            refine ⟨v0, vs, d0, ds, F1 j, R1, d, o, rfl, q2, r1.nod j oj, fun a m => r1.mu j oj a m, v1, far, eg, fun v H' R0' R' kp dm w0 nd0 mu0 wv sub => ?_⟩
            obtain ⟨r2, s2⟩ := r1.write oj hv0 kp dm w0 nd0 mu0
            have tr : ∀ a ∈ R', H1 a ≠ none := fun a ha => v1.tracked a (sub.subset ha)
            refine k v H' _ R' r2 (s1.trans s2) (fun z => nomatch z) wv ⟨fun _ a ha ⟨i, oi, m⟩ => ?_, fun z => ⟨(c1.2 z).1.sublist sub, fun a ha => ?_⟩⟩
            · by_cases h : i = j
              · subst h
                rw [setF_same] at m
                rcases (mu0 a m).2 with z | z
                · exact far a (sub.subset ha) z
                · exact tr a ha z
              · rw [setF_ne h] at m
                exact c1.1 hc a (sub.subset ha) ⟨i, oi, m⟩
            · have q := (c1.2 z).2 a (sub.subset ha)
              refine ⟨q.1, ?_⟩
              obtain ⟨u, eu⟩ := mut_some q.2
              rw [kp a u eu (far a (sub.subset ha)), ← eu]
              exact q.2
          · cases e1
        · cases e1
      · cases e1
    · cases e1
end
section
variable {P : Program} {w : World} {K : PySem.W.Frag} {mg : Str → Option Value} {base : Heap} {x qual : Str} {st : Stmt} {f : Addr} {fd : FuncData} {N ps : List Str} {k : Nat}
/-- return some[i], i told by the first parameter -/
def runPick (n : Nat) (fi : FX) : MI := fun d0 ds => match ds with
  | [xs] => match fi (ev0 n [d0, xs]) with
    | some (y, ρ1) => match gIx1 xs y with
      | some z => match ρ1[0]? with
        | some (some o) => some (z, o)
        | _ => none
      | none => none
    | none => none
  | _ => none
theorem mkPick (n : Nat) (fi : FX) {nm idx : Expr} {p1 p2 : Pos} (hnp : ps.length = 2) (hn : N.length = n) (Fn : Fun K x qual st f fd) (S : FnScope N ps (defScope st)) (hb : defBody st = [.Return (some (.Subscript nm idx p1)) p2]) (hs : PlainIx idx)
    (hbody : ∀ (cdv : Value) (A : Around) (outer : List Env) (s : Shared) (H : Hp) (E : XK), Room k (A.deeper (envOfC qual (defScope st) s.heap.objs.size f cdv)) → A.guards = some [] →
      PE (cxOf CX0 P w K mg base N qual (defScope st) f cdv A outer s H E).nox nm (tVar 1) ∧ FE (cxOf CX0 P w K mg base N qual (defScope st) f cdv A outer s H E).nox (fun i => i == 0) 2 false idx fi) :
    FnG P w K mg base CX0 (k + 1) f fd ps (spIr K (runPick n fi)) := by
  subst hn
  refine body_kept Fn S (fun vs H Q E h => ?_) (fun cdv A outer s H vs Q E hr gd h => ?_)
  · obtain ⟨v0, ws, d0, ds, R0, R, r, o, rfl, hv0, _, _, hv, _, hm, _⟩ := h
    unfold runPick at hm
    split at hm
    · rw [List.length_cons, hv.length, hnp]; rfl
    · cases hm
  · obtain ⟨v0, ws, d0, ds, R0, R, r, o, rfl, hv0, nd0, mu0, hv, hd, hm, kq⟩ := h
    obtain ⟨b1, b2⟩ := hbody cdv A outer s H E hr gd
    refine ⟨_, hb ▸ pss_one (ps_ret (pe_ix op_ixU b1 b2 hs)), ?_⟩
    unfold runPick at hm
    split at hm
    · rename_i xs
      split at hm
      · rename_i y ρ1 ei
        split at hm
        · rename_i z ez
          split at hm
          · rename_i o' e2
            cases hm
            generalize hR : R = Rq at hv
            cases hv with
            | cons hx t =>
              cases t
              rename_i v1 R1
              have r0 : RepE K (fun i => i == 0) (L2.start N [v0, v1]) H (ev0 N.length [d0, xs]) (fun i => [R0, R1].getD i []) := rep0 [R0, R1] rfl rfl (fun i d e => by
                  rcases i with _ | _ | i
                  · simp at e; subst e; exact ⟨v0, rfl, hv0⟩
                  · simp at e; subst e; exact ⟨v1, rfl, hx⟩
                  · simp at e)
                (fun i oi => by have : i = 0 := by simpa using oi
                                subst this; exact nd0)
                (fun i oi a ha => by have : i = 0 := by simpa using oi
                                     subst this; exact mu0 a ha)
                (fun i j ne oj a ha m => by
                  have : j = 0 := by simpa using oj
                  subst this
                  rcases i with _ | _ | i
                  · exact ne rfl
                  · exact hd a (by rw [hR]; simpa using ha) m
                  · simp at ha)
              have ap : ∀ a ∈ R1, ¬ InF (fun i => i == 0) (fun i => [R0, R1].getD i []) a := fun a ha ⟨i, oi, m⟩ => by
                have : i = 0 := by simpa using oi
                subst this
                exact hd a (by rw [hR]; simpa using ha) m
              have nF : ∀ a, a ∉ R0 → ¬ InF (fun i => i == 0) (fun i => [R0, R1].getD i []) a := fun a n ⟨i, oi, m⟩ => by
                have : i = 0 := by simpa using oi
                subst this
                exact n m
              have z1 : (L2.start N [v0, v1])[1]? = some (some v1) := start_get (by rfl)
              refine ⟨v1, z1, ev0 N.length [d0, xs], _, y, ρ1, r0, ei, fun wv H2 F2 R2 r2 s2 _ w2 c2 => ?_⟩
              have hx2 : DV K H2 v1 xs R1 := hx.step r0 s2.toStpS ap
              have fin2 : ∀ u R', DV K H2 u r R' → R'.Sublist R1 → Q u H2 := fun u R' q2 q3 => by
                obtain ⟨v, q4, q5⟩ := r2.val 0 o e2
                have z0 : (L2.start N [v0, v1])[0]? = some (some v0) := start_get (by rfl)
                rw [z0] at q4
                cases q4
                refine kq u H2 (F2 0) R' (fun a u e n => s2.keep a u e (nF a n)) s2.dom q5 (r2.nod 0 rfl) (fun a ha => ⟨r2.mu 0 rfl a ha, ?_⟩) q2 (by rw [hR, List.append_nil]; exact q3)
                rcases s2.grow 0 rfl a ha with z | z
                · exact .inl z
                · exact .inr z
              unfold gIx1 at ez
              split at ez
              · cases hx2 with
                | lst h1 h2 =>
                  cases w2
                  obtain ⟨u, R', q1, q2, q3⟩ := h2.atS ez
                  exact .inl ⟨_, _, _, u, rfl, rfl, SqL.of h1, q1, fin2 u R' q2 (q3.trans (List.sublist_cons_self _ _))⟩
              · cases hx2 with
                | tup h1 h2 =>
                  cases w2
                  obtain ⟨u, R', q1, q2, q3⟩ := h2.atS ez
                  exact .inr ⟨_, _, _, u, rfl, rfl, h1.sq, q1, fin2 u R' q2 q3⟩
              · cases ez
          · cases hm
        · cases hm
      · cases hm
    · cases hm
end
/-! ### append of a new thing that may be a list -/
section
variable {K : PySem.W.Frag} {own : Nat → Bool} {σ : L2.St} {H H' H0 : Hp} {ρ : EV} {F F0 : Fo} {R : List Addr}
theorem RepE.write2 {j : Nat} {v : V} {d : PyData} (r : RepE K own σ H ρ F) (oj : own j = true) (hv : σ[j]? = some (some v)) (keep : ∀ a u, H a = some u → a ∉ F j → H' a = some u)
    (hd : DV K H' v d R) (nd : R.Nodup) (hm : ∀ a ∈ R, Mut (H' a) ∧ (a ∈ F j ∨ ∀ i, a ∉ F i)) : RepE K own σ H' (ρ.set j (some d)) (setF F j R) := by
  have tup : ∀ a o, H a = some o → ¬ Mut (some o) → H' a = some o := fun a o e n => keep a o e fun m => by
    have := r.mu j oj a m
    rw [e] at this; exact n this
  have hj : j < ρ.length := by rw [← r.len]; exact (List.getElem?_eq_some_iff.mp hv).1
  refine ⟨by simpa using r.len, fun i e q => ?_, fun i n => ?_, fun i oi => ?_, fun i oi a m => ?_, fun i k ne ok a m m2 => ?_⟩
  · by_cases h : i = j
    · subst h
      rw [List.getElem?_set_self hj] at q
      cases q
      exact ⟨v, hv, by rw [setF_same]; exact hd⟩
    · rw [List.getElem?_set_ne (Ne.symm h)] at q
      obtain ⟨u, h1, h2⟩ := r.val i e q
      exact ⟨u, h1, by rw [setF_ne h]; exact h2.mono tup fun a ha o e => keep a o e (r.dis i j h oj a ha)⟩
  · by_cases h : i = j
    · subst h
      exact absurd (List.getElem?_set_self hj) (n d)
    · rw [setF_ne h]
      exact r.emp i fun e q => n e (by rw [List.getElem?_set_ne (Ne.symm h)]; exact q)
  · by_cases h : i = j
    · subst h; rw [setF_same]; exact nd
    · rw [setF_ne h]; exact r.nod i oi
  · by_cases h : i = j
    · subst h; rw [setF_same] at m; exact (hm a m).1
    · rw [setF_ne h] at m
      have := r.mu i oi a m
      obtain ⟨u, e⟩ := mut_some this
      rw [keep a u e (r.dis i j h oj a m), ← e]; exact this
  · by_cases h : i = j
    · subst h
      rw [setF_same] at m
      rw [setF_ne (Ne.symm ne)] at m2
      rcases (hm a m).2 with z | z
      · exact r.dis i k ne ok a z m2
      · exact z k m2
    · rw [setF_ne h] at m
      by_cases h2 : k = j
      · subst h2
        rw [setF_same] at m2
        rcases (hm a m2).2 with z | z
        · exact r.dis i k ne ok a m z
        · exact z i m
      · rw [setF_ne h2] at m2
        exact r.dis i k ne ok a m m2
end
section
variable {X : Cx} {own : Nat → Bool} {i : Nat} {o e : Expr} {apos cpos : Pos} {p : Bool} {f : FX}
def fAppend2 (i : Nat) (f : FX) : FX := fun ρ => match ρ[i]? with
  | some (some (.list _)) => match f ρ with
    | some (d, ρ1) => match ρ1[i]? with
      | some (some (.list ds)) => if decide (ds.length < 1000000) = true then some (.none, ρ1.set i (some (.list (ds ++ [d])))) else none
      | _ => none
    | none => none
  | _ => none
theorem fe_append2 (ho : PE X o (tVar i)) (oi : own i = true) (he : FE X own 2 p e f)
    (hbase : attributeBase o "append" X.env (eval o X.env) = eval o X.env := by rfl)
    (hfew : ((backTo cpos (starEach [e] X.env)).all (fun x => !x.1) && (backToKw cpos (keywordEach [] X.env)).all (fun x => x.1.isSome)
      && decide (([e] : List Expr).length + ([] : List Keyword).length + (if ([] : List Keyword).isEmpty then 0 else 1) < 30)) = true := by rfl)
    (hline : (apos.endLine == cpos.line) = true := by rfl) (hs : starEach [e] X.env = (false, eval e X.env) :: starEach [] X.env := by rfl) (hplain : (backTo cpos (starEach [] X.env)).any (·.1) = false := by rfl) :
    FE X own 2 false (.Call (.Attribute o "append" apos) [e] [] cpos) (fAppend2 i f) :=
  (pe_bm PySem.F.plainAttrs_list PySem.F.slot_list_append PySem.F.type_list_append mt_append ho (pa_cons he pa_nil hs) hbase hfew hline hs hplain).conv fun σ H Q ⟨ρ, F, d, ρ', r, e1, k⟩ => by
    unfold fAppend2 at e1
    split at e1
    · rename_i ds0 e0
      obtain ⟨l0, xs0, R0, q1, q2, q3, q4⟩ := own_list r oi e0
      split at e1
      · rename_i y ρ1 ef
        split at e1
        · rename_i ds e2
          split at e1
          · rename_i hi
            rw [decide_eq_true_eq] at hi
            cases e1
            refine ⟨_, q1, .inl ⟨rfl, _, SqL.of q2⟩, ρ, F, y, ρ1, r, ef, fun v H1 F1 R1 r1 s1 p1 v1 c1 => ?_⟩
            obtain ⟨l, xs, R, h1, h2, h3, h4⟩ := own_list r1 oi e2
            rw [q1] at h1; cases h1
            have n2 := c1.2 (Nat.le_refl 2)
            have far := far_of s1 r (fun a ha => (n2.2 a ha).1) (c1.1 (by decide))
            have nl := r1.nod i oi
            rw [h4] at nl
            have nl' := List.nodup_cons.mp nl
            have ne1 : ∀ a ∈ R, a ≠ l0 := fun a ha z => by subst z; exact nl'.1 ha
            have ne2 : ∀ a ∈ R1, a ≠ l0 := fun a ha z => far i a ha (by rw [h4, z]; exact List.mem_cons_self)
            have hd : DVs X.K H1 (xs ++ [v]) (ds ++ [y]) (R ++ R1) := by
              have := h3.append (.cons v1 .nil)
              rwa [List.append_nil] at this
            have keep : ∀ a u, H1 a = some u → a ≠ l0 → upd H1 l0 (.lst (xs ++ [v])) a = some u := fun a u e n => by rw [upd_ne n]; exact e
            have nda : (l0 :: (R ++ R1)).Nodup := by
              refine List.nodup_cons.mpr ⟨fun m => ?_, List.nodup_append.mpr ⟨nl'.2, n2.1, fun a ha b hb z => ?_⟩⟩
              · rcases List.mem_append.mp m with m | m
                · exact ne1 _ m rfl
                · exact ne2 _ m rfl
              · subst z; exact far i a hb (by rw [h4]; exact List.mem_cons_of_mem _ ha)
            have inF : ∀ a ∈ l0 :: R, a ∈ F1 i := fun a ha => by rw [h4]; exact ha
            have r2 := r1.write2 (H' := upd H1 l0 (.lst (xs ++ [v]))) (R := l0 :: (R ++ R1)) (d := .list (ds ++ [y])) oi q1 (fun a u e n => keep a u e fun z => n (inF a (by rw [z]; exact List.mem_cons_self)))
              (.lst upd_same (hd.mono (fun a o e nm => keep a o e fun z => by subst z; rw [h2] at e; cases e; exact nm trivial) fun a ha o e => keep a o e fun z => by
                rcases List.mem_append.mp ha with m | m
                · exact ne1 a m z
                · exact ne2 a m z)) nda fun a ha => by
                  rcases List.mem_cons.mp ha with rfl | ha
                  · exact ⟨by rw [upd_same]; trivial, .inl (inF _ List.mem_cons_self)⟩
                  · rcases List.mem_append.mp ha with m | m
                    · exact ⟨by rw [upd_ne (ne1 a m)]; exact r1.mu i oi a (inF a (List.mem_cons_of_mem _ m)), .inl (inF a (List.mem_cons_of_mem _ m))⟩
                    · exact ⟨by rw [upd_ne (ne2 a m)]; exact (n2.2 a m).2, .inr fun k => far k a m⟩
            have s2 : Stp own H F (upd H1 l0 (.lst (xs ++ [v]))) (setF F1 i (l0 :: (R ++ R1))) := by
              refine ⟨⟨fun a u e n => ?_, fun a n => ?_, fun j oj a m => ?_⟩, fun j oj => ?_⟩
              · have e1 := s1.keep a u e n
                exact keep a u e1 fun z => n ⟨i, oi, by rw [q4, z]; exact List.mem_cons_self⟩
              · have := s1.dom a n
                by_cases z : a = l0
                · subst z; rw [upd_same]; simp
                · rw [upd_ne z]; exact this
              · by_cases h : j = i
                · subst h
                  rw [setF_same] at m
                  rcases List.mem_cons.mp m with rfl | m
                  · exact .inl (by rw [q4]; exact List.mem_cons_self)
                  · rcases List.mem_append.mp m with m | m
                    · exact s1.grow j oj a (inF a (List.mem_cons_of_mem _ m))
                    · exact .inr (n2.2 a m).1
                · rw [setF_ne h] at m; exact s1.grow j oj a m
              · rw [setF_ne fun z => by rw [z, oi] at oj; cases oj]; exact s1.pu j oj
            have bl := big_line
            refine ⟨l0, xs, v, rfl, rfl, h2, by rw [h3.length]; omega, k _ _ _ [] r2 s2 (fun z => nomatch z) .non .nil⟩
          · cases e1
        · cases e1
      · cases e1
    · cases e1
end
section
variable {X : Cx} {own : Nat → Bool} {k j : Nat} {ps : List Str} {x : Str} {st : Stmt} {p0 pos : Pos} {e : Expr} {es : List Expr}
theorem fe_cIr {m : MI} {i : Nat} {c : Nat} {p : Bool} {fs : FL} (C : Callee X.prog X.w X.K X.mg X.base x st k ps (spIr X.K m)) (gd : X.A.guards = some []) (hr : Room j X.A) (hk : k ≤ j) (hg : Gl X x)
    (h0 : PE X e (tVar i)) (oj : own i = true) (ha : FA X own c p es fs) (hc : 1 ≤ c := by decide) (hdb : (x == ("__debug__" : Str)) = false := by decide) (he : starEach (e :: es) X.env = (false, eval e X.env) :: starEach es X.env := by rfl) (hpl : (backTo pos (starEach es X.env)).any (·.1) = false := by rfl) :
    FE X own c false (.Call (.Name x p0) (e :: es) [] pos) (fCallI m i fs) := by
  obtain ⟨f, fd, F, hm, hkp, hb, _⟩ := C.ex
  exact fe_callIr F gd (hr.mono hk) hg hm hkp hb h0 oj ha hc hdb he hpl
end
/-! ### a, b, c = e1, e2, e3, of which some are read within comprehensions -/
section
variable {X : Cx} {own io : Nat → Bool} {pos : Pos}
theorem fs_par3C {i j l : Nat} {x y z : Str} {a b c : Expr} {px py pz pt : Pos} {kt k2 pt2} {p : Bool} {fs : FL} (hc : X.calm = true) (hN : X.N.Nodup) (hi : X.N[i]? = some x) (hj : X.N[j]? = some y) (hl : X.N[l]? = some z)
    (hx : Loc X.env.scope x) (hy : Loc X.env.scope y) (hz : Loc X.env.scope z) (ha : FA X own 2 p [a, b, c] fs)
    (hw : swappedStores [.Tuple [.Name x px, .Name y py, .Name z pz] kt pt] (.Tuple [a, b, c] k2 pt2) X.env = pure none) (ii : io i = false := by rfl) (jj : io j = false := by rfl) (ll : io l = false := by rfl)
    (hs : swapsWithSole [.Tuple [.Name x px, .Name y py, .Name z pz] kt pt] (.Tuple [a, b, c] k2 pt2) pos.line X.env = pure false := by rfl)
    (h1 : (assignEach [.Tuple [.Name x px, .Name y py, .Name z pz] kt pt] X.env).map (·.2) = [assign (.Tuple [.Name x px, .Name y py, .Name z pz] kt pt) X.env] := by rfl)
    (hn : (assignEach [.Name x px, .Name y py, .Name z pz] X.env).length = 3 := by rfl) (hst : (assignEach [.Name x px, .Name y py, .Name z pz] X.env).findIdx? (·.1) = none := by rfl)
    (c1 : (assignEach [.Name x px, .Name y py, .Name z pz] X.env).map (·.2) = assign (.Name x px) X.env :: (assignEach [.Name y py, .Name z pz] X.env).map (·.2) := by rfl)
    (c2 : (assignEach [.Name y py, .Name z pz] X.env).map (·.2) = assign (.Name y py) X.env :: (assignEach [.Name z pz] X.env).map (·.2) := by rfl)
    (c3 : (assignEach [.Name z pz] X.env).map (·.2) = assign (.Name z pz) X.env :: (assignEach [] X.env).map (·.2) := by rfl)
    (f1 : X.fn x = true ∨ X.env.scope.names.lookup x = some .local := by first | exact .inl rfl | exact .inr rfl) (f2 : X.fn y = true ∨ X.env.scope.names.lookup y = some .local := by first | exact .inl rfl | exact .inr rfl) (f3 : X.fn z = true ∨ X.env.scope.names.lookup z = some .local := by first | exact .inl rfl | exact .inr rfl) :
    FS X own io (.Assign [.Tuple [.Name x px, .Name y py, .Name z pz] kt pt] (.Tuple [a, b, c] k2 pt2) pos) (gPar3 i j l fs) :=
  (ps_asg (pe_tupF ha) (pg_tup hc (pgs_cons (pg_name hN hi hx f1) (pgs_cons (pg_name hN hj hy f2) (pgs_cons (pg_name hN hl hz f3) pgs_nil c3) c2) c1) hn hst) hs hw h1).conv fun D σ H ⟨ρ, F, r, k⟩ => by
  unfold gPar3 at k
  split at k
  · rename_i dx dy dz ρ1 q
    split at k
    · rename_i hlen
      refine ⟨ρ, F, _, ρ1, r, q, fun vs H0 F' R r0 s0 p' hv0 hc0 => ⟨?_, fun p o hd hp => ?_⟩⟩
      · rw [hv0.length, sizeLine_eq]; simp
      have sm : Same H0 (upd H0 p (.frz o (.tup vs))) := same_upd hp
      have hv := hv0.same sm
      have r' := r0.same sm
      have s' := s0.trans (Stp.same sm)
      have hc' : RC own 2 H (upd H0 p (.frz o (.tup vs))) F' R := ⟨hc0.1, fun z2 => ⟨(hc0.2 z2).1, fun a ha => ⟨((hc0.2 z2).2 a ha).1, by
        obtain ⟨u, eu⟩ := mut_some ((hc0.2 z2).2 a ha).2
        rw [sm a u eu, ← eu]; exact ((hc0.2 z2).2 a ha).2⟩⟩⟩
      have hq : SqT X.K (upd H0 p (.frz o (.tup vs))) p vs := .inl (.inr ⟨o, upd_same⟩)
      refine ⟨p, vs, rfl, hq, by rw [hv0.length]; rfl, ?_⟩
      generalize upd H0 p (.frz o (.tup vs)) = H' at *
      generalize hR : R = R0 at hv
      cases hv with
      | cons v1 vt =>
        cases vt with
        | cons v2 vt =>
          cases vt with
          | cons v3 vt =>
            cases vt
            rename_i v R1 w R2 u R3
            subst hR
            rw [List.append_nil] at hc'
            have n2 := hc'.2 (Nat.le_refl 2)
            have nd := List.nodup_append.mp n2.1
            have nd2 := List.nodup_append.mp nd.2.1
            have m1 : ∀ a ∈ R1, a ∈ R1 ++ (R2 ++ R3) := fun a ha => List.mem_append_left _ ha
            have m2 : ∀ a ∈ R2, a ∈ R1 ++ (R2 ++ R3) := fun a ha => List.mem_append_right _ (List.mem_append_left _ ha)
            have m3 : ∀ a ∈ R3, a ∈ R1 ++ (R2 ++ R3) := fun a ha => List.mem_append_right _ (List.mem_append_right _ ha)
            have fr := far_of s' r (fun a ha => (n2.2 a ha).1) (hc'.1 (by decide))
            have r2 := r'.setO (j := i) (by rw [r'.len]; exact hlen.1) v1 nd.1 (fun a ha => (n2.2 a (m1 a ha)).2) fun k a ha => fr k a (m1 a ha)
            have r3 := r2.setO (j := j) (by rw [List.length_set, r'.len]; exact hlen.2.1) v2 nd2.1 (fun a ha => (n2.2 a (m2 a ha)).2) fun k a ha m => by
              by_cases h : k = i
              · subst h
                rw [setF_same] at m
                exact nd.2.2 a m a (List.mem_append_left _ ha) rfl
              · rw [setF_ne h] at m
                exact fr k a (m2 a ha) m
            have r4 := r3.setO (j := l) (by rw [List.length_set, List.length_set, r'.len]; exact hlen.2.2) v3 nd2.2.1 (fun a ha => (n2.2 a (m3 a ha)).2) fun k a ha m => by
              by_cases h : k = j
              · subst h
                rw [setF_same] at m
                exact nd2.2.2 a m a ha rfl
              · rw [setF_ne h] at m
                by_cases h2 : k = i
                · subst h2
                  rw [setF_same] at m
                  exact nd.2.2 a m a (List.mem_append_right _ ha) rfl
                · rw [setF_ne h2] at m
                  exact fr k a (m3 a ha) m
            refine ⟨_, _, rfl, _, _, rfl, _, _, rfl, rfl, k _ H' _ r4 ⟨((s'.toStpS.setF fun a ha => (n2.2 a (m1 a ha)).1).setF fun a ha => (n2.2 a (m2 a ha)).1).setF fun a ha => (n2.2 a (m3 a ha)).1, fun m hm => ?_⟩⟩
            have n1 : j ≠ m := fun e => by subst e; rw [hm] at jj; cases jj
            have n3 : i ≠ m := fun e => by subst e; rw [hm] at ii; cases ii
            have n4 : l ≠ m := fun e => by subst e; rw [hm] at ll; cases ll
            rw [List.getElem?_set_ne n4, List.getElem?_set_ne n1, List.getElem?_set_ne n3]
    · exact k.elim
  · exact k.elim
end
end FP
namespace FP
open PySem PySem.Spec PyProof.Rows L2
/-! ### lists that hold lists or dicts: xs + ys, xs * k -/
section
variable {X : Cx} {K : PySem.W.Frag} {own : Nat → Bool}
def DOp1 (K : PySem.W.Frag) (r : R2) (g : G2) : Prop := ∀ H x y d e Rx Ry z (Q : VK), DV K H x d Rx → DV K H y e Ry → g d e = some z → (∀ v H' R, Same H H' → DV K H' v z R → (∀ a ∈ R, H a = none ∨ a ∈ Rx ∨ a ∈ Ry) → Q v H') → r x y H Q
theorem two1 {K : PySem.W.Frag} {ca cb : Nat} {pa pb : Bool} {fa fb : FX} (hc : 1 ≤ ca) (hc2 : 1 ≤ cb) {σ : L2.St} {H : Hp} {ρ ρ1 ρ2 : EV} {F : Fo} {x y : PyData} (r : RepE K own σ H ρ F) (ea : fa ρ = some (x, ρ1)) (eb : fb ρ1 = some (y, ρ2))
    {W : V → V → Hp → Prop} (k : ∀ v w H2 F2 Rx Ry, RepE K own σ H2 ρ2 F2 → Stp own H F H2 F2 → ((pa && pb) = true → ρ2 = ρ ∧ F2 = F ∧ Same H H2) → DV K H2 v x Rx → DV K H2 w y Ry → (∀ a ∈ Rx, ¬ InF own F2 a) → (∀ a ∈ Ry, ¬ InF own F2 a) → W v w H2) :
    tD K own ca pa fa σ H fun v H1 => tD K own cb pb fb σ H1 fun w H2 => W v w H2 := by
  refine ⟨ρ, F, x, ρ1, r, ea, fun v H1 F1 R1 r1 s1 p1 v1 c1 => ⟨ρ1, F1, y, ρ2, r1, eb, fun w H2 F2 R2 r2 s2 p2 v2 c2 => ?_⟩⟩
  refine k v w H2 F2 R1 R2 r2 (s1.trans s2) (fun z => ?_) (v1.step r1 s2.toStpS (c1.1 hc)) v2 (fun a ha => s2.toStpS.apart (v1.tracked a ha) (c1.1 hc a ha)) (c2.1 hc2)
  rw [Bool.and_eq_true] at z
  obtain ⟨q1, q2, q3⟩ := p1 z.1
  obtain ⟨u1, u2, u3⟩ := p2 z.2
  exact ⟨u1.trans q1, u2.trans q2, q3.trans u3⟩
theorem fe_op1 {op : Operator} {r : R2} {g : G2} {a b : Expr} {pos : Pos} {ca cb : Nat} {pa pb : Bool} {fa fb : FX} (ho : OpR X (binaryOp op) r) (hg : DOp1 X.K r g) (ha : FE X own ca pa a fa) (hb : FE X own cb pb b fb)
    (hc : 1 ≤ ca := by decide) (hc2 : 1 ≤ cb := by decide) : FE X own 1 (pa && pb) (.BinOp a op b pos) (fBin g fa fb) :=
  (pe_op ho ha hb).conv fun σ H Q ⟨ρ, F, d, ρ', r, e1, k⟩ => by
    unfold fBin at e1
    split at e1
    · rename_i x ρ1 ea
      split at e1
      · rename_i y ρ2 eb
        split at e1
        · rename_i z eg
          cases e1
          refine two1 hc hc2 r ea eb fun v w H2 F2 Rx Ry r2 s2 p2 v2 w2 n1 n2 => hg H2 v w x y Rx Ry _ _ v2 w2 eg fun u H' R sm hv hn => ?_
          refine k u H' F2 R (r2.same sm) (s2.trans (.same sm)) (fun z => ⟨(p2 z).1, (p2 z).2.1, (p2 z).2.2.trans sm⟩) hv ⟨fun _ a ha => ?_, fun z => absurd z (by decide)⟩
          rcases hn a ha with z | z | z
          · exact r2.fresh z
          · exact n1 a z
          · exact n2 a z
        · cases e1
      · cases e1
    · cases e1
def gAdd1 : G2
  | .list a, .list b => if a.length + b.length ≤ 1000000 then some (.list (a ++ b)) else none
  | _, _ => none
theorem dop_add1 : DOp1 K (rAddU K) gAdd1 := by
  intro H x y d e Rx Ry z Q hx hy hg k
  have bl := big_line
  unfold gAdd1 at hg
  split at hg
  · split at hg
    · rename_i hl
      cases hg
      cases hx with
      | lst h1 h2 =>
        cases hy with
        | lst g1 g2 =>
          rename_i a0 xs R1 b0 ys R2
          have l1 := h2.length
          have l2 := g2.length
          refine .inr (.inr (.inr ⟨_, _, _, _, rfl, rfl, h1, g1, by omega, fun p hp => ?_⟩))
          have sm : Same H (upd H p (.lst (xs ++ ys))) := same_upd hp
          refine k _ _ (p :: (R1 ++ R2)) sm (.lst upd_same ((h2.same sm).append (g2.same sm))) fun a ha => ?_
          rcases List.mem_cons.mp ha with z | z
          · exact .inl (z ▸ hp)
          · rcases List.mem_append.mp z with z | z
            · exact .inr (.inl (List.mem_cons_of_mem _ z))
            · exact .inr (.inr (List.mem_cons_of_mem _ z))
    · cases hg
  · cases hg
theorem DVs.rep' {H : Hp} {vs : List V} {ds : List PyData} {R : List Addr} (h : DVs K H vs ds R) : ∀ k : Nat, DVs K H (List.replicate k vs).flatten (List.replicate k ds).flatten (List.replicate k R).flatten
  | 0 => .nil
  | k + 1 => by
    have := h.append (DVs.rep' h k)
    simpa [List.replicate_succ] using this
def gMul1 : G2
  | .list a, .int k => if (decide (k ≤ 1000) && decide (-1000 ≤ k) && decide (a.length ≤ 1000)) = true then some (.list (List.replicate k.toNat a).flatten) else none
  | _, _ => none
theorem dop_mul1 : DOp1 K (rMulU K) gMul1 := by
  intro H x y d e Rx Ry z Q hx hy hg k
  have bl := big_line
  unfold gMul1 at hg
  split at hg
  · split at hg
    · rename_i hc
      simp only [Bool.and_eq_true, decide_eq_true_eq] at hc
      obtain ⟨⟨h1, h2⟩, h3⟩ := hc
      cases hy; cases hg
      cases hx with
      | lst g1 g2 =>
        rename_i kk a0 xs R1
        have l1 := g2.length
        refine .inr (.inl ⟨_, _, _, rfl, rfl, g1, by omega, by omega, ?_, fun p hp => ?_⟩)
        · rw [l1]
          refine Nat.le_trans (Nat.mul_le_mul h3 (show _ ≤ 1000 from ?_)) (by omega)
          omega
        · have sm : Same H (upd H p (.lst (List.replicate kk.toNat xs).flatten)) := same_upd hp
          refine k _ _ (p :: (List.replicate kk.toNat R1).flatten) sm (.lst upd_same ((g2.same sm).rep' _)) fun a ha => ?_
          rcases List.mem_cons.mp ha with z | z
          · exact .inl (z ▸ hp)
          · obtain ⟨l, hl, m⟩ := List.mem_flatten.mp z
            rw [(List.mem_replicate.mp hl).2] at m
            exact .inr (.inl (List.mem_cons_of_mem _ m))
    · cases hg
  · cases hg
end
/-! ### t < u, of tuples of ints -/
section
variable {X : Cx} {K : PySem.W.Frag}
def lexLtD (ns ms : List Int) : Bool := Ob.lexAt (fun j => decide (ns.getD j 0 = ms.getD j 0)) (fun j => decide (ns.getD j 0 < ms.getD j 0)) (decide (ns.length < ms.length)) 0 (min ns.length ms.length)
def rLtT (K : PySem.W.Frag) : R2 := fun x y H Q => ∃ (a b : Addr) (ns ms : List Int), x = .ref a ∧ y = .ref b ∧ SqT K H a (ns.map V.int) ∧ SqT K H b (ms.map V.int) ∧ Q (.bl (lexLtD ns ms)) H
theorem op_ltTP (hu0 : X.A.units + 64 < cLine) : OpR X (compareOp .Lt) (rLtT X.K) := by
  intro pins s σ H x y v u Q I rx ry h; have hu : X.A.units < cLine := by omega
  obtain ⟨a, b, ns, ms, rfl, rfl, ha, hb, q⟩ := h
  cases rx
  cases ry
  obtain ⟨its, r1, p1, _⟩ := I.tuple ha
  obtain ⟨its2, r2, p2, _⟩ := I.tuple hb
  have i1 : IntsAre its ns := Vals.ints r1
  have i2 : IntsAre its2 ms := Vals.ints r2
  have e1 : its.toArray.size = ns.length := by rw [List.size_toArray]; exact i1.length
  have e2 : its2.toArray.size = ms.length := by rw [List.size_toArray]; exact i2.length
  have at1 : ∀ j (h1 : j < its.toArray.size), ∃ t, its.toArray[j] = .int (ns.getD j 0) t := fun j h1 => PyProof.Rows.IntsAre.int_at i1 _ _ (by simp at h1; simp [h1])
  have at2 : ∀ j (h1 : j < its2.toArray.size), ∃ t, its2.toArray[j] = .int (ms.getD j 0) t := fun j h1 => PyProof.Rows.IntsAre.int_at i2 _ _ (by simp at h1; simp [h1])
  have R := Ob.RcOp.tuples_lt (A := X.A) (s := s) (e := fun j => decide (ns.getD j 0 = ms.getD j 0)) (r := fun j => decide (ns.getD j 0 < ms.getD j 0)) p1 p2 hu (fun j h1 h2 => by
    obtain ⟨t, et⟩ := at1 j h1
    obtain ⟨t', et'⟩ := at2 j h2
    rw [et, et']
    have z : (ns.getD j 0 == ms.getD j 0) = decide (ns.getD j 0 = ms.getD j 0) := by
      by_cases q : ns.getD j 0 = ms.getD j 0
      · rw [decide_eq_true q]; exact beq_iff_eq.mpr q
      · rw [decide_eq_false q]; exact beq_eq_false_iff_ne.mpr q
    rw [← z]
    exact SeqAt.EqAt.int_int _ _ _ _) (fun j h1 h2 _ => by
    obtain ⟨t, et⟩ := at1 j h1
    obtain ⟨t', et'⟩ := at2 j h2
    rw [et, et']
    exact Ob.RcOp.lt_int _ _ _ _)
  rw [e1, e2] at R
  have z : wpAny (model X.prog X.w) X.A (compareOp .Lt (.ref a) (.ref b)) (EP X pins σ Q) X.xe s := R X.prog X.w X.xe (EP X pins σ Q) ⟨.bl _, H, I, rfl, q⟩
  exact z
def gLtT : G2
  | .tuple a, .tuple b => match allI a, allI b with
    | some ns, some ms => some (.bool (lexLtD ns ms))
    | _, _ => none
  | _, _ => none
theorem dop_ltT : DOp K (rLtT K) gLtT := by
  intro H x y d e Rx Ry z Q hx hy hg k
  unfold gLtT at hg
  split at hg
  · split at hg
    · rename_i ns ms q1 q2
      cases hg
      cases hx with
      | tup h1 h2 =>
        cases hy with
        | tup g1 g2 =>
          have e1 := DVs.ints h2 q1
          have e2 := DVs.ints g2 q2
          subst e1 e2
          exact ⟨_, _, ns, ms, rfl, rfl, h1.sq, g1.sq, k _ H [] (.refl H) (.bl _) .nil⟩
    · cases hg
  · cases hg
end
/-! ### x.upper() -/
def gUpper : GL
  | [.str a] => if a.length ≤ 1000 then some (.str (Txt.upper a)) else none
  | _ => none
section
variable {X : Cx} {K : PySem.W.Frag} {own io : Nat → Bool}
theorem dm_upper : DM0 K (fun x xs H Q => ∃ a, x = V.str a ∧ xs = [] ∧ a.length ≤ 5592405 ∧ Q (V.str (Txt.upper a)) H) gUpper := by
  intro H x d Rx z Q hx hg k
  unfold gUpper at hg
  split at hg
  · rename_i q
    split at hg
    · cases q
      cases hg
      cases hx
      exact ⟨⟨_, rfl⟩, _, rfl, rfl, by omega, k _ H [] (.refl H) (.str _) .nil⟩
    · cases hg
  · cases hg
/-! ### return f(deck, x), x an owned name, f handing back a part of x -/
theorem fs_cIr {k j : Nat} {ps : List Str} {x : Str} {st : Stmt} {p0 pos pos' : Pos} {e e2 : Expr} {m : MI} {i i2 : Nat} (C : Callee X.prog X.w X.K X.mg X.base x st k ps (spIr X.K m)) (gd : X.A.guards = some []) (hr : Room j X.A) (hk : k ≤ j) (hg : Gl X x)
    (h0 : PE X e (tVar i)) (oj : own i = true) (h2 : PE X e2 (tVar i2)) (oi : own i2 = true) (ne : i ≠ i2) (ii : io i2 = false) (hdb : (x == ("__debug__" : Str)) = false := by decide) (he : starEach (e :: [e2]) X.env = (false, eval e X.env) :: starEach [e2] X.env := by rfl) (he2 : starEach (e2 :: []) X.env = (false, eval e2 X.env) :: starEach [] X.env := by rfl) (hpl : (backTo pos (starEach [e2] X.env)).any (·.1) = false := by rfl) :
    FS X own io (.Return (some (.Call (.Name x p0) [e, e2] [] pos)) pos') (gRet (fCallI m i (fCons (fN i2) fNil))) := by
  obtain ⟨f, fd, F, hm, hkp, hb, _⟩ := C.ex
  refine (ps_ret (pe_go (E := E0) F gd (hr.mono hk) hg hm hkp hb (pa_cons h0 (pa_cons h2 pa_nil he2) he) hdb he hpl)).conv fun D σ H ⟨ρ, F, r, k⟩ => ?_
  unfold gRet at k
  cases q : fCallI m i (fCons (fN i2) fNil) ρ with
  | none => rw [q] at k; exact k.elim
  | some y =>
    obtain ⟨d, ρ'⟩ := y
    rw [q] at k
    simp only at k
    unfold fCallI fCons fNil fN at q
    split at q
    · rename_i d00 e00
      obtain ⟨v0, hv0, q2⟩ := r.val i _ e00
      split at q
      · rename_i ds ρ1 ea
        split at ea
        · rename_i dx ρx ex
          simp only at ea
          cases ea
          split at ex
          · rename_i dx' e2'
            cases ex
            obtain ⟨v2, hv2, w2⟩ := r.val i2 _ e2'
            rw [e00] at q
            simp only at q
            split at q
            · rename_i rr o eg
              cases q
              have far : ∀ a ∈ F i2 ++ [], a ∉ F i := fun a ha m => r.dis i i2 ne oi a m (by simpa using ha)
              refine ⟨v0, hv0, v2, hv2, ?_⟩
              show spIr X.K m [v0, v2] H _ E0
              refine ⟨v0, [v2], d00, [_], F i, F i2 ++ [], _, o, rfl, q2, r.nod i oj, fun a m => r.mu i oj a m, .cons w2 .nil, far, eg, fun v H' R0' R' kp dm w0 nd0 mu0 wv sub => ?_⟩
              rw [List.append_nil] at sub
              obtain ⟨r2, s2⟩ := r.write oj hv0 kp dm w0 nd0 mu0
              refine k v σ H' _ R' r2 (.ofE s2) wv ⟨(r.nod i2 oi).sublist sub, fun a ha => ?_, .inr ⟨i2, oi, ii, by rw [setF_ne (Ne.symm ne)]; exact sub⟩⟩
              have z := r2.mu i2 oi a (by rw [setF_ne (Ne.symm ne)]; exact sub.subset ha)
              exact z
            · cases q
          · cases ex
        · cases ea
      · cases q
    · cases q
end
/-! ### an empty dict: repr, in a tuple of texts -/
section
variable {A : Around} {s : Shared}
theorem dict_eq_declines_str (l : Addr) (es : Array DictEntry) (n : Nat) (dd : Option Addr) (sl : Array (Option Value)) (b : Str) (u : Tok) :
    Meets (Builtin.«dict.__eq__» ⟨[.ref l, .str b u], []⟩) (fun _ R s => s.heap.get? l = some { cls := .type "dict", dict := dd, data := .dict es n, slots := sl } ∧ R (.ok (.ret .notImplemented)) s) :=
  .of_wp fun prog w A R s h => by obtain ⟨hp, g, d, tk, os⟩ := s; obtain ⟨hl, h⟩ := h; have f1 := F.sub_str_dict; wp_walk using AutoSeq1.wpAny_loadPart' hl, wpAny_load hl; exact ⟨_, rfl, h⟩
theorem str_eq_declines_dict (b : Str) (u : Tok) (l : Addr) (es : Array DictEntry) (n : Nat) (dd : Option Addr) (sl : Array (Option Value)) :
    Meets (Builtin.«str.__eq__» ⟨[.str b u, .ref l], []⟩) (fun _ R s => s.heap.get? l = some { cls := .type "dict", dict := dd, data := .dict es n, slots := sl } ∧ R (.ok (.ret .notImplemented)) s) :=
  .of_wp fun prog w A R s h => by obtain ⟨hp, g, d, tk, os⟩ := s; obtain ⟨hl, h⟩ := h; wp_walk using AutoSeq1.wpAny_loadPart' hl, wpAny_load hl; exact ⟨_, rfl, h⟩
theorem rcAt_str_dict {l : Addr} {o : Obj} {es : Array DictEntry} {n : Nat} (b : Str) (u : Tok) (hl : s.heap.get? l = some o) (hc : o.cls = .type "dict") (hd : o.data = .dict es n) (hu : A.units < cLine) : SeqAt.RcAt A s (.str b u) (.ref l) false := fun prog w E Q h => by
  obtain ⟨cls, dd, data, sl⟩ := o
  simp only at hc hd
  subst hc hd
  exact SeqAt.rc_eq_decline_or (k := false) (typeIs_str s b u) ⟨_, hl, rfl⟩ (by decide) F.sub_dict_str F.slot_str_eq F.slot_dict_eq_refl
    (fun _ hq => call_meets F.slot_str_eq (typeIs_str s b u) F.entry_str_eq (F.args_str_eq_2 _ _) (str_eq_declines_dict b u l es n dd sl) ⟨hl, hq⟩)
    (fun _ hq => call_meets F.slot_dict_eq_refl ⟨_, hl, rfl⟩ F.entry_dict_eq (F.args_dict_eq_2 _ _) (dict_eq_declines_str l es n dd sl b u) ⟨hl, hq⟩)
    (fun _ hq => wpAny_of_eq (rfl : isSame (.str b u) (.ref l) = pure false) hq) (.inr hu) h
theorem eqAt_str_dict {l : Addr} {o : Obj} {es : Array DictEntry} {n : Nat} (b : Str) (u : Tok) (hl : s.heap.get? l = some o) (hc : o.cls = .type "dict") (hd : o.data = .dict es n) (hu : A.units < cLine) : SeqAt.EqAt A s (.str b u) (.ref l) false := fun prog w E Q h => by
  unfold eqBool
  refine wpAny_holding ?_
  refine wpAny_ite_split (fun hab => absurd (eq_of_beq hab) nofun) (fun _ => ?_)
  exact wpAny_bind (rcAt_str_dict b u hl hc hd hu prog w E _ (wpAny_truthy_bool h))
end
section
variable {X : Cx} {K : PySem.W.Frag} {own : Nat → Bool}
def rInD (K : PySem.W.Frag) : R2 := fun x y H Q => ∃ (a b : Addr) (ts : List Str), x = .ref a ∧ H a = some (.dK []) ∧ y = .ref b ∧ SqT K H b (ts.map V.str) ∧ Q (.bl false) H
theorem op_inD (hu : X.A.units + 65 < cLine) : OpR X (compareOp .In) (rInD X.K) := by
  intro pins s σ H x y v u Q I rx ry ⟨a, b, ts, ex, ha, ey, hb, q⟩
  subst ex ey
  cases rx; cases ry
  obtain ⟨its, r1, p1, _⟩ := I.tuple hb
  obtain ⟨_, _, vs, kv, o, es, ep, e1, e2, e3, _⟩ := I.hok a _ ha
  refine SeqAt.in_tupleAt (fun _ => false) p1 (fun y hy => ?_) ?_
  · have : ∃ t, RelV (.str t) y := by
      have hy : y ∈ its := by simpa using hy
      obtain ⟨i, hi, e⟩ := List.mem_iff_getElem.mp hy
      obtain ⟨z, h1, h2⟩ := vals_back (i := i) (u := y) r1 (by rw [List.getElem?_eq_getElem hi, e])
      rw [List.getElem?_map] at h1
      cases q2 : ts[i]? with
      | none => rw [q2] at h1; cases h1
      | some t => rw [q2] at h1; cases h1; exact ⟨t, h2⟩
    obtain ⟨t, u, rfl⟩ := this
    exact eqAt_str_dict t u e1 e2.1 e3 (by show X.A.in1.units < cLine; have : X.A.in1.units = X.A.units + 1 := rfl; omega)
  · have e : its.toArray.any (fun _ => false) = false := by simp
    rw [e]
    exact ⟨.bl false, H, I, rfl, q⟩
def rInV (K : PySem.W.Frag) : R2 := rOr2 (rInU K false) (rInD K)
theorem op_inV (hu : X.A.units + 65 < cLine) : OpR X (compareOp .In) (rInV X.K) := (op_inU hu).or (op_inD hu)
def gInV : G2 := fun a b => match a, b with
  | .dict [], .tuple ds => match allS ds with
    | some _ => some (.bool false)
    | none => none
  | a, b => gIn a b
theorem dop_inV : DOp K (rInV K) gInV := by
  intro H x y d e Rx Ry z Q hx hy hg k
  unfold gInV at hg
  split at hg
  · rename_i ds
    split at hg
    · rename_i ts q
      cases hg
      cases hx with
      | dic h1 h2 h3 h4 =>
        rename_i kvs ds2 R2
        have h4' : ([] : List (PyData × PyData)) = (kvs.map fun p => kD p.1).zip ds2 := h4
        have e : kvs = [] := by
          have l := h2.length
          cases kvs with
          | nil => rfl
          | cons a b =>
            cases ds2 with
            | nil => simp at l
            | cons c dd => simp at h4'
        subst e
        cases hy with
        | tup g1 g2 =>
          have e1 := DVs.strs g2 q
          subst e1
          exact .inr ⟨_, _, ts, rfl, h1, rfl, g1.sq, k _ H [] (.refl H) (.bl _) .nil⟩
    · cases hg
  · exact .inl (dop_in H x y d e Rx Ry z Q hx hy hg k)
def rReprD : List V → Hp → VK → Prop := fun xs H Q => ∃ a, xs = [.ref a] ∧ H a = some (.dK []) ∧ Q (.str "{}") H
theorem call_reprD (gd : X.A.guards = some []) (hu : X.A.units + 68 < cLine) : CallR X (.builtin "repr") rReprD := by
  intro pins s σ H xs us Q I r ⟨a, ex, ha, q⟩
  subst ex
  obtain ⟨u, eu, rx⟩ := vals1 r
  subst eu
  cases rx
  obtain ⟨_, ns, vs, kv, o, es, ep, e1, e2, e3, e4, e5, _⟩ := I.hok a _ ha
  cases kv
  have e6 : es.toList = [] := by
    generalize es.toList = l at e5
    cases e5
    rfl
  have r1 : Reads s.heap (.ref a) (.dict []) (a :: [] ++ []) := .dict e1 e2.1 e3 (by rw [e6]; exact .nil) (by rw [e6]; exact .nil)
  refine repr_of_reads' r1 (by decide) (fun _ m => ?_) gd (by show X.A.units + (1 + 1) < cLine; omega) (fun _ _ e => e) (fun h' u tk hk => ?_) (by decide +kernel)
  · simp at m
    subst m
    simp at ns
  · exact ⟨.str _, H, I.kept (t' := tk) hk, ⟨u, rfl⟩, q⟩
def gReprV : GL
  | [.dict []] => some (.str "{}")
  | ds => gRepr ds
def rReprV (K : PySem.W.Frag) : List V → Hp → VK → Prop := rOrL (rRepr K) rReprD
theorem call_reprV (gd : X.A.guards = some []) (hu : X.A.units + 68 < cLine) : CallR X (.builtin "repr") (rReprV X.K) := (call_repr gd hu).or (call_reprD gd hu)
theorem dc_reprV : DCall K (rReprV K) gReprV := by
  intro H xs ds Rx z Q hx hg k
  unfold gReprV at hg
  split at hg
  · cases hg
    cases hx with
    | cons h t =>
      cases t
      cases h with
      | dic h1 h2 h3 h4 =>
        rename_i kvs ds2 R2
        have h4' : ([] : List (PyData × PyData)) = (kvs.map fun p => kD p.1).zip ds2 := h4
        have e : kvs = [] := by
          have l := h2.length
          cases kvs with
          | nil => rfl
          | cons a b =>
            cases ds2 with
            | nil => simp at l
            | cons c dd => simp at h4'
        subst e
        exact .inr ⟨_, rfl, h1, k _ H [] (.refl H) (.str _) .nil⟩
  · exact .inl (dc_repr H xs ds Rx z Q hx hg k)
end
section
variable {X : Cx} {own : Nat → Bool}
/-- what no way comes to -/
def fNo : FX := fun _ => none
theorem fe_no {c : Nat} {p : Bool} {e : Expr} : FE X own c p e fNo := ⟨fun pins s σ H Q I ⟨ρ, F, d, ρ', r, e1, _⟩ => by cases e1⟩
end
end FP
namespace FP
open PySem
/-! weakest preconditions of readings -/
def gt (ρ : EV) (i : Nat) (k : PyData → Prop) : Prop := match ρ[i]? with
  | some (some d) => k d
  | _ => False
theorem gt_z {d : PyData} {ρ : EV} {k : PyData → Prop} : gt (some d :: ρ) 0 k = k d := propext Iff.rfl
theorem gt_s {x : Option PyData} {ρ : EV} {i : Nat} {k : PyData → Prop} : gt (x :: ρ) (i + 1) k = gt ρ i k := by simp [gt]
def st (ρ : EV) (i : Nat) (d : PyData) : EV := ρ.set i (some d)
theorem st_z {d : PyData} {x : Option PyData} {ρ : EV} : st (x :: ρ) 0 d = some d :: ρ := rfl
theorem st_s {d : PyData} {x : Option PyData} {ρ : EV} {i : Nat} : st (x :: ρ) (i + 1) d = x :: st ρ i d := rfl
def wX (f : FX) (ρ : EV) (Q : PyData → EV → Prop) : Prop := match f ρ with
  | some (d, ρ1) => Q d ρ1
  | none => False
def wB (f : FB) (ρ : EV) (Q : Bool → EV → Prop) : Prop := match f ρ with
  | some (d, ρ1) => Q d ρ1
  | none => False
def wL (f : FL) (ρ : EV) (Q : List PyData → EV → Prop) : Prop := match f ρ with
  | some (d, ρ1) => Q d ρ1
  | none => False
def wIt (f : FIt) (ρ : EV) (Q : List PyData → EV → Prop) : Prop := match f ρ with
  | some (d, ρ1) => Q d ρ1
  | none => False
def wP (f : FP') (ρ : EV) (Q : Option Int → EV → Prop) : Prop := match f ρ with
  | some (d, ρ1) => Q d ρ1
  | none => False
def wO (o : Option PyData) (Q : PyData → Prop) : Prop := match o with
  | some d => Q d
  | none => False
def wG (m : GL) (ds : List PyData) (Q : PyData → Prop) : Prop := wO (m ds) Q
def w2 (g : G2) (x y : PyData) (Q : PyData → Prop) : Prop := wO (g x y) Q
def wI (m : MI) (d : PyData) (ds : List PyData) (Q : PyData → PyData → Prop) : Prop := match m d ds with
  | some (r, o) => Q r o
  | none => False
def wS (g : FSt) (ρ : EV) (N : EV → Prop) (R : PyData → EV → Prop) (B C : EV → Prop) : Prop := match g ρ with
  | .nx ρ1 => N ρ1
  | .rt d ρ1 => R d ρ1
  | .bk ρ1 => B ρ1
  | .ct ρ1 => C ρ1
  | .no => False
def wT (h : FTg) (d : PyData) (ρ : EV) (Q : EV → Prop) : Prop := match h d ρ with
  | some ρ1 => Q ρ1
  | none => False
def wTs (h : FTgs) (ds : List PyData) (ρ : EV) (Q : EV → Prop) : Prop := match h ds ρ with
  | some ρ1 => Q ρ1
  | none => False
def wIf (b : Bool) (P Q : Prop) : Prop := match b with
  | true => P
  | false => Q
theorem wIf_t {P Q : Prop} : wIf true P Q = P := propext Iff.rfl
theorem wIf_f {P Q : Prop} : wIf false P Q = Q := propext Iff.rfl
section
variable {ρ : EV} {Q : PyData → EV → Prop} {QL : List PyData → EV → Prop} {QB : Bool → EV → Prop} {N : EV → Prop} {R : PyData → EV → Prop} {B C : EV → Prop} {QT : EV → Prop} {QO : PyData → Prop}
theorem wX_C {d : PyData} : wX (fC d) ρ Q = Q d ρ := propext Iff.rfl
theorem wX_N {i : Nat} : wX (fN i) ρ Q = gt ρ i fun d => Q d ρ := by
  unfold wX fN gt
  rcases ρ[i]? with _ | _ | d <;> rfl
theorem wX_bin {g : G2} {fa fb : FX} : wX (fBin g fa fb) ρ Q = wX fa ρ fun x ρ1 => wX fb ρ1 fun y ρ2 => w2 g x y fun z => Q z ρ2 := by
  unfold wX w2 wO fBin
  rcases fa ρ with _ | ⟨x, ρ1⟩
  · rfl
  simp only []
  rcases fb ρ1 with _ | ⟨y, ρ2⟩
  · rfl
  simp only []
  cases g x y <;> rfl
theorem wX_binN {g : G2} {i : Nat} {fb : FX} : wX (fBinN g i fb) ρ Q = gt ρ i fun _ => wX fb ρ fun y ρ2 => gt ρ2 i fun x => w2 g x y fun z => Q z ρ2 := by
  unfold wX w2 wO fBinN gt
  rcases hq : ρ[i]? with _ | _ | u
  · rfl
  · rfl
  simp only []
  rcases fb ρ with _ | ⟨y, ρ2⟩
  · rfl
  simp only []
  rcases hq2 : ρ2[i]? with _ | _ | x
  · rfl
  · rfl
  simp only []
  cases g x y <;> rfl
theorem wL_nil : wL fNil ρ QL = QL [] ρ := propext Iff.rfl
theorem wL_cons {fa : FX} {fs : FL} : wL (fCons fa fs) ρ QL = wX fa ρ fun x ρ1 => wL fs ρ1 fun xs ρ2 => QL (x :: xs) ρ2 := by
  unfold wX wL fCons
  rcases fa ρ with _ | ⟨x, ρ1⟩
  · rfl
  simp only []
  rcases fs ρ1 with _ | ⟨xs, ρ2⟩ <;> rfl
theorem wX_tup {fs : FL} : wX (fTup fs) ρ Q = wL fs ρ fun xs ρ1 => xs.length ≤ 1000 ∧ Q (.tuple xs) ρ1 := by
  unfold wX wL fTup
  rcases fs ρ with _ | ⟨xs, ρ1⟩
  · rfl
  simp only []
  by_cases h : xs.length ≤ 1000
  · rw [if_pos h]; simp only [h, true_and]
  · rw [if_neg h]; simp only [h, false_and]
theorem wX_lst {fs : FL} : wX (fLst fs) ρ Q = wL fs ρ fun xs ρ1 => xs.length ≤ 1000 ∧ Q (.list xs) ρ1 := by
  unfold wX wL fLst
  rcases fs ρ with _ | ⟨xs, ρ1⟩
  · rfl
  simp only []
  by_cases h : xs.length ≤ 1000
  · rw [if_pos h]; simp only [h, true_and]
  · rw [if_neg h]; simp only [h, false_and]
theorem wX_imm {f : FX} : wX (fImm f) ρ Q = wX f ρ fun d ρ1 => imm d = true ∧ Q d ρ1 := by
  unfold wX fImm
  rcases f ρ with _ | ⟨d, ρ1⟩
  · rfl
  simp only []
  by_cases h : imm d = true
  · rw [if_pos h]; simp only [h, true_and]
  · rw [if_neg h]; simp only [h, false_and, Bool.false_eq_true]
theorem wX_b {g : GL} {fs : FL} : wX (fB g fs) ρ Q = wL fs ρ fun xs ρ1 => wG g xs fun z => Q z ρ1 := by
  unfold wX wL wG wO fB
  rcases fs ρ with _ | ⟨xs, ρ1⟩
  · rfl
  simp only []
  cases g xs <;> rfl
theorem wX_call {m : GL} {fs : FL} : wX (fCall m fs) ρ Q = wL fs ρ fun xs ρ1 => wG m xs fun z => Q z ρ1 := by
  unfold wX wL wG wO fCall
  rcases fs ρ with _ | ⟨xs, ρ1⟩
  · rfl
  simp only []
  cases m xs <;> rfl
theorem wX_callN {m : GL} {ix : List Nat} {n : Nat} {fs : FL} : wX (fCallN m ix n fs) ρ Q = wL fs ρ fun xs ρ1 => xs.length = n ∧ wG m (atL ix xs) fun z => Q z ρ1 := by
  unfold wX wL wG wO fCallN
  rcases fs ρ with _ | ⟨xs, ρ1⟩
  · rfl
  simp only []
  by_cases h : xs.length = n
  · rw [if_pos h]; simp only [h, true_and]
    cases m (atL ix xs) <;> rfl
  · rw [if_neg h]; simp only [h, false_and]
theorem wX_callI {m : MI} {j : Nat} {fs : FL} : wX (fCallI m j fs) ρ Q = gt ρ j fun _ => wL fs ρ fun ds ρ1 => gt ρ1 j fun d0 => wI m d0 ds fun r o => Q r (st ρ1 j o) := by
  unfold wX wL wI fCallI gt
  rcases hq : ρ[j]? with _ | _ | u
  · rfl
  · rfl
  simp only []
  rcases fs ρ with _ | ⟨y, ρ2⟩
  · rfl
  simp only []
  rcases hq2 : ρ2[j]? with _ | _ | x
  · rfl
  · rfl
  simp only []
  rcases m x y with _ | ⟨r, o⟩ <;> rfl
theorem wX_isi {g : PyData → Bool} {f : FX} : wX (fIsi g f) ρ Q = wX f ρ fun d ρ1 => Q (.bool (g d)) ρ1 := by
  unfold wX fIsi
  rcases f ρ with _ | ⟨d, ρ1⟩ <;> rfl
def asB (d : PyData) (k : Bool → Prop) : Prop := match d with
  | .bool b => k b
  | _ => False
theorem asB_b {b : Bool} {k : Bool → Prop} : asB (.bool b) k = k b := propext Iff.rfl
theorem wX_and {f g : FX} : wX (fAnd f g) ρ Q = wX f ρ fun d ρ1 => asB d fun b => wIf b (wX g ρ1 Q) (Q (.bool false) ρ1) := by
  unfold wX fAnd
  rcases f ρ with _ | ⟨d, ρ1⟩
  · rfl
  cases d <;> try rfl
  rename_i b; cases b <;> rfl
theorem wX_or {f g : FX} : wX (fOr f g) ρ Q = wX f ρ fun d ρ1 => asB d fun b => wIf b (Q (.bool true) ρ1) (wX g ρ1 Q) := by
  unfold wX fOr
  rcases f ρ with _ | ⟨d, ρ1⟩
  · rfl
  cases d <;> try rfl
  rename_i b; cases b <;> rfl
theorem wX_not {f : FX} : wX (fNot f) ρ Q = wX f ρ fun d ρ1 => asB d fun b => Q (.bool (!b)) ρ1 := by
  unfold wX fNot
  rcases f ρ with _ | ⟨d, ρ1⟩
  · rfl
  cases d <;> rfl
theorem wX_if {t : FB} {f g : FX} : wX (fIf t f g) ρ Q = wB t ρ fun b ρ1 => wIf b (wX f ρ1 Q) (wX g ρ1 Q) := by
  unfold wX wB fIf
  rcases t ρ with _ | ⟨b, ρ1⟩
  · rfl
  cases b <;> rfl
theorem wX_neg {f : FX} : wX (gNeg f) ρ Q = wX f ρ fun d ρ1 => match d with
    | .int i => Q (.int (-i)) ρ1
    | _ => False := by
  unfold wX gNeg
  rcases f ρ with _ | ⟨d, ρ1⟩
  · rfl
  cases d <;> rfl
/-! tests -/
theorem wB_tb {f : FX} : wB (fTB f) ρ QB = wX f ρ fun d ρ1 => asB d fun b => QB b ρ1 := by
  unfold wX wB fTB
  rcases f ρ with _ | ⟨d, ρ1⟩
  · rfl
  cases d <;> rfl
def asT (d : PyData) (k : Bool → Prop) : Prop := match gTru d with
  | some b => k b
  | none => False
theorem asT_b {b : Bool} {k : Bool → Prop} : asT (.bool b) k = k b := propext Iff.rfl
theorem wB_tru {f : FX} : wB (fTru f) ρ QB = wX f ρ fun d ρ1 => asT d fun b => QB b ρ1 := by
  unfold wX wB fTru asT
  rcases f ρ with _ | ⟨d, ρ1⟩
  · rfl
  simp only []
  cases gTru d <;> rfl
theorem wB_not {t : FB} : wB (fTNot t) ρ QB = wB t ρ fun b ρ1 => QB (!b) ρ1 := by
  unfold wB fTNot
  rcases t ρ with _ | ⟨d, ρ1⟩ <;> rfl
theorem wB_and {t u : FB} : wB (fTAnd t u) ρ QB = wB t ρ fun b ρ1 => wIf b (wB u ρ1 QB) (QB false ρ1) := by
  unfold wB fTAnd
  rcases t ρ with _ | ⟨b, ρ1⟩
  · rfl
  cases b <;> rfl
theorem wB_or {t u : FB} : wB (fTOr t u) ρ QB = wB t ρ fun b ρ1 => wIf b (QB true ρ1) (wB u ρ1 QB) := by
  unfold wB fTOr
  rcases t ρ with _ | ⟨b, ρ1⟩
  · rfl
  cases b <;> rfl
theorem wB_yes : wB fYes ρ QB = QB true ρ := propext Iff.rfl
/-! slices -/
theorem wP_no {Q : Option Int → EV → Prop} : wP fNoP ρ Q = Q none ρ := propext Iff.rfl
def asI (d : PyData) (k : Int → Prop) : Prop := match d with
  | .int b => k b
  | _ => False
theorem asI_i {b : Int} {k : Int → Prop} : asI (.int b) k = k b := propext Iff.rfl
theorem wP_part {f : FX} {Q : Option Int → EV → Prop} : wP (fPart f) ρ Q = wX f ρ fun d ρ1 => asI d fun i => Q (some i) ρ1 := by
  unfold wX wP fPart
  rcases f ρ with _ | ⟨d, ρ1⟩
  · rfl
  cases d <;> rfl
def w3 (g : G3) (x : PyData) (lo hi : Option Int) (Q : PyData → Prop) : Prop := wO (g x lo hi) Q
theorem wX_sl {g : G3} {f : FX} {l h : FP'} : wX (fSl g f l h) ρ Q = wX f ρ fun x ρ1 => wP l ρ1 fun lo ρ2 => wP h ρ2 fun hi ρ3 => w3 g x lo hi fun z => Q z ρ3 := by
  unfold wX wP w3 wO fSl
  rcases f ρ with _ | ⟨x, ρ1⟩
  · rfl
  simp only []
  rcases l ρ1 with _ | ⟨lo, ρ2⟩
  · rfl
  simp only []
  rcases h ρ2 with _ | ⟨hi, ρ3⟩
  · rfl
  simp only []
  cases g x lo hi <;> rfl
/-! statements -/
theorem wS_nil : wS gNil ρ N R B C = N ρ := propext Iff.rfl
theorem wS_pass : wS gPass ρ N R B C = N ρ := propext Iff.rfl
theorem wS_break : wS gBreak ρ N R B C = B ρ := propext Iff.rfl
theorem wS_cont : wS gCont ρ N R B C = C ρ := propext Iff.rfl
theorem wS_no : wS gNo ρ N R B C = False := propext Iff.rfl
theorem wS_seq {g h : FSt} : wS (gSeq g h) ρ N R B C = wS g ρ (fun ρ1 => wS h ρ1 N R B C) R B C := by
  unfold wS gSeq
  cases g ρ <;> rfl
theorem wS_drop {f : FX} : wS (gDrop f) ρ N R B C = wX f ρ fun _ ρ1 => N ρ1 := by
  unfold wS wX gDrop
  rcases f ρ with _ | ⟨d, ρ1⟩ <;> rfl
theorem wS_ret {f : FX} : wS (gRet f) ρ N R B C = wX f ρ R := by
  unfold wS wX gRet
  rcases f ρ with _ | ⟨d, ρ1⟩ <;> rfl
theorem wS_retN : wS gRetN ρ N R B C = R .none ρ := propext Iff.rfl
theorem wS_if {t : FB} {g h : FSt} : wS (gIf t g h) ρ N R B C = wB t ρ fun b ρ1 => wIf b (wS g ρ1 N R B C) (wS h ρ1 N R B C) := by
  unfold wS wB gIf
  rcases t ρ with _ | ⟨b, ρ1⟩
  · rfl
  cases b <;> rfl
/-- a slot is there -/
def inn (ρ : EV) (i : Nat) : Prop := i < ρ.length
theorem inn_z {x : Option PyData} {ρ : EV} : inn (x :: ρ) 0 = True := by simp [inn]
theorem inn_s {x : Option PyData} {ρ : EV} {i : Nat} : inn (x :: ρ) (i + 1) = inn ρ i := by simp [inn]
theorem wS_set {i : Nat} {f : FX} : wS (gSet i f) ρ N R B C = wX f ρ fun d ρ1 => inn ρ1 i ∧ N (st ρ1 i d) := by
  unfold wS wX gSet inn st
  rcases f ρ with _ | ⟨d, ρ1⟩
  · rfl
  simp only []
  by_cases h : i < ρ1.length
  · rw [if_pos h]; simp only [h, true_and]
  · rw [if_neg h]; simp only [h, false_and]
theorem wT_name {i : Nat} {d : PyData} : wT (hName i) d ρ QT = (inn ρ i ∧ QT (st ρ i d)) := by
  unfold wT hName inn st
  by_cases h : i < ρ.length
  · rw [if_pos h]; simp only [h, true_and]
  · rw [if_neg h]; simp only [h, false_and]
theorem wTs_nil : wTs hNil [] ρ QT = QT ρ := propext Iff.rfl
theorem wTs_cons {h : FTg} {hs : FTgs} {d : PyData} {ds : List PyData} : wTs (hCons h hs) (d :: ds) ρ QT = wT h d ρ fun ρ1 => wTs hs ds ρ1 QT := by
  unfold wTs wT hCons
  simp only []
  cases h d ρ <;> rfl
theorem wT_tup {hs : FTgs} {ds : List PyData} : wT (hTup hs) (.tuple ds) ρ QT = wTs hs ds ρ QT := by
  unfold wTs wT hTup; rfl
theorem wS_asg {f : FX} {h : FTg} : wS (gAsg f h) ρ N R B C = wX f ρ fun d ρ1 => wT h d ρ1 N := by
  unfold wS wX wT gAsg
  rcases f ρ with _ | ⟨d, ρ1⟩
  · rfl
  simp only []
  cases h d ρ1 <;> rfl
theorem wS_par {i j : Nat} {fs : FL} : wS (gPar i j fs) ρ N R B C = wL fs ρ fun ds ρ1 => match ds with
    | [x, y] => inn ρ1 i ∧ inn ρ1 j ∧ N (st (st ρ1 i x) j y)
    | _ => False := by
  unfold wS wL gPar inn st
  rcases fs ρ with _ | ⟨ds, ρ1⟩
  · rfl
  rcases ds with _ | ⟨x, _ | ⟨y, _ | ⟨z, r⟩⟩⟩
  · rfl
  · rfl
  · simp only []
    by_cases h : i < ρ1.length ∧ j < ρ1.length
    · rw [if_pos h]; simp only [h.1, h.2, true_and]
    · rw [if_neg h]
      exact propext ⟨False.elim, fun z => h ⟨z.1, z.2.1⟩⟩
  · rfl
/-! loops -/
def wLoop (h : FTg) (g : FSt) (ds : List PyData) (ρ : EV) (N : EV → Prop) (R : PyData → EV → Prop) : Prop := wS (loopF h g ds) ρ N R (fun _ => False) (fun _ => False)
theorem loopF_nbc {h : FTg} {g : FSt} : ∀ (ds : List PyData) (ρ : EV), (∀ ρ1, loopF h g ds ρ ≠ .bk ρ1) ∧ ∀ ρ1, loopF h g ds ρ ≠ .ct ρ1
  | [], ρ => ⟨fun _ => nofun, fun _ => nofun⟩
  | d :: ds, ρ => by
    simp only [loopF]
    cases h d ρ with
    | none => exact ⟨fun _ => nofun, fun _ => nofun⟩
    | some ρ1 =>
      simp only []
      cases g ρ1 with
      | nx ρ2 => exact loopF_nbc ds ρ2
      | ct ρ2 => exact loopF_nbc ds ρ2
      | bk ρ2 => exact ⟨fun _ => nofun, fun _ => nofun⟩
      | rt d ρ2 => exact ⟨fun _ => nofun, fun _ => nofun⟩
      | no => exact ⟨fun _ => nofun, fun _ => nofun⟩
theorem wS_for {f : FIt} {h : FTg} {g : FSt} : wS (gFor f h g) ρ N R B C = wIt f ρ fun ds ρ1 => wLoop h g ds ρ1 N R := by
  unfold wLoop wS wIt gFor
  rcases f ρ with _ | ⟨ds, ρ1⟩
  · rfl
  simp only []
  have := loopF_nbc (h := h) (g := g) ds ρ1
  cases hq : loopF h g ds ρ1 with
  | nx ρ2 => rfl
  | ct ρ2 => exact absurd hq (this.2 _)
  | bk ρ2 => exact absurd hq (this.1 _)
  | rt d ρ2 => rfl
  | no => rfl
theorem wLoop_nil {h : FTg} {g : FSt} : wLoop h g [] ρ N R = N ρ := propext Iff.rfl
theorem wLoop_cons {h : FTg} {g : FSt} {d : PyData} {ds : List PyData} : wLoop h g (d :: ds) ρ N R = wT h d ρ fun ρ1 => wS g ρ1 (fun ρ2 => wLoop h g ds ρ2 N R) R N (fun ρ2 => wLoop h g ds ρ2 N R) := by
  unfold wLoop wT
  conv => lhs; unfold wS loopF
  cases h d ρ with
  | none => rfl
  | some ρ1 =>
    simp only []
    unfold wS
    cases g ρ1 <;> rfl
theorem wS_mono {g : FSt} {N' : EV → Prop} {R' : PyData → EV → Prop} {B' C' : EV → Prop} (w : wS g ρ N R B C) (n : ∀ ρ, N ρ → N' ρ) (r : ∀ d ρ, R d ρ → R' d ρ) (b : ∀ ρ, B ρ → B' ρ) (c : ∀ ρ, C ρ → C' ρ) : wS g ρ N' R' B' C' := by
  unfold wS at *
  cases hq : g ρ <;> rw [hq] at w
  · exact n _ w
  · exact r _ _ w
  · exact b _ w
  · exact c _ w
  · exact w
theorem wT_mono {h : FTg} {d : PyData} {QT' : EV → Prop} (w : wT h d ρ QT) (n : ∀ ρ, QT ρ → QT' ρ) : wT h d ρ QT' := by
  unfold wT at *
  cases hq : h d ρ <;> rw [hq] at w
  · exact w
  · exact n _ w
/-- a loop by what holds ahead of each turn -/
theorem wLoop_inv {h : FTg} {g : FSt} (I : Nat → EV → Prop) : ∀ (ds : List PyData) (k : Nat) (ρ : EV), I k ρ →
    (∀ i (hi : i < ds.length) ρ, I (k + i) ρ → wT h ds[i] ρ fun ρ1 => wS g ρ1 (I (k + i + 1)) R N (I (k + i + 1))) → (∀ ρ, I (k + ds.length) ρ → N ρ) → wLoop h g ds ρ N R
  | [], k, ρ, h0, _, hn => by
    rw [wLoop_nil]; exact hn ρ (by simpa using h0)
  | d :: ds, k, ρ, h0, hs, hn => by
    rw [wLoop_cons]
    have go : ∀ ρ2, I (k + 1) ρ2 → wLoop h g ds ρ2 N R := fun ρ2 h2 => wLoop_inv I ds (k + 1) ρ2 h2
      (fun i hi ρ hI => by
        have := hs (i + 1) (by simpa using hi) ρ (by rw [show k + (i + 1) = k + 1 + i by omega]; exact hI)
        simp only [List.getElem_cons_succ, show k + (i + 1) = k + 1 + i by omega] at this
        exact this) fun ρ hI => hn ρ (by rw [List.length_cons, show k + (ds.length + 1) = k + 1 + ds.length by omega]; exact hI)
    have := hs 0 (by simp) ρ (by simpa using h0)
    simp only [List.getElem_cons_zero, Nat.add_zero] at this
    exact wT_mono this fun ρ1 w => wS_mono w go (fun _ _ r => r) (fun _ b => b) go
theorem wLoop_inv0 {h : FTg} {g : FSt} {ds : List PyData} (I : Nat → EV → Prop) (h0 : I 0 ρ)
    (hs : ∀ i (hi : i < ds.length) ρ, I i ρ → wT h ds[i] ρ fun ρ1 => wS g ρ1 (I (i + 1)) R N (I (i + 1))) (hn : ∀ ρ, I ds.length ρ → N ρ) : wLoop h g ds ρ N R :=
  wLoop_inv I ds 0 ρ h0 (fun i hi ρ hI => by
    have := hs i hi ρ (by simpa using hI)
    simpa using this) fun ρ hI => hn ρ (by simpa using hI)
/-- a while by a measure -/
theorem wWhile {t : FB} {g : FSt} (I : Nat → EV → Prop) : ∀ (fuel k : Nat) (ρ : EV), k < fuel → I k ρ →
    (∀ k ρ, I k ρ → wB t ρ fun b ρ1 => wIf b (wS g ρ1 (fun ρ2 => ∃ j, j < k ∧ I j ρ2) R N (fun ρ2 => ∃ j, j < k ∧ I j ρ2)) (N ρ1)) → wS (loopW t g fuel) ρ N R B C
  | 0, k, ρ, hk, _, _ => absurd hk (Nat.not_lt_zero _)
  | fuel + 1, k, ρ, hk, h0, hs => by
    have h := hs k ρ h0
    unfold wS loopW
    unfold wB at h
    rcases hq : t ρ with _ | ⟨b, ρ1⟩ <;> rw [hq] at h
    · exact h
    · cases b with
      | false => exact h
      | true =>
        simp only [wIf] at h
        simp only []
        unfold wS at h
        cases hg : g ρ1 with
        | nx ρ2 =>
          rw [hg] at h
          obtain ⟨j, hj, hI⟩ := h
          exact wWhile I fuel j ρ2 (by omega) hI hs
        | ct ρ2 =>
          rw [hg] at h
          obtain ⟨j, hj, hI⟩ := h
          exact wWhile I fuel j ρ2 (by omega) hI hs
        | bk ρ2 => rw [hg] at h; exact h
        | rt d ρ2 => rw [hg] at h; exact h
        | no => rw [hg] at h; exact h
/-! what is walked -/
def asQ (d : PyData) (k : List PyData → Prop) : Prop := match seqOf d with
  | some ds => k ds
  | none => False
theorem asQ_l {ds : List PyData} {k : List PyData → Prop} : asQ (.list ds) k = k ds := propext Iff.rfl
theorem asQ_t {ds : List PyData} {k : List PyData → Prop} : asQ (.tuple ds) k = k ds := propext Iff.rfl
theorem wIt_seq {f : FX} : wIt (fSeq f) ρ QL = wX f ρ fun d ρ1 => asQ d fun ds => QL ds ρ1 := by
  unfold wIt wX fSeq
  rcases f ρ with _ | ⟨d, ρ1⟩
  · rfl
  cases d <;> rfl
theorem wIt_seqI {f : FX} : wIt (fSeqI f) ρ QL = wX f ρ fun d ρ1 => asQ d fun ds => imms ds = true ∧ QL ds ρ1 := by
  unfold wIt wX fSeqI asQ seqOf
  rcases f ρ with _ | ⟨d, ρ1⟩
  · rfl
  cases d <;> try rfl
  all_goals
    rename_i ds
    simp only []
    by_cases h : imms ds = true
    · rw [if_pos h]; simp only [h, true_and]
    · rw [if_neg h]; simp only [h, false_and, Bool.false_eq_true]
theorem wIt_range1 {fs : FL} : wIt (fRange1 fs) ρ QL = wL fs ρ fun ds ρ1 => match ds with
    | [.int j] => (-1000000 ≤ j ∧ j ≤ 1000000) ∧ QL (intsF 0 j.toNat) ρ1
    | _ => False := by
  unfold wIt wL fRange1
  rcases fs ρ with _ | ⟨ds, ρ1⟩
  · rfl
  rcases ds with _ | ⟨d, _ | ⟨e, r⟩⟩
  · rfl
  · cases d <;> try rfl
    rename_i j
    simp only [Bool.and_eq_true, decide_eq_true_eq]
    by_cases h : -1000000 ≤ j ∧ j ≤ 1000000
    · rw [if_pos h]; simp only [h, true_and, and_self]
    · rw [if_neg h]; simp only [h, false_and]
  · cases d <;> rfl
theorem wIt_range2 {fs : FL} : wIt (fRange2 fs) ρ QL = wL fs ρ fun ds ρ1 => match ds with
    | [.int i, .int j] => (-1000000 ≤ i ∧ i ≤ 1000000 ∧ -1000000 ≤ j ∧ j ≤ 1000000) ∧ QL (intsF i (j - i).toNat) ρ1
    | _ => False := by
  unfold wIt wL fRange2
  rcases fs ρ with _ | ⟨ds, ρ1⟩
  · rfl
  rcases ds with _ | ⟨d, _ | ⟨e, _ | ⟨u, r⟩⟩⟩
  · rfl
  · cases d <;> rfl
  · cases d <;> try rfl
    cases e <;> try rfl
    rename_i i j
    simp only [Bool.and_eq_true, decide_eq_true_eq]
    by_cases h : ((-1000000 ≤ i ∧ i ≤ 1000000) ∧ -1000000 ≤ j) ∧ j ≤ 1000000
    · simp only [if_pos h]; simp only [h, and_self, true_and]
    · simp only [if_neg h]
      exact propext ⟨False.elim, fun z => h ⟨⟨⟨z.1.1, z.1.2.1⟩, z.1.2.2.1⟩, z.1.2.2.2⟩⟩
  · cases d <;> try rfl
    cases e <;> rfl
theorem wIt_enum {f : FX} : wIt (fEnum f) ρ QL = wX f ρ fun d ρ1 => asQ d fun ds => QL (enumD ds) ρ1 := by
  unfold wIt wX fEnum asQ
  rcases f ρ with _ | ⟨d, ρ1⟩
  · rfl
  simp only []
  cases seqOf d <;> rfl
theorem wIt_zip {fs : FL} : wIt (fZip fs) ρ QL = wL fs ρ fun ds ρ1 => match ds with
    | [a, b] => asQ a fun xs => asQ b fun ys => QL (pairsD xs ys) ρ1
    | _ => False := by
  unfold wIt wL fZip asQ
  rcases fs ρ with _ | ⟨ds, ρ1⟩
  · rfl
  rcases ds with _ | ⟨d, _ | ⟨e, _ | ⟨u, r⟩⟩⟩ <;> try rfl
  simp only []
  cases seqOf d <;> cases seqOf e <;> rfl
/-! comprehensions -/
def wC (vs : List Nat) (h : FTg) (t : FB) (f : FX) (ds : List PyData) (ρ : EV) (QL : List PyData → EV → Prop) : Prop := match loopC vs h t f ds ρ with
  | some (ys, ρ1) => QL ys ρ1
  | none => False
theorem wX_lc {vs : List Nat} {it : FIt} {h : FTg} {t : FB} {f : FX} : wX (fLc vs it h t f) ρ Q = wIt it ρ fun ds ρ1 => ds.length ≤ 1000000 ∧ wC vs h t f ds ρ1 fun ys ρ2 => Q (.list ys) (back ρ1 ρ2 vs) := by
  unfold wX wIt wC fLc
  rcases it ρ with _ | ⟨ds, ρ1⟩
  · rfl
  simp only []
  by_cases hl : ds.length ≤ 1000000
  · rw [if_pos hl]; simp only [hl, true_and]
    rcases loopC vs h t f ds ρ1 with _ | ⟨ys, ρ2⟩ <;> rfl
  · rw [if_neg hl]; simp only [hl, false_and]
theorem wC_nil {vs : List Nat} {h : FTg} {t : FB} {f : FX} : wC vs h t f [] ρ QL = QL [] ρ := propext Iff.rfl
theorem wC_cons {vs : List Nat} {h : FTg} {t : FB} {f : FX} {d : PyData} {ds : List PyData} : wC vs h t f (d :: ds) ρ QL = wT h d (wipeE ρ vs) fun ρ1 => wB t ρ1 fun b ρ2 =>
    wIf b (wX f ρ2 fun y ρ3 => wC vs h t f ds ρ3 fun ys ρ4 => QL (y :: ys) ρ4) (wC vs h t f ds ρ2 QL) := by
  unfold wC wT wB wX
  conv => lhs; unfold loopC
  cases h d (wipeE ρ vs) with
  | none => rfl
  | some ρ1 =>
    simp only []
    rcases t ρ1 with _ | ⟨b, ρ2⟩
    · rfl
    cases b with
    | false => rfl
    | true =>
      simp only [wIf]
      rcases f ρ2 with _ | ⟨y, ρ3⟩
      · rfl
      simp only []
      rcases loopC vs h t f ds ρ3 with _ | ⟨ys, ρ4⟩ <;> rfl
theorem wX_mono {f : FX} {Q' : PyData → EV → Prop} (w : wX f ρ Q) (k : ∀ d ρ, Q d ρ → Q' d ρ) : wX f ρ Q' := by
  unfold wX at *
  rcases hq : f ρ with _ | ⟨x, ρ1⟩ <;> rw [hq] at w
  · exact w
  · exact k _ _ w
theorem wB_mono {f : FB} {Q' : Bool → EV → Prop} (w : wB f ρ QB) (k : ∀ d ρ, QB d ρ → Q' d ρ) : wB f ρ Q' := by
  unfold wB at *
  rcases hq : f ρ with _ | ⟨x, ρ1⟩ <;> rw [hq] at w
  · exact w
  · exact k _ _ w
theorem wIf_mono {b : Bool} {P P' S S' : Prop} (w : wIf b P S) (p : P → P') (s : S → S') : wIf b P' S' := by
  cases b
  · exact s w
  · exact p w
/-- a comprehension by what holds ahead of each turn, and what each item is -/
theorem wC_inv {vs : List Nat} {h : FTg} {t : FB} {f : FX} (I : EV → Prop) (J : PyData → Prop) : ∀ (ds : List PyData) (ρ : EV) (QL : List PyData → EV → Prop), I (wipeE ρ vs) →
    (∀ d ∈ ds, ∀ ρ, I ρ → wT h d ρ fun ρ1 => wB t ρ1 fun b ρ2 => wIf b (wX f ρ2 fun y ρ3 => J y ∧ I (wipeE ρ3 vs)) (I (wipeE ρ2 vs))) →
    (∀ ys ρ', ys.length ≤ ds.length → (∀ y ∈ ys, J y) → I (wipeE ρ' vs) → QL ys ρ') → wC vs h t f ds ρ QL
  | [], ρ, QL, h0, _, hn => by rw [wC_nil]; exact hn [] ρ (Nat.le_refl _) (fun _ z => nomatch z) h0
  | d :: ds, ρ, QL, h0, hs, hn => by
    rw [wC_cons]
    refine wT_mono (hs d (List.mem_cons_self) _ h0) fun ρ1 w => wB_mono w fun b ρ2 w => wIf_mono w (fun w => wX_mono w fun y ρ3 ⟨hy, hI⟩ => ?_) fun hI => ?_
    · exact wC_inv I J ds ρ3 _ hI (fun d hd => hs d (List.mem_cons_of_mem _ hd)) fun ys ρ' hl hj hI => hn (y :: ys) ρ' (by simp; omega) (fun z hz => by
        rcases List.mem_cons.mp hz with rfl | hz
        · exact hy
        · exact hj z hz) hI
    · exact wC_inv I J ds ρ2 _ hI (fun d hd => hs d (List.mem_cons_of_mem _ hd)) fun ys ρ' hl hj hI => hn ys ρ' (by simp; omega) hj hI
/-- a comprehension that changes nothing -/
theorem wC_pure {vs : List Nat} {h : FTg} {t : FB} {f : FX} (b : PyData → Bool) (F : PyData → PyData) : ∀ (ds : List PyData) (ρ ρ0 : EV) (QL : List PyData → EV → Prop), wipeE ρ vs = ρ0 →
    (∀ d ∈ ds, wT h d ρ0 fun ρ1 => wB t ρ1 fun c ρ2 => c = b d ∧ (b d = true → wX f ρ2 fun y ρ3 => y = F d ∧ wipeE ρ3 vs = ρ0) ∧ (b d = false → wipeE ρ2 vs = ρ0)) →
    (∀ ρ', wipeE ρ' vs = ρ0 → QL ((ds.filter b).map F) ρ') → wC vs h t f ds ρ QL
  | [], ρ, ρ0, QL, h0, _, hn => by rw [wC_nil]; exact hn ρ h0
  | d :: ds, ρ, ρ0, QL, h0, hs, hn => by
    rw [wC_cons, h0]
    refine wT_mono (hs d (List.mem_cons_self)) fun ρ1 w => wB_mono w fun c ρ2 ⟨e, w1, w2⟩ => ?_
    subst e
    cases hb : b d with
    | true =>
      simp only [wIf]
      refine wX_mono (w1 hb) fun y ρ3 ⟨e, hI⟩ => ?_
      subst e
      refine wC_pure b F ds ρ3 ρ0 _ hI (fun d hd => hs d (List.mem_cons_of_mem _ hd)) fun ρ' h' => ?_
      have := hn ρ' h'
      simpa [List.filter_cons, hb] using this
    | false =>
      simp only [wIf]
      refine wC_pure b F ds ρ2 ρ0 _ (w2 hb) (fun d hd => hs d (List.mem_cons_of_mem _ hd)) fun ρ' h' => ?_
      have := hn ρ' h'
      simpa [List.filter_cons, hb] using this
/-! defs -/
theorem wG_run {np n : Nat} {g : FSt} {ds : List PyData} : wG (runP np n g) ds QO = (ds.length = np ∧ wS g (ev0 n ds) (fun _ => QO .none) (fun d _ => QO d) (fun _ => False) (fun _ => False)) := by
  unfold wG wO wS runP
  by_cases h : ds.length = np
  · rw [if_pos h]; simp only [h, true_and]
    cases g (ev0 n ds) <;> rfl
  · rw [if_neg h]; simp only [h, false_and]
theorem wI_run {np n : Nat} {g : FSt} {d0 : PyData} {ds : List PyData} {QI : PyData → PyData → Prop} : wI (runI np n g) d0 ds QI = (ds.length + 1 = np ∧ wS g (ev0 n (d0 :: ds)) (fun ρ => gt ρ 0 fun o => QI .none o) (fun d ρ => gt ρ 0 fun o => QI d o) (fun _ => False) (fun _ => False)) := by
  unfold wI wS runI gt
  by_cases h : ds.length + 1 = np
  · rw [if_pos h]; simp only [h, true_and]
    cases g (ev0 n (d0 :: ds)) with
    | nx ρ => simp only []; rcases ρ[0]? with _ | _ | o <;> rfl
    | rt d ρ => simp only []; rcases ρ[0]? with _ | _ | o <;> rfl
    | bk _ => rfl
    | ct _ => rfl
    | no => rfl
  · rw [if_neg h]; simp only [h, false_and]
theorem wG_out {m : GL} {ds : List PyData} {r : PyData} (h : wG m ds fun z => z = r) : m ds = some r := by
  unfold wG wO at h
  cases hq : m ds <;> rw [hq] at h
  · exact h.elim
  · simp only [] at h; rw [h]
theorem wG_of {m : GL} {ds : List PyData} {r : PyData} (h : m ds = some r) : wG m ds QO = QO r := by
  unfold wG wO; rw [h]
theorem wG_mono {m : GL} {ds : List PyData} {Q' : PyData → Prop} (h : wG m ds QO) (k : ∀ d, QO d → Q' d) : wG m ds Q' := by
  unfold wG wO at *
  cases hq : m ds <;> rw [hq] at h
  · exact h
  · exact k _ h
theorem wI_mono {m : MI} {d0 : PyData} {ds : List PyData} {QI Q' : PyData → PyData → Prop} (h : wI m d0 ds QI) (k : ∀ d o, QI d o → Q' d o) : wI m d0 ds Q' := by
  unfold wI at *
  rcases hq : m d0 ds with _ | ⟨r, o⟩ <;> rw [hq] at h
  · exact h
  · exact k _ _ h
end
end FP
namespace FP
open PySem
/-! what data are like -/
theorem imms_iff : ∀ {xs : List PyData}, imms xs = true ↔ ∀ x ∈ xs, imm x = true
  | [] => by simp [imms]
  | x :: xs => by simp [imms, imms_iff (xs := xs)]
theorem noDs_iff : ∀ {xs : List PyData}, noDs xs = true ↔ ∀ x ∈ xs, noD x = true
  | [] => by simp [noDs]
  | x :: xs => by simp [noDs, noDs_iff (xs := xs)]
theorem lays_iff : ∀ {xs : List PyData}, PyData.canLayAll0 xs = true ↔ ∀ x ∈ xs, x.canLay0 = true
  | [] => by simp [PyData.canLayAll0]
  | x :: xs => by simp [PyData.canLayAll0, lays_iff (xs := xs)]
theorem depths_le {k : Nat} : ∀ {xs : List PyData}, (∀ x ∈ xs, x.depth ≤ k) → PyData.depthAll xs ≤ k
  | [], _ => by simp [PyData.depthAll]
  | x :: xs, h => by
    have h1 := h x (List.mem_cons_self)
    have h2 := depths_le (xs := xs) fun y hy => h y (List.mem_cons_of_mem _ hy)
    simp only [PyData.depthAll]; omega
/-- immutable, without dicts, not deep -/
structure Fine (k : Nat) (d : PyData) : Prop where
  im : imm d = true
  no : noD d = true
  la : d.canLay0 = true
  de : d.depth ≤ k
theorem Fine.le {k j : Nat} {d : PyData} (h : Fine k d) (l : k ≤ j) : Fine j d := ⟨h.im, h.no, h.la, Nat.le_trans h.de l⟩
theorem Fine.int {i : Int} : Fine 0 (.int i) := ⟨rfl, rfl, by simp [PyData.canLay0], by simp [PyData.depth]⟩
theorem Fine.bool {i : Bool} : Fine 0 (.bool i) := ⟨rfl, rfl, by simp [PyData.canLay0], by simp [PyData.depth]⟩
theorem Fine.none : Fine 0 .none := ⟨rfl, rfl, by simp [PyData.canLay0], by simp [PyData.depth]⟩
theorem Fine.str {x : Str} (h : PyData.strOk x = true) : Fine 0 (.str x) := ⟨rfl, rfl, by simpa [PyData.canLay0] using h, by simp [PyData.depth]⟩
theorem Fine.tup {k : Nat} {xs : List PyData} (h : ∀ x ∈ xs, Fine k x) : Fine (k + 1) (.tuple xs) where
  im := imms_iff.mpr fun x hx => (h x hx).im
  no := noDs_iff.mpr fun x hx => (h x hx).no
  la := by rw [PyData.canLay0]; exact lays_iff.mpr fun x hx => (h x hx).la
  de := by
    have := depths_le fun x hx => (h x hx).de
    rw [PyData.depth]; omega
theorem Fine.ok {k : Nat} {d : PyData} (h : Fine k d) (hk : k ≤ 64) : okD d = true := by
  unfold okD SeqAt.shaped
  rw [h.no, h.la, Bool.true_and, Bool.true_and]
  exact decide_eq_true (Nat.le_trans h.de hk)
theorem okD_list {k : Nat} {xs : List PyData} (h : ∀ x ∈ xs, Fine k x) (hk : k ≤ 63) : okD (.list xs) = true := by
  have h1 : noD (.list xs) = true := noDs_iff.mpr fun x hx => (h x hx).no
  have h2 : (PyData.list xs).canLay0 = true := by rw [PyData.canLay0]; exact lays_iff.mpr fun x hx => (h x hx).la
  have h3 := depths_le fun x hx => (h x hx).de
  unfold okD SeqAt.shaped
  rw [h1, h2, Bool.true_and, Bool.true_and, PyData.depth]
  exact decide_eq_true (by omega)
theorem okD_int {i : Int} : okD (.int i) = true := Fine.int.ok (by decide)
theorem okD_bool {i : Bool} : okD (.bool i) = true := Fine.bool.ok (by decide)
theorem okD_none : okD .none = true := Fine.none.ok (by decide)
theorem imms_map {α : Type} {f : α → PyData} {xs : List α} (h : ∀ x, imm (f x) = true) : imms (xs.map f) = true := imms_iff.mpr fun x hx => by
  obtain ⟨y, _, rfl⟩ := List.mem_map.mp hx
  exact h y
theorem imms_appB {a b : List PyData} : imms (a ++ b) = (imms a && imms b) := by
  induction a with
  | nil => rfl
  | cons x a ih => simp only [List.cons_append, imms, ih, Bool.and_assoc]
theorem imms_ints {xs : List Int} : imms (xs.map PyData.int) = true := imms_map fun _ => rfl
theorem imms_app {xs ys : List PyData} : imms (xs ++ ys) = true ↔ imms xs = true ∧ imms ys = true := by
  simp only [imms_iff, List.mem_append]
  exact ⟨fun h => ⟨fun x hx => h x (.inl hx), fun x hx => h x (.inr hx)⟩, fun h x hx => hx.elim (h.1 x) (h.2 x)⟩
/-! == -/
theorem eqv_ii {a b : Int} : PyData.eqv (.int a) (.int b) = decide (a = b) := by simp only [PyData.eqv]; rfl
theorem eqv_bb {a b : Bool} : PyData.eqv (.bool a) (.bool b) = (a == b) := by simp only [PyData.eqv]
theorem eqv_ss {a b : Str} : PyData.eqv (.str a) (.str b) = decide (a = b) := by
  simp only [PyData.eqv]
  by_cases h : a = b
  · subst h; simp
  · simp [h]
theorem eqv_l0 {a : List PyData} : PyData.eqv (.list a) (.list []) = a.isEmpty := by
  simp only [PyData.eqv]; cases a <;> simp [PyData.eqvAll]
theorem eqv_t0 {a : List PyData} : PyData.eqv (.tuple a) (.tuple []) = a.isEmpty := by
  simp only [PyData.eqv]; cases a <;> simp [PyData.eqvAll]
mutual
theorem eqv_self : ∀ {d : PyData}, noD d = true → PyData.eqv d d = true
  | .none, _ => by simp only [PyData.eqv]
  | .bool _, _ => by simp only [PyData.eqv, BEq.rfl]
  | .int _, _ => by simp only [PyData.eqv, BEq.rfl]
  | .str _, _ => by rw [eqv_ss]; simp
  | .list xs, h => by simp only [PyData.eqv]; exact eqvs_self (by simpa [noD] using h)
  | .tuple xs, h => by simp only [PyData.eqv]; exact eqvs_self (by simpa [noD] using h)
  | .dict _, h => by simp [noD] at h
theorem eqvs_self : ∀ {d : List PyData}, noDs d = true → PyData.eqvAll d d = true
  | [], _ => by simp only [PyData.eqvAll]
  | x :: xs, h => by
    simp only [noDs, Bool.and_eq_true] at h
    simp only [PyData.eqvAll, eqv_self h.1, eqvs_self h.2, Bool.and_self]
end
/-! operators -/
section
variable {Q : PyData → Prop}
theorem wO_some {d : PyData} : wO (some d) Q = Q d := propext Iff.rfl
theorem wO_none : wO none Q = False := propext Iff.rfl
theorem wO_ite {c : Prop} [Decidable c] {d : PyData} : wO (if c then some d else none) Q = (c ∧ Q d) := by
  by_cases h : c
  · rw [if_pos h]; simp only [h, true_and, wO]
  · rw [if_neg h]; simp only [h, false_and, wO]
theorem add_ii {a b : Int} : w2 gAdd (.int a) (.int b) Q = Q (.int (a + b)) := propext Iff.rfl
theorem add_tt {a b : List PyData} : w2 gAdd (.tuple a) (.tuple b) Q = ((imms a = true ∧ imms b = true ∧ a.length + b.length ≤ 1000000) ∧ Q (.tuple (a ++ b))) := by
  unfold w2 gAdd; simp only [wO_ite, Bool.and_eq_true, decide_eq_true_eq, and_assoc]
theorem add_ll {a b : List PyData} : w2 gAdd (.list a) (.list b) Q = ((imms a = true ∧ imms b = true ∧ a.length + b.length ≤ 1000000) ∧ Q (.list (a ++ b))) := by
  unfold w2 gAdd; simp only [wO_ite, Bool.and_eq_true, decide_eq_true_eq, and_assoc]
theorem sub_ii {a b : Int} : w2 gSub (.int a) (.int b) Q = Q (.int (a - b)) := propext Iff.rfl
theorem mod_ii {a b : Int} : w2 gMod (.int a) (.int b) Q = (0 < b ∧ Q (.int (a % b))) := by
  unfold w2 gMod gI; simp only [wO_ite, decide_eq_true_eq]
theorem div_ii {a b : Int} : w2 gDiv (.int a) (.int b) Q = ((0 < b ∧ b < 1073741824) ∧ Q (.int (a / b))) := by
  unfold w2 gDiv gI; simp only [wO_ite, Bool.and_eq_true, decide_eq_true_eq]
theorem pow_ii {a b : Int} : w2 gPow (.int a) (.int b) Q = ((0 ≤ b ∧ b ≤ 1000000 ∧ a.natAbs < 2 ^ 64) ∧ Q (.int (a ^ b.toNat))) := by
  unfold w2 gPow gI; simp only [wO_ite, Bool.and_eq_true, decide_eq_true_eq, and_assoc]
theorem mul_ii {a b : Int} : w2 gMul (.int a) (.int b) Q = (((-(2 ^ 64) < a ∧ a < 2 ^ 64) ∨ (-(2 ^ 64) < b ∧ b < 2 ^ 64)) ∧ Q (.int (a * b))) := by
  unfold w2 gMul; simp only [wO_ite, Bool.and_eq_true, Bool.or_eq_true, decide_eq_true_eq]
theorem mul_ti {a : List PyData} {k : Int} : w2 gMul (.tuple a) (.int k) Q = ((imms a = true ∧ k ≤ 1000 ∧ -1000 ≤ k ∧ a.length ≤ 1000) ∧ Q (.tuple (List.replicate k.toNat a).flatten)) := by
  unfold w2 gMul; simp only [wO_ite, Bool.and_eq_true, decide_eq_true_eq, and_assoc]
theorem mul_li {a : List PyData} {k : Int} : w2 gMul (.list a) (.int k) Q = ((imms a = true ∧ k ≤ 1000 ∧ -1000 ≤ k ∧ a.length ≤ 1000) ∧ Q (.list (List.replicate k.toNat a).flatten)) := by
  unfold w2 gMul; simp only [wO_ite, Bool.and_eq_true, decide_eq_true_eq, and_assoc]
theorem lt_ii {a b : Int} : w2 gLt (.int a) (.int b) Q = Q (.bool (decide (a < b))) := propext Iff.rfl
theorem le_ii {a b : Int} : w2 gLe (.int a) (.int b) Q = Q (.bool (decide (a ≤ b))) := propext Iff.rfl
theorem gt_ii {a b : Int} : w2 gGt (.int a) (.int b) Q = Q (.bool (decide (b < a))) := propext Iff.rfl
theorem ge_ii {a b : Int} : w2 gGe (.int a) (.int b) Q = Q (.bool (decide (b ≤ a))) := propext Iff.rfl
theorem eq_dd {a b : PyData} : w2 gEq a b Q = ((okD a = true ∧ okD b = true) ∧ Q (.bool (PyData.eqv a b))) := by
  unfold w2 gEq; simp only [wO_ite, Bool.and_eq_true]
theorem ne_dd {a b : PyData} : w2 gNe a b Q = ((okD a = true ∧ okD b = true) ∧ Q (.bool (!PyData.eqv a b))) := by
  unfold w2 gNe; simp only [wO_ite, Bool.and_eq_true]
theorem isN_dd {a : PyData} : w2 gIsN a .none Q = Q (.bool (isN a)) := propext Iff.rfl
theorem notN_dd {a : PyData} : w2 gNotN a .none Q = Q (.bool (!isN a)) := propext Iff.rfl
theorem isB_dd {a b : Bool} : w2 gIsB (.bool a) (.bool b) Q = Q (.bool (ng false (decide (a = b)))) := propext Iff.rfl
theorem isNB_dd {a b : Bool} : w2 gIsNB (.bool a) (.bool b) Q = Q (.bool (ng true (decide (a = b)))) := propext Iff.rfl
/-- an item -/
def wAt (xs : List PyData) (i : Int) (Q : PyData → Prop) : Prop := ∃ d, L2.atI xs i = some d ∧ imm d = true ∧ Q d
theorem wAt_eq {xs : List PyData} {i : Int} : (wO (match L2.atI xs i with
    | some d => if imm d = true then some d else none
    | none => none) Q) = wAt xs i Q := by
  unfold wAt
  rcases L2.atI xs i with _ | d
  · simp [wO]
  · simp only [wO_ite]
    exact propext ⟨fun h => ⟨d, rfl, h⟩, fun ⟨e, he, h⟩ => by cases he; exact h⟩
theorem ix_l {xs : List PyData} {i : Int} : w2 gIx (.list xs) (.int i) Q = wAt xs i Q := wAt_eq
theorem ix_t {xs : List PyData} {i : Int} : w2 gIx (.tuple xs) (.int i) Q = wAt xs i Q := wAt_eq
theorem atI_nat {xs : List PyData} {i : Nat} (h : i < xs.length) : L2.atI xs (i : Int) = some xs[i] := by
  unfold L2.atI L2.ixN
  rw [if_pos (by omega), if_pos (by omega)]
  simp
theorem wAt_nat {xs : List PyData} {i : Nat} (h : i < xs.length) (hi : imm xs[i] = true) (q : Q xs[i]) : wAt xs (i : Int) Q := ⟨_, atI_nat h, hi, q⟩
theorem wAt_int {xs : List PyData} {i : Int} (h0 : 0 ≤ i) (h : i < xs.length) (hi : imm (xs[i.toNat]'(by omega)) = true) (q : Q (xs[i.toNat]'(by omega))) : wAt xs i Q := by
  have := wAt_nat (Q := Q) (xs := xs) (i := i.toNat) (by omega) hi q
  rwa [Int.toNat_of_nonneg h0] at this
theorem wAt_0 {x : PyData} {xs : List PyData} : wAt (x :: xs) 0 Q = (imm x = true ∧ Q x) := propext
  ⟨fun ⟨d, e, h⟩ => by
    have := atI_nat (xs := x :: xs) (i := 0) (by simp)
    rw [Int.natCast_zero] at this
    rw [this] at e; cases e; exact h, fun h => by
    have := wAt_nat (Q := Q) (xs := x :: xs) (i := 0) (by simp) h.1 h.2
    simpa using this⟩
theorem wAt_1 {y x : PyData} {xs : List PyData} : wAt (y :: x :: xs) 1 Q = (imm x = true ∧ Q x) := propext
  ⟨fun ⟨d, e, h⟩ => by
    have := atI_nat (xs := y :: x :: xs) (i := 1) (by simp)
    rw [Int.natCast_one] at this
    rw [this] at e; cases e; exact h, fun h => by
    have := wAt_nat (Q := Q) (xs := y :: x :: xs) (i := 1) (by simp) h.1 h.2
    simpa using this⟩
theorem wAt_2 {z y x : PyData} {xs : List PyData} : wAt (z :: y :: x :: xs) 2 Q = (imm x = true ∧ Q x) := propext
  ⟨fun ⟨d, e, h⟩ => by
    have := atI_nat (xs := z :: y :: x :: xs) (i := 2) (by simp)
    rw [show ((2 : Nat) : Int) = 2 from rfl] at this
    rw [this] at e; cases e; exact h, fun h => by
    have := wAt_nat (Q := Q) (xs := z :: y :: x :: xs) (i := 2) (by simp) h.1 h.2
    simpa using this⟩
theorem wAt_3 {w z y x : PyData} {xs : List PyData} : wAt (w :: z :: y :: x :: xs) 3 Q = (imm x = true ∧ Q x) := propext
  ⟨fun ⟨d, e, h⟩ => by
    have := atI_nat (xs := w :: z :: y :: x :: xs) (i := 3) (by simp)
    rw [show ((3 : Nat) : Int) = 3 from rfl] at this
    rw [this] at e; cases e; exact h, fun h => by
    have := wAt_nat (Q := Q) (xs := w :: z :: y :: x :: xs) (i := 3) (by simp) h.1 h.2
    simpa using this⟩
theorem atI_last {xs : List PyData} {x : PyData} : L2.atI (xs ++ [x]) (-1) = some x := by
  unfold L2.atI L2.ixN
  rw [if_neg (by omega), if_pos (by simp; omega)]
  simp
  rw [show ((-1 : Int) + ((xs.length : Int) + 1)).toNat = xs.length by omega]
  simp
theorem wAt_last {xs : List PyData} {x : PyData} : wAt (xs ++ [x]) (-1) Q = (imm x = true ∧ Q x) := propext
  ⟨fun ⟨d, e, h⟩ => by rw [atI_last] at e; cases e; exact h, fun h => ⟨x, atI_last, h⟩⟩
theorem in_t {a : PyData} {xs : List PyData} : w2 gIn a (.tuple xs) Q = ((okD a = true ∧ okD (.tuple xs) = true) ∧ Q (.bool (anyEq a xs))) := by
  unfold w2 gIn gInN; simp only [seqOf, wO_ite, Bool.and_eq_true, ng]; rfl
theorem in_l {a : PyData} {xs : List PyData} : w2 gIn a (.list xs) Q = ((okD a = true ∧ okD (.list xs) = true) ∧ Q (.bool (anyEq a xs))) := by
  unfold w2 gIn gInN; simp only [seqOf, wO_ite, Bool.and_eq_true, ng]; rfl
/-! built-ins -/
theorem len_l {xs : List PyData} : wG gLen [.list xs] Q = Q (.int xs.length) := propext Iff.rfl
theorem len_t {xs : List PyData} : wG gLen [.tuple xs] Q = Q (.int xs.length) := propext Iff.rfl
theorem int_i {i : Int} : wG gInt [.int i] Q = Q (.int i) := propext Iff.rfl
theorem list_l {xs : List PyData} : wG gList [.list xs] Q = (imms xs = true ∧ Q (.list xs)) := by
  unfold wG gList; simp only [wO_ite]
theorem list_t {xs : List PyData} : wG gList [.tuple xs] Q = (imms xs = true ∧ Q (.list xs)) := by
  unfold wG gList; simp only [wO_ite]
theorem tuple_l {xs : List PyData} : wG gTuple [.list xs] Q = (imms xs = true ∧ Q (.tuple xs)) := by
  unfold wG gTuple; simp only [wO_ite]
theorem tuple_t {xs : List PyData} : wG gTuple [.tuple xs] Q = (imms xs = true ∧ Q (.tuple xs)) := by
  unfold wG gTuple; simp only [wO_ite]
theorem max2_ii {a b : Int} : wG gMax2 [.int a, .int b] Q = Q (.int (max a b)) := propext Iff.rfl
theorem min2_ii {a b : Int} : wG gMin2 [.int a, .int b] Q = Q (.int (min a b)) := propext Iff.rfl
theorem allB_map {α : Type} {f : α → Bool} : ∀ {xs : List α}, allB (xs.map fun x => .bool (f x)) = some (xs.map f)
  | [] => rfl
  | x :: xs => by simp only [List.map_cons, allB, allB_map (xs := xs)]
theorem allI_map {α : Type} {f : α → Int} : ∀ {xs : List α}, allI (xs.map fun x => .int (f x)) = some (xs.map f)
  | [] => rfl
  | x :: xs => by simp only [List.map_cons, allI, allI_map (xs := xs)]
theorem allI_ints : ∀ {xs : List Int}, allI (xs.map PyData.int) = some xs
  | [] => rfl
  | x :: xs => by simp only [List.map_cons, allI, allI_ints (xs := xs)]
theorem all_map {α : Type} {f : α → Bool} {xs : List α} : wG gAll [.list (xs.map fun x => .bool (f x))] Q = Q (.bool (xs.all f)) := by
  unfold wG gAll; simp only [allB_map, wO, List.all_map]; rfl
theorem any_map {α : Type} {f : α → Bool} {xs : List α} : wG gAny [.list (xs.map fun x => .bool (f x))] Q = Q (.bool (xs.any f)) := by
  unfold wG gAny; simp only [allB_map, wO, List.any_map]; rfl
theorem sum_map {α : Type} {f : α → Int} {xs : List α} : wG gSum [.list (xs.map fun x => .int (f x))] Q = Q (.int (xs.map f).sum) := by
  unfold wG gSum; simp only [allI_map, wO]
theorem max_ints {xs : List Int} (h : xs ≠ []) : wG gMaxL [.list (xs.map PyData.int)] Q = Q (.int (maxI xs)) := by
  unfold wG gMaxL; simp only [allI_ints]
  rw [if_neg (by cases xs <;> simp_all)]; rfl
theorem repr_d {d : PyData} : wG gRepr [d] Q = ((okD d = true ∧ d.showable = true ∧ d.shown.length ≤ 1000000) ∧ Q (.str d.shown)) := by
  unfold wG gRepr; simp only [wO_ite, Bool.and_eq_true, decide_eq_true_eq, and_assoc]
/-! slices -/
theorem sl_t {xs : List PyData} {lo hi : Option Int} : w3 gSl (.tuple xs) lo hi Q = (imms xs = true ∧ Q (.tuple (cut xs lo hi))) := by
  unfold w3 gSl; simp only [wO_ite]
theorem sl_l {xs : List PyData} {lo hi : Option Int} : w3 gSl (.list xs) lo hi Q = (imms xs = true ∧ Q (.list (cut xs lo hi))) := by
  unfold w3 gSl; simp only [wO_ite]
end
theorem cut_to {α : Type} {xs : List α} {i : Int} (h : 0 ≤ i) : cut xs none (some i) = xs.take i.toNat := by
  unfold cut HT.sIx
  simp only [List.drop_zero, Nat.sub_zero]
  rw [if_neg (by omega)]
  rcases Nat.le_total i.toNat xs.length with h1 | h1
  · rw [Nat.min_eq_left h1]
  · rw [Nat.min_eq_right h1, List.take_length, List.take_of_length_le h1]
theorem cut_from {α : Type} {xs : List α} {i : Int} (h : 0 ≤ i) : cut xs (some i) none = xs.drop i.toNat := by
  unfold cut HT.sIx
  simp only []
  rw [if_neg (by omega)]
  rcases Nat.le_total i.toNat xs.length with h1 | h1
  · rw [Nat.min_eq_left h1, List.take_of_length_le (by simp)]
  · rw [Nat.min_eq_right h1, List.drop_length, List.drop_of_length_le h1]; simp
theorem intsF_len {lo : Int} {n : Nat} : (intsF lo n).length = n := by simp [intsF]
theorem intsF_get {lo : Int} {n i : Nat} (h : i < (intsF lo n).length) : (intsF lo n)[i] = .int (lo + i) := by simp [intsF]
end FP
namespace FP
open PySem
theorem ev0_1 {n : Nat} {a : PyData} : ev0 n [a] = some a :: List.replicate (n - 1) none := rfl
theorem ev0_2 {n : Nat} {a b : PyData} : ev0 n [a, b] = some a :: some b :: List.replicate (n - 2) none := rfl
theorem ev0_3 {n : Nat} {a b c : PyData} : ev0 n [a, b, c] = some a :: some b :: some c :: List.replicate (n - 3) none := rfl
theorem ev0_4 {n : Nat} {a b c d : PyData} : ev0 n [a, b, c, d] = some a :: some b :: some c :: some d :: List.replicate (n - 4) none := rfl
theorem imm_int {i : Int} : imm (.int i) = true := rfl
theorem imm_bool {i : Bool} : imm (.bool i) = true := rfl
theorem imm_str {i : Str} : imm (.str i) = true := rfl
theorem imm_tup {xs : List PyData} : imm (.tuple xs) = imms xs := rfl
theorem imms_nil : imms [] = true := rfl
theorem imms_cons {x : PyData} {xs : List PyData} : imms (x :: xs) = (imm x && imms xs) := rfl
theorem okD_l0 : okD (.list []) = true := rfl
theorem atL2 {α : Type} {a b : α} : atL [1, 0] [a, b] = [b, a] := rfl
theorem wipe_nil {ρ : EV} : wipeE ρ [] = ρ := rfl
theorem wipe_cons {ρ : EV} {v : Nat} {vs : List Nat} : wipeE ρ (v :: vs) = (wipeE ρ vs).set v none := rfl
/-! dicts and owned lists -/
def asD (d : PyData) (k : Tab → Prop) : Prop := match d with
  | .dict t => k t
  | _ => False
theorem asD_d {t : Tab} {k : Tab → Prop} : asD (.dict t) k = k t := propext Iff.rfl
def asL (d : PyData) (k : List PyData → Prop) : Prop := match d with
  | .list t => k t
  | _ => False
theorem asL_l {t : List PyData} {k : List PyData → Prop} : asL (.list t) k = k t := propext Iff.rfl
def asK (d : PyData) (k : L2.Key → Prop) : Prop := match keyOf d with
  | some t => k t
  | none => False
theorem asK_i {i : Int} {k : L2.Key → Prop} : asK (.int i) k = k (.inl i) := propext Iff.rfl
theorem asK_s {i : Str} {k : L2.Key → Prop} : asK (.str i) k = k (.inr i) := propext Iff.rfl
section
variable {ρ : EV} {Q : PyData → EV → Prop} {QL : List PyData → EV → Prop} {N : EV → Prop} {R : PyData → EV → Prop} {B C : EV → Prop} {QO : PyData → Prop}
theorem dix_d {t : Tab} {y : PyData} : w2 gDix0 (.dict t) y QO = asK y fun k => wO (dget t k) QO := by
  unfold w2 gDix0 asK
  cases keyOf y <;> rfl
theorem wS_dput {i : Nat} {fk fv : FX} : wS (gDput i fk fv) ρ N R B C = wX fv ρ fun d ρ1 => wX fk ρ1 fun y ρ2 => gt ρ1 i fun t1 => asD t1 fun _ => gt ρ2 i fun t2 => asD t2 fun t => (imm d = true ∧ t.length < 1000) ∧ asK y fun k => N (st ρ2 i (.dict (dput t k d))) := by
  unfold wS wX gDput gt asD asK st
  rcases fv ρ with _ | ⟨d, ρ1⟩
  · rfl
  simp only []
  rcases fk ρ1 with _ | ⟨y, ρ2⟩
  · rfl
  simp only []
  rcases ρ1[i]? with _ | _ | t1
  · rfl
  · rfl
  cases t1 <;> try rfl
  simp only []
  rcases ρ2[i]? with _ | _ | t2
  · rfl
  · rfl
  cases t2 <;> try rfl
  rename_i t
  simp only [Bool.and_eq_true, decide_eq_true_eq]
  by_cases h : imm d = true ∧ t.length < 1000
  · rw [if_pos h]; simp only [h.1, h.2, true_and]
    cases keyOf y <;> rfl
  · rw [if_neg h]; simp only [h, false_and]
theorem wX_dpop {i : Nat} {key : Str} : wX (fDpop i key) ρ Q = gt ρ i fun d => asD d fun t => wO (dget t (.inr key)) fun l => asL l fun es => imms es = true ∧ ∃ d, es[es.length - 1]? = some d ∧ Q d (st ρ i (.dict (dput t (.inr key) (.list es.dropLast)))) := by
  unfold wX fDpop gt asD wO asL st
  rcases ρ[i]? with _ | _ | t1
  · rfl
  · rfl
  cases t1 <;> try rfl
  rename_i t
  simp only []
  rcases dget t (.inr key) with _ | l
  · rfl
  cases l <;> try rfl
  rename_i es
  simp only []
  by_cases h : imms es = true
  · rw [if_pos h]; simp only [h, true_and]
    rcases es[es.length - 1]? with _ | d
    · simp
    · simp
  · rw [if_neg h]; simp only [h, false_and, Bool.false_eq_true]
theorem wX_dappend {i : Nat} {key : Str} {f : FX} : wX (fDappend i key f) ρ Q = gt ρ i fun d0 => asD d0 fun t0 => wO (dget t0 (.inr key)) fun l0 => asL l0 fun _ => wX f ρ fun d ρ1 => gt ρ1 i fun d1 => asD d1 fun t => wO (dget t (.inr key)) fun l => asL l fun es =>
    (imm d = true ∧ imms es = true ∧ es.length < 1000000) ∧ Q .none (st ρ1 i (.dict (dput t (.inr key) (.list (es ++ [d]))))) := by
  unfold wX fDappend gt asD wO asL st
  rcases ρ[i]? with _ | _ | t1
  · rfl
  · rfl
  cases t1 <;> try rfl
  rename_i t0
  simp only []
  rcases dget t0 (.inr key) with _ | l
  · rfl
  cases l <;> try rfl
  simp only []
  rcases f ρ with _ | ⟨d, ρ1⟩
  · rfl
  simp only []
  rcases ρ1[i]? with _ | _ | t1
  · rfl
  · rfl
  cases t1 <;> try rfl
  rename_i t
  simp only []
  rcases dget t (.inr key) with _ | l
  · rfl
  cases l <;> try rfl
  rename_i es
  simp only [Bool.and_eq_true, decide_eq_true_eq]
  by_cases h : (imm d = true ∧ imms es = true) ∧ es.length < 1000000
  · rw [if_pos h]; simp only [h.1.1, h.1.2, h.2, true_and]
  · rw [if_neg h]; simp only [← and_assoc, h, false_and]
theorem wX_append {i : Nat} {f : FX} : wX (fAppend i f) ρ Q = gt ρ i fun d0 => asL d0 fun _ => wX f ρ fun d ρ1 => gt ρ1 i fun d1 => asL d1 fun ds => (imm d = true ∧ ds.length < 1000000) ∧ Q .none (st ρ1 i (.list (ds ++ [d]))) := by
  unfold wX fAppend gt asL st
  rcases ρ[i]? with _ | _ | t1
  · rfl
  · rfl
  cases t1 <;> try rfl
  simp only []
  rcases f ρ with _ | ⟨d, ρ1⟩
  · rfl
  simp only []
  rcases ρ1[i]? with _ | _ | t1
  · rfl
  · rfl
  cases t1 <;> try rfl
  rename_i es
  simp only [Bool.and_eq_true, decide_eq_true_eq]
  by_cases h : imm d = true ∧ es.length < 1000000
  · rw [if_pos h]; simp only [h.1, h.2, true_and]
  · rw [if_neg h]; simp only [h, false_and]
theorem wX_popAt {i : Nat} {f : FX} : wX (fPopAt i f) ρ Q = gt ρ i fun d0 => asL d0 fun _ => wX f ρ fun d ρ1 => asI d fun k => gt ρ1 i fun d1 => asL d1 fun ds => (imms ds = true ∧ -1000000 ≤ k ∧ k ≤ 1000000) ∧ ∃ m d, seqIndex? k ds.length = some m ∧ ds[m]? = some d ∧ Q d (st ρ1 i (.list (ds.eraseIdx m))) := by
  unfold wX fPopAt gt asL asI st
  rcases ρ[i]? with _ | _ | t1
  · rfl
  · rfl
  cases t1 <;> try rfl
  simp only []
  rcases f ρ with _ | ⟨d, ρ1⟩
  · rfl
  cases d <;> try rfl
  rename_i k
  simp only []
  rcases ρ1[i]? with _ | _ | t1
  · rfl
  · rfl
  cases t1 <;> try rfl
  rename_i ds
  simp only [Bool.and_eq_true, decide_eq_true_eq]
  by_cases h : (imms ds = true ∧ -1000000 ≤ k) ∧ k ≤ 1000000
  · rw [if_pos h]; simp only [h.1.1, h.1.2, h.2, true_and]
    rcases seqIndex? k ds.length with _ | m
    · simp
    · simp only [Option.some.injEq]
      rcases hq : ds[m]? with _ | d
      · simp [hq]
      · simp [hq]
  · rw [if_neg h]; simp only [← and_assoc, h, false_and]
theorem wX_extend {i : Nat} {f : FX} : wX (fExtend i f) ρ Q = gt ρ i fun d0 => asL d0 fun _ => wX f ρ fun d ρ1 => asL d fun es => gt ρ1 i fun d1 => asL d1 fun ds => (imms es = true ∧ ds.length + es.length < 1000000) ∧ Q .none (st ρ1 i (.list (ds ++ es))) := by
  unfold wX fExtend gt asL st
  rcases ρ[i]? with _ | _ | t1
  · rfl
  · rfl
  cases t1 <;> try rfl
  simp only []
  rcases f ρ with _ | ⟨d, ρ1⟩
  · rfl
  cases d <;> try rfl
  simp only []
  rcases ρ1[i]? with _ | _ | t1
  · rfl
  · rfl
  cases t1 <;> try rfl
  rename_i es ds
  simp only [Bool.and_eq_true, decide_eq_true_eq]
  by_cases h : imms es = true ∧ ds.length + es.length < 1000000
  · rw [if_pos h]; simp only [h.1, h.2, true_and]
  · rw [if_neg h]; simp only [h, false_and]
theorem wX_pop {i : Nat} : wX (fPop i) ρ Q = gt ρ i fun d0 => asL d0 fun ds => imms ds = true ∧ ∃ d, ds[ds.length - 1]? = some d ∧ Q d (st ρ i (.list ds.dropLast)) := by
  unfold wX fPop gt asL st
  rcases ρ[i]? with _ | _ | t1
  · rfl
  · rfl
  cases t1 <;> try rfl
  rename_i ds
  simp only []
  by_cases h : imms ds = true
  · rw [if_pos h]; simp only [h, true_and]
    rcases ds[ds.length - 1]? with _ | d
    · simp
    · simp
  · rw [if_neg h]; simp only [h, false_and, Bool.false_eq_true]
theorem wS_lput {i : Nat} {fk fv : FX} : wS (gLput i fk fv) ρ N R B C = wX fv ρ fun d ρ1 => wX fk ρ1 fun y ρ2 => asI y fun k => gt ρ1 i fun t1 => asL t1 fun _ => gt ρ2 i fun t2 => asL t2 fun ds => (imm d = true ∧ imms ds = true) ∧ ∃ m, L2.ixN ds.length k = some m ∧ N (st ρ2 i (.list (ds.set m d))) := by
  unfold wS wX gLput gt asL asI st
  rcases fv ρ with _ | ⟨d, ρ1⟩
  · rfl
  simp only []
  rcases fk ρ1 with _ | ⟨y, ρ2⟩
  · rfl
  cases y <;> try rfl
  rename_i k
  simp only []
  rcases ρ1[i]? with _ | _ | t1
  · rfl
  · rfl
  cases t1 <;> try rfl
  simp only []
  rcases ρ2[i]? with _ | _ | t2
  · rfl
  · rfl
  cases t2 <;> try rfl
  rename_i ds
  simp only [Bool.and_eq_true]
  by_cases h : imm d = true ∧ imms ds = true
  · rw [if_pos h]; simp only [h.1, h.2, true_and]
    rcases L2.ixN ds.length k with _ | m
    · simp
    · simp
  · rw [if_neg h]; simp only [h, false_and]
theorem wX_sortset {f : FX} : wX (fSortSet f) ρ Q = wX f ρ fun d ρ1 => asL d fun ds => ∃ is, intsOf ds = some is ∧ is.length < 64 ∧ Q (.list ((sortU is).map PyData.int)) ρ1 := by
  unfold wX fSortSet asL
  rcases f ρ with _ | ⟨d, ρ1⟩
  · rfl
  cases d <;> try rfl
  rename_i ds
  simp only []
  rcases intsOf ds with _ | is
  · simp
  · simp only [Option.some.injEq]
    by_cases h : is.length < 64
    · rw [if_pos h]; simp [h]
    · rw [if_neg h]; simp [h]
theorem wX_lrange {f : FX} : wX (fLrange f) ρ Q = wX f ρ fun d ρ1 => asI d fun n => (-1000000 ≤ n ∧ n ≤ 1000000) ∧ Q (.list (intsF 0 n.toNat)) ρ1 := by
  unfold wX fLrange asI
  rcases f ρ with _ | ⟨d, ρ1⟩
  · rfl
  cases d <;> try rfl
  rename_i n
  simp only [Bool.and_eq_true, decide_eq_true_eq]
  by_cases h : -1000000 ≤ n ∧ n ≤ 1000000
  · rw [if_pos h]; simp only [h, true_and, and_self]
  · rw [if_neg h]; simp only [h, false_and]
theorem wX_sortitems {f : FX} : wX (fSortItems f) ρ Q = wX f ρ fun d ρ1 => asD d fun t => okSort (rowsD t) = true ∧ Q (.list ((rowsD t).mergeSort leD)) ρ1 := by
  unfold wX fSortItems asD
  rcases f ρ with _ | ⟨d, ρ1⟩
  · rfl
  cases d <;> try rfl
  rename_i t
  simp only []
  by_cases h : okSort (rowsD t) = true
  · rw [if_pos h]; simp only [h, true_and]
  · rw [if_neg h]; simp only [h, false_and, Bool.false_eq_true]
theorem sorted_l {ds : List PyData} : wG gSorted [.list ds] QO = (okSort ds = true ∧ QO (.list (ds.mergeSort leD))) := by
  unfold wG gSorted; simp only [wO_ite]
def wPs (fps : List (FX × FX)) (ρ : EV) (Q : List (L2.Key × PyData) → EV → Prop) : Prop := match fPairs fps ρ with
  | some (ps, ρ1) => Q ps ρ1
  | none => False
theorem wPs_nil {Q : List (L2.Key × PyData) → EV → Prop} : wPs [] ρ Q = Q [] ρ := propext Iff.rfl
theorem wPs_cons {fk fv : FX} {r : List (FX × FX)} {Q : List (L2.Key × PyData) → EV → Prop} : wPs ((fk, fv) :: r) ρ Q = wX fk ρ fun y ρ1 => asK y fun k => wX fv ρ1 fun d ρ2 => imm d = true ∧ wPs r ρ2 fun ps ρ3 => Q ((k, d) :: ps) ρ3 := by
  unfold wPs wX asK
  conv => lhs; unfold fPairs
  rcases fk ρ with _ | ⟨y, ρ1⟩
  · rfl
  simp only []
  rcases keyOf y with _ | k
  · rfl
  simp only []
  rcases fv ρ1 with _ | ⟨d, ρ2⟩
  · rfl
  simp only []
  by_cases h : imm d = true
  · rw [if_pos h]; simp only [h, true_and]
    rcases fPairs r ρ2 with _ | ⟨ps, ρ3⟩ <;> rfl
  · rw [if_neg h]; simp only [h, false_and, Bool.false_eq_true]
theorem wX_disp {fps : List (FX × FX)} : wX (fDisp fps) ρ Q = wPs fps ρ fun kd ρ1 => kd.length ≤ 15 ∧ Q (.dict (mergeD [] kd)) ρ1 := by
  unfold wX fDisp wPs
  rcases fPairs fps ρ with _ | ⟨ps, ρ3⟩
  · rfl
  simp only []
  by_cases h : ps.length ≤ 15
  · rw [if_pos h]; simp only [h, true_and]
  · rw [if_neg h]; simp only [h, false_and]
theorem wX_din {neg : Bool} {fk ft : FX} : wX (fDin neg fk ft) ρ Q = wX fk ρ fun y ρ1 => wX ft ρ1 fun d ρ2 => asD d fun t => asK y fun k => Q (.bool (if neg then !(dget t k).isSome else (dget t k).isSome)) ρ2 := by
  unfold wX fDin asD asK
  rcases fk ρ with _ | ⟨y, ρ1⟩
  · rfl
  simp only []
  rcases ft ρ1 with _ | ⟨d, ρ2⟩
  · rfl
  cases d <;> try rfl
  simp only []
  cases keyOf y <;> rfl
end
end FP
namespace FP
open PySem
def ownS (b : Bool) : Str := if b then "keeper" else "foe"
theorem ownS_ok : ∀ b, PyData.strOk (ownS b) = true := by decide +kernel
theorem ownS_k : ∀ b, decide (ownS b = "keeper") = b := by decide +kernel
theorem ownS_f : ∀ b, decide (ownS b = "foe") = !b := by decide +kernel
def howS (b : Bool) : Str := if b then "slip" else "move"
theorem howS_ok : ∀ b, PyData.strOk (howS b) = true := by decide +kernel
theorem howS_s : ∀ b, decide (howS b = "slip") = b := by decide +kernel
theorem howS_m : ∀ b, decide (howS b = "move") = !b := by decide +kernel
theorem okD_own {b : Bool} : okD (.str (ownS b)) = true := (Fine.str (ownS_ok b)).ok (by decide)
theorem okD_str {s : Str} (h : PyData.strOk s = true) : okD (.str s) = true := (Fine.str h).ok (by decide)
theorem okD_keeper : okD (.str "keeper") = true := okD_str (by decide +kernel)
theorem okD_foe : okD (.str "foe") = true := okD_str (by decide +kernel)
theorem okD_move : okD (.str "move") = true := okD_str (by decide +kernel)
theorem okD_slip : okD (.str "slip") = true := okD_str (by decide +kernel)
theorem okD_how {b : Bool} : okD (.str (howS b)) = true := (Fine.str (howS_ok b)).ok (by decide)
theorem get_wipe {ρ : EV} {i : Nat} : ∀ {vs : List Nat}, (wipeE ρ vs)[i]? = if i ∈ vs ∧ i < ρ.length then some none else ρ[i]?
  | [] => by simp [wipeE]
  | v :: vs => by
    have hl : (wipeE ρ vs).length = ρ.length := by
      clear i
      induction vs with
      | nil => rfl
      | cons v vs ih => rw [wipeE, List.length_set, ih]
    rw [wipeE, List.getElem?_set, get_wipe (vs := vs), hl]
    by_cases h : v = i
    · subst h
      by_cases h2 : v < ρ.length
      · simp [h2]
      · have : ρ[v]? = none := List.getElem?_eq_none (by omega)
        simp [h2]
    · have h' : ¬ i = v := fun e => h e.symm
      simp [h, h']
theorem get_back {ρ ρ' : EV} {i : Nat} : ∀ {vs : List Nat}, (back ρ ρ' vs)[i]? = if i ∈ vs ∧ i < ρ'.length then some (ρ.getD i none) else ρ'[i]?
  | [] => by simp [back]
  | v :: vs => by
    have hl : (back ρ ρ' vs).length = ρ'.length := by
      clear i
      induction vs with
      | nil => rfl
      | cons v vs ih => rw [back, List.length_set, ih]
    rw [back, List.getElem?_set, get_back (vs := vs), hl]
    by_cases h : v = i
    · subst h
      by_cases h2 : v < ρ'.length
      · simp [h2]
      · have : ρ'[v]? = none := List.getElem?_eq_none (by omega)
        simp [h2]
    · have h' : ¬ i = v := fun e => h e.symm
      simp [h, h']
theorem wipe_len {ρ : EV} {vs : List Nat} : (wipeE ρ vs).length = ρ.length := by
  induction vs with
  | nil => rfl
  | cons v vs ih => rw [wipeE, List.length_set, ih]
theorem back_wipe {ρ ρ' : EV} {vs : List Nat} : back ρ ρ' vs = back ρ (wipeE ρ' vs) vs := by
  apply List.ext_getElem?
  intro i
  rw [get_back, get_back, get_wipe, wipe_len]
  by_cases h : i ∈ vs ∧ i < List.length ρ'
  · rw [if_pos h, if_pos h]
  · rw [if_neg h, if_neg h, if_neg h]
theorem back_nil {ρ ρ' : EV} : back ρ ρ' [] = ρ' := rfl
theorem back_cons {ρ ρ' : EV} {v : Nat} {vs : List Nat} : back ρ ρ' (v :: vs) = (back ρ ρ' vs).set v (ρ.getD v none) := rfl
/-- the same, for what is told of the state behind a comprehension -/
def wpd (ρ : EV) (vs : List Nat) : EV := wipeE ρ vs
section
variable {ρ : EV} {Q : PyData → EV → Prop}
theorem wX_lc' {vs : List Nat} {it : FIt} {h : FTg} {t : FB} {f : FX} : wX (fLc vs it h t f) ρ Q = wIt it ρ fun ds ρ1 => ds.length ≤ 1000000 ∧ wC vs h t f ds ρ1 fun ys ρ2 => Q (.list ys) (back ρ1 (wpd ρ2 vs) vs) := by
  rw [wX_lc]
  unfold wpd
  have : ∀ (ρ1 ρ2 : EV), back ρ1 ρ2 vs = back ρ1 (wipeE ρ2 vs) vs := fun _ _ => back_wipe
  simp only [← this]
/-- a comprehension that changes nothing, over encoded things -/
theorem wC_map {α : Type} {enc : α → PyData} {vs : List Nat} {h : FTg} {t : FB} {f : FX} (b : α → Bool) (F : α → PyData) : ∀ (xs : List α) (ρ ρ0 : EV) (QL : List PyData → EV → Prop), wipeE ρ vs = ρ0 →
    (∀ x ∈ xs, wT h (enc x) ρ0 fun ρ1 => wB t ρ1 fun c ρ2 => c = b x ∧ (b x = true → wX f ρ2 fun y ρ3 => y = F x ∧ wipeE ρ3 vs = ρ0) ∧ (b x = false → wipeE ρ2 vs = ρ0)) →
    (∀ ρ', wpd ρ' vs = ρ0 → QL ((xs.filter b).map F) ρ') → wC vs h t f (xs.map enc) ρ QL
  | [], ρ, ρ0, QL, h0, _, hn => by rw [List.map_nil, wC_nil]; exact hn ρ h0
  | d :: ds, ρ, ρ0, QL, h0, hs, hn => by
    rw [List.map_cons, wC_cons, h0]
    refine wT_mono (hs d (List.mem_cons_self)) fun ρ1 w => wB_mono w fun c ρ2 ⟨e, w1, w2⟩ => ?_
    subst e
    cases hb : b d with
    | true =>
      simp only [wIf]
      refine wX_mono (w1 hb) fun y ρ3 ⟨e, hI⟩ => ?_
      subst e
      refine wC_map b F ds ρ3 ρ0 _ hI (fun d hd => hs d (List.mem_cons_of_mem _ hd)) fun ρ' h' => ?_
      have := hn ρ' h'
      simpa [List.filter_cons, hb] using this
    | false =>
      simp only [wIf]
      refine wC_map b F ds ρ2 ρ0 _ (w2 hb) (fun d hd => hs d (List.mem_cons_of_mem _ hd)) fun ρ' h' => ?_
      have := hn ρ' h'
      simpa [List.filter_cons, hb] using this
/-- without a test -/
theorem wC_map1 {α : Type} {enc : α → PyData} {vs : List Nat} {h : FTg} {f : FX} (F : α → PyData) (xs : List α) (ρ ρ0 : EV) (QL : List PyData → EV → Prop) (h0 : wipeE ρ vs = ρ0)
    (hs : ∀ x ∈ xs, wT h (enc x) ρ0 fun ρ1 => wX f ρ1 fun y ρ3 => y = F x ∧ wipeE ρ3 vs = ρ0)
    (hn : ∀ ρ', wpd ρ' vs = ρ0 → QL (xs.map F) ρ') : wC vs h fYes f (xs.map enc) ρ QL :=
  wC_map (fun _ => true) F xs ρ ρ0 QL h0 (fun x hx => wT_mono (hs x hx) fun ρ1 w => by rw [wB_yes]; exact ⟨rfl, fun _ => w, fun z => nomatch z⟩) fun ρ' h' => by
    rw [List.filter_eq_self.mpr (fun _ _ => rfl)]; exact hn ρ' h'
theorem wC_inv1 {vs : List Nat} {h : FTg} {f : FX} {QL : List PyData → EV → Prop} (I : EV → Prop) (J : PyData → Prop) (ds : List PyData) (ρ : EV) (h0 : I (wipeE ρ vs))
    (hs : ∀ d ∈ ds, ∀ ρ, I ρ → wT h d ρ fun ρ1 => wX f ρ1 fun y ρ3 => J y ∧ I (wipeE ρ3 vs))
    (hn : ∀ ys ρ', ys.length = ds.length → (∀ y ∈ ys, J y) → I (wpd ρ' vs) → QL ys ρ') : wC vs h fYes f ds ρ QL := by
  induction ds generalizing ρ QL with
  | nil => rw [wC_nil]; exact hn [] ρ rfl (fun _ z => nomatch z) h0
  | cons d ds ih =>
    rw [wC_cons]
    refine wT_mono (hs d List.mem_cons_self _ h0) fun ρ1 w => ?_
    rw [wB_yes]
    simp only [wIf]
    refine wX_mono w fun y ρ3 ⟨hy, hI⟩ => ?_
    refine ih ρ3 hI (fun d hd => hs d (List.mem_cons_of_mem _ hd)) fun ys ρ' hl hj hI => hn (y :: ys) ρ' (by simp [hl]) (fun z hz => ?_) hI
    rcases List.mem_cons.mp hz with rfl | hz
    · exact hy
    · exact hj z hz
end
theorem wS_cut {ρ : EV} {g h : FSt} {N : EV → Prop} {R : PyData → EV → Prop} {B C : EV → Prop} (M : EV → Prop) (h1 : wS g ρ M R B C) (h2 : ∀ ρ1, M ρ1 → wS h ρ1 N R B C) : wS (gSeq g h) ρ N R B C := by
  rw [wS_seq]
  exact wS_mono h1 h2 (fun _ _ r => r) (fun _ b => b) fun _ c => c
end FP
namespace FP
open PySem
/-! texts of data -/
theorem strOk_of {s : String} : PyData.strOk (Str.ofString s) = true := by
  unfold PyData.strOk
  rw [Str.ofString_eq_toList]
  simp only [List.all_toArray, List.all_map, List.all_eq_true]
  intro c _
  have := c.valid
  simp only [Function.comp, decide_eq_true_eq]
  have h2 : c.toNat = c.val.toNat := rfl
  rcases this with h | h
  · rw [h2]; have : c.val.toNat < 0xd800 := h; omega
  · rw [h2]; have : c.val.toNat < 0x110000 := h.2; omega
theorem strOk_app {a b : Str} (ha : PyData.strOk a = true) (hb : PyData.strOk b = true) : PyData.strOk (a ++ b) = true := by
  unfold PyData.strOk at *
  have e : (a ++ b).cps = a.cps ++ b.cps := rfl
  rw [e]
  simp only [← Array.all_toList, Array.toList_append, List.all_append, Bool.and_eq_true] at *
  exact ⟨ha, hb⟩
theorem strOk_from : ∀ {ts : List Str} {k : Nat} {acc : Str}, PyData.strOk acc = true → (∀ t ∈ ts, PyData.strOk t = true) → PyData.strOk (textFrom k acc ts) = true
  | [], _, _, h, _ => h
  | t :: ts, k, acc, h, hs => by
    unfold textFrom
    refine strOk_from (strOk_app (strOk_app h ?_) (hs t List.mem_cons_self)) fun u hu => hs u (List.mem_cons_of_mem _ hu)
    split <;> exact strOk_of
theorem strOk_join {sep : Str} (h : PyData.strOk sep = true) : ∀ {ts : List Str}, (∀ t ∈ ts, PyData.strOk t = true) → PyData.strOk (Str.join sep ts) = true
  | [], _ => by unfold Str.join; decide +kernel
  | [x], hs => hs x List.mem_cons_self
  | x :: y :: r, hs => by
    unfold Str.join
    exact strOk_app (strOk_app (hs x List.mem_cons_self) h) (strOk_join h fun u hu => hs u (List.mem_cons_of_mem _ hu))
theorem shownAll_mem : ∀ {xs : List PyData} {t : Str}, t ∈ PyData.shownAll xs → ∃ x ∈ xs, t = x.shown
  | x :: xs, t, h => by
    simp only [PyData.shownAll] at h
    rcases List.mem_cons.mp h with rfl | h
    · exact ⟨x, List.mem_cons_self, rfl⟩
    · obtain ⟨y, hy, e⟩ := shownAll_mem h
      exact ⟨y, List.mem_cons_of_mem _ hy, e⟩
/-- data whose text is short -/
structure Sw (w : Nat) (d : PyData) : Prop where
  sh : d.showable = true
  lv : d.leavesShort 12 = true
  we : d.weight ≤ w
  tx : PyData.strOk d.shown = true
theorem Sw.le {w v : Nat} {d : PyData} (h : Sw w d) (l : w ≤ v) : Sw v d := ⟨h.sh, h.lv, Nat.le_trans h.we l, h.tx⟩
theorem Sw.bool {b : Bool} : Sw 0 (.bool b) := ⟨by simp [PyData.showable], by simp [PyData.leavesShort], by simp [PyData.weight], by cases b <;> decide +kernel⟩
theorem Sw.int {i : Int} (h0 : 0 ≤ i) (h1 : i < 1000000000) : Sw 30 (.int i) := by
  obtain ⟨n, rfl⟩ := Int.eq_ofNat_of_zero_le h0
  have hn : n < 10 ^ 9 := by
    have : (10 : Nat) ^ 9 = 1000000000 := by decide
    omega
  have hlog : n.log2 < 30 := by
    rcases Nat.eq_zero_or_pos n with z | z
    · subst z; decide
    · exact (Nat.log2_lt (by omega)).mpr (by have : (2 : Nat) ^ 30 = 1073741824 := by decide
                                             omega)
  refine ⟨?_, ?_, ?_, ?_⟩
  · simp only [PyData.showable, Int.natAbs_natCast, decide_eq_true_eq]; omega
  · simp only [PyData.leavesShort, decide_eq_true_eq]
    have e : (PyData.shown (.int (n : Int))).length = (TL.numL n).length := by
      rw [← TL.tl_num n]; simp only [PyData.shown]; rfl
    rw [e]
    exact Nat.le_trans (TL.numL_len (by decide) hn) (by decide)
  · simp only [PyData.weight, Int.natAbs_natCast]
    split <;> omega
  · simp only [PyData.shown]; exact strOk_of
theorem Sw.sh_all {w : Nat} : ∀ {xs : List PyData}, (∀ x ∈ xs, Sw w x) → PyData.showableAll xs = true
  | [], _ => by simp [PyData.showableAll]
  | x :: xs, h => by simp [PyData.showableAll, (h x List.mem_cons_self).sh, Sw.sh_all fun y hy => h y (List.mem_cons_of_mem _ hy)]
theorem Sw.lv_all {w : Nat} : ∀ {xs : List PyData}, (∀ x ∈ xs, Sw w x) → PyData.leavesShortAll 12 xs = true
  | [], _ => by simp [PyData.leavesShortAll]
  | x :: xs, h => by simp [PyData.leavesShortAll, (h x List.mem_cons_self).lv, Sw.lv_all fun y hy => h y (List.mem_cons_of_mem _ hy)]
theorem Sw.we_all {w : Nat} : ∀ {xs : List PyData}, (∀ x ∈ xs, Sw w x) → PyData.weightAll xs ≤ (w + 1) * xs.length
  | [], _ => by simp [PyData.weightAll]
  | x :: xs, h => by
    have h1 := (h x List.mem_cons_self).we
    have h2 := Sw.we_all fun y hy => h y (List.mem_cons_of_mem _ hy)
    simp only [PyData.weightAll, List.length_cons, Nat.mul_add, Nat.mul_one]; omega
theorem Sw.list {w : Nat} {xs : List PyData} (h : ∀ x ∈ xs, Sw w x) : Sw ((w + 1) * xs.length) (.list xs) where
  sh := by rw [PyData.showable]; exact Sw.sh_all h
  lv := by rw [PyData.leavesShort]; exact Sw.lv_all h
  we := by rw [PyData.weight]; exact Sw.we_all h
  tx := by
    simp only [PyData.shown]
    unfold listText
    exact strOk_app (strOk_from strOk_of fun t ht => by
      obtain ⟨x, hx, rfl⟩ := shownAll_mem ht; exact (h x hx).tx) strOk_of
theorem Sw.tup {w : Nat} {xs : List PyData} (h : ∀ x ∈ xs, Sw w x) : Sw ((w + 1) * xs.length) (.tuple xs) where
  sh := by rw [PyData.showable]; exact Sw.sh_all h
  lv := by rw [PyData.leavesShort]; exact Sw.lv_all h
  we := by rw [PyData.weight]; exact Sw.we_all h
  tx := by
    simp only [PyData.shown]
    unfold tupleText
    exact strOk_app (strOk_app strOk_of (strOk_join strOk_of fun t ht => by
      obtain ⟨x, hx, rfl⟩ := shownAll_mem ht; exact (h x hx).tx)) strOk_of
theorem Sw.len {w : Nat} {d : PyData} (h : Sw w d) (hw : w ≤ 50000) : d.shown.length ≤ 1000000 := by
  have := PyData.shown_le 12 (by decide) d h.lv
  have h2 := h.we
  have : (12 + 2) * d.weight ≤ 14 * 50000 := Nat.mul_le_mul (by decide) (by omega)
  omega
theorem Sw.ok {w : Nat} {d : PyData} (h : Sw w d) : okD (.str d.shown) = true := okD_str h.tx
/-- the text of data -/
theorem repr_ok {w : Nat} {d : PyData} {Q : PyData → Prop} (h : Sw w d) (hw : w ≤ 50000) (ho : okD d = true) (q : Q (.str d.shown)) : wG gRepr [d] Q := by
  rw [repr_d]
  exact ⟨⟨ho, h.sh, h.len hw⟩, q⟩
end FP
namespace My
open PySem L2 FP
def top (i : Nat) : Stmt := PySem.Challenge.pw_howmanyslips_k26_numbers_among_any_value.main.body.getD i (.Pass ⟨0, 0, 0, 0⟩)
structure Txt (mg : Str → Option Value) : Prop where
  b_bool : mg "bool" = none
  b_int : mg "int" = none
  b_isinstance : mg "isinstance" = none
  b_len : mg "len" = none
  b_list : mg "list" = none
  b_max : mg "max" = none
  b_range : mg "range" = none
  b_repr : mg "repr" = none
  b_str : mg "str" = none
  b_tuple : mg "tuple" = none
abbrev s_is_integer_from : Stmt := top 4
abbrev N_is_integer_from : List Str := ["thing", "least"]
theorem sc_is_integer_from : FnScope N_is_integer_from ["thing", "least"] (defScope s_is_integer_from) := ⟨rfl, rfl, rfl, by decide +kernel, rfl, by decide +kernel, by decide +kernel⟩
def g_is_integer_from : FSt := (gRet (fAnd (fIsi isInt (fN 0)) (fAnd (fNot (fIsi isBool (fN 0))) (fBin gGe (fN 0) (fN 1)))))
def m_is_integer_from : GL := runP 2 2 g_is_integer_from
theorem c_is_integer_from {P : Program} {w : World} {K : PySem.W.Frag} {mg : Str → Option Value} {base : Heap} (T : Txt mg) (O : OwnF K mg "is_integer_from" s_is_integer_from ["thing", "least"]) :
    Callee P w K mg base "is_integer_from" s_is_integer_from 1 ["thing", "least"] (spP K m_is_integer_from) := by
  obtain ⟨f, fd, Fn, hm, hb⟩ := O
  refine ⟨f, fd, ?_, hm, Fn.kp, hb, Fn⟩
  show FnG P w K mg base CX0 1 f fd ["thing", "least"] (spP K (runP 2 2 g_is_integer_from))
  refine mkP (k := 0) 2 2 (fun i => false) g_is_integer_from rfl rfl Fn sc_is_integer_from (by decide) (fun cdv A outer s H E hr gd => ?_)
  exact (fss_one (fs_ret (fe_and (fe_isi isT_int (fe_name (pv 0)) rfl T.b_isinstance rfl T.b_int (by decide +kernel)) (fe_and (fe_not (fe_isi isT_bool (fe_name (pv 0)) rfl T.b_isinstance rfl T.b_bool (by decide +kernel))) (fe_one (fe_cmp op_ge dop_cmp (fe_name (pv 0)) (fe_name (pv 1))))))))
abbrev s_rank : Stmt := top 9
abbrev N_rank : List Str := ["number"]
theorem sc_rank : FnScope N_rank ["number"] (defScope s_rank) := ⟨rfl, rfl, rfl, by decide +kernel, rfl, by decide +kernel, by decide +kernel⟩
def g_rank : FSt := (gSeq (gIf (fTB (fBin gEq (fN 0) (fC (.str "ever")))) (gRet (fTup (fCons (fC (.int 2)) (fCons (fC (.int 0)) fNil)))) gNil)
      (gRet (fIf (fTB (fBin gEq (fN 0) (fC (.str "any")))) (fTup (fCons (fC (.int 1)) (fCons (fC (.int 0)) fNil))) (fTup (fCons (fC (.int 0)) (fCons (fImm (fN 0)) fNil))))))
def m_rank : GL := runP 1 1 g_rank
theorem c_rank {P : Program} {w : World} {K : PySem.W.Frag} {mg : Str → Option Value} {base : Heap} (T : Txt mg) (O : OwnF K mg "rank" s_rank ["number"]) :
    Callee P w K mg base "rank" s_rank 1 ["number"] (spP K m_rank) := by
  obtain ⟨f, fd, Fn, hm, hb⟩ := O
  refine ⟨f, fd, ?_, hm, Fn.kp, hb, Fn⟩
  show FnG P w K mg base CX0 1 f fd ["number"] (spP K (runP 1 1 g_rank))
  refine mkP (k := 0) 1 1 (fun i => false) g_rank rfl rfl Fn sc_rank (by decide) (fun cdv A outer s H E hr gd => ?_)
  exact (fss_cons (fs_if (ft_cmp (op_eqD hr.units) dop_eq (fe_name (pv 0)) fe_str) (fss_one (fs_ret (fe_tup (fa_cons fe_int (fa_cons fe_int fa_nil))))) fss_nil)
      (fss_one (fs_ret (fe_if (ft_cmp (op_eqD hr.units) dop_eq (fe_name (pv 0)) fe_str) (fe_tup (fa_cons fe_int (fa_cons fe_int fa_nil))) (fe_tup (fa_cons fe_int (fa_cons (fe_imm (fe_name (pv 0))) fa_nil)))))))
abbrev s__law_deck : Stmt := top 11
abbrev N__law_deck : List Str := ["script", "mixed", "cell"]
theorem sc__law_deck : FnScope N__law_deck ["script"] (defScope s__law_deck) := ⟨rfl, rfl, rfl, by decide +kernel, rfl, by decide +kernel, by decide +kernel⟩
def g__law_deck : FSt := (gSet 1 (fBin gMod (fB gInt (fCons (fBin gAdd (fBin gAdd (fBin gMul (fN 1) (fC (.int 48271))) (fBin gMod (fB gInt (fCons (fN 2) fNil)) (fC (.int 2147483629)))) (fC (.int 26))) fNil)) (fC (.int 2147483563))))
def m__law_deck : List Int → Option PyData := mDeck 63 15371026 (hName 2) g__law_deck
theorem c__law_deck {P : Program} {w : World} {K : PySem.W.Frag} {mg : Str → Option Value} {base : Heap} (T : Txt mg) (O : OwnF K mg "_law_deck" s__law_deck ["script"]) :
    Callee P w K mg base "_law_deck" s__law_deck 1 ["script"] (spDk K m__law_deck) := by
  obtain ⟨f, fd, Fn, hm, hb⟩ := O
  refine ⟨f, fd, ?_, hm, Fn.kp, hb, Fn⟩
  refine deck_ok (k := 0) (n := 63) (c := 15371026) (h := hName 2) (g := g__law_deck) rfl Fn sc__law_deck rfl fun cdv A outer s H E hr gd => ⟨?_, ?_, ?_⟩
  · exact (fs_setP (i := 1) sc__law_deck.nd rfl (by first | exact .inl rfl | exact .inr rfl) fe_int)
  · exact deck_for (n := 63) PassesOwn.never rfl (pe_slice sl_list (pv 0) po_none (po_some pe_int)) (fg_name (i := 2) sc__law_deck.nd rfl (by first | exact .inl rfl | exact .inr rfl)) (fss_one (fs_setP (i := 1) sc__law_deck.nd rfl (by first | exact .inl rfl | exact .inr rfl) (fe_op op_mod dop_mod (fe_callTy call_int1 dc_int rfl T.b_int (by decide +kernel) (fa_cons (fe_op op_addU dop_add (fe_op op_addU dop_add (fe_op op_mulU dop_mul (fe_name (pv 1)) fe_int) (fe_op op_mod dop_mod (fe_callTy call_int1 dc_int rfl T.b_int (by decide +kernel) (fa_cons (fe_name (pv 2)) fa_nil)) fe_int)) fe_int) fa_nil)) fe_int)))
  · exact deck_ret (n := 63) rfl rfl T.b_list (pe_slice sl_list (pv 0) po_none (po_some pe_int)) (pv 1) pe_int
abbrev s__law_draw : Stmt := top 12
abbrev N__law_draw : List Str := ["deck", "many", "figure", "cell"]
theorem sc__law_draw : FnScope N__law_draw ["deck", "many"] (defScope s__law_draw) := ⟨rfl, rfl, rfl, by decide +kernel, rfl, by decide +kernel, by decide +kernel⟩
def g__law_draw : FSt := (gSeq (gDput 0 (fC (.str "draws")) (fBin gAdd (fBin gDix0 (fN 0) (fC (.str "draws"))) (fC (.int 1))))
      (gSeq (gSet 2 (fBin gAdd (fBin gDix0 (fN 0) (fC (.str "mixed"))) (fBin gMul (fC (.int 57041)) (fBin gDix0 (fN 0) (fC (.str "draws"))))))
      (gSeq (gIf (fTB (fBin gNe (fBin gDix0 (fN 0) (fC (.str "left"))) (fLst fNil))) (gSeq (gSet 3 (fDpop 0 "left"))
      (gSeq (gIf (fTB (fBin gGe (fN 3) (fBin gPow (fC (.int 10)) (fC (.int 18))))) (gSeq (gDrop (fDappend 0 "left" (fBin gDiv (fN 3) (fB gMax2 (fCons (fC (.int 2)) (fCons (fN 1) fNil))))))
      (gRet (fBin gMod (fB gInt (fCons (fN 3) fNil)) (fN 1)))) gNil)
      (gSet 2 (fBin gAdd (fN 2) (fBin gMod (fB gInt (fCons (fN 3) fNil)) (fC (.int 2147483629))))))) gNil)
      (gSeq (gSet 2 (fBin gMod (fB gInt (fCons (fBin gAdd (fBin gMul (fN 2) (fC (.int 39373))) (fC (.int 26))) fNil)) (fC (.int 2147483647))))
      (gSeq (gSet 2 (fBin gMod (fB gInt (fCons (fBin gAdd (fBin gAdd (fBin gMul (fN 2) (fN 2)) (fBin gMul (fC (.int 63029)) (fBin gDix0 (fN 0) (fC (.str "draws"))))) (fC (.int 26))) fNil)) (fC (.int 2147483587))))
      (gSeq (gSet 2 (fBin gMod (fB gInt (fCons (fBin gMul (fN 2) (fC (.int 69621))) fNil)) (fC (.int 2147483563))))
      (gRet (fBin gMod (fB gInt (fCons (fBin gDiv (fN 2) (fC (.int 64))) fNil)) (fN 1)))))))))
def m__law_draw : MI := runI 2 4 g__law_draw
theorem c__law_draw {P : Program} {w : World} {K : PySem.W.Frag} {mg : Str → Option Value} {base : Heap} (T : Txt mg) (O : OwnF K mg "_law_draw" s__law_draw ["deck", "many"]) :
    Callee P w K mg base "_law_draw" s__law_draw 1 ["deck", "many"] (spI K m__law_draw) := by
  obtain ⟨f, fd, Fn, hm, hb⟩ := O
  refine ⟨f, fd, ?_, hm, Fn.kp, hb, Fn⟩
  show FnG P w K mg base CX0 1 f fd ["deck", "many"] (spI K (runI 2 4 g__law_draw))
  refine mkI (k := 0) 2 4 (fun i => i == 0) g__law_draw rfl rfl Fn sc__law_draw rfl (by decide) (fun cdv A outer s H E hr gd => ?_)
  exact (fss_cons (fs_dput (i := 0) hr (pv 0) rfl fe_str (fe_op op_addU dop_add (fe_dix0 hr (fe_name0 (pv 0)) fe_str) fe_int))
      (fss_cons (fs_setP (i := 2) sc__law_draw.nd rfl (by first | exact .inl rfl | exact .inr rfl) (fe_op op_addU dop_add (fe_dix0 hr (fe_name0 (pv 0)) fe_str) (fe_op op_mulU dop_mul fe_int (fe_dix0 hr (fe_name0 (pv 0)) fe_str))))
      (fss_cons (fs_if (ft_cmp (op_neD hr.units) dop_ne (fe_dix0 hr (fe_name0 (pv 0)) fe_str) (fe_lst fa_nil)) (fss_cons (fs_setP (i := 3) sc__law_draw.nd rfl (by first | exact .inl rfl | exact .inr rfl) (fe_dpop (i := 0) hr (pv 0) rfl))
      (fss_cons (fs_if (ft_cmp op_ge dop_cmp (fe_name (pv 3)) (fe_op op_pow dop_pow fe_int fe_int)) (fss_cons (fs_expr (fe_dappend (i := 0) hr (pv 0) rfl (fe_op op_fdiv dop_div (fe_name (pv 3)) (fe_callB (call_max2 rfl) dc_max2 rfl T.b_max (by decide +kernel) (fa_cons fe_int (fa_cons (fe_name (pv 1)) fa_nil))))))
      (fss_one (fs_ret (fe_op op_mod dop_mod (fe_callTy call_int1 dc_int rfl T.b_int (by decide +kernel) (fa_cons (fe_name (pv 3)) fa_nil)) (fe_name (pv 1)))))) fss_nil)
      (fss_one (fs_setP (i := 2) sc__law_draw.nd rfl (by first | exact .inl rfl | exact .inr rfl) (fe_op op_addU dop_add (fe_name (pv 2)) (fe_op op_mod dop_mod (fe_callTy call_int1 dc_int rfl T.b_int (by decide +kernel) (fa_cons (fe_name (pv 3)) fa_nil)) fe_int)))))) fss_nil)
      (fss_cons (fs_setP (i := 2) sc__law_draw.nd rfl (by first | exact .inl rfl | exact .inr rfl) (fe_op op_mod dop_mod (fe_callTy call_int1 dc_int rfl T.b_int (by decide +kernel) (fa_cons (fe_op op_addU dop_add (fe_op op_mulU dop_mul (fe_name (pv 2)) fe_int) fe_int) fa_nil)) fe_int))
      (fss_cons (fs_setP (i := 2) sc__law_draw.nd rfl (by first | exact .inl rfl | exact .inr rfl) (fe_op op_mod dop_mod (fe_callTy call_int1 dc_int rfl T.b_int (by decide +kernel) (fa_cons (fe_op op_addU dop_add (fe_op op_addU dop_add (fe_op op_mulU dop_mul (fe_name (pv 2)) (fe_name (pv 2))) (fe_op op_mulU dop_mul fe_int (fe_dix0 hr (fe_name0 (pv 0)) fe_str))) fe_int) fa_nil)) fe_int))
      (fss_cons (fs_setP (i := 2) sc__law_draw.nd rfl (by first | exact .inl rfl | exact .inr rfl) (fe_op op_mod dop_mod (fe_callTy call_int1 dc_int rfl T.b_int (by decide +kernel) (fa_cons (fe_op op_mulU dop_mul (fe_name (pv 2)) fe_int) fa_nil)) fe_int))
      (fss_one (fs_ret (fe_op op_mod dop_mod (fe_callTy call_int1 dc_int rfl T.b_int (by decide +kernel) (fa_cons (fe_op op_fdiv dop_div (fe_name (pv 2)) fe_int) fa_nil)) (fe_name (pv 1)))))))))))
abbrev s__law_is_int : Stmt := top 14
abbrev N__law_is_int : List Str := ["thing", "low"]
theorem sc__law_is_int : FnScope N__law_is_int ["thing", "low"] (defScope s__law_is_int) := ⟨rfl, rfl, rfl, by decide +kernel, rfl, by decide +kernel, by decide +kernel⟩
def g__law_is_int : FSt := (gRet (fAnd (fIsi isInt (fN 0)) (fAnd (fNot (fIsi isBool (fN 0))) (fBin gGe (fN 0) (fN 1)))))
def m__law_is_int : GL := runP 2 2 g__law_is_int
theorem c__law_is_int {P : Program} {w : World} {K : PySem.W.Frag} {mg : Str → Option Value} {base : Heap} (T : Txt mg) (O : OwnF K mg "_law_is_int" s__law_is_int ["thing", "low"]) :
    Callee P w K mg base "_law_is_int" s__law_is_int 1 ["thing", "low"] (spP K m__law_is_int) := by
  obtain ⟨f, fd, Fn, hm, hb⟩ := O
  refine ⟨f, fd, ?_, hm, Fn.kp, hb, Fn⟩
  show FnG P w K mg base CX0 1 f fd ["thing", "low"] (spP K (runP 2 2 g__law_is_int))
  refine mkP (k := 0) 2 2 (fun i => false) g__law_is_int rfl rfl Fn sc__law_is_int (by decide) (fun cdv A outer s H E hr gd => ?_)
  exact (fss_one (fs_ret (fe_and (fe_isi isT_int (fe_name (pv 0)) rfl T.b_isinstance rfl T.b_int (by decide +kernel)) (fe_and (fe_not (fe_isi isT_bool (fe_name (pv 0)) rfl T.b_isinstance rfl T.b_bool (by decide +kernel))) (fe_one (fe_cmp op_ge dop_cmp (fe_name (pv 0)) (fe_name (pv 1))))))))
abbrev s__law_rank : Stmt := top 16
abbrev N__law_rank : List Str := ["number"]
theorem sc__law_rank : FnScope N__law_rank ["number"] (defScope s__law_rank) := ⟨rfl, rfl, rfl, by decide +kernel, rfl, by decide +kernel, by decide +kernel⟩
def g__law_rank : FSt := (gRet (fIf (fTru (fIsi isInt (fN 0))) (fTup (fCons (fC (.int 0)) (fCons (fImm (fN 0)) fNil))) (fIf (fTB (fBin gEq (fN 0) (fC (.str "any")))) (fTup (fCons (fC (.int 1)) (fCons (fC (.int 0)) fNil))) (fTup (fCons (fC (.int 2)) (fCons (fC (.int 0)) fNil))))))
def m__law_rank : GL := runP 1 1 g__law_rank
theorem c__law_rank {P : Program} {w : World} {K : PySem.W.Frag} {mg : Str → Option Value} {base : Heap} (T : Txt mg) (O : OwnF K mg "_law_rank" s__law_rank ["number"]) :
    Callee P w K mg base "_law_rank" s__law_rank 1 ["number"] (spP K m__law_rank) := by
  obtain ⟨f, fd, Fn, hm, hb⟩ := O
  refine ⟨f, fd, ?_, hm, Fn.kp, hb, Fn⟩
  show FnG P w K mg base CX0 1 f fd ["number"] (spP K (runP 1 1 g__law_rank))
  refine mkP (k := 0) 1 1 (fun i => false) g__law_rank rfl rfl Fn sc__law_rank (by decide) (fun cdv A outer s H E hr gd => ?_)
  exact (fss_one (fs_ret (fe_if (ft_truth (fe_isi isT_int (fe_name (pv 0)) rfl T.b_isinstance rfl T.b_int (by decide +kernel))) (fe_tup (fa_cons fe_int (fa_cons (fe_imm (fe_name (pv 0))) fa_nil))) (fe_if (ft_cmp (op_eqD hr.units) dop_eq (fe_name (pv 0)) fe_str) (fe_tup (fa_cons fe_int (fa_cons fe_int fa_nil))) (fe_tup (fa_cons fe_int (fa_cons fe_int fa_nil)))))))
abbrev s_is_number : Stmt := top 6
abbrev N_is_number : List Str := ["thing"]
theorem sc_is_number : FnScope N_is_number ["thing"] (defScope s_is_number) := ⟨rfl, rfl, rfl, by decide +kernel, rfl, by decide +kernel, by decide +kernel⟩
def g_is_number : FSt := (gRet (fOr (fCall m_is_integer_from (fCons (fN 0) (fCons (fC (.int 0)) fNil))) (fBin gInV (fN 0) (fTup (fCons (fC (.str "any")) (fCons (fC (.str "ever")) fNil))))))
def m_is_number : GL := runP 1 1 g_is_number
theorem c_is_number {P : Program} {w : World} {K : PySem.W.Frag} {mg : Str → Option Value} {base : Heap} (T : Txt mg) (O : OwnF K mg "is_number" s_is_number ["thing"]) (C_is_integer_from : Callee P w K mg base "is_integer_from" s_is_integer_from 1 ["thing", "least"] (spP K m_is_integer_from)) :
    Callee P w K mg base "is_number" s_is_number 2 ["thing"] (spP K m_is_number) := by
  obtain ⟨f, fd, Fn, hm, hb⟩ := O
  refine ⟨f, fd, ?_, hm, Fn.kp, hb, Fn⟩
  show FnG P w K mg base CX0 2 f fd ["thing"] (spP K (runP 1 1 g_is_number))
  refine mkP (k := 1) 1 1 (fun i => false) g_is_number rfl rfl Fn sc_is_number (by decide) (fun cdv A outer s H E hr gd => ?_)
  exact (fss_one (fs_ret (fe_or (fe_cP C_is_integer_from gd hr (by decide) rfl (fa_cons (fe_name (pv 0)) (fa_cons fe_int fa_nil))) (fe_one (fe_cmp (op_inV (Room.units1 hr)) dop_inV (fe_name (pv 0)) (fe_tup (fa_cons fe_str (fa_cons fe_str fa_nil))))))))
abbrev s__law_pick : Stmt := top 13
abbrev N__law_pick : List Str := ["deck", "some"]
theorem sc__law_pick : FnScope N__law_pick ["deck", "some"] (defScope s__law_pick) := ⟨rfl, rfl, rfl, by decide +kernel, rfl, by decide +kernel, by decide +kernel⟩
def g__law_pick : FX := (fCallI m__law_draw 0 (fCons (fB gLen (fCons (fN 1) fNil)) fNil))
def m__law_pick : MI := runPick 2 g__law_pick
theorem c__law_pick {P : Program} {w : World} {K : PySem.W.Frag} {mg : Str → Option Value} {base : Heap} (T : Txt mg) (O : OwnF K mg "_law_pick" s__law_pick ["deck", "some"]) (C__law_draw : Callee P w K mg base "_law_draw" s__law_draw 1 ["deck", "many"] (spI K m__law_draw)) :
    Callee P w K mg base "_law_pick" s__law_pick 2 ["deck", "some"] (spIr K m__law_pick) := by
  obtain ⟨f, fd, Fn, hm, hb⟩ := O
  refine ⟨f, fd, ?_, hm, Fn.kp, hb, Fn⟩
  show FnG P w K mg base CX0 2 f fd ["deck", "some"] (spIr K (runPick 2 g__law_pick))
  refine mkPick (k := 1) 2 g__law_pick rfl rfl Fn sc__law_pick rfl (by intro _ _; rfl) (fun cdv A outer s H E hr gd => ⟨?_, ?_⟩)
  · exact pv 1
  · exact (fe_cI C__law_draw gd hr (by decide) rfl (pv 0) rfl (fa_cons (fe_callB call_lenU dc_len rfl T.b_len (by decide +kernel) (fa_cons (fe_name (pv 1)) fa_nil)) fa_nil))
abbrev s__law_is_number : Stmt := top 15
abbrev N__law_is_number : List Str := ["thing"]
theorem sc__law_is_number : FnScope N__law_is_number ["thing"] (defScope s__law_is_number) := ⟨rfl, rfl, rfl, by decide +kernel, rfl, by decide +kernel, by decide +kernel⟩
def g__law_is_number : FSt := (gRet (fOr (fCall m__law_is_int (fCons (fN 0) (fCons (fC (.int 0)) fNil))) (fAnd (fIsi isStr (fN 0)) (fBin gIn (fN 0) (fTup (fCons (fC (.str "any")) (fCons (fC (.str "ever")) fNil)))))))
def m__law_is_number : GL := runP 1 1 g__law_is_number
theorem c__law_is_number {P : Program} {w : World} {K : PySem.W.Frag} {mg : Str → Option Value} {base : Heap} (T : Txt mg) (O : OwnF K mg "_law_is_number" s__law_is_number ["thing"]) (C__law_is_int : Callee P w K mg base "_law_is_int" s__law_is_int 1 ["thing", "low"] (spP K m__law_is_int)) :
    Callee P w K mg base "_law_is_number" s__law_is_number 2 ["thing"] (spP K m__law_is_number) := by
  obtain ⟨f, fd, Fn, hm, hb⟩ := O
  refine ⟨f, fd, ?_, hm, Fn.kp, hb, Fn⟩
  show FnG P w K mg base CX0 2 f fd ["thing"] (spP K (runP 1 1 g__law_is_number))
  refine mkP (k := 1) 1 1 (fun i => false) g__law_is_number rfl rfl Fn sc__law_is_number (by decide) (fun cdv A outer s H E hr gd => ?_)
  exact (fss_one (fs_ret (fe_or (fe_cP C__law_is_int gd hr (by decide) rfl (fa_cons (fe_name (pv 0)) (fa_cons fe_int fa_nil))) (fe_one (fe_and (fe_isi isT_str (fe_name (pv 0)) rfl T.b_isinstance rfl T.b_str (by decide +kernel)) (fe_one (fe_cmp (op_inU (Room.units1 hr)) dop_in (fe_name (pv 0)) (fe_tup (fa_cons fe_str (fa_cons fe_str fa_nil))))))))))
abbrev s_require_number : Stmt := top 7
abbrev N_require_number : List Str := ["thing"]
theorem sc_require_number : FnScope N_require_number ["thing"] (defScope s_require_number) := ⟨rfl, rfl, rfl, by decide +kernel, rfl, by decide +kernel, by decide +kernel⟩
def g_require_number : FSt := (gIf (fTNot (fTru (fCall m_is_number (fCons (fN 0) fNil)))) gNo gNil)
def m_require_number : GL := runP 1 1 g_require_number
theorem c_require_number {P : Program} {w : World} {K : PySem.W.Frag} {mg : Str → Option Value} {base : Heap} (T : Txt mg) (O : OwnF K mg "require_number" s_require_number ["thing"]) (C_is_number : Callee P w K mg base "is_number" s_is_number 2 ["thing"] (spP K m_is_number)) :
    Callee P w K mg base "require_number" s_require_number 3 ["thing"] (spP K m_require_number) := by
  obtain ⟨f, fd, Fn, hm, hb⟩ := O
  refine ⟨f, fd, ?_, hm, Fn.kp, hb, Fn⟩
  show FnG P w K mg base CX0 3 f fd ["thing"] (spP K (runP 1 1 g_require_number))
  refine mkP (k := 2) 1 1 (fun i => false) g_require_number rfl rfl Fn sc_require_number (by decide) (fun cdv A outer s H E hr gd => ?_)
  exact (fss_one (fs_if (ft_not (ft_truth (fe_cP C_is_number gd hr (by decide) rfl (fa_cons (fe_name (pv 0)) fa_nil)))) (fss_one fs_no) fss_nil))
abbrev s__law_leaf : Stmt := top 17
abbrev N__law_leaf : List Str := ["deck", "thing", "odd"]
theorem sc__law_leaf : FnScope N__law_leaf ["deck", "thing"] (defScope s__law_leaf) := ⟨rfl, rfl, rfl, by decide +kernel, rfl, by decide +kernel, by decide +kernel⟩
def g__law_leaf : FSt := (gSeq (gSet 2 (fLst (fCons (fC .none) (fCons (fC (.bool true)) (fCons (fC (.bool false)) (fCons (fC (.int 0)) (fCons (fC (.int 1)) (fCons (fC (.int 2)) (fCons (gNeg (fC (.int 1))) (fCons (fC (.str "")) (fCons (fC (.str "any")) (fCons (fC (.str "ever")) (fCons (fC (.str "numbers")) (fCons (fTup fNil) (fCons (fLst fNil) (fCons (fC (.dict [])) (fCons (fBin gPow (fC (.int 10)) (fC (.int 39))) (fCons (fTup (fCons (fTup fNil) fNil)) (fCons (fTup (fCons (fC (.int 0)) fNil)) fNil)))))))))))))))))))
      (gSeq (gIf (fTAnd (fTru (fIsi isTup (fN 1))) (fTB (fBin gGt (fCallI m__law_draw 0 (fCons (fC (.int 5)) fNil)) (fC (.int 0))))) (gRet (fImm (fCallI m__law_pick 0 (fCons (fLst (fCons (fB gList (fCons (fN 1) fNil)) (fCons fNo (fCons (fSl gSl (fN 1) (fPart (fC (.int 1))) fNoP) (fCons (fBin gAdd (fN 1) (fSl gSl (fN 1) (fPart (gNeg (fC (.int 1)))) fNoP)) (fCons (fBin gAdd (fN 1) (fTup (fCons (fC (.int 0)) fNil))) (fCons (fSl gSl (fN 1) fNoP (fPart (gNeg (fC (.int 1))))) (fCons (fTup (fCons (fN 1) fNil)) (fCons (fBin gAdd (fN 1) (fTup (fCons (fC .none) fNil))) fNil))))))))) fNil)))) gNil)
      (gSeq (gIf (fTAnd (fTru (fIsi isStr (fN 1))) (fTB (fBin gGt (fCallI m__law_draw 0 (fCons (fC (.int 5)) fNil)) (fC (.int 0))))) (gRet (fImm (fCallI m__law_pick 0 (fCons (fLst (fCons (fBin gAdd (fN 1) (fC (.str "s"))) (fCons (fSl gSl (fN 1) fNoP (fPart (gNeg (fC (.int 1))))) (fCons (fB gUpper (fCons (fN 1) fNil)) (fCons (fBin gAdd (fN 1) (fC (.str " "))) (fCons (fTup (fCons (fN 1) fNil)) (fCons (fC (.str "any")) (fCons (fC (.str "ever")) (fCons (fC (.int 0)) fNil))))))))) fNil)))) gNil)
      (gSeq (gIf (fTAnd (fTru (fIsi isInt (fN 1))) (fTB (fBin gGt (fCallI m__law_draw 0 (fCons (fC (.int 5)) fNil)) (fC (.int 0))))) (gRet (fImm (fCallI m__law_pick 0 (fCons (fLst (fCons (fBin gAdd (fN 1) (fC (.int 1))) (fCons (fBin gSub (fN 1) (fC (.int 1))) (fCons (fBin gEq (fN 1) (fC (.int 1))) (fCons (fB gStr (fCons (fN 1) fNil)) (fCons (fTup (fCons (fN 1) fNil)) (fCons (fBin gAdd (fN 1) (fC (.int 2))) (fCons (fC (.str "any")) (fCons (fC (.str "ever")) fNil))))))))) fNil)))) gNil)
      (gRet (fCallI m__law_pick 0 (fCons (fN 2) fNil)))))))
def m__law_leaf : MI := runI 2 3 g__law_leaf
theorem c__law_leaf {P : Program} {w : World} {K : PySem.W.Frag} {mg : Str → Option Value} {base : Heap} (T : Txt mg) (O : OwnF K mg "_law_leaf" s__law_leaf ["deck", "thing"]) (C__law_draw : Callee P w K mg base "_law_draw" s__law_draw 1 ["deck", "many"] (spI K m__law_draw)) (C__law_pick : Callee P w K mg base "_law_pick" s__law_pick 2 ["deck", "some"] (spIr K m__law_pick)) :
    Callee P w K mg base "_law_leaf" s__law_leaf 3 ["deck", "thing"] (spI K m__law_leaf) := by
  obtain ⟨f, fd, Fn, hm, hb⟩ := O
  refine ⟨f, fd, ?_, hm, Fn.kp, hb, Fn⟩
  show FnG P w K mg base CX0 3 f fd ["deck", "thing"] (spI K (runI 2 3 g__law_leaf))
  refine mkI (k := 2) 2 3 (fun i => i == 0 || i == 2) g__law_leaf rfl rfl Fn sc__law_leaf rfl (by decide) (fun cdv A outer s H E hr gd => ?_)
  exact (fss_cons (fs_setO (i := 2) sc__law_leaf.nd rfl (by first | exact .inl rfl | exact .inr rfl) (fe_lst (fa_cons fe_non (fa_cons fe_bl (fa_cons fe_bl (fa_cons fe_int (fa_cons fe_int (fa_cons fe_int (fa_cons (fe_neg fe_int) (fa_cons fe_str (fa_cons fe_str (fa_cons fe_str (fa_cons fe_str (fa_cons (fe_tup fa_nil) (fa_cons (fe_lst fa_nil) (fa_cons fe_dnew (fa_cons (fe_op op_pow dop_pow fe_int fe_int) (fa_cons (fe_tup (fa_cons (fe_tup fa_nil) fa_nil)) (fa_cons (fe_tup (fa_cons fe_int fa_nil)) fa_nil)))))))))))))))))))
      (fss_cons (fs_if (ft_pw (fw_and (ft_truth (fe_isi isT_tuple (fe_name (pv 1)) rfl T.b_isinstance rfl T.b_tuple (by decide +kernel))) (fw_and1 (ft_cmp op_gt dop_cmp (fe_cI C__law_draw gd hr (by decide) rfl (pv 0) rfl (fa_cons fe_int fa_nil)) fe_int)))) (fss_one (fs_ret (fe_imm (fe_cIr C__law_pick gd hr (by decide) rfl (pv 0) rfl (fa_cons (fe_lst (fa_cons (fe_callTy call_list_of dc_list rfl T.b_list (by decide +kernel) (fa_cons (fe_name (pv 1)) fa_nil)) (fa_cons (fe_no (c := 2) (p := true)) (fa_cons (fe_slice sl_U ds_sl (fe_name (pv 1)) (fo_some fe_int) fo_none) (fa_cons (fe_op op_addU dop_add (fe_name (pv 1)) (fe_slice sl_U ds_sl (fe_name (pv 1)) (fo_some (fe_neg fe_int)) fo_none)) (fa_cons (fe_op op_addU dop_add (fe_name (pv 1)) (fe_tup (fa_cons fe_int fa_nil))) (fa_cons (fe_slice sl_U ds_sl (fe_name (pv 1)) fo_none (fo_some (fe_neg fe_int))) (fa_cons (fe_tup (fa_cons (fe_name (pv 1)) fa_nil)) (fa_cons (fe_op op_addU dop_add (fe_name (pv 1)) (fe_tup (fa_cons fe_non fa_nil))) fa_nil))))))))) fa_nil))))) fss_nil)
      (fss_cons (fs_if (ft_pw (fw_and (ft_truth (fe_isi isT_str (fe_name (pv 1)) rfl T.b_isinstance rfl T.b_str (by decide +kernel))) (fw_and1 (ft_cmp op_gt dop_cmp (fe_cI C__law_draw gd hr (by decide) rfl (pv 0) rfl (fa_cons fe_int fa_nil)) fe_int)))) (fss_one (fs_ret (fe_imm (fe_cIr C__law_pick gd hr (by decide) rfl (pv 0) rfl (fa_cons (fe_lst (fa_cons (fe_op op_addU dop_add (fe_name (pv 1)) fe_str) (fa_cons (fe_slice sl_U ds_sl (fe_name (pv 1)) fo_none (fo_some (fe_neg fe_int))) (fa_cons (fe_m0 PySem.F.slot_str_upper PySem.F.type_str_upper mt_upper dm_upper (fe_name (pv 1))) (fa_cons (fe_op op_addU dop_add (fe_name (pv 1)) fe_str) (fa_cons (fe_tup (fa_cons (fe_name (pv 1)) fa_nil)) (fa_cons fe_str (fa_cons fe_str (fa_cons fe_int fa_nil))))))))) fa_nil))))) fss_nil)
      (fss_cons (fs_if (ft_pw (fw_and (ft_truth (fe_isi isT_int (fe_name (pv 1)) rfl T.b_isinstance rfl T.b_int (by decide +kernel))) (fw_and1 (ft_cmp op_gt dop_cmp (fe_cI C__law_draw gd hr (by decide) rfl (pv 0) rfl (fa_cons fe_int fa_nil)) fe_int)))) (fss_one (fs_ret (fe_imm (fe_cIr C__law_pick gd hr (by decide) rfl (pv 0) rfl (fa_cons (fe_lst (fa_cons (fe_op op_addU dop_add (fe_name (pv 1)) fe_int) (fa_cons (fe_op op_sub dop_sub (fe_name (pv 1)) fe_int) (fa_cons (fe_cmp (op_eqD hr.units) dop_eq (fe_name (pv 1)) fe_int) (fa_cons (fe_callTy call_str_int dc_str rfl T.b_str (by decide +kernel) (fa_cons (fe_name (pv 1)) fa_nil)) (fa_cons (fe_tup (fa_cons (fe_name (pv 1)) fa_nil)) (fa_cons (fe_op op_addU dop_add (fe_name (pv 1)) fe_int) (fa_cons fe_str (fa_cons fe_str fa_nil))))))))) fa_nil))))) fss_nil)
      (fss_one (fs_cIr (i := 0) (i2 := 2) C__law_pick gd hr (by decide) rfl (pv 0) rfl (pv 2) rfl (by decide) rfl))))))
abbrev s__law_any_number : Stmt := top 18
abbrev N__law_any_number : List Str := ["deck"]
theorem sc__law_any_number : FnScope N__law_any_number ["deck"] (defScope s__law_any_number) := ⟨rfl, rfl, rfl, by decide +kernel, rfl, by decide +kernel, by decide +kernel⟩
def g__law_any_number : FSt := (gRet (fCallI m__law_pick 0 (fCons (fLst (fCons (fC (.int 0)) (fCons (fC (.int 1)) (fCons (fC (.int 2)) (fCons (fCallI m__law_draw 0 (fCons (fC (.int 60)) fNil)) (fCons (fBin gSub (fBin gPow (fC (.int 10)) (fC (.int 39))) (fCallI m__law_draw 0 (fCons (fC (.int 5)) fNil))) (fCons (fBin gPow (fC (.int 10)) (fC (.int 20))) (fCons (fBin gPow (fC (.int 10)) (fC (.int 38))) (fCons (fBin gPow (fC (.int 10)) (fC (.int 9))) (fCons (fC (.str "any")) (fCons (fC (.str "ever")) (fCons (fC (.str "any")) (fCons (fC (.str "ever")) fNil))))))))))))) fNil)))
def m__law_any_number : MI := runI 1 1 g__law_any_number
theorem c__law_any_number {P : Program} {w : World} {K : PySem.W.Frag} {mg : Str → Option Value} {base : Heap} (T : Txt mg) (O : OwnF K mg "_law_any_number" s__law_any_number ["deck"]) (C__law_draw : Callee P w K mg base "_law_draw" s__law_draw 1 ["deck", "many"] (spI K m__law_draw)) (C__law_pick : Callee P w K mg base "_law_pick" s__law_pick 2 ["deck", "some"] (spIr K m__law_pick)) :
    Callee P w K mg base "_law_any_number" s__law_any_number 3 ["deck"] (spI K m__law_any_number) := by
  obtain ⟨f, fd, Fn, hm, hb⟩ := O
  refine ⟨f, fd, ?_, hm, Fn.kp, hb, Fn⟩
  show FnG P w K mg base CX0 3 f fd ["deck"] (spI K (runI 1 1 g__law_any_number))
  refine mkI (k := 2) 1 1 (fun i => i == 0) g__law_any_number rfl rfl Fn sc__law_any_number rfl (by decide) (fun cdv A outer s H E hr gd => ?_)
  exact (fss_one (fs_ret (fe_cIr C__law_pick gd hr (by decide) rfl (pv 0) rfl (fa_cons (fe_lst (fa_cons fe_int (fa_cons fe_int (fa_cons fe_int (fa_cons (fe_cI C__law_draw gd hr (by decide) rfl (pv 0) rfl (fa_cons fe_int fa_nil)) (fa_cons (fe_op op_sub dop_sub (fe_op op_pow dop_pow fe_int fe_int) (fe_cI C__law_draw gd hr (by decide) rfl (pv 0) rfl (fa_cons fe_int fa_nil))) (fa_cons (fe_op op_pow dop_pow fe_int fe_int) (fa_cons (fe_op op_pow dop_pow fe_int fe_int) (fa_cons (fe_op op_pow dop_pow fe_int fe_int) (fa_cons fe_str (fa_cons fe_str (fa_cons fe_str (fa_cons fe_str fa_nil))))))))))))) fa_nil))))
abbrev s_is_less : Stmt := top 8
abbrev N_is_less : List Str := ["one", "other"]
theorem sc_is_less : FnScope N_is_less ["one", "other"] (defScope s_is_less) := ⟨rfl, rfl, rfl, by decide +kernel, rfl, by decide +kernel, by decide +kernel⟩
def g_is_less : FSt := (gSeq (gDrop (fCall m_require_number (fCons (fN 0) fNil)))
      (gSeq (gDrop (fCall m_require_number (fCons (fN 1) fNil)))
      (gRet (fBin gLtT (fCall m_rank (fCons (fN 0) fNil)) (fCall m_rank (fCons (fN 1) fNil))))))
def m_is_less : GL := runP 2 2 g_is_less
theorem c_is_less {P : Program} {w : World} {K : PySem.W.Frag} {mg : Str → Option Value} {base : Heap} (T : Txt mg) (O : OwnF K mg "is_less" s_is_less ["one", "other"]) (C_require_number : Callee P w K mg base "require_number" s_require_number 3 ["thing"] (spP K m_require_number)) (C_rank : Callee P w K mg base "rank" s_rank 1 ["number"] (spP K m_rank)) :
    Callee P w K mg base "is_less" s_is_less 4 ["one", "other"] (spP K m_is_less) := by
  obtain ⟨f, fd, Fn, hm, hb⟩ := O
  refine ⟨f, fd, ?_, hm, Fn.kp, hb, Fn⟩
  show FnG P w K mg base CX0 4 f fd ["one", "other"] (spP K (runP 2 2 g_is_less))
  refine mkP (k := 3) 2 2 (fun i => false) g_is_less rfl rfl Fn sc_is_less (by decide) (fun cdv A outer s H E hr gd => ?_)
  exact (fss_cons (fs_expr (fe_cP C_require_number gd hr (by decide) rfl (fa_cons (fe_name (pv 0)) fa_nil)))
      (fss_cons (fs_expr (fe_cP C_require_number gd hr (by decide) rfl (fa_cons (fe_name (pv 1)) fa_nil)))
      (fss_one (fs_ret (fe_cmp (op_ltTP hr.units) dop_ltT (fe_cP C_rank gd hr (by decide) rfl (fa_cons (fe_name (pv 0)) fa_nil)) (fe_cP C_rank gd hr (by decide) rfl (fa_cons (fe_name (pv 1)) fa_nil)))))))
theorem kw_is_number_thing : KwEq "is_number" s_is_number ["thing"] ["thing"] [0] := fun _ _ _ _ _ _ ws h => match ws, h with
  | [a0], _ => rfl
theorem kw_is_less_other_one : KwEq "is_less" s_is_less ["one", "other"] ["other", "one"] [1, 0] := fun _ _ _ _ _ _ ws h => match ws, h with
  | [a0, a1], _ => rfl
abbrev s_law : Stmt := top 19
abbrev N_law : List Str := ["script", "deck", "turn", "one", "other", "due", "told", "some", "thing", "text"]
theorem sc_law : FnScope N_law ["script"] (defScope s_law) := ⟨rfl, rfl, rfl, by decide +kernel, rfl, by decide +kernel, by decide +kernel⟩
def g_law : FSt := (gSeq (gFor (fRange1 (fCons (fC (.int 8)) fNil)) (hName 2) (gSeq (gPar 3 4 (fCons (fCallI m__law_any_number 1 fNil) (fCons (fCallI m__law_any_number 1 fNil) fNil)))
      (gSeq (gSet 5 (fBin gLtT (fCall m__law_rank (fCons (fN 3) fNil)) (fCall m__law_rank (fCons (fN 4) fNil))))
      (gSeq (gSet 6 (fTup (fCons (fCall m_is_less (fCons (fN 3) (fCons (fN 4) fNil))) (fCons (fCallN m_is_less [1, 0] 2 (fCons (fN 4) (fCons (fN 3) fNil))) (fCons (fCall m_is_less (fCons (fN 4) (fCons (fN 3) fNil))) fNil)))))
      (gSeq (gIf (fTB (fBin gNe (fB gReprV (fCons (fN 6) fNil)) (fB gReprV (fCons (fTup (fCons (fN 5) (fCons (fN 5) (fCons (fBin gLtT (fCall m__law_rank (fCons (fN 4) fNil)) (fCall m__law_rank (fCons (fN 3) fNil))) fNil)))) fNil)))) (gRet (fC (.bool false))) gNil)
      (gSeq (gSet 7 (fBin gAdd1 (fBin gAdd1 (fBin gMul (fLst (fCons (fN 3) fNil)) (fC (.int 4))) (fBin gMul1 (fLst (fCons (fCallI m__law_leaf 1 (fCons (fN 3) fNil)) fNil)) (fC (.int 3)))) (fLst (fCons (gNeg (fC (.int 1))) (fCons (fC (.bool true)) (fCons (fC (.bool false)) (fCons (fC (.str "Any")) (fCons (fC (.str "any ")) (fCons (fC (.str "1")) (fCons (fC (.str "")) (fCons (fC .none) (fCons (fTup fNil) (fCons (fLst fNil) (fCons (fC (.dict [])) (fCons (fTup (fCons (fN 3) fNil)) (fCons (fLst (fCons (fN 3) fNil)) (fCons (fTup (fCons (fC (.str "any")) fNil)) (fCons (fC (.str "never")) (fCons (gNeg (fBin gPow (fC (.int 10)) (fC (.int 39)))) fNil)))))))))))))))))))
      (gSeq (gSet 8 (fCallI m__law_pick 1 (fCons (fN 7) fNil)))
      (gSeq (gSet 9 (fB gReprV (fCons (fN 8) fNil)))
      (gSeq (gSet 6 (fTup (fCons (fCall m_is_number (fCons (fN 8) fNil)) (fCons (fCallN m_is_number [0] 1 (fCons (fN 8) fNil)) fNil))))
      (gIf (fTOr (fTB (fBin gNe (fB gReprV (fCons (fN 6) fNil)) (fB gReprV (fCons (fBin gMul (fTup (fCons (fCall m__law_is_number (fCons (fN 8) fNil)) fNil)) (fC (.int 2))) fNil)))) (fTB (fBin gNe (fB gReprV (fCons (fN 8) fNil)) (fN 9)))) (gRet (fC (.bool false))) gNil))))))))))
      (gRet (fBin gEq (fB gReprV (fCons (fTup (fCons (fCall m_is_less (fCons (fC (.int 0)) (fCons (fC (.int 0)) fNil))) (fCons (fCall m_is_less (fCons (fC (.str "any")) (fCons (fC (.str "any")) fNil))) (fCons (fCall m_is_less (fCons (fC (.str "ever")) (fCons (fC (.str "ever")) fNil))) fNil)))) fNil)) (fC (.str "(False, False, False)")))))
def m_law : List Int → Option PyData := mLaw 10 m__law_deck g_law
theorem c_law {P : Program} {w : World} {K : PySem.W.Frag} {mg : Str → Option Value} {base : Heap} (T : Txt mg) (O : OwnF K mg "law" s_law ["script"]) (C__law_deck : Callee P w K mg base "_law_deck" s__law_deck 1 ["script"] (spDk K m__law_deck)) (C__law_any_number : Callee P w K mg base "_law_any_number" s__law_any_number 3 ["deck"] (spI K m__law_any_number)) (C__law_rank : Callee P w K mg base "_law_rank" s__law_rank 1 ["number"] (spP K m__law_rank)) (C_is_less : Callee P w K mg base "is_less" s_is_less 4 ["one", "other"] (spP K m_is_less)) (C__law_leaf : Callee P w K mg base "_law_leaf" s__law_leaf 3 ["deck", "thing"] (spI K m__law_leaf)) (C__law_pick : Callee P w K mg base "_law_pick" s__law_pick 2 ["deck", "some"] (spIr K m__law_pick)) (C_is_number : Callee P w K mg base "is_number" s_is_number 2 ["thing"] (spP K m_is_number)) (C__law_is_number : Callee P w K mg base "_law_is_number" s__law_is_number 2 ["thing"] (spP K m__law_is_number)) :
    Callee P w K mg base "law" s_law 5 ["script"] (spDk K m_law) := by
  obtain ⟨f, fd, Fn, hm, hb⟩ := O
  refine ⟨f, fd, ?_, hm, Fn.kp, hb, Fn⟩
  refine law_ok (k := 4) 10 (fun i => i == 1) g_law rfl (by decide) Fn sc_law rfl fun cdv A outer s H E hr gd => ⟨?_, ?_⟩
  · obtain ⟨fk, fdk, Fk, hmk, hkk, hbk, _⟩ := C__law_deck.ex
    exact law_set sc_law.nd rfl (by first | exact .inl rfl | exact .inr rfl) (pe_go Fk gd (hr.mono (by decide)) rfl hmk hkk hbk (pa_cons (pv 0) pa_nil))
  · exact (fss_cons (fs_for PassesOwn.never rfl (fi_range1 rfl T.b_range (fa_cons fe_int fa_nil)) (fg_name (i := 2) sc_law.nd rfl (by first | exact .inl rfl | exact .inr rfl)) (fss_cons (fs_par (i := 3) (j := 4) rfl sc_law.nd rfl rfl (by decide) rfl rfl (fa_cons (fe_cI C__law_any_number gd hr (by decide) rfl (pv 1) rfl fa_nil) (fa_cons (fe_cI C__law_any_number gd hr (by decide) rfl (pv 1) rfl fa_nil) fa_nil)) rfl)
      (fss_cons (fs_setP (i := 5) sc_law.nd rfl (by first | exact .inl rfl | exact .inr rfl) (fe_cmp (op_ltTP hr.units) dop_ltT (fe_cP C__law_rank gd hr (by decide) rfl (fa_cons (fe_name (pv 3)) fa_nil)) (fe_cP C__law_rank gd hr (by decide) rfl (fa_cons (fe_name (pv 4)) fa_nil))))
      (fss_cons (fs_setP (i := 6) sc_law.nd rfl (by first | exact .inl rfl | exact .inr rfl) (fe_tup (fa_cons (fe_cP C_is_less gd hr (by decide) rfl (fa_cons (fe_name (pv 3)) (fa_cons (fe_name (pv 4)) fa_nil))) (fa_cons (fe_cK C_is_less kw_is_less_other_one rfl gd hr (by decide) rfl (fk_cons (fe_name (pv 4)) (fk_cons (fe_name (pv 3)) fk_nil))) (fa_cons (fe_cP C_is_less gd hr (by decide) rfl (fa_cons (fe_name (pv 4)) (fa_cons (fe_name (pv 3)) fa_nil))) fa_nil)))))
      (fss_cons (fs_if (ft_cmp (op_neD hr.units) dop_ne (fe_callB (call_reprV gd (Room.units2 hr)) dc_reprV rfl T.b_repr (by decide +kernel) (fa_cons (fe_name (pv 6)) fa_nil)) (fe_callB (call_reprV gd (Room.units2 hr)) dc_reprV rfl T.b_repr (by decide +kernel) (fa_cons (fe_tup (fa_cons (fe_name (pv 5)) (fa_cons (fe_name (pv 5)) (fa_cons (fe_cmp (op_ltTP hr.units) dop_ltT (fe_cP C__law_rank gd hr (by decide) rfl (fa_cons (fe_name (pv 4)) fa_nil)) (fe_cP C__law_rank gd hr (by decide) rfl (fa_cons (fe_name (pv 3)) fa_nil))) fa_nil)))) fa_nil))) (fss_one (fs_ret fe_bl)) fss_nil)
      (fss_cons (fs_setP (i := 7) sc_law.nd rfl (by first | exact .inl rfl | exact .inr rfl) (fe_op1 op_addU dop_add1 (fe_op1 op_addU dop_add1 (fe_op op_mulU dop_mul (fe_lst (fa_cons (fe_name (pv 3)) fa_nil)) fe_int) (fe_op1 op_mulU dop_mul1 (fe_lst (fa_cons (fe_cI C__law_leaf gd hr (by decide) rfl (pv 1) rfl (fa_cons (fe_name (pv 3)) fa_nil)) fa_nil)) fe_int)) (fe_lst (fa_cons (fe_neg fe_int) (fa_cons fe_bl (fa_cons fe_bl (fa_cons fe_str (fa_cons fe_str (fa_cons fe_str (fa_cons fe_str (fa_cons fe_non (fa_cons (fe_tup fa_nil) (fa_cons (fe_lst fa_nil) (fa_cons fe_dnew (fa_cons (fe_tup (fa_cons (fe_name (pv 3)) fa_nil)) (fa_cons (fe_lst (fa_cons (fe_name (pv 3)) fa_nil)) (fa_cons (fe_tup (fa_cons fe_str fa_nil)) (fa_cons fe_str (fa_cons (fe_neg (fe_op op_pow dop_pow fe_int fe_int)) fa_nil)))))))))))))))))))
      (fss_cons (fs_setP (i := 8) sc_law.nd rfl (by first | exact .inl rfl | exact .inr rfl) (fe_cIr C__law_pick gd hr (by decide) rfl (pv 1) rfl (fa_cons (fe_name (pv 7)) fa_nil)))
      (fss_cons (fs_setP (i := 9) sc_law.nd rfl (by first | exact .inl rfl | exact .inr rfl) (fe_callB (call_reprV gd (Room.units2 hr)) dc_reprV rfl T.b_repr (by decide +kernel) (fa_cons (fe_name (pv 8)) fa_nil)))
      (fss_cons (fs_setP (i := 6) sc_law.nd rfl (by first | exact .inl rfl | exact .inr rfl) (fe_tup (fa_cons (fe_cP C_is_number gd hr (by decide) rfl (fa_cons (fe_name (pv 8)) fa_nil)) (fa_cons (fe_cK C_is_number kw_is_number_thing rfl gd hr (by decide) rfl (fk_cons (fe_name (pv 8)) fk_nil)) fa_nil))))
      (fss_one (fs_if (ft_pw (fw_or (ft_cmp (op_neD hr.units) dop_ne (fe_callB (call_reprV gd (Room.units2 hr)) dc_reprV rfl T.b_repr (by decide +kernel) (fa_cons (fe_name (pv 6)) fa_nil)) (fe_callB (call_reprV gd (Room.units2 hr)) dc_reprV rfl T.b_repr (by decide +kernel) (fa_cons (fe_op op_mulU dop_mul (fe_tup (fa_cons (fe_cP C__law_is_number gd hr (by decide) rfl (fa_cons (fe_name (pv 8)) fa_nil)) fa_nil)) fe_int) fa_nil))) (fw_or1 (ft_cmp (op_neD hr.units) dop_ne (fe_callB (call_reprV gd (Room.units2 hr)) dc_reprV rfl T.b_repr (by decide +kernel) (fa_cons (fe_name (pv 8)) fa_nil)) (fe_name (pv 9)))))) (fss_one (fs_ret fe_bl)) fss_nil)))))))))))
      (fss_one (fs_ret (fe_cmp (op_eqD hr.units) dop_eq (fe_callB (call_reprV gd (Room.units2 hr)) dc_reprV rfl T.b_repr (by decide +kernel) (fa_cons (fe_tup (fa_cons (fe_cP C_is_less gd hr (by decide) rfl (fa_cons fe_int (fa_cons fe_int fa_nil))) (fa_cons (fe_cP C_is_less gd hr (by decide) rfl (fa_cons fe_str (fa_cons fe_str fa_nil))) (fa_cons (fe_cP C_is_less gd hr (by decide) rfl (fa_cons fe_str (fa_cons fe_str fa_nil))) fa_nil)))) fa_nil)) fe_str))))
theorem pos_is_integer_from : PosEq "is_integer_from" s_is_integer_from ["thing", "least"] := fun _ _ _ _ _ _ us hl => match us, hl with
  | [a0, a1], _ => rfl
theorem pos_rank : PosEq "rank" s_rank ["number"] := fun _ _ _ _ _ _ us hl => match us, hl with
  | [a0], _ => rfl
theorem pos__law_deck : PosEq "_law_deck" s__law_deck ["script"] := fun _ _ _ _ _ _ us hl => match us, hl with
  | [a0], _ => rfl
theorem pos__law_draw : PosEq "_law_draw" s__law_draw ["deck", "many"] := fun _ _ _ _ _ _ us hl => match us, hl with
  | [a0, a1], _ => rfl
theorem pos__law_is_int : PosEq "_law_is_int" s__law_is_int ["thing", "low"] := fun _ _ _ _ _ _ us hl => match us, hl with
  | [a0, a1], _ => rfl
theorem pos__law_rank : PosEq "_law_rank" s__law_rank ["number"] := fun _ _ _ _ _ _ us hl => match us, hl with
  | [a0], _ => rfl
theorem pos_is_number : PosEq "is_number" s_is_number ["thing"] := fun _ _ _ _ _ _ us hl => match us, hl with
  | [a0], _ => rfl
theorem pos__law_pick : PosEq "_law_pick" s__law_pick ["deck", "some"] := fun _ _ _ _ _ _ us hl => match us, hl with
  | [a0, a1], _ => rfl
theorem pos__law_is_number : PosEq "_law_is_number" s__law_is_number ["thing"] := fun _ _ _ _ _ _ us hl => match us, hl with
  | [a0], _ => rfl
theorem pos_require_number : PosEq "require_number" s_require_number ["thing"] := fun _ _ _ _ _ _ us hl => match us, hl with
  | [a0], _ => rfl
theorem pos__law_leaf : PosEq "_law_leaf" s__law_leaf ["deck", "thing"] := fun _ _ _ _ _ _ us hl => match us, hl with
  | [a0, a1], _ => rfl
theorem pos__law_any_number : PosEq "_law_any_number" s__law_any_number ["deck"] := fun _ _ _ _ _ _ us hl => match us, hl with
  | [a0], _ => rfl
theorem pos_is_less : PosEq "is_less" s_is_less ["one", "other"] := fun _ _ _ _ _ _ us hl => match us, hl with
  | [a0, a1], _ => rfl
theorem pos_law : PosEq "law" s_law ["script"] := fun _ _ _ _ _ _ us hl => match us, hl with
  | [a0], _ => rfl
theorem all_on {P : Program} {w : World} {K : PySem.W.Frag} {h : Heap} {mg : Str → Option Value} (X : K.In h) (G : h.Ns mainGlobals mg) (D_is_integer_from : DefAt K "is_integer_from" s_is_integer_from) (D_rank : DefAt K "rank" s_rank) (D__law_deck : DefAt K "_law_deck" s__law_deck) (D__law_draw : DefAt K "_law_draw" s__law_draw) (D__law_is_int : DefAt K "_law_is_int" s__law_is_int) (D__law_rank : DefAt K "_law_rank" s__law_rank) (D_is_number : DefAt K "is_number" s_is_number) (D__law_pick : DefAt K "_law_pick" s__law_pick) (D__law_is_number : DefAt K "_law_is_number" s__law_is_number) (D_require_number : DefAt K "require_number" s_require_number) (D__law_leaf : DefAt K "_law_leaf" s__law_leaf) (D__law_any_number : DefAt K "_law_any_number" s__law_any_number) (D_is_less : DefAt K "is_less" s_is_less) (D_law : DefAt K "law" s_law) (z_bool : PySem.W.nsIn K mainGlobals "bool" = some none) (z_int : PySem.W.nsIn K mainGlobals "int" = some none) (z_isinstance : PySem.W.nsIn K mainGlobals "isinstance" = some none) (z_len : PySem.W.nsIn K mainGlobals "len" = some none) (z_list : PySem.W.nsIn K mainGlobals "list" = some none) (z_max : PySem.W.nsIn K mainGlobals "max" = some none) (z_range : PySem.W.nsIn K mainGlobals "range" = some none) (z_repr : PySem.W.nsIn K mainGlobals "repr" = some none) (z_str : PySem.W.nsIn K mainGlobals "str" = some none) (z_tuple : PySem.W.nsIn K mainGlobals "tuple" = some none) (base : Heap) :
    Callee P w K mg base "law" s_law 5 ["script"] (spDk K m_law) := by
  have T : Txt mg := ⟨PySem.W.mg_none_of X G z_bool, PySem.W.mg_none_of X G z_int, PySem.W.mg_none_of X G z_isinstance, PySem.W.mg_none_of X G z_len, PySem.W.mg_none_of X G z_list, PySem.W.mg_none_of X G z_max, PySem.W.mg_none_of X G z_range, PySem.W.mg_none_of X G z_repr, PySem.W.mg_none_of X G z_str, PySem.W.mg_none_of X G z_tuple⟩
  have C_is_integer_from := c_is_integer_from (P := P) (w := w) (K := K) (mg := mg) (base := base) T (D_is_integer_from.own X G pos_is_integer_from)
  have C_rank := c_rank (P := P) (w := w) (K := K) (mg := mg) (base := base) T (D_rank.own X G pos_rank)
  have C__law_deck := c__law_deck (P := P) (w := w) (K := K) (mg := mg) (base := base) T (D__law_deck.own X G pos__law_deck)
  have C__law_draw := c__law_draw (P := P) (w := w) (K := K) (mg := mg) (base := base) T (D__law_draw.own X G pos__law_draw)
  have C__law_is_int := c__law_is_int (P := P) (w := w) (K := K) (mg := mg) (base := base) T (D__law_is_int.own X G pos__law_is_int)
  have C__law_rank := c__law_rank (P := P) (w := w) (K := K) (mg := mg) (base := base) T (D__law_rank.own X G pos__law_rank)
  have C_is_number := c_is_number (P := P) (w := w) (K := K) (mg := mg) (base := base) T (D_is_number.own X G pos_is_number) C_is_integer_from
  have C__law_pick := c__law_pick (P := P) (w := w) (K := K) (mg := mg) (base := base) T (D__law_pick.own X G pos__law_pick) C__law_draw
  have C__law_is_number := c__law_is_number (P := P) (w := w) (K := K) (mg := mg) (base := base) T (D__law_is_number.own X G pos__law_is_number) C__law_is_int
  have C_require_number := c_require_number (P := P) (w := w) (K := K) (mg := mg) (base := base) T (D_require_number.own X G pos_require_number) C_is_number
  have C__law_leaf := c__law_leaf (P := P) (w := w) (K := K) (mg := mg) (base := base) T (D__law_leaf.own X G pos__law_leaf) C__law_draw C__law_pick
  have C__law_any_number := c__law_any_number (P := P) (w := w) (K := K) (mg := mg) (base := base) T (D__law_any_number.own X G pos__law_any_number) C__law_draw C__law_pick
  have C_is_less := c_is_less (P := P) (w := w) (K := K) (mg := mg) (base := base) T (D_is_less.own X G pos_is_less) C_require_number C_rank
  exact c_law T (D_law.own X G pos_law) C__law_deck C__law_any_number C__law_rank C_is_less C__law_leaf C__law_pick C_is_number C__law_is_number
end My
namespace FP
open PySem
section
variable {ρ : EV} {Q : PyData → Prop} {QX : PyData → EV → Prop} {QL : List PyData → EV → Prop}
/-! texts: the rules -/
theorem add_ss {a b : Str} : w2 gAdd (.str a) (.str b) Q = (a.length + b.length ≤ 1000000 ∧ Q (.str (a ++ b))) := by
  unfold w2 gAdd; simp only [wO_ite]
theorem int_b {b : Bool} : wG gInt [.bool b] Q = Q (.int (if b then 1 else 0)) := propext Iff.rfl
theorem isascii_s {a : Str} : wG gIsascii [.str a] Q = Q (.bool (Txt.isascii a)) := propext Iff.rfl
theorem isdigit_s {a : Str} : wG gIsdigit [.str a] Q = Q (.bool (Txt.isdigit a)) := propext Iff.rfl
theorem split_ss {a b : Str} : w2 gSplit (.str a) (.str b) Q = (((b.length == 0) = false ∧ a.length + 2 ≤ 1000000) ∧ Q (.list ((Txt.split a b).map PyData.str))) := by
  unfold w2 gSplit; simp only [wO_ite, Bool.and_eq_true, decide_eq_true_eq, beq_iff_eq]
theorem allS_map : ∀ ys : List Str, allS (ys.map PyData.str) = some ys
  | [] => rfl
  | y :: ys => by simp [allS, allS_map ys]
theorem join_sl {a : Str} {ys : List Str} : w2 gJoin (.str a) (.list (ys.map PyData.str)) Q = ((ys.map (fun x => x.length)).sum + ys.length * a.length ≤ 16777216 ∧ Q (.str (Txt.join a ys))) := by
  unfold w2 gJoin; simp only [allS_map, wO_ite, decide_eq_true_eq]
theorem part_ss {a b : Str} : w2 gPart (.str a) (.str b) Q = (((b.length == 0) = false ∧ a.length ≤ 1000000) ∧ Q (.tuple [.str (Txt.partition a b).1, .str (Txt.partition a b).2.1, .str (Txt.partition a b).2.2])) := by
  unfold w2 gPart; simp only [wO_ite, Bool.and_eq_true, decide_eq_true_eq, beq_iff_eq]
theorem index_ls {y : Str} {ys : List Str} : w2 gIndex (.list (ys.map PyData.str)) (.str y) Q = ∃ j, findS y ys = some j ∧ Q (.int j) := by
  unfold w2 gIndex; simp only [allS_map]
  rcases findS y ys with _ | j
  · simp [wO]
  · simp [wO]
theorem intS_s {a : Str} : wG gIntS [.str a] Q = ∃ n, intText? a = some n ∧ a.length ≤ 640 ∧ Q (.int n) := by
  unfold wG gIntS
  simp only []
  rcases intText? a with _ | n
  · simp [wO]
  · simp only [wO_ite, decide_eq_true_eq]
    exact propext ⟨fun h => ⟨n, rfl, h⟩, fun ⟨m, e, h⟩ => by cases e; exact h⟩
theorem str_i {i : Int} : wG gStr [.int i] Q = (Nat.log2 i.natAbs < 1900 ∧ Q (.str (Str.ofString (toString i)))) := by
  unfold wG gStr; simp only [wO_ite, decide_eq_true_eq]
theorem wX_fmt {f : FX} : wX (fFmt f) ρ QX = wX f ρ fun d ρ1 => ∃ y, txtOf d = some y ∧ y.length ≤ 1000000 ∧ QX (.str y) ρ1 := by
  unfold wX fFmt
  rcases f ρ with _ | ⟨d, ρ1⟩
  · rfl
  simp only []
  rcases txtOf d with _ | y
  · simp
  · simp only [decide_eq_true_eq]
    by_cases h : y.length ≤ 1000000
    · rw [if_pos h]; simp [h]
    · rw [if_neg h]; simp [h]
theorem wX_j3 {a b c : FX} {Q' : PyData → EV → Prop} (h : wX a ρ fun x ρ1 => ∃ sa, x = .str sa ∧ wX b ρ1 fun y ρ2 => ∃ sb, y = .str sb ∧ wX c ρ2 fun z ρ3 => ∃ sc, z = .str sc ∧ (sa.length ≤ 300000 ∧ sb.length ≤ 300000 ∧ sc.length ≤ 300000) ∧ Q' (.str (Str.empty ++ sa ++ sb ++ sc)) ρ3) : wX (fJ3 a b c) ρ Q' := by
  unfold wX fJ3 at *
  cases ea : a ρ with
  | none => rw [ea] at h; exact h.elim
  | some p =>
    obtain ⟨x, ρ1⟩ := p
    rw [ea] at h
    obtain ⟨sa, rfl, h⟩ := h
    cases eb : b ρ1 with
    | none => rw [eb] at h; exact h.elim
    | some p =>
      obtain ⟨y, ρ2⟩ := p
      rw [eb] at h
      obtain ⟨sb, rfl, h⟩ := h
      cases ec : c ρ2 with
      | none => rw [ec] at h; exact h.elim
      | some p =>
        obtain ⟨z, ρ3⟩ := p
        rw [ec] at h
        obtain ⟨sc, rfl, ⟨h1, h2, h3⟩, h⟩ := h
        simp only [eb, ec, h1, h2, h3, decide_true, Bool.and_true, if_true]
        exact h
theorem wIt_enumK {f : FX} {k : Int} : wIt (fEnumK k f) ρ QL = wX f ρ fun d ρ1 => asQ d fun ds => QL (enumK k ds) ρ1 := by
  unfold wIt wX fEnumK asQ
  rcases f ρ with _ | ⟨d, ρ1⟩
  · rfl
  simp only []
  cases seqOf d <;> rfl
theorem wX_sortsetT {f : FX} : wX (fSortSetT f) ρ QX = wX f ρ fun d ρ1 => ∃ ds is, d = .tuple ds ∧ intsOf ds = some is ∧ is.length < 64 ∧ QX (.list ((sortU is).map PyData.int)) ρ1 := by
  unfold wX fSortSetT
  rcases f ρ with _ | ⟨d, ρ1⟩
  · rfl
  cases d <;> try simp
  rename_i ds
  rcases intsOf ds with _ | is
  · simp
  · simp only [Option.some.injEq]
    by_cases h : is.length < 64
    · rw [if_pos h]; simp [h]
    · rw [if_neg h]; simp [h]
theorem wS_par3 {i j l : Nat} {fs : FL} {N : EV → Prop} {R : PyData → EV → Prop} {B C : EV → Prop} : wS (gPar3 i j l fs) ρ N R B C = wL fs ρ fun ds ρ1 => match ds with
    | [x, y, z] => inn ρ1 i ∧ inn ρ1 j ∧ inn ρ1 l ∧ N (st (st (st ρ1 i x) j y) l z)
    | _ => False := by
  unfold wS wL gPar3 inn st
  rcases fs ρ with _ | ⟨ds, ρ1⟩
  · rfl
  rcases ds with _ | ⟨x, _ | ⟨y, _ | ⟨z, _ | ⟨w, r⟩⟩⟩⟩
  · rfl
  · rfl
  · rfl
  · simp only []
    by_cases h : i < ρ1.length ∧ j < ρ1.length ∧ l < ρ1.length
    · rw [if_pos h]; simp only [h.1, h.2.1, h.2.2, true_and]
    · rw [if_neg h]
      exact propext ⟨False.elim, fun z => h ⟨z.1, z.2.1, z.2.2.1⟩⟩
  · rfl
end
end FP
namespace FP
open PySem
section
variable {ρ : EV} {Q : PyData → Prop} {QX : PyData → EV → Prop}
/-! any values: the rules -/
theorem add1_ll {a b : List PyData} : w2 gAdd1 (.list a) (.list b) Q = (a.length + b.length ≤ 1000000 ∧ Q (.list (a ++ b))) := by
  unfold w2 gAdd1; simp only [wO_ite]
theorem mul1_li {a : List PyData} {k : Int} : w2 gMul1 (.list a) (.int k) Q = ((k ≤ 1000 ∧ -1000 ≤ k ∧ a.length ≤ 1000) ∧ Q (.list (List.replicate k.toNat a).flatten)) := by
  unfold w2 gMul1; simp only [wO_ite, Bool.and_eq_true, decide_eq_true_eq, and_assoc]
theorem ltT_22 {a b c d : Int} : w2 gLtT (.tuple [.int a, .int b]) (.tuple [.int c, .int d]) Q = Q (.bool (lexLtD [a, b] [c, d])) := propext Iff.rfl
theorem upper_s {a : Str} : wG gUpper [.str a] Q = (a.length ≤ 1000 ∧ Q (.str (Txt.upper a))) := by
  unfold wG gUpper; simp only [wO_ite]
theorem wI_pick {n : Nat} {fi : FX} {d0 xs : PyData} {QI : PyData → PyData → Prop} (h : wX fi (ev0 n [d0, xs]) fun y ρ1 => ∃ z, gIx1 xs y = some z ∧ gt ρ1 0 fun o => QI z o) : wI (runPick n fi) d0 [xs] QI := by
  unfold wI runPick
  unfold wX at h
  simp only
  cases e : fi (ev0 n [d0, xs]) with
  | none => rw [e] at h; exact h.elim
  | some p =>
    obtain ⟨y, ρ1⟩ := p
    rw [e] at h
    obtain ⟨z, h1, h2⟩ := h
    simp only [h1]
    unfold gt at h2
    split at h2
    · rename_i d q
      simp only [q]
      exact h2
    · exact h2.elim
theorem ix1_l {xs : List PyData} {i : Int} (h0 : 0 ≤ i) (h : i < xs.length) : gIx1 (.list xs) (.int i) = some (xs[i.toNat]'(by omega)) := by
  obtain ⟨k, rfl⟩ := Int.eq_ofNat_of_zero_le h0
  have hk : k < xs.length := by omega
  show L2.atI xs (k : Int) = _
  rw [atI_nat hk]
  rfl
theorem reprV_o {d : PyData} (h : d ≠ .dict []) : wG gReprV [d] Q = wG gRepr [d] Q := by
  unfold wG gReprV
  split
  · rename_i e; cases e; exact absurd rfl h
  · rfl
theorem reprV_d : wG gReprV [.dict []] Q = Q (.str "{}") := propext Iff.rfl
theorem inV_o {a b : PyData} (h : a ≠ .dict []) : w2 gInV a b Q = w2 gIn a b Q := by
  unfold w2 gInV
  split
  · rename_i e; exact absurd rfl h
  · rfl
theorem inV_d {ts : List Str} : w2 gInV (.dict []) (.tuple (ts.map PyData.str)) Q = Q (.bool false) := by
  unfold w2 gInV
  simp only [allS_map]
  rfl
end
/-! texts of data with greater integers, and of texts -/
theorem reprChar_ok {q c : Nat} (hq : q < 0x110000) (h : c < 0x110000) : ∀ x ∈ PySem.Builtin.Str.reprChar q c, x < 0x110000 := by
  have hx : ∀ (l : List Char) (w : Nat), ∀ x ∈ List.replicate (w - (l.map Char.toNat).length) 48 ++ l.map Char.toNat, x < 0x110000 := fun l w x m => by
    rcases List.mem_append.mp m with m | m
    · rw [(List.mem_replicate.mp m).2]; decide
    · obtain ⟨ch, _, rfl⟩ := List.mem_map.mp m
      have := ch.valid
      have h2 : ch.toNat = ch.val.toNat := rfl
      rcases this with h | h
      · rw [h2]; have : ch.val.toNat < 0xd800 := h; omega
      · rw [h2]; have : ch.val.toNat < 0x110000 := h.2; omega
  unfold PySem.Builtin.Str.reprChar
  intro x hm
  simp only at hm
  split at hm
  · simp at hm; rcases hm with rfl | rfl <;> omega
  · split at hm
    · simp at hm; rcases hm with rfl | rfl <;> omega
    · split at hm
      · simp at hm; rcases hm with rfl | rfl <;> omega
      · split at hm
        · simp at hm; rcases hm with rfl | rfl <;> omega
        · split at hm
          · simp at hm; subst hm; exact h
          · split at hm
            · rcases List.mem_append.mp hm with hm | hm
              · simp at hm; rcases hm with rfl | rfl <;> omega
              · exact hx _ _ x hm
            · split at hm
              · rcases List.mem_append.mp hm with hm | hm
                · simp at hm; rcases hm with rfl | rfl <;> omega
                · exact hx _ _ x hm
              · rcases List.mem_append.mp hm with hm | hm
                · simp at hm; rcases hm with rfl | rfl <;> omega
                · exact hx _ _ x hm
theorem quote_lt {x : Str} : reprQuote x < 0x110000 := by
  unfold reprQuote
  split <;> decide
theorem strOk_repr {x : Str} (h : PyData.strOk x = true) : PyData.strOk (reprText x) = true := by
  unfold PyData.strOk at *
  have h' : ∀ c ∈ x.cps.toList, c < 0x110000 := by
    rw [← Array.all_toList, List.all_eq_true] at h
    exact fun c hc => by simpa using h c hc
  unfold reprText
  simp only [← Array.all_toList, Array.toList_push, List.all_append, Bool.and_eq_true, List.all_cons, List.all_nil, Bool.and_true, decide_eq_true_eq]
  refine ⟨?_, quote_lt⟩
  rw [← Array.foldl_toList]
  generalize x.cps.toList = l at h'
  have key : ∀ (l : List Nat) (acc : Array Nat), (∀ c ∈ l, c < 0x110000) → (∀ c ∈ acc.toList, c < 0x110000) → ∀ c ∈ (l.foldl (fun out c => out ++ (PySem.Builtin.Str.reprChar (reprQuote x) c).toArray) acc).toList, c < 0x110000 := fun l => by
    induction l with
    | nil => intro acc _ ha; exact ha
    | cons c l ih =>
      intro acc hl ha
      refine ih _ (fun d hd => hl d (List.mem_cons_of_mem _ hd)) fun d hd => ?_
      rw [Array.toList_append] at hd
      rcases List.mem_append.mp hd with hd | hd
      · exact ha d hd
      · exact reprChar_ok quote_lt (hl c List.mem_cons_self) d (by simpa using hd)
  refine List.all_eq_true.mpr fun c hc => decide_eq_true (key l _ h' (fun c hc => ?_) c hc)
  have hc : c ∈ [reprQuote x] := hc
  rw [List.mem_singleton] at hc
  subst hc
  exact quote_lt
structure Su (w : Nat) (d : PyData) : Prop where
  sh : d.showable = true
  lv : d.leavesShort 60 = true
  we : d.weight ≤ w
  tx : PyData.strOk d.shown = true
theorem Su.bool {b : Bool} : Su 0 (.bool b) := ⟨by simp [PyData.showable], by simp [PyData.leavesShort], by simp [PyData.weight], by cases b <;> decide +kernel⟩
theorem Su.none : Su 0 .none := ⟨by simp [PyData.showable], by simp [PyData.leavesShort], by simp [PyData.weight], by decide +kernel⟩
theorem Su.str {x : Str} (h : PyData.strOk x = true) : Su x.length (.str x) where
  sh := by simp [PyData.showable]
  lv := by
    unfold PyData.strOk at h
    rw [← Array.all_toList, List.all_eq_true] at h
    simp only [PyData.leavesShort, List.all_eq_true]
    intro c hc
    have : c < 0x110000 := by simpa using h c hc
    exact decide_eq_true (by omega)
  we := by simp [PyData.weight, Str.length]
  tx := by simp only [PyData.shown]; exact strOk_repr h
theorem Su.nat {i : Int} (h0 : 0 ≤ i) (h1 : i < 10 ^ 40) : Su 134 (.int i) := by
  obtain ⟨n, rfl⟩ := Int.eq_ofNat_of_zero_le h0
  have hn : n < 10 ^ 40 := by
    have e : ((10 ^ 40 : Nat) : Int) = (10 : Int) ^ 40 := by decide
    omega
  have hlog : n.log2 < 133 := by
    rcases Nat.eq_zero_or_pos n with z | z
    · subst z; decide
    · exact (Nat.log2_lt (by omega)).mpr (Nat.lt_trans hn (by decide))
  refine ⟨?_, ?_, ?_, ?_⟩
  · simp only [PyData.showable, Int.natAbs_natCast, decide_eq_true_eq]; omega
  · simp only [PyData.leavesShort, decide_eq_true_eq]
    have e : (PyData.shown (.int (n : Int))).length = (TL.numL n).length := by
      rw [← TL.tl_num n]; simp only [PyData.shown]; rfl
    rw [e]
    exact Nat.le_trans (TL.numL_len (by decide) hn) (by decide)
  · simp only [PyData.weight, Int.natAbs_natCast]
    split <;> omega
  · simp only [PyData.shown]; exact strOk_of
theorem Su.one {w : Nat} {x : PyData} (h : Su w x) : Su (w + 1) (.tuple [x]) where
  sh := by simp [PyData.showable, PyData.showableAll, h.sh]
  lv := by simp [PyData.leavesShort, PyData.leavesShortAll, h.lv]
  we := by have := h.we; simp [PyData.weight, PyData.weightAll]; omega
  tx := by
    simp only [PyData.shown]
    unfold tupleText
    exact strOk_app (strOk_app strOk_of (strOk_join strOk_of fun t ht => by
      obtain ⟨y, hy, rfl⟩ := shownAll_mem ht
      rw [List.mem_singleton] at hy; subst hy; exact h.tx)) strOk_of
theorem Su.oneL {w : Nat} {x : PyData} (h : Su w x) : Su (w + 1) (.list [x]) where
  sh := by simp [PyData.showable, PyData.showableAll, h.sh]
  lv := by simp [PyData.leavesShort, PyData.leavesShortAll, h.lv]
  we := by have := h.we; simp [PyData.weight, PyData.weightAll]; omega
  tx := by
    simp only [PyData.shown]
    unfold listText
    exact strOk_app (strOk_from strOk_of fun t ht => by
      obtain ⟨y, hy, rfl⟩ := shownAll_mem ht
      rw [List.mem_singleton] at hy; subst hy; exact h.tx) strOk_of
theorem Su.len {w : Nat} {d : PyData} (h : Su w d) (hw : w ≤ 10000) : d.shown.length ≤ 1000000 := by
  have := PyData.shown_le 60 (by decide) d h.lv
  have h2 := h.we
  have : (60 + 2) * d.weight ≤ 62 * 10000 := Nat.mul_le_mul (by decide) (by omega)
  omega
end FP
namespace FP
open PySem
theorem wIf_dec {p : Prop} [Decidable p] {A B : Prop} (a : p → A) (b : ¬p → B) : wIf (decide p) A B := by
  by_cases h : p
  · simp only [h, decide_true, wIf_t]; exact a h
  · simp only [h, decide_false, wIf_f]; exact b h
theorem wIf_ndec {p : Prop} [Decidable p] {A B : Prop} (a : ¬p → A) (b : p → B) : wIf (!decide p) A B := by
  by_cases h : p
  · simp only [h, decide_true, Bool.not_true, wIf_f]; exact b h
  · simp only [h, decide_false, Bool.not_false, wIf_t]; exact a h
def rI (n : Nat) : List Int := (List.range n).map fun (k : Nat) => (k : Int)
theorem intsF_rI {n : Nat} : intsF 0 n = (rI n).map PyData.int := by
  unfold intsF rI
  rw [List.map_map]
  exact List.map_congr_left fun k _ => by simp
theorem rI_len {n : Nat} : (rI n).length = n := by simp [rI]
theorem rI_mem {n : Nat} {i : Int} : i ∈ rI n ↔ 0 ≤ i ∧ i < n := by
  unfold rI
  rw [List.mem_map]
  constructor
  · rintro ⟨k, hk, rfl⟩
    rw [List.mem_range] at hk
    omega
  · intro h
    exact ⟨i.toNat, List.mem_range.mpr (by omega), by omega⟩
theorem rI_nodup {n : Nat} : (rI n).Nodup := by
  unfold rI
  refine List.pairwise_map.mpr ?_
  exact List.Pairwise.imp (fun h e => h (by omega)) List.nodup_range
theorem seqIx_nat {k : Int} {n : Nat} (h0 : 0 ≤ k) (h : k < n) : seqIndex? k n = some k.toNat := by
  unfold seqIndex?
  have : ¬ k < 0 := by omega
  simp [this, h0, h]
theorem erase_perm {α : Type} : ∀ {l : List α} {i : Nat} (h : i < l.length), (l[i] :: l.eraseIdx i).Perm l
  | x :: l, 0, _ => .refl _
  | x :: l, i + 1, h => by
    simp only [List.getElem_cons_succ, List.eraseIdx_cons_succ]
    exact (List.Perm.swap x _ _).trans ((erase_perm (l := l) (by simpa using h)).cons x)
theorem natAbs10 : Int.natAbs 10 = 10 := rfl
theorem map_erase {α β : Type} {f : α → β} : ∀ {l : List α} {i : Nat}, (l.map f).eraseIdx i = (l.eraseIdx i).map f
  | [], _ => rfl
  | _ :: _, 0 => rfl
  | x :: l, i + 1 => by simp only [List.map_cons, List.eraseIdx_cons_succ, map_erase (l := l)]
end FP
namespace My
open PySem FP
def Dk (l : List Int) (m c : Int) : PyData := .dict [(.str "left", .list (l.map .int)), (.str "mixed", .int m), (.str "draws", .int c)]
theorem k_ml : (("mixed" : Str) = "left") = False := by decide
theorem k_dl : (("draws" : Str) = "left") = False := by decide
theorem k_dm : (("draws" : Str) = "mixed") = False := by decide
theorem k_lm : (("left" : Str) = "mixed") = False := by decide
theorem k_ld : (("left" : Str) = "draws") = False := by decide
theorem k_md : (("mixed" : Str) = "draws") = False := by decide
theorem get_l {a b c : PyData} : dget [(.str "left", a), (.str "mixed", b), (.str "draws", c)] (.inr "left") = some a := by simp [dget, eqK]
theorem get_m {a b c : PyData} : dget [(.str "left", a), (.str "mixed", b), (.str "draws", c)] (.inr "mixed") = some b := by simp [dget, eqK, k_lm]
theorem get_d {a b c : PyData} : dget [(.str "left", a), (.str "mixed", b), (.str "draws", c)] (.inr "draws") = some c := by simp [dget, eqK, k_ld, k_md]
theorem put_l {a b c d : PyData} : dput [(.str "left", a), (.str "mixed", b), (.str "draws", c)] (.inr "left") d = [(.str "left", d), (.str "mixed", b), (.str "draws", c)] := by simp [dput, eqK]
theorem put_m {a b c d : PyData} : dput [(.str "left", a), (.str "mixed", b), (.str "draws", c)] (.inr "mixed") d = [(.str "left", a), (.str "mixed", d), (.str "draws", c)] := by simp [dput, eqK, k_lm]
theorem put_d {a b c d : PyData} : dput [(.str "left", a), (.str "mixed", b), (.str "draws", c)] (.inr "draws") d = [(.str "left", a), (.str "mixed", b), (.str "draws", d)] := by simp [dput, eqK, k_ld, k_md]
def DkOk (d : PyData) : Prop := ∃ l m c, l.length ≤ 63 ∧ d = Dk l m c
theorem draw_ok {d : PyData} {many : Int} {Q : PyData → PyData → Prop} (hd : DkOk d) (h1 : 1 ≤ many) (h2 : many < 1073741824) (k : ∀ r d', DkOk d' → 0 ≤ r → r < many → Q (.int r) d') : wI m__law_draw d [.int many] Q := by
  obtain ⟨l, m, c, hl, rfl⟩ := hd
  have key : ∀ (r : Int) (l : List Int) (m c : Int), l.length ≤ 63 → 0 ≤ r → r < many → Q (.int r) (Dk l m c) := fun r l m c h => k r _ ⟨l, m, c, h, rfl⟩
  have p0 : ∀ x : Int, 0 ≤ x % many := fun x => Int.emod_nonneg _ (by omega)
  have p1 : ∀ x : Int, x % many < many := fun x => Int.emod_lt_of_pos _ (by omega)
  have hm : 0 < many := by omega
  rcases List.eq_nil_or_concat l with rfl | ⟨l', x, rfl⟩
  · unfold Dk m__law_draw g__law_draw
    simp only [wX_C, wX_N, wX_bin, wX_binN, wL_nil, wL_cons, wX_tup, wX_lst, wX_imm, wX_b, wX_call, wX_callN, wX_callI, wX_isi, wX_and, wX_or, wX_not, wX_if, wB_tb, wB_tru, wB_not, wB_and, wB_or, wB_yes, wP_no, wP_part, wX_sl, wS_nil, wS_pass, wS_break, wS_cont, wS_no, wS_seq, wS_drop, wS_ret, wS_retN, wS_if, wS_set, wS_asg, wS_par, wS_for, wT_name, wTs_nil, wTs_cons, wT_tup, wIt_seq, wIt_seqI, wIt_range1, wIt_range2, wIt_enum, wIt_zip, wX_lc', gt_z, gt_s, st_z, st_s, inn_z, inn_s, asB_b, asT_b, asI_i, asQ_l, asQ_t, wIf_t, wIf_f, wG_run, wI_run, wS_dput, wX_dpop, wX_dappend, asD_d, asL_l, wX_append, wX_popAt, wX_pop, wX_extend, wS_lput, wX_sortset, wX_lrange, wX_sortitems, wX_disp, wPs_nil, wPs_cons, wX_din, add_ii, add_tt, add_ll, sub_ii, mod_ii, div_ii, pow_ii, mul_ii, mul_ti, mul_li, lt_ii, le_ii, gt_ii, ge_ii, eq_dd, ne_dd, isN_dd, notN_dd, isB_dd, isNB_dd, ix_l, ix_t, wAt_0, wAt_1, wAt_2, wAt_3, in_t, in_l, len_l, len_t, int_i, list_l, list_t, tuple_l, tuple_t, max2_ii, min2_ii, sl_t, sl_l, eqv_ii, eqv_bb, eqv_ss, eqv_l0, eqv_t0, okD_int, okD_bool, okD_none, okD_l0, okD_own, okD_keeper, okD_foe, okD_move, okD_slip, okD_how, List.length_cons, List.length_nil, Nat.reduceAdd, Nat.reduceLeDiff, Nat.reduceEqDiff, true_and, and_true, and_self, ev0_1, ev0_2, ev0_3, ev0_4, imm_int, imm_bool, imm_str, imm_tup, imms_nil, imms_cons, Bool.and_true, Bool.true_and, List.nil_append, List.cons_append, Int.reduceLT, Int.reduceLE, Int.reducePow, Int.reduceNeg, Nat.reducePow, Nat.reduceLT, Int.reduceToNat, Int.reduceAdd, Int.reduceSub, natAbs10, or_true, true_or, Bool.not_true, Bool.not_false, decide_true, decide_false, atL2, List.replicate_succ, List.replicate_zero, Nat.reduceSub, wipe_nil, wipe_cons, back_nil, back_cons, List.getD_cons_zero, List.getD_cons_succ, List.set_cons_zero, List.set_cons_succ, sorted_l, dix_d, asK_s, get_l, get_m, get_d, put_l, put_m, put_d, wO_some, List.map_nil, List.isEmpty_nil]
    exact ⟨by omega, hm, key _ [] _ _ hl (p0 _) (p1 _)⟩
  · unfold Dk m__law_draw g__law_draw
    have hl' : l'.length ≤ 62 := by simp at hl; omega
    have e : (l'.concat x).map PyData.int = l'.map PyData.int ++ [PyData.int x] := by simp
    have e2 : okD (.list (l'.map PyData.int ++ [PyData.int x])) = true := okD_list (k := 0) (fun y hy => by
      rw [← e] at hy; obtain ⟨z, _, rfl⟩ := List.mem_map.mp hy; exact Fine.int) (by decide)
    have e3 : (l'.map PyData.int ++ [PyData.int x]).isEmpty = false := by simp
    have e4 : imms (l'.map PyData.int ++ [PyData.int x]) = true := by rw [← e]; exact imms_ints
    have e5 : (l'.map PyData.int ++ [PyData.int x])[(l'.map PyData.int ++ [PyData.int x]).length - 1]? = some (PyData.int x) := by simp
    rw [e]
    simp only [wX_C, wX_N, wX_bin, wX_binN, wL_nil, wL_cons, wX_tup, wX_lst, wX_imm, wX_b, wX_call, wX_callN, wX_callI, wX_isi, wX_and, wX_or, wX_not, wX_if, wB_tb, wB_tru, wB_not, wB_and, wB_or, wB_yes, wP_no, wP_part, wX_sl, wS_nil, wS_pass, wS_break, wS_cont, wS_no, wS_seq, wS_drop, wS_ret, wS_retN, wS_if, wS_set, wS_asg, wS_par, wS_for, wT_name, wTs_nil, wTs_cons, wT_tup, wIt_seq, wIt_seqI, wIt_range1, wIt_range2, wIt_enum, wIt_zip, wX_lc', gt_z, gt_s, st_z, st_s, inn_z, inn_s, asB_b, asT_b, asI_i, asQ_l, asQ_t, wIf_t, wIf_f, wG_run, wI_run, wS_dput, wX_dpop, wX_dappend, asD_d, asL_l, wX_append, wX_popAt, wX_pop, wX_extend, wS_lput, wX_sortset, wX_lrange, wX_sortitems, wX_disp, wPs_nil, wPs_cons, wX_din, add_ii, add_tt, add_ll, sub_ii, mod_ii, div_ii, pow_ii, mul_ii, mul_ti, mul_li, lt_ii, le_ii, gt_ii, ge_ii, eq_dd, ne_dd, isN_dd, notN_dd, isB_dd, isNB_dd, ix_l, ix_t, wAt_0, wAt_1, wAt_2, wAt_3, in_t, in_l, len_l, len_t, int_i, list_l, list_t, tuple_l, tuple_t, max2_ii, min2_ii, sl_t, sl_l, eqv_ii, eqv_bb, eqv_ss, eqv_l0, eqv_t0, okD_int, okD_bool, okD_none, okD_l0, okD_own, okD_keeper, okD_foe, okD_move, okD_slip, okD_how, List.length_cons, List.length_nil, Nat.reduceAdd, Nat.reduceLeDiff, Nat.reduceEqDiff, true_and, and_true, and_self, ev0_1, ev0_2, ev0_3, ev0_4, imm_int, imm_bool, imm_str, imm_tup, imms_nil, imms_cons, Bool.and_true, Bool.true_and, List.nil_append, List.cons_append, Int.reduceLT, Int.reduceLE, Int.reducePow, Int.reduceNeg, Nat.reducePow, Nat.reduceLT, Int.reduceToNat, Int.reduceAdd, Int.reduceSub, natAbs10, or_true, true_or, Bool.not_true, Bool.not_false, decide_true, decide_false, atL2, List.replicate_succ, List.replicate_zero, Nat.reduceSub, wipe_nil, wipe_cons, back_nil, back_cons, List.getD_cons_zero, List.getD_cons_succ, List.set_cons_zero, List.set_cons_succ, sorted_l, dix_d, asK_s, get_l, get_m, get_d, put_l, put_m, put_d, wO_some, e2, e3, e4, e5, imms_ints, List.map_nil, List.isEmpty_nil, Option.some.injEq, exists_eq_left', List.dropLast_concat]
    refine wIf_dec (fun _ => ⟨by omega, by simp; omega, hm, ?_⟩) fun _ => ⟨by omega, hm, key _ l' _ _ (by omega) (p0 _) (p1 _)⟩
    have := key (x % many) (l' ++ [x / max 2 many]) m (c + 1) (by simp; omega) (p0 _) (p1 _)
    unfold Dk at this
    rw [List.map_append] at this
    exact this
theorem okD_ints {l : List Int} : okD (.list (l.map PyData.int)) = true := okD_list (k := 0) (fun y hy => by
  obtain ⟨z, _, rfl⟩ := List.mem_map.mp hy; exact Fine.int) (by decide)
end My
namespace My
open PySem FP
/-! k26 -/
theorem pickA_ok {d : PyData} {xs : List PyData} {Q : PyData → PyData → Prop} (hd : DkOk d) (hn : xs ≠ []) (hl : xs.length < 1073741824) (k : ∀ x ∈ xs, ∀ d', DkOk d' → Q x d') : wI m__law_pick d [.list xs] Q := by
  refine wI_pick ?_
  unfold g__law_pick
  simp only [wX_C, wX_N, wX_bin, wX_binN, wL_nil, wL_cons, wX_tup, wX_lst, wX_imm, wX_b, wX_call, wX_callN, wX_callI, wX_isi, wX_and, wX_or, wX_not, wX_if, wB_tb, wB_tru, wB_not, wB_and, wB_or, wB_yes, wP_no, wP_part, wX_sl, wS_nil, wS_pass, wS_break, wS_cont, wS_no, wS_seq, wS_drop, wS_ret, wS_retN, wS_if, wS_set, wS_asg, wS_par, wS_for, wT_name, wTs_nil, wTs_cons, wT_tup, wIt_seq, wIt_seqI, wIt_range1, wIt_range2, wIt_enum, wIt_zip, wX_lc', gt_z, gt_s, st_z, st_s, inn_z, inn_s, asB_b, asT_b, asI_i, asQ_l, asQ_t, wIf_t, wIf_f, wG_run, wI_run, wS_dput, wX_dpop, wX_dappend, asD_d, asL_l, wX_append, wX_popAt, wX_pop, wX_extend, wS_lput, wX_sortset, wX_lrange, wX_sortitems, wX_disp, wPs_nil, wPs_cons, wX_din, add_ii, add_tt, add_ll, sub_ii, mod_ii, div_ii, pow_ii, mul_ii, mul_ti, mul_li, lt_ii, le_ii, gt_ii, ge_ii, eq_dd, ne_dd, isN_dd, notN_dd, isB_dd, isNB_dd, ix_l, ix_t, wAt_0, wAt_1, wAt_2, wAt_3, in_t, in_l, len_l, len_t, int_i, list_l, list_t, tuple_l, tuple_t, max2_ii, min2_ii, sl_t, sl_l, eqv_ii, eqv_bb, eqv_ss, eqv_l0, eqv_t0, okD_int, okD_bool, okD_none, okD_l0, okD_own, okD_keeper, okD_foe, okD_move, okD_slip, okD_how, List.length_cons, List.length_nil, Nat.reduceAdd, Nat.reduceLeDiff, Nat.reduceEqDiff, true_and, and_true, and_self, ev0_1, ev0_2, ev0_3, ev0_4, imm_int, imm_bool, imm_str, imm_tup, imms_nil, imms_cons, Bool.and_true, Bool.true_and, List.nil_append, List.cons_append, Int.reduceLT, Int.reduceLE, Int.reducePow, Int.reduceNeg, Nat.reducePow, Nat.reduceLT, Int.reduceToNat, Int.reduceAdd, Int.reduceSub, natAbs10, or_true, true_or, Bool.not_true, Bool.not_false, decide_true, decide_false, atL2, List.replicate_succ, List.replicate_zero, Nat.reduceSub, wipe_nil, wipe_cons, back_nil, back_cons, List.getD_cons_zero, List.getD_cons_succ, List.set_cons_zero, List.set_cons_succ, sorted_l]
  have : 0 < xs.length := List.length_pos_iff.mpr hn
  refine draw_ok hd (by omega) (by omega) fun r d' hd' h0 h1 => ?_
  exact ⟨_, ix1_l h0 h1, k _ (List.getElem_mem _) d' hd'⟩
/-- numbers -/
inductive NumOk : PyData → Prop
  | int (i : Int) : 0 ≤ i → i ≤ 10 ^ 39 → NumOk (.int i)
  | any : NumOk (.str "any")
  | ever : NumOk (.str "ever")
theorem NumOk.imm {d : PyData} (h : NumOk d) : imm d = true := by cases h <;> rfl
theorem p39 : (10 : Int) ^ (39 : Int).toNat = 10 ^ 39 := rfl
theorem any_number_ok {d : PyData} {Q : PyData → PyData → Prop} (hd : DkOk d) (k : ∀ x d', NumOk x → DkOk d' → Q x d') : wI m__law_any_number d [] Q := by
  unfold m__law_any_number g__law_any_number
  (try simp only [wX_C, wX_N, wX_bin, wX_binN, wL_nil, wL_cons, wX_tup, wX_lst, wX_imm, wX_b, wX_call, wX_callN, wX_callI, wX_isi, wX_and, wX_or, wX_not, wX_if, wB_tb, wB_tru, wB_not, wB_and, wB_or, wB_yes, wP_no, wP_part, wX_sl, wS_nil, wS_pass, wS_break, wS_cont, wS_no, wS_seq, wS_drop, wS_ret, wS_retN, wS_if, wS_set, wS_asg, wS_par, wS_for, wT_name, wTs_nil, wTs_cons, wT_tup, wIt_seq, wIt_seqI, wIt_range1, wIt_range2, wIt_enum, wIt_zip, wX_lc', gt_z, gt_s, st_z, st_s, inn_z, inn_s, asB_b, asT_b, asI_i, asQ_l, asQ_t, wIf_t, wIf_f, wG_run, wI_run, wS_dput, wX_dpop, wX_dappend, asD_d, asL_l, wX_append, wX_popAt, wX_pop, wX_extend, wS_lput, wX_sortset, wX_lrange, wX_sortitems, wX_disp, wPs_nil, wPs_cons, wX_din, add_ii, add_tt, add_ll, sub_ii, mod_ii, div_ii, pow_ii, mul_ii, mul_ti, mul_li, lt_ii, le_ii, gt_ii, ge_ii, eq_dd, ne_dd, isN_dd, notN_dd, isB_dd, isNB_dd, ix_l, ix_t, wAt_0, wAt_1, wAt_2, wAt_3, in_t, in_l, len_l, len_t, int_i, list_l, list_t, tuple_l, tuple_t, max2_ii, min2_ii, sl_t, sl_l, eqv_ii, eqv_bb, eqv_ss, eqv_l0, eqv_t0, okD_int, okD_bool, okD_none, okD_l0, okD_own, okD_keeper, okD_foe, okD_move, okD_slip, okD_how, List.length_cons, List.length_nil, Nat.reduceAdd, Nat.reduceLeDiff, Nat.reduceEqDiff, true_and, and_true, and_self, ev0_1, ev0_2, ev0_3, ev0_4, imm_int, imm_bool, imm_str, imm_tup, imms_nil, imms_cons, Bool.and_true, Bool.true_and, List.nil_append, List.cons_append, Int.reduceLT, Int.reduceLE, Int.reducePow, Int.reduceNeg, Nat.reducePow, Nat.reduceLT, Int.reduceToNat, Int.reduceAdd, Int.reduceSub, natAbs10, or_true, true_or, Bool.not_true, Bool.not_false, decide_true, decide_false, atL2, List.replicate_succ, List.replicate_zero, Nat.reduceSub, wipe_nil, wipe_cons, back_nil, back_cons, List.getD_cons_zero, List.getD_cons_succ, List.set_cons_zero, List.set_cons_succ, sorted_l, add_ss, int_b, isascii_s, isdigit_s, split_ss, join_sl, part_ss, str_i, wX_fmt, wIt_enumK, wX_sortsetT, add1_ll, mul1_li, ltT_22, upper_s])
  refine draw_ok hd (by decide) (by decide) fun r d' hd' h0 h1 => ?_
  (try simp only [wX_C, wX_N, wX_bin, wX_binN, wL_nil, wL_cons, wX_tup, wX_lst, wX_imm, wX_b, wX_call, wX_callN, wX_callI, wX_isi, wX_and, wX_or, wX_not, wX_if, wB_tb, wB_tru, wB_not, wB_and, wB_or, wB_yes, wP_no, wP_part, wX_sl, wS_nil, wS_pass, wS_break, wS_cont, wS_no, wS_seq, wS_drop, wS_ret, wS_retN, wS_if, wS_set, wS_asg, wS_par, wS_for, wT_name, wTs_nil, wTs_cons, wT_tup, wIt_seq, wIt_seqI, wIt_range1, wIt_range2, wIt_enum, wIt_zip, wX_lc', gt_z, gt_s, st_z, st_s, inn_z, inn_s, asB_b, asT_b, asI_i, asQ_l, asQ_t, wIf_t, wIf_f, wG_run, wI_run, wS_dput, wX_dpop, wX_dappend, asD_d, asL_l, wX_append, wX_popAt, wX_pop, wX_extend, wS_lput, wX_sortset, wX_lrange, wX_sortitems, wX_disp, wPs_nil, wPs_cons, wX_din, add_ii, add_tt, add_ll, sub_ii, mod_ii, div_ii, pow_ii, mul_ii, mul_ti, mul_li, lt_ii, le_ii, gt_ii, ge_ii, eq_dd, ne_dd, isN_dd, notN_dd, isB_dd, isNB_dd, ix_l, ix_t, wAt_0, wAt_1, wAt_2, wAt_3, in_t, in_l, len_l, len_t, int_i, list_l, list_t, tuple_l, tuple_t, max2_ii, min2_ii, sl_t, sl_l, eqv_ii, eqv_bb, eqv_ss, eqv_l0, eqv_t0, okD_int, okD_bool, okD_none, okD_l0, okD_own, okD_keeper, okD_foe, okD_move, okD_slip, okD_how, List.length_cons, List.length_nil, Nat.reduceAdd, Nat.reduceLeDiff, Nat.reduceEqDiff, true_and, and_true, and_self, ev0_1, ev0_2, ev0_3, ev0_4, imm_int, imm_bool, imm_str, imm_tup, imms_nil, imms_cons, Bool.and_true, Bool.true_and, List.nil_append, List.cons_append, Int.reduceLT, Int.reduceLE, Int.reducePow, Int.reduceNeg, Nat.reducePow, Nat.reduceLT, Int.reduceToNat, Int.reduceAdd, Int.reduceSub, natAbs10, or_true, true_or, Bool.not_true, Bool.not_false, decide_true, decide_false, atL2, List.replicate_succ, List.replicate_zero, Nat.reduceSub, wipe_nil, wipe_cons, back_nil, back_cons, List.getD_cons_zero, List.getD_cons_succ, List.set_cons_zero, List.set_cons_succ, sorted_l, add_ss, int_b, isascii_s, isdigit_s, split_ss, join_sl, part_ss, str_i, wX_fmt, wIt_enumK, wX_sortsetT, add1_ll, mul1_li, ltT_22, upper_s])
  refine draw_ok hd' (by decide) (by decide) fun r2 d2 hd2 g0 g1 => ?_
  (try simp only [wX_C, wX_N, wX_bin, wX_binN, wL_nil, wL_cons, wX_tup, wX_lst, wX_imm, wX_b, wX_call, wX_callN, wX_callI, wX_isi, wX_and, wX_or, wX_not, wX_if, wB_tb, wB_tru, wB_not, wB_and, wB_or, wB_yes, wP_no, wP_part, wX_sl, wS_nil, wS_pass, wS_break, wS_cont, wS_no, wS_seq, wS_drop, wS_ret, wS_retN, wS_if, wS_set, wS_asg, wS_par, wS_for, wT_name, wTs_nil, wTs_cons, wT_tup, wIt_seq, wIt_seqI, wIt_range1, wIt_range2, wIt_enum, wIt_zip, wX_lc', gt_z, gt_s, st_z, st_s, inn_z, inn_s, asB_b, asT_b, asI_i, asQ_l, asQ_t, wIf_t, wIf_f, wG_run, wI_run, wS_dput, wX_dpop, wX_dappend, asD_d, asL_l, wX_append, wX_popAt, wX_pop, wX_extend, wS_lput, wX_sortset, wX_lrange, wX_sortitems, wX_disp, wPs_nil, wPs_cons, wX_din, add_ii, add_tt, add_ll, sub_ii, mod_ii, div_ii, pow_ii, mul_ii, mul_ti, mul_li, lt_ii, le_ii, gt_ii, ge_ii, eq_dd, ne_dd, isN_dd, notN_dd, isB_dd, isNB_dd, ix_l, ix_t, wAt_0, wAt_1, wAt_2, wAt_3, in_t, in_l, len_l, len_t, int_i, list_l, list_t, tuple_l, tuple_t, max2_ii, min2_ii, sl_t, sl_l, eqv_ii, eqv_bb, eqv_ss, eqv_l0, eqv_t0, okD_int, okD_bool, okD_none, okD_l0, okD_own, okD_keeper, okD_foe, okD_move, okD_slip, okD_how, List.length_cons, List.length_nil, Nat.reduceAdd, Nat.reduceLeDiff, Nat.reduceEqDiff, true_and, and_true, and_self, ev0_1, ev0_2, ev0_3, ev0_4, imm_int, imm_bool, imm_str, imm_tup, imms_nil, imms_cons, Bool.and_true, Bool.true_and, List.nil_append, List.cons_append, Int.reduceLT, Int.reduceLE, Int.reducePow, Int.reduceNeg, Nat.reducePow, Nat.reduceLT, Int.reduceToNat, Int.reduceAdd, Int.reduceSub, natAbs10, or_true, true_or, Bool.not_true, Bool.not_false, decide_true, decide_false, atL2, List.replicate_succ, List.replicate_zero, Nat.reduceSub, wipe_nil, wipe_cons, back_nil, back_cons, List.getD_cons_zero, List.getD_cons_succ, List.set_cons_zero, List.set_cons_succ, sorted_l, add_ss, int_b, isascii_s, isdigit_s, split_ss, join_sl, part_ss, str_i, wX_fmt, wIt_enumK, wX_sortsetT, add1_ll, mul1_li, ltT_22, upper_s])
  refine pickA_ok hd2 (by simp) (by simp) fun x hx d3 hd3 => ?_
  have e39 : (10 : Int) ^ 39 = 1000000000000000000000000000000000000000 := by decide
  have hN : NumOk x := by
    simp only [List.mem_cons, List.not_mem_nil, or_false] at hx
    rcases hx with rfl | rfl | rfl | rfl | rfl | rfl | rfl | rfl | rfl | rfl | rfl | rfl
    · exact .int _ (by decide) (by decide)
    · exact .int _ (by decide) (by decide)
    · exact .int _ (by decide) (by decide)
    · exact .int _ h0 (by omega)
    · exact .int _ (by omega) (by omega)
    · exact .int _ (by decide) (by decide)
    · exact .int _ (by decide) (by decide)
    · exact .int _ (by decide) (by decide)
    · exact .any
    · exact .ever
    · exact .any
    · exact .ever
  exact k x d3 hN hd3
theorem sl_s {x : Str} {lo hi : Option Int} {Q : PyData → Prop} : w3 gSl (.str x) lo hi Q = (x.length ≤ 1000000 ∧ Q (.str (L2.cutS x lo hi))) := by
  unfold w3 gSl; simp only [wO_ite]
/-- things -/
structure ThN (d : PyData) : Prop where
  ok : okD d = true
  su : ∃ w, w ≤ 10000 ∧ Su w d
def ThOk (d : PyData) : Prop := ThN d ∨ d = .dict []
theorem ThN.of {d : PyData} {k w : Nat} (f : Fine k d) (hk : k ≤ 64) (h : Su w d) (hw : w ≤ 10000) : ThN d := ⟨f.ok hk, w, hw, h⟩
theorem ThN.int {i : Int} (h0 : 0 ≤ i) (h1 : i < 10 ^ 40) : ThN (.int i) := .of Fine.int (by decide) (Su.nat h0 h1) (by decide)
theorem su_m1 : Su 1 (.int (-1)) := ⟨by decide +kernel, by decide +kernel, by decide +kernel, by decide +kernel⟩
theorem su_mb : Su 200 (.int (-1000000000000000000000000000000000000000)) := ⟨by decide +kernel, by decide +kernel, by decide +kernel, by decide +kernel⟩
theorem ThN.str {x : Str} (h : PyData.strOk x = true) (hl : x.length ≤ 1000) : ThN (.str x) := .of (Fine.str h) (by decide) (Su.str h) (by omega)
theorem ThN.bool {b : Bool} : ThN (.bool b) := .of Fine.bool (by decide) Su.bool (by decide)
theorem ThN.none : ThN .none := .of Fine.none (by decide) Su.none (by decide)
theorem su_t0 : Su 0 (.tuple []) := ⟨by decide +kernel, by decide +kernel, by decide +kernel, by decide +kernel⟩
theorem su_l0 : Su 0 (.list []) := ⟨by decide +kernel, by decide +kernel, by decide +kernel, by decide +kernel⟩
theorem ThN.t0 : ThN (.tuple []) := ⟨rfl, 0, by decide, su_t0⟩
theorem ThN.l0 : ThN (.list []) := ⟨rfl, 0, by decide, su_l0⟩
theorem ThN.one {k w : Nat} {x : PyData} (f : Fine k x) (hk : k ≤ 60) (h : Su w x) (hw : w ≤ 9999) : ThN (.tuple [x]) :=
  .of (Fine.tup (k := k) fun y hy => by rw [List.mem_singleton] at hy; subst hy; exact f) (by omega) h.one (by omega)
theorem ThN.oneL {k w : Nat} {x : PyData} (f : Fine k x) (hk : k ≤ 60) (h : Su w x) (hw : w ≤ 9999) : ThN (.list [x]) :=
  ⟨okD_list (k := k) (fun y hy => by rw [List.mem_singleton] at hy; subst hy; exact f) (by omega), w + 1, by omega, h.oneL⟩
theorem NumOk.fine {d : PyData} (h : NumOk d) : Fine 0 d := by
  cases h with
  | int i h0 h1 => exact Fine.int
  | any => exact Fine.str strOk_of
  | ever => exact Fine.str strOk_of
theorem e40 : (10 : Int) ^ 40 = 10000000000000000000000000000000000000000 := by decide
theorem e39 : (10 : Int) ^ 39 = 1000000000000000000000000000000000000000 := by decide
theorem NumOk.su {d : PyData} (h : NumOk d) : ∃ w, w ≤ 999 ∧ Su w d := by
  cases h with
  | int i h0 h1 => exact ⟨_, by decide, Su.nat h0 (by rw [e40]; rw [e39] at h1; omega)⟩
  | any => exact ⟨_, by decide, Su.str strOk_of⟩
  | ever => exact ⟨_, by decide, Su.str strOk_of⟩
theorem NumOk.th {d : PyData} (h : NumOk d) : ThN d := by
  obtain ⟨w, hw, s⟩ := h.su
  exact .of h.fine (by decide) s (by omega)
theorem NumOk.th1 {d : PyData} (h : NumOk d) : ThN (.tuple [d]) := by
  obtain ⟨w, hw, s⟩ := h.su
  exact .one h.fine (by decide) s (by omega)
theorem NumOk.thL {d : PyData} (h : NumOk d) : ThN (.list [d]) := by
  obtain ⟨w, hw, s⟩ := h.su
  exact .oneL h.fine (by decide) s (by omega)
theorem numLen {i : Int} (h0 : 0 ≤ i) (h1 : i < 10 ^ 40) : (Str.ofString (toString i)).length ≤ 40 := by
  obtain ⟨n, rfl⟩ := Int.eq_ofNat_of_zero_le h0
  have hn : n < 10 ^ 40 := by
    have e : ((10 ^ 40 : Nat) : Int) = (10 : Int) ^ 40 := by decide
    omega
  have e : (Str.ofString (toString (n : Int))).length = (TL.numL n).length := by
    rw [← TL.tl_num n]; rfl
  rw [e]
  exact TL.numL_len (by decide) hn
theorem logS {i : Int} (h0 : 0 ≤ i) (h1 : i ≤ 10 ^ 39) : i.natAbs.log2 < 1900 := by
  have : i.natAbs ≤ 10 ^ 39 := by
    have e : ((10 ^ 39 : Nat) : Int) = (10 : Int) ^ 39 := by decide
    omega
  rcases Nat.eq_zero_or_pos i.natAbs with z | z
  · rw [z]; decide
  · exact Nat.lt_trans ((Nat.log2_lt (k := 133) (by omega)).mpr (Nat.lt_of_le_of_lt this (by decide))) (by decide)
theorem leaf_ok {d x : PyData} {Q : PyData → PyData → Prop} (hd : DkOk d) (hx : NumOk x) (k : ∀ z d', ThOk z → DkOk d' → Q z d') : wI m__law_leaf d [x] Q := by
  have odd : ∀ d, DkOk d → ∀ (xs : List PyData), xs = [.none, .bool true, .bool false, .int 0, .int 1, .int 2, .int (-1), .str "", .str "any", .str "ever", .str "numbers", .tuple [], .list [], .dict [], .int 1000000000000000000000000000000000000000, .tuple [.tuple []], .tuple [.int 0]] → wI m__law_pick d [.list xs] Q := fun d hd xs e => by
    subst e
    refine pickA_ok hd (by simp) (by simp) fun z hz d' hd' => k z d' ?_ hd'
    simp only [List.mem_cons, List.not_mem_nil, or_false] at hz
    rcases hz with rfl | rfl | rfl | rfl | rfl | rfl | rfl | rfl | rfl | rfl | rfl | rfl | rfl | rfl | rfl | rfl | rfl
    · exact .inl .none
    · exact .inl .bool
    · exact .inl .bool
    · exact .inl (.int (by decide) (by decide))
    · exact .inl (.int (by decide) (by decide))
    · exact .inl (.int (by decide) (by decide))
    · exact .inl (.of Fine.int (by decide) su_m1 (by decide))
    · exact .inl (.str strOk_of (by decide))
    · exact .inl (.str strOk_of (by decide))
    · exact .inl (.str strOk_of (by decide))
    · exact .inl (.str strOk_of (by decide))
    · exact .inl .t0
    · exact .inl .l0
    · exact .inr rfl
    · exact .inl (.int (by decide) (by decide))
    · exact .inl (.one (k := 1) (Fine.tup (k := 0) fun y hy => by simp at hy) (by decide) su_t0 (by decide))
    · exact .inl (.one Fine.int (by decide) (Su.nat (by decide) (by decide)) (by decide))
  have txt : ∀ s : Str, s = "any" ∨ s = "ever" → ∀ d, DkOk d → ∀ xs, xs = [.str (s ++ "s"), .str (L2.cutS s none (some (-1))), .str (Txt.upper s), .str (s ++ " "), .tuple [.str s], .str "any", .str "ever", .int 0] → wI m__law_pick d [.list xs] fun z d' => imm z = true ∧ Q z d' := fun s hs d hd xs e => by
    subst e
    refine pickA_ok hd (by simp) (by simp) fun z hz d' hd' => ?_
    simp only [List.mem_cons, List.not_mem_nil, or_false] at hz
    have f : ThN z ∧ imm z = true := by
      rcases hs with rfl | rfl
      · rcases hz with rfl | rfl | rfl | rfl | rfl | rfl | rfl | rfl
        · exact ⟨.str (by decide +kernel) (by decide +kernel), rfl⟩
        · exact ⟨.str (by decide +kernel) (by decide +kernel), rfl⟩
        · exact ⟨.str (by decide +kernel) (by decide +kernel), rfl⟩
        · exact ⟨.str (by decide +kernel) (by decide +kernel), rfl⟩
        · exact ⟨NumOk.any.th1, rfl⟩
        · exact ⟨NumOk.any.th, rfl⟩
        · exact ⟨NumOk.ever.th, rfl⟩
        · exact ⟨.int (by decide) (by decide), rfl⟩
      · rcases hz with rfl | rfl | rfl | rfl | rfl | rfl | rfl | rfl
        · exact ⟨.str (by decide +kernel) (by decide +kernel), rfl⟩
        · exact ⟨.str (by decide +kernel) (by decide +kernel), rfl⟩
        · exact ⟨.str (by decide +kernel) (by decide +kernel), rfl⟩
        · exact ⟨.str (by decide +kernel) (by decide +kernel), rfl⟩
        · exact ⟨NumOk.ever.th1, rfl⟩
        · exact ⟨NumOk.any.th, rfl⟩
        · exact ⟨NumOk.ever.th, rfl⟩
        · exact ⟨.int (by decide) (by decide), rfl⟩
    exact ⟨f.2, k z d' (.inl f.1) hd'⟩
  have nat : ∀ i : Int, 0 ≤ i → i ≤ 10 ^ 39 → ∀ d, DkOk d → ∀ xs, xs = [.int (i + 1), .int (i - 1), .bool (decide (i = 1)), .str (Str.ofString (toString i)), .tuple [.int i], .int (i + 2), .str "any", .str "ever"] → wI m__law_pick d [.list xs] fun z d' => imm z = true ∧ Q z d' := fun i h0 h1 d hd xs e => by
    subst e
    refine pickA_ok hd (by simp) (by simp) fun z hz d' hd' => ?_
    simp only [List.mem_cons, List.not_mem_nil, or_false] at hz
    have f : ThN z ∧ imm z = true := by
      rw [e39] at h1
      rcases hz with rfl | rfl | rfl | rfl | rfl | rfl | rfl | rfl
      · exact ⟨.int (by omega) (by rw [e40]; omega), rfl⟩
      · rcases (show 0 < i ∨ i ≤ 0 by omega) with h | h
        · exact ⟨.int (by omega) (by rw [e40]; omega), rfl⟩
        · have : i = 0 := by omega
          subst this
          exact ⟨.of Fine.int (by decide) su_m1 (by decide), rfl⟩
      · exact ⟨.bool, rfl⟩
      · exact ⟨.str strOk_of (Nat.le_trans (numLen h0 (by rw [e40]; omega)) (by decide)), rfl⟩
      · exact ⟨(NumOk.int i h0 (by rw [e39]; omega)).th1, rfl⟩
      · exact ⟨.int (by omega) (by rw [e40]; omega), rfl⟩
      · exact ⟨NumOk.any.th, rfl⟩
      · exact ⟨NumOk.ever.th, rfl⟩
    exact ⟨f.2, k z d' (.inl f.1) hd'⟩
  unfold m__law_leaf g__law_leaf
  rw [wI_run]
  refine ⟨rfl, ?_⟩
  refine wS_cut (fun ρ => ρ = [some d, some x, some (.list [.none, .bool true, .bool false, .int 0, .int 1, .int 2, .int (-1), .str "", .str "any", .str "ever", .str "numbers", .tuple [], .list [], .dict [], .int 1000000000000000000000000000000000000000, .tuple [.tuple []], .tuple [.int 0]])]) ?_ ?_
  · simp only [wX_C, wX_N, wX_bin, wX_binN, wL_nil, wL_cons, wX_tup, wX_lst, wX_imm, wX_b, wX_call, wX_callN, wX_callI, wX_isi, wX_and, wX_or, wX_not, wX_if, wB_tb, wB_tru, wB_not, wB_and, wB_or, wB_yes, wP_no, wP_part, wX_sl, wS_nil, wS_pass, wS_break, wS_cont, wS_no, wS_seq, wS_drop, wS_ret, wS_retN, wS_if, wS_set, wS_asg, wS_par, wS_for, wT_name, wTs_nil, wTs_cons, wT_tup, wIt_seq, wIt_seqI, wIt_range1, wIt_range2, wIt_enum, wIt_zip, wX_lc', gt_z, gt_s, st_z, st_s, inn_z, inn_s, asB_b, asT_b, asI_i, asQ_l, asQ_t, wIf_t, wIf_f, wG_run, wI_run, wS_dput, wX_dpop, wX_dappend, asD_d, asL_l, wX_append, wX_popAt, wX_pop, wX_extend, wS_lput, wX_sortset, wX_lrange, wX_sortitems, wX_disp, wPs_nil, wPs_cons, wX_din, add_ii, add_tt, add_ll, sub_ii, mod_ii, div_ii, pow_ii, mul_ii, mul_ti, mul_li, lt_ii, le_ii, gt_ii, ge_ii, eq_dd, ne_dd, isN_dd, notN_dd, isB_dd, isNB_dd, ix_l, ix_t, wAt_0, wAt_1, wAt_2, wAt_3, in_t, in_l, len_l, len_t, int_i, list_l, list_t, tuple_l, tuple_t, max2_ii, min2_ii, sl_t, sl_l, eqv_ii, eqv_bb, eqv_ss, eqv_l0, eqv_t0, okD_int, okD_bool, okD_none, okD_l0, okD_own, okD_keeper, okD_foe, okD_move, okD_slip, okD_how, List.length_cons, List.length_nil, Nat.reduceAdd, Nat.reduceLeDiff, Nat.reduceEqDiff, true_and, and_true, and_self, ev0_1, ev0_2, ev0_3, ev0_4, imm_int, imm_bool, imm_str, imm_tup, imms_nil, imms_cons, Bool.and_true, Bool.true_and, List.nil_append, List.cons_append, Int.reduceLT, Int.reduceLE, Int.reducePow, Int.reduceNeg, Nat.reducePow, Nat.reduceLT, Int.reduceToNat, Int.reduceAdd, Int.reduceSub, natAbs10, or_true, true_or, Bool.not_true, Bool.not_false, decide_true, decide_false, atL2, List.replicate_succ, List.replicate_zero, Nat.reduceSub, wipe_nil, wipe_cons, back_nil, back_cons, List.getD_cons_zero, List.getD_cons_succ, List.set_cons_zero, List.set_cons_succ, sorted_l, add_ss, int_b, isascii_s, isdigit_s, split_ss, join_sl, part_ss, str_i, wX_fmt, wIt_enumK, wX_sortsetT, add1_ll, mul1_li, ltT_22, upper_s, wX_neg]
  rintro ρ rfl
  generalize hO : PyData.list [.none, .bool true, .bool false, .int 0, .int 1, .int 2, .int (-1), .str "", .str "any", .str "ever", .str "numbers", .tuple [], .list [], .dict [], .int 1000000000000000000000000000000000000000, .tuple [.tuple []], .tuple [.int 0]] = O
  have odd' : ∀ d, DkOk d → wI m__law_pick d [O] Q := fun d hd => by rw [← hO]; exact odd d hd _ rfl
  have fin : ∀ d, DkOk d → wS (gRet (fCallI m__law_pick 0 (fCons (fN 2) fNil))) [some d, some x, some O] (fun ρ => gt ρ 0 fun o => Q .none o) (fun r ρ => gt ρ 0 fun o => Q r o) (fun _ => False) (fun _ => False) := fun d hd => by
    simp only [wX_C, wX_N, wX_bin, wX_binN, wL_nil, wL_cons, wX_tup, wX_lst, wX_imm, wX_b, wX_call, wX_callN, wX_callI, wX_isi, wX_and, wX_or, wX_not, wX_if, wB_tb, wB_tru, wB_not, wB_and, wB_or, wB_yes, wP_no, wP_part, wX_sl, wS_nil, wS_pass, wS_break, wS_cont, wS_no, wS_seq, wS_drop, wS_ret, wS_retN, wS_if, wS_set, wS_asg, wS_par, wS_for, wT_name, wTs_nil, wTs_cons, wT_tup, wIt_seq, wIt_seqI, wIt_range1, wIt_range2, wIt_enum, wIt_zip, wX_lc', gt_z, gt_s, st_z, st_s, inn_z, inn_s, asB_b, asT_b, asI_i, asQ_l, asQ_t, wIf_t, wIf_f, wG_run, wI_run, wS_dput, wX_dpop, wX_dappend, asD_d, asL_l, wX_append, wX_popAt, wX_pop, wX_extend, wS_lput, wX_sortset, wX_lrange, wX_sortitems, wX_disp, wPs_nil, wPs_cons, wX_din, add_ii, add_tt, add_ll, sub_ii, mod_ii, div_ii, pow_ii, mul_ii, mul_ti, mul_li, lt_ii, le_ii, gt_ii, ge_ii, eq_dd, ne_dd, isN_dd, notN_dd, isB_dd, isNB_dd, ix_l, ix_t, wAt_0, wAt_1, wAt_2, wAt_3, in_t, in_l, len_l, len_t, int_i, list_l, list_t, tuple_l, tuple_t, max2_ii, min2_ii, sl_t, sl_l, eqv_ii, eqv_bb, eqv_ss, eqv_l0, eqv_t0, okD_int, okD_bool, okD_none, okD_l0, okD_own, okD_keeper, okD_foe, okD_move, okD_slip, okD_how, List.length_cons, List.length_nil, Nat.reduceAdd, Nat.reduceLeDiff, Nat.reduceEqDiff, true_and, and_true, and_self, ev0_1, ev0_2, ev0_3, ev0_4, imm_int, imm_bool, imm_str, imm_tup, imms_nil, imms_cons, Bool.and_true, Bool.true_and, List.nil_append, List.cons_append, Int.reduceLT, Int.reduceLE, Int.reducePow, Int.reduceNeg, Nat.reducePow, Nat.reduceLT, Int.reduceToNat, Int.reduceAdd, Int.reduceSub, natAbs10, or_true, true_or, Bool.not_true, Bool.not_false, decide_true, decide_false, atL2, List.replicate_succ, List.replicate_zero, Nat.reduceSub, wipe_nil, wipe_cons, back_nil, back_cons, List.getD_cons_zero, List.getD_cons_succ, List.set_cons_zero, List.set_cons_succ, sorted_l, add_ss, int_b, isascii_s, isdigit_s, split_ss, join_sl, part_ss, str_i, wX_fmt, wIt_enumK, wX_sortsetT, add1_ll, mul1_li, ltT_22, upper_s]
    exact odd' d hd
  refine wS_cut (fun ρ => ρ = [some d, some x, some O]) ?_ ?_
  · cases hx <;> simp only [wX_C, wX_N, wX_bin, wX_binN, wL_nil, wL_cons, wX_tup, wX_lst, wX_imm, wX_b, wX_call, wX_callN, wX_callI, wX_isi, wX_and, wX_or, wX_not, wX_if, wB_tb, wB_tru, wB_not, wB_and, wB_or, wB_yes, wP_no, wP_part, wX_sl, wS_nil, wS_pass, wS_break, wS_cont, wS_no, wS_seq, wS_drop, wS_ret, wS_retN, wS_if, wS_set, wS_asg, wS_par, wS_for, wT_name, wTs_nil, wTs_cons, wT_tup, wIt_seq, wIt_seqI, wIt_range1, wIt_range2, wIt_enum, wIt_zip, wX_lc', gt_z, gt_s, st_z, st_s, inn_z, inn_s, asB_b, asT_b, asI_i, asQ_l, asQ_t, wIf_t, wIf_f, wG_run, wI_run, wS_dput, wX_dpop, wX_dappend, asD_d, asL_l, wX_append, wX_popAt, wX_pop, wX_extend, wS_lput, wX_sortset, wX_lrange, wX_sortitems, wX_disp, wPs_nil, wPs_cons, wX_din, add_ii, add_tt, add_ll, sub_ii, mod_ii, div_ii, pow_ii, mul_ii, mul_ti, mul_li, lt_ii, le_ii, gt_ii, ge_ii, eq_dd, ne_dd, isN_dd, notN_dd, isB_dd, isNB_dd, ix_l, ix_t, wAt_0, wAt_1, wAt_2, wAt_3, in_t, in_l, len_l, len_t, int_i, list_l, list_t, tuple_l, tuple_t, max2_ii, min2_ii, sl_t, sl_l, eqv_ii, eqv_bb, eqv_ss, eqv_l0, eqv_t0, okD_int, okD_bool, okD_none, okD_l0, okD_own, okD_keeper, okD_foe, okD_move, okD_slip, okD_how, List.length_cons, List.length_nil, Nat.reduceAdd, Nat.reduceLeDiff, Nat.reduceEqDiff, true_and, and_true, and_self, ev0_1, ev0_2, ev0_3, ev0_4, imm_int, imm_bool, imm_str, imm_tup, imms_nil, imms_cons, Bool.and_true, Bool.true_and, List.nil_append, List.cons_append, Int.reduceLT, Int.reduceLE, Int.reducePow, Int.reduceNeg, Nat.reducePow, Nat.reduceLT, Int.reduceToNat, Int.reduceAdd, Int.reduceSub, natAbs10, or_true, true_or, Bool.not_true, Bool.not_false, decide_true, decide_false, atL2, List.replicate_succ, List.replicate_zero, Nat.reduceSub, wipe_nil, wipe_cons, back_nil, back_cons, List.getD_cons_zero, List.getD_cons_succ, List.set_cons_zero, List.set_cons_succ, sorted_l, add_ss, int_b, isascii_s, isdigit_s, split_ss, join_sl, part_ss, str_i, wX_fmt, wIt_enumK, wX_sortsetT, add1_ll, mul1_li, ltT_22, upper_s, isTup]
  rintro ρ rfl
  cases hx with
  | int i h0 h1 =>
    refine wS_cut (fun ρ => ρ = [some d, some (.int i), some O]) ?_ ?_
    · simp only [wX_C, wX_N, wX_bin, wX_binN, wL_nil, wL_cons, wX_tup, wX_lst, wX_imm, wX_b, wX_call, wX_callN, wX_callI, wX_isi, wX_and, wX_or, wX_not, wX_if, wB_tb, wB_tru, wB_not, wB_and, wB_or, wB_yes, wP_no, wP_part, wX_sl, wS_nil, wS_pass, wS_break, wS_cont, wS_no, wS_seq, wS_drop, wS_ret, wS_retN, wS_if, wS_set, wS_asg, wS_par, wS_for, wT_name, wTs_nil, wTs_cons, wT_tup, wIt_seq, wIt_seqI, wIt_range1, wIt_range2, wIt_enum, wIt_zip, wX_lc', gt_z, gt_s, st_z, st_s, inn_z, inn_s, asB_b, asT_b, asI_i, asQ_l, asQ_t, wIf_t, wIf_f, wG_run, wI_run, wS_dput, wX_dpop, wX_dappend, asD_d, asL_l, wX_append, wX_popAt, wX_pop, wX_extend, wS_lput, wX_sortset, wX_lrange, wX_sortitems, wX_disp, wPs_nil, wPs_cons, wX_din, add_ii, add_tt, add_ll, sub_ii, mod_ii, div_ii, pow_ii, mul_ii, mul_ti, mul_li, lt_ii, le_ii, gt_ii, ge_ii, eq_dd, ne_dd, isN_dd, notN_dd, isB_dd, isNB_dd, ix_l, ix_t, wAt_0, wAt_1, wAt_2, wAt_3, in_t, in_l, len_l, len_t, int_i, list_l, list_t, tuple_l, tuple_t, max2_ii, min2_ii, sl_t, sl_l, eqv_ii, eqv_bb, eqv_ss, eqv_l0, eqv_t0, okD_int, okD_bool, okD_none, okD_l0, okD_own, okD_keeper, okD_foe, okD_move, okD_slip, okD_how, List.length_cons, List.length_nil, Nat.reduceAdd, Nat.reduceLeDiff, Nat.reduceEqDiff, true_and, and_true, and_self, ev0_1, ev0_2, ev0_3, ev0_4, imm_int, imm_bool, imm_str, imm_tup, imms_nil, imms_cons, Bool.and_true, Bool.true_and, List.nil_append, List.cons_append, Int.reduceLT, Int.reduceLE, Int.reducePow, Int.reduceNeg, Nat.reducePow, Nat.reduceLT, Int.reduceToNat, Int.reduceAdd, Int.reduceSub, natAbs10, or_true, true_or, Bool.not_true, Bool.not_false, decide_true, decide_false, atL2, List.replicate_succ, List.replicate_zero, Nat.reduceSub, wipe_nil, wipe_cons, back_nil, back_cons, List.getD_cons_zero, List.getD_cons_succ, List.set_cons_zero, List.set_cons_succ, sorted_l, add_ss, int_b, isascii_s, isdigit_s, split_ss, join_sl, part_ss, str_i, wX_fmt, wIt_enumK, wX_sortsetT, add1_ll, mul1_li, ltT_22, upper_s, isStr]
    rintro ρ rfl
    refine wS_cut (fun ρ => ∃ d, DkOk d ∧ ρ = [some d, some (.int i), some O]) ?_ ?_
    · simp only [wX_C, wX_N, wX_bin, wX_binN, wL_nil, wL_cons, wX_tup, wX_lst, wX_imm, wX_b, wX_call, wX_callN, wX_callI, wX_isi, wX_and, wX_or, wX_not, wX_if, wB_tb, wB_tru, wB_not, wB_and, wB_or, wB_yes, wP_no, wP_part, wX_sl, wS_nil, wS_pass, wS_break, wS_cont, wS_no, wS_seq, wS_drop, wS_ret, wS_retN, wS_if, wS_set, wS_asg, wS_par, wS_for, wT_name, wTs_nil, wTs_cons, wT_tup, wIt_seq, wIt_seqI, wIt_range1, wIt_range2, wIt_enum, wIt_zip, wX_lc', gt_z, gt_s, st_z, st_s, inn_z, inn_s, asB_b, asT_b, asI_i, asQ_l, asQ_t, wIf_t, wIf_f, wG_run, wI_run, wS_dput, wX_dpop, wX_dappend, asD_d, asL_l, wX_append, wX_popAt, wX_pop, wX_extend, wS_lput, wX_sortset, wX_lrange, wX_sortitems, wX_disp, wPs_nil, wPs_cons, wX_din, add_ii, add_tt, add_ll, sub_ii, mod_ii, div_ii, pow_ii, mul_ii, mul_ti, mul_li, lt_ii, le_ii, gt_ii, ge_ii, eq_dd, ne_dd, isN_dd, notN_dd, isB_dd, isNB_dd, ix_l, ix_t, wAt_0, wAt_1, wAt_2, wAt_3, in_t, in_l, len_l, len_t, int_i, list_l, list_t, tuple_l, tuple_t, max2_ii, min2_ii, sl_t, sl_l, eqv_ii, eqv_bb, eqv_ss, eqv_l0, eqv_t0, okD_int, okD_bool, okD_none, okD_l0, okD_own, okD_keeper, okD_foe, okD_move, okD_slip, okD_how, List.length_cons, List.length_nil, Nat.reduceAdd, Nat.reduceLeDiff, Nat.reduceEqDiff, true_and, and_true, and_self, ev0_1, ev0_2, ev0_3, ev0_4, imm_int, imm_bool, imm_str, imm_tup, imms_nil, imms_cons, Bool.and_true, Bool.true_and, List.nil_append, List.cons_append, Int.reduceLT, Int.reduceLE, Int.reducePow, Int.reduceNeg, Nat.reducePow, Nat.reduceLT, Int.reduceToNat, Int.reduceAdd, Int.reduceSub, natAbs10, or_true, true_or, Bool.not_true, Bool.not_false, decide_true, decide_false, atL2, List.replicate_succ, List.replicate_zero, Nat.reduceSub, wipe_nil, wipe_cons, back_nil, back_cons, List.getD_cons_zero, List.getD_cons_succ, List.set_cons_zero, List.set_cons_succ, sorted_l, add_ss, int_b, isascii_s, isdigit_s, split_ss, join_sl, part_ss, str_i, wX_fmt, wIt_enumK, wX_sortsetT, add1_ll, mul1_li, ltT_22, upper_s, isInt]
      refine draw_ok hd (by decide) (by decide) fun r d' hd' g0 g1 => ?_
      (try simp only [wX_C, wX_N, wX_bin, wX_binN, wL_nil, wL_cons, wX_tup, wX_lst, wX_imm, wX_b, wX_call, wX_callN, wX_callI, wX_isi, wX_and, wX_or, wX_not, wX_if, wB_tb, wB_tru, wB_not, wB_and, wB_or, wB_yes, wP_no, wP_part, wX_sl, wS_nil, wS_pass, wS_break, wS_cont, wS_no, wS_seq, wS_drop, wS_ret, wS_retN, wS_if, wS_set, wS_asg, wS_par, wS_for, wT_name, wTs_nil, wTs_cons, wT_tup, wIt_seq, wIt_seqI, wIt_range1, wIt_range2, wIt_enum, wIt_zip, wX_lc', gt_z, gt_s, st_z, st_s, inn_z, inn_s, asB_b, asT_b, asI_i, asQ_l, asQ_t, wIf_t, wIf_f, wG_run, wI_run, wS_dput, wX_dpop, wX_dappend, asD_d, asL_l, wX_append, wX_popAt, wX_pop, wX_extend, wS_lput, wX_sortset, wX_lrange, wX_sortitems, wX_disp, wPs_nil, wPs_cons, wX_din, add_ii, add_tt, add_ll, sub_ii, mod_ii, div_ii, pow_ii, mul_ii, mul_ti, mul_li, lt_ii, le_ii, gt_ii, ge_ii, eq_dd, ne_dd, isN_dd, notN_dd, isB_dd, isNB_dd, ix_l, ix_t, wAt_0, wAt_1, wAt_2, wAt_3, in_t, in_l, len_l, len_t, int_i, list_l, list_t, tuple_l, tuple_t, max2_ii, min2_ii, sl_t, sl_l, eqv_ii, eqv_bb, eqv_ss, eqv_l0, eqv_t0, okD_int, okD_bool, okD_none, okD_l0, okD_own, okD_keeper, okD_foe, okD_move, okD_slip, okD_how, List.length_cons, List.length_nil, Nat.reduceAdd, Nat.reduceLeDiff, Nat.reduceEqDiff, true_and, and_true, and_self, ev0_1, ev0_2, ev0_3, ev0_4, imm_int, imm_bool, imm_str, imm_tup, imms_nil, imms_cons, Bool.and_true, Bool.true_and, List.nil_append, List.cons_append, Int.reduceLT, Int.reduceLE, Int.reducePow, Int.reduceNeg, Nat.reducePow, Nat.reduceLT, Int.reduceToNat, Int.reduceAdd, Int.reduceSub, natAbs10, or_true, true_or, Bool.not_true, Bool.not_false, decide_true, decide_false, atL2, List.replicate_succ, List.replicate_zero, Nat.reduceSub, wipe_nil, wipe_cons, back_nil, back_cons, List.getD_cons_zero, List.getD_cons_succ, List.set_cons_zero, List.set_cons_succ, sorted_l, add_ss, int_b, isascii_s, isdigit_s, split_ss, join_sl, part_ss, str_i, wX_fmt, wIt_enumK, wX_sortsetT, add1_ll, mul1_li, ltT_22, upper_s])
      refine wIf_dec (fun _ => ⟨logS h0 h1, nat i h0 h1 d' hd' _ rfl⟩) fun _ => ⟨d', hd', rfl⟩
    rintro ρ ⟨d', hd', rfl⟩
    exact fin d' hd'
  | any =>
    refine wS_cut (fun ρ => ∃ d, DkOk d ∧ ρ = [some d, some (.str "any"), some O]) ?_ ?_
    · simp only [wX_C, wX_N, wX_bin, wX_binN, wL_nil, wL_cons, wX_tup, wX_lst, wX_imm, wX_b, wX_call, wX_callN, wX_callI, wX_isi, wX_and, wX_or, wX_not, wX_if, wB_tb, wB_tru, wB_not, wB_and, wB_or, wB_yes, wP_no, wP_part, wX_sl, wS_nil, wS_pass, wS_break, wS_cont, wS_no, wS_seq, wS_drop, wS_ret, wS_retN, wS_if, wS_set, wS_asg, wS_par, wS_for, wT_name, wTs_nil, wTs_cons, wT_tup, wIt_seq, wIt_seqI, wIt_range1, wIt_range2, wIt_enum, wIt_zip, wX_lc', gt_z, gt_s, st_z, st_s, inn_z, inn_s, asB_b, asT_b, asI_i, asQ_l, asQ_t, wIf_t, wIf_f, wG_run, wI_run, wS_dput, wX_dpop, wX_dappend, asD_d, asL_l, wX_append, wX_popAt, wX_pop, wX_extend, wS_lput, wX_sortset, wX_lrange, wX_sortitems, wX_disp, wPs_nil, wPs_cons, wX_din, add_ii, add_tt, add_ll, sub_ii, mod_ii, div_ii, pow_ii, mul_ii, mul_ti, mul_li, lt_ii, le_ii, gt_ii, ge_ii, eq_dd, ne_dd, isN_dd, notN_dd, isB_dd, isNB_dd, ix_l, ix_t, wAt_0, wAt_1, wAt_2, wAt_3, in_t, in_l, len_l, len_t, int_i, list_l, list_t, tuple_l, tuple_t, max2_ii, min2_ii, sl_t, sl_l, eqv_ii, eqv_bb, eqv_ss, eqv_l0, eqv_t0, okD_int, okD_bool, okD_none, okD_l0, okD_own, okD_keeper, okD_foe, okD_move, okD_slip, okD_how, List.length_cons, List.length_nil, Nat.reduceAdd, Nat.reduceLeDiff, Nat.reduceEqDiff, true_and, and_true, and_self, ev0_1, ev0_2, ev0_3, ev0_4, imm_int, imm_bool, imm_str, imm_tup, imms_nil, imms_cons, Bool.and_true, Bool.true_and, List.nil_append, List.cons_append, Int.reduceLT, Int.reduceLE, Int.reducePow, Int.reduceNeg, Nat.reducePow, Nat.reduceLT, Int.reduceToNat, Int.reduceAdd, Int.reduceSub, natAbs10, or_true, true_or, Bool.not_true, Bool.not_false, decide_true, decide_false, atL2, List.replicate_succ, List.replicate_zero, Nat.reduceSub, wipe_nil, wipe_cons, back_nil, back_cons, List.getD_cons_zero, List.getD_cons_succ, List.set_cons_zero, List.set_cons_succ, sorted_l, add_ss, int_b, isascii_s, isdigit_s, split_ss, join_sl, part_ss, str_i, wX_fmt, wIt_enumK, wX_sortsetT, add1_ll, mul1_li, ltT_22, upper_s, isStr, sl_s]
      refine draw_ok hd (by decide) (by decide) fun r d' hd' g0 g1 => ?_
      simp only [wX_C, wX_N, wX_bin, wX_binN, wL_nil, wL_cons, wX_tup, wX_lst, wX_imm, wX_b, wX_call, wX_callN, wX_callI, wX_isi, wX_and, wX_or, wX_not, wX_if, wB_tb, wB_tru, wB_not, wB_and, wB_or, wB_yes, wP_no, wP_part, wX_sl, wS_nil, wS_pass, wS_break, wS_cont, wS_no, wS_seq, wS_drop, wS_ret, wS_retN, wS_if, wS_set, wS_asg, wS_par, wS_for, wT_name, wTs_nil, wTs_cons, wT_tup, wIt_seq, wIt_seqI, wIt_range1, wIt_range2, wIt_enum, wIt_zip, wX_lc', gt_z, gt_s, st_z, st_s, inn_z, inn_s, asB_b, asT_b, asI_i, asQ_l, asQ_t, wIf_t, wIf_f, wG_run, wI_run, wS_dput, wX_dpop, wX_dappend, asD_d, asL_l, wX_append, wX_popAt, wX_pop, wX_extend, wS_lput, wX_sortset, wX_lrange, wX_sortitems, wX_disp, wPs_nil, wPs_cons, wX_din, add_ii, add_tt, add_ll, sub_ii, mod_ii, div_ii, pow_ii, mul_ii, mul_ti, mul_li, lt_ii, le_ii, gt_ii, ge_ii, eq_dd, ne_dd, isN_dd, notN_dd, isB_dd, isNB_dd, ix_l, ix_t, wAt_0, wAt_1, wAt_2, wAt_3, in_t, in_l, len_l, len_t, int_i, list_l, list_t, tuple_l, tuple_t, max2_ii, min2_ii, sl_t, sl_l, eqv_ii, eqv_bb, eqv_ss, eqv_l0, eqv_t0, okD_int, okD_bool, okD_none, okD_l0, okD_own, okD_keeper, okD_foe, okD_move, okD_slip, okD_how, List.length_cons, List.length_nil, Nat.reduceAdd, Nat.reduceLeDiff, Nat.reduceEqDiff, true_and, and_true, and_self, ev0_1, ev0_2, ev0_3, ev0_4, imm_int, imm_bool, imm_str, imm_tup, imms_nil, imms_cons, Bool.and_true, Bool.true_and, List.nil_append, List.cons_append, Int.reduceLT, Int.reduceLE, Int.reducePow, Int.reduceNeg, Nat.reducePow, Nat.reduceLT, Int.reduceToNat, Int.reduceAdd, Int.reduceSub, natAbs10, or_true, true_or, Bool.not_true, Bool.not_false, decide_true, decide_false, atL2, List.replicate_succ, List.replicate_zero, Nat.reduceSub, wipe_nil, wipe_cons, back_nil, back_cons, List.getD_cons_zero, List.getD_cons_succ, List.set_cons_zero, List.set_cons_succ, sorted_l, add_ss, int_b, isascii_s, isdigit_s, split_ss, join_sl, part_ss, str_i, wX_fmt, wIt_enumK, wX_sortsetT, add1_ll, mul1_li, ltT_22, upper_s, wX_neg]
      refine wIf_dec (fun _ => ⟨by decide, by decide, by decide, by decide, ?_⟩) fun _ => ⟨d', hd', rfl⟩
      exact txt _ (by simp) d' hd' _ rfl
    rintro ρ ⟨d', hd', rfl⟩
    refine wS_cut (fun ρ => ρ = [some d', some (.str "any"), some O]) ?_ ?_
    · simp only [wX_C, wX_N, wX_bin, wX_binN, wL_nil, wL_cons, wX_tup, wX_lst, wX_imm, wX_b, wX_call, wX_callN, wX_callI, wX_isi, wX_and, wX_or, wX_not, wX_if, wB_tb, wB_tru, wB_not, wB_and, wB_or, wB_yes, wP_no, wP_part, wX_sl, wS_nil, wS_pass, wS_break, wS_cont, wS_no, wS_seq, wS_drop, wS_ret, wS_retN, wS_if, wS_set, wS_asg, wS_par, wS_for, wT_name, wTs_nil, wTs_cons, wT_tup, wIt_seq, wIt_seqI, wIt_range1, wIt_range2, wIt_enum, wIt_zip, wX_lc', gt_z, gt_s, st_z, st_s, inn_z, inn_s, asB_b, asT_b, asI_i, asQ_l, asQ_t, wIf_t, wIf_f, wG_run, wI_run, wS_dput, wX_dpop, wX_dappend, asD_d, asL_l, wX_append, wX_popAt, wX_pop, wX_extend, wS_lput, wX_sortset, wX_lrange, wX_sortitems, wX_disp, wPs_nil, wPs_cons, wX_din, add_ii, add_tt, add_ll, sub_ii, mod_ii, div_ii, pow_ii, mul_ii, mul_ti, mul_li, lt_ii, le_ii, gt_ii, ge_ii, eq_dd, ne_dd, isN_dd, notN_dd, isB_dd, isNB_dd, ix_l, ix_t, wAt_0, wAt_1, wAt_2, wAt_3, in_t, in_l, len_l, len_t, int_i, list_l, list_t, tuple_l, tuple_t, max2_ii, min2_ii, sl_t, sl_l, eqv_ii, eqv_bb, eqv_ss, eqv_l0, eqv_t0, okD_int, okD_bool, okD_none, okD_l0, okD_own, okD_keeper, okD_foe, okD_move, okD_slip, okD_how, List.length_cons, List.length_nil, Nat.reduceAdd, Nat.reduceLeDiff, Nat.reduceEqDiff, true_and, and_true, and_self, ev0_1, ev0_2, ev0_3, ev0_4, imm_int, imm_bool, imm_str, imm_tup, imms_nil, imms_cons, Bool.and_true, Bool.true_and, List.nil_append, List.cons_append, Int.reduceLT, Int.reduceLE, Int.reducePow, Int.reduceNeg, Nat.reducePow, Nat.reduceLT, Int.reduceToNat, Int.reduceAdd, Int.reduceSub, natAbs10, or_true, true_or, Bool.not_true, Bool.not_false, decide_true, decide_false, atL2, List.replicate_succ, List.replicate_zero, Nat.reduceSub, wipe_nil, wipe_cons, back_nil, back_cons, List.getD_cons_zero, List.getD_cons_succ, List.set_cons_zero, List.set_cons_succ, sorted_l, add_ss, int_b, isascii_s, isdigit_s, split_ss, join_sl, part_ss, str_i, wX_fmt, wIt_enumK, wX_sortsetT, add1_ll, mul1_li, ltT_22, upper_s, isInt]
    rintro ρ rfl
    exact fin d' hd'
  | ever =>
    refine wS_cut (fun ρ => ∃ d, DkOk d ∧ ρ = [some d, some (.str "ever"), some O]) ?_ ?_
    · simp only [wX_C, wX_N, wX_bin, wX_binN, wL_nil, wL_cons, wX_tup, wX_lst, wX_imm, wX_b, wX_call, wX_callN, wX_callI, wX_isi, wX_and, wX_or, wX_not, wX_if, wB_tb, wB_tru, wB_not, wB_and, wB_or, wB_yes, wP_no, wP_part, wX_sl, wS_nil, wS_pass, wS_break, wS_cont, wS_no, wS_seq, wS_drop, wS_ret, wS_retN, wS_if, wS_set, wS_asg, wS_par, wS_for, wT_name, wTs_nil, wTs_cons, wT_tup, wIt_seq, wIt_seqI, wIt_range1, wIt_range2, wIt_enum, wIt_zip, wX_lc', gt_z, gt_s, st_z, st_s, inn_z, inn_s, asB_b, asT_b, asI_i, asQ_l, asQ_t, wIf_t, wIf_f, wG_run, wI_run, wS_dput, wX_dpop, wX_dappend, asD_d, asL_l, wX_append, wX_popAt, wX_pop, wX_extend, wS_lput, wX_sortset, wX_lrange, wX_sortitems, wX_disp, wPs_nil, wPs_cons, wX_din, add_ii, add_tt, add_ll, sub_ii, mod_ii, div_ii, pow_ii, mul_ii, mul_ti, mul_li, lt_ii, le_ii, gt_ii, ge_ii, eq_dd, ne_dd, isN_dd, notN_dd, isB_dd, isNB_dd, ix_l, ix_t, wAt_0, wAt_1, wAt_2, wAt_3, in_t, in_l, len_l, len_t, int_i, list_l, list_t, tuple_l, tuple_t, max2_ii, min2_ii, sl_t, sl_l, eqv_ii, eqv_bb, eqv_ss, eqv_l0, eqv_t0, okD_int, okD_bool, okD_none, okD_l0, okD_own, okD_keeper, okD_foe, okD_move, okD_slip, okD_how, List.length_cons, List.length_nil, Nat.reduceAdd, Nat.reduceLeDiff, Nat.reduceEqDiff, true_and, and_true, and_self, ev0_1, ev0_2, ev0_3, ev0_4, imm_int, imm_bool, imm_str, imm_tup, imms_nil, imms_cons, Bool.and_true, Bool.true_and, List.nil_append, List.cons_append, Int.reduceLT, Int.reduceLE, Int.reducePow, Int.reduceNeg, Nat.reducePow, Nat.reduceLT, Int.reduceToNat, Int.reduceAdd, Int.reduceSub, natAbs10, or_true, true_or, Bool.not_true, Bool.not_false, decide_true, decide_false, atL2, List.replicate_succ, List.replicate_zero, Nat.reduceSub, wipe_nil, wipe_cons, back_nil, back_cons, List.getD_cons_zero, List.getD_cons_succ, List.set_cons_zero, List.set_cons_succ, sorted_l, add_ss, int_b, isascii_s, isdigit_s, split_ss, join_sl, part_ss, str_i, wX_fmt, wIt_enumK, wX_sortsetT, add1_ll, mul1_li, ltT_22, upper_s, isStr, sl_s]
      refine draw_ok hd (by decide) (by decide) fun r d' hd' g0 g1 => ?_
      simp only [wX_C, wX_N, wX_bin, wX_binN, wL_nil, wL_cons, wX_tup, wX_lst, wX_imm, wX_b, wX_call, wX_callN, wX_callI, wX_isi, wX_and, wX_or, wX_not, wX_if, wB_tb, wB_tru, wB_not, wB_and, wB_or, wB_yes, wP_no, wP_part, wX_sl, wS_nil, wS_pass, wS_break, wS_cont, wS_no, wS_seq, wS_drop, wS_ret, wS_retN, wS_if, wS_set, wS_asg, wS_par, wS_for, wT_name, wTs_nil, wTs_cons, wT_tup, wIt_seq, wIt_seqI, wIt_range1, wIt_range2, wIt_enum, wIt_zip, wX_lc', gt_z, gt_s, st_z, st_s, inn_z, inn_s, asB_b, asT_b, asI_i, asQ_l, asQ_t, wIf_t, wIf_f, wG_run, wI_run, wS_dput, wX_dpop, wX_dappend, asD_d, asL_l, wX_append, wX_popAt, wX_pop, wX_extend, wS_lput, wX_sortset, wX_lrange, wX_sortitems, wX_disp, wPs_nil, wPs_cons, wX_din, add_ii, add_tt, add_ll, sub_ii, mod_ii, div_ii, pow_ii, mul_ii, mul_ti, mul_li, lt_ii, le_ii, gt_ii, ge_ii, eq_dd, ne_dd, isN_dd, notN_dd, isB_dd, isNB_dd, ix_l, ix_t, wAt_0, wAt_1, wAt_2, wAt_3, in_t, in_l, len_l, len_t, int_i, list_l, list_t, tuple_l, tuple_t, max2_ii, min2_ii, sl_t, sl_l, eqv_ii, eqv_bb, eqv_ss, eqv_l0, eqv_t0, okD_int, okD_bool, okD_none, okD_l0, okD_own, okD_keeper, okD_foe, okD_move, okD_slip, okD_how, List.length_cons, List.length_nil, Nat.reduceAdd, Nat.reduceLeDiff, Nat.reduceEqDiff, true_and, and_true, and_self, ev0_1, ev0_2, ev0_3, ev0_4, imm_int, imm_bool, imm_str, imm_tup, imms_nil, imms_cons, Bool.and_true, Bool.true_and, List.nil_append, List.cons_append, Int.reduceLT, Int.reduceLE, Int.reducePow, Int.reduceNeg, Nat.reducePow, Nat.reduceLT, Int.reduceToNat, Int.reduceAdd, Int.reduceSub, natAbs10, or_true, true_or, Bool.not_true, Bool.not_false, decide_true, decide_false, atL2, List.replicate_succ, List.replicate_zero, Nat.reduceSub, wipe_nil, wipe_cons, back_nil, back_cons, List.getD_cons_zero, List.getD_cons_succ, List.set_cons_zero, List.set_cons_succ, sorted_l, add_ss, int_b, isascii_s, isdigit_s, split_ss, join_sl, part_ss, str_i, wX_fmt, wIt_enumK, wX_sortsetT, add1_ll, mul1_li, ltT_22, upper_s, wX_neg]
      refine wIf_dec (fun _ => ⟨by decide, by decide, by decide, by decide, ?_⟩) fun _ => ⟨d', hd', rfl⟩
      exact txt _ (by simp) d' hd' _ rfl
    rintro ρ ⟨d', hd', rfl⟩
    refine wS_cut (fun ρ => ρ = [some d', some (.str "ever"), some O]) ?_ ?_
    · simp only [wX_C, wX_N, wX_bin, wX_binN, wL_nil, wL_cons, wX_tup, wX_lst, wX_imm, wX_b, wX_call, wX_callN, wX_callI, wX_isi, wX_and, wX_or, wX_not, wX_if, wB_tb, wB_tru, wB_not, wB_and, wB_or, wB_yes, wP_no, wP_part, wX_sl, wS_nil, wS_pass, wS_break, wS_cont, wS_no, wS_seq, wS_drop, wS_ret, wS_retN, wS_if, wS_set, wS_asg, wS_par, wS_for, wT_name, wTs_nil, wTs_cons, wT_tup, wIt_seq, wIt_seqI, wIt_range1, wIt_range2, wIt_enum, wIt_zip, wX_lc', gt_z, gt_s, st_z, st_s, inn_z, inn_s, asB_b, asT_b, asI_i, asQ_l, asQ_t, wIf_t, wIf_f, wG_run, wI_run, wS_dput, wX_dpop, wX_dappend, asD_d, asL_l, wX_append, wX_popAt, wX_pop, wX_extend, wS_lput, wX_sortset, wX_lrange, wX_sortitems, wX_disp, wPs_nil, wPs_cons, wX_din, add_ii, add_tt, add_ll, sub_ii, mod_ii, div_ii, pow_ii, mul_ii, mul_ti, mul_li, lt_ii, le_ii, gt_ii, ge_ii, eq_dd, ne_dd, isN_dd, notN_dd, isB_dd, isNB_dd, ix_l, ix_t, wAt_0, wAt_1, wAt_2, wAt_3, in_t, in_l, len_l, len_t, int_i, list_l, list_t, tuple_l, tuple_t, max2_ii, min2_ii, sl_t, sl_l, eqv_ii, eqv_bb, eqv_ss, eqv_l0, eqv_t0, okD_int, okD_bool, okD_none, okD_l0, okD_own, okD_keeper, okD_foe, okD_move, okD_slip, okD_how, List.length_cons, List.length_nil, Nat.reduceAdd, Nat.reduceLeDiff, Nat.reduceEqDiff, true_and, and_true, and_self, ev0_1, ev0_2, ev0_3, ev0_4, imm_int, imm_bool, imm_str, imm_tup, imms_nil, imms_cons, Bool.and_true, Bool.true_and, List.nil_append, List.cons_append, Int.reduceLT, Int.reduceLE, Int.reducePow, Int.reduceNeg, Nat.reducePow, Nat.reduceLT, Int.reduceToNat, Int.reduceAdd, Int.reduceSub, natAbs10, or_true, true_or, Bool.not_true, Bool.not_false, decide_true, decide_false, atL2, List.replicate_succ, List.replicate_zero, Nat.reduceSub, wipe_nil, wipe_cons, back_nil, back_cons, List.getD_cons_zero, List.getD_cons_succ, List.set_cons_zero, List.set_cons_succ, sorted_l, add_ss, int_b, isascii_s, isdigit_s, split_ss, join_sl, part_ss, str_i, wX_fmt, wIt_enumK, wX_sortsetT, add1_ll, mul1_li, ltT_22, upper_s, isInt]
    rintro ρ rfl
    exact fin d' hd'
/-- is it a number -/
def isNum : PyData → Bool
  | .int i => decide (0 ≤ i)
  | .str s => anyEq (.str s) [.str "any", .str "ever"]
  | _ => false
theorem int_from_ok {d : PyData} {Q : PyData → Prop} (q : Q (.bool (match d with | .int i => decide (0 ≤ i) | _ => false))) : wG m_is_integer_from [d, .int 0] Q := by
  unfold m_is_integer_from g_is_integer_from
  cases d <;> simp only [wX_C, wX_N, wX_bin, wX_binN, wL_nil, wL_cons, wX_tup, wX_lst, wX_imm, wX_b, wX_call, wX_callN, wX_callI, wX_isi, wX_and, wX_or, wX_not, wX_if, wB_tb, wB_tru, wB_not, wB_and, wB_or, wB_yes, wP_no, wP_part, wX_sl, wS_nil, wS_pass, wS_break, wS_cont, wS_no, wS_seq, wS_drop, wS_ret, wS_retN, wS_if, wS_set, wS_asg, wS_par, wS_for, wT_name, wTs_nil, wTs_cons, wT_tup, wIt_seq, wIt_seqI, wIt_range1, wIt_range2, wIt_enum, wIt_zip, wX_lc', gt_z, gt_s, st_z, st_s, inn_z, inn_s, asB_b, asT_b, asI_i, asQ_l, asQ_t, wIf_t, wIf_f, wG_run, wI_run, wS_dput, wX_dpop, wX_dappend, asD_d, asL_l, wX_append, wX_popAt, wX_pop, wX_extend, wS_lput, wX_sortset, wX_lrange, wX_sortitems, wX_disp, wPs_nil, wPs_cons, wX_din, add_ii, add_tt, add_ll, sub_ii, mod_ii, div_ii, pow_ii, mul_ii, mul_ti, mul_li, lt_ii, le_ii, gt_ii, ge_ii, eq_dd, ne_dd, isN_dd, notN_dd, isB_dd, isNB_dd, ix_l, ix_t, wAt_0, wAt_1, wAt_2, wAt_3, in_t, in_l, len_l, len_t, int_i, list_l, list_t, tuple_l, tuple_t, max2_ii, min2_ii, sl_t, sl_l, eqv_ii, eqv_bb, eqv_ss, eqv_l0, eqv_t0, okD_int, okD_bool, okD_none, okD_l0, okD_own, okD_keeper, okD_foe, okD_move, okD_slip, okD_how, List.length_cons, List.length_nil, Nat.reduceAdd, Nat.reduceLeDiff, Nat.reduceEqDiff, true_and, and_true, and_self, ev0_1, ev0_2, ev0_3, ev0_4, imm_int, imm_bool, imm_str, imm_tup, imms_nil, imms_cons, Bool.and_true, Bool.true_and, List.nil_append, List.cons_append, Int.reduceLT, Int.reduceLE, Int.reducePow, Int.reduceNeg, Nat.reducePow, Nat.reduceLT, Int.reduceToNat, Int.reduceAdd, Int.reduceSub, natAbs10, or_true, true_or, Bool.not_true, Bool.not_false, decide_true, decide_false, atL2, List.replicate_succ, List.replicate_zero, Nat.reduceSub, wipe_nil, wipe_cons, back_nil, back_cons, List.getD_cons_zero, List.getD_cons_succ, List.set_cons_zero, List.set_cons_succ, sorted_l, add_ss, int_b, isascii_s, isdigit_s, split_ss, join_sl, part_ss, str_i, wX_fmt, wIt_enumK, wX_sortsetT, add1_ll, mul1_li, ltT_22, upper_s, isInt, isBool] <;> exact q
theorem law_int_ok {d : PyData} {Q : PyData → Prop} (q : Q (.bool (match d with | .int i => decide (0 ≤ i) | _ => false))) : wG m__law_is_int [d, .int 0] Q := by
  unfold m__law_is_int g__law_is_int
  cases d <;> simp only [wX_C, wX_N, wX_bin, wX_binN, wL_nil, wL_cons, wX_tup, wX_lst, wX_imm, wX_b, wX_call, wX_callN, wX_callI, wX_isi, wX_and, wX_or, wX_not, wX_if, wB_tb, wB_tru, wB_not, wB_and, wB_or, wB_yes, wP_no, wP_part, wX_sl, wS_nil, wS_pass, wS_break, wS_cont, wS_no, wS_seq, wS_drop, wS_ret, wS_retN, wS_if, wS_set, wS_asg, wS_par, wS_for, wT_name, wTs_nil, wTs_cons, wT_tup, wIt_seq, wIt_seqI, wIt_range1, wIt_range2, wIt_enum, wIt_zip, wX_lc', gt_z, gt_s, st_z, st_s, inn_z, inn_s, asB_b, asT_b, asI_i, asQ_l, asQ_t, wIf_t, wIf_f, wG_run, wI_run, wS_dput, wX_dpop, wX_dappend, asD_d, asL_l, wX_append, wX_popAt, wX_pop, wX_extend, wS_lput, wX_sortset, wX_lrange, wX_sortitems, wX_disp, wPs_nil, wPs_cons, wX_din, add_ii, add_tt, add_ll, sub_ii, mod_ii, div_ii, pow_ii, mul_ii, mul_ti, mul_li, lt_ii, le_ii, gt_ii, ge_ii, eq_dd, ne_dd, isN_dd, notN_dd, isB_dd, isNB_dd, ix_l, ix_t, wAt_0, wAt_1, wAt_2, wAt_3, in_t, in_l, len_l, len_t, int_i, list_l, list_t, tuple_l, tuple_t, max2_ii, min2_ii, sl_t, sl_l, eqv_ii, eqv_bb, eqv_ss, eqv_l0, eqv_t0, okD_int, okD_bool, okD_none, okD_l0, okD_own, okD_keeper, okD_foe, okD_move, okD_slip, okD_how, List.length_cons, List.length_nil, Nat.reduceAdd, Nat.reduceLeDiff, Nat.reduceEqDiff, true_and, and_true, and_self, ev0_1, ev0_2, ev0_3, ev0_4, imm_int, imm_bool, imm_str, imm_tup, imms_nil, imms_cons, Bool.and_true, Bool.true_and, List.nil_append, List.cons_append, Int.reduceLT, Int.reduceLE, Int.reducePow, Int.reduceNeg, Nat.reducePow, Nat.reduceLT, Int.reduceToNat, Int.reduceAdd, Int.reduceSub, natAbs10, or_true, true_or, Bool.not_true, Bool.not_false, decide_true, decide_false, atL2, List.replicate_succ, List.replicate_zero, Nat.reduceSub, wipe_nil, wipe_cons, back_nil, back_cons, List.getD_cons_zero, List.getD_cons_succ, List.set_cons_zero, List.set_cons_succ, sorted_l, add_ss, int_b, isascii_s, isdigit_s, split_ss, join_sl, part_ss, str_i, wX_fmt, wIt_enumK, wX_sortsetT, add1_ll, mul1_li, ltT_22, upper_s, isInt, isBool] <;> exact q
theorem ok_ae : okD (.tuple [.str "any", .str "ever"]) = true := by decide +kernel
theorem any_i {i : Int} : anyEq (.int i) [.str "any", .str "ever"] = false := by simp [anyEq, PyData.eqv]
theorem any_n : anyEq .none [.str "any", .str "ever"] = false := by simp [anyEq, PyData.eqv]
theorem any_b {i : Bool} : anyEq (.bool i) [.str "any", .str "ever"] = false := by simp [anyEq, PyData.eqv]
theorem any_t {i : List PyData} : anyEq (.tuple i) [.str "any", .str "ever"] = false := by simp [anyEq, PyData.eqv]
theorem any_l {i : List PyData} : anyEq (.list i) [.str "any", .str "ever"] = false := by simp [anyEq, PyData.eqv]
theorem is_number_ok {d : PyData} (h : ThOk d) {Q : PyData → Prop} (q : Q (.bool (isNum d))) : wG m_is_number [d] Q := by
  unfold m_is_number g_is_number
  rcases h with h | rfl
  · have nd : d ≠ .dict [] := fun e => by have := h.ok; subst e; exact absurd this (by decide)
    have ho := h.ok
    simp only [wX_C, wX_N, wX_bin, wX_binN, wL_nil, wL_cons, wX_tup, wX_lst, wX_imm, wX_b, wX_call, wX_callN, wX_callI, wX_isi, wX_and, wX_or, wX_not, wX_if, wB_tb, wB_tru, wB_not, wB_and, wB_or, wB_yes, wP_no, wP_part, wX_sl, wS_nil, wS_pass, wS_break, wS_cont, wS_no, wS_seq, wS_drop, wS_ret, wS_retN, wS_if, wS_set, wS_asg, wS_par, wS_for, wT_name, wTs_nil, wTs_cons, wT_tup, wIt_seq, wIt_seqI, wIt_range1, wIt_range2, wIt_enum, wIt_zip, wX_lc', gt_z, gt_s, st_z, st_s, inn_z, inn_s, asB_b, asT_b, asI_i, asQ_l, asQ_t, wIf_t, wIf_f, wG_run, wI_run, wS_dput, wX_dpop, wX_dappend, asD_d, asL_l, wX_append, wX_popAt, wX_pop, wX_extend, wS_lput, wX_sortset, wX_lrange, wX_sortitems, wX_disp, wPs_nil, wPs_cons, wX_din, add_ii, add_tt, add_ll, sub_ii, mod_ii, div_ii, pow_ii, mul_ii, mul_ti, mul_li, lt_ii, le_ii, gt_ii, ge_ii, eq_dd, ne_dd, isN_dd, notN_dd, isB_dd, isNB_dd, ix_l, ix_t, wAt_0, wAt_1, wAt_2, wAt_3, in_t, in_l, len_l, len_t, int_i, list_l, list_t, tuple_l, tuple_t, max2_ii, min2_ii, sl_t, sl_l, eqv_ii, eqv_bb, eqv_ss, eqv_l0, eqv_t0, okD_int, okD_bool, okD_none, okD_l0, okD_own, okD_keeper, okD_foe, okD_move, okD_slip, okD_how, List.length_cons, List.length_nil, Nat.reduceAdd, Nat.reduceLeDiff, Nat.reduceEqDiff, true_and, and_true, and_self, ev0_1, ev0_2, ev0_3, ev0_4, imm_int, imm_bool, imm_str, imm_tup, imms_nil, imms_cons, Bool.and_true, Bool.true_and, List.nil_append, List.cons_append, Int.reduceLT, Int.reduceLE, Int.reducePow, Int.reduceNeg, Nat.reducePow, Nat.reduceLT, Int.reduceToNat, Int.reduceAdd, Int.reduceSub, natAbs10, or_true, true_or, Bool.not_true, Bool.not_false, decide_true, decide_false, atL2, List.replicate_succ, List.replicate_zero, Nat.reduceSub, wipe_nil, wipe_cons, back_nil, back_cons, List.getD_cons_zero, List.getD_cons_succ, List.set_cons_zero, List.set_cons_succ, sorted_l, add_ss, int_b, isascii_s, isdigit_s, split_ss, join_sl, part_ss, str_i, wX_fmt, wIt_enumK, wX_sortsetT, add1_ll, mul1_li, ltT_22, upper_s]
    refine int_from_ok ?_
    cases d with
    | int i =>
      simp only [wX_C, wX_N, wX_bin, wX_binN, wL_nil, wL_cons, wX_tup, wX_lst, wX_imm, wX_b, wX_call, wX_callN, wX_callI, wX_isi, wX_and, wX_or, wX_not, wX_if, wB_tb, wB_tru, wB_not, wB_and, wB_or, wB_yes, wP_no, wP_part, wX_sl, wS_nil, wS_pass, wS_break, wS_cont, wS_no, wS_seq, wS_drop, wS_ret, wS_retN, wS_if, wS_set, wS_asg, wS_par, wS_for, wT_name, wTs_nil, wTs_cons, wT_tup, wIt_seq, wIt_seqI, wIt_range1, wIt_range2, wIt_enum, wIt_zip, wX_lc', gt_z, gt_s, st_z, st_s, inn_z, inn_s, asB_b, asT_b, asI_i, asQ_l, asQ_t, wIf_t, wIf_f, wG_run, wI_run, wS_dput, wX_dpop, wX_dappend, asD_d, asL_l, wX_append, wX_popAt, wX_pop, wX_extend, wS_lput, wX_sortset, wX_lrange, wX_sortitems, wX_disp, wPs_nil, wPs_cons, wX_din, add_ii, add_tt, add_ll, sub_ii, mod_ii, div_ii, pow_ii, mul_ii, mul_ti, mul_li, lt_ii, le_ii, gt_ii, ge_ii, eq_dd, ne_dd, isN_dd, notN_dd, isB_dd, isNB_dd, ix_l, ix_t, wAt_0, wAt_1, wAt_2, wAt_3, in_t, in_l, len_l, len_t, int_i, list_l, list_t, tuple_l, tuple_t, max2_ii, min2_ii, sl_t, sl_l, eqv_ii, eqv_bb, eqv_ss, eqv_l0, eqv_t0, okD_int, okD_bool, okD_none, okD_l0, okD_own, okD_keeper, okD_foe, okD_move, okD_slip, okD_how, List.length_cons, List.length_nil, Nat.reduceAdd, Nat.reduceLeDiff, Nat.reduceEqDiff, true_and, and_true, and_self, ev0_1, ev0_2, ev0_3, ev0_4, imm_int, imm_bool, imm_str, imm_tup, imms_nil, imms_cons, Bool.and_true, Bool.true_and, List.nil_append, List.cons_append, Int.reduceLT, Int.reduceLE, Int.reducePow, Int.reduceNeg, Nat.reducePow, Nat.reduceLT, Int.reduceToNat, Int.reduceAdd, Int.reduceSub, natAbs10, or_true, true_or, Bool.not_true, Bool.not_false, decide_true, decide_false, atL2, List.replicate_succ, List.replicate_zero, Nat.reduceSub, wipe_nil, wipe_cons, back_nil, back_cons, List.getD_cons_zero, List.getD_cons_succ, List.set_cons_zero, List.set_cons_succ, sorted_l, add_ss, int_b, isascii_s, isdigit_s, split_ss, join_sl, part_ss, str_i, wX_fmt, wIt_enumK, wX_sortsetT, add1_ll, mul1_li, ltT_22, upper_s, inV_o nd]
      refine wIf_dec (fun hi => ?_) fun hi => ?_
      · have e : isNum (.int i) = true := decide_eq_true hi
        rwa [e] at q
      · have e : isNum (.int i) = false := decide_eq_false hi
        rw [e] at q
        simp only [ho, ok_ae, any_i]
        exact ⟨trivial, q⟩
    | dict l => exact absurd ho (by simp [okD, noD])
    | _ =>
      simp only [wX_C, wX_N, wX_bin, wX_binN, wL_nil, wL_cons, wX_tup, wX_lst, wX_imm, wX_b, wX_call, wX_callN, wX_callI, wX_isi, wX_and, wX_or, wX_not, wX_if, wB_tb, wB_tru, wB_not, wB_and, wB_or, wB_yes, wP_no, wP_part, wX_sl, wS_nil, wS_pass, wS_break, wS_cont, wS_no, wS_seq, wS_drop, wS_ret, wS_retN, wS_if, wS_set, wS_asg, wS_par, wS_for, wT_name, wTs_nil, wTs_cons, wT_tup, wIt_seq, wIt_seqI, wIt_range1, wIt_range2, wIt_enum, wIt_zip, wX_lc', gt_z, gt_s, st_z, st_s, inn_z, inn_s, asB_b, asT_b, asI_i, asQ_l, asQ_t, wIf_t, wIf_f, wG_run, wI_run, wS_dput, wX_dpop, wX_dappend, asD_d, asL_l, wX_append, wX_popAt, wX_pop, wX_extend, wS_lput, wX_sortset, wX_lrange, wX_sortitems, wX_disp, wPs_nil, wPs_cons, wX_din, add_ii, add_tt, add_ll, sub_ii, mod_ii, div_ii, pow_ii, mul_ii, mul_ti, mul_li, lt_ii, le_ii, gt_ii, ge_ii, eq_dd, ne_dd, isN_dd, notN_dd, isB_dd, isNB_dd, ix_l, ix_t, wAt_0, wAt_1, wAt_2, wAt_3, in_t, in_l, len_l, len_t, int_i, list_l, list_t, tuple_l, tuple_t, max2_ii, min2_ii, sl_t, sl_l, eqv_ii, eqv_bb, eqv_ss, eqv_l0, eqv_t0, okD_int, okD_bool, okD_none, okD_l0, okD_own, okD_keeper, okD_foe, okD_move, okD_slip, okD_how, List.length_cons, List.length_nil, Nat.reduceAdd, Nat.reduceLeDiff, Nat.reduceEqDiff, true_and, and_true, and_self, ev0_1, ev0_2, ev0_3, ev0_4, imm_int, imm_bool, imm_str, imm_tup, imms_nil, imms_cons, Bool.and_true, Bool.true_and, List.nil_append, List.cons_append, Int.reduceLT, Int.reduceLE, Int.reducePow, Int.reduceNeg, Nat.reducePow, Nat.reduceLT, Int.reduceToNat, Int.reduceAdd, Int.reduceSub, natAbs10, or_true, true_or, Bool.not_true, Bool.not_false, decide_true, decide_false, atL2, List.replicate_succ, List.replicate_zero, Nat.reduceSub, wipe_nil, wipe_cons, back_nil, back_cons, List.getD_cons_zero, List.getD_cons_succ, List.set_cons_zero, List.set_cons_succ, sorted_l, add_ss, int_b, isascii_s, isdigit_s, split_ss, join_sl, part_ss, str_i, wX_fmt, wIt_enumK, wX_sortsetT, add1_ll, mul1_li, ltT_22, upper_s, inV_o nd, ho, ok_ae, any_n, any_b, any_t, any_l]
      exact q
  · simp only [wX_C, wX_N, wX_bin, wX_binN, wL_nil, wL_cons, wX_tup, wX_lst, wX_imm, wX_b, wX_call, wX_callN, wX_callI, wX_isi, wX_and, wX_or, wX_not, wX_if, wB_tb, wB_tru, wB_not, wB_and, wB_or, wB_yes, wP_no, wP_part, wX_sl, wS_nil, wS_pass, wS_break, wS_cont, wS_no, wS_seq, wS_drop, wS_ret, wS_retN, wS_if, wS_set, wS_asg, wS_par, wS_for, wT_name, wTs_nil, wTs_cons, wT_tup, wIt_seq, wIt_seqI, wIt_range1, wIt_range2, wIt_enum, wIt_zip, wX_lc', gt_z, gt_s, st_z, st_s, inn_z, inn_s, asB_b, asT_b, asI_i, asQ_l, asQ_t, wIf_t, wIf_f, wG_run, wI_run, wS_dput, wX_dpop, wX_dappend, asD_d, asL_l, wX_append, wX_popAt, wX_pop, wX_extend, wS_lput, wX_sortset, wX_lrange, wX_sortitems, wX_disp, wPs_nil, wPs_cons, wX_din, add_ii, add_tt, add_ll, sub_ii, mod_ii, div_ii, pow_ii, mul_ii, mul_ti, mul_li, lt_ii, le_ii, gt_ii, ge_ii, eq_dd, ne_dd, isN_dd, notN_dd, isB_dd, isNB_dd, ix_l, ix_t, wAt_0, wAt_1, wAt_2, wAt_3, in_t, in_l, len_l, len_t, int_i, list_l, list_t, tuple_l, tuple_t, max2_ii, min2_ii, sl_t, sl_l, eqv_ii, eqv_bb, eqv_ss, eqv_l0, eqv_t0, okD_int, okD_bool, okD_none, okD_l0, okD_own, okD_keeper, okD_foe, okD_move, okD_slip, okD_how, List.length_cons, List.length_nil, Nat.reduceAdd, Nat.reduceLeDiff, Nat.reduceEqDiff, true_and, and_true, and_self, ev0_1, ev0_2, ev0_3, ev0_4, imm_int, imm_bool, imm_str, imm_tup, imms_nil, imms_cons, Bool.and_true, Bool.true_and, List.nil_append, List.cons_append, Int.reduceLT, Int.reduceLE, Int.reducePow, Int.reduceNeg, Nat.reducePow, Nat.reduceLT, Int.reduceToNat, Int.reduceAdd, Int.reduceSub, natAbs10, or_true, true_or, Bool.not_true, Bool.not_false, decide_true, decide_false, atL2, List.replicate_succ, List.replicate_zero, Nat.reduceSub, wipe_nil, wipe_cons, back_nil, back_cons, List.getD_cons_zero, List.getD_cons_succ, List.set_cons_zero, List.set_cons_succ, sorted_l, add_ss, int_b, isascii_s, isdigit_s, split_ss, join_sl, part_ss, str_i, wX_fmt, wIt_enumK, wX_sortsetT, add1_ll, mul1_li, ltT_22, upper_s]
    refine int_from_ok ?_
    simp only [wX_C, wX_N, wX_bin, wX_binN, wL_nil, wL_cons, wX_tup, wX_lst, wX_imm, wX_b, wX_call, wX_callN, wX_callI, wX_isi, wX_and, wX_or, wX_not, wX_if, wB_tb, wB_tru, wB_not, wB_and, wB_or, wB_yes, wP_no, wP_part, wX_sl, wS_nil, wS_pass, wS_break, wS_cont, wS_no, wS_seq, wS_drop, wS_ret, wS_retN, wS_if, wS_set, wS_asg, wS_par, wS_for, wT_name, wTs_nil, wTs_cons, wT_tup, wIt_seq, wIt_seqI, wIt_range1, wIt_range2, wIt_enum, wIt_zip, wX_lc', gt_z, gt_s, st_z, st_s, inn_z, inn_s, asB_b, asT_b, asI_i, asQ_l, asQ_t, wIf_t, wIf_f, wG_run, wI_run, wS_dput, wX_dpop, wX_dappend, asD_d, asL_l, wX_append, wX_popAt, wX_pop, wX_extend, wS_lput, wX_sortset, wX_lrange, wX_sortitems, wX_disp, wPs_nil, wPs_cons, wX_din, add_ii, add_tt, add_ll, sub_ii, mod_ii, div_ii, pow_ii, mul_ii, mul_ti, mul_li, lt_ii, le_ii, gt_ii, ge_ii, eq_dd, ne_dd, isN_dd, notN_dd, isB_dd, isNB_dd, ix_l, ix_t, wAt_0, wAt_1, wAt_2, wAt_3, in_t, in_l, len_l, len_t, int_i, list_l, list_t, tuple_l, tuple_t, max2_ii, min2_ii, sl_t, sl_l, eqv_ii, eqv_bb, eqv_ss, eqv_l0, eqv_t0, okD_int, okD_bool, okD_none, okD_l0, okD_own, okD_keeper, okD_foe, okD_move, okD_slip, okD_how, List.length_cons, List.length_nil, Nat.reduceAdd, Nat.reduceLeDiff, Nat.reduceEqDiff, true_and, and_true, and_self, ev0_1, ev0_2, ev0_3, ev0_4, imm_int, imm_bool, imm_str, imm_tup, imms_nil, imms_cons, Bool.and_true, Bool.true_and, List.nil_append, List.cons_append, Int.reduceLT, Int.reduceLE, Int.reducePow, Int.reduceNeg, Nat.reducePow, Nat.reduceLT, Int.reduceToNat, Int.reduceAdd, Int.reduceSub, natAbs10, or_true, true_or, Bool.not_true, Bool.not_false, decide_true, decide_false, atL2, List.replicate_succ, List.replicate_zero, Nat.reduceSub, wipe_nil, wipe_cons, back_nil, back_cons, List.getD_cons_zero, List.getD_cons_succ, List.set_cons_zero, List.set_cons_succ, sorted_l, add_ss, int_b, isascii_s, isdigit_s, split_ss, join_sl, part_ss, str_i, wX_fmt, wIt_enumK, wX_sortsetT, add1_ll, mul1_li, ltT_22, upper_s]
    have e := inV_d (ts := ["any", "ever"]) (Q := Q)
    simp only [List.map_cons, List.map_nil] at e
    rw [e]
    exact q
theorem law_number_ok {d : PyData} (h : ThOk d) {Q : PyData → Prop} (q : Q (.bool (isNum d))) : wG m__law_is_number [d] Q := by
  unfold m__law_is_number g__law_is_number
  simp only [wX_C, wX_N, wX_bin, wX_binN, wL_nil, wL_cons, wX_tup, wX_lst, wX_imm, wX_b, wX_call, wX_callN, wX_callI, wX_isi, wX_and, wX_or, wX_not, wX_if, wB_tb, wB_tru, wB_not, wB_and, wB_or, wB_yes, wP_no, wP_part, wX_sl, wS_nil, wS_pass, wS_break, wS_cont, wS_no, wS_seq, wS_drop, wS_ret, wS_retN, wS_if, wS_set, wS_asg, wS_par, wS_for, wT_name, wTs_nil, wTs_cons, wT_tup, wIt_seq, wIt_seqI, wIt_range1, wIt_range2, wIt_enum, wIt_zip, wX_lc', gt_z, gt_s, st_z, st_s, inn_z, inn_s, asB_b, asT_b, asI_i, asQ_l, asQ_t, wIf_t, wIf_f, wG_run, wI_run, wS_dput, wX_dpop, wX_dappend, asD_d, asL_l, wX_append, wX_popAt, wX_pop, wX_extend, wS_lput, wX_sortset, wX_lrange, wX_sortitems, wX_disp, wPs_nil, wPs_cons, wX_din, add_ii, add_tt, add_ll, sub_ii, mod_ii, div_ii, pow_ii, mul_ii, mul_ti, mul_li, lt_ii, le_ii, gt_ii, ge_ii, eq_dd, ne_dd, isN_dd, notN_dd, isB_dd, isNB_dd, ix_l, ix_t, wAt_0, wAt_1, wAt_2, wAt_3, in_t, in_l, len_l, len_t, int_i, list_l, list_t, tuple_l, tuple_t, max2_ii, min2_ii, sl_t, sl_l, eqv_ii, eqv_bb, eqv_ss, eqv_l0, eqv_t0, okD_int, okD_bool, okD_none, okD_l0, okD_own, okD_keeper, okD_foe, okD_move, okD_slip, okD_how, List.length_cons, List.length_nil, Nat.reduceAdd, Nat.reduceLeDiff, Nat.reduceEqDiff, true_and, and_true, and_self, ev0_1, ev0_2, ev0_3, ev0_4, imm_int, imm_bool, imm_str, imm_tup, imms_nil, imms_cons, Bool.and_true, Bool.true_and, List.nil_append, List.cons_append, Int.reduceLT, Int.reduceLE, Int.reducePow, Int.reduceNeg, Nat.reducePow, Nat.reduceLT, Int.reduceToNat, Int.reduceAdd, Int.reduceSub, natAbs10, or_true, true_or, Bool.not_true, Bool.not_false, decide_true, decide_false, atL2, List.replicate_succ, List.replicate_zero, Nat.reduceSub, wipe_nil, wipe_cons, back_nil, back_cons, List.getD_cons_zero, List.getD_cons_succ, List.set_cons_zero, List.set_cons_succ, sorted_l, add_ss, int_b, isascii_s, isdigit_s, split_ss, join_sl, part_ss, str_i, wX_fmt, wIt_enumK, wX_sortsetT, add1_ll, mul1_li, ltT_22, upper_s]
  refine law_int_ok ?_
  rcases h with h | rfl
  · have ho := h.ok
    cases d with
    | int i =>
      simp only [wX_C, wX_N, wX_bin, wX_binN, wL_nil, wL_cons, wX_tup, wX_lst, wX_imm, wX_b, wX_call, wX_callN, wX_callI, wX_isi, wX_and, wX_or, wX_not, wX_if, wB_tb, wB_tru, wB_not, wB_and, wB_or, wB_yes, wP_no, wP_part, wX_sl, wS_nil, wS_pass, wS_break, wS_cont, wS_no, wS_seq, wS_drop, wS_ret, wS_retN, wS_if, wS_set, wS_asg, wS_par, wS_for, wT_name, wTs_nil, wTs_cons, wT_tup, wIt_seq, wIt_seqI, wIt_range1, wIt_range2, wIt_enum, wIt_zip, wX_lc', gt_z, gt_s, st_z, st_s, inn_z, inn_s, asB_b, asT_b, asI_i, asQ_l, asQ_t, wIf_t, wIf_f, wG_run, wI_run, wS_dput, wX_dpop, wX_dappend, asD_d, asL_l, wX_append, wX_popAt, wX_pop, wX_extend, wS_lput, wX_sortset, wX_lrange, wX_sortitems, wX_disp, wPs_nil, wPs_cons, wX_din, add_ii, add_tt, add_ll, sub_ii, mod_ii, div_ii, pow_ii, mul_ii, mul_ti, mul_li, lt_ii, le_ii, gt_ii, ge_ii, eq_dd, ne_dd, isN_dd, notN_dd, isB_dd, isNB_dd, ix_l, ix_t, wAt_0, wAt_1, wAt_2, wAt_3, in_t, in_l, len_l, len_t, int_i, list_l, list_t, tuple_l, tuple_t, max2_ii, min2_ii, sl_t, sl_l, eqv_ii, eqv_bb, eqv_ss, eqv_l0, eqv_t0, okD_int, okD_bool, okD_none, okD_l0, okD_own, okD_keeper, okD_foe, okD_move, okD_slip, okD_how, List.length_cons, List.length_nil, Nat.reduceAdd, Nat.reduceLeDiff, Nat.reduceEqDiff, true_and, and_true, and_self, ev0_1, ev0_2, ev0_3, ev0_4, imm_int, imm_bool, imm_str, imm_tup, imms_nil, imms_cons, Bool.and_true, Bool.true_and, List.nil_append, List.cons_append, Int.reduceLT, Int.reduceLE, Int.reducePow, Int.reduceNeg, Nat.reducePow, Nat.reduceLT, Int.reduceToNat, Int.reduceAdd, Int.reduceSub, natAbs10, or_true, true_or, Bool.not_true, Bool.not_false, decide_true, decide_false, atL2, List.replicate_succ, List.replicate_zero, Nat.reduceSub, wipe_nil, wipe_cons, back_nil, back_cons, List.getD_cons_zero, List.getD_cons_succ, List.set_cons_zero, List.set_cons_succ, sorted_l, add_ss, int_b, isascii_s, isdigit_s, split_ss, join_sl, part_ss, str_i, wX_fmt, wIt_enumK, wX_sortsetT, add1_ll, mul1_li, ltT_22, upper_s, isStr]
      refine wIf_dec (fun hi => ?_) fun hi => ?_
      · have e : isNum (.int i) = true := decide_eq_true hi
        rwa [e] at q
      · have e : isNum (.int i) = false := decide_eq_false hi
        rwa [e] at q
    | dict l => exact absurd ho (by simp [okD, noD])
    | _ =>
      simp only [wX_C, wX_N, wX_bin, wX_binN, wL_nil, wL_cons, wX_tup, wX_lst, wX_imm, wX_b, wX_call, wX_callN, wX_callI, wX_isi, wX_and, wX_or, wX_not, wX_if, wB_tb, wB_tru, wB_not, wB_and, wB_or, wB_yes, wP_no, wP_part, wX_sl, wS_nil, wS_pass, wS_break, wS_cont, wS_no, wS_seq, wS_drop, wS_ret, wS_retN, wS_if, wS_set, wS_asg, wS_par, wS_for, wT_name, wTs_nil, wTs_cons, wT_tup, wIt_seq, wIt_seqI, wIt_range1, wIt_range2, wIt_enum, wIt_zip, wX_lc', gt_z, gt_s, st_z, st_s, inn_z, inn_s, asB_b, asT_b, asI_i, asQ_l, asQ_t, wIf_t, wIf_f, wG_run, wI_run, wS_dput, wX_dpop, wX_dappend, asD_d, asL_l, wX_append, wX_popAt, wX_pop, wX_extend, wS_lput, wX_sortset, wX_lrange, wX_sortitems, wX_disp, wPs_nil, wPs_cons, wX_din, add_ii, add_tt, add_ll, sub_ii, mod_ii, div_ii, pow_ii, mul_ii, mul_ti, mul_li, lt_ii, le_ii, gt_ii, ge_ii, eq_dd, ne_dd, isN_dd, notN_dd, isB_dd, isNB_dd, ix_l, ix_t, wAt_0, wAt_1, wAt_2, wAt_3, in_t, in_l, len_l, len_t, int_i, list_l, list_t, tuple_l, tuple_t, max2_ii, min2_ii, sl_t, sl_l, eqv_ii, eqv_bb, eqv_ss, eqv_l0, eqv_t0, okD_int, okD_bool, okD_none, okD_l0, okD_own, okD_keeper, okD_foe, okD_move, okD_slip, okD_how, List.length_cons, List.length_nil, Nat.reduceAdd, Nat.reduceLeDiff, Nat.reduceEqDiff, true_and, and_true, and_self, ev0_1, ev0_2, ev0_3, ev0_4, imm_int, imm_bool, imm_str, imm_tup, imms_nil, imms_cons, Bool.and_true, Bool.true_and, List.nil_append, List.cons_append, Int.reduceLT, Int.reduceLE, Int.reducePow, Int.reduceNeg, Nat.reducePow, Nat.reduceLT, Int.reduceToNat, Int.reduceAdd, Int.reduceSub, natAbs10, or_true, true_or, Bool.not_true, Bool.not_false, decide_true, decide_false, atL2, List.replicate_succ, List.replicate_zero, Nat.reduceSub, wipe_nil, wipe_cons, back_nil, back_cons, List.getD_cons_zero, List.getD_cons_succ, List.set_cons_zero, List.set_cons_succ, sorted_l, add_ss, int_b, isascii_s, isdigit_s, split_ss, join_sl, part_ss, str_i, wX_fmt, wIt_enumK, wX_sortsetT, add1_ll, mul1_li, ltT_22, upper_s, isStr, ho, ok_ae]
      exact q
  · simp only [wX_C, wX_N, wX_bin, wX_binN, wL_nil, wL_cons, wX_tup, wX_lst, wX_imm, wX_b, wX_call, wX_callN, wX_callI, wX_isi, wX_and, wX_or, wX_not, wX_if, wB_tb, wB_tru, wB_not, wB_and, wB_or, wB_yes, wP_no, wP_part, wX_sl, wS_nil, wS_pass, wS_break, wS_cont, wS_no, wS_seq, wS_drop, wS_ret, wS_retN, wS_if, wS_set, wS_asg, wS_par, wS_for, wT_name, wTs_nil, wTs_cons, wT_tup, wIt_seq, wIt_seqI, wIt_range1, wIt_range2, wIt_enum, wIt_zip, wX_lc', gt_z, gt_s, st_z, st_s, inn_z, inn_s, asB_b, asT_b, asI_i, asQ_l, asQ_t, wIf_t, wIf_f, wG_run, wI_run, wS_dput, wX_dpop, wX_dappend, asD_d, asL_l, wX_append, wX_popAt, wX_pop, wX_extend, wS_lput, wX_sortset, wX_lrange, wX_sortitems, wX_disp, wPs_nil, wPs_cons, wX_din, add_ii, add_tt, add_ll, sub_ii, mod_ii, div_ii, pow_ii, mul_ii, mul_ti, mul_li, lt_ii, le_ii, gt_ii, ge_ii, eq_dd, ne_dd, isN_dd, notN_dd, isB_dd, isNB_dd, ix_l, ix_t, wAt_0, wAt_1, wAt_2, wAt_3, in_t, in_l, len_l, len_t, int_i, list_l, list_t, tuple_l, tuple_t, max2_ii, min2_ii, sl_t, sl_l, eqv_ii, eqv_bb, eqv_ss, eqv_l0, eqv_t0, okD_int, okD_bool, okD_none, okD_l0, okD_own, okD_keeper, okD_foe, okD_move, okD_slip, okD_how, List.length_cons, List.length_nil, Nat.reduceAdd, Nat.reduceLeDiff, Nat.reduceEqDiff, true_and, and_true, and_self, ev0_1, ev0_2, ev0_3, ev0_4, imm_int, imm_bool, imm_str, imm_tup, imms_nil, imms_cons, Bool.and_true, Bool.true_and, List.nil_append, List.cons_append, Int.reduceLT, Int.reduceLE, Int.reducePow, Int.reduceNeg, Nat.reducePow, Nat.reduceLT, Int.reduceToNat, Int.reduceAdd, Int.reduceSub, natAbs10, or_true, true_or, Bool.not_true, Bool.not_false, decide_true, decide_false, atL2, List.replicate_succ, List.replicate_zero, Nat.reduceSub, wipe_nil, wipe_cons, back_nil, back_cons, List.getD_cons_zero, List.getD_cons_succ, List.set_cons_zero, List.set_cons_succ, sorted_l, add_ss, int_b, isascii_s, isdigit_s, split_ss, join_sl, part_ss, str_i, wX_fmt, wIt_enumK, wX_sortsetT, add1_ll, mul1_li, ltT_22, upper_s, isStr]
    exact q
/-- ranks -/
def rkA : PyData → Int
  | .int _ => 0
  | .str s => if s = "any" then 1 else 2
  | _ => 0
def rkB : PyData → Int
  | .int i => i
  | _ => 0
theorem okE : okD (.str "ever") = true := okD_str (by decide +kernel)
theorem okA : okD (.str "any") = true := okD_str (by decide +kernel)
theorem neq : decide (("any" : Str) = "ever") = false := by decide +kernel
theorem neq2 : decide (("ever" : Str) = "any") = false := by decide +kernel
theorem rank_ok {d : PyData} (h : NumOk d) {Q : PyData → Prop} (q : Q (.tuple [.int (rkA d), .int (rkB d)])) : wG m_rank [d] Q := by
  unfold m_rank g_rank
  have ea : ∀ {i : Int}, PyData.eqv (.int i) (.str "ever") = false := by simp [PyData.eqv]
  have eb : ∀ {i : Int}, PyData.eqv (.int i) (.str "any") = false := by simp [PyData.eqv]
  cases h with
  | int i h0 h1 => simp only [wX_C, wX_N, wX_bin, wX_binN, wL_nil, wL_cons, wX_tup, wX_lst, wX_imm, wX_b, wX_call, wX_callN, wX_callI, wX_isi, wX_and, wX_or, wX_not, wX_if, wB_tb, wB_tru, wB_not, wB_and, wB_or, wB_yes, wP_no, wP_part, wX_sl, wS_nil, wS_pass, wS_break, wS_cont, wS_no, wS_seq, wS_drop, wS_ret, wS_retN, wS_if, wS_set, wS_asg, wS_par, wS_for, wT_name, wTs_nil, wTs_cons, wT_tup, wIt_seq, wIt_seqI, wIt_range1, wIt_range2, wIt_enum, wIt_zip, wX_lc', gt_z, gt_s, st_z, st_s, inn_z, inn_s, asB_b, asT_b, asI_i, asQ_l, asQ_t, wIf_t, wIf_f, wG_run, wI_run, wS_dput, wX_dpop, wX_dappend, asD_d, asL_l, wX_append, wX_popAt, wX_pop, wX_extend, wS_lput, wX_sortset, wX_lrange, wX_sortitems, wX_disp, wPs_nil, wPs_cons, wX_din, add_ii, add_tt, add_ll, sub_ii, mod_ii, div_ii, pow_ii, mul_ii, mul_ti, mul_li, lt_ii, le_ii, gt_ii, ge_ii, eq_dd, ne_dd, isN_dd, notN_dd, isB_dd, isNB_dd, ix_l, ix_t, wAt_0, wAt_1, wAt_2, wAt_3, in_t, in_l, len_l, len_t, int_i, list_l, list_t, tuple_l, tuple_t, max2_ii, min2_ii, sl_t, sl_l, eqv_ii, eqv_bb, eqv_ss, eqv_l0, eqv_t0, okD_int, okD_bool, okD_none, okD_l0, okD_own, okD_keeper, okD_foe, okD_move, okD_slip, okD_how, List.length_cons, List.length_nil, Nat.reduceAdd, Nat.reduceLeDiff, Nat.reduceEqDiff, true_and, and_true, and_self, ev0_1, ev0_2, ev0_3, ev0_4, imm_int, imm_bool, imm_str, imm_tup, imms_nil, imms_cons, Bool.and_true, Bool.true_and, List.nil_append, List.cons_append, Int.reduceLT, Int.reduceLE, Int.reducePow, Int.reduceNeg, Nat.reducePow, Nat.reduceLT, Int.reduceToNat, Int.reduceAdd, Int.reduceSub, natAbs10, or_true, true_or, Bool.not_true, Bool.not_false, decide_true, decide_false, atL2, List.replicate_succ, List.replicate_zero, Nat.reduceSub, wipe_nil, wipe_cons, back_nil, back_cons, List.getD_cons_zero, List.getD_cons_succ, List.set_cons_zero, List.set_cons_succ, sorted_l, add_ss, int_b, isascii_s, isdigit_s, split_ss, join_sl, part_ss, str_i, wX_fmt, wIt_enumK, wX_sortsetT, add1_ll, mul1_li, ltT_22, upper_s, okE, okA, ea, eb]; exact q
  | any => simp only [wX_C, wX_N, wX_bin, wX_binN, wL_nil, wL_cons, wX_tup, wX_lst, wX_imm, wX_b, wX_call, wX_callN, wX_callI, wX_isi, wX_and, wX_or, wX_not, wX_if, wB_tb, wB_tru, wB_not, wB_and, wB_or, wB_yes, wP_no, wP_part, wX_sl, wS_nil, wS_pass, wS_break, wS_cont, wS_no, wS_seq, wS_drop, wS_ret, wS_retN, wS_if, wS_set, wS_asg, wS_par, wS_for, wT_name, wTs_nil, wTs_cons, wT_tup, wIt_seq, wIt_seqI, wIt_range1, wIt_range2, wIt_enum, wIt_zip, wX_lc', gt_z, gt_s, st_z, st_s, inn_z, inn_s, asB_b, asT_b, asI_i, asQ_l, asQ_t, wIf_t, wIf_f, wG_run, wI_run, wS_dput, wX_dpop, wX_dappend, asD_d, asL_l, wX_append, wX_popAt, wX_pop, wX_extend, wS_lput, wX_sortset, wX_lrange, wX_sortitems, wX_disp, wPs_nil, wPs_cons, wX_din, add_ii, add_tt, add_ll, sub_ii, mod_ii, div_ii, pow_ii, mul_ii, mul_ti, mul_li, lt_ii, le_ii, gt_ii, ge_ii, eq_dd, ne_dd, isN_dd, notN_dd, isB_dd, isNB_dd, ix_l, ix_t, wAt_0, wAt_1, wAt_2, wAt_3, in_t, in_l, len_l, len_t, int_i, list_l, list_t, tuple_l, tuple_t, max2_ii, min2_ii, sl_t, sl_l, eqv_ii, eqv_bb, eqv_ss, eqv_l0, eqv_t0, okD_int, okD_bool, okD_none, okD_l0, okD_own, okD_keeper, okD_foe, okD_move, okD_slip, okD_how, List.length_cons, List.length_nil, Nat.reduceAdd, Nat.reduceLeDiff, Nat.reduceEqDiff, true_and, and_true, and_self, ev0_1, ev0_2, ev0_3, ev0_4, imm_int, imm_bool, imm_str, imm_tup, imms_nil, imms_cons, Bool.and_true, Bool.true_and, List.nil_append, List.cons_append, Int.reduceLT, Int.reduceLE, Int.reducePow, Int.reduceNeg, Nat.reducePow, Nat.reduceLT, Int.reduceToNat, Int.reduceAdd, Int.reduceSub, natAbs10, or_true, true_or, Bool.not_true, Bool.not_false, decide_true, decide_false, atL2, List.replicate_succ, List.replicate_zero, Nat.reduceSub, wipe_nil, wipe_cons, back_nil, back_cons, List.getD_cons_zero, List.getD_cons_succ, List.set_cons_zero, List.set_cons_succ, sorted_l, add_ss, int_b, isascii_s, isdigit_s, split_ss, join_sl, part_ss, str_i, wX_fmt, wIt_enumK, wX_sortsetT, add1_ll, mul1_li, ltT_22, upper_s, okE, okA, neq]; exact q
  | ever => simp only [wX_C, wX_N, wX_bin, wX_binN, wL_nil, wL_cons, wX_tup, wX_lst, wX_imm, wX_b, wX_call, wX_callN, wX_callI, wX_isi, wX_and, wX_or, wX_not, wX_if, wB_tb, wB_tru, wB_not, wB_and, wB_or, wB_yes, wP_no, wP_part, wX_sl, wS_nil, wS_pass, wS_break, wS_cont, wS_no, wS_seq, wS_drop, wS_ret, wS_retN, wS_if, wS_set, wS_asg, wS_par, wS_for, wT_name, wTs_nil, wTs_cons, wT_tup, wIt_seq, wIt_seqI, wIt_range1, wIt_range2, wIt_enum, wIt_zip, wX_lc', gt_z, gt_s, st_z, st_s, inn_z, inn_s, asB_b, asT_b, asI_i, asQ_l, asQ_t, wIf_t, wIf_f, wG_run, wI_run, wS_dput, wX_dpop, wX_dappend, asD_d, asL_l, wX_append, wX_popAt, wX_pop, wX_extend, wS_lput, wX_sortset, wX_lrange, wX_sortitems, wX_disp, wPs_nil, wPs_cons, wX_din, add_ii, add_tt, add_ll, sub_ii, mod_ii, div_ii, pow_ii, mul_ii, mul_ti, mul_li, lt_ii, le_ii, gt_ii, ge_ii, eq_dd, ne_dd, isN_dd, notN_dd, isB_dd, isNB_dd, ix_l, ix_t, wAt_0, wAt_1, wAt_2, wAt_3, in_t, in_l, len_l, len_t, int_i, list_l, list_t, tuple_l, tuple_t, max2_ii, min2_ii, sl_t, sl_l, eqv_ii, eqv_bb, eqv_ss, eqv_l0, eqv_t0, okD_int, okD_bool, okD_none, okD_l0, okD_own, okD_keeper, okD_foe, okD_move, okD_slip, okD_how, List.length_cons, List.length_nil, Nat.reduceAdd, Nat.reduceLeDiff, Nat.reduceEqDiff, true_and, and_true, and_self, ev0_1, ev0_2, ev0_3, ev0_4, imm_int, imm_bool, imm_str, imm_tup, imms_nil, imms_cons, Bool.and_true, Bool.true_and, List.nil_append, List.cons_append, Int.reduceLT, Int.reduceLE, Int.reducePow, Int.reduceNeg, Nat.reducePow, Nat.reduceLT, Int.reduceToNat, Int.reduceAdd, Int.reduceSub, natAbs10, or_true, true_or, Bool.not_true, Bool.not_false, decide_true, decide_false, atL2, List.replicate_succ, List.replicate_zero, Nat.reduceSub, wipe_nil, wipe_cons, back_nil, back_cons, List.getD_cons_zero, List.getD_cons_succ, List.set_cons_zero, List.set_cons_succ, sorted_l, add_ss, int_b, isascii_s, isdigit_s, split_ss, join_sl, part_ss, str_i, wX_fmt, wIt_enumK, wX_sortsetT, add1_ll, mul1_li, ltT_22, upper_s, okE, okA]; exact q
theorem law_rank_ok {d : PyData} (h : NumOk d) {Q : PyData → Prop} (q : Q (.tuple [.int (rkA d), .int (rkB d)])) : wG m__law_rank [d] Q := by
  unfold m__law_rank g__law_rank
  cases h with
  | int i h0 h1 => simp only [wX_C, wX_N, wX_bin, wX_binN, wL_nil, wL_cons, wX_tup, wX_lst, wX_imm, wX_b, wX_call, wX_callN, wX_callI, wX_isi, wX_and, wX_or, wX_not, wX_if, wB_tb, wB_tru, wB_not, wB_and, wB_or, wB_yes, wP_no, wP_part, wX_sl, wS_nil, wS_pass, wS_break, wS_cont, wS_no, wS_seq, wS_drop, wS_ret, wS_retN, wS_if, wS_set, wS_asg, wS_par, wS_for, wT_name, wTs_nil, wTs_cons, wT_tup, wIt_seq, wIt_seqI, wIt_range1, wIt_range2, wIt_enum, wIt_zip, wX_lc', gt_z, gt_s, st_z, st_s, inn_z, inn_s, asB_b, asT_b, asI_i, asQ_l, asQ_t, wIf_t, wIf_f, wG_run, wI_run, wS_dput, wX_dpop, wX_dappend, asD_d, asL_l, wX_append, wX_popAt, wX_pop, wX_extend, wS_lput, wX_sortset, wX_lrange, wX_sortitems, wX_disp, wPs_nil, wPs_cons, wX_din, add_ii, add_tt, add_ll, sub_ii, mod_ii, div_ii, pow_ii, mul_ii, mul_ti, mul_li, lt_ii, le_ii, gt_ii, ge_ii, eq_dd, ne_dd, isN_dd, notN_dd, isB_dd, isNB_dd, ix_l, ix_t, wAt_0, wAt_1, wAt_2, wAt_3, in_t, in_l, len_l, len_t, int_i, list_l, list_t, tuple_l, tuple_t, max2_ii, min2_ii, sl_t, sl_l, eqv_ii, eqv_bb, eqv_ss, eqv_l0, eqv_t0, okD_int, okD_bool, okD_none, okD_l0, okD_own, okD_keeper, okD_foe, okD_move, okD_slip, okD_how, List.length_cons, List.length_nil, Nat.reduceAdd, Nat.reduceLeDiff, Nat.reduceEqDiff, true_and, and_true, and_self, ev0_1, ev0_2, ev0_3, ev0_4, imm_int, imm_bool, imm_str, imm_tup, imms_nil, imms_cons, Bool.and_true, Bool.true_and, List.nil_append, List.cons_append, Int.reduceLT, Int.reduceLE, Int.reducePow, Int.reduceNeg, Nat.reducePow, Nat.reduceLT, Int.reduceToNat, Int.reduceAdd, Int.reduceSub, natAbs10, or_true, true_or, Bool.not_true, Bool.not_false, decide_true, decide_false, atL2, List.replicate_succ, List.replicate_zero, Nat.reduceSub, wipe_nil, wipe_cons, back_nil, back_cons, List.getD_cons_zero, List.getD_cons_succ, List.set_cons_zero, List.set_cons_succ, sorted_l, add_ss, int_b, isascii_s, isdigit_s, split_ss, join_sl, part_ss, str_i, wX_fmt, wIt_enumK, wX_sortsetT, add1_ll, mul1_li, ltT_22, upper_s, isInt]; exact q
  | any => simp only [wX_C, wX_N, wX_bin, wX_binN, wL_nil, wL_cons, wX_tup, wX_lst, wX_imm, wX_b, wX_call, wX_callN, wX_callI, wX_isi, wX_and, wX_or, wX_not, wX_if, wB_tb, wB_tru, wB_not, wB_and, wB_or, wB_yes, wP_no, wP_part, wX_sl, wS_nil, wS_pass, wS_break, wS_cont, wS_no, wS_seq, wS_drop, wS_ret, wS_retN, wS_if, wS_set, wS_asg, wS_par, wS_for, wT_name, wTs_nil, wTs_cons, wT_tup, wIt_seq, wIt_seqI, wIt_range1, wIt_range2, wIt_enum, wIt_zip, wX_lc', gt_z, gt_s, st_z, st_s, inn_z, inn_s, asB_b, asT_b, asI_i, asQ_l, asQ_t, wIf_t, wIf_f, wG_run, wI_run, wS_dput, wX_dpop, wX_dappend, asD_d, asL_l, wX_append, wX_popAt, wX_pop, wX_extend, wS_lput, wX_sortset, wX_lrange, wX_sortitems, wX_disp, wPs_nil, wPs_cons, wX_din, add_ii, add_tt, add_ll, sub_ii, mod_ii, div_ii, pow_ii, mul_ii, mul_ti, mul_li, lt_ii, le_ii, gt_ii, ge_ii, eq_dd, ne_dd, isN_dd, notN_dd, isB_dd, isNB_dd, ix_l, ix_t, wAt_0, wAt_1, wAt_2, wAt_3, in_t, in_l, len_l, len_t, int_i, list_l, list_t, tuple_l, tuple_t, max2_ii, min2_ii, sl_t, sl_l, eqv_ii, eqv_bb, eqv_ss, eqv_l0, eqv_t0, okD_int, okD_bool, okD_none, okD_l0, okD_own, okD_keeper, okD_foe, okD_move, okD_slip, okD_how, List.length_cons, List.length_nil, Nat.reduceAdd, Nat.reduceLeDiff, Nat.reduceEqDiff, true_and, and_true, and_self, ev0_1, ev0_2, ev0_3, ev0_4, imm_int, imm_bool, imm_str, imm_tup, imms_nil, imms_cons, Bool.and_true, Bool.true_and, List.nil_append, List.cons_append, Int.reduceLT, Int.reduceLE, Int.reducePow, Int.reduceNeg, Nat.reducePow, Nat.reduceLT, Int.reduceToNat, Int.reduceAdd, Int.reduceSub, natAbs10, or_true, true_or, Bool.not_true, Bool.not_false, decide_true, decide_false, atL2, List.replicate_succ, List.replicate_zero, Nat.reduceSub, wipe_nil, wipe_cons, back_nil, back_cons, List.getD_cons_zero, List.getD_cons_succ, List.set_cons_zero, List.set_cons_succ, sorted_l, add_ss, int_b, isascii_s, isdigit_s, split_ss, join_sl, part_ss, str_i, wX_fmt, wIt_enumK, wX_sortsetT, add1_ll, mul1_li, ltT_22, upper_s, isInt, okA]; exact q
  | ever => simp only [wX_C, wX_N, wX_bin, wX_binN, wL_nil, wL_cons, wX_tup, wX_lst, wX_imm, wX_b, wX_call, wX_callN, wX_callI, wX_isi, wX_and, wX_or, wX_not, wX_if, wB_tb, wB_tru, wB_not, wB_and, wB_or, wB_yes, wP_no, wP_part, wX_sl, wS_nil, wS_pass, wS_break, wS_cont, wS_no, wS_seq, wS_drop, wS_ret, wS_retN, wS_if, wS_set, wS_asg, wS_par, wS_for, wT_name, wTs_nil, wTs_cons, wT_tup, wIt_seq, wIt_seqI, wIt_range1, wIt_range2, wIt_enum, wIt_zip, wX_lc', gt_z, gt_s, st_z, st_s, inn_z, inn_s, asB_b, asT_b, asI_i, asQ_l, asQ_t, wIf_t, wIf_f, wG_run, wI_run, wS_dput, wX_dpop, wX_dappend, asD_d, asL_l, wX_append, wX_popAt, wX_pop, wX_extend, wS_lput, wX_sortset, wX_lrange, wX_sortitems, wX_disp, wPs_nil, wPs_cons, wX_din, add_ii, add_tt, add_ll, sub_ii, mod_ii, div_ii, pow_ii, mul_ii, mul_ti, mul_li, lt_ii, le_ii, gt_ii, ge_ii, eq_dd, ne_dd, isN_dd, notN_dd, isB_dd, isNB_dd, ix_l, ix_t, wAt_0, wAt_1, wAt_2, wAt_3, in_t, in_l, len_l, len_t, int_i, list_l, list_t, tuple_l, tuple_t, max2_ii, min2_ii, sl_t, sl_l, eqv_ii, eqv_bb, eqv_ss, eqv_l0, eqv_t0, okD_int, okD_bool, okD_none, okD_l0, okD_own, okD_keeper, okD_foe, okD_move, okD_slip, okD_how, List.length_cons, List.length_nil, Nat.reduceAdd, Nat.reduceLeDiff, Nat.reduceEqDiff, true_and, and_true, and_self, ev0_1, ev0_2, ev0_3, ev0_4, imm_int, imm_bool, imm_str, imm_tup, imms_nil, imms_cons, Bool.and_true, Bool.true_and, List.nil_append, List.cons_append, Int.reduceLT, Int.reduceLE, Int.reducePow, Int.reduceNeg, Nat.reducePow, Nat.reduceLT, Int.reduceToNat, Int.reduceAdd, Int.reduceSub, natAbs10, or_true, true_or, Bool.not_true, Bool.not_false, decide_true, decide_false, atL2, List.replicate_succ, List.replicate_zero, Nat.reduceSub, wipe_nil, wipe_cons, back_nil, back_cons, List.getD_cons_zero, List.getD_cons_succ, List.set_cons_zero, List.set_cons_succ, sorted_l, add_ss, int_b, isascii_s, isdigit_s, split_ss, join_sl, part_ss, str_i, wX_fmt, wIt_enumK, wX_sortsetT, add1_ll, mul1_li, ltT_22, upper_s, isInt, okA, okE, neq2]; exact q
def lessD (a b : PyData) : Bool := lexLtD [rkA a, rkB a] [rkA b, rkB b]
theorem num_is {d : PyData} (h : NumOk d) : isNum d = true := by
  cases h with
  | int i h0 h1 => exact decide_eq_true h0
  | any => decide +kernel
  | ever => decide +kernel
theorem require_ok {d : PyData} (h : NumOk d) {Q : PyData → Prop} (q : Q .none) : wG m_require_number [d] Q := by
  unfold m_require_number g_require_number
  simp only [wX_C, wX_N, wX_bin, wX_binN, wL_nil, wL_cons, wX_tup, wX_lst, wX_imm, wX_b, wX_call, wX_callN, wX_callI, wX_isi, wX_and, wX_or, wX_not, wX_if, wB_tb, wB_tru, wB_not, wB_and, wB_or, wB_yes, wP_no, wP_part, wX_sl, wS_nil, wS_pass, wS_break, wS_cont, wS_no, wS_seq, wS_drop, wS_ret, wS_retN, wS_if, wS_set, wS_asg, wS_par, wS_for, wT_name, wTs_nil, wTs_cons, wT_tup, wIt_seq, wIt_seqI, wIt_range1, wIt_range2, wIt_enum, wIt_zip, wX_lc', gt_z, gt_s, st_z, st_s, inn_z, inn_s, asB_b, asT_b, asI_i, asQ_l, asQ_t, wIf_t, wIf_f, wG_run, wI_run, wS_dput, wX_dpop, wX_dappend, asD_d, asL_l, wX_append, wX_popAt, wX_pop, wX_extend, wS_lput, wX_sortset, wX_lrange, wX_sortitems, wX_disp, wPs_nil, wPs_cons, wX_din, add_ii, add_tt, add_ll, sub_ii, mod_ii, div_ii, pow_ii, mul_ii, mul_ti, mul_li, lt_ii, le_ii, gt_ii, ge_ii, eq_dd, ne_dd, isN_dd, notN_dd, isB_dd, isNB_dd, ix_l, ix_t, wAt_0, wAt_1, wAt_2, wAt_3, in_t, in_l, len_l, len_t, int_i, list_l, list_t, tuple_l, tuple_t, max2_ii, min2_ii, sl_t, sl_l, eqv_ii, eqv_bb, eqv_ss, eqv_l0, eqv_t0, okD_int, okD_bool, okD_none, okD_l0, okD_own, okD_keeper, okD_foe, okD_move, okD_slip, okD_how, List.length_cons, List.length_nil, Nat.reduceAdd, Nat.reduceLeDiff, Nat.reduceEqDiff, true_and, and_true, and_self, ev0_1, ev0_2, ev0_3, ev0_4, imm_int, imm_bool, imm_str, imm_tup, imms_nil, imms_cons, Bool.and_true, Bool.true_and, List.nil_append, List.cons_append, Int.reduceLT, Int.reduceLE, Int.reducePow, Int.reduceNeg, Nat.reducePow, Nat.reduceLT, Int.reduceToNat, Int.reduceAdd, Int.reduceSub, natAbs10, or_true, true_or, Bool.not_true, Bool.not_false, decide_true, decide_false, atL2, List.replicate_succ, List.replicate_zero, Nat.reduceSub, wipe_nil, wipe_cons, back_nil, back_cons, List.getD_cons_zero, List.getD_cons_succ, List.set_cons_zero, List.set_cons_succ, sorted_l, add_ss, int_b, isascii_s, isdigit_s, split_ss, join_sl, part_ss, str_i, wX_fmt, wIt_enumK, wX_sortsetT, add1_ll, mul1_li, ltT_22, upper_s]
  refine is_number_ok (.inl h.th) ?_
  simp only [wX_C, wX_N, wX_bin, wX_binN, wL_nil, wL_cons, wX_tup, wX_lst, wX_imm, wX_b, wX_call, wX_callN, wX_callI, wX_isi, wX_and, wX_or, wX_not, wX_if, wB_tb, wB_tru, wB_not, wB_and, wB_or, wB_yes, wP_no, wP_part, wX_sl, wS_nil, wS_pass, wS_break, wS_cont, wS_no, wS_seq, wS_drop, wS_ret, wS_retN, wS_if, wS_set, wS_asg, wS_par, wS_for, wT_name, wTs_nil, wTs_cons, wT_tup, wIt_seq, wIt_seqI, wIt_range1, wIt_range2, wIt_enum, wIt_zip, wX_lc', gt_z, gt_s, st_z, st_s, inn_z, inn_s, asB_b, asT_b, asI_i, asQ_l, asQ_t, wIf_t, wIf_f, wG_run, wI_run, wS_dput, wX_dpop, wX_dappend, asD_d, asL_l, wX_append, wX_popAt, wX_pop, wX_extend, wS_lput, wX_sortset, wX_lrange, wX_sortitems, wX_disp, wPs_nil, wPs_cons, wX_din, add_ii, add_tt, add_ll, sub_ii, mod_ii, div_ii, pow_ii, mul_ii, mul_ti, mul_li, lt_ii, le_ii, gt_ii, ge_ii, eq_dd, ne_dd, isN_dd, notN_dd, isB_dd, isNB_dd, ix_l, ix_t, wAt_0, wAt_1, wAt_2, wAt_3, in_t, in_l, len_l, len_t, int_i, list_l, list_t, tuple_l, tuple_t, max2_ii, min2_ii, sl_t, sl_l, eqv_ii, eqv_bb, eqv_ss, eqv_l0, eqv_t0, okD_int, okD_bool, okD_none, okD_l0, okD_own, okD_keeper, okD_foe, okD_move, okD_slip, okD_how, List.length_cons, List.length_nil, Nat.reduceAdd, Nat.reduceLeDiff, Nat.reduceEqDiff, true_and, and_true, and_self, ev0_1, ev0_2, ev0_3, ev0_4, imm_int, imm_bool, imm_str, imm_tup, imms_nil, imms_cons, Bool.and_true, Bool.true_and, List.nil_append, List.cons_append, Int.reduceLT, Int.reduceLE, Int.reducePow, Int.reduceNeg, Nat.reducePow, Nat.reduceLT, Int.reduceToNat, Int.reduceAdd, Int.reduceSub, natAbs10, or_true, true_or, Bool.not_true, Bool.not_false, decide_true, decide_false, atL2, List.replicate_succ, List.replicate_zero, Nat.reduceSub, wipe_nil, wipe_cons, back_nil, back_cons, List.getD_cons_zero, List.getD_cons_succ, List.set_cons_zero, List.set_cons_succ, sorted_l, add_ss, int_b, isascii_s, isdigit_s, split_ss, join_sl, part_ss, str_i, wX_fmt, wIt_enumK, wX_sortsetT, add1_ll, mul1_li, ltT_22, upper_s, num_is h]
  exact q
theorem is_less_ok {a b : PyData} (ha : NumOk a) (hb : NumOk b) {Q : PyData → Prop} (q : Q (.bool (lessD a b))) : wG m_is_less [a, b] Q := by
  unfold m_is_less g_is_less
  simp only [wX_C, wX_N, wX_bin, wX_binN, wL_nil, wL_cons, wX_tup, wX_lst, wX_imm, wX_b, wX_call, wX_callN, wX_callI, wX_isi, wX_and, wX_or, wX_not, wX_if, wB_tb, wB_tru, wB_not, wB_and, wB_or, wB_yes, wP_no, wP_part, wX_sl, wS_nil, wS_pass, wS_break, wS_cont, wS_no, wS_seq, wS_drop, wS_ret, wS_retN, wS_if, wS_set, wS_asg, wS_par, wS_for, wT_name, wTs_nil, wTs_cons, wT_tup, wIt_seq, wIt_seqI, wIt_range1, wIt_range2, wIt_enum, wIt_zip, wX_lc', gt_z, gt_s, st_z, st_s, inn_z, inn_s, asB_b, asT_b, asI_i, asQ_l, asQ_t, wIf_t, wIf_f, wG_run, wI_run, wS_dput, wX_dpop, wX_dappend, asD_d, asL_l, wX_append, wX_popAt, wX_pop, wX_extend, wS_lput, wX_sortset, wX_lrange, wX_sortitems, wX_disp, wPs_nil, wPs_cons, wX_din, add_ii, add_tt, add_ll, sub_ii, mod_ii, div_ii, pow_ii, mul_ii, mul_ti, mul_li, lt_ii, le_ii, gt_ii, ge_ii, eq_dd, ne_dd, isN_dd, notN_dd, isB_dd, isNB_dd, ix_l, ix_t, wAt_0, wAt_1, wAt_2, wAt_3, in_t, in_l, len_l, len_t, int_i, list_l, list_t, tuple_l, tuple_t, max2_ii, min2_ii, sl_t, sl_l, eqv_ii, eqv_bb, eqv_ss, eqv_l0, eqv_t0, okD_int, okD_bool, okD_none, okD_l0, okD_own, okD_keeper, okD_foe, okD_move, okD_slip, okD_how, List.length_cons, List.length_nil, Nat.reduceAdd, Nat.reduceLeDiff, Nat.reduceEqDiff, true_and, and_true, and_self, ev0_1, ev0_2, ev0_3, ev0_4, imm_int, imm_bool, imm_str, imm_tup, imms_nil, imms_cons, Bool.and_true, Bool.true_and, List.nil_append, List.cons_append, Int.reduceLT, Int.reduceLE, Int.reducePow, Int.reduceNeg, Nat.reducePow, Nat.reduceLT, Int.reduceToNat, Int.reduceAdd, Int.reduceSub, natAbs10, or_true, true_or, Bool.not_true, Bool.not_false, decide_true, decide_false, atL2, List.replicate_succ, List.replicate_zero, Nat.reduceSub, wipe_nil, wipe_cons, back_nil, back_cons, List.getD_cons_zero, List.getD_cons_succ, List.set_cons_zero, List.set_cons_succ, sorted_l, add_ss, int_b, isascii_s, isdigit_s, split_ss, join_sl, part_ss, str_i, wX_fmt, wIt_enumK, wX_sortsetT, add1_ll, mul1_li, ltT_22, upper_s]
  refine require_ok ha ?_
  refine require_ok hb ?_
  refine rank_ok ha ?_
  (try simp only [wX_C, wX_N, wX_bin, wX_binN, wL_nil, wL_cons, wX_tup, wX_lst, wX_imm, wX_b, wX_call, wX_callN, wX_callI, wX_isi, wX_and, wX_or, wX_not, wX_if, wB_tb, wB_tru, wB_not, wB_and, wB_or, wB_yes, wP_no, wP_part, wX_sl, wS_nil, wS_pass, wS_break, wS_cont, wS_no, wS_seq, wS_drop, wS_ret, wS_retN, wS_if, wS_set, wS_asg, wS_par, wS_for, wT_name, wTs_nil, wTs_cons, wT_tup, wIt_seq, wIt_seqI, wIt_range1, wIt_range2, wIt_enum, wIt_zip, wX_lc', gt_z, gt_s, st_z, st_s, inn_z, inn_s, asB_b, asT_b, asI_i, asQ_l, asQ_t, wIf_t, wIf_f, wG_run, wI_run, wS_dput, wX_dpop, wX_dappend, asD_d, asL_l, wX_append, wX_popAt, wX_pop, wX_extend, wS_lput, wX_sortset, wX_lrange, wX_sortitems, wX_disp, wPs_nil, wPs_cons, wX_din, add_ii, add_tt, add_ll, sub_ii, mod_ii, div_ii, pow_ii, mul_ii, mul_ti, mul_li, lt_ii, le_ii, gt_ii, ge_ii, eq_dd, ne_dd, isN_dd, notN_dd, isB_dd, isNB_dd, ix_l, ix_t, wAt_0, wAt_1, wAt_2, wAt_3, in_t, in_l, len_l, len_t, int_i, list_l, list_t, tuple_l, tuple_t, max2_ii, min2_ii, sl_t, sl_l, eqv_ii, eqv_bb, eqv_ss, eqv_l0, eqv_t0, okD_int, okD_bool, okD_none, okD_l0, okD_own, okD_keeper, okD_foe, okD_move, okD_slip, okD_how, List.length_cons, List.length_nil, Nat.reduceAdd, Nat.reduceLeDiff, Nat.reduceEqDiff, true_and, and_true, and_self, ev0_1, ev0_2, ev0_3, ev0_4, imm_int, imm_bool, imm_str, imm_tup, imms_nil, imms_cons, Bool.and_true, Bool.true_and, List.nil_append, List.cons_append, Int.reduceLT, Int.reduceLE, Int.reducePow, Int.reduceNeg, Nat.reducePow, Nat.reduceLT, Int.reduceToNat, Int.reduceAdd, Int.reduceSub, natAbs10, or_true, true_or, Bool.not_true, Bool.not_false, decide_true, decide_false, atL2, List.replicate_succ, List.replicate_zero, Nat.reduceSub, wipe_nil, wipe_cons, back_nil, back_cons, List.getD_cons_zero, List.getD_cons_succ, List.set_cons_zero, List.set_cons_succ, sorted_l, add_ss, int_b, isascii_s, isdigit_s, split_ss, join_sl, part_ss, str_i, wX_fmt, wIt_enumK, wX_sortsetT, add1_ll, mul1_li, ltT_22, upper_s])
  refine rank_ok hb ?_
  (try simp only [wX_C, wX_N, wX_bin, wX_binN, wL_nil, wL_cons, wX_tup, wX_lst, wX_imm, wX_b, wX_call, wX_callN, wX_callI, wX_isi, wX_and, wX_or, wX_not, wX_if, wB_tb, wB_tru, wB_not, wB_and, wB_or, wB_yes, wP_no, wP_part, wX_sl, wS_nil, wS_pass, wS_break, wS_cont, wS_no, wS_seq, wS_drop, wS_ret, wS_retN, wS_if, wS_set, wS_asg, wS_par, wS_for, wT_name, wTs_nil, wTs_cons, wT_tup, wIt_seq, wIt_seqI, wIt_range1, wIt_range2, wIt_enum, wIt_zip, wX_lc', gt_z, gt_s, st_z, st_s, inn_z, inn_s, asB_b, asT_b, asI_i, asQ_l, asQ_t, wIf_t, wIf_f, wG_run, wI_run, wS_dput, wX_dpop, wX_dappend, asD_d, asL_l, wX_append, wX_popAt, wX_pop, wX_extend, wS_lput, wX_sortset, wX_lrange, wX_sortitems, wX_disp, wPs_nil, wPs_cons, wX_din, add_ii, add_tt, add_ll, sub_ii, mod_ii, div_ii, pow_ii, mul_ii, mul_ti, mul_li, lt_ii, le_ii, gt_ii, ge_ii, eq_dd, ne_dd, isN_dd, notN_dd, isB_dd, isNB_dd, ix_l, ix_t, wAt_0, wAt_1, wAt_2, wAt_3, in_t, in_l, len_l, len_t, int_i, list_l, list_t, tuple_l, tuple_t, max2_ii, min2_ii, sl_t, sl_l, eqv_ii, eqv_bb, eqv_ss, eqv_l0, eqv_t0, okD_int, okD_bool, okD_none, okD_l0, okD_own, okD_keeper, okD_foe, okD_move, okD_slip, okD_how, List.length_cons, List.length_nil, Nat.reduceAdd, Nat.reduceLeDiff, Nat.reduceEqDiff, true_and, and_true, and_self, ev0_1, ev0_2, ev0_3, ev0_4, imm_int, imm_bool, imm_str, imm_tup, imms_nil, imms_cons, Bool.and_true, Bool.true_and, List.nil_append, List.cons_append, Int.reduceLT, Int.reduceLE, Int.reducePow, Int.reduceNeg, Nat.reducePow, Nat.reduceLT, Int.reduceToNat, Int.reduceAdd, Int.reduceSub, natAbs10, or_true, true_or, Bool.not_true, Bool.not_false, decide_true, decide_false, atL2, List.replicate_succ, List.replicate_zero, Nat.reduceSub, wipe_nil, wipe_cons, back_nil, back_cons, List.getD_cons_zero, List.getD_cons_succ, List.set_cons_zero, List.set_cons_succ, sorted_l, add_ss, int_b, isascii_s, isdigit_s, split_ss, join_sl, part_ss, str_i, wX_fmt, wIt_enumK, wX_sortsetT, add1_ll, mul1_li, ltT_22, upper_s])
  exact q
end My
namespace My
open PySem FP
theorem Sw_b3 {a b c : Bool} : Sw 3 (.tuple [.bool a, .bool b, .bool c]) := by
  have := Sw.tup (w := 0) (xs := [.bool a, .bool b, .bool c]) (fun x hx => by
    simp only [List.mem_cons, List.not_mem_nil, or_false] at hx
    rcases hx with rfl | rfl | rfl <;> exact Sw.bool)
  exact this.le (by simp)
theorem Sw_b2 {a b : Bool} : Sw 3 (.tuple [.bool a, .bool b]) := by
  have := Sw.tup (w := 0) (xs := [.bool a, .bool b]) (fun x hx => by
    simp only [List.mem_cons, List.not_mem_nil, or_false] at hx
    rcases hx with rfl | rfl <;> exact Sw.bool)
  exact this.le (by simp)
theorem ok_b3 {a b c : Bool} : okD (.tuple [.bool a, .bool b, .bool c]) = true := (Fine.tup (k := 0) fun x hx => by
    simp only [List.mem_cons, List.not_mem_nil, or_false] at hx
    rcases hx with rfl | rfl | rfl <;> exact Fine.bool).ok (by decide)
theorem ok_b2 {a b : Bool} : okD (.tuple [.bool a, .bool b]) = true := (Fine.tup (k := 0) fun x hx => by
    simp only [List.mem_cons, List.not_mem_nil, or_false] at hx
    rcases hx with rfl | rfl <;> exact Fine.bool).ok (by decide)
theorem reprB3 {a b c : Bool} {Q : PyData → Prop} (q : Q (.str (PyData.tuple [.bool a, .bool b, .bool c]).shown)) : wG gReprV [.tuple [.bool a, .bool b, .bool c]] Q := by
  rw [reprV_o (by simp)]
  exact repr_ok Sw_b3 (by decide) ok_b3 q
theorem reprB2 {a b : Bool} {Q : PyData → Prop} (q : Q (.str (PyData.tuple [.bool a, .bool b]).shown)) : wG gReprV [.tuple [.bool a, .bool b]] Q := by
  rw [reprV_o (by simp)]
  exact repr_ok Sw_b2 (by decide) ok_b2 q
theorem rB3 (a b c : Bool) : ∃ s, okD (.str s) = true ∧ ∀ {Q : PyData → Prop}, Q (.str s) → wG gReprV [.tuple [.bool a, .bool b, .bool c]] Q := ⟨_, Sw_b3.ok, fun q => reprB3 q⟩
theorem rB2 (a b : Bool) : ∃ s, okD (.str s) = true ∧ ∀ {Q : PyData → Prop}, Q (.str s) → wG gReprV [.tuple [.bool a, .bool b]] Q := ⟨_, Sw_b2.ok, fun q => reprB2 q⟩
theorem rT {d : PyData} (h : ThOk d) : ∃ s, okD (.str s) = true ∧ ∀ {Q : PyData → Prop}, Q (.str s) → wG gReprV [d] Q := by
  rcases h with h | rfl
  · obtain ⟨w, hw, su⟩ := h.su
    have nd : d ≠ .dict [] := fun e => by have := h.ok; subst e; exact absurd this (by decide)
    exact ⟨d.shown, okD_str su.tx, fun {Q'} q' => by
      rw [reprV_o nd, repr_d]
      exact ⟨⟨h.ok, su.sh, su.len hw⟩, q'⟩⟩
  · exact ⟨"{}", okD_str (by decide +kernel), fun {Q'} q' => by rw [reprV_d]; exact q'⟩
theorem deck_ok' {ns : List Int} : ∃ d, m__law_deck ns = some d ∧ DkOk d := by
  unfold m__law_deck mDeck
  have key : wLoop (hName 2) g__law_deck (cells 63 ns) [none, some (.int 15371026), none] (fun ρ => ∃ (m : Int) (a0 a2 : Option PyData), ρ = [a0, some (.int m), a2]) (fun _ _ => False) := by
    refine wLoop_inv0 (fun _ ρ => ∃ (m : Int) (a0 a2 : Option PyData), ρ = [a0, some (.int m), a2]) ⟨_, _, _, rfl⟩ ?_ (fun ρ h => h)
    rintro i hi ρ ⟨m, a0, a2, rfl⟩
    unfold g__law_deck
    simp only [cells, List.getElem_map]
    (try simp only [wX_C, wX_N, wX_bin, wX_binN, wL_nil, wL_cons, wX_tup, wX_lst, wX_imm, wX_b, wX_call, wX_callN, wX_callI, wX_isi, wX_and, wX_or, wX_not, wX_if, wB_tb, wB_tru, wB_not, wB_and, wB_or, wB_yes, wP_no, wP_part, wX_sl, wS_nil, wS_pass, wS_break, wS_cont, wS_no, wS_seq, wS_drop, wS_ret, wS_retN, wS_if, wS_set, wS_asg, wS_par, wS_for, wT_name, wTs_nil, wTs_cons, wT_tup, wIt_seq, wIt_seqI, wIt_range1, wIt_range2, wIt_enum, wIt_zip, wX_lc', gt_z, gt_s, st_z, st_s, inn_z, inn_s, asB_b, asT_b, asI_i, asQ_l, asQ_t, wIf_t, wIf_f, wG_run, wI_run, wS_dput, wX_dpop, wX_dappend, asD_d, asL_l, wX_append, wX_popAt, wX_pop, wX_extend, wS_lput, wX_sortset, wX_lrange, wX_sortitems, wX_disp, wPs_nil, wPs_cons, wX_din, add_ii, add_tt, add_ll, sub_ii, mod_ii, div_ii, pow_ii, mul_ii, mul_ti, mul_li, lt_ii, le_ii, gt_ii, ge_ii, eq_dd, ne_dd, isN_dd, notN_dd, isB_dd, isNB_dd, ix_l, ix_t, wAt_0, wAt_1, wAt_2, wAt_3, in_t, in_l, len_l, len_t, int_i, list_l, list_t, tuple_l, tuple_t, max2_ii, min2_ii, sl_t, sl_l, eqv_ii, eqv_bb, eqv_ss, eqv_l0, eqv_t0, okD_int, okD_bool, okD_none, okD_l0, okD_own, okD_keeper, okD_foe, okD_move, okD_slip, okD_how, List.length_cons, List.length_nil, Nat.reduceAdd, Nat.reduceLeDiff, Nat.reduceEqDiff, true_and, and_true, and_self, ev0_1, ev0_2, ev0_3, ev0_4, imm_int, imm_bool, imm_str, imm_tup, imms_nil, imms_cons, Bool.and_true, Bool.true_and, List.nil_append, List.cons_append, Int.reduceLT, Int.reduceLE, Int.reducePow, Int.reduceNeg, Nat.reducePow, Nat.reduceLT, Int.reduceToNat, Int.reduceAdd, Int.reduceSub, natAbs10, or_true, true_or, Bool.not_true, Bool.not_false, decide_true, decide_false, atL2, List.replicate_succ, List.replicate_zero, Nat.reduceSub, wipe_nil, wipe_cons, back_nil, back_cons, List.getD_cons_zero, List.getD_cons_succ, List.set_cons_zero, List.set_cons_succ, sorted_l])
    exact ⟨_, _, _, rfl⟩
  unfold wLoop wS at key
  cases hq : loopF (hName 2) g__law_deck (cells 63 ns) [none, some (.int 15371026), none] <;> rw [hq] at key
  · obtain ⟨m, a0, a2, rfl⟩ := key
    refine ⟨_, rfl, (ns.take 63).reverse, m, 0, by simp; omega, ?_⟩
    unfold deckD Dk cells
    rw [List.map_reverse]
  · exact key.elim
  · exact key.elim
  · exact key.elim
  · exact key.elim
theorem math : ∀ ns : List Int, ns.length ≤ 63 → m_law ns = some (.bool true) := by
  intro ns _
  obtain ⟨d, hd, hdk⟩ := deck_ok' (ns := ns)
  unfold m_law mLaw
  rw [hd]
  simp only []
  have key : wS g_law ((List.replicate 10 none).set 1 (some d)) (fun _ => False) (fun r _ => r = .bool true) (fun _ => False) (fun _ => False) := by
    unfold g_law
    refine wS_cut (fun ρ => True) ?_ (fun ρ _ => ?_)
    · rw [wS_for]
      (try simp only [wX_C, wX_N, wX_bin, wX_binN, wL_nil, wL_cons, wX_tup, wX_lst, wX_imm, wX_b, wX_call, wX_callN, wX_callI, wX_isi, wX_and, wX_or, wX_not, wX_if, wB_tb, wB_tru, wB_not, wB_and, wB_or, wB_yes, wP_no, wP_part, wX_sl, wS_nil, wS_pass, wS_break, wS_cont, wS_no, wS_seq, wS_drop, wS_ret, wS_retN, wS_if, wS_set, wS_asg, wS_par, wS_for, wT_name, wTs_nil, wTs_cons, wT_tup, wIt_seq, wIt_seqI, wIt_range1, wIt_range2, wIt_enum, wIt_zip, wX_lc', gt_z, gt_s, st_z, st_s, inn_z, inn_s, asB_b, asT_b, asI_i, asQ_l, asQ_t, wIf_t, wIf_f, wG_run, wI_run, wS_dput, wX_dpop, wX_dappend, asD_d, asL_l, wX_append, wX_popAt, wX_pop, wX_extend, wS_lput, wX_sortset, wX_lrange, wX_sortitems, wX_disp, wPs_nil, wPs_cons, wX_din, add_ii, add_tt, add_ll, sub_ii, mod_ii, div_ii, pow_ii, mul_ii, mul_ti, mul_li, lt_ii, le_ii, gt_ii, ge_ii, eq_dd, ne_dd, isN_dd, notN_dd, isB_dd, isNB_dd, ix_l, ix_t, wAt_0, wAt_1, wAt_2, wAt_3, in_t, in_l, len_l, len_t, int_i, list_l, list_t, tuple_l, tuple_t, max2_ii, min2_ii, sl_t, sl_l, eqv_ii, eqv_bb, eqv_ss, eqv_l0, eqv_t0, okD_int, okD_bool, okD_none, okD_l0, okD_own, okD_keeper, okD_foe, okD_move, okD_slip, okD_how, List.length_cons, List.length_nil, Nat.reduceAdd, Nat.reduceLeDiff, Nat.reduceEqDiff, true_and, and_true, and_self, ev0_1, ev0_2, ev0_3, ev0_4, imm_int, imm_bool, imm_str, imm_tup, imms_nil, imms_cons, Bool.and_true, Bool.true_and, List.nil_append, List.cons_append, Int.reduceLT, Int.reduceLE, Int.reducePow, Int.reduceNeg, Nat.reducePow, Nat.reduceLT, Int.reduceToNat, Int.reduceAdd, Int.reduceSub, natAbs10, or_true, true_or, Bool.not_true, Bool.not_false, decide_true, decide_false, atL2, List.replicate_succ, List.replicate_zero, Nat.reduceSub, wipe_nil, wipe_cons, back_nil, back_cons, List.getD_cons_zero, List.getD_cons_succ, List.set_cons_zero, List.set_cons_succ, sorted_l])
      refine wLoop_inv0 (fun i ρ => ∃ (dk : PyData) (a2 a3 a4 a5 a6 a7 a8 a9 : Option PyData), DkOk dk ∧ ρ = [none, some dk, a2, a3, a4, a5, a6, a7, a8, a9]) ⟨d, none, none, none, none, none, none, none, none, hdk, rfl⟩ ?_ (fun _ _ => trivial)
      rintro i hi ρ ⟨dk, a2, a3, a4, a5, a6, a7, a8, a9, hdk, rfl⟩
      rw [intsF_get]
      refine wT_mono (QT := fun ρ => ρ = [none, some dk, some (.int (0 + i)), a3, a4, a5, a6, a7, a8, a9]) (by (try simp only [wX_C, wX_N, wX_bin, wX_binN, wL_nil, wL_cons, wX_tup, wX_lst, wX_imm, wX_b, wX_call, wX_callN, wX_callI, wX_isi, wX_and, wX_or, wX_not, wX_if, wB_tb, wB_tru, wB_not, wB_and, wB_or, wB_yes, wP_no, wP_part, wX_sl, wS_nil, wS_pass, wS_break, wS_cont, wS_no, wS_seq, wS_drop, wS_ret, wS_retN, wS_if, wS_set, wS_asg, wS_par, wS_for, wT_name, wTs_nil, wTs_cons, wT_tup, wIt_seq, wIt_seqI, wIt_range1, wIt_range2, wIt_enum, wIt_zip, wX_lc', gt_z, gt_s, st_z, st_s, inn_z, inn_s, asB_b, asT_b, asI_i, asQ_l, asQ_t, wIf_t, wIf_f, wG_run, wI_run, wS_dput, wX_dpop, wX_dappend, asD_d, asL_l, wX_append, wX_popAt, wX_pop, wX_extend, wS_lput, wX_sortset, wX_lrange, wX_sortitems, wX_disp, wPs_nil, wPs_cons, wX_din, add_ii, add_tt, add_ll, sub_ii, mod_ii, div_ii, pow_ii, mul_ii, mul_ti, mul_li, lt_ii, le_ii, gt_ii, ge_ii, eq_dd, ne_dd, isN_dd, notN_dd, isB_dd, isNB_dd, ix_l, ix_t, wAt_0, wAt_1, wAt_2, wAt_3, in_t, in_l, len_l, len_t, int_i, list_l, list_t, tuple_l, tuple_t, max2_ii, min2_ii, sl_t, sl_l, eqv_ii, eqv_bb, eqv_ss, eqv_l0, eqv_t0, okD_int, okD_bool, okD_none, okD_l0, okD_own, okD_keeper, okD_foe, okD_move, okD_slip, okD_how, List.length_cons, List.length_nil, Nat.reduceAdd, Nat.reduceLeDiff, Nat.reduceEqDiff, true_and, and_true, and_self, ev0_1, ev0_2, ev0_3, ev0_4, imm_int, imm_bool, imm_str, imm_tup, imms_nil, imms_cons, Bool.and_true, Bool.true_and, List.nil_append, List.cons_append, Int.reduceLT, Int.reduceLE, Int.reducePow, Int.reduceNeg, Nat.reducePow, Nat.reduceLT, Int.reduceToNat, Int.reduceAdd, Int.reduceSub, natAbs10, or_true, true_or, Bool.not_true, Bool.not_false, decide_true, decide_false, atL2, List.replicate_succ, List.replicate_zero, Nat.reduceSub, wipe_nil, wipe_cons, back_nil, back_cons, List.getD_cons_zero, List.getD_cons_succ, List.set_cons_zero, List.set_cons_succ, sorted_l])) ?_
      rintro ρ rfl
      generalize hti : (0 + (i : Int)) = ti
      refine wS_cut (fun ρ => ∃ (dk x y : PyData), DkOk dk ∧ NumOk x ∧ NumOk y ∧ ρ = [none, some dk, some (.int ti), some x, some y, a5, a6, a7, a8, a9]) ?_ ?_
      · (try simp only [wX_C, wX_N, wX_bin, wX_binN, wL_nil, wL_cons, wX_tup, wX_lst, wX_imm, wX_b, wX_call, wX_callN, wX_callI, wX_isi, wX_and, wX_or, wX_not, wX_if, wB_tb, wB_tru, wB_not, wB_and, wB_or, wB_yes, wP_no, wP_part, wX_sl, wS_nil, wS_pass, wS_break, wS_cont, wS_no, wS_seq, wS_drop, wS_ret, wS_retN, wS_if, wS_set, wS_asg, wS_par, wS_for, wT_name, wTs_nil, wTs_cons, wT_tup, wIt_seq, wIt_seqI, wIt_range1, wIt_range2, wIt_enum, wIt_zip, wX_lc', gt_z, gt_s, st_z, st_s, inn_z, inn_s, asB_b, asT_b, asI_i, asQ_l, asQ_t, wIf_t, wIf_f, wG_run, wI_run, wS_dput, wX_dpop, wX_dappend, asD_d, asL_l, wX_append, wX_popAt, wX_pop, wX_extend, wS_lput, wX_sortset, wX_lrange, wX_sortitems, wX_disp, wPs_nil, wPs_cons, wX_din, add_ii, add_tt, add_ll, sub_ii, mod_ii, div_ii, pow_ii, mul_ii, mul_ti, mul_li, lt_ii, le_ii, gt_ii, ge_ii, eq_dd, ne_dd, isN_dd, notN_dd, isB_dd, isNB_dd, ix_l, ix_t, wAt_0, wAt_1, wAt_2, wAt_3, in_t, in_l, len_l, len_t, int_i, list_l, list_t, tuple_l, tuple_t, max2_ii, min2_ii, sl_t, sl_l, eqv_ii, eqv_bb, eqv_ss, eqv_l0, eqv_t0, okD_int, okD_bool, okD_none, okD_l0, okD_own, okD_keeper, okD_foe, okD_move, okD_slip, okD_how, List.length_cons, List.length_nil, Nat.reduceAdd, Nat.reduceLeDiff, Nat.reduceEqDiff, true_and, and_true, and_self, ev0_1, ev0_2, ev0_3, ev0_4, imm_int, imm_bool, imm_str, imm_tup, imms_nil, imms_cons, Bool.and_true, Bool.true_and, List.nil_append, List.cons_append, Int.reduceLT, Int.reduceLE, Int.reducePow, Int.reduceNeg, Nat.reducePow, Nat.reduceLT, Int.reduceToNat, Int.reduceAdd, Int.reduceSub, natAbs10, or_true, true_or, Bool.not_true, Bool.not_false, decide_true, decide_false, atL2, List.replicate_succ, List.replicate_zero, Nat.reduceSub, wipe_nil, wipe_cons, back_nil, back_cons, List.getD_cons_zero, List.getD_cons_succ, List.set_cons_zero, List.set_cons_succ, sorted_l, add_ss, int_b, isascii_s, isdigit_s, split_ss, join_sl, part_ss, str_i, wX_fmt, wIt_enumK, wX_sortsetT, add1_ll, mul1_li, ltT_22, upper_s])
        refine any_number_ok hdk fun x dk hx hdk => ?_
        (try simp only [wX_C, wX_N, wX_bin, wX_binN, wL_nil, wL_cons, wX_tup, wX_lst, wX_imm, wX_b, wX_call, wX_callN, wX_callI, wX_isi, wX_and, wX_or, wX_not, wX_if, wB_tb, wB_tru, wB_not, wB_and, wB_or, wB_yes, wP_no, wP_part, wX_sl, wS_nil, wS_pass, wS_break, wS_cont, wS_no, wS_seq, wS_drop, wS_ret, wS_retN, wS_if, wS_set, wS_asg, wS_par, wS_for, wT_name, wTs_nil, wTs_cons, wT_tup, wIt_seq, wIt_seqI, wIt_range1, wIt_range2, wIt_enum, wIt_zip, wX_lc', gt_z, gt_s, st_z, st_s, inn_z, inn_s, asB_b, asT_b, asI_i, asQ_l, asQ_t, wIf_t, wIf_f, wG_run, wI_run, wS_dput, wX_dpop, wX_dappend, asD_d, asL_l, wX_append, wX_popAt, wX_pop, wX_extend, wS_lput, wX_sortset, wX_lrange, wX_sortitems, wX_disp, wPs_nil, wPs_cons, wX_din, add_ii, add_tt, add_ll, sub_ii, mod_ii, div_ii, pow_ii, mul_ii, mul_ti, mul_li, lt_ii, le_ii, gt_ii, ge_ii, eq_dd, ne_dd, isN_dd, notN_dd, isB_dd, isNB_dd, ix_l, ix_t, wAt_0, wAt_1, wAt_2, wAt_3, in_t, in_l, len_l, len_t, int_i, list_l, list_t, tuple_l, tuple_t, max2_ii, min2_ii, sl_t, sl_l, eqv_ii, eqv_bb, eqv_ss, eqv_l0, eqv_t0, okD_int, okD_bool, okD_none, okD_l0, okD_own, okD_keeper, okD_foe, okD_move, okD_slip, okD_how, List.length_cons, List.length_nil, Nat.reduceAdd, Nat.reduceLeDiff, Nat.reduceEqDiff, true_and, and_true, and_self, ev0_1, ev0_2, ev0_3, ev0_4, imm_int, imm_bool, imm_str, imm_tup, imms_nil, imms_cons, Bool.and_true, Bool.true_and, List.nil_append, List.cons_append, Int.reduceLT, Int.reduceLE, Int.reducePow, Int.reduceNeg, Nat.reducePow, Nat.reduceLT, Int.reduceToNat, Int.reduceAdd, Int.reduceSub, natAbs10, or_true, true_or, Bool.not_true, Bool.not_false, decide_true, decide_false, atL2, List.replicate_succ, List.replicate_zero, Nat.reduceSub, wipe_nil, wipe_cons, back_nil, back_cons, List.getD_cons_zero, List.getD_cons_succ, List.set_cons_zero, List.set_cons_succ, sorted_l, add_ss, int_b, isascii_s, isdigit_s, split_ss, join_sl, part_ss, str_i, wX_fmt, wIt_enumK, wX_sortsetT, add1_ll, mul1_li, ltT_22, upper_s])
        refine any_number_ok hdk fun y dk hy hdk => ?_
        (try simp only [wX_C, wX_N, wX_bin, wX_binN, wL_nil, wL_cons, wX_tup, wX_lst, wX_imm, wX_b, wX_call, wX_callN, wX_callI, wX_isi, wX_and, wX_or, wX_not, wX_if, wB_tb, wB_tru, wB_not, wB_and, wB_or, wB_yes, wP_no, wP_part, wX_sl, wS_nil, wS_pass, wS_break, wS_cont, wS_no, wS_seq, wS_drop, wS_ret, wS_retN, wS_if, wS_set, wS_asg, wS_par, wS_for, wT_name, wTs_nil, wTs_cons, wT_tup, wIt_seq, wIt_seqI, wIt_range1, wIt_range2, wIt_enum, wIt_zip, wX_lc', gt_z, gt_s, st_z, st_s, inn_z, inn_s, asB_b, asT_b, asI_i, asQ_l, asQ_t, wIf_t, wIf_f, wG_run, wI_run, wS_dput, wX_dpop, wX_dappend, asD_d, asL_l, wX_append, wX_popAt, wX_pop, wX_extend, wS_lput, wX_sortset, wX_lrange, wX_sortitems, wX_disp, wPs_nil, wPs_cons, wX_din, add_ii, add_tt, add_ll, sub_ii, mod_ii, div_ii, pow_ii, mul_ii, mul_ti, mul_li, lt_ii, le_ii, gt_ii, ge_ii, eq_dd, ne_dd, isN_dd, notN_dd, isB_dd, isNB_dd, ix_l, ix_t, wAt_0, wAt_1, wAt_2, wAt_3, in_t, in_l, len_l, len_t, int_i, list_l, list_t, tuple_l, tuple_t, max2_ii, min2_ii, sl_t, sl_l, eqv_ii, eqv_bb, eqv_ss, eqv_l0, eqv_t0, okD_int, okD_bool, okD_none, okD_l0, okD_own, okD_keeper, okD_foe, okD_move, okD_slip, okD_how, List.length_cons, List.length_nil, Nat.reduceAdd, Nat.reduceLeDiff, Nat.reduceEqDiff, true_and, and_true, and_self, ev0_1, ev0_2, ev0_3, ev0_4, imm_int, imm_bool, imm_str, imm_tup, imms_nil, imms_cons, Bool.and_true, Bool.true_and, List.nil_append, List.cons_append, Int.reduceLT, Int.reduceLE, Int.reducePow, Int.reduceNeg, Nat.reducePow, Nat.reduceLT, Int.reduceToNat, Int.reduceAdd, Int.reduceSub, natAbs10, or_true, true_or, Bool.not_true, Bool.not_false, decide_true, decide_false, atL2, List.replicate_succ, List.replicate_zero, Nat.reduceSub, wipe_nil, wipe_cons, back_nil, back_cons, List.getD_cons_zero, List.getD_cons_succ, List.set_cons_zero, List.set_cons_succ, sorted_l, add_ss, int_b, isascii_s, isdigit_s, split_ss, join_sl, part_ss, str_i, wX_fmt, wIt_enumK, wX_sortsetT, add1_ll, mul1_li, ltT_22, upper_s])
        exact ⟨dk, x, y, hdk, hx, hy, rfl⟩
      clear hdk dk
      rintro ρ ⟨dk, x, y, hdk, hx, hy, rfl⟩
      have lxy : lexLtD [rkA x, rkB x] [rkA y, rkB y] = lessD x y := rfl
      have lyx : lexLtD [rkA y, rkB y] [rkA x, rkB x] = lessD y x := rfl
      generalize hb : lessD x y = b at *
      generalize hc : lessD y x = c at *
      refine wS_cut (fun ρ => ρ = [none, some dk, some (.int ti), some x, some y, some (.bool b), a6, a7, a8, a9]) ?_ ?_
      · (try simp only [wX_C, wX_N, wX_bin, wX_binN, wL_nil, wL_cons, wX_tup, wX_lst, wX_imm, wX_b, wX_call, wX_callN, wX_callI, wX_isi, wX_and, wX_or, wX_not, wX_if, wB_tb, wB_tru, wB_not, wB_and, wB_or, wB_yes, wP_no, wP_part, wX_sl, wS_nil, wS_pass, wS_break, wS_cont, wS_no, wS_seq, wS_drop, wS_ret, wS_retN, wS_if, wS_set, wS_asg, wS_par, wS_for, wT_name, wTs_nil, wTs_cons, wT_tup, wIt_seq, wIt_seqI, wIt_range1, wIt_range2, wIt_enum, wIt_zip, wX_lc', gt_z, gt_s, st_z, st_s, inn_z, inn_s, asB_b, asT_b, asI_i, asQ_l, asQ_t, wIf_t, wIf_f, wG_run, wI_run, wS_dput, wX_dpop, wX_dappend, asD_d, asL_l, wX_append, wX_popAt, wX_pop, wX_extend, wS_lput, wX_sortset, wX_lrange, wX_sortitems, wX_disp, wPs_nil, wPs_cons, wX_din, add_ii, add_tt, add_ll, sub_ii, mod_ii, div_ii, pow_ii, mul_ii, mul_ti, mul_li, lt_ii, le_ii, gt_ii, ge_ii, eq_dd, ne_dd, isN_dd, notN_dd, isB_dd, isNB_dd, ix_l, ix_t, wAt_0, wAt_1, wAt_2, wAt_3, in_t, in_l, len_l, len_t, int_i, list_l, list_t, tuple_l, tuple_t, max2_ii, min2_ii, sl_t, sl_l, eqv_ii, eqv_bb, eqv_ss, eqv_l0, eqv_t0, okD_int, okD_bool, okD_none, okD_l0, okD_own, okD_keeper, okD_foe, okD_move, okD_slip, okD_how, List.length_cons, List.length_nil, Nat.reduceAdd, Nat.reduceLeDiff, Nat.reduceEqDiff, true_and, and_true, and_self, ev0_1, ev0_2, ev0_3, ev0_4, imm_int, imm_bool, imm_str, imm_tup, imms_nil, imms_cons, Bool.and_true, Bool.true_and, List.nil_append, List.cons_append, Int.reduceLT, Int.reduceLE, Int.reducePow, Int.reduceNeg, Nat.reducePow, Nat.reduceLT, Int.reduceToNat, Int.reduceAdd, Int.reduceSub, natAbs10, or_true, true_or, Bool.not_true, Bool.not_false, decide_true, decide_false, atL2, List.replicate_succ, List.replicate_zero, Nat.reduceSub, wipe_nil, wipe_cons, back_nil, back_cons, List.getD_cons_zero, List.getD_cons_succ, List.set_cons_zero, List.set_cons_succ, sorted_l, add_ss, int_b, isascii_s, isdigit_s, split_ss, join_sl, part_ss, str_i, wX_fmt, wIt_enumK, wX_sortsetT, add1_ll, mul1_li, ltT_22, upper_s])
        refine law_rank_ok hx ?_
        (try simp only [wX_C, wX_N, wX_bin, wX_binN, wL_nil, wL_cons, wX_tup, wX_lst, wX_imm, wX_b, wX_call, wX_callN, wX_callI, wX_isi, wX_and, wX_or, wX_not, wX_if, wB_tb, wB_tru, wB_not, wB_and, wB_or, wB_yes, wP_no, wP_part, wX_sl, wS_nil, wS_pass, wS_break, wS_cont, wS_no, wS_seq, wS_drop, wS_ret, wS_retN, wS_if, wS_set, wS_asg, wS_par, wS_for, wT_name, wTs_nil, wTs_cons, wT_tup, wIt_seq, wIt_seqI, wIt_range1, wIt_range2, wIt_enum, wIt_zip, wX_lc', gt_z, gt_s, st_z, st_s, inn_z, inn_s, asB_b, asT_b, asI_i, asQ_l, asQ_t, wIf_t, wIf_f, wG_run, wI_run, wS_dput, wX_dpop, wX_dappend, asD_d, asL_l, wX_append, wX_popAt, wX_pop, wX_extend, wS_lput, wX_sortset, wX_lrange, wX_sortitems, wX_disp, wPs_nil, wPs_cons, wX_din, add_ii, add_tt, add_ll, sub_ii, mod_ii, div_ii, pow_ii, mul_ii, mul_ti, mul_li, lt_ii, le_ii, gt_ii, ge_ii, eq_dd, ne_dd, isN_dd, notN_dd, isB_dd, isNB_dd, ix_l, ix_t, wAt_0, wAt_1, wAt_2, wAt_3, in_t, in_l, len_l, len_t, int_i, list_l, list_t, tuple_l, tuple_t, max2_ii, min2_ii, sl_t, sl_l, eqv_ii, eqv_bb, eqv_ss, eqv_l0, eqv_t0, okD_int, okD_bool, okD_none, okD_l0, okD_own, okD_keeper, okD_foe, okD_move, okD_slip, okD_how, List.length_cons, List.length_nil, Nat.reduceAdd, Nat.reduceLeDiff, Nat.reduceEqDiff, true_and, and_true, and_self, ev0_1, ev0_2, ev0_3, ev0_4, imm_int, imm_bool, imm_str, imm_tup, imms_nil, imms_cons, Bool.and_true, Bool.true_and, List.nil_append, List.cons_append, Int.reduceLT, Int.reduceLE, Int.reducePow, Int.reduceNeg, Nat.reducePow, Nat.reduceLT, Int.reduceToNat, Int.reduceAdd, Int.reduceSub, natAbs10, or_true, true_or, Bool.not_true, Bool.not_false, decide_true, decide_false, atL2, List.replicate_succ, List.replicate_zero, Nat.reduceSub, wipe_nil, wipe_cons, back_nil, back_cons, List.getD_cons_zero, List.getD_cons_succ, List.set_cons_zero, List.set_cons_succ, sorted_l, add_ss, int_b, isascii_s, isdigit_s, split_ss, join_sl, part_ss, str_i, wX_fmt, wIt_enumK, wX_sortsetT, add1_ll, mul1_li, ltT_22, upper_s])
        refine law_rank_ok hy ?_
        simp only [wX_C, wX_N, wX_bin, wX_binN, wL_nil, wL_cons, wX_tup, wX_lst, wX_imm, wX_b, wX_call, wX_callN, wX_callI, wX_isi, wX_and, wX_or, wX_not, wX_if, wB_tb, wB_tru, wB_not, wB_and, wB_or, wB_yes, wP_no, wP_part, wX_sl, wS_nil, wS_pass, wS_break, wS_cont, wS_no, wS_seq, wS_drop, wS_ret, wS_retN, wS_if, wS_set, wS_asg, wS_par, wS_for, wT_name, wTs_nil, wTs_cons, wT_tup, wIt_seq, wIt_seqI, wIt_range1, wIt_range2, wIt_enum, wIt_zip, wX_lc', gt_z, gt_s, st_z, st_s, inn_z, inn_s, asB_b, asT_b, asI_i, asQ_l, asQ_t, wIf_t, wIf_f, wG_run, wI_run, wS_dput, wX_dpop, wX_dappend, asD_d, asL_l, wX_append, wX_popAt, wX_pop, wX_extend, wS_lput, wX_sortset, wX_lrange, wX_sortitems, wX_disp, wPs_nil, wPs_cons, wX_din, add_ii, add_tt, add_ll, sub_ii, mod_ii, div_ii, pow_ii, mul_ii, mul_ti, mul_li, lt_ii, le_ii, gt_ii, ge_ii, eq_dd, ne_dd, isN_dd, notN_dd, isB_dd, isNB_dd, ix_l, ix_t, wAt_0, wAt_1, wAt_2, wAt_3, in_t, in_l, len_l, len_t, int_i, list_l, list_t, tuple_l, tuple_t, max2_ii, min2_ii, sl_t, sl_l, eqv_ii, eqv_bb, eqv_ss, eqv_l0, eqv_t0, okD_int, okD_bool, okD_none, okD_l0, okD_own, okD_keeper, okD_foe, okD_move, okD_slip, okD_how, List.length_cons, List.length_nil, Nat.reduceAdd, Nat.reduceLeDiff, Nat.reduceEqDiff, true_and, and_true, and_self, ev0_1, ev0_2, ev0_3, ev0_4, imm_int, imm_bool, imm_str, imm_tup, imms_nil, imms_cons, Bool.and_true, Bool.true_and, List.nil_append, List.cons_append, Int.reduceLT, Int.reduceLE, Int.reducePow, Int.reduceNeg, Nat.reducePow, Nat.reduceLT, Int.reduceToNat, Int.reduceAdd, Int.reduceSub, natAbs10, or_true, true_or, Bool.not_true, Bool.not_false, decide_true, decide_false, atL2, List.replicate_succ, List.replicate_zero, Nat.reduceSub, wipe_nil, wipe_cons, back_nil, back_cons, List.getD_cons_zero, List.getD_cons_succ, List.set_cons_zero, List.set_cons_succ, sorted_l, add_ss, int_b, isascii_s, isdigit_s, split_ss, join_sl, part_ss, str_i, wX_fmt, wIt_enumK, wX_sortsetT, add1_ll, mul1_li, ltT_22, upper_s, lxy]
      rintro ρ rfl
      refine wS_cut (fun ρ => ρ = [none, some dk, some (.int ti), some x, some y, some (.bool b), some (.tuple [.bool b, .bool b, .bool c]), a7, a8, a9]) ?_ ?_
      · (try simp only [wX_C, wX_N, wX_bin, wX_binN, wL_nil, wL_cons, wX_tup, wX_lst, wX_imm, wX_b, wX_call, wX_callN, wX_callI, wX_isi, wX_and, wX_or, wX_not, wX_if, wB_tb, wB_tru, wB_not, wB_and, wB_or, wB_yes, wP_no, wP_part, wX_sl, wS_nil, wS_pass, wS_break, wS_cont, wS_no, wS_seq, wS_drop, wS_ret, wS_retN, wS_if, wS_set, wS_asg, wS_par, wS_for, wT_name, wTs_nil, wTs_cons, wT_tup, wIt_seq, wIt_seqI, wIt_range1, wIt_range2, wIt_enum, wIt_zip, wX_lc', gt_z, gt_s, st_z, st_s, inn_z, inn_s, asB_b, asT_b, asI_i, asQ_l, asQ_t, wIf_t, wIf_f, wG_run, wI_run, wS_dput, wX_dpop, wX_dappend, asD_d, asL_l, wX_append, wX_popAt, wX_pop, wX_extend, wS_lput, wX_sortset, wX_lrange, wX_sortitems, wX_disp, wPs_nil, wPs_cons, wX_din, add_ii, add_tt, add_ll, sub_ii, mod_ii, div_ii, pow_ii, mul_ii, mul_ti, mul_li, lt_ii, le_ii, gt_ii, ge_ii, eq_dd, ne_dd, isN_dd, notN_dd, isB_dd, isNB_dd, ix_l, ix_t, wAt_0, wAt_1, wAt_2, wAt_3, in_t, in_l, len_l, len_t, int_i, list_l, list_t, tuple_l, tuple_t, max2_ii, min2_ii, sl_t, sl_l, eqv_ii, eqv_bb, eqv_ss, eqv_l0, eqv_t0, okD_int, okD_bool, okD_none, okD_l0, okD_own, okD_keeper, okD_foe, okD_move, okD_slip, okD_how, List.length_cons, List.length_nil, Nat.reduceAdd, Nat.reduceLeDiff, Nat.reduceEqDiff, true_and, and_true, and_self, ev0_1, ev0_2, ev0_3, ev0_4, imm_int, imm_bool, imm_str, imm_tup, imms_nil, imms_cons, Bool.and_true, Bool.true_and, List.nil_append, List.cons_append, Int.reduceLT, Int.reduceLE, Int.reducePow, Int.reduceNeg, Nat.reducePow, Nat.reduceLT, Int.reduceToNat, Int.reduceAdd, Int.reduceSub, natAbs10, or_true, true_or, Bool.not_true, Bool.not_false, decide_true, decide_false, atL2, List.replicate_succ, List.replicate_zero, Nat.reduceSub, wipe_nil, wipe_cons, back_nil, back_cons, List.getD_cons_zero, List.getD_cons_succ, List.set_cons_zero, List.set_cons_succ, sorted_l, add_ss, int_b, isascii_s, isdigit_s, split_ss, join_sl, part_ss, str_i, wX_fmt, wIt_enumK, wX_sortsetT, add1_ll, mul1_li, ltT_22, upper_s])
        refine is_less_ok hx hy ?_
        (try simp only [wX_C, wX_N, wX_bin, wX_binN, wL_nil, wL_cons, wX_tup, wX_lst, wX_imm, wX_b, wX_call, wX_callN, wX_callI, wX_isi, wX_and, wX_or, wX_not, wX_if, wB_tb, wB_tru, wB_not, wB_and, wB_or, wB_yes, wP_no, wP_part, wX_sl, wS_nil, wS_pass, wS_break, wS_cont, wS_no, wS_seq, wS_drop, wS_ret, wS_retN, wS_if, wS_set, wS_asg, wS_par, wS_for, wT_name, wTs_nil, wTs_cons, wT_tup, wIt_seq, wIt_seqI, wIt_range1, wIt_range2, wIt_enum, wIt_zip, wX_lc', gt_z, gt_s, st_z, st_s, inn_z, inn_s, asB_b, asT_b, asI_i, asQ_l, asQ_t, wIf_t, wIf_f, wG_run, wI_run, wS_dput, wX_dpop, wX_dappend, asD_d, asL_l, wX_append, wX_popAt, wX_pop, wX_extend, wS_lput, wX_sortset, wX_lrange, wX_sortitems, wX_disp, wPs_nil, wPs_cons, wX_din, add_ii, add_tt, add_ll, sub_ii, mod_ii, div_ii, pow_ii, mul_ii, mul_ti, mul_li, lt_ii, le_ii, gt_ii, ge_ii, eq_dd, ne_dd, isN_dd, notN_dd, isB_dd, isNB_dd, ix_l, ix_t, wAt_0, wAt_1, wAt_2, wAt_3, in_t, in_l, len_l, len_t, int_i, list_l, list_t, tuple_l, tuple_t, max2_ii, min2_ii, sl_t, sl_l, eqv_ii, eqv_bb, eqv_ss, eqv_l0, eqv_t0, okD_int, okD_bool, okD_none, okD_l0, okD_own, okD_keeper, okD_foe, okD_move, okD_slip, okD_how, List.length_cons, List.length_nil, Nat.reduceAdd, Nat.reduceLeDiff, Nat.reduceEqDiff, true_and, and_true, and_self, ev0_1, ev0_2, ev0_3, ev0_4, imm_int, imm_bool, imm_str, imm_tup, imms_nil, imms_cons, Bool.and_true, Bool.true_and, List.nil_append, List.cons_append, Int.reduceLT, Int.reduceLE, Int.reducePow, Int.reduceNeg, Nat.reducePow, Nat.reduceLT, Int.reduceToNat, Int.reduceAdd, Int.reduceSub, natAbs10, or_true, true_or, Bool.not_true, Bool.not_false, decide_true, decide_false, atL2, List.replicate_succ, List.replicate_zero, Nat.reduceSub, wipe_nil, wipe_cons, back_nil, back_cons, List.getD_cons_zero, List.getD_cons_succ, List.set_cons_zero, List.set_cons_succ, sorted_l, add_ss, int_b, isascii_s, isdigit_s, split_ss, join_sl, part_ss, str_i, wX_fmt, wIt_enumK, wX_sortsetT, add1_ll, mul1_li, ltT_22, upper_s])
        refine is_less_ok hx hy ?_
        (try simp only [wX_C, wX_N, wX_bin, wX_binN, wL_nil, wL_cons, wX_tup, wX_lst, wX_imm, wX_b, wX_call, wX_callN, wX_callI, wX_isi, wX_and, wX_or, wX_not, wX_if, wB_tb, wB_tru, wB_not, wB_and, wB_or, wB_yes, wP_no, wP_part, wX_sl, wS_nil, wS_pass, wS_break, wS_cont, wS_no, wS_seq, wS_drop, wS_ret, wS_retN, wS_if, wS_set, wS_asg, wS_par, wS_for, wT_name, wTs_nil, wTs_cons, wT_tup, wIt_seq, wIt_seqI, wIt_range1, wIt_range2, wIt_enum, wIt_zip, wX_lc', gt_z, gt_s, st_z, st_s, inn_z, inn_s, asB_b, asT_b, asI_i, asQ_l, asQ_t, wIf_t, wIf_f, wG_run, wI_run, wS_dput, wX_dpop, wX_dappend, asD_d, asL_l, wX_append, wX_popAt, wX_pop, wX_extend, wS_lput, wX_sortset, wX_lrange, wX_sortitems, wX_disp, wPs_nil, wPs_cons, wX_din, add_ii, add_tt, add_ll, sub_ii, mod_ii, div_ii, pow_ii, mul_ii, mul_ti, mul_li, lt_ii, le_ii, gt_ii, ge_ii, eq_dd, ne_dd, isN_dd, notN_dd, isB_dd, isNB_dd, ix_l, ix_t, wAt_0, wAt_1, wAt_2, wAt_3, in_t, in_l, len_l, len_t, int_i, list_l, list_t, tuple_l, tuple_t, max2_ii, min2_ii, sl_t, sl_l, eqv_ii, eqv_bb, eqv_ss, eqv_l0, eqv_t0, okD_int, okD_bool, okD_none, okD_l0, okD_own, okD_keeper, okD_foe, okD_move, okD_slip, okD_how, List.length_cons, List.length_nil, Nat.reduceAdd, Nat.reduceLeDiff, Nat.reduceEqDiff, true_and, and_true, and_self, ev0_1, ev0_2, ev0_3, ev0_4, imm_int, imm_bool, imm_str, imm_tup, imms_nil, imms_cons, Bool.and_true, Bool.true_and, List.nil_append, List.cons_append, Int.reduceLT, Int.reduceLE, Int.reducePow, Int.reduceNeg, Nat.reducePow, Nat.reduceLT, Int.reduceToNat, Int.reduceAdd, Int.reduceSub, natAbs10, or_true, true_or, Bool.not_true, Bool.not_false, decide_true, decide_false, atL2, List.replicate_succ, List.replicate_zero, Nat.reduceSub, wipe_nil, wipe_cons, back_nil, back_cons, List.getD_cons_zero, List.getD_cons_succ, List.set_cons_zero, List.set_cons_succ, sorted_l, add_ss, int_b, isascii_s, isdigit_s, split_ss, join_sl, part_ss, str_i, wX_fmt, wIt_enumK, wX_sortsetT, add1_ll, mul1_li, ltT_22, upper_s])
        refine is_less_ok hy hx ?_
        simp only [wX_C, wX_N, wX_bin, wX_binN, wL_nil, wL_cons, wX_tup, wX_lst, wX_imm, wX_b, wX_call, wX_callN, wX_callI, wX_isi, wX_and, wX_or, wX_not, wX_if, wB_tb, wB_tru, wB_not, wB_and, wB_or, wB_yes, wP_no, wP_part, wX_sl, wS_nil, wS_pass, wS_break, wS_cont, wS_no, wS_seq, wS_drop, wS_ret, wS_retN, wS_if, wS_set, wS_asg, wS_par, wS_for, wT_name, wTs_nil, wTs_cons, wT_tup, wIt_seq, wIt_seqI, wIt_range1, wIt_range2, wIt_enum, wIt_zip, wX_lc', gt_z, gt_s, st_z, st_s, inn_z, inn_s, asB_b, asT_b, asI_i, asQ_l, asQ_t, wIf_t, wIf_f, wG_run, wI_run, wS_dput, wX_dpop, wX_dappend, asD_d, asL_l, wX_append, wX_popAt, wX_pop, wX_extend, wS_lput, wX_sortset, wX_lrange, wX_sortitems, wX_disp, wPs_nil, wPs_cons, wX_din, add_ii, add_tt, add_ll, sub_ii, mod_ii, div_ii, pow_ii, mul_ii, mul_ti, mul_li, lt_ii, le_ii, gt_ii, ge_ii, eq_dd, ne_dd, isN_dd, notN_dd, isB_dd, isNB_dd, ix_l, ix_t, wAt_0, wAt_1, wAt_2, wAt_3, in_t, in_l, len_l, len_t, int_i, list_l, list_t, tuple_l, tuple_t, max2_ii, min2_ii, sl_t, sl_l, eqv_ii, eqv_bb, eqv_ss, eqv_l0, eqv_t0, okD_int, okD_bool, okD_none, okD_l0, okD_own, okD_keeper, okD_foe, okD_move, okD_slip, okD_how, List.length_cons, List.length_nil, Nat.reduceAdd, Nat.reduceLeDiff, Nat.reduceEqDiff, true_and, and_true, and_self, ev0_1, ev0_2, ev0_3, ev0_4, imm_int, imm_bool, imm_str, imm_tup, imms_nil, imms_cons, Bool.and_true, Bool.true_and, List.nil_append, List.cons_append, Int.reduceLT, Int.reduceLE, Int.reducePow, Int.reduceNeg, Nat.reducePow, Nat.reduceLT, Int.reduceToNat, Int.reduceAdd, Int.reduceSub, natAbs10, or_true, true_or, Bool.not_true, Bool.not_false, decide_true, decide_false, atL2, List.replicate_succ, List.replicate_zero, Nat.reduceSub, wipe_nil, wipe_cons, back_nil, back_cons, List.getD_cons_zero, List.getD_cons_succ, List.set_cons_zero, List.set_cons_succ, sorted_l, add_ss, int_b, isascii_s, isdigit_s, split_ss, join_sl, part_ss, str_i, wX_fmt, wIt_enumK, wX_sortsetT, add1_ll, mul1_li, ltT_22, upper_s, hb, hc]
      rintro ρ rfl
      obtain ⟨s3, o3, r3⟩ := rB3 b b c
      generalize hT : PyData.tuple [.bool b, .bool b, .bool c] = T at *
      refine wS_cut (fun ρ => ρ = [none, some dk, some (.int ti), some x, some y, some (.bool b), some T, a7, a8, a9]) ?_ ?_
      · (try simp only [wX_C, wX_N, wX_bin, wX_binN, wL_nil, wL_cons, wX_tup, wX_lst, wX_imm, wX_b, wX_call, wX_callN, wX_callI, wX_isi, wX_and, wX_or, wX_not, wX_if, wB_tb, wB_tru, wB_not, wB_and, wB_or, wB_yes, wP_no, wP_part, wX_sl, wS_nil, wS_pass, wS_break, wS_cont, wS_no, wS_seq, wS_drop, wS_ret, wS_retN, wS_if, wS_set, wS_asg, wS_par, wS_for, wT_name, wTs_nil, wTs_cons, wT_tup, wIt_seq, wIt_seqI, wIt_range1, wIt_range2, wIt_enum, wIt_zip, wX_lc', gt_z, gt_s, st_z, st_s, inn_z, inn_s, asB_b, asT_b, asI_i, asQ_l, asQ_t, wIf_t, wIf_f, wG_run, wI_run, wS_dput, wX_dpop, wX_dappend, asD_d, asL_l, wX_append, wX_popAt, wX_pop, wX_extend, wS_lput, wX_sortset, wX_lrange, wX_sortitems, wX_disp, wPs_nil, wPs_cons, wX_din, add_ii, add_tt, add_ll, sub_ii, mod_ii, div_ii, pow_ii, mul_ii, mul_ti, mul_li, lt_ii, le_ii, gt_ii, ge_ii, eq_dd, ne_dd, isN_dd, notN_dd, isB_dd, isNB_dd, ix_l, ix_t, wAt_0, wAt_1, wAt_2, wAt_3, in_t, in_l, len_l, len_t, int_i, list_l, list_t, tuple_l, tuple_t, max2_ii, min2_ii, sl_t, sl_l, eqv_ii, eqv_bb, eqv_ss, eqv_l0, eqv_t0, okD_int, okD_bool, okD_none, okD_l0, okD_own, okD_keeper, okD_foe, okD_move, okD_slip, okD_how, List.length_cons, List.length_nil, Nat.reduceAdd, Nat.reduceLeDiff, Nat.reduceEqDiff, true_and, and_true, and_self, ev0_1, ev0_2, ev0_3, ev0_4, imm_int, imm_bool, imm_str, imm_tup, imms_nil, imms_cons, Bool.and_true, Bool.true_and, List.nil_append, List.cons_append, Int.reduceLT, Int.reduceLE, Int.reducePow, Int.reduceNeg, Nat.reducePow, Nat.reduceLT, Int.reduceToNat, Int.reduceAdd, Int.reduceSub, natAbs10, or_true, true_or, Bool.not_true, Bool.not_false, decide_true, decide_false, atL2, List.replicate_succ, List.replicate_zero, Nat.reduceSub, wipe_nil, wipe_cons, back_nil, back_cons, List.getD_cons_zero, List.getD_cons_succ, List.set_cons_zero, List.set_cons_succ, sorted_l, add_ss, int_b, isascii_s, isdigit_s, split_ss, join_sl, part_ss, str_i, wX_fmt, wIt_enumK, wX_sortsetT, add1_ll, mul1_li, ltT_22, upper_s])
        refine r3 ?_
        refine law_rank_ok hy ?_
        (try simp only [wX_C, wX_N, wX_bin, wX_binN, wL_nil, wL_cons, wX_tup, wX_lst, wX_imm, wX_b, wX_call, wX_callN, wX_callI, wX_isi, wX_and, wX_or, wX_not, wX_if, wB_tb, wB_tru, wB_not, wB_and, wB_or, wB_yes, wP_no, wP_part, wX_sl, wS_nil, wS_pass, wS_break, wS_cont, wS_no, wS_seq, wS_drop, wS_ret, wS_retN, wS_if, wS_set, wS_asg, wS_par, wS_for, wT_name, wTs_nil, wTs_cons, wT_tup, wIt_seq, wIt_seqI, wIt_range1, wIt_range2, wIt_enum, wIt_zip, wX_lc', gt_z, gt_s, st_z, st_s, inn_z, inn_s, asB_b, asT_b, asI_i, asQ_l, asQ_t, wIf_t, wIf_f, wG_run, wI_run, wS_dput, wX_dpop, wX_dappend, asD_d, asL_l, wX_append, wX_popAt, wX_pop, wX_extend, wS_lput, wX_sortset, wX_lrange, wX_sortitems, wX_disp, wPs_nil, wPs_cons, wX_din, add_ii, add_tt, add_ll, sub_ii, mod_ii, div_ii, pow_ii, mul_ii, mul_ti, mul_li, lt_ii, le_ii, gt_ii, ge_ii, eq_dd, ne_dd, isN_dd, notN_dd, isB_dd, isNB_dd, ix_l, ix_t, wAt_0, wAt_1, wAt_2, wAt_3, in_t, in_l, len_l, len_t, int_i, list_l, list_t, tuple_l, tuple_t, max2_ii, min2_ii, sl_t, sl_l, eqv_ii, eqv_bb, eqv_ss, eqv_l0, eqv_t0, okD_int, okD_bool, okD_none, okD_l0, okD_own, okD_keeper, okD_foe, okD_move, okD_slip, okD_how, List.length_cons, List.length_nil, Nat.reduceAdd, Nat.reduceLeDiff, Nat.reduceEqDiff, true_and, and_true, and_self, ev0_1, ev0_2, ev0_3, ev0_4, imm_int, imm_bool, imm_str, imm_tup, imms_nil, imms_cons, Bool.and_true, Bool.true_and, List.nil_append, List.cons_append, Int.reduceLT, Int.reduceLE, Int.reducePow, Int.reduceNeg, Nat.reducePow, Nat.reduceLT, Int.reduceToNat, Int.reduceAdd, Int.reduceSub, natAbs10, or_true, true_or, Bool.not_true, Bool.not_false, decide_true, decide_false, atL2, List.replicate_succ, List.replicate_zero, Nat.reduceSub, wipe_nil, wipe_cons, back_nil, back_cons, List.getD_cons_zero, List.getD_cons_succ, List.set_cons_zero, List.set_cons_succ, sorted_l, add_ss, int_b, isascii_s, isdigit_s, split_ss, join_sl, part_ss, str_i, wX_fmt, wIt_enumK, wX_sortsetT, add1_ll, mul1_li, ltT_22, upper_s])
        refine law_rank_ok hx ?_
        simp only [wX_C, wX_N, wX_bin, wX_binN, wL_nil, wL_cons, wX_tup, wX_lst, wX_imm, wX_b, wX_call, wX_callN, wX_callI, wX_isi, wX_and, wX_or, wX_not, wX_if, wB_tb, wB_tru, wB_not, wB_and, wB_or, wB_yes, wP_no, wP_part, wX_sl, wS_nil, wS_pass, wS_break, wS_cont, wS_no, wS_seq, wS_drop, wS_ret, wS_retN, wS_if, wS_set, wS_asg, wS_par, wS_for, wT_name, wTs_nil, wTs_cons, wT_tup, wIt_seq, wIt_seqI, wIt_range1, wIt_range2, wIt_enum, wIt_zip, wX_lc', gt_z, gt_s, st_z, st_s, inn_z, inn_s, asB_b, asT_b, asI_i, asQ_l, asQ_t, wIf_t, wIf_f, wG_run, wI_run, wS_dput, wX_dpop, wX_dappend, asD_d, asL_l, wX_append, wX_popAt, wX_pop, wX_extend, wS_lput, wX_sortset, wX_lrange, wX_sortitems, wX_disp, wPs_nil, wPs_cons, wX_din, add_ii, add_tt, add_ll, sub_ii, mod_ii, div_ii, pow_ii, mul_ii, mul_ti, mul_li, lt_ii, le_ii, gt_ii, ge_ii, eq_dd, ne_dd, isN_dd, notN_dd, isB_dd, isNB_dd, ix_l, ix_t, wAt_0, wAt_1, wAt_2, wAt_3, in_t, in_l, len_l, len_t, int_i, list_l, list_t, tuple_l, tuple_t, max2_ii, min2_ii, sl_t, sl_l, eqv_ii, eqv_bb, eqv_ss, eqv_l0, eqv_t0, okD_int, okD_bool, okD_none, okD_l0, okD_own, okD_keeper, okD_foe, okD_move, okD_slip, okD_how, List.length_cons, List.length_nil, Nat.reduceAdd, Nat.reduceLeDiff, Nat.reduceEqDiff, true_and, and_true, and_self, ev0_1, ev0_2, ev0_3, ev0_4, imm_int, imm_bool, imm_str, imm_tup, imms_nil, imms_cons, Bool.and_true, Bool.true_and, List.nil_append, List.cons_append, Int.reduceLT, Int.reduceLE, Int.reducePow, Int.reduceNeg, Nat.reducePow, Nat.reduceLT, Int.reduceToNat, Int.reduceAdd, Int.reduceSub, natAbs10, or_true, true_or, Bool.not_true, Bool.not_false, decide_true, decide_false, atL2, List.replicate_succ, List.replicate_zero, Nat.reduceSub, wipe_nil, wipe_cons, back_nil, back_cons, List.getD_cons_zero, List.getD_cons_succ, List.set_cons_zero, List.set_cons_succ, sorted_l, add_ss, int_b, isascii_s, isdigit_s, split_ss, join_sl, part_ss, str_i, wX_fmt, wIt_enumK, wX_sortsetT, add1_ll, mul1_li, ltT_22, upper_s, lyx, hT]
        refine r3 ?_
        simp only [wX_C, wX_N, wX_bin, wX_binN, wL_nil, wL_cons, wX_tup, wX_lst, wX_imm, wX_b, wX_call, wX_callN, wX_callI, wX_isi, wX_and, wX_or, wX_not, wX_if, wB_tb, wB_tru, wB_not, wB_and, wB_or, wB_yes, wP_no, wP_part, wX_sl, wS_nil, wS_pass, wS_break, wS_cont, wS_no, wS_seq, wS_drop, wS_ret, wS_retN, wS_if, wS_set, wS_asg, wS_par, wS_for, wT_name, wTs_nil, wTs_cons, wT_tup, wIt_seq, wIt_seqI, wIt_range1, wIt_range2, wIt_enum, wIt_zip, wX_lc', gt_z, gt_s, st_z, st_s, inn_z, inn_s, asB_b, asT_b, asI_i, asQ_l, asQ_t, wIf_t, wIf_f, wG_run, wI_run, wS_dput, wX_dpop, wX_dappend, asD_d, asL_l, wX_append, wX_popAt, wX_pop, wX_extend, wS_lput, wX_sortset, wX_lrange, wX_sortitems, wX_disp, wPs_nil, wPs_cons, wX_din, add_ii, add_tt, add_ll, sub_ii, mod_ii, div_ii, pow_ii, mul_ii, mul_ti, mul_li, lt_ii, le_ii, gt_ii, ge_ii, eq_dd, ne_dd, isN_dd, notN_dd, isB_dd, isNB_dd, ix_l, ix_t, wAt_0, wAt_1, wAt_2, wAt_3, in_t, in_l, len_l, len_t, int_i, list_l, list_t, tuple_l, tuple_t, max2_ii, min2_ii, sl_t, sl_l, eqv_ii, eqv_bb, eqv_ss, eqv_l0, eqv_t0, okD_int, okD_bool, okD_none, okD_l0, okD_own, okD_keeper, okD_foe, okD_move, okD_slip, okD_how, List.length_cons, List.length_nil, Nat.reduceAdd, Nat.reduceLeDiff, Nat.reduceEqDiff, true_and, and_true, and_self, ev0_1, ev0_2, ev0_3, ev0_4, imm_int, imm_bool, imm_str, imm_tup, imms_nil, imms_cons, Bool.and_true, Bool.true_and, List.nil_append, List.cons_append, Int.reduceLT, Int.reduceLE, Int.reducePow, Int.reduceNeg, Nat.reducePow, Nat.reduceLT, Int.reduceToNat, Int.reduceAdd, Int.reduceSub, natAbs10, or_true, true_or, Bool.not_true, Bool.not_false, decide_true, decide_false, atL2, List.replicate_succ, List.replicate_zero, Nat.reduceSub, wipe_nil, wipe_cons, back_nil, back_cons, List.getD_cons_zero, List.getD_cons_succ, List.set_cons_zero, List.set_cons_succ, sorted_l, add_ss, int_b, isascii_s, isdigit_s, split_ss, join_sl, part_ss, str_i, wX_fmt, wIt_enumK, wX_sortsetT, add1_ll, mul1_li, ltT_22, upper_s, o3]
      rintro ρ rfl
      refine wS_cut (fun ρ => ∃ (dk : PyData) (xs : List PyData), DkOk dk ∧ xs ≠ [] ∧ xs.length < 100 ∧ (∀ z ∈ xs, ThOk z) ∧ ρ = [none, some dk, some (.int ti), some x, some y, some (.bool b), some T, some (.list xs), a8, a9]) ?_ ?_
      · simp only [wX_C, wX_N, wX_bin, wX_binN, wL_nil, wL_cons, wX_tup, wX_lst, wX_imm, wX_b, wX_call, wX_callN, wX_callI, wX_isi, wX_and, wX_or, wX_not, wX_if, wB_tb, wB_tru, wB_not, wB_and, wB_or, wB_yes, wP_no, wP_part, wX_sl, wS_nil, wS_pass, wS_break, wS_cont, wS_no, wS_seq, wS_drop, wS_ret, wS_retN, wS_if, wS_set, wS_asg, wS_par, wS_for, wT_name, wTs_nil, wTs_cons, wT_tup, wIt_seq, wIt_seqI, wIt_range1, wIt_range2, wIt_enum, wIt_zip, wX_lc', gt_z, gt_s, st_z, st_s, inn_z, inn_s, asB_b, asT_b, asI_i, asQ_l, asQ_t, wIf_t, wIf_f, wG_run, wI_run, wS_dput, wX_dpop, wX_dappend, asD_d, asL_l, wX_append, wX_popAt, wX_pop, wX_extend, wS_lput, wX_sortset, wX_lrange, wX_sortitems, wX_disp, wPs_nil, wPs_cons, wX_din, add_ii, add_tt, add_ll, sub_ii, mod_ii, div_ii, pow_ii, mul_ii, mul_ti, mul_li, lt_ii, le_ii, gt_ii, ge_ii, eq_dd, ne_dd, isN_dd, notN_dd, isB_dd, isNB_dd, ix_l, ix_t, wAt_0, wAt_1, wAt_2, wAt_3, in_t, in_l, len_l, len_t, int_i, list_l, list_t, tuple_l, tuple_t, max2_ii, min2_ii, sl_t, sl_l, eqv_ii, eqv_bb, eqv_ss, eqv_l0, eqv_t0, okD_int, okD_bool, okD_none, okD_l0, okD_own, okD_keeper, okD_foe, okD_move, okD_slip, okD_how, List.length_cons, List.length_nil, Nat.reduceAdd, Nat.reduceLeDiff, Nat.reduceEqDiff, true_and, and_true, and_self, ev0_1, ev0_2, ev0_3, ev0_4, imm_int, imm_bool, imm_str, imm_tup, imms_nil, imms_cons, Bool.and_true, Bool.true_and, List.nil_append, List.cons_append, Int.reduceLT, Int.reduceLE, Int.reducePow, Int.reduceNeg, Nat.reducePow, Nat.reduceLT, Int.reduceToNat, Int.reduceAdd, Int.reduceSub, natAbs10, or_true, true_or, Bool.not_true, Bool.not_false, decide_true, decide_false, atL2, List.replicate_succ, List.replicate_zero, Nat.reduceSub, wipe_nil, wipe_cons, back_nil, back_cons, List.getD_cons_zero, List.getD_cons_succ, List.set_cons_zero, List.set_cons_succ, sorted_l, add_ss, int_b, isascii_s, isdigit_s, split_ss, join_sl, part_ss, str_i, wX_fmt, wIt_enumK, wX_sortsetT, add1_ll, mul1_li, ltT_22, upper_s, wX_neg, hx.imm]
        refine leaf_ok hdk hx fun r dk hr hdk => ⟨by simp, by simp, dk, _, hdk, ?_, ?_, ?_, rfl⟩
        · simp
        · simp
        · intro z hz
          simp only [List.flatten_cons, List.flatten_nil, List.mem_append, List.mem_cons, List.not_mem_nil, or_false, or_assoc] at hz
          rcases hz with rfl | rfl | rfl | rfl | rfl | rfl | rfl | rfl | rfl | rfl | rfl | rfl | rfl | rfl | rfl | rfl | rfl | rfl | rfl | rfl | rfl | rfl | rfl
          · exact .inl hx.th
          · exact .inl hx.th
          · exact .inl hx.th
          · exact .inl hx.th
          · exact hr
          · exact hr
          · exact hr
          · exact .inl (.of Fine.int (by decide) su_m1 (by decide))
          · exact .inl .bool
          · exact .inl .bool
          · exact .inl (.str strOk_of (by decide))
          · exact .inl (.str strOk_of (by decide))
          · exact .inl (.str strOk_of (by decide))
          · exact .inl (.str strOk_of (by decide))
          · exact .inl .none
          · exact .inl .t0
          · exact .inl .l0
          · exact .inr rfl
          · exact .inl hx.th1
          · exact .inl hx.thL
          · exact .inl NumOk.any.th1
          · exact .inl (.str strOk_of (by decide))
          · exact .inl (.of Fine.int (by decide) su_mb (by decide))
      clear hdk dk
      rintro ρ ⟨dk, xs, hdk, hn, hl, hxs, rfl⟩
      refine wS_cut (fun ρ => ∃ (dk z : PyData), DkOk dk ∧ ThOk z ∧ ρ = [none, some dk, some (.int ti), some x, some y, some (.bool b), some T, some (.list xs), some z, a9]) ?_ ?_
      · (try simp only [wX_C, wX_N, wX_bin, wX_binN, wL_nil, wL_cons, wX_tup, wX_lst, wX_imm, wX_b, wX_call, wX_callN, wX_callI, wX_isi, wX_and, wX_or, wX_not, wX_if, wB_tb, wB_tru, wB_not, wB_and, wB_or, wB_yes, wP_no, wP_part, wX_sl, wS_nil, wS_pass, wS_break, wS_cont, wS_no, wS_seq, wS_drop, wS_ret, wS_retN, wS_if, wS_set, wS_asg, wS_par, wS_for, wT_name, wTs_nil, wTs_cons, wT_tup, wIt_seq, wIt_seqI, wIt_range1, wIt_range2, wIt_enum, wIt_zip, wX_lc', gt_z, gt_s, st_z, st_s, inn_z, inn_s, asB_b, asT_b, asI_i, asQ_l, asQ_t, wIf_t, wIf_f, wG_run, wI_run, wS_dput, wX_dpop, wX_dappend, asD_d, asL_l, wX_append, wX_popAt, wX_pop, wX_extend, wS_lput, wX_sortset, wX_lrange, wX_sortitems, wX_disp, wPs_nil, wPs_cons, wX_din, add_ii, add_tt, add_ll, sub_ii, mod_ii, div_ii, pow_ii, mul_ii, mul_ti, mul_li, lt_ii, le_ii, gt_ii, ge_ii, eq_dd, ne_dd, isN_dd, notN_dd, isB_dd, isNB_dd, ix_l, ix_t, wAt_0, wAt_1, wAt_2, wAt_3, in_t, in_l, len_l, len_t, int_i, list_l, list_t, tuple_l, tuple_t, max2_ii, min2_ii, sl_t, sl_l, eqv_ii, eqv_bb, eqv_ss, eqv_l0, eqv_t0, okD_int, okD_bool, okD_none, okD_l0, okD_own, okD_keeper, okD_foe, okD_move, okD_slip, okD_how, List.length_cons, List.length_nil, Nat.reduceAdd, Nat.reduceLeDiff, Nat.reduceEqDiff, true_and, and_true, and_self, ev0_1, ev0_2, ev0_3, ev0_4, imm_int, imm_bool, imm_str, imm_tup, imms_nil, imms_cons, Bool.and_true, Bool.true_and, List.nil_append, List.cons_append, Int.reduceLT, Int.reduceLE, Int.reducePow, Int.reduceNeg, Nat.reducePow, Nat.reduceLT, Int.reduceToNat, Int.reduceAdd, Int.reduceSub, natAbs10, or_true, true_or, Bool.not_true, Bool.not_false, decide_true, decide_false, atL2, List.replicate_succ, List.replicate_zero, Nat.reduceSub, wipe_nil, wipe_cons, back_nil, back_cons, List.getD_cons_zero, List.getD_cons_succ, List.set_cons_zero, List.set_cons_succ, sorted_l, add_ss, int_b, isascii_s, isdigit_s, split_ss, join_sl, part_ss, str_i, wX_fmt, wIt_enumK, wX_sortsetT, add1_ll, mul1_li, ltT_22, upper_s])
        refine pickA_ok hdk hn (by omega) fun z hz dk hdk => ?_
        (try simp only [wX_C, wX_N, wX_bin, wX_binN, wL_nil, wL_cons, wX_tup, wX_lst, wX_imm, wX_b, wX_call, wX_callN, wX_callI, wX_isi, wX_and, wX_or, wX_not, wX_if, wB_tb, wB_tru, wB_not, wB_and, wB_or, wB_yes, wP_no, wP_part, wX_sl, wS_nil, wS_pass, wS_break, wS_cont, wS_no, wS_seq, wS_drop, wS_ret, wS_retN, wS_if, wS_set, wS_asg, wS_par, wS_for, wT_name, wTs_nil, wTs_cons, wT_tup, wIt_seq, wIt_seqI, wIt_range1, wIt_range2, wIt_enum, wIt_zip, wX_lc', gt_z, gt_s, st_z, st_s, inn_z, inn_s, asB_b, asT_b, asI_i, asQ_l, asQ_t, wIf_t, wIf_f, wG_run, wI_run, wS_dput, wX_dpop, wX_dappend, asD_d, asL_l, wX_append, wX_popAt, wX_pop, wX_extend, wS_lput, wX_sortset, wX_lrange, wX_sortitems, wX_disp, wPs_nil, wPs_cons, wX_din, add_ii, add_tt, add_ll, sub_ii, mod_ii, div_ii, pow_ii, mul_ii, mul_ti, mul_li, lt_ii, le_ii, gt_ii, ge_ii, eq_dd, ne_dd, isN_dd, notN_dd, isB_dd, isNB_dd, ix_l, ix_t, wAt_0, wAt_1, wAt_2, wAt_3, in_t, in_l, len_l, len_t, int_i, list_l, list_t, tuple_l, tuple_t, max2_ii, min2_ii, sl_t, sl_l, eqv_ii, eqv_bb, eqv_ss, eqv_l0, eqv_t0, okD_int, okD_bool, okD_none, okD_l0, okD_own, okD_keeper, okD_foe, okD_move, okD_slip, okD_how, List.length_cons, List.length_nil, Nat.reduceAdd, Nat.reduceLeDiff, Nat.reduceEqDiff, true_and, and_true, and_self, ev0_1, ev0_2, ev0_3, ev0_4, imm_int, imm_bool, imm_str, imm_tup, imms_nil, imms_cons, Bool.and_true, Bool.true_and, List.nil_append, List.cons_append, Int.reduceLT, Int.reduceLE, Int.reducePow, Int.reduceNeg, Nat.reducePow, Nat.reduceLT, Int.reduceToNat, Int.reduceAdd, Int.reduceSub, natAbs10, or_true, true_or, Bool.not_true, Bool.not_false, decide_true, decide_false, atL2, List.replicate_succ, List.replicate_zero, Nat.reduceSub, wipe_nil, wipe_cons, back_nil, back_cons, List.getD_cons_zero, List.getD_cons_succ, List.set_cons_zero, List.set_cons_succ, sorted_l, add_ss, int_b, isascii_s, isdigit_s, split_ss, join_sl, part_ss, str_i, wX_fmt, wIt_enumK, wX_sortsetT, add1_ll, mul1_li, ltT_22, upper_s])
        exact ⟨dk, z, hdk, hxs z hz, rfl⟩
      clear hdk dk
      rintro ρ ⟨dk, z, hdk, hz, rfl⟩
      obtain ⟨sz, oz, rz⟩ := rT hz
      refine wS_cut (fun ρ => ρ = [none, some dk, some (.int ti), some x, some y, some (.bool b), some T, some (.list xs), some z, some (.str sz)]) ?_ ?_
      · (try simp only [wX_C, wX_N, wX_bin, wX_binN, wL_nil, wL_cons, wX_tup, wX_lst, wX_imm, wX_b, wX_call, wX_callN, wX_callI, wX_isi, wX_and, wX_or, wX_not, wX_if, wB_tb, wB_tru, wB_not, wB_and, wB_or, wB_yes, wP_no, wP_part, wX_sl, wS_nil, wS_pass, wS_break, wS_cont, wS_no, wS_seq, wS_drop, wS_ret, wS_retN, wS_if, wS_set, wS_asg, wS_par, wS_for, wT_name, wTs_nil, wTs_cons, wT_tup, wIt_seq, wIt_seqI, wIt_range1, wIt_range2, wIt_enum, wIt_zip, wX_lc', gt_z, gt_s, st_z, st_s, inn_z, inn_s, asB_b, asT_b, asI_i, asQ_l, asQ_t, wIf_t, wIf_f, wG_run, wI_run, wS_dput, wX_dpop, wX_dappend, asD_d, asL_l, wX_append, wX_popAt, wX_pop, wX_extend, wS_lput, wX_sortset, wX_lrange, wX_sortitems, wX_disp, wPs_nil, wPs_cons, wX_din, add_ii, add_tt, add_ll, sub_ii, mod_ii, div_ii, pow_ii, mul_ii, mul_ti, mul_li, lt_ii, le_ii, gt_ii, ge_ii, eq_dd, ne_dd, isN_dd, notN_dd, isB_dd, isNB_dd, ix_l, ix_t, wAt_0, wAt_1, wAt_2, wAt_3, in_t, in_l, len_l, len_t, int_i, list_l, list_t, tuple_l, tuple_t, max2_ii, min2_ii, sl_t, sl_l, eqv_ii, eqv_bb, eqv_ss, eqv_l0, eqv_t0, okD_int, okD_bool, okD_none, okD_l0, okD_own, okD_keeper, okD_foe, okD_move, okD_slip, okD_how, List.length_cons, List.length_nil, Nat.reduceAdd, Nat.reduceLeDiff, Nat.reduceEqDiff, true_and, and_true, and_self, ev0_1, ev0_2, ev0_3, ev0_4, imm_int, imm_bool, imm_str, imm_tup, imms_nil, imms_cons, Bool.and_true, Bool.true_and, List.nil_append, List.cons_append, Int.reduceLT, Int.reduceLE, Int.reducePow, Int.reduceNeg, Nat.reducePow, Nat.reduceLT, Int.reduceToNat, Int.reduceAdd, Int.reduceSub, natAbs10, or_true, true_or, Bool.not_true, Bool.not_false, decide_true, decide_false, atL2, List.replicate_succ, List.replicate_zero, Nat.reduceSub, wipe_nil, wipe_cons, back_nil, back_cons, List.getD_cons_zero, List.getD_cons_succ, List.set_cons_zero, List.set_cons_succ, sorted_l, add_ss, int_b, isascii_s, isdigit_s, split_ss, join_sl, part_ss, str_i, wX_fmt, wIt_enumK, wX_sortsetT, add1_ll, mul1_li, ltT_22, upper_s])
        refine rz ?_
        (try simp only [wX_C, wX_N, wX_bin, wX_binN, wL_nil, wL_cons, wX_tup, wX_lst, wX_imm, wX_b, wX_call, wX_callN, wX_callI, wX_isi, wX_and, wX_or, wX_not, wX_if, wB_tb, wB_tru, wB_not, wB_and, wB_or, wB_yes, wP_no, wP_part, wX_sl, wS_nil, wS_pass, wS_break, wS_cont, wS_no, wS_seq, wS_drop, wS_ret, wS_retN, wS_if, wS_set, wS_asg, wS_par, wS_for, wT_name, wTs_nil, wTs_cons, wT_tup, wIt_seq, wIt_seqI, wIt_range1, wIt_range2, wIt_enum, wIt_zip, wX_lc', gt_z, gt_s, st_z, st_s, inn_z, inn_s, asB_b, asT_b, asI_i, asQ_l, asQ_t, wIf_t, wIf_f, wG_run, wI_run, wS_dput, wX_dpop, wX_dappend, asD_d, asL_l, wX_append, wX_popAt, wX_pop, wX_extend, wS_lput, wX_sortset, wX_lrange, wX_sortitems, wX_disp, wPs_nil, wPs_cons, wX_din, add_ii, add_tt, add_ll, sub_ii, mod_ii, div_ii, pow_ii, mul_ii, mul_ti, mul_li, lt_ii, le_ii, gt_ii, ge_ii, eq_dd, ne_dd, isN_dd, notN_dd, isB_dd, isNB_dd, ix_l, ix_t, wAt_0, wAt_1, wAt_2, wAt_3, in_t, in_l, len_l, len_t, int_i, list_l, list_t, tuple_l, tuple_t, max2_ii, min2_ii, sl_t, sl_l, eqv_ii, eqv_bb, eqv_ss, eqv_l0, eqv_t0, okD_int, okD_bool, okD_none, okD_l0, okD_own, okD_keeper, okD_foe, okD_move, okD_slip, okD_how, List.length_cons, List.length_nil, Nat.reduceAdd, Nat.reduceLeDiff, Nat.reduceEqDiff, true_and, and_true, and_self, ev0_1, ev0_2, ev0_3, ev0_4, imm_int, imm_bool, imm_str, imm_tup, imms_nil, imms_cons, Bool.and_true, Bool.true_and, List.nil_append, List.cons_append, Int.reduceLT, Int.reduceLE, Int.reducePow, Int.reduceNeg, Nat.reducePow, Nat.reduceLT, Int.reduceToNat, Int.reduceAdd, Int.reduceSub, natAbs10, or_true, true_or, Bool.not_true, Bool.not_false, decide_true, decide_false, atL2, List.replicate_succ, List.replicate_zero, Nat.reduceSub, wipe_nil, wipe_cons, back_nil, back_cons, List.getD_cons_zero, List.getD_cons_succ, List.set_cons_zero, List.set_cons_succ, sorted_l, add_ss, int_b, isascii_s, isdigit_s, split_ss, join_sl, part_ss, str_i, wX_fmt, wIt_enumK, wX_sortsetT, add1_ll, mul1_li, ltT_22, upper_s])
      rintro ρ rfl
      refine wS_cut (fun ρ => ρ = [none, some dk, some (.int ti), some x, some y, some (.bool b), some (.tuple [.bool (isNum z), .bool (isNum z)]), some (.list xs), some z, some (.str sz)]) ?_ ?_
      · (try simp only [wX_C, wX_N, wX_bin, wX_binN, wL_nil, wL_cons, wX_tup, wX_lst, wX_imm, wX_b, wX_call, wX_callN, wX_callI, wX_isi, wX_and, wX_or, wX_not, wX_if, wB_tb, wB_tru, wB_not, wB_and, wB_or, wB_yes, wP_no, wP_part, wX_sl, wS_nil, wS_pass, wS_break, wS_cont, wS_no, wS_seq, wS_drop, wS_ret, wS_retN, wS_if, wS_set, wS_asg, wS_par, wS_for, wT_name, wTs_nil, wTs_cons, wT_tup, wIt_seq, wIt_seqI, wIt_range1, wIt_range2, wIt_enum, wIt_zip, wX_lc', gt_z, gt_s, st_z, st_s, inn_z, inn_s, asB_b, asT_b, asI_i, asQ_l, asQ_t, wIf_t, wIf_f, wG_run, wI_run, wS_dput, wX_dpop, wX_dappend, asD_d, asL_l, wX_append, wX_popAt, wX_pop, wX_extend, wS_lput, wX_sortset, wX_lrange, wX_sortitems, wX_disp, wPs_nil, wPs_cons, wX_din, add_ii, add_tt, add_ll, sub_ii, mod_ii, div_ii, pow_ii, mul_ii, mul_ti, mul_li, lt_ii, le_ii, gt_ii, ge_ii, eq_dd, ne_dd, isN_dd, notN_dd, isB_dd, isNB_dd, ix_l, ix_t, wAt_0, wAt_1, wAt_2, wAt_3, in_t, in_l, len_l, len_t, int_i, list_l, list_t, tuple_l, tuple_t, max2_ii, min2_ii, sl_t, sl_l, eqv_ii, eqv_bb, eqv_ss, eqv_l0, eqv_t0, okD_int, okD_bool, okD_none, okD_l0, okD_own, okD_keeper, okD_foe, okD_move, okD_slip, okD_how, List.length_cons, List.length_nil, Nat.reduceAdd, Nat.reduceLeDiff, Nat.reduceEqDiff, true_and, and_true, and_self, ev0_1, ev0_2, ev0_3, ev0_4, imm_int, imm_bool, imm_str, imm_tup, imms_nil, imms_cons, Bool.and_true, Bool.true_and, List.nil_append, List.cons_append, Int.reduceLT, Int.reduceLE, Int.reducePow, Int.reduceNeg, Nat.reducePow, Nat.reduceLT, Int.reduceToNat, Int.reduceAdd, Int.reduceSub, natAbs10, or_true, true_or, Bool.not_true, Bool.not_false, decide_true, decide_false, atL2, List.replicate_succ, List.replicate_zero, Nat.reduceSub, wipe_nil, wipe_cons, back_nil, back_cons, List.getD_cons_zero, List.getD_cons_succ, List.set_cons_zero, List.set_cons_succ, sorted_l, add_ss, int_b, isascii_s, isdigit_s, split_ss, join_sl, part_ss, str_i, wX_fmt, wIt_enumK, wX_sortsetT, add1_ll, mul1_li, ltT_22, upper_s])
        refine is_number_ok hz ?_
        (try simp only [wX_C, wX_N, wX_bin, wX_binN, wL_nil, wL_cons, wX_tup, wX_lst, wX_imm, wX_b, wX_call, wX_callN, wX_callI, wX_isi, wX_and, wX_or, wX_not, wX_if, wB_tb, wB_tru, wB_not, wB_and, wB_or, wB_yes, wP_no, wP_part, wX_sl, wS_nil, wS_pass, wS_break, wS_cont, wS_no, wS_seq, wS_drop, wS_ret, wS_retN, wS_if, wS_set, wS_asg, wS_par, wS_for, wT_name, wTs_nil, wTs_cons, wT_tup, wIt_seq, wIt_seqI, wIt_range1, wIt_range2, wIt_enum, wIt_zip, wX_lc', gt_z, gt_s, st_z, st_s, inn_z, inn_s, asB_b, asT_b, asI_i, asQ_l, asQ_t, wIf_t, wIf_f, wG_run, wI_run, wS_dput, wX_dpop, wX_dappend, asD_d, asL_l, wX_append, wX_popAt, wX_pop, wX_extend, wS_lput, wX_sortset, wX_lrange, wX_sortitems, wX_disp, wPs_nil, wPs_cons, wX_din, add_ii, add_tt, add_ll, sub_ii, mod_ii, div_ii, pow_ii, mul_ii, mul_ti, mul_li, lt_ii, le_ii, gt_ii, ge_ii, eq_dd, ne_dd, isN_dd, notN_dd, isB_dd, isNB_dd, ix_l, ix_t, wAt_0, wAt_1, wAt_2, wAt_3, in_t, in_l, len_l, len_t, int_i, list_l, list_t, tuple_l, tuple_t, max2_ii, min2_ii, sl_t, sl_l, eqv_ii, eqv_bb, eqv_ss, eqv_l0, eqv_t0, okD_int, okD_bool, okD_none, okD_l0, okD_own, okD_keeper, okD_foe, okD_move, okD_slip, okD_how, List.length_cons, List.length_nil, Nat.reduceAdd, Nat.reduceLeDiff, Nat.reduceEqDiff, true_and, and_true, and_self, ev0_1, ev0_2, ev0_3, ev0_4, imm_int, imm_bool, imm_str, imm_tup, imms_nil, imms_cons, Bool.and_true, Bool.true_and, List.nil_append, List.cons_append, Int.reduceLT, Int.reduceLE, Int.reducePow, Int.reduceNeg, Nat.reducePow, Nat.reduceLT, Int.reduceToNat, Int.reduceAdd, Int.reduceSub, natAbs10, or_true, true_or, Bool.not_true, Bool.not_false, decide_true, decide_false, atL2, List.replicate_succ, List.replicate_zero, Nat.reduceSub, wipe_nil, wipe_cons, back_nil, back_cons, List.getD_cons_zero, List.getD_cons_succ, List.set_cons_zero, List.set_cons_succ, sorted_l, add_ss, int_b, isascii_s, isdigit_s, split_ss, join_sl, part_ss, str_i, wX_fmt, wIt_enumK, wX_sortsetT, add1_ll, mul1_li, ltT_22, upper_s])
        refine is_number_ok hz ?_
        (try simp only [wX_C, wX_N, wX_bin, wX_binN, wL_nil, wL_cons, wX_tup, wX_lst, wX_imm, wX_b, wX_call, wX_callN, wX_callI, wX_isi, wX_and, wX_or, wX_not, wX_if, wB_tb, wB_tru, wB_not, wB_and, wB_or, wB_yes, wP_no, wP_part, wX_sl, wS_nil, wS_pass, wS_break, wS_cont, wS_no, wS_seq, wS_drop, wS_ret, wS_retN, wS_if, wS_set, wS_asg, wS_par, wS_for, wT_name, wTs_nil, wTs_cons, wT_tup, wIt_seq, wIt_seqI, wIt_range1, wIt_range2, wIt_enum, wIt_zip, wX_lc', gt_z, gt_s, st_z, st_s, inn_z, inn_s, asB_b, asT_b, asI_i, asQ_l, asQ_t, wIf_t, wIf_f, wG_run, wI_run, wS_dput, wX_dpop, wX_dappend, asD_d, asL_l, wX_append, wX_popAt, wX_pop, wX_extend, wS_lput, wX_sortset, wX_lrange, wX_sortitems, wX_disp, wPs_nil, wPs_cons, wX_din, add_ii, add_tt, add_ll, sub_ii, mod_ii, div_ii, pow_ii, mul_ii, mul_ti, mul_li, lt_ii, le_ii, gt_ii, ge_ii, eq_dd, ne_dd, isN_dd, notN_dd, isB_dd, isNB_dd, ix_l, ix_t, wAt_0, wAt_1, wAt_2, wAt_3, in_t, in_l, len_l, len_t, int_i, list_l, list_t, tuple_l, tuple_t, max2_ii, min2_ii, sl_t, sl_l, eqv_ii, eqv_bb, eqv_ss, eqv_l0, eqv_t0, okD_int, okD_bool, okD_none, okD_l0, okD_own, okD_keeper, okD_foe, okD_move, okD_slip, okD_how, List.length_cons, List.length_nil, Nat.reduceAdd, Nat.reduceLeDiff, Nat.reduceEqDiff, true_and, and_true, and_self, ev0_1, ev0_2, ev0_3, ev0_4, imm_int, imm_bool, imm_str, imm_tup, imms_nil, imms_cons, Bool.and_true, Bool.true_and, List.nil_append, List.cons_append, Int.reduceLT, Int.reduceLE, Int.reducePow, Int.reduceNeg, Nat.reducePow, Nat.reduceLT, Int.reduceToNat, Int.reduceAdd, Int.reduceSub, natAbs10, or_true, true_or, Bool.not_true, Bool.not_false, decide_true, decide_false, atL2, List.replicate_succ, List.replicate_zero, Nat.reduceSub, wipe_nil, wipe_cons, back_nil, back_cons, List.getD_cons_zero, List.getD_cons_succ, List.set_cons_zero, List.set_cons_succ, sorted_l, add_ss, int_b, isascii_s, isdigit_s, split_ss, join_sl, part_ss, str_i, wX_fmt, wIt_enumK, wX_sortsetT, add1_ll, mul1_li, ltT_22, upper_s])
      rintro ρ rfl
      obtain ⟨s2, o2, r2⟩ := rB2 (isNum z) (isNum z)
      (try simp only [wX_C, wX_N, wX_bin, wX_binN, wL_nil, wL_cons, wX_tup, wX_lst, wX_imm, wX_b, wX_call, wX_callN, wX_callI, wX_isi, wX_and, wX_or, wX_not, wX_if, wB_tb, wB_tru, wB_not, wB_and, wB_or, wB_yes, wP_no, wP_part, wX_sl, wS_nil, wS_pass, wS_break, wS_cont, wS_no, wS_seq, wS_drop, wS_ret, wS_retN, wS_if, wS_set, wS_asg, wS_par, wS_for, wT_name, wTs_nil, wTs_cons, wT_tup, wIt_seq, wIt_seqI, wIt_range1, wIt_range2, wIt_enum, wIt_zip, wX_lc', gt_z, gt_s, st_z, st_s, inn_z, inn_s, asB_b, asT_b, asI_i, asQ_l, asQ_t, wIf_t, wIf_f, wG_run, wI_run, wS_dput, wX_dpop, wX_dappend, asD_d, asL_l, wX_append, wX_popAt, wX_pop, wX_extend, wS_lput, wX_sortset, wX_lrange, wX_sortitems, wX_disp, wPs_nil, wPs_cons, wX_din, add_ii, add_tt, add_ll, sub_ii, mod_ii, div_ii, pow_ii, mul_ii, mul_ti, mul_li, lt_ii, le_ii, gt_ii, ge_ii, eq_dd, ne_dd, isN_dd, notN_dd, isB_dd, isNB_dd, ix_l, ix_t, wAt_0, wAt_1, wAt_2, wAt_3, in_t, in_l, len_l, len_t, int_i, list_l, list_t, tuple_l, tuple_t, max2_ii, min2_ii, sl_t, sl_l, eqv_ii, eqv_bb, eqv_ss, eqv_l0, eqv_t0, okD_int, okD_bool, okD_none, okD_l0, okD_own, okD_keeper, okD_foe, okD_move, okD_slip, okD_how, List.length_cons, List.length_nil, Nat.reduceAdd, Nat.reduceLeDiff, Nat.reduceEqDiff, true_and, and_true, and_self, ev0_1, ev0_2, ev0_3, ev0_4, imm_int, imm_bool, imm_str, imm_tup, imms_nil, imms_cons, Bool.and_true, Bool.true_and, List.nil_append, List.cons_append, Int.reduceLT, Int.reduceLE, Int.reducePow, Int.reduceNeg, Nat.reducePow, Nat.reduceLT, Int.reduceToNat, Int.reduceAdd, Int.reduceSub, natAbs10, or_true, true_or, Bool.not_true, Bool.not_false, decide_true, decide_false, atL2, List.replicate_succ, List.replicate_zero, Nat.reduceSub, wipe_nil, wipe_cons, back_nil, back_cons, List.getD_cons_zero, List.getD_cons_succ, List.set_cons_zero, List.set_cons_succ, sorted_l, add_ss, int_b, isascii_s, isdigit_s, split_ss, join_sl, part_ss, str_i, wX_fmt, wIt_enumK, wX_sortsetT, add1_ll, mul1_li, ltT_22, upper_s])
      refine r2 ?_
      (try simp only [wX_C, wX_N, wX_bin, wX_binN, wL_nil, wL_cons, wX_tup, wX_lst, wX_imm, wX_b, wX_call, wX_callN, wX_callI, wX_isi, wX_and, wX_or, wX_not, wX_if, wB_tb, wB_tru, wB_not, wB_and, wB_or, wB_yes, wP_no, wP_part, wX_sl, wS_nil, wS_pass, wS_break, wS_cont, wS_no, wS_seq, wS_drop, wS_ret, wS_retN, wS_if, wS_set, wS_asg, wS_par, wS_for, wT_name, wTs_nil, wTs_cons, wT_tup, wIt_seq, wIt_seqI, wIt_range1, wIt_range2, wIt_enum, wIt_zip, wX_lc', gt_z, gt_s, st_z, st_s, inn_z, inn_s, asB_b, asT_b, asI_i, asQ_l, asQ_t, wIf_t, wIf_f, wG_run, wI_run, wS_dput, wX_dpop, wX_dappend, asD_d, asL_l, wX_append, wX_popAt, wX_pop, wX_extend, wS_lput, wX_sortset, wX_lrange, wX_sortitems, wX_disp, wPs_nil, wPs_cons, wX_din, add_ii, add_tt, add_ll, sub_ii, mod_ii, div_ii, pow_ii, mul_ii, mul_ti, mul_li, lt_ii, le_ii, gt_ii, ge_ii, eq_dd, ne_dd, isN_dd, notN_dd, isB_dd, isNB_dd, ix_l, ix_t, wAt_0, wAt_1, wAt_2, wAt_3, in_t, in_l, len_l, len_t, int_i, list_l, list_t, tuple_l, tuple_t, max2_ii, min2_ii, sl_t, sl_l, eqv_ii, eqv_bb, eqv_ss, eqv_l0, eqv_t0, okD_int, okD_bool, okD_none, okD_l0, okD_own, okD_keeper, okD_foe, okD_move, okD_slip, okD_how, List.length_cons, List.length_nil, Nat.reduceAdd, Nat.reduceLeDiff, Nat.reduceEqDiff, true_and, and_true, and_self, ev0_1, ev0_2, ev0_3, ev0_4, imm_int, imm_bool, imm_str, imm_tup, imms_nil, imms_cons, Bool.and_true, Bool.true_and, List.nil_append, List.cons_append, Int.reduceLT, Int.reduceLE, Int.reducePow, Int.reduceNeg, Nat.reducePow, Nat.reduceLT, Int.reduceToNat, Int.reduceAdd, Int.reduceSub, natAbs10, or_true, true_or, Bool.not_true, Bool.not_false, decide_true, decide_false, atL2, List.replicate_succ, List.replicate_zero, Nat.reduceSub, wipe_nil, wipe_cons, back_nil, back_cons, List.getD_cons_zero, List.getD_cons_succ, List.set_cons_zero, List.set_cons_succ, sorted_l, add_ss, int_b, isascii_s, isdigit_s, split_ss, join_sl, part_ss, str_i, wX_fmt, wIt_enumK, wX_sortsetT, add1_ll, mul1_li, ltT_22, upper_s])
      refine law_number_ok hz ?_
      (try simp only [wX_C, wX_N, wX_bin, wX_binN, wL_nil, wL_cons, wX_tup, wX_lst, wX_imm, wX_b, wX_call, wX_callN, wX_callI, wX_isi, wX_and, wX_or, wX_not, wX_if, wB_tb, wB_tru, wB_not, wB_and, wB_or, wB_yes, wP_no, wP_part, wX_sl, wS_nil, wS_pass, wS_break, wS_cont, wS_no, wS_seq, wS_drop, wS_ret, wS_retN, wS_if, wS_set, wS_asg, wS_par, wS_for, wT_name, wTs_nil, wTs_cons, wT_tup, wIt_seq, wIt_seqI, wIt_range1, wIt_range2, wIt_enum, wIt_zip, wX_lc', gt_z, gt_s, st_z, st_s, inn_z, inn_s, asB_b, asT_b, asI_i, asQ_l, asQ_t, wIf_t, wIf_f, wG_run, wI_run, wS_dput, wX_dpop, wX_dappend, asD_d, asL_l, wX_append, wX_popAt, wX_pop, wX_extend, wS_lput, wX_sortset, wX_lrange, wX_sortitems, wX_disp, wPs_nil, wPs_cons, wX_din, add_ii, add_tt, add_ll, sub_ii, mod_ii, div_ii, pow_ii, mul_ii, mul_ti, mul_li, lt_ii, le_ii, gt_ii, ge_ii, eq_dd, ne_dd, isN_dd, notN_dd, isB_dd, isNB_dd, ix_l, ix_t, wAt_0, wAt_1, wAt_2, wAt_3, in_t, in_l, len_l, len_t, int_i, list_l, list_t, tuple_l, tuple_t, max2_ii, min2_ii, sl_t, sl_l, eqv_ii, eqv_bb, eqv_ss, eqv_l0, eqv_t0, okD_int, okD_bool, okD_none, okD_l0, okD_own, okD_keeper, okD_foe, okD_move, okD_slip, okD_how, List.length_cons, List.length_nil, Nat.reduceAdd, Nat.reduceLeDiff, Nat.reduceEqDiff, true_and, and_true, and_self, ev0_1, ev0_2, ev0_3, ev0_4, imm_int, imm_bool, imm_str, imm_tup, imms_nil, imms_cons, Bool.and_true, Bool.true_and, List.nil_append, List.cons_append, Int.reduceLT, Int.reduceLE, Int.reducePow, Int.reduceNeg, Nat.reducePow, Nat.reduceLT, Int.reduceToNat, Int.reduceAdd, Int.reduceSub, natAbs10, or_true, true_or, Bool.not_true, Bool.not_false, decide_true, decide_false, atL2, List.replicate_succ, List.replicate_zero, Nat.reduceSub, wipe_nil, wipe_cons, back_nil, back_cons, List.getD_cons_zero, List.getD_cons_succ, List.set_cons_zero, List.set_cons_succ, sorted_l, add_ss, int_b, isascii_s, isdigit_s, split_ss, join_sl, part_ss, str_i, wX_fmt, wIt_enumK, wX_sortsetT, add1_ll, mul1_li, ltT_22, upper_s])
      show wG gReprV [.tuple [.bool (isNum z), .bool (isNum z)]] _
      refine r2 ?_
      simp only [wX_C, wX_N, wX_bin, wX_binN, wL_nil, wL_cons, wX_tup, wX_lst, wX_imm, wX_b, wX_call, wX_callN, wX_callI, wX_isi, wX_and, wX_or, wX_not, wX_if, wB_tb, wB_tru, wB_not, wB_and, wB_or, wB_yes, wP_no, wP_part, wX_sl, wS_nil, wS_pass, wS_break, wS_cont, wS_no, wS_seq, wS_drop, wS_ret, wS_retN, wS_if, wS_set, wS_asg, wS_par, wS_for, wT_name, wTs_nil, wTs_cons, wT_tup, wIt_seq, wIt_seqI, wIt_range1, wIt_range2, wIt_enum, wIt_zip, wX_lc', gt_z, gt_s, st_z, st_s, inn_z, inn_s, asB_b, asT_b, asI_i, asQ_l, asQ_t, wIf_t, wIf_f, wG_run, wI_run, wS_dput, wX_dpop, wX_dappend, asD_d, asL_l, wX_append, wX_popAt, wX_pop, wX_extend, wS_lput, wX_sortset, wX_lrange, wX_sortitems, wX_disp, wPs_nil, wPs_cons, wX_din, add_ii, add_tt, add_ll, sub_ii, mod_ii, div_ii, pow_ii, mul_ii, mul_ti, mul_li, lt_ii, le_ii, gt_ii, ge_ii, eq_dd, ne_dd, isN_dd, notN_dd, isB_dd, isNB_dd, ix_l, ix_t, wAt_0, wAt_1, wAt_2, wAt_3, in_t, in_l, len_l, len_t, int_i, list_l, list_t, tuple_l, tuple_t, max2_ii, min2_ii, sl_t, sl_l, eqv_ii, eqv_bb, eqv_ss, eqv_l0, eqv_t0, okD_int, okD_bool, okD_none, okD_l0, okD_own, okD_keeper, okD_foe, okD_move, okD_slip, okD_how, List.length_cons, List.length_nil, Nat.reduceAdd, Nat.reduceLeDiff, Nat.reduceEqDiff, true_and, and_true, and_self, ev0_1, ev0_2, ev0_3, ev0_4, imm_int, imm_bool, imm_str, imm_tup, imms_nil, imms_cons, Bool.and_true, Bool.true_and, List.nil_append, List.cons_append, Int.reduceLT, Int.reduceLE, Int.reducePow, Int.reduceNeg, Nat.reducePow, Nat.reduceLT, Int.reduceToNat, Int.reduceAdd, Int.reduceSub, natAbs10, or_true, true_or, Bool.not_true, Bool.not_false, decide_true, decide_false, atL2, List.replicate_succ, List.replicate_zero, Nat.reduceSub, wipe_nil, wipe_cons, back_nil, back_cons, List.getD_cons_zero, List.getD_cons_succ, List.set_cons_zero, List.set_cons_succ, sorted_l, add_ss, int_b, isascii_s, isdigit_s, split_ss, join_sl, part_ss, str_i, wX_fmt, wIt_enumK, wX_sortsetT, add1_ll, mul1_li, ltT_22, upper_s, o2]
      refine rz ?_
      simp only [wX_C, wX_N, wX_bin, wX_binN, wL_nil, wL_cons, wX_tup, wX_lst, wX_imm, wX_b, wX_call, wX_callN, wX_callI, wX_isi, wX_and, wX_or, wX_not, wX_if, wB_tb, wB_tru, wB_not, wB_and, wB_or, wB_yes, wP_no, wP_part, wX_sl, wS_nil, wS_pass, wS_break, wS_cont, wS_no, wS_seq, wS_drop, wS_ret, wS_retN, wS_if, wS_set, wS_asg, wS_par, wS_for, wT_name, wTs_nil, wTs_cons, wT_tup, wIt_seq, wIt_seqI, wIt_range1, wIt_range2, wIt_enum, wIt_zip, wX_lc', gt_z, gt_s, st_z, st_s, inn_z, inn_s, asB_b, asT_b, asI_i, asQ_l, asQ_t, wIf_t, wIf_f, wG_run, wI_run, wS_dput, wX_dpop, wX_dappend, asD_d, asL_l, wX_append, wX_popAt, wX_pop, wX_extend, wS_lput, wX_sortset, wX_lrange, wX_sortitems, wX_disp, wPs_nil, wPs_cons, wX_din, add_ii, add_tt, add_ll, sub_ii, mod_ii, div_ii, pow_ii, mul_ii, mul_ti, mul_li, lt_ii, le_ii, gt_ii, ge_ii, eq_dd, ne_dd, isN_dd, notN_dd, isB_dd, isNB_dd, ix_l, ix_t, wAt_0, wAt_1, wAt_2, wAt_3, in_t, in_l, len_l, len_t, int_i, list_l, list_t, tuple_l, tuple_t, max2_ii, min2_ii, sl_t, sl_l, eqv_ii, eqv_bb, eqv_ss, eqv_l0, eqv_t0, okD_int, okD_bool, okD_none, okD_l0, okD_own, okD_keeper, okD_foe, okD_move, okD_slip, okD_how, List.length_cons, List.length_nil, Nat.reduceAdd, Nat.reduceLeDiff, Nat.reduceEqDiff, true_and, and_true, and_self, ev0_1, ev0_2, ev0_3, ev0_4, imm_int, imm_bool, imm_str, imm_tup, imms_nil, imms_cons, Bool.and_true, Bool.true_and, List.nil_append, List.cons_append, Int.reduceLT, Int.reduceLE, Int.reducePow, Int.reduceNeg, Nat.reducePow, Nat.reduceLT, Int.reduceToNat, Int.reduceAdd, Int.reduceSub, natAbs10, or_true, true_or, Bool.not_true, Bool.not_false, decide_true, decide_false, atL2, List.replicate_succ, List.replicate_zero, Nat.reduceSub, wipe_nil, wipe_cons, back_nil, back_cons, List.getD_cons_zero, List.getD_cons_succ, List.set_cons_zero, List.set_cons_succ, sorted_l, add_ss, int_b, isascii_s, isdigit_s, split_ss, join_sl, part_ss, str_i, wX_fmt, wIt_enumK, wX_sortsetT, add1_ll, mul1_li, ltT_22, upper_s, oz]
      exact ⟨_, _, _, _, _, _, _, _, _, hdk, rfl⟩
    · have n0 : NumOk (.int 0) := .int 0 (by decide) (by decide)
      have e1 : lessD (.int 0) (.int 0) = false := by decide +kernel
      have e2 : lessD (.str "any") (.str "any") = false := by decide +kernel
      have e3 : lessD (.str "ever") (.str "ever") = false := by decide +kernel
      have e4 : (PyData.tuple [.bool false, .bool false, .bool false]).shown = "(False, False, False)" := by decide +kernel
      (try simp only [wX_C, wX_N, wX_bin, wX_binN, wL_nil, wL_cons, wX_tup, wX_lst, wX_imm, wX_b, wX_call, wX_callN, wX_callI, wX_isi, wX_and, wX_or, wX_not, wX_if, wB_tb, wB_tru, wB_not, wB_and, wB_or, wB_yes, wP_no, wP_part, wX_sl, wS_nil, wS_pass, wS_break, wS_cont, wS_no, wS_seq, wS_drop, wS_ret, wS_retN, wS_if, wS_set, wS_asg, wS_par, wS_for, wT_name, wTs_nil, wTs_cons, wT_tup, wIt_seq, wIt_seqI, wIt_range1, wIt_range2, wIt_enum, wIt_zip, wX_lc', gt_z, gt_s, st_z, st_s, inn_z, inn_s, asB_b, asT_b, asI_i, asQ_l, asQ_t, wIf_t, wIf_f, wG_run, wI_run, wS_dput, wX_dpop, wX_dappend, asD_d, asL_l, wX_append, wX_popAt, wX_pop, wX_extend, wS_lput, wX_sortset, wX_lrange, wX_sortitems, wX_disp, wPs_nil, wPs_cons, wX_din, add_ii, add_tt, add_ll, sub_ii, mod_ii, div_ii, pow_ii, mul_ii, mul_ti, mul_li, lt_ii, le_ii, gt_ii, ge_ii, eq_dd, ne_dd, isN_dd, notN_dd, isB_dd, isNB_dd, ix_l, ix_t, wAt_0, wAt_1, wAt_2, wAt_3, in_t, in_l, len_l, len_t, int_i, list_l, list_t, tuple_l, tuple_t, max2_ii, min2_ii, sl_t, sl_l, eqv_ii, eqv_bb, eqv_ss, eqv_l0, eqv_t0, okD_int, okD_bool, okD_none, okD_l0, okD_own, okD_keeper, okD_foe, okD_move, okD_slip, okD_how, List.length_cons, List.length_nil, Nat.reduceAdd, Nat.reduceLeDiff, Nat.reduceEqDiff, true_and, and_true, and_self, ev0_1, ev0_2, ev0_3, ev0_4, imm_int, imm_bool, imm_str, imm_tup, imms_nil, imms_cons, Bool.and_true, Bool.true_and, List.nil_append, List.cons_append, Int.reduceLT, Int.reduceLE, Int.reducePow, Int.reduceNeg, Nat.reducePow, Nat.reduceLT, Int.reduceToNat, Int.reduceAdd, Int.reduceSub, natAbs10, or_true, true_or, Bool.not_true, Bool.not_false, decide_true, decide_false, atL2, List.replicate_succ, List.replicate_zero, Nat.reduceSub, wipe_nil, wipe_cons, back_nil, back_cons, List.getD_cons_zero, List.getD_cons_succ, List.set_cons_zero, List.set_cons_succ, sorted_l, add_ss, int_b, isascii_s, isdigit_s, split_ss, join_sl, part_ss, str_i, wX_fmt, wIt_enumK, wX_sortsetT, add1_ll, mul1_li, ltT_22, upper_s])
      refine is_less_ok n0 n0 ?_
      (try simp only [wX_C, wX_N, wX_bin, wX_binN, wL_nil, wL_cons, wX_tup, wX_lst, wX_imm, wX_b, wX_call, wX_callN, wX_callI, wX_isi, wX_and, wX_or, wX_not, wX_if, wB_tb, wB_tru, wB_not, wB_and, wB_or, wB_yes, wP_no, wP_part, wX_sl, wS_nil, wS_pass, wS_break, wS_cont, wS_no, wS_seq, wS_drop, wS_ret, wS_retN, wS_if, wS_set, wS_asg, wS_par, wS_for, wT_name, wTs_nil, wTs_cons, wT_tup, wIt_seq, wIt_seqI, wIt_range1, wIt_range2, wIt_enum, wIt_zip, wX_lc', gt_z, gt_s, st_z, st_s, inn_z, inn_s, asB_b, asT_b, asI_i, asQ_l, asQ_t, wIf_t, wIf_f, wG_run, wI_run, wS_dput, wX_dpop, wX_dappend, asD_d, asL_l, wX_append, wX_popAt, wX_pop, wX_extend, wS_lput, wX_sortset, wX_lrange, wX_sortitems, wX_disp, wPs_nil, wPs_cons, wX_din, add_ii, add_tt, add_ll, sub_ii, mod_ii, div_ii, pow_ii, mul_ii, mul_ti, mul_li, lt_ii, le_ii, gt_ii, ge_ii, eq_dd, ne_dd, isN_dd, notN_dd, isB_dd, isNB_dd, ix_l, ix_t, wAt_0, wAt_1, wAt_2, wAt_3, in_t, in_l, len_l, len_t, int_i, list_l, list_t, tuple_l, tuple_t, max2_ii, min2_ii, sl_t, sl_l, eqv_ii, eqv_bb, eqv_ss, eqv_l0, eqv_t0, okD_int, okD_bool, okD_none, okD_l0, okD_own, okD_keeper, okD_foe, okD_move, okD_slip, okD_how, List.length_cons, List.length_nil, Nat.reduceAdd, Nat.reduceLeDiff, Nat.reduceEqDiff, true_and, and_true, and_self, ev0_1, ev0_2, ev0_3, ev0_4, imm_int, imm_bool, imm_str, imm_tup, imms_nil, imms_cons, Bool.and_true, Bool.true_and, List.nil_append, List.cons_append, Int.reduceLT, Int.reduceLE, Int.reducePow, Int.reduceNeg, Nat.reducePow, Nat.reduceLT, Int.reduceToNat, Int.reduceAdd, Int.reduceSub, natAbs10, or_true, true_or, Bool.not_true, Bool.not_false, decide_true, decide_false, atL2, List.replicate_succ, List.replicate_zero, Nat.reduceSub, wipe_nil, wipe_cons, back_nil, back_cons, List.getD_cons_zero, List.getD_cons_succ, List.set_cons_zero, List.set_cons_succ, sorted_l, add_ss, int_b, isascii_s, isdigit_s, split_ss, join_sl, part_ss, str_i, wX_fmt, wIt_enumK, wX_sortsetT, add1_ll, mul1_li, ltT_22, upper_s])
      refine is_less_ok .any .any ?_
      (try simp only [wX_C, wX_N, wX_bin, wX_binN, wL_nil, wL_cons, wX_tup, wX_lst, wX_imm, wX_b, wX_call, wX_callN, wX_callI, wX_isi, wX_and, wX_or, wX_not, wX_if, wB_tb, wB_tru, wB_not, wB_and, wB_or, wB_yes, wP_no, wP_part, wX_sl, wS_nil, wS_pass, wS_break, wS_cont, wS_no, wS_seq, wS_drop, wS_ret, wS_retN, wS_if, wS_set, wS_asg, wS_par, wS_for, wT_name, wTs_nil, wTs_cons, wT_tup, wIt_seq, wIt_seqI, wIt_range1, wIt_range2, wIt_enum, wIt_zip, wX_lc', gt_z, gt_s, st_z, st_s, inn_z, inn_s, asB_b, asT_b, asI_i, asQ_l, asQ_t, wIf_t, wIf_f, wG_run, wI_run, wS_dput, wX_dpop, wX_dappend, asD_d, asL_l, wX_append, wX_popAt, wX_pop, wX_extend, wS_lput, wX_sortset, wX_lrange, wX_sortitems, wX_disp, wPs_nil, wPs_cons, wX_din, add_ii, add_tt, add_ll, sub_ii, mod_ii, div_ii, pow_ii, mul_ii, mul_ti, mul_li, lt_ii, le_ii, gt_ii, ge_ii, eq_dd, ne_dd, isN_dd, notN_dd, isB_dd, isNB_dd, ix_l, ix_t, wAt_0, wAt_1, wAt_2, wAt_3, in_t, in_l, len_l, len_t, int_i, list_l, list_t, tuple_l, tuple_t, max2_ii, min2_ii, sl_t, sl_l, eqv_ii, eqv_bb, eqv_ss, eqv_l0, eqv_t0, okD_int, okD_bool, okD_none, okD_l0, okD_own, okD_keeper, okD_foe, okD_move, okD_slip, okD_how, List.length_cons, List.length_nil, Nat.reduceAdd, Nat.reduceLeDiff, Nat.reduceEqDiff, true_and, and_true, and_self, ev0_1, ev0_2, ev0_3, ev0_4, imm_int, imm_bool, imm_str, imm_tup, imms_nil, imms_cons, Bool.and_true, Bool.true_and, List.nil_append, List.cons_append, Int.reduceLT, Int.reduceLE, Int.reducePow, Int.reduceNeg, Nat.reducePow, Nat.reduceLT, Int.reduceToNat, Int.reduceAdd, Int.reduceSub, natAbs10, or_true, true_or, Bool.not_true, Bool.not_false, decide_true, decide_false, atL2, List.replicate_succ, List.replicate_zero, Nat.reduceSub, wipe_nil, wipe_cons, back_nil, back_cons, List.getD_cons_zero, List.getD_cons_succ, List.set_cons_zero, List.set_cons_succ, sorted_l, add_ss, int_b, isascii_s, isdigit_s, split_ss, join_sl, part_ss, str_i, wX_fmt, wIt_enumK, wX_sortsetT, add1_ll, mul1_li, ltT_22, upper_s])
      refine is_less_ok .ever .ever ?_
      simp only [wX_C, wX_N, wX_bin, wX_binN, wL_nil, wL_cons, wX_tup, wX_lst, wX_imm, wX_b, wX_call, wX_callN, wX_callI, wX_isi, wX_and, wX_or, wX_not, wX_if, wB_tb, wB_tru, wB_not, wB_and, wB_or, wB_yes, wP_no, wP_part, wX_sl, wS_nil, wS_pass, wS_break, wS_cont, wS_no, wS_seq, wS_drop, wS_ret, wS_retN, wS_if, wS_set, wS_asg, wS_par, wS_for, wT_name, wTs_nil, wTs_cons, wT_tup, wIt_seq, wIt_seqI, wIt_range1, wIt_range2, wIt_enum, wIt_zip, wX_lc', gt_z, gt_s, st_z, st_s, inn_z, inn_s, asB_b, asT_b, asI_i, asQ_l, asQ_t, wIf_t, wIf_f, wG_run, wI_run, wS_dput, wX_dpop, wX_dappend, asD_d, asL_l, wX_append, wX_popAt, wX_pop, wX_extend, wS_lput, wX_sortset, wX_lrange, wX_sortitems, wX_disp, wPs_nil, wPs_cons, wX_din, add_ii, add_tt, add_ll, sub_ii, mod_ii, div_ii, pow_ii, mul_ii, mul_ti, mul_li, lt_ii, le_ii, gt_ii, ge_ii, eq_dd, ne_dd, isN_dd, notN_dd, isB_dd, isNB_dd, ix_l, ix_t, wAt_0, wAt_1, wAt_2, wAt_3, in_t, in_l, len_l, len_t, int_i, list_l, list_t, tuple_l, tuple_t, max2_ii, min2_ii, sl_t, sl_l, eqv_ii, eqv_bb, eqv_ss, eqv_l0, eqv_t0, okD_int, okD_bool, okD_none, okD_l0, okD_own, okD_keeper, okD_foe, okD_move, okD_slip, okD_how, List.length_cons, List.length_nil, Nat.reduceAdd, Nat.reduceLeDiff, Nat.reduceEqDiff, true_and, and_true, and_self, ev0_1, ev0_2, ev0_3, ev0_4, imm_int, imm_bool, imm_str, imm_tup, imms_nil, imms_cons, Bool.and_true, Bool.true_and, List.nil_append, List.cons_append, Int.reduceLT, Int.reduceLE, Int.reducePow, Int.reduceNeg, Nat.reducePow, Nat.reduceLT, Int.reduceToNat, Int.reduceAdd, Int.reduceSub, natAbs10, or_true, true_or, Bool.not_true, Bool.not_false, decide_true, decide_false, atL2, List.replicate_succ, List.replicate_zero, Nat.reduceSub, wipe_nil, wipe_cons, back_nil, back_cons, List.getD_cons_zero, List.getD_cons_succ, List.set_cons_zero, List.set_cons_succ, sorted_l, add_ss, int_b, isascii_s, isdigit_s, split_ss, join_sl, part_ss, str_i, wX_fmt, wIt_enumK, wX_sortsetT, add1_ll, mul1_li, ltT_22, upper_s, e1, e2, e3]
      refine reprB3 ?_
      rw [e4]
      simp only [wX_C, wX_N, wX_bin, wX_binN, wL_nil, wL_cons, wX_tup, wX_lst, wX_imm, wX_b, wX_call, wX_callN, wX_callI, wX_isi, wX_and, wX_or, wX_not, wX_if, wB_tb, wB_tru, wB_not, wB_and, wB_or, wB_yes, wP_no, wP_part, wX_sl, wS_nil, wS_pass, wS_break, wS_cont, wS_no, wS_seq, wS_drop, wS_ret, wS_retN, wS_if, wS_set, wS_asg, wS_par, wS_for, wT_name, wTs_nil, wTs_cons, wT_tup, wIt_seq, wIt_seqI, wIt_range1, wIt_range2, wIt_enum, wIt_zip, wX_lc', gt_z, gt_s, st_z, st_s, inn_z, inn_s, asB_b, asT_b, asI_i, asQ_l, asQ_t, wIf_t, wIf_f, wG_run, wI_run, wS_dput, wX_dpop, wX_dappend, asD_d, asL_l, wX_append, wX_popAt, wX_pop, wX_extend, wS_lput, wX_sortset, wX_lrange, wX_sortitems, wX_disp, wPs_nil, wPs_cons, wX_din, add_ii, add_tt, add_ll, sub_ii, mod_ii, div_ii, pow_ii, mul_ii, mul_ti, mul_li, lt_ii, le_ii, gt_ii, ge_ii, eq_dd, ne_dd, isN_dd, notN_dd, isB_dd, isNB_dd, ix_l, ix_t, wAt_0, wAt_1, wAt_2, wAt_3, in_t, in_l, len_l, len_t, int_i, list_l, list_t, tuple_l, tuple_t, max2_ii, min2_ii, sl_t, sl_l, eqv_ii, eqv_bb, eqv_ss, eqv_l0, eqv_t0, okD_int, okD_bool, okD_none, okD_l0, okD_own, okD_keeper, okD_foe, okD_move, okD_slip, okD_how, List.length_cons, List.length_nil, Nat.reduceAdd, Nat.reduceLeDiff, Nat.reduceEqDiff, true_and, and_true, and_self, ev0_1, ev0_2, ev0_3, ev0_4, imm_int, imm_bool, imm_str, imm_tup, imms_nil, imms_cons, Bool.and_true, Bool.true_and, List.nil_append, List.cons_append, Int.reduceLT, Int.reduceLE, Int.reducePow, Int.reduceNeg, Nat.reducePow, Nat.reduceLT, Int.reduceToNat, Int.reduceAdd, Int.reduceSub, natAbs10, or_true, true_or, Bool.not_true, Bool.not_false, decide_true, decide_false, atL2, List.replicate_succ, List.replicate_zero, Nat.reduceSub, wipe_nil, wipe_cons, back_nil, back_cons, List.getD_cons_zero, List.getD_cons_succ, List.set_cons_zero, List.set_cons_succ, sorted_l, add_ss, int_b, isascii_s, isdigit_s, split_ss, join_sl, part_ss, str_i, wX_fmt, wIt_enumK, wX_sortsetT, add1_ll, mul1_li, ltT_22, upper_s]
      exact okD_str strOk_of
  unfold wS at key
  cases hq : g_law ((List.replicate 10 none).set 1 (some d)) <;> rw [hq] at key
  · exact key.elim
  · rw [key]
  · exact key.elim
  · exact key.elim
  · exact key.elim
end My
set_option maxRecDepth 100000 in
set_option maxHeartbeats 8000000 in
open PySem PySem.W PyProof.Rows FP in
theorem PySem.Challenge.cw_howmanyslips_k26_numbers_among_any_value_holds : PySem.Challenge.rw_howmanyslips_k26_numbers_among_any_value.Holds := by
  w_on; o_law; k_head; (case hw => w_witness2)
  k_fill
  refine FP.walk_go (l := PySem.Challenge.rw_howmanyslips_k26_numbers_among_any_value) (n := 63) (k := 5) (x := "script") (sp := fun K => FP.spDk K My.m_law) rfl (by rw [sizeLine_eq]; decide) rfl ⟨rfl, by decide, by decide⟩ (fun w h Y => PySem.W.kIn_of Y) ?F (FP.law_prom My.math)
  case F =>
    intro w mg fa h KX G hmg
    refine' FP.law_fn hmg ?DL KX G (fun _ _ _ _ _ _ _ _ => .of_eq rfl) (My.all_on KX G ?D_is_integer_from ?D_rank ?D__law_deck ?D__law_draw ?D__law_is_int ?D__law_rank ?D_is_number ?D__law_pick ?D__law_is_number ?D_require_number ?D__law_leaf ?D__law_any_number ?D_is_less ?D_law ?z_bool ?z_int ?z_isinstance ?z_len ?z_list ?z_max ?z_range ?z_repr ?z_str ?z_tuple)
    (case DL => (refine' FP.DefAt.mk' ?a ?l ?c ?k; (case a => k_is); (case l => k_is); (case c => k_is); (case k => k_is)))
    (case D_is_integer_from => (refine' FP.DefAt.mk' ?a ?l ?c ?k; (case a => k_is); (case l => k_is); (case c => k_is); (case k => k_is)))
    (case D_rank => (refine' FP.DefAt.mk' ?a ?l ?c ?k; (case a => k_is); (case l => k_is); (case c => k_is); (case k => k_is)))
    (case D__law_deck => (refine' FP.DefAt.mk' ?a ?l ?c ?k; (case a => k_is); (case l => k_is); (case c => k_is); (case k => k_is)))
    (case D__law_draw => (refine' FP.DefAt.mk' ?a ?l ?c ?k; (case a => k_is); (case l => k_is); (case c => k_is); (case k => k_is)))
    (case D__law_is_int => (refine' FP.DefAt.mk' ?a ?l ?c ?k; (case a => k_is); (case l => k_is); (case c => k_is); (case k => k_is)))
    (case D__law_rank => (refine' FP.DefAt.mk' ?a ?l ?c ?k; (case a => k_is); (case l => k_is); (case c => k_is); (case k => k_is)))
    (case D_is_number => (refine' FP.DefAt.mk' ?a ?l ?c ?k; (case a => k_is); (case l => k_is); (case c => k_is); (case k => k_is)))
    (case D__law_pick => (refine' FP.DefAt.mk' ?a ?l ?c ?k; (case a => k_is); (case l => k_is); (case c => k_is); (case k => k_is)))
    (case D__law_is_number => (refine' FP.DefAt.mk' ?a ?l ?c ?k; (case a => k_is); (case l => k_is); (case c => k_is); (case k => k_is)))
    (case D_require_number => (refine' FP.DefAt.mk' ?a ?l ?c ?k; (case a => k_is); (case l => k_is); (case c => k_is); (case k => k_is)))
    (case D__law_leaf => (refine' FP.DefAt.mk' ?a ?l ?c ?k; (case a => k_is); (case l => k_is); (case c => k_is); (case k => k_is)))
    (case D__law_any_number => (refine' FP.DefAt.mk' ?a ?l ?c ?k; (case a => k_is); (case l => k_is); (case c => k_is); (case k => k_is)))
    (case D_is_less => (refine' FP.DefAt.mk' ?a ?l ?c ?k; (case a => k_is); (case l => k_is); (case c => k_is); (case k => k_is)))
    (case D_law => (refine' FP.DefAt.mk' ?a ?l ?c ?k; (case a => k_is); (case l => k_is); (case c => k_is); (case k => k_is)))
    (case z_bool => k_is)
    (case z_int => k_is)
    (case z_isinstance => k_is)
    (case z_len => k_is)
    (case z_list => k_is)
    (case z_max => k_is)
    (case z_range => k_is)
    (case z_repr => k_is)
    (case z_str => k_is)
    (case z_tuple => k_is)
