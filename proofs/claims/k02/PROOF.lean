import PyProof.Rows.All
import Wide.All
import OpenK.AllK
import Wide.FinOn
import PyProof.EqAt
import PyProof.EqKinds
import PyProof.TupleCall
import KE.SortData
import KE.KDictPairs
import HandS.Base
import HandS.Call
import HandS.List
import HandS.Comp
import HandS.Ends
import HandS.Dict
import HandS.Iter
import HandS.Text
import HandS.Exc
import HandS.TryOnly
import HandS.ExcOwn
import HandS.IsInst
import HandS.Small
import HandS.Wide
import HandS.Words
import HandS.WordsList
import HandS.WordsDict
import HandS.WordsExc
import HandS.Codes
import PySem.Challenge.RW_shutnames_k02_exchanges_one_after_anothe
set_option Elab.async false
set_option linter.all false
set_option maxRecDepth 100000
set_option maxHeartbeats 4000000
/-! Own words over the hand layer: what stays, data that never changes, sorting of data, dicts of tuples of pairs. -/
namespace Pf
open PySem PySem.Spec PyProof.Rows L2
/-! ### what stays -/
def But (a : Addr) (H H' : Hp) : Prop := ∀ b o, b ≠ a → H b = some o → H' b = some o
theorem But.refl (a : Addr) (H : Hp) : But a H H := fun _ _ _ h => h
theorem But.trans {a : Addr} {H H1 H2 : Hp} (x : But a H H1) (y : But a H1 H2) : But a H H2 := fun b o n h => y b o n (x b o n h)
theorem But.of {a : Addr} {H H' : Hp} (s : Same H H') : But a H H' := fun b o _ h => s b o h
theorem But.new {a : Addr} {H H' : Hp} (x : But a H H') {p : Addr} {o : HO} (n : H' p = none) : But a H (upd H' p o) := fun b u nb h => by
  have e := x b u nb h
  rw [upd_ne (ne_of_none e n)]
  exact e
theorem But.put {a : Addr} {H H' : Hp} {o : HO} (x : But a H H') : But a H (upd H' a o) := fun b u nb h => by
  rw [upd_ne nb]
  exact x b u nb h
theorem same_new {H : Hp} {p : Addr} {o : HO} (h : H p = none) : Same H (upd H p o) := fun b x e => by
  rw [upd_ne (ne_of_none e h)]
  exact e
theorem Same.new {H H' : Hp} (s : Same H H') {p : Addr} {o : HO} (n : H' p = none) : Same H (upd H' p o) := s.trans (same_new n)
/-- an object that H does not know may change -/
theorem Same.mut {H H' : Hp} (s : Same H H') {p : Addr} {o : HO} (n : H p = none) : Same H (upd H' p o) := fun b u h => by
  rw [upd_ne (ne_of_none h n)]
  exact s b u h
theorem But.free {a : Addr} {H H' : Hp} (x : But a H H') {l : Addr} (n : l ≠ a) (h : H' l = none) : H l = none := by
  cases q : H l with
  | none => rfl
  | some o =>
    rw [x l o n q] at h
    cases h
/-- tuples stay -/
def Tups (H H' : Hp) : Prop := ∀ b xs, Rd H b (.tup xs) → Rd H' b (.tup xs)
theorem Tups.of {H H' : Hp} (s : Same H H') : Tups H H' := fun b xs h => by
  rcases h with h | ⟨o, h⟩
  · exact .inl (s _ _ h)
  · exact .inr ⟨o, s _ _ h⟩
theorem Tups.but {a : Addr} {H H' : Hp} {ys : List V} (s : But a H H') (ha : H a = some (.lst ys)) : Tups H H' := fun b xs h => by
  have nb : b ≠ a := by
    rintro rfl
    rcases h with h | ⟨o, h⟩
    · rw [ha] at h; cases h
    · rw [ha] at h; cases h
  rcases h with h | ⟨o, h⟩
  · exact .inl (s _ _ nb h)
  · exact .inr ⟨o, s _ _ nb h⟩
theorem Tups.trans {H H1 H2 : Hp} (x : Tups H H1) (y : Tups H1 H2) : Tups H H2 := fun b xs h => y b xs (x b xs h)
section
variable {K : PySem.W.Frag} {H H' : Hp}
theorem Tups.sq {a : Addr} {xs : List V} (t : Tups H H') (h : SqT K H a xs) : SqT K H' a xs := by
  rcases h with h | h
  · exact .inl (t _ _ h)
  · exact .inr h
theorem But.sq {a b : Addr} {xs : List V} (s : But a H H') (n : b ≠ a) (h : SqL K H b xs) : SqL K H' b xs := by
  rcases h with (h | ⟨o, h⟩) | h
  · exact .inl (.inl (s _ _ n h))
  · exact .inl (.inr ⟨o, s _ _ n h⟩)
  · exact .inr h
theorem sqL {a : Addr} {xs : List V} (h : H a = some (.lst xs)) : SqL K H a xs := .inl (.inl h)
theorem sqT {a : Addr} {xs : List V} (h : H a = some (.tup xs)) : SqT K H a xs := .inl (.inl h)
/-! ### pairs, lists side by side -/
theorem pd_get {α β : Type} {R : α → β → Prop} : ∀ {xs : List α} {ys : List β} {i : Nat} {y : β}, Paired R xs ys → ys[i]? = some y → ∃ x, xs[i]? = some x ∧ R x y
  | _, _, _, _, .nil, e => by simp at e
  | _, _, 0, _, .cons r _, e => by simp at e; subst e; exact ⟨_, rfl, r⟩
  | _, _, i + 1, y, .cons _ t, e => by
    obtain ⟨x, h1, h2⟩ := pd_get (i := i) (y := y) t (by simpa using e)
    exact ⟨x, by simpa using h1, h2⟩
theorem pd_get' {α β : Type} {R : α → β → Prop} : ∀ {xs : List α} {ys : List β} {i : Nat} {x : α}, Paired R xs ys → xs[i]? = some x → ∃ y, ys[i]? = some y ∧ R x y
  | _, _, _, _, .nil, e => by simp at e
  | _, _, 0, _, .cons r _, e => by simp at e; subst e; exact ⟨_, rfl, r⟩
  | _, _, i + 1, x, .cons _ t, e => by
    obtain ⟨y, h1, h2⟩ := pd_get' (i := i) (x := x) t (by simpa using e)
    exact ⟨y, by simpa using h1, h2⟩
theorem pd_mono {α β : Type} {R S : α → β → Prop} (f : ∀ a b, R a b → S a b) : ∀ {xs : List α} {ys : List β}, Paired R xs ys → Paired S xs ys
  | _, _, .nil => .nil
  | _, _, .cons r t => .cons (f _ _ r) (pd_mono f t)
theorem pd_app {α β : Type} {R : α → β → Prop} : ∀ {xs : List α} {ys : List β} {xs' : List α} {ys' : List β}, Paired R xs ys → Paired R xs' ys' → Paired R (xs ++ xs') (ys ++ ys')
  | _, _, _, _, .nil, h => h
  | _, _, _, _, .cons r t, h => .cons r (pd_app t h)
theorem pd_snoc {α β : Type} {R : α → β → Prop} {xs : List α} {ys : List β} {x : α} {y : β} (h : Paired R xs ys) (r : R x y) : Paired R (xs ++ [x]) (ys ++ [y]) := pd_app h (.cons r .nil)
theorem pd_len {α β : Type} {R : α → β → Prop} : ∀ {xs : List α} {ys : List β}, Paired R xs ys → xs.length = ys.length
  | _, _, .nil => rfl
  | _, _, .cons _ t => congrArg (· + 1) (pd_len t)
theorem pd_map {α β γ : Type} {R : α → γ → Prop} (f : β → γ) : ∀ {xs : List α} {ys : List β}, Paired (fun x y => R x (f y)) xs ys → Paired R xs (ys.map f)
  | _, _, .nil => .nil
  | _, _, .cons r t => .cons r (pd_map f t)
theorem pd_take {α β : Type} {R : α → β → Prop} : ∀ {xs : List α} {ys : List β} (n : Nat), Paired R xs ys → Paired R (xs.take n) (ys.take n)
  | _, _, 0, _ => .nil
  | _, _, _ + 1, .nil => .nil
  | _, _, n + 1, .cons r t => .cons r (pd_take n t)
theorem pd_drop {α β : Type} {R : α → β → Prop} : ∀ {xs : List α} {ys : List β} (n : Nat), Paired R xs ys → Paired R (xs.drop n) (ys.drop n)
  | _, _, 0, h => h
  | _, _, _ + 1, .nil => .nil
  | _, _, n + 1, .cons _ t => pd_drop n t
theorem all_of {ds : List PyData} {xs : List V} (h : Paired (Dp K H) xs ds) : DpAll K H xs ds := by
  induction h with
  | nil => exact .nil
  | cons r _ ih => exact .cons r ih
/-- a pair of texts -/
def Pr (K : PySem.W.Frag) (H : Hp) (v : V) (p : Str × Str) : Prop := ∃ q, v = .ref q ∧ SqT K H q [.str p.1, .str p.2]
def eP (p : Str × Str) : PyData := .tuple [.str p.1, .str p.2]
theorem Pr.dp {v : V} {p : Str × Str} (h : Pr K H v p) : Dp K H v (eP p) := by
  obtain ⟨q, rfl, s⟩ := h
  exact .tup s (.cons (.str _) (.cons (.str _) .nil))
theorem Pr.stay {v : V} {p : Str × Str} (h : Pr K H v p) (t : Tups H H') : Pr K H' v p := by
  obtain ⟨q, e, s⟩ := h
  exact ⟨q, e, t.sq s⟩
abbrev Prs (K : PySem.W.Frag) (H : Hp) : List V → List (Str × Str) → Prop := Paired (Pr K H)
theorem Prs.stay {vs : List V} {ps : List (Str × Str)} (h : Prs K H vs ps) (t : Tups H H') : Prs K H' vs ps := pd_mono (fun _ _ r => r.stay t) h
theorem Prs.dp {vs : List V} {ps : List (Str × Str)} (h : Prs K H vs ps) : DpAll K H vs (ps.map eP) := all_of (pd_map eP (pd_mono (fun _ _ r => r.dp) h))
/-- a tuple of pairs of texts -/
def Tn (K : PySem.W.Frag) (H : Hp) (v : V) (t : List (Str × Str)) : Prop := ∃ q xs, v = .ref q ∧ SqT K H q xs ∧ Prs K H xs t
def eT (t : List (Str × Str)) : PyData := .tuple (t.map eP)
theorem Tn.dp {v : V} {t : List (Str × Str)} (h : Tn K H v t) : Dp K H v (eT t) := by
  obtain ⟨q, xs, rfl, s, p⟩ := h
  exact .tup s p.dp
theorem Tn.stay {v : V} {t : List (Str × Str)} (h : Tn K H v t) (u : Tups H H') : Tn K H' v t := by
  obtain ⟨q, xs, e, s, p⟩ := h
  exact ⟨q, xs, e, u.sq s, p.stay u⟩
/-- a tuple is none of another class -/
theorem ty_tup {q : Addr} {xs : List V} (h : SqT K H q xs) : TyX K H (.ref q) (.type "tuple") := by
  rcases h with (h | ⟨o, h⟩) | ⟨o, _, _, e, c, _⟩
  · exact .base (.tup h)
  · exact .fTuple h
  · exact .kTuple e c
theorem ty_list {q : Addr} {xs : List V} (h : SqL K H q xs) : TyX K H (.ref q) (.type "list") := by
  rcases h with (h | ⟨o, h⟩) | ⟨o, _, _, e, c, _⟩
  · exact .base (.lst h)
  · exact .base (.frz h)
  · exact .kList e c
/-! ### data that may be compared -/
theorem shaped_iff {d : PyData} : SeqAt.shaped d = true ↔ d.canLay0 = true ∧ d.depth ≤ 64 := by
  unfold SeqAt.shaped
  rw [Bool.and_eq_true, decide_eq_true_iff]
theorem canAll {α : Type} (f : α → PyData) : ∀ {l : List α}, (∀ x ∈ l, (f x).canLay0 = true) → PyData.canLayAll0 (l.map f) = true
  | [], _ => rfl
  | x :: r, h => by
    show ((f x).canLay0 && PyData.canLayAll0 (r.map f)) = true
    rw [h x List.mem_cons_self, canAll f fun y hy => h y (List.mem_cons_of_mem _ hy)]
    rfl
theorem depAll {α : Type} (f : α → PyData) {n : Nat} : ∀ {l : List α}, (∀ x ∈ l, (f x).depth ≤ n) → PyData.depthAll (l.map f) ≤ n
  | [], _ => Nat.zero_le _
  | x :: r, h => by
    show max (f x).depth (PyData.depthAll (r.map f)) ≤ n
    exact Nat.max_le.mpr ⟨h x List.mem_cons_self, depAll f fun y hy => h y (List.mem_cons_of_mem _ hy)⟩
def okP (p : Str × Str) : Prop := PyData.strOk p.1 = true ∧ PyData.strOk p.2 = true
theorem lay_P {p : Str × Str} (h : okP p) : (eP p).canLay0 = true := by
  show (PyData.strOk p.1 && (PyData.strOk p.2 && true)) = true
  rw [h.1, h.2]
  rfl
theorem dep_P (p : Str × Str) : (eP p).depth ≤ 1 := Nat.le_refl 1
theorem shaped_P {p : Str × Str} (h : okP p) : SeqAt.shaped (eP p) = true := shaped_iff.mpr ⟨lay_P h, Nat.le_trans (dep_P p) (by decide)⟩
theorem shaped_T {t : List (Str × Str)} (h : ∀ p ∈ t, okP p) : SeqAt.shaped (eT t) = true :=
  shaped_iff.mpr ⟨canAll eP fun p hp => lay_P (h p hp), Nat.le_trans (Nat.succ_le_succ (depAll eP fun p _ => dep_P p)) (by decide)⟩
theorem shaped_LP {t : List (Str × Str)} (h : ∀ p ∈ t, okP p) : SeqAt.shaped (.list (t.map eP)) = true :=
  shaped_iff.mpr ⟨canAll eP fun p hp => lay_P (h p hp), Nat.le_trans (Nat.succ_le_succ (depAll eP fun p _ => dep_P p)) (by decide)⟩
theorem shaped_LS {t : List Str} (h : ∀ p ∈ t, PyData.strOk p = true) : SeqAt.shaped (.list (t.map .str)) = true :=
  shaped_iff.mpr ⟨canAll .str fun p hp => h p hp, Nat.le_trans (Nat.succ_le_succ (depAll (n := 0) .str fun p _ => Nat.le_refl 0)) (by decide)⟩
theorem shaped_S {x : Str} (h : PyData.strOk x = true) : SeqAt.shaped (.str x) = true := shaped_iff.mpr ⟨h, Nat.zero_le _⟩
end
/-! ### sorting of data at any depth -/
theorem vals_of {α : Type} {P : V → α → Prop} : ∀ {us : List Value} {bs : List α}, PySem.W.EachIs (fun u b => ∃ x, RelV x u ∧ P x b) us bs → ∃ ys, Vals ys us ∧ Paired P ys bs
  | _, _, .nil => ⟨[], .nil, .nil⟩
  | _, _, .cons ⟨x, r, p⟩ t => by
    obtain ⟨ys, a, b⟩ := vals_of t
    exact ⟨x :: ys, .cons r a, .cons p b⟩
theorem each_of {α : Type} {P : V → α → Prop} : ∀ {xs : List V} {us : List Value} {bs : List α}, Vals xs us → Paired P xs bs → PySem.W.EachIs (fun u b => ∃ x, RelV x u ∧ P x b) us bs
  | _, _, _, .nil, .nil => .nil
  | _, _, _, .cons r t, .cons p q => .cons ⟨_, r, p⟩ (each_of t q)
theorem each_map' {α β : Type} {R S : α → β → Prop} (f : ∀ a b, R a b → S a b) : ∀ {as : List α} {bs : List β}, PySem.W.EachIs R as bs → PySem.W.EachIs S as bs
  | _, _, .nil => .nil
  | _, _, .cons r t => .cons (f _ _ r) (each_map' f t)
/-- sorted(xs): xs reads as bs by enc -/
def rSortedG (K : PySem.W.Frag) {β : Type} (enc : β → PyData) : List V → Hp → VK → Prop := fun vs H Q => ∃ (a : Addr) (xs : List V) (bs : List β) (P : V → β → Prop), vs = [V.ref a] ∧ SqL K H a xs ∧ Paired P xs bs ∧ (∀ x b, P x b → Dp K H x (enc b)) ∧
  PySem.W.AllAlike (bs.map enc) ∧ PySem.W.Sortable (bs.map enc) ∧ (∀ b ∈ bs, (enc b).depth ≤ 40) ∧ ∀ (ys : List V) (p : Addr), Paired P ys (bs.mergeSort (PySem.W.dataLe false enc)) → H p = none → Q (.ref p) (upd H p (.lst ys))
section
variable {X : Cx}
theorem cr_sortedG {β : Type} {enc : β → PyData} (hu : X.A.units + 64 < cLine) : CallR X (.builtin "sorted") (rSortedG X.K enc) := by
  intro pins s σ H vs us Q I r h
  obtain ⟨a, xs, bs, P, rfl, hs, hp, hd, hal, hso, hde, q⟩ := h
  obtain ⟨its, rv, hl, hz⟩ := I.list hs
  obtain ⟨u, rfl, ru⟩ := vals1 r
  obtain rfl : u = Value.ref a := ru
  have e := each_of rv hp
  refine PySem.W.sorted_data (bs := bs) (enc := enc) hl.isList e (each_map' (fun u b ⟨x, rx, px⟩ => Dp.reads I _ _ _ (hd x b px) rx) e) hal hso (by rw [← pd_len hp]; exact hz) (fun b hb => by have := hde b hb; omega) fun out hlen ho => ?_
  obtain ⟨ys, vy, py⟩ := vals_of ho
  obtain ⟨c, hc⟩ := PyProof.Rows.sortedAll_at s.heap its out.toArray
  refine ⟨.ref (s.heap.objs.size + 1), upd H (s.heap.objs.size + 1) (.lst ys), I.laid (t' := s.toks) (fun b o e => PyProof.Rows.sortedAll_old e) (Nat.le_succ _) ⟨?_, out, c, vy, hc⟩, rfl, q ys _ py (I.hok.fresh (Nat.le_succ _))⟩
  rw [vy.length, hlen, ← pd_len hp]
  exact hz
/-- text * whole number -/
theorem op_mulS : OpR X (binaryOp .Mult) (fun x y H Q => ∃ (z : Str) (k : Nat), x = .str z ∧ y = .int (k : Int) ∧ 2 ≤ k ∧ k ≤ 1000 ∧ 1 ≤ z.length ∧ z.length ≤ 1000 ∧ (⟨(List.replicate k z.cps).foldl (· ++ ·) #[]⟩ : Str).length ≤ sizeLine ∧ Q (.str ⟨(List.replicate k z.cps).foldl (· ++ ·) #[]⟩) H) := by
  intro pins s σ H x y v u Q I rx ry h
  obtain ⟨z, k, rfl, rfl, h2, h3, h4, h5, h6, q⟩ := h
  obtain ⟨t, rfl⟩ := rx
  obtain ⟨t', rfl⟩ := ry
  have hm : z.length * k ≤ 1000 * 1000 := Nat.mul_le_mul h5 h3
  refine PySem.P.mul_str ?_ ?_ ?_ ?_
  · rw [Bool.or_eq_false_iff, decide_eq_false_iff_not, decide_eq_false_iff_not]
    omega
  · intro _ _ hlt
    have e : ((z.length : Int)) ≤ 1000 := by omega
    have e2 : ((2 : Int) ^ 63 - 1) / (k : Int) ≥ (2 ^ 63 - 1) / 1000 := by
      have hk : (0 : Int) < k := by omega
      rw [ge_iff_le, Int.le_ediv_iff_mul_le hk]
      have : ((2 : Int) ^ 63 - 1) / 1000 * (k : Int) ≤ (2 ^ 63 - 1) / 1000 * 1000 := Int.mul_le_mul_of_nonneg_left (by omega) (by decide)
      refine Int.le_trans this (by decide)
    have e3 : ((2 : Int) ^ 63 - 1) / 1000 ≥ 1000 := by decide
    omega
  · intro _ _
    show decide (z.length * ((k : Int)).toNat > sizeLine) = false
    rw [decide_eq_false_iff_not]
    rw [Int.toNat_natCast]
    have : sizeLine = 16777216 := sizeLine_eq
    omega
  · rw [if_neg (by omega)]
    have e1 : ((k : Int) == 1) = false := by
      rw [beq_eq_false_iff_ne]; omega
    have e2 : (z.length == 0) = false := by
      rw [beq_eq_false_iff_ne]; omega
    rw [e1, e2]
    rw [Int.toNat_natCast]
    exact ⟨h6, .str _, H, I.tok _, ⟨_, rfl⟩, q⟩
/-- tuple(list): a new tuple, known as an object without attributes -/
theorem call_tupleF : CallR X (.type "tuple") (fun xs H Q => ∃ p ys, xs = [.ref p] ∧ SqL X.K H p ys ∧ ∀ l o, H l = none → o.dict = none → Q (.ref l) (upd H l (.frz o (.tup ys)))) := by
  intro pins s σ H xs us Q I r h
  obtain ⟨p, ys, rfl, hq, q⟩ := h
  obtain ⟨u, rfl, rx⟩ := vals1 r
  cases rx
  obtain ⟨its, r', pl, hz⟩ := I.list hq
  have hlen := r'.length
  refine call_tuple_list pl.isList (fun h' kp => ?_) (by simp only [List.size_toArray] <;> omega)
  have I1 : Inv X pins σ H { s with heap := h' } := I.kept (t' := s.toks) kp
  have I2 : Inv X pins σ (upd H h'.objs.size (.frz { cls := .type "tuple", data := .seq its.toArray } (.tup ys))) { s with heap := h'.push { cls := .type "tuple", data := .seq its.toArray } } :=
    I1.laid (t' := s.toks) (fun b o e => Heap.get?_push_of_some _ e) (Nat.le_refl _) (show ObjOk X.prog X.w _ _ _ (.frz _ (.tup ys)) from ⟨Heap.get?_push_size _ rfl, hz, its, r', IsTup.new _ _⟩)
  exact ⟨.ref h'.objs.size, _, I2, rfl, q _ _ (I1.hok.fresh (Nat.le_refl _)) rfl⟩
/-- dict(t), t a tuple of pairs (key, value), known to have no attributes -/
theorem call_dictT (hcalm : X.calm = true) : CallR X (.type "dict") (fun xs H Q => ∃ (a : Addr) (o : Obj) (ps : List Addr) (kvs : List (Key × V)), xs = [.ref a] ∧ H a = some (.frz o (.tup (ps.map V.ref))) ∧ o.dict = none ∧ Paired (fun p kv => SqT X.K H p [kV kv.1, kv.2]) ps kvs ∧
    ∀ p, H p = none → Q (.ref p) (upd H p (.dK (mergeK [] kvs)))) := by
  intro pins s σ H xs us Q I r q
  obtain ⟨a, o, ps, kvs, ex, hq, hdn, hp, q⟩ := q
  subst ex
  obtain ⟨u, eu, rx⟩ := vals1 r
  subst eu
  cases rx
  obtain ⟨hao, hz, its, rv, ht⟩ := I.hok a _ hq
  have ei := refs_at rv
  subst ei
  rw [List.length_map] at hz
  obtain ⟨prs, rel, hl, hpr⟩ := pairs_of I hp
  obtain ⟨o2, ho2, hc2, n, hd2⟩ := ht
  rw [hao] at ho2
  cases ho2
  have key : ∀ (j : Nat) (q : Key × Value), prs[j]? = some q → ∃ (b : Addr) (u : Value), ps[j]? = some b ∧ s.heap.IsTuple b #[u, q.2] ∧ keyIs q.1 u = true := hpr
  let Ts : Nat → Addr := fun j => ps.getD j 0
  have ch : ∀ j : Nat, ∃ uv : Value × Value, ∀ q : Key × Value, prs[j]? = some q → uv.2 = q.2 ∧ ∃ b, ps[j]? = some b ∧ s.heap.IsTuple b #[uv.1, q.2] ∧ keyIs q.1 uv.1 = true := fun j => by
    cases e : prs[j]? with
    | none => exact ⟨(.none, .none), fun q z => nomatch z⟩
    | some q =>
      obtain ⟨b, u, e1, e2, e3⟩ := key j q e
      exact ⟨(u, q.2), fun q' z => by cases z; exact ⟨rfl, b, e1, e2, e3⟩⟩
  obtain ⟨f, hf⟩ := Classical.axiomOfChoice ch
  let uv : List (Value × Value) := (List.range prs.length).map f
  have hul : uv.length = prs.length := by simp [uv]
  have uvat : ∀ (j : Nat) (q : Key × Value), prs[j]? = some q → ∃ u b, uv[j]? = some (u, q.2) ∧ ps[j]? = some b ∧ s.heap.IsTuple b #[u, q.2] ∧ keyIs q.1 u = true := fun j q e => by
    have hj : j < prs.length := (List.getElem?_eq_some_iff.mp e).1
    obtain ⟨e0, b, f1, f2, f3⟩ := hf j q e
    refine ⟨(f j).1, b, ?_, f1, f2, f3⟩
    show ((List.range prs.length).map f)[j]? = _
    rw [List.getElem?_map, List.getElem?_range hj, ← e0]
    rfl
  refine PySem.call_dict_pairs (knd := mixKind X.prog X.w) (kvs := prs) (PySem.PairArg.tuple (prog := X.prog) (w := X.w) a (ps.map Value.ref).toArray Ts uv) (I.ok.hd hcalm) ⟨⟨o, n, hao, hc2, hdn, hd2⟩, ?_, ?_⟩ ⟨hul.symm, ?_⟩ (by rw [hul, hl]; exact hz) fun h' tk hd' k => ?_
  · simp [hul, hl]
  · intro j k v hj
    have hj2 : j < prs.length := by rw [← hul]; exact (List.getElem?_eq_some_iff.mp hj).1
    obtain ⟨u, b, e1, e2, e3, e4⟩ := uvat j _ (List.getElem?_eq_getElem hj2)
    rw [hj] at e1
    cases e1
    have ed : Ts j = b := by
      show ps.getD j 0 = b
      rw [List.getD_eq_getElem?_getD, e2]
      rfl
    refine ⟨?_, .inl (by rw [ed]; exact e3)⟩
    rw [ed]
    simp [e2]
  · intro j key v hj
    have hj : uv[j]? = some (key, v) := hj
    have hj2 : j < prs.length := by rw [← hul]; exact (List.getElem?_eq_some_iff.mp hj).1
    obtain ⟨u, b, e1, e2, e3, e4⟩ := uvat j _ (List.getElem?_eq_getElem hj2)
    rw [hj] at e1
    cases e1
    exact ⟨_, List.getElem?_eq_getElem hj2, e4⟩
  · have hm : (s.heap.objs.size == sysModules) = false := beq_eq_false_iff_ne.mpr (Nat.ne_of_gt I.big)
    have hlen : (mergeK [] kvs).length ≤ sizeLine := by
      refine Nat.le_trans (length_mergeK kvs []) ?_
      rw [List.length_nil, Nat.zero_add, rel.length, hl]
      exact hz
    exact ⟨.ref s.heap.objs.size, upd H s.heap.objs.size (.dK (mergeK [] kvs)), I.laid (t' := tk) (fun b o e => k b o (fun z => nomatch z) e) (Nat.le_refl _) (show ObjOk X.prog X.w _ _ _ (.dK (mergeK [] kvs)) from ⟨hlen, hm, merged [] prs, KV.merge rel .nil, hd'⟩), rfl, q _ (I.hok.fresh (Nat.le_refl _))⟩
end
end Pf

/-! the layer's rules with the written part named: they may stand within a comprehension's block, too -/
namespace Pf
open PySem PySem.Spec PyProof.Rows L2
section
variable {X : Cx} (K : PySem.W.Frag)
theorem ix_listK (e : X.K = K := by rfl) : IxR X (rIxL K) := e ▸ ix_list
theorem ix_tupK (e : X.K = K := by rfl) : IxR X (rIxT K) := e ▸ ix_tup
theorem op_in_seqK (e : X.K = K := by rfl) : OpR X (compareOp .In) (rIn K false) := e ▸ op_in_seq
theorem op_notIn_seqK (e : X.K = K := by rfl) : OpR X (compareOp .NotIn) (rIn K true) := e ▸ op_notIn_seq
theorem op_eqDK (hu : X.A.units + 64 < cLine) (e : X.K = K := by rfl) : OpR X (compareOp .Eq) (rEqD K) := e ▸ op_eqD hu
theorem op_neDK (hu : X.A.units + 64 < cLine) (e : X.K = K := by rfl) : OpR X (compareOp .NotEq) (rNeD K) := e ▸ op_neD hu
def rLen (K : PySem.W.Frag) : List V → Hp → VK → Prop := fun xs H Q => ∃ p ys, xs = [.ref p] ∧ (SqL K H p ys ∨ SqT K H p ys) ∧ Q (.int ys.length) H
theorem call_len_seqK (e : X.K = K := by rfl) : CallR X (.builtin "len") (rLen K) := e ▸ call_len_seq
theorem call_isiK' (e : X.K = K := by rfl) : CallR X (.builtin "isinstance") (rIsi K) := e ▸ call_isi
def rListOf (K : PySem.W.Frag) : List V → Hp → VK → Prop := fun xs H Q => ∃ p ys, xs = [.ref p] ∧ (SqL K H p ys ∨ SqT K H p ys) ∧ ∀ l, H l = none → Q (.ref l) (upd H l (.lst ys))
theorem call_list_ofK (e : X.K = K := by rfl) : CallR X (.type "list") (rListOf K) := e ▸ call_list_of
def rTupF (K : PySem.W.Frag) : List V → Hp → VK → Prop := fun xs H Q => ∃ p ys, xs = [.ref p] ∧ SqL K H p ys ∧ ∀ l o, H l = none → o.dict = none → Q (.ref l) (upd H l (.frz o (.tup ys)))
theorem call_tupleFK (e : X.K = K := by rfl) : CallR X (.type "tuple") (rTupF K) := e ▸ call_tupleF
theorem cr_allK (hc : X.calm = true) (e : X.K = K := by rfl) : CallR X (.builtin "all") (rAll K) := e ▸ cr_all hc
theorem cr_anyK (hc : X.calm = true) (e : X.K = K := by rfl) : CallR X (.builtin "any") (rAny K) := e ▸ cr_any hc
theorem cr_sortedSK (e : X.K = K := by rfl) : CallR X (.builtin "sorted") (rSortedS K) := e ▸ cr_sortedS
theorem cr_sortedGK {β : Type} {enc : β → PyData} (hu : X.A.units + 64 < cLine) (e : X.K = K := by rfl) : CallR X (.builtin "sorted") (rSortedG K enc) := e ▸ cr_sortedG hu
theorem pi_listK {tg l : Expr} {tl : TE} (hl : PE X l tl) (e : X.K = K := by rfl) : PI X tg l (iList K tl) := e ▸ pi_list hl
theorem pi_tupK {tg l : Expr} {tl : TE} (hl : PE X l tl) (e : X.K = K := by rfl) : PI X tg l (iTup K tl) := e ▸ pi_tup hl
theorem pi_reversedK {tg a : Expr} {p pos : Pos} {ta : TA} (hg : Gl X "reversed") (hm : X.mg "reversed" = none) (ha : PA X [a] ta) (e : X.K = K := by rfl)
    (hs : starEach [a] X.env = [(false, eval a X.env)] := by rfl) : PI X tg (.Call (.Name "reversed" p) [a] [] pos) (iRev K ta) := e ▸ pi_reversed hg hm ha hs
theorem pg_tupK {es : List Expr} {k n : Nat} {pos : Pos} {t : TGs} (hc : X.calm = true) (h : PGs X es t) (e : X.K = K := by rfl)
    (hn : (assignEach es X.env).length = n := by rfl) (hst : (assignEach es X.env).findIdx? (·.1) = none := by rfl) : PG X (.Tuple es k pos) (gTup K n t) := e ▸ pg_tup hc h hn hst
theorem pe_bmK {o e1 : Expr} {es : List Expr} {name : Str} {apos cpos : Pos} {T id : String} {r : V → List V → Hp → VK → Prop} {to : TE} {t : TA} (pa : PlainAttrs T) (slot : Slot T name id) (hty : typeOf (.builtin id) = pure (.type "method_descriptor")) (hm : MtR X id r) (ho : PE X o to) (ha : PA X (e1 :: es) t) (e : X.K = K := by rfl)
    (hbase : attributeBase o name X.env (eval o X.env) = eval o X.env := by rfl)
    (hfew : ((backTo cpos (starEach (e1 :: es) X.env)).all (fun x => !x.1) && (backToKw cpos (keywordEach [] X.env)).all (fun x => x.1.isSome)
      && decide ((e1 :: es).length + ([] : List Keyword).length + (if ([] : List Keyword).isEmpty then 0 else 1) < 30)) = true := by rfl)
    (hline : (apos.endLine == cpos.line) = true := by rfl) (hs : starEach (e1 :: es) X.env = (false, eval e1 X.env) :: starEach es X.env := by rfl) (hplain : (backTo cpos (starEach es X.env)).any (·.1) = false := by rfl) :
    PE X (.Call (.Attribute o name apos) (e1 :: es) [] cpos) (tBM K T r to t) := e ▸ pe_bm pa slot hty hm ho ha hbase hfew hline hs hplain
theorem pe_bm0K {o : Expr} {name : Str} {apos cpos : Pos} {T id : String} {r : V → List V → Hp → VK → Prop} {to : TE} (pa : PlainAttrs T) (slot : Slot T name id) (hty : typeOf (.builtin id) = pure (.type "method_descriptor")) (hm : MtR X id r) (ho : PE X o to) (e : X.K = K := by rfl)
    (hbase : attributeBase o name X.env (eval o X.env) = eval o X.env := by rfl) (hline : (apos.endLine == cpos.line) = true := by rfl) : PE X (.Call (.Attribute o name apos) [] [] cpos) (tBM0 K T r to) := e ▸ pe_bm0 pa slot hty hm ho hbase hline
theorem sl_listK (e : X.K = K := by rfl) : SlR X (rSlL K) := e ▸ sl_list
def rDictT (K : PySem.W.Frag) : List V → Hp → VK → Prop := fun xs H Q => ∃ (a : Addr) (o : Obj) (ps : List Addr) (kvs : List (Key × V)), xs = [.ref a] ∧ H a = some (.frz o (.tup (ps.map V.ref))) ∧ o.dict = none ∧ Paired (fun p kv => SqT K H p [kV kv.1, kv.2]) ps kvs ∧
    ∀ p, H p = none → Q (.ref p) (upd H p (.dK (mergeK [] kvs)))
theorem call_dictTK (hc : X.calm = true) (e : X.K = K := by rfl) : CallR X (.type "dict") (rDictT K) := e ▸ call_dictT hc
end
end Pf

/-! Stepping lemmas for the layer's readings: each peels one construct off; the word «rd» peels on while nothing is to be answered. -/
namespace Pf
open PySem PySem.Spec PyProof.Rows L2
section
variable {σ : L2.St} {H : Hp} {D : Ends} {Q : VK} {K : PySem.W.Frag}
theorem r_seq {t u : TS} (h : t { D with nx := u D } σ H) : tSeq t u D σ H := h
theorem r_next (h : D.nx σ H) : tNext D σ H := h
theorem r_asg {te : TE} {g : TG} (h : te σ H fun x H1 => g x σ H1 D.nx) : tAsg te g D σ H := h
theorem r_name {i : Nat} {v : V} {R : L2.St → Hp → Prop} (h : R (σ.set i (some v)) H) : gName i v σ H R := h
theorem r_ret {te : TE} (h : te σ H D.rt) : tRet te D σ H := h
theorem r_retN (h : D.rt .non H) : tRetN D σ H := h
theorem r_drop {te : TE} (h : te σ H fun _ H1 => D.nx σ H1) : tDrop te D σ H := h
theorem r_if {c : TT} {t u : TS} (h : c σ H fun b H1 => if b = true then t D σ H1 else u D σ H1) : tIfS c t u D σ H := h
theorem r_test {t : TE} {R : Bool → Hp → Prop} (h : t σ H fun x H' => ∃ k, x = .bl k ∧ R k H') : tTest t σ H R := h
theorem r_tB {t : TE} {R : Bool → Hp → Prop} (h : t σ H fun x H' => ∃ k, x = .bl k ∧ R k H') : tB t σ H R := h
theorem r_bl {b : Bool} {R : Bool → Prop} (h : R b) : ∃ k, V.bl b = .bl k ∧ R k := ⟨b, rfl, h⟩
theorem r_not {t : TT} {R : Bool → Hp → Prop} (h : t σ H fun c H1 => R (!c) H1) : tNot t σ H R := h
theorem r_and {t u : TT} {R : Bool → Hp → Prop} (h : t σ H fun c H1 => if c = true then u σ H1 R else R false H1) : tAnd t u σ H R := h
theorem r_or {t u : TT} {R : Bool → Hp → Prop} (h : t σ H fun c H1 => if c = true then R true H1 else u σ H1 R) : tOr t u σ H R := h
theorem r_andV {t u : TE} (h : t σ H fun x H1 => ∃ c, x = .bl c ∧ if c = true then u σ H1 Q else Q (.bl false) H1) : tAndV t u σ H Q := h
theorem r_orV {t u : TE} (h : t σ H fun x H1 => ∃ c, x = .bl c ∧ if c = true then Q (.bl true) H1 else u σ H1 Q) : tOrV t u σ H Q := h
theorem r_notV {t : TE} (h : t σ H fun x H1 => ∃ c, x = .bl c ∧ Q (.bl (!c)) H1) : tNotV t σ H Q := h
theorem r_ifE {c : TT} {t u : TE} (h : c σ H fun b H1 => if b = true then t σ H1 Q else u σ H1 Q) : tIf c t u σ H Q := h
theorem r_yes {H : Hp} {R : Bool → Hp → Prop} (h : R true H) : tYes σ H R := h
theorem r_var {i : Nat} {v : V} (e : σ[i]? = some (some v)) (h : Q v H) : tVar i σ H Q := ⟨v, e, h⟩
theorem r_c {v : V} (h : Q v H) : tC v σ H Q := h
theorem r_op {r : R2} {ta tb : TE} (h : ta σ H fun x H1 => tb σ H1 fun y H2 => r x y H2 Q) : tOp r ta tb σ H Q := h
theorem r_un {r : V → Hp → VK → Prop} {ta : TE} (h : ta σ H fun x H1 => r x H1 Q) : tUn r ta σ H Q := h
theorem r_I0 {g : Int → Int → V} {i j : Int} (h : Q (g i j) H) : rI0 g (.int i) (.int j) H Q := ⟨i, j, rfl, rfl, h⟩
theorem r_I {C : Int → Int → Prop} {g : Int → Int → V} {i j : Int} (c : C i j) (h : Q (g i j) H) : rI C g (.int i) (.int j) H Q := ⟨i, j, rfl, rfl, c, h⟩
theorem r_U {g : Int → V} {i : Int} (h : Q (g i) H) : rU g (.int i) H Q := ⟨i, rfl, h⟩
theorem dec_int {i j : Int} : decide (V.int i = V.int j) = decide (i = j) := by simp
theorem dec_str {i j : Str} : decide (V.str i = V.str j) = decide (i = j) := by simp
theorem r_eqI {i j : Int} (h : Q (.bl (decide (i = j))) H) : rEq (.int i) (.int j) H Q := ⟨rfl, by rw [dec_int]; exact h⟩
theorem r_eqS {i j : Str} (h : Q (.bl (decide (i = j))) H) : rEq (.str i) (.str j) H Q := ⟨rfl, by rw [dec_str]; exact h⟩
theorem r_neI {i j : Int} (h : Q (.bl (!decide (i = j))) H) : rNe (.int i) (.int j) H Q := ⟨rfl, by rw [dec_int]; exact h⟩
theorem r_neS {i j : Str} (h : Q (.bl (!decide (i = j))) H) : rNe (.str i) (.str j) H Q := ⟨rfl, by rw [dec_str]; exact h⟩
theorem r_addS {i j : Str} (z : i.length + j.length ≤ sizeLine) (h : Q (.str (i ++ j)) H) : (∃ i' j', V.str i = .str i' ∧ V.str j = .str j' ∧ i'.length + j'.length ≤ sizeLine ∧ Q (.str (i' ++ j')) H) := ⟨i, j, rfl, rfl, z, h⟩
theorem r_ixL {p : Addr} {xs : List V} {i : Int} {v : V} (s : SqL K H p xs) (e : atI xs i = some v) (h : Q v H) : rIxL K (.ref p) (.int i) H Q := ⟨p, xs, i, v, rfl, rfl, s, e, h⟩
theorem r_ixT {p : Addr} {xs : List V} {i : Int} {v : V} (s : SqT K H p xs) (e : atI xs i = some v) (h : Q v H) : rIxT K (.ref p) (.int i) H Q := ⟨p, xs, i, v, rfl, rfl, s, e, h⟩
theorem r_ixS {z : Str} {i : Int} {c : Nat} (s : z.length ≤ sizeLine) (e : atI z.cps.toList i = some c) (h : Q (.str ⟨#[c]⟩) H) : rIxS (.str z) (.int i) H Q := ⟨z, i, c, rfl, rfl, s, e, h⟩
theorem r_nil {R : List V → Hp → Prop} (h : R [] H) : tNil σ H R := h
theorem r_cons {ta : TE} {t : TA} {R : List V → Hp → Prop} (h : ta σ H fun x H1 => t σ H1 fun xs H2 => R (x :: xs) H2) : tCons ta t σ H R := h
theorem r_cb {r : List V → Hp → VK → Prop} {t : TA} (h : t σ H fun vs H1 => r vs H1 Q) : tCB r t σ H Q := h
theorem r_call {sp : Sp} {dvs : List V} {E : XK} {t : TA} (h : t σ H fun vs H1 => sp (vs ++ dvs) H1 Q E) : tCall sp dvs E t σ H Q := h
theorem r_lst {t : TA} (h : t σ H fun xs H1 => xs.length ≤ sizeLine ∧ ∀ p, H1 p = none → Q (.ref p) (upd H1 p (.lst xs))) : tLst t σ H Q := h
theorem r_tup {t : TA} (h : t σ H fun xs H1 => xs.length ≤ sizeLine ∧ ∀ p, H1 p = none → Q (.ref p) (upd H1 p (.tup xs))) : tTup t σ H Q := h
theorem r_bm {T : String} {r : V → List V → Hp → VK → Prop} {to : TE} {t : TA} (h : to σ H fun x H1 => tyV K T x H1 ∧ t σ H1 fun xs H2 => r x xs H2 Q) : tBM K T r to t σ H Q := h
theorem r_bm0 {T : String} {r : V → List V → Hp → VK → Prop} {to : TE} (h : to σ H fun x H1 => tyV K T x H1 ∧ r x [] H1 Q) : tBM0 K T r to σ H Q := h
theorem r_sl {r : V → Option Int → Option Int → Hp → VK → Prop} {te : TE} {tl th : TO} (h : te σ H fun x H1 => tl σ H1 fun l H2 => th σ H2 fun u H3 => r x l u H3 Q) : L2.tSl r te tl th σ H Q := h
theorem r_sub {to ti : TE} {t : TSet} {v : V} {R : L2.St → Hp → Prop} (h : to σ H fun o H1 => ti σ H1 fun i H2 => t o i v H2 fun H3 => R σ H3) : gSub to ti t v σ H R := h
theorem r_setL {p : Addr} {xs : List V} {k : Int} {j : Nat} {v : V} {R : Hp → Prop} (s : H p = some (.lst xs)) (e : ixN xs.length k = some j) (h : R (upd H p (.lst (xs.set j v)))) : rSetL (.ref p) (.int k) v H R := ⟨p, xs, k, j, rfl, rfl, s, e, h⟩
theorem r_gtup {n : Nat} {t : TGs} {a : Addr} {xs : List V} {R : L2.St → Hp → Prop} (s : SqT K H a xs) (l : xs.length = n) (h : t xs σ H R) : gTup K n t (.ref a) σ H R := ⟨a, xs, rfl, s, l, h⟩
theorem r_gcons {t : TG} {u : TGs} {v : V} {r : List V} {R : L2.St → Hp → Prop} (h : t v σ H fun σ' H' => u r σ' H' R) : gCons t u (v :: r) σ H R := ⟨v, r, rfl, h⟩
theorem r_gnil {R : L2.St → Hp → Prop} (h : R σ H) : gNil [] σ H R := ⟨rfl, h⟩
theorem r_len {p : Addr} {xs : List V} (s : SqL K H p xs) (h : Q (.int xs.length) H) : ∃ q ys, [V.ref p] = [.ref q] ∧ (SqL K H q ys ∨ SqT K H q ys) ∧ Q (.int ys.length) H := ⟨p, xs, rfl, .inl s, h⟩
theorem r_lenT {p : Addr} {xs : List V} (s : SqT K H p xs) (h : Q (.int xs.length) H) : ∃ q ys, [V.ref p] = [.ref q] ∧ (SqL K H q ys ∨ SqT K H q ys) ∧ Q (.int ys.length) H := ⟨p, xs, rfl, .inr s, h⟩
theorem r_lenS {z : Str} (s : z.length ≤ sizeLine) (h : Q (.int z.length) H) : ∃ y : Str, [V.str z] = [.str y] ∧ y.length ≤ sizeLine ∧ Q (.int y.length) H := ⟨z, rfl, s, h⟩
theorem r_inS {c : Nat} {z : Str} (h : Q (.bl (decide (c ∈ z.cps.toList))) H) : ∃ (c' : Nat) (z' : Str), V.str ⟨#[c]⟩ = .str ⟨#[c']⟩ ∧ V.str z = .str z' ∧ Q (.bl (decide (c' ∈ z'.cps.toList))) H := ⟨c, z, rfl, rfl, h⟩
theorem r_bI {k : Bool} (h : Q (.int (if k then 1 else 0)) H) : (∃ i, [V.bl k] = [.int i] ∧ Q (.int i) H) ∨ ∃ b, [V.bl k] = [.bl b] ∧ Q (.int (if b then 1 else 0)) H := .inr ⟨k, rfl, h⟩
theorem r_abs {i : Int} (h : Q (.int (if i < 0 then -i else i)) H) : ∃ j, [V.int i] = [.int j] ∧ Q (.int (if j < 0 then -j else j)) H := ⟨i, rfl, h⟩
theorem r_str {i : Int} (z : i.natAbs.log2 < 1920) (h : Q (.str (toString i)) H) : ∃ j : Int, [V.int i] = [.int j] ∧ j.natAbs.log2 < 1920 ∧ Q (.str (toString j)) H := ⟨i, rfl, z, h⟩
theorem r_chain {r r' : R2} {ta tb tc : TE} (h : ta σ H fun x H1 => tb σ H1 fun y H2 => r x y H2 fun z H3 => ∃ k, z = .bl k ∧ (if k = true then tc σ H3 fun w' H4 => r' y w' H4 Q else Q (.bl false) H3)) : tChain r r' ta tb tc σ H Q := h
theorem r_get2 {td ty tx : TE} (h : td σ H fun x H1 => ∃ a, x = .ref a ∧ IsD H1 a ∧ ty σ H1 fun y H2 => tx σ H2 fun z H3 => ∃ o, DGet H3 a y o ∧ Q (o.getD z) H3) : tDGet2 td ty tx σ H Q := h
theorem r_iList {tl : TE} {R : It → Hp → Prop} (h : tl σ H fun x H1 => ∃ a, x = .ref a ∧ (∃ xs, SqL K H1 a xs) ∧ R (Itl K a) H1) : iList K tl σ H R := h
theorem r_iL {a : Addr} {xs : List V} {R : It → Hp → Prop} (s : SqL K H a xs) (h : R (Itl K a) H) : ∃ b, V.ref a = .ref b ∧ (∃ xs, SqL K H b xs) ∧ R (Itl K b) H := ⟨a, rfl, ⟨xs, s⟩, h⟩
theorem r_iT {a : Addr} {xs : List V} {R : It → Hp → Prop} (s : SqT K H a xs) (h : R (Itt K a) H) : ∃ b, V.ref a = .ref b ∧ (∃ xs, SqT K H b xs) ∧ R (Itt K b) H := ⟨a, rfl, ⟨xs, s⟩, h⟩
theorem r_rng {ta : TA} {R : It → Hp → Prop} (h : ta σ H fun vs H1 => ∃ j : Int, vs = [.int j] ∧ -(2 ^ 62) ≤ j ∧ j < 2 ^ 62 ∧ R (Itr 0 j.toNat) H1) : iRng1 ta σ H R := h
theorem r_rn {j : Int} {R : It → Hp → Prop} (a : 0 ≤ j) (b : j < 2 ^ 62) (h : R (Itr 0 j.toNat) H) : ∃ i : Int, [V.int j] = [.int i] ∧ -(2 ^ 62) ≤ i ∧ i < 2 ^ 62 ∧ R (Itr 0 i.toNat) H := ⟨j, rfl, by omega, b, h⟩
theorem r_app {R : List V → Prop} {vs : List V} (h : R vs) : R (vs ++ []) := by
  rw [List.append_nil]; exact h
/-- a test that is not decided: both ways -/
theorem r_dec {p A B : Prop} [Decidable p] (h1 : p → A) (h2 : ¬ p → B) : if decide p = true then A else B := by
  by_cases h : p
  · rw [decide_eq_true h, if_pos rfl]; exact h1 h
  · rw [decide_eq_false h, if_neg Bool.false_ne_true]; exact h2 h
theorem r_ndec {p A B : Prop} [Decidable p] (h1 : ¬ p → A) (h2 : p → B) : if (!decide p) = true then A else B := by
  by_cases h : p
  · rw [decide_eq_true h]; exact iteF (h2 h)
  · rw [decide_eq_false h]; exact iteT (h1 h)
theorem r_both {b : Bool} {A B : Prop} (h1 : b = true → A) (h2 : b = false → B) : if b = true then A else B := by
  cases b with
  | true => exact iteT (h1 rfl)
  | false => exact iteF (h2 rfl)
/-! ### loops, whose ends may be written out -/
theorem forN_range {lo : Int} {n : Nat} {g : TG} {tb : (L2.St → Hp → Prop) → L2.St → Hp → Prop} {Nx : L2.St → Hp → Prop} {σ : L2.St} {H : Hp} (Pv : Nat → L2.St → Hp → Prop) (h0 : Pv 0 σ H)
    (hs : ∀ i σ H, i < n → Pv i σ H → g (.int (lo + i)) σ H fun σ2 H2 => tb (Pv (i + 1)) σ2 H2) (hd : ∀ σ H, Pv n σ H → Nx σ H) :
    ∃ W : Nat → Nat → L2.St → Hp → Prop, (∃ m, W 0 m σ H) ∧ ∀ i m σ H, W i m σ H →
      ((Itr lo n).stop i H ∧ Nx σ H) ∨ ((Itr lo n).go i H ∧ ∃ N : L2.St → Hp → Prop, (∀ σ' H', N σ' H' → ∃ m', m' < m ∧ W (i + 1) m' σ' H') ∧ ∀ x H', (Itr lo n).yld i H x H' → g x σ H' fun σ2 H2 => tb N σ2 H2) :=
  for_range (tb := fun D => tb D.nx) (D := { nx := Nx, rt := fun _ _ => True }) Pv h0 hs hd
theorem forN_list {K : PySem.W.Frag} {a : Addr} {xs : List V} {g : TG} {tb : (L2.St → Hp → Prop) → L2.St → Hp → Prop} {Nx : L2.St → Hp → Prop} {σ : L2.St} {H : Hp} (Pv : Nat → L2.St → Hp → Prop) (h0 : Pv 0 σ H) (hl : ∀ i σ H, i ≤ xs.length → Pv i σ H → SqL K H a xs)
    (hs : ∀ i x σ H, xs[i]? = some x → Pv i σ H → g x σ H fun σ2 H2 => tb (Pv (i + 1)) σ2 H2) (hd : ∀ σ H, Pv xs.length σ H → Nx σ H) :
    ∃ W : Nat → Nat → L2.St → Hp → Prop, (∃ m, W 0 m σ H) ∧ ∀ i m σ H, W i m σ H →
      ((Itl K a).stop i H ∧ Nx σ H) ∨ ((Itl K a).go i H ∧ ∃ N : L2.St → Hp → Prop, (∀ σ' H', N σ' H' → ∃ m', m' < m ∧ W (i + 1) m' σ' H') ∧ ∀ x H', (Itl K a).yld i H x H' → g x σ H' fun σ2 H2 => tb N σ2 H2) :=
  for_list (tb := fun D => tb D.nx) (D := { nx := Nx, rt := fun _ _ => True }) Pv h0 hl hs hd
theorem forN_tup {K : PySem.W.Frag} {a : Addr} {xs : List V} {g : TG} {tb : (L2.St → Hp → Prop) → L2.St → Hp → Prop} {Nx : L2.St → Hp → Prop} {σ : L2.St} {H : Hp} (Pv : Nat → L2.St → Hp → Prop) (h0 : Pv 0 σ H) (hl : ∀ i σ H, i ≤ xs.length → Pv i σ H → SqT K H a xs)
    (hs : ∀ i x σ H, xs[i]? = some x → Pv i σ H → g x σ H fun σ2 H2 => tb (Pv (i + 1)) σ2 H2) (hd : ∀ σ H, Pv xs.length σ H → Nx σ H) :
    ∃ W : Nat → Nat → L2.St → Hp → Prop, (∃ m, W 0 m σ H) ∧ ∀ i m σ H, W i m σ H →
      ((Itt K a).stop i H ∧ Nx σ H) ∨ ((Itt K a).go i H ∧ ∃ N : L2.St → Hp → Prop, (∀ σ' H', N σ' H' → ∃ m', m' < m ∧ W (i + 1) m' σ' H') ∧ ∀ x H', (Itt K a).yld i H x H' → g x σ H' fun σ2 H2 => tb N σ2 H2) :=
  for_tup (tb := fun D => tb D.nx) (D := { nx := Nx, rt := fun _ _ => True }) Pv h0 hl hs hd
theorem cmul_l {i j : Int} (h : -(2 ^ 64) < i ∧ i < 2 ^ 64) : CMul i j := .inl h
theorem cmul_r {i j : Int} (h : -(2 ^ 64) < j ∧ j < 2 ^ 64) : CMul i j := .inr h
/-- len -/
theorem r_lenK {H : Hp} {Q : VK} {K : PySem.W.Frag} {p : Addr} {xs : List V} (s : SqL K H p xs) (h : Q (.int xs.length) H) : rLen K [.ref p] H Q := ⟨p, xs, rfl, .inl s, h⟩
theorem r_lenTK {H : Hp} {Q : VK} {K : PySem.W.Frag} {p : Addr} {xs : List V} (s : SqT K H p xs) (h : Q (.int xs.length) H) : rLen K [.ref p] H Q := ⟨p, xs, rfl, .inr s, h⟩
theorem r_in {H : Hp} {Q : VK} {K : PySem.W.Frag} {x : V} {p : Addr} {xs : List V} (s : SqL K H p xs) (fx : flatV x = true) (fa : xs.all flatV = true) (h : Q (.bl (inV x xs)) H) : rIn K false x (.ref p) H Q := ⟨p, xs, rfl, .inl s, fx, fa, h⟩
theorem r_notIn {H : Hp} {Q : VK} {K : PySem.W.Frag} {x : V} {p : Addr} {xs : List V} (s : SqL K H p xs) (fx : flatV x = true) (fa : xs.all flatV = true) (h : Q (.bl (!inV x xs)) H) : rIn K true x (.ref p) H Q := ⟨p, xs, rfl, .inl s, fx, fa, h⟩
theorem r_neD {H : Hp} {Q : VK} {K : PySem.W.Frag} {x y : V} {d e : PyData} (a : Dp K H x d) (b : Dp K H y e) (sa : SeqAt.shaped d = true) (sb : SeqAt.shaped e = true) (h : Q (.bl (!PyData.eqv d e)) H) : rNeD K x y H Q := ⟨d, e, a, b, sa, sb, h⟩
theorem r_eqD {H : Hp} {Q : VK} {K : PySem.W.Frag} {x y : V} {d e : PyData} (a : Dp K H x d) (b : Dp K H y e) (sa : SeqAt.shaped d = true) (sb : SeqAt.shaped e = true) (h : Q (.bl (PyData.eqv d e)) H) : rEqD K x y H Q := ⟨d, e, a, b, sa, sb, h⟩
theorem r_all {H : Hp} {Q : VK} {K : PySem.W.Frag} {p : Addr} {bs : List Bool} (s : SqL K H p (bs.map V.bl)) (h : Q (.bl (bs.all id)) H) : rAll K [.ref p] H Q := ⟨p, bs, rfl, s, h⟩
theorem r_listL {H : Hp} {Q : VK} {K : PySem.W.Frag} {p : Addr} {xs : List V} (s : SqL K H p xs) (h : ∀ l, H l = none → Q (.ref l) (upd H l (.lst xs))) : rListOf K [.ref p] H Q := ⟨p, xs, rfl, .inl s, h⟩
theorem r_listT {H : Hp} {Q : VK} {K : PySem.W.Frag} {p : Addr} {xs : List V} (s : SqT K H p xs) (h : ∀ l, H l = none → Q (.ref l) (upd H l (.lst xs))) : rListOf K [.ref p] H Q := ⟨p, xs, rfl, .inr s, h⟩
theorem r_tupF {H : Hp} {Q : VK} {K : PySem.W.Frag} {p : Addr} {xs : List V} (s : SqL K H p xs) (h : ∀ l o, H l = none → o.dict = none → Q (.ref l) (upd H l (.frz o (.tup xs)))) : rTupF K [.ref p] H Q := ⟨p, xs, rfl, s, h⟩
theorem r_isi {H : Hp} {Q : VK} {K : PySem.W.Frag} {x : V} {n : String} {t : Value} {b : Bool} (ty : TyX K H x t) (e : PySem.W.kitOne K t (.type n) = some b) (h : Q (.bl b) H) : rIsi K [x, .ty n] H Q := ⟨x, .ty n, t, .type n, b, rfl, .ty n, ty, e, h⟩
/-! ### comprehensions: what holds between two turns -/
/-- the heap knows what stood; the new list at D holds acc, of which Rl is true -/
def LcI (H1 : Hp) (D : Addr) (Rl : Nat → List V → Hp → Prop) (i : Nat) (H : Hp) : Prop := Same H1 H ∧ ∃ acc, H D = some (.lst acc) ∧ acc.length ≤ i ∧ Rl i acc H
theorem LcI.zero {H1 : Hp} {D : Addr} {Rl : Nat → List V → Hp → Prop} (n : H1 D = none) (r : Rl 0 [] (upd H1 D (.lst []))) : LcI H1 D Rl 0 (upd H1 D (.lst [])) := ⟨same_new n, [], upd_same, Nat.le_refl _, r⟩
theorem LcI.keep {H1 H H4 : Hp} {D : Addr} {Rl : Nat → List V → Hp → Prop} {i : Nat} {acc : List V} {y : V} (n : H1 D = none) (s : Same H1 H) (hD : H D = some (.lst acc)) (hl : acc.length ≤ i) (hi : i < 1000) (s4 : Same H H4) (r : Rl (i + 1) (acc ++ [y]) (upd H4 D (.lst (acc ++ [y])))) :
    ∃ acc, H4 D = some (.lst acc) ∧ acc.length < sizeLine ∧ LcI H1 D Rl (i + 1) (upd H4 D (.lst (acc ++ [y]))) :=
  ⟨acc, s4 _ _ hD, small1000 (by omega), Pf.Same.mut (s.trans s4) n, acc ++ [y], upd_same, by rw [List.length_append]; exact Nat.succ_le_succ hl, r⟩
theorem LcI.skip {H1 H H4 : Hp} {D : Addr} {Rl : Nat → List V → Hp → Prop} {i : Nat} {acc : List V} (s : Same H1 H) (hD : H D = some (.lst acc)) (hl : acc.length ≤ i) (s4 : Same H H4) (r : Rl (i + 1) acc H4) : LcI H1 D Rl (i + 1) H4 :=
  ⟨s.trans s4, acc, s4 _ _ hD, Nat.le_succ_of_le hl, r⟩
theorem tups_mut {H : Hp} {D : Addr} {acc bcc : List V} (h : H D = some (.lst acc)) : Tups H (upd H D (.lst bcc)) := Tups.but (a := D) (fun b o n e => by rw [upd_ne n]; exact e) h
theorem take_snoc {α : Type} {l : List α} {i : Nat} {x : α} (h : l[i]? = some x) : l.take (i + 1) = l.take i ++ [x] := by
  rw [List.take_add_one, h]; rfl
theorem iteNT {A B : Prop} (h : B) : if (!true) = true then A else B := h
theorem iteNF {A B : Prop} (h : A) : if (!false) = true then A else B := h
/-! ### walks of any kind, n turns -/
theorem lcN {J : It} {n : Nat} {g : TG} {tt : TT} {te : TE} {vs : List Nat} {σ : L2.St} {H1 : Hp} {D : Addr} {Qd : Hp → Prop} (Pv : Nat → Hp → Prop) (h0 : Pv 0 (upd H1 D (.lst []))) (go : ∀ i H, i < n → Pv i H → J.go i H) (st : ∀ H, Pv n H → J.stop n H)
    (hs : ∀ i x H H', i < n → Pv i H → J.yld i H x H' → g x (wipe σ vs) H' fun σ2 H2 => wipe σ2 vs = wipe σ vs ∧ tt σ2 H2 fun b H3 =>
      if b = true then te σ2 H3 fun y H4 => ∃ acc, H4 D = some (.lst acc) ∧ acc.length < sizeLine ∧ Pv (i + 1) (upd H4 D (.lst (acc ++ [y]))) else Pv (i + 1) H3) (hd : ∀ H, Pv n H → Qd H) :
    ∃ W : Nat → Nat → Hp → Prop, (∃ m, W 0 m (upd H1 D (.lst []))) ∧ ∀ i m H, W i m H →
      (J.stop i H ∧ Qd H) ∨ (J.go i H ∧ ∃ Nx : Hp → Prop, (∀ H', Nx H' → ∃ m', m' < m ∧ W (i + 1) m' H') ∧ ∀ x H', J.yld i H x H' → g x (wipe σ vs) H' fun σ2 H2 => wipe σ2 vs = wipe σ vs ∧ tt σ2 H2 fun b H3 =>
        if b = true then te σ2 H3 fun y H4 => ∃ acc, H4 D = some (.lst acc) ∧ acc.length < sizeLine ∧ Nx (upd H4 D (.lst (acc ++ [y]))) else Nx H3) := by
  refine ⟨fun i m H => m = n - i ∧ i ≤ n ∧ Pv i H, ⟨n, by simp, Nat.zero_le _, h0⟩, ?_⟩
  rintro i m H ⟨rfl, hi, p⟩
  by_cases hlt : i < n
  · exact .inr ⟨go i H hlt p, Pv (i + 1), fun H' p' => ⟨n - (i + 1), by omega, rfl, hlt, p'⟩, fun x H' y => hs i x H H' hlt p y⟩
  · have e : i = n := by omega
    subst e
    exact .inl ⟨st H p, hd H p⟩
theorem forN {J : It} {n : Nat} {g : TG} {tb : (L2.St → Hp → Prop) → L2.St → Hp → Prop} {Nx : L2.St → Hp → Prop} {σ : L2.St} {H : Hp} (Pv : Nat → L2.St → Hp → Prop) (h0 : Pv 0 σ H) (go : ∀ i σ H, i < n → Pv i σ H → J.go i H) (st : ∀ σ H, Pv n σ H → J.stop n H)
    (hs : ∀ i x σ H H', i < n → Pv i σ H → J.yld i H x H' → g x σ H' fun σ2 H2 => tb (Pv (i + 1)) σ2 H2) (hd : ∀ σ H, Pv n σ H → Nx σ H) :
    ∃ W : Nat → Nat → L2.St → Hp → Prop, (∃ m, W 0 m σ H) ∧ ∀ i m σ H, W i m σ H →
      (J.stop i H ∧ Nx σ H) ∨ (J.go i H ∧ ∃ N : L2.St → Hp → Prop, (∀ σ' H', N σ' H' → ∃ m', m' < m ∧ W (i + 1) m' σ' H') ∧ ∀ x H', J.yld i H x H' → g x σ H' fun σ2 H2 => tb N σ2 H2) := by
  refine ⟨fun i m σ H => m = n - i ∧ i ≤ n ∧ Pv i σ H, ⟨n, by simp, Nat.zero_le _, h0⟩, ?_⟩
  rintro i m σ H ⟨rfl, hi, p⟩
  by_cases hlt : i < n
  · exact .inr ⟨go i σ H hlt p, Pv (i + 1), fun σ' H' p' => ⟨n - (i + 1), by omega, rfl, hlt, p'⟩, fun x H' y => hs i x σ H H' hlt p y⟩
  · have e : i = n := by omega
    subst e
    exact .inl ⟨st σ H p, hd σ H p⟩
theorem lcN_str {x : Str} {g : TG} {tt : TT} {te : TE} {vs : List Nat} {σ : L2.St} {H1 : Hp} {D : Addr} {Qd : Hp → Prop} (Pv : Nat → Hp → Prop) (h0 : Pv 0 (upd H1 D (.lst [])))
    (hs : ∀ i c H, x.cps.toList[i]? = some c → Pv i H → g (.str ⟨#[c]⟩) (wipe σ vs) H fun σ2 H2 => wipe σ2 vs = wipe σ vs ∧ tt σ2 H2 fun b H3 =>
      if b = true then te σ2 H3 fun y H4 => ∃ acc, H4 D = some (.lst acc) ∧ acc.length < sizeLine ∧ Pv (i + 1) (upd H4 D (.lst (acc ++ [y]))) else Pv (i + 1) H3) (hd : ∀ H, Pv x.cps.toList.length H → Qd H) :
    ∃ W : Nat → Nat → Hp → Prop, (∃ m, W 0 m (upd H1 D (.lst []))) ∧ ∀ i m H, W i m H →
      ((Its x).stop i H ∧ Qd H) ∨ ((Its x).go i H ∧ ∃ Nx : Hp → Prop, (∀ H', Nx H' → ∃ m', m' < m ∧ W (i + 1) m' H') ∧ ∀ x' H', (Its x).yld i H x' H' → g x' (wipe σ vs) H' fun σ2 H2 => wipe σ2 vs = wipe σ vs ∧ tt σ2 H2 fun b H3 =>
        if b = true then te σ2 H3 fun y H4 => ∃ acc, H4 D = some (.lst acc) ∧ acc.length < sizeLine ∧ Nx (upd H4 D (.lst (acc ++ [y]))) else Nx H3) :=
  lcN (J := Its x) (n := x.cps.toList.length) Pv h0 (fun i H hi _ => hi) (fun H _ => Nat.le_refl _) (fun i y H H' hi p yl => by
    obtain ⟨rfl, c, hc, rfl⟩ := yl
    exact hs i c _ (by rw [Array.getElem?_toList]; exact hc) p) hd
theorem r_iStr {σ : L2.St} {H : Hp} {te : TE} {R : It → Hp → Prop} (h : te σ H fun v H1 => ∃ x, v = .str x ∧ R (Its x) H1) : iStr te σ H R := h
theorem r_iTup {σ : L2.St} {H : Hp} {K : PySem.W.Frag} {tl : TE} {R : It → Hp → Prop} (h : tl σ H fun x H1 => ∃ a, x = .ref a ∧ (∃ xs, SqT K H1 a xs) ∧ R (Itt K a) H1) : iTup K tl σ H R := h
theorem r_iRev {σ : L2.St} {H : Hp} {K : PySem.W.Frag} {ta : TA} {R : It → Hp → Prop} (h : ta σ H fun vs H1 => ∃ (a : Addr) (xs : List V), vs = [.ref a] ∧ SqL K H1 a xs ∧ R (Itv K a xs.length) H1) : iRev K ta σ H R := h
theorem r_iItems {σ : L2.St} {H : Hp} {td : TE} {R : It → Hp → Prop} (h : td σ H fun x H1 => ∃ d o kvs, x = .ref d ∧ H1 d = some (.frz o (.dK kvs)) ∧ R (Iti d o kvs) H1) : iItems td σ H R := h
theorem tups_upd {H : Hp} {d : Addr} {o o' : HO} (h : H d = some o) (n1 : ∀ xs, o ≠ .tup xs) (n2 : ∀ ob xs, o ≠ .frz ob (.tup xs)) : Tups H (upd H d o') := fun b xs r => by
  have nb : b ≠ d := by
    rintro rfl
    rcases r with r | ⟨ob, r⟩
    · rw [h] at r; exact n1 xs (Option.some.inj r)
    · rw [h] at r; exact n2 ob xs (Option.some.inj r)
  rcases r with r | ⟨ob, r⟩
  · exact .inl (by rw [upd_ne nb]; exact r)
  · exact .inr ⟨ob, by rw [upd_ne nb]; exact r⟩
end
end Pf

/-! names as texts: pure -/
namespace Pf
open PySem PySem.Spec PyProof.Rows L2
abbrev smallS : Str := "abcdefghijklmnopqrstuvwxyz"
abbrev greatS : Str := "ABCDEFGHIJKLMNOPQRSTUVWXYZ"
abbrev figS : Str := "0123456789"
theorem app_cps (x y : Str) : (x ++ y).cps.toList = x.cps.toList ++ y.cps.toList := by
  show (x.cps ++ y.cps).toList = _
  rw [Array.toList_append]
theorem len_cps (x : Str) : x.length = x.cps.toList.length := rfl
theorem str_ext {x y : Str} (h : x.cps.toList = y.cps.toList) : x = y := by
  cases x; cases y
  simp only [Str.mk.injEq]
  exact Array.toList_inj.mp h
/-- a short text of these letters and figures, a letter ahead -/
def WordOk (L : Str) (w : Str) : Prop := ∃ c r, w.cps.toList = c :: r ∧ c ∈ L.cps.toList ∧ (∀ x ∈ r, x ∈ (L ++ figS).cps.toList) ∧ r.length ≤ 7
abbrev NameOk : Str → Prop := WordOk smallS
theorem WordOk.ne {L w : Str} (h : WordOk L w) : w ≠ "" := by
  rintro rfl
  obtain ⟨c, r, e, _⟩ := h
  cases e
theorem WordOk.len {L w : Str} (h : WordOk L w) : 1 ≤ w.length ∧ w.length ≤ 8 := by
  obtain ⟨c, r, e, _, _, l⟩ := h
  rw [len_cps, e, List.length_cons]
  omega
theorem WordOk.one {L : Str} {c : Nat} (h : c ∈ L.cps.toList) : WordOk L ⟨#[c]⟩ := ⟨c, [], rfl, h, fun _ z => (nomatch z), Nat.zero_le _⟩
theorem WordOk.more {L w : Str} {c : Nat} (h : WordOk L w) (l : w.length ≤ 7) (hc : c ∈ (L ++ figS).cps.toList) : WordOk L (w ++ ⟨#[c]⟩) := by
  obtain ⟨d, r, e, h1, h2, h3⟩ := h
  rw [len_cps, e, List.length_cons] at l
  refine ⟨d, r ++ [c], by rw [app_cps, e]; rfl, h1, fun x hx => ?_, by rw [List.length_append]; show r.length + 1 ≤ 7; omega⟩
  rcases List.mem_append.mp hx with z | z
  · exact h2 x z
  · rw [List.mem_singleton.mp z]; exact hc
theorem low_small : ∀ c ∈ (smallS ++ figS).cps.toList, c < 128 := by decide +kernel
theorem low_great : ∀ c ∈ (greatS ++ figS).cps.toList, c < 128 := by decide +kernel
theorem WordOk.sok {L w : Str} (hL : ∀ c ∈ (L ++ figS).cps.toList, c < 128) (h : WordOk L w) : PyData.strOk w = true := by
  obtain ⟨d, r, e, h1, h2, h3⟩ := h
  unfold PyData.strOk
  rw [Array.all_eq_true_iff_forall_mem]
  intro x hx
  have hx : x ∈ w.cps.toList := hx.val
  rw [e] at hx
  rw [decide_eq_true_iff]
  rcases List.mem_cons.mp hx with z | z
  · rw [z]
    have := hL d (by rw [app_cps]; exact List.mem_append.mpr (.inl h1))
    omega
  · have := hL x (h2 x z)
    omega
theorem NameOk.sok {w : Str} (h : NameOk w) : PyData.strOk w = true := WordOk.sok low_small h
/-- the same by reckoning -/
def wordB (L : Str) (w : Str) : Bool := match w.cps.toList with
  | [] => false
  | c :: r => decide ((c :: r).length ≤ 8) && (decide (c ∈ L.cps.toList) && (c :: r).all fun x => decide (x ∈ (L ++ figS).cps.toList))
theorem wordB_iff {L w : Str} : wordB L w = true ↔ WordOk L w := by
  unfold wordB WordOk
  constructor
  · intro h
    split at h
    · cases h
    · rename_i c r e
      simp only [Bool.and_eq_true, decide_eq_true_iff, List.all_eq_true, List.length_cons] at h
      exact ⟨c, r, e, h.2.1, fun x hx => h.2.2 x (List.mem_cons_of_mem _ hx), by omega⟩
  · rintro ⟨c, r, e, h1, h2, h3⟩
    rw [e]
    simp only [Bool.and_eq_true, decide_eq_true_iff, List.all_eq_true, List.length_cons]
    refine ⟨by omega, h1, fun x hx => ?_⟩
    rcases List.mem_cons.mp hx with z | z
    · rw [z, app_cps]; exact List.mem_append.mpr (.inl h1)
    · exact h2 x z
theorem at_mem {l : List Nat} {i : Int} (h0 : 0 ≤ i) (h1 : i < l.length) : ∃ c, atI l i = some c ∧ c ∈ l := by
  obtain ⟨j, rfl⟩ := Int.eq_ofNat_of_zero_le h0
  have hj : j < l.length := by omega
  exact ⟨l[j], atI_nat (List.getElem?_eq_getElem hj), List.getElem_mem hj⟩
theorem at_memV {α : Type} {l : List α} {i : Int} (h0 : 0 ≤ i) (h1 : i < l.length) : ∃ c, atI l i = some c ∧ c ∈ l := by
  obtain ⟨j, rfl⟩ := Int.eq_ofNat_of_zero_le h0
  have hj : j < l.length := by omega
  exact ⟨l[j], atI_nat (List.getElem?_eq_getElem hj), List.getElem_mem hj⟩
theorem dig4 {d : Int} (h0 : 0 ≤ d) (h1 : d < 4) : ∃ c, Str.ofString (toString d) = ⟨#[c]⟩ ∧ c ∈ (smallS ++ figS).cps.toList ∧ c ∈ (greatS ++ figS).cps.toList := by
  have e : d = 0 ∨ d = 1 ∨ d = 2 ∨ d = 3 := by omega
  rcases e with rfl | rfl | rfl | rfl
  · exact ⟨48, by decide +kernel, by decide +kernel, by decide +kernel⟩
  · exact ⟨49, by decide +kernel, by decide +kernel, by decide +kernel⟩
  · exact ⟨50, by decide +kernel, by decide +kernel, by decide +kernel⟩
  · exact ⟨51, by decide +kernel, by decide +kernel, by decide +kernel⟩
theorem log_small {d : Int} (h0 : 0 ≤ d) (h1 : d < 1000000) : d.natAbs.log2 < 1920 := by
  have h : d.natAbs < 2 ^ 20 := by omega
  have := PySem.Flt.log2_lt_of (k := 20) (by decide) h
  omega
/-- in a longer list some of these is not -/
theorem not_all_in {α : Type} [DecidableEq α] : ∀ (l m : List α), l.Nodup → m.length < l.length → ∃ x ∈ l, x ∉ m
  | [], m, _, h => by simp at h
  | a :: l, m, nd, h => by
    by_cases ha : a ∈ m
    · obtain ⟨x, hx, hn⟩ := not_all_in l (m.erase a) (List.nodup_cons.mp nd).2 (by
        rw [List.length_erase_of_mem ha]
        have : 0 < m.length := List.length_pos_of_mem ha
        rw [List.length_cons] at h
        omega)
      refine ⟨x, List.mem_cons_of_mem _ hx, fun hm => hn ?_⟩
      have hne : x ≠ a := fun e => (List.nodup_cons.mp nd).1 (e ▸ hx)
      exact (List.mem_erase_of_ne hne).mpr hm
    · exact ⟨a, List.mem_cons_self, ha⟩
end Pf

/-! names in order, turns: pure -/
namespace Pf
open PySem PySem.Spec PyProof.Rows L2
def ltS (x y : Str) : Prop := x.cps.toList < y.cps.toList
instance : DecidableRel ltS := fun x y => inferInstanceAs (Decidable (x.cps.toList < y.cps.toList))
def leS (x y : Str) : Prop := ¬ ltS y x
instance : DecidableRel leS := fun x y => inferInstanceAs (Decidable (¬ ltS y x))
theorem ltS_irr (x : Str) : ¬ ltS x x := List.lt_irrefl _
theorem ltS_trans {x y z : Str} (a : ltS x y) (b : ltS y z) : ltS x z := List.lt_trans a b
theorem ltS_tri (x y : Str) : ltS x y ∨ x = y ∨ ltS y x := by
  by_cases a : ltS x y
  · exact .inl a
  · by_cases b : ltS y x
    · exact .inr (.inr b)
    · exact .inr (.inl (str_ext (List.le_antisymm (List.not_lt.mp b) (List.not_lt.mp a))))
theorem ltS_asymm {x y : Str} (a : ltS x y) : ¬ ltS y x := fun b => ltS_irr x (ltS_trans a b)
theorem leS_anti {x y : Str} (a : leS x y) (b : leS y x) : x = y := by
  rcases ltS_tri x y with h | h | h
  · exact absurd h b
  · exact h
  · exact absurd h a
theorem leS_of_lt {x y : Str} (a : ltS x y) : leS x y := ltS_asymm a
theorem leS_trans {x y z : Str} (a : leS x y) (b : leS y z) : leS x z := by
  intro h
  rcases ltS_tri x y with c | c | c
  · exact b (ltS_trans h c)
  · subst c; exact b h
  · exact a c
theorem leS_ne {x y : Str} (a : leS x y) (n : x ≠ y) : ltS x y := by
  rcases ltS_tri x y with h | h | h
  · exact h
  · exact absurd h n
  · exact absurd h a
theorem sortedS_pw : ∀ {ys : List Str}, sortedS ys = true → ys.Pairwise leS
  | [], _ => List.Pairwise.nil
  | x :: r, h => go r x h
where
  go : ∀ (r : List Str) (x : Str), risingS x r = true → (x :: r).Pairwise leS
  | [], x, _ => List.pairwise_cons.mpr ⟨fun _ z => (nomatch z), List.Pairwise.nil⟩
  | y :: r, x, h => by
    rw [risingS, Bool.and_eq_true, Bool.not_eq_true', ltCps_eq, decide_eq_false_iff_not] at h
    have t := go r y h.2
    refine List.pairwise_cons.mpr ⟨fun z hz => ?_, t⟩
    rcases List.mem_cons.mp hz with e | e
    · rw [e]; exact h.1
    · exact leS_trans h.1 ((List.pairwise_cons.mp t).1 z e)
theorem lt_le {ys : List Str} (h : ys.Pairwise ltS) : ys.Pairwise leS := h.imp leS_of_lt
theorem le_lt {ys : List Str} (h : ys.Pairwise leS) (n : ys.Nodup) : ys.Pairwise ltS := by
  have := h.and n
  exact this.imp fun ⟨a, b⟩ => leS_ne a b
theorem lt_nodup {ys : List Str} (h : ys.Pairwise ltS) : ys.Nodup := by
  show ys.Pairwise (· ≠ ·)
  exact h.imp fun {a b} l e => by rw [e] at l; exact ltS_irr _ l
theorem same_sorted {xs ys : List Str} (p : xs.Perm ys) (a : xs.Pairwise leS) (b : ys.Pairwise leS) : xs = ys := List.Perm.eq_of_pairwise (fun _ _ _ _ => leS_anti) a b p
/-! ### pairs -/
abbrev PS2 := Str × Str
def leP (p q : PS2) : Prop := ltS p.1 q.1 ∨ (p.1 = q.1 ∧ leS p.2 q.2)
theorem ltS_dec (x y : Str) : PySem.W.dataLt (.str x) (.str y) = decide (ltS x y) := PySem.W.dataLt_str x y
theorem eqv_str (x y : Str) : PyData.eqv (.str x) (.str y) = decide (x = y) := by
  simp only [PyData.eqv]
  exact Bool.eq_iff_iff.mpr (by simp)
theorem dataLe_P (p q : PS2) : PySem.W.dataLe false eP p q = true ↔ leP p q := by
  show (!PySem.W.dataLt (eP q) (eP p)) = true ↔ _
  unfold eP
  rw [PySem.W.dataLt_pair (by simp [PySem.W.alike]) (by simp [PySem.W.alike]), eqv_str, eqv_str, ltS_dec, ltS_dec]
  unfold leP
  by_cases h1 : q.1 = p.1
  · rw [decide_eq_true h1, if_pos rfl]
    by_cases h2 : q.2 = p.2
    · rw [decide_eq_true h2, if_pos rfl]
      simp only [Bool.not_false, true_iff]
      exact .inr ⟨h1.symm, by rw [h2]; exact ltS_irr _⟩
    · rw [decide_eq_false h2, if_neg Bool.false_ne_true, Bool.not_eq_true', decide_eq_false_iff_not]
      constructor
      · intro h; exact .inr ⟨h1.symm, h⟩
      · rintro (h | h)
        · rw [h1] at h; exact absurd h (ltS_irr _)
        · exact h.2
  · rw [decide_eq_false h1, if_neg Bool.false_ne_true, Bool.not_eq_true', decide_eq_false_iff_not]
    constructor
    · intro h
      rcases ltS_tri p.1 q.1 with c | c | c
      · exact .inl c
      · exact absurd c.symm h1
      · exact absurd c h
    · rintro (h | h)
      · exact ltS_asymm h
      · exact absurd h.1.symm h1
theorem leP_trans {p q r : PS2} (a : leP p q) (b : leP q r) : leP p r := by
  rcases a with a | ⟨a, a'⟩
  · rcases b with b | ⟨b, b'⟩
    · exact .inl (ltS_trans a b)
    · exact .inl (b ▸ a)
  · rcases b with b | ⟨b, b'⟩
    · exact .inl (a ▸ b)
    · exact .inr ⟨a.trans b, leS_trans a' b'⟩
theorem leP_total (p q : PS2) : leP p q ∨ leP q p := by
  rcases ltS_tri p.1 q.1 with h | h | h
  · exact .inl (.inl h)
  · by_cases c : ltS q.2 p.2
    · exact .inr (.inr ⟨h.symm, leS_of_lt c⟩)
    · exact .inl (.inr ⟨h, c⟩)
  · exact .inr (.inl h)
theorem leP_anti {p q : PS2} (a : leP p q) (b : leP q p) : p = q := by
  rcases a with a | ⟨a, a'⟩
  · rcases b with b | ⟨b, _⟩
    · exact absurd b (ltS_asymm a)
    · rw [b] at a; exact absurd a (ltS_irr _)
  · rcases b with b | ⟨_, b'⟩
    · rw [a] at b; exact absurd b (ltS_irr _)
    · exact Prod.ext a (leS_anti a' b')
theorem sort_P (ps : List PS2) : (ps.mergeSort (PySem.W.dataLe false eP)).Perm ps ∧ (ps.mergeSort (PySem.W.dataLe false eP)).Pairwise leP := by
  refine ⟨List.mergeSort_perm _ _, ?_⟩
  have h := List.pairwise_mergeSort (le := PySem.W.dataLe false eP) (fun a b c x y => (dataLe_P _ _).mpr (leP_trans ((dataLe_P _ _).mp x) ((dataLe_P _ _).mp y))) (fun a b => by
    rw [Bool.or_eq_true, dataLe_P, dataLe_P]; exact leP_total a b) ps
  exact h.imp fun x => (dataLe_P _ _).mp x
theorem alike_P (ps : List PS2) : PySem.W.AllAlike (ps.map eP) := by
  intro d hd d' hd'
  obtain ⟨p, _, rfl⟩ := List.mem_map.mp hd
  obtain ⟨q, _, rfl⟩ := List.mem_map.mp hd'
  simp [eP, PySem.W.alike, PySem.W.alikeAll]
theorem sortable_P (ps : List PS2) : PySem.W.Sortable (ps.map eP) := by
  refine .inl fun d hd => ?_
  obtain ⟨p, _, rfl⟩ := List.mem_map.mp hd
  exact ⟨_, _, rfl⟩
/-! ### turns -/
structure IsTurn (t : List PS2) : Prop where
  rise : (t.map (·.1)).Pairwise ltS
  perm : (t.map (·.2)).Perm (t.map (·.1))
  ne : ∀ p ∈ t, p.1 ≠ p.2
  ok : ∀ p ∈ t, NameOk p.1 ∧ NameOk p.2
  small : t.length ≤ 40
/-- where a turn leads a name -/
def look (t : List PS2) (n : Str) : Str := match t.find? fun p => decide (p.1 = n) with
  | some p => p.2
  | none => n
/-- exchanges, the first one first -/
def led : List PS2 → Str → Str
  | [], n => n
  | (a, b) :: r, n => led r (if n = a then b else if n = b then a else n)
theorem led_app (xs ys : List PS2) (n : Str) : led (xs ++ ys) n = led ys (led xs n) := by
  induction xs generalizing n with
  | nil => rfl
  | cons p r ih => obtain ⟨a, b⟩ := p; exact ih _
theorem led_inj : ∀ (ps : List PS2) (m n : Str), led ps m = led ps n → m = n
  | [], _, _, h => h
  | (a, b) :: r, m, n, h => by
    have h2 := led_inj r _ _ h
    by_cases m1 : m = a <;> by_cases n1 : n = a <;> by_cases m2 : m = b <;> by_cases n2 : n = b <;> simp_all
theorem led_mem {ns : List Str} : ∀ (ps : List PS2) (n : Str), (∀ p ∈ ps, p.1 ∈ ns ∧ p.2 ∈ ns) → n ∈ ns → led ps n ∈ ns
  | [], _, _, h => h
  | (a, b) :: r, n, hp, h => by
    refine led_mem r _ (fun p hp' => hp p (List.mem_cons_of_mem _ hp')) ?_
    have h0 := hp (a, b) List.mem_cons_self
    split
    · exact h0.2
    · split
      · exact h0.1
      · exact h
theorem led_out {ns : List Str} : ∀ (ps : List PS2) (n : Str), (∀ p ∈ ps, p.1 ∈ ns ∧ p.2 ∈ ns) → n ∉ ns → led ps n = n
  | [], _, _, _ => rfl
  | (a, b) :: r, n, hp, h => by
    have h0 := hp (a, b) List.mem_cons_self
    have e1 : n ≠ a := fun e => h (e ▸ h0.1)
    have e2 : n ≠ b := fun e => h (e ▸ h0.2)
    show led r (if n = a then b else if n = b then a else n) = n
    rw [if_neg e1, if_neg e2]
    exact led_out r n (fun p hp' => hp p (List.mem_cons_of_mem _ hp')) h
theorem dp_strs {K : PySem.W.Frag} {H : Hp} : ∀ ns : List Str, DpAll K H (ns.map V.str) (ns.map .str)
  | [] => .nil
  | n :: r => .cons (.str n) (dp_strs r)
theorem ty_same {K : PySem.W.Frag} {H H' : Hp} {x : V} {t : Value} (h : TyX K H x t) (s : Same H H') : TyX K H' x t := by
  cases h with
  | base b =>
    refine .base ?_
    cases b with
    | non => exact .non
    | bl y => exact .bl y
    | int i => exact .int i
    | str y => exact .str y
    | flt y => exact .flt y
    | lst e => exact .lst (s _ _ e)
    | frz e => exact .frz (s _ _ e)
    | tup e => exact .tup (s _ _ e)
    | dK e => exact .dK (s _ _ e)
    | dT e => exact .dT (s _ _ e)
    | ins e cl ha hn htk hm => exact .ins (s _ _ e) cl ha hn htk hm
  | byt b => exact .byt b
  | set e => exact .set (s _ _ e)
  | kList e c => exact .kList e c
  | kTuple e c => exact .kTuple e c
  | kDict e c => exact .kDict e c
  | fTuple e => exact .fTuple (s _ _ e)
  | fDict e => exact .fDict (s _ _ e)
end Pf

/-! moves in a dict, the turn of exchanges: pure -/
namespace Pf
open PySem PySem.Spec PyProof.Rows L2
def encM (p : PS2) : Key × V := (Sum.inr p.1, V.str p.2)
def mput (ms : List PS2) (k v : Str) : List PS2 := if (ms.any fun p => decide (p.1 = k)) = true then ms.map (fun p => if p.1 = k then (p.1, v) else p) else ms ++ [(k, v)]
theorem inr_dec (a b : Str) : decide ((Sum.inr a : Key) = Sum.inr b) = decide (a = b) := key_rr a b
theorem putK_enc (ms : List PS2) (k v : Str) : putK (ms.map encM) (Sum.inr k) (V.str v) = (mput ms k v).map encM := by
  unfold putK mput
  have e : ((ms.map encM).any fun kv => decide (kv.1 = (Sum.inr k : Key))) = ms.any fun p => decide (p.1 = k) := by
    rw [List.any_map]
    congr 1
    funext p
    exact inr_dec _ _
  rw [e]
  split
  · rw [List.map_map, List.map_map]
    refine List.map_congr_left fun p _ => ?_
    show (if (Sum.inr p.1 : Key) = Sum.inr k then ((Sum.inr p.1 : Key), V.str v) else encM p) = encM (if p.1 = k then (p.1, v) else p)
    by_cases h : p.1 = k
    · rw [if_pos h, if_pos (by rw [h])]; rfl
    · rw [if_neg h, if_neg (fun z => h (Sum.inr.inj z))]
  · rw [List.map_append]; rfl
theorem valV_enc (ms : List PS2) (k : Str) : (valV (ms.map encM) (Sum.inr k)).getD (V.str k) = V.str (look ms k) := by
  unfold valV look
  rw [List.find?_map]
  have e : ((fun kv : Key × V => decide (kv.1 = (Sum.inr k : Key))) ∘ encM) = fun p : PS2 => decide (p.1 = k) := by
    funext p; exact inr_dec _ _
  rw [e]
  cases ms.find? fun p => decide (p.1 = k) <;> rfl
theorem look_nil (n : Str) : look [] n = n := rfl
theorem look_cons (p : PS2) (r : List PS2) (n : Str) : look (p :: r) n = if p.1 = n then p.2 else look r n := by
  unfold look
  rw [List.find?_cons]
  by_cases h : p.1 = n
  · rw [if_pos h, decide_eq_true h]
  · rw [if_neg h, decide_eq_false h]
theorem look_map (k v : Str) : ∀ (ms : List PS2) (n : Str), (ms.any fun p => decide (p.1 = k)) = true → look (ms.map (fun p => if p.1 = k then (p.1, v) else p)) n = if n = k then v else look ms n
  | [], _, h => by simp at h
  | p :: r, n, h => by
    rw [List.map_cons, look_cons, look_cons]
    by_cases h1 : p.1 = k
    · rw [if_pos h1]
      by_cases h2 : n = k
      · rw [if_pos h2, if_pos (by show p.1 = n; rw [h1, h2])]
      · have h3 : ¬ p.1 = n := fun e => h2 (e ▸ h1)
        rw [if_neg h2, if_neg h3, if_neg h3]
        by_cases hr : (r.any fun p => decide (p.1 = k)) = true
        · rw [look_map k v r n hr, if_neg h2]
        · have : r.map (fun p => if p.1 = k then (p.1, v) else p) = r := by
            rw [List.map_congr_left (g := id)]
            · exact List.map_id _
            · intro q hq
              have : ¬ q.1 = k := fun e => hr (List.any_eq_true.mpr ⟨q, hq, decide_eq_true e⟩)
              rw [if_neg this]; rfl
          rw [this]
    · rw [if_neg h1]
      rw [List.any_cons, decide_eq_false h1, Bool.false_or] at h
      rw [look_map k v r n h]
      by_cases h2 : n = k
      · have h3 : ¬ p.1 = n := fun e => h1 (e.trans h2)
        rw [if_pos h2, if_pos h2, if_neg h3]
      · rw [if_neg h2, if_neg h2]
theorem look_app (ms : List PS2) (k v n : Str) (h : ¬ (ms.any fun p => decide (p.1 = k)) = true) : look (ms ++ [(k, v)]) n = if n = k then v else look ms n := by
  induction ms with
  | nil =>
    show look [(k, v)] n = _
    rw [look_cons]
    by_cases e : n = k
    · rw [if_pos e.symm, if_pos e]
    · rw [if_neg (fun z => e z.symm), if_neg e]
  | cons p r ih =>
    rw [List.any_cons, Bool.or_eq_true, not_or] at h
    have h1 : ¬ p.1 = k := fun e => h.1 (decide_eq_true e)
    rw [List.cons_append, look_cons, look_cons, ih h.2]
    by_cases e : n = k
    · have : ¬ p.1 = n := fun z => h1 (z.trans e)
      rw [if_pos e, if_pos e, if_neg this]
    · rw [if_neg e, if_neg e]
theorem look_put (ms : List PS2) (k v n : Str) : look (mput ms k v) n = if n = k then v else look ms n := by
  unfold mput
  split
  · rename_i h; exact look_map k v ms n h
  · rename_i h; exact look_app ms k v n h
theorem mput_len (ms : List PS2) (k v : Str) : (mput ms k v).length ≤ ms.length + 1 := by
  unfold mput
  split
  · rw [List.length_map]; omega
  · rw [List.length_append]; exact Nat.le_refl _
theorem mput_fst (ms : List PS2) (k v : Str) : (mput ms k v).map (·.1) = if (ms.any fun p => decide (p.1 = k)) = true then ms.map (·.1) else ms.map (·.1) ++ [k] := by
  unfold mput
  split
  · rw [List.map_map]
    refine List.map_congr_left fun p _ => ?_
    show (if p.1 = k then (p.1, v) else p).1 = p.1
    split <;> rfl
  · rw [List.map_append]; rfl
theorem mput_nd {ms : List PS2} (k v : Str) (h : (ms.map (·.1)).Nodup) : ((mput ms k v).map (·.1)).Nodup := by
  rw [mput_fst]
  split
  · exact h
  · rename_i hn
    rw [List.nodup_append]
    refine ⟨h, List.nodup_cons.mpr ⟨List.not_mem_nil, List.nodup_nil⟩, fun a ha b hb e => ?_⟩
    rw [List.mem_singleton.mp hb] at e
    obtain ⟨p, hp, rfl⟩ := List.mem_map.mp ha
    exact hn (List.any_eq_true.mpr ⟨p, hp, decide_eq_true e⟩)
theorem mput_mem {ms : List PS2} {k v : Str} {q : Str} (h : q ∈ (mput ms k v).map (·.1)) : q = k ∨ q ∈ ms.map (·.1) := by
  rw [mput_fst] at h
  split at h
  · exact .inr h
  · rcases List.mem_append.mp h with h | h
    · exact .inr h
    · exact .inl (List.mem_singleton.mp h)
theorem look_mem {ms : List PS2} (h : (ms.map (·.1)).Nodup) {k v : Str} : (k, v) ∈ ms ↔ k ∈ ms.map (·.1) ∧ look ms k = v := by
  induction ms with
  | nil => simp
  | cons p r ih =>
    have hn := List.nodup_cons.mp h
    rw [look_cons]
    constructor
    · intro hm
      rcases List.mem_cons.mp hm with e | hm
      · subst e
        exact ⟨List.mem_cons_self, if_pos rfl⟩
      · have := (ih hn.2).mp hm
        refine ⟨List.mem_cons_of_mem _ this.1, ?_⟩
        rw [if_neg (fun e : p.1 = k => hn.1 (by show p.1 ∈ _; rw [e]; exact this.1))]
        exact this.2
    · rintro ⟨hk, he⟩
      by_cases e : p.1 = k
      · rw [if_pos e] at he
        obtain ⟨a, b⟩ := p
        simp only at e he
        rw [e, he]
        exact List.mem_cons_self
      · rw [if_neg e] at he
        refine List.mem_cons_of_mem _ ((ih hn.2).mpr ⟨?_, he⟩)
        rcases List.mem_cons.mp hk with z | z
        · exact absurd z.symm e
        · exact z
theorem look_none {ms : List PS2} {k : Str} (h : k ∉ ms.map (·.1)) : look ms k = k := by
  induction ms with
  | nil => rfl
  | cons p r ih =>
    rw [look_cons, if_neg (fun e => h (by rw [← e]; exact List.mem_cons_self))]
    exact ih fun z => h (List.mem_cons_of_mem _ z)
/-- the moves of a dict, rising -/
def riseM (ms : List PS2) : List PS2 := (ms.filter fun p => decide (p.1 ≠ p.2)).mergeSort (PySem.W.dataLe false eP)
/-- a dict that says where exchanges lead -/
structure Says (ms : List PS2) (ps : List PS2) : Prop where
  nd : (ms.map (·.1)).Nodup
  to : ∀ n, look ms n = led ps n
  keys : ∀ k ∈ ms.map (·.1), ∃ p ∈ ps, k = p.1 ∨ k = p.2
theorem Says.step {ms ps : List PS2} (h : Says ms ps) (a b : Str) : Says (mput (mput ms a (look ms b)) b (look ms a)) ((a, b) :: ps) := by
  refine ⟨mput_nd _ _ (mput_nd _ _ h.nd), fun n => ?_, fun k hk => ?_⟩
  · rw [look_put, look_put]
    show _ = led ps (if n = a then b else if n = b then a else n)
    rw [← h.to]
    by_cases h1 : n = b
    · rw [if_pos h1]
      by_cases h2 : n = a
      · rw [if_pos h2, ← h1, h2]
      · rw [if_neg h2, if_pos h1]
    · rw [if_neg h1]
      by_cases h2 : n = a
      · rw [if_pos h2, if_pos h2]
      · rw [if_neg h2, if_neg h2, if_neg h1]
  · rcases mput_mem hk with e | hk
    · exact ⟨(a, b), List.mem_cons_self, .inr e⟩
    · rcases mput_mem hk with e | hk
      · exact ⟨(a, b), List.mem_cons_self, .inl e⟩
      · obtain ⟨p, hp, e⟩ := h.keys k hk
        exact ⟨p, List.mem_cons_of_mem _ hp, e⟩
theorem nd_of_fst {l : List PS2} (h : (l.map (·.1)).Nodup) : l.Nodup := by
  rw [List.Nodup, List.pairwise_map] at h
  exact h.imp fun {p q} hn e => hn (by rw [e])
theorem riseM_mem {ms : List PS2} (h : (ms.map (·.1)).Nodup) {k v : Str} : (k, v) ∈ riseM ms ↔ look ms k = v ∧ k ≠ v := by
  unfold riseM
  rw [(sort_P _).1.mem_iff, List.mem_filter, look_mem h, decide_eq_true_iff]
  constructor
  · rintro ⟨⟨_, h1⟩, h2⟩; exact ⟨h1, h2⟩
  · rintro ⟨h1, h2⟩
    refine ⟨⟨Classical.byContradiction fun hn => h2 ?_, h1⟩, h2⟩
    rw [← h1, look_none hn]
theorem fst_nd_filter {ms : List PS2} (h : (ms.map (·.1)).Nodup) (f : PS2 → Bool) : ((ms.filter f).map (·.1)).Nodup := by
  rw [List.Nodup, List.pairwise_map] at h ⊢
  exact h.filter f
theorem rise_lt {l : List PS2} (h : l.Pairwise leP) (n : (l.map (·.1)).Nodup) : (l.map (·.1)).Pairwise ltS := by
  rw [List.Nodup, List.pairwise_map] at n
  rw [List.pairwise_map]
  refine (h.and n).imp fun {p q} ⟨a, b⟩ => ?_
  rcases a with a | a
  · exact a
  · exact absurd a.1 b
theorem lt_leP {l : List PS2} (h : (l.map (·.1)).Pairwise ltS) : l.Pairwise leP := by
  rw [List.pairwise_map] at h
  exact h.imp fun x => .inl x
theorem riseM_rise {ms : List PS2} (h : (ms.map (·.1)).Nodup) : ((riseM ms).map (·.1)).Pairwise ltS := by
  refine rise_lt (sort_P _).2 ?_
  exact ((sort_P _).1.map (·.1)).nodup_iff.mpr (fst_nd_filter h _)
/-- a rising list of just the moves is that one -/
theorem rise_eq {ms l : List PS2} (h : (ms.map (·.1)).Nodup) (r : (l.map (·.1)).Pairwise ltS) (m : ∀ k v, (k, v) ∈ l ↔ look ms k = v ∧ k ≠ v) : riseM ms = l := by
  refine List.Perm.eq_of_pairwise (le := leP) (fun _ _ _ _ => leP_anti) (sort_P _).2 (lt_leP r) ?_
  refine (List.perm_ext_iff_of_nodup (nd_of_fst (lt_nodup (riseM_rise h))) (nd_of_fst (lt_nodup r))).mpr fun p => ?_
  obtain ⟨k, v⟩ := p
  rw [m]
  exact riseM_mem h
/-- the names with where they are led, those that move -/
theorem told_eq {ms ps : List PS2} (h : Says ms ps) {ns : List Str} (hp : ∀ p ∈ ps, p.1 ∈ ns ∧ p.2 ∈ ns) {ys : List Str} (py : ys.Perm ns) (sy : ys.Pairwise leS) (nd : ns.Nodup) :
    riseM ms = (ys.map fun n => (n, led ps n)).filter fun p => decide (p.1 ≠ p.2) := by
  refine rise_eq h.nd ?_ fun k v => ?_
  · rw [List.pairwise_map]
    refine List.Pairwise.filter _ ?_
    rw [List.pairwise_map]
    exact le_lt sy (py.nodup_iff.mpr nd)
  · rw [List.mem_filter, List.mem_map, decide_eq_true_iff, h.to]
    constructor
    · rintro ⟨⟨n, _, e⟩, h2⟩
      cases e
      exact ⟨rfl, h2⟩
    · rintro ⟨h1, h2⟩
      refine ⟨⟨k, py.mem_iff.mpr (Classical.byContradiction fun hn => h2 ?_), by rw [h1]⟩, h2⟩
      rw [← h1, led_out ps k hp hn]
theorem perm_of_sub {α : Type} [DecidableEq α] : ∀ {l m : List α}, l.Nodup → (∀ x ∈ l, x ∈ m) → m.length ≤ l.length → l.Perm m
  | [], m, _, _, h => by
    have : m = [] := List.length_eq_zero_iff.mp (Nat.le_zero.mp h)
    rw [this]
  | a :: l, m, nd, s, h => by
    have ha := s a List.mem_cons_self
    have hn := List.nodup_cons.mp nd
    have p := perm_of_sub (l := l) (m := m.erase a) hn.2 (fun x hx => (List.mem_erase_of_ne (fun e => hn.1 (by rw [← e]; exact hx))).mpr (s x (List.mem_cons_of_mem _ hx))) (by
      rw [List.length_erase_of_mem ha]
      rw [List.length_cons] at h
      omega)
    exact (p.cons a).trans (List.perm_cons_erase ha).symm
theorem led_name : ∀ (ps : List PS2) (n : Str), (∀ p ∈ ps, NameOk p.1 ∧ NameOk p.2) → NameOk n → NameOk (led ps n)
  | [], _, _, h => h
  | (a, b) :: r, n, hp, h => by
    have h0 := hp (a, b) List.mem_cons_self
    refine led_name r (if n = a then b else if n = b then a else n) (fun p hp' => hp p (List.mem_cons_of_mem _ hp')) ?_
    split
    · exact h0.2
    · split
      · exact h0.1
      · exact h
theorem turn_of_says {ms ps : List PS2} (h : Says ms ps) (ok : ∀ p ∈ ps, NameOk p.1 ∧ NameOk p.2) (small : (riseM ms).length ≤ 40) : IsTurn (riseM ms) := by
  have mem := fun k v => riseM_mem h.nd (k := k) (v := v)
  refine ⟨riseM_rise h.nd, ?_, ?_, ?_, small⟩
  · refine perm_of_sub ?_ (fun x hx => ?_) (by rw [List.length_map, List.length_map]; exact Nat.le_refl _)
    · rw [List.Nodup, List.pairwise_map]
      have nd := nd_of_fst (lt_nodup (riseM_rise h.nd))
      refine List.Pairwise.imp_of_mem (R := (· ≠ ·)) (fun {p q} hp hq hne e => hne ?_) nd
      have h1 := (mem p.1 p.2).mp hp
      have h2 := (mem q.1 q.2).mp hq
      rw [h.to] at h1 h2
      have : p.1 = q.1 := led_inj ps _ _ (by rw [h1.1, h2.1]; exact e)
      exact Prod.ext this e
    · obtain ⟨p, hp, rfl⟩ := List.mem_map.mp hx
      have h1 := (mem p.1 p.2).mp hp
      rw [h.to] at h1
      refine List.mem_map.mpr ⟨(p.2, led ps p.2), (mem _ _).mpr ⟨h.to _, fun e => h1.2 ?_⟩, rfl⟩
      exact led_inj ps _ _ (h1.1.trans e)
  · exact fun p hp => ((mem p.1 p.2).mp hp).2
  · intro p hp
    have h1 := (mem p.1 p.2).mp hp
    have hk : p.1 ∈ ms.map (·.1) := Classical.byContradiction fun hn => h1.2 (by rw [← h1.1, look_none hn])
    obtain ⟨q, hq, e⟩ := h.keys _ hk
    have n1 : NameOk p.1 := by
      rcases e with e | e <;> rw [e]
      · exact (ok q hq).1
      · exact (ok q hq).2
    refine ⟨n1, ?_⟩
    rw [← h1.1, h.to]
    exact led_name ps p.1 ok n1
theorem look_rise {ms : List PS2} (h : (ms.map (·.1)).Nodup) (n : Str) : look (riseM ms) n = look ms n := by
  have nd := lt_nodup (riseM_rise h)
  by_cases hn : n ∈ (riseM ms).map (·.1)
  · have hm := (look_mem nd (k := n)).mpr ⟨hn, rfl⟩
    exact ((riseM_mem h).mp hm).1.symm
  · rw [look_none hn]
    by_cases e : n = look ms n
    · exact e
    · exact absurd (List.mem_map.mpr ⟨(n, look ms n), (riseM_mem h).mpr ⟨rfl, e⟩, rfl⟩) hn
theorem merge_enc : ∀ (t acc : List PS2), mergeK (acc.map encM) (t.map encM) = (t.foldl (fun m p => mput m p.1 p.2) acc).map encM
  | [], acc => rfl
  | p :: r, acc => by
    show mergeK (putK (acc.map encM) (Sum.inr p.1) (V.str p.2)) (r.map encM) = _
    rw [putK_enc, merge_enc r]
    rfl
theorem fold_put : ∀ (t acc : List PS2), ((acc ++ t).map (·.1)).Nodup → t.foldl (fun m p => mput m p.1 p.2) acc = acc ++ t
  | [], acc, _ => by rw [List.append_nil]; rfl
  | p :: r, acc, h => by
    have hn : ¬ (acc.any fun q => decide (q.1 = p.1)) = true := fun z => by
      obtain ⟨q, hq, e⟩ := List.any_eq_true.mp z
      rw [List.map_append, List.nodup_append] at h
      exact h.2.2 q.1 (List.mem_map.mpr ⟨q, hq, rfl⟩) p.1 (List.mem_map.mpr ⟨p, List.mem_cons_self, rfl⟩) (of_decide_eq_true e)
    have e : mput acc p.1 p.2 = acc ++ [p] := by
      unfold mput
      rw [if_neg hn]
    show r.foldl _ (mput acc p.1 p.2) = _
    rw [e, fold_put r (acc ++ [p]) (by rw [List.append_assoc]; exact h), List.append_assoc]
    rfl
theorem merge_nd {t : List PS2} (h : (t.map (·.1)).Nodup) : mergeK [] (t.map encM) = t.map encM := by
  have := merge_enc t []
  rw [fold_put t [] h] at this
  exact this
theorem refs_of {K : PySem.W.Frag} {H : Hp} {xs : List V} {t : List PS2} (h : Prs K H xs t) : ∃ ps : List Addr, xs = ps.map V.ref ∧ Paired (fun p (kv : Key × V) => SqT K H p [kV kv.1, kv.2]) ps (t.map encM) := by
  induction h with
  | nil => exact ⟨[], rfl, .nil⟩
  | cons r _ ih =>
    obtain ⟨ps, e, p⟩ := ih
    obtain ⟨q, eq, s⟩ := r
    exact ⟨q :: ps, by rw [eq, e]; rfl, .cons s p⟩
theorem cut_to (xs : List V) {k : Nat} (h : k ≤ xs.length) : cutV xs none (some (k : Int)) = xs.take k := by
  unfold cutV
  rw [HT.sIx_none, HT.sIx_nat, Nat.min_eq_left h, List.drop_zero, Nat.sub_zero]
theorem cut_from (xs : List V) {k : Nat} (h : k ≤ xs.length) : cutV xs (some (k : Int)) none = xs.drop k := by
  unfold cutV
  rw [HT.sIx_none, HT.sIx_nat, Nat.min_eq_left h]
  exact List.take_of_length_le (by rw [List.length_drop]; exact Nat.le_refl _)
theorem But.skip {a p : Addr} {H H1 H2 : Hp} (x : But a H H1) (y : But p H1 H2) (n : H p = none) : But a H H2 := fun b o nb h => y b o (ne_of_none h n) (x b o nb h)
theorem But.toSame {p : Addr} {H H1 : Hp} (x : But p H H1) (n : H p = none) : Same H H1 := fun b o h => x b o (ne_of_none h n) h
theorem says_one {ms ms2 ps : List PS2} (h : Says ms ps) (h2 : Says ms2 ps) : riseM ms2 = riseM ms :=
  rise_eq h2.nd (riseM_rise h.nd) fun k v => by rw [riseM_mem h.nd, h.to, h2.to]
end Pf

namespace Pf
open PySem PySem.Spec PyProof.Rows L2
def topS (i : Nat) : Stmt := PySem.Challenge.pw_shutnames_k02_exchanges_one_after_anothe.main.body.getD i (.Pass ⟨0, 0, 0, 0⟩)
abbrev s_is_word : Stmt := topS 8
abbrev N_is_word : List Str := ["thing", "letters", "sign"]
theorem sc_is_word : FnScope N_is_word ["thing", "letters"] (defScope s_is_word) := ⟨rfl, rfl, rfl, by decide +kernel, rfl, by decide +kernel, by decide +kernel⟩
abbrev s_is_name : Stmt := topS 9
abbrev N_is_name : List Str := ["thing"]
theorem sc_is_name : FnScope N_is_name ["thing"] (defScope s_is_name) := ⟨rfl, rfl, rfl, by decide +kernel, rfl, by decide +kernel, by decide +kernel⟩
abbrev s_rises : Stmt := topS 10
abbrev N_rises : List Str := ["things", "at"]
theorem sc_rises : FnScope N_rises ["things"] (defScope s_rises) := ⟨rfl, rfl, rfl, by decide +kernel, rfl, by decide +kernel, by decide +kernel⟩
abbrev s_is_move : Stmt := topS 12
abbrev N_is_move : List Str := ["thing"]
theorem sc_is_move : FnScope N_is_move ["thing"] (defScope s_is_move) := ⟨rfl, rfl, rfl, by decide +kernel, rfl, by decide +kernel, by decide +kernel⟩
abbrev s_is_turn : Stmt := topS 13
abbrev N_is_turn : List Str := ["thing", "movers", "move", "name", "_", "to"]
theorem sc_is_turn : FnScope N_is_turn ["thing"] (defScope s_is_turn) := ⟨rfl, rfl, rfl, by decide +kernel, rfl, by decide +kernel, by decide +kernel⟩
abbrev s_check_turn : Stmt := topS 14
abbrev N_check_turn : List Str := ["thing"]
theorem sc_check_turn : FnScope N_check_turn ["thing"] (defScope s_check_turn) := ⟨rfl, rfl, rfl, by decide +kernel, rfl, by decide +kernel, by decide +kernel⟩
abbrev s_turn_from : Stmt := topS 15
abbrev N_turn_from : List Str := ["moves", "name", "to"]
theorem sc_turn_from : FnScope N_turn_from ["moves"] (defScope s_turn_from) := ⟨rfl, rfl, rfl, by decide +kernel, rfl, by decide +kernel, by decide +kernel⟩
abbrev s_turn_of : Stmt := topS 16
abbrev N_turn_of : List Str := ["swaps", "moves", "one", "other"]
theorem sc_turn_of : FnScope N_turn_of ["swaps"] (defScope s_turn_of) := ⟨rfl, rfl, rfl, by decide +kernel, rfl, by decide +kernel, by decide +kernel⟩
abbrev s_turned_name : Stmt := topS 17
abbrev N_turned_name : List Str := ["turn", "name"]
theorem sc_turned_name : FnScope N_turned_name ["turn", "name"] (defScope s_turned_name) := ⟨rfl, rfl, rfl, by decide +kernel, rfl, by decide +kernel, by decide +kernel⟩
abbrev s__law_mixed : Stmt := topS 19
abbrev N__law_mixed : List Str := ["_law_cell", "_law_k", "_law_number"]
theorem sc__law_mixed : FnScope N__law_mixed ["_law_cell", "_law_k"] (defScope s__law_mixed) := ⟨rfl, rfl, rfl, by decide +kernel, rfl, by decide +kernel, by decide +kernel⟩
abbrev s__law_pile : Stmt := topS 20
abbrev N__law_pile : List Str := ["_law_script", "_law_k", "_law_cell", "_law_digits"]
theorem sc__law_pile : FnScope N__law_pile ["_law_script", "_law_k"] (defScope s__law_pile) := ⟨rfl, rfl, rfl, by decide +kernel, rfl, by decide +kernel, by decide +kernel⟩
abbrev s__law_take : Stmt := topS 21
abbrev N__law_take : List Str := ["_law_pile_here", "_law_many", "_law_digit"]
theorem sc__law_take : FnScope N__law_take ["_law_pile_here", "_law_many"] (defScope s__law_take) := ⟨rfl, rfl, rfl, by decide +kernel, rfl, by decide +kernel, by decide +kernel⟩
abbrev s__law_name : Stmt := topS 22
abbrev N__law_name : List Str := ["_law_pile_here", "_law_kind", "_law_letters", "_law_name_here", "_law_k"]
theorem sc__law_name : FnScope N__law_name ["_law_pile_here"] (defScope s__law_name) := ⟨rfl, rfl, rfl, by decide +kernel, rfl, by decide +kernel, by decide +kernel⟩
abbrev s__law_names : Stmt := topS 23
abbrev N__law_names : List Str := ["_law_pile_here", "_law_many", "_law_found", "_law_k", "_law_name_here", "_law_one"]
theorem sc__law_names : FnScope N__law_names ["_law_pile_here", "_law_many"] (defScope s__law_names) := ⟨rfl, rfl, rfl, by decide +kernel, rfl, by decide +kernel, by decide +kernel⟩
abbrev s__law_strange : Stmt := topS 25
abbrev N__law_strange : List Str := ["_law_pile_here", "_law_words", "_law_others"]
theorem sc__law_strange : FnScope N__law_strange ["_law_pile_here"] (defScope s__law_strange) := ⟨rfl, rfl, rfl, by decide +kernel, rfl, by decide +kernel, by decide +kernel⟩
abbrev s__law_led : Stmt := topS 26
abbrev N__law_led : List Str := ["_law_pairs", "_law_name_here", "_law_one", "_law_other"]
theorem sc__law_led : FnScope N__law_led ["_law_pairs", "_law_name_here"] (defScope s__law_led) := ⟨rfl, rfl, rfl, by decide +kernel, rfl, by decide +kernel, by decide +kernel⟩
abbrev s__law_right : Stmt := topS 27
abbrev N__law_right : List Str := ["_law_pairs", "_law_names_here", "_law_handed", "_law_told", "_law_every", "_law_moved", "_law_name_here", "_law_one", "_law_pair"]
theorem sc__law_right : FnScope N__law_right ["_law_pairs", "_law_names_here"] (defScope s__law_right) := ⟨rfl, rfl, rfl, by decide +kernel, rfl, by decide +kernel, by decide +kernel⟩
abbrev s__law_refused : Stmt := topS 28
abbrev N__law_refused : List Str := ["_law_pairs"]
theorem sc__law_refused : FnScope N__law_refused ["_law_pairs"] (defScope s__law_refused) := ⟨rfl, rfl, rfl, by decide +kernel, rfl, by decide +kernel, by decide +kernel⟩
abbrev s_law : Stmt := topS 29
abbrev N_law : List Str := ["_law_script", "_law_early", "_law_k", "_law_pile_here", "_law_names_here", "_law_pairs", "_law_j", "_law_thing", "_law_at", "_law_one", "_law_bad", "_law_told"]
theorem sc_law : FnScope N_law ["_law_script"] (defScope s_law) := ⟨rfl, rfl, rfl, by decide +kernel, rfl, by decide +kernel, by decide +kernel⟩
structure Ad where
  f_is_word : Addr
  d_is_word : FuncData
  f_is_name : Addr
  d_is_name : FuncData
  f_rises : Addr
  d_rises : FuncData
  f_is_move : Addr
  d_is_move : FuncData
  f_is_turn : Addr
  d_is_turn : FuncData
  f_check_turn : Addr
  d_check_turn : FuncData
  f_turn_from : Addr
  d_turn_from : FuncData
  f_turn_of : Addr
  d_turn_of : FuncData
  f_turned_name : Addr
  d_turned_name : FuncData
  f__law_mixed : Addr
  d__law_mixed : FuncData
  f__law_pile : Addr
  d__law_pile : FuncData
  f__law_take : Addr
  d__law_take : FuncData
  f__law_name : Addr
  d__law_name : FuncData
  f__law_names : Addr
  d__law_names : FuncData
  f__law_strange : Addr
  d__law_strange : FuncData
  f__law_led : Addr
  d__law_led : FuncData
  f__law_right : Addr
  d__law_right : FuncData
  f__law_refused : Addr
  d__law_refused : FuncData
  f_law : Addr
  d_law : FuncData
  f_NoName : Addr
  f_NoTurn : Addr
  t_SMALL_LETTERS : Tok
  t_FIGURES : Tok
  t_MOST_SIGNS : Tok
structure Txt (K : PySem.W.Frag) (mg : Str → Option Value) (a : Ad) : Prop where
  F_is_word : Fun K "is_word" "is_word" s_is_word a.f_is_word a.d_is_word
  g_is_word : mg "is_word" = some (.ref a.f_is_word)
  b_is_word : Binds K a.d_is_word ["thing", "letters"] []
  F_is_name : Fun K "is_name" "is_name" s_is_name a.f_is_name a.d_is_name
  g_is_name : mg "is_name" = some (.ref a.f_is_name)
  b_is_name : Binds K a.d_is_name ["thing"] []
  F_rises : Fun K "rises" "rises" s_rises a.f_rises a.d_rises
  g_rises : mg "rises" = some (.ref a.f_rises)
  b_rises : Binds K a.d_rises ["things"] []
  F_is_move : Fun K "is_move" "is_move" s_is_move a.f_is_move a.d_is_move
  g_is_move : mg "is_move" = some (.ref a.f_is_move)
  b_is_move : Binds K a.d_is_move ["thing"] []
  F_is_turn : Fun K "is_turn" "is_turn" s_is_turn a.f_is_turn a.d_is_turn
  g_is_turn : mg "is_turn" = some (.ref a.f_is_turn)
  b_is_turn : Binds K a.d_is_turn ["thing"] []
  F_check_turn : Fun K "check_turn" "check_turn" s_check_turn a.f_check_turn a.d_check_turn
  g_check_turn : mg "check_turn" = some (.ref a.f_check_turn)
  b_check_turn : Binds K a.d_check_turn ["thing"] []
  F_turn_from : Fun K "turn_from" "turn_from" s_turn_from a.f_turn_from a.d_turn_from
  g_turn_from : mg "turn_from" = some (.ref a.f_turn_from)
  b_turn_from : Binds K a.d_turn_from ["moves"] []
  F_turn_of : Fun K "turn_of" "turn_of" s_turn_of a.f_turn_of a.d_turn_of
  g_turn_of : mg "turn_of" = some (.ref a.f_turn_of)
  b_turn_of : Binds K a.d_turn_of ["swaps"] []
  F_turned_name : Fun K "turned_name" "turned_name" s_turned_name a.f_turned_name a.d_turned_name
  g_turned_name : mg "turned_name" = some (.ref a.f_turned_name)
  b_turned_name : Binds K a.d_turned_name ["turn", "name"] []
  F__law_mixed : Fun K "_law_mixed" "_law_mixed" s__law_mixed a.f__law_mixed a.d__law_mixed
  g__law_mixed : mg "_law_mixed" = some (.ref a.f__law_mixed)
  b__law_mixed : Binds K a.d__law_mixed ["_law_cell", "_law_k"] []
  F__law_pile : Fun K "_law_pile" "_law_pile" s__law_pile a.f__law_pile a.d__law_pile
  g__law_pile : mg "_law_pile" = some (.ref a.f__law_pile)
  b__law_pile : Binds K a.d__law_pile ["_law_script", "_law_k"] []
  F__law_take : Fun K "_law_take" "_law_take" s__law_take a.f__law_take a.d__law_take
  g__law_take : mg "_law_take" = some (.ref a.f__law_take)
  b__law_take : Binds K a.d__law_take ["_law_pile_here", "_law_many"] []
  F__law_name : Fun K "_law_name" "_law_name" s__law_name a.f__law_name a.d__law_name
  g__law_name : mg "_law_name" = some (.ref a.f__law_name)
  b__law_name : Binds K a.d__law_name ["_law_pile_here"] []
  F__law_names : Fun K "_law_names" "_law_names" s__law_names a.f__law_names a.d__law_names
  g__law_names : mg "_law_names" = some (.ref a.f__law_names)
  b__law_names : Binds K a.d__law_names ["_law_pile_here", "_law_many"] []
  F__law_strange : Fun K "_law_strange" "_law_strange" s__law_strange a.f__law_strange a.d__law_strange
  g__law_strange : mg "_law_strange" = some (.ref a.f__law_strange)
  b__law_strange : Binds K a.d__law_strange ["_law_pile_here"] []
  F__law_led : Fun K "_law_led" "_law_led" s__law_led a.f__law_led a.d__law_led
  g__law_led : mg "_law_led" = some (.ref a.f__law_led)
  b__law_led : Binds K a.d__law_led ["_law_pairs", "_law_name_here"] []
  F__law_right : Fun K "_law_right" "_law_right" s__law_right a.f__law_right a.d__law_right
  g__law_right : mg "_law_right" = some (.ref a.f__law_right)
  b__law_right : Binds K a.d__law_right ["_law_pairs", "_law_names_here"] []
  F__law_refused : Fun K "_law_refused" "_law_refused" s__law_refused a.f__law_refused a.d__law_refused
  g__law_refused : mg "_law_refused" = some (.ref a.f__law_refused)
  b__law_refused : Binds K a.d__law_refused ["_law_pairs"] []
  F_law : Fun K "law" "law" s_law a.f_law a.d_law
  g_law : mg "law" = some (.ref a.f_law)
  b_law : Binds K a.d_law ["_law_script"] []
  c_SMALL_LETTERS : mg "SMALL_LETTERS" = some (.str ("abcdefghijklmnopqrstuvwxyz" : Str) a.t_SMALL_LETTERS)
  c_FIGURES : mg "FIGURES" = some (.str ("0123456789" : Str) a.t_FIGURES)
  c_MOST_SIGNS : mg "MOST_SIGNS" = some (.int 8 a.t_MOST_SIGNS)
  g_NoName : mg "NoName" = some (.ref a.f_NoName)
  x_NoName : PySem.W.excIn K a.f_NoName [.type "ValueError", .type "Exception", .type "BaseException", .type "object"] "ValueError.__new__" = true
  k_NoName : PySem.W.keepIn K (.ref a.f_NoName) = true
  r_NoName : PySem.W.subIn K (.ref a.f_NoName) (.type "BaseException") = some true
  y_NoName : PySem.W.typeIn K (.ref a.f_NoName) = some (.type "type")
  i_NoName : PySem.W.isClsIn K a.f_NoName = true
  s_NoName : PySem.W.subIn K (.ref a.f_NoName) (.ref a.f_NoName) = some true
  g_NoTurn : mg "NoTurn" = some (.ref a.f_NoTurn)
  x_NoTurn : PySem.W.excIn K a.f_NoTurn [.type "ValueError", .type "Exception", .type "BaseException", .type "object"] "ValueError.__new__" = true
  k_NoTurn : PySem.W.keepIn K (.ref a.f_NoTurn) = true
  r_NoTurn : PySem.W.subIn K (.ref a.f_NoTurn) (.type "BaseException") = some true
  y_NoTurn : PySem.W.typeIn K (.ref a.f_NoTurn) = some (.type "type")
  i_NoTurn : PySem.W.isClsIn K a.f_NoTurn = true
  s_NoTurn : PySem.W.subIn K (.ref a.f_NoTurn) (.ref a.f_NoTurn) = some true
  n_abs : mg "abs" = none
  n_all : mg "all" = none
  n_dict : mg "dict" = none
  n_int : mg "int" = none
  n_isinstance : mg "isinstance" = none
  n_len : mg "len" = none
  n_list : mg "list" = none
  n_range : mg "range" = none
  n_reversed : mg "reversed" = none
  n_sorted : mg "sorted" = none
  n_str : mg "str" = none
  n_tuple : mg "tuple" = none
end Pf

namespace Pf
open PySem PySem.Spec PyProof.Rows L2
/-! ### the pile -/
/-- a pile of digits, a cell, a count -/
def PileAt (H : Hp) (p : Addr) : Prop := ∃ d c n : Int, H p = some (.lst [.int d, .int c, .int n]) ∧ 0 ≤ d ∧ d < 2 ^ 700
theorem PileAt.but {H H' : Hp} {p q : Addr} (h : PileAt H p) (s : But q H H') (n : p ≠ q) : PileAt H' p := by
  obtain ⟨d, c, m, e, r⟩ := h
  exact ⟨d, c, m, s _ _ n e, r⟩
theorem PileAt.same {H H' : Hp} {p : Addr} (h : PileAt H p) (s : Same H H') : PileAt H' p := by
  obtain ⟨d, c, m, e, r⟩ := h
  exact ⟨d, c, m, s _ _ e, r⟩
theorem PileAt.tups {H H' : Hp} {p : Addr} (h : PileAt H p) (s : But p H H') : Tups H H' := by
  obtain ⟨d, c, m, e, r⟩ := h
  exact Tups.but s e
theorem PileAt.ne {H : Hp} {p q : Addr} (h : PileAt H p) (n : H q = none) : p ≠ q := by
  obtain ⟨d, c, m, e, r⟩ := h
  exact ne_of_none e n
local macro_rules | `(tactic| walk_at "rd") => `(tactic| (repeat' (first
  | with_reducible refine r_seq ?_ | with_reducible refine r_asg ?_ | with_reducible refine r_ret ?_ | with_reducible refine r_retN ?_ | with_reducible refine r_drop ?_ | with_reducible refine r_if ?_
  | with_reducible refine r_op ?_ | (with_reducible show tVar _ _ _ _; refine r_var rfl ?_) | with_reducible refine r_c ?_ | with_reducible refine r_I0 ?_ | (with_reducible refine r_I ?c ?_; (case c => first | (show (0 : Int) < _; first | decide | assumption | omega) | exact cmul_r ⟨by decide, by decide⟩ | exact cmul_l ⟨by decide, by decide⟩ | exact cmul_r (by first | assumption | constructor <;> omega) | (unfold CDiv; constructor <;> decide) | (unfold CPow; refine ⟨?_, ?_, ?_⟩ <;> decide))) | with_reducible refine r_name ?_ | (with_reducible show rIxL _ _ _ _ _; refine r_ixL (sqL (by assumption)) rfl ?_) | (with_reducible show rIxT _ _ _ _ _; refine r_ixT (by assumption) rfl ?_) | (with_reducible show rSetL _ _ _ _ _; refine r_setL (by assumption) rfl ?_) | with_reducible refine r_test ?_ | with_reducible refine r_tB ?_ | with_reducible refine r_bl ?_
  | with_reducible refine r_not ?_ | with_reducible refine r_and ?_ | with_reducible refine r_or ?_ | with_reducible refine r_andV ?_ | with_reducible refine r_orV ?_ | with_reducible refine r_notV ?_ | with_reducible refine r_ifE ?_
  | with_reducible refine r_cons ?_ | with_reducible refine r_nil ?_ | with_reducible refine r_cb ?_ | with_reducible refine r_call ?_ | with_reducible refine r_lst ?_ | with_reducible refine r_tup ?_ | with_reducible refine r_bm ?_ | with_reducible refine r_bm0 ?_
  | with_reducible refine r_un ?_ | with_reducible refine r_U ?_ | with_reducible refine r_eqI ?_ | with_reducible refine r_eqS ?_ | with_reducible refine r_neI ?_ | with_reducible refine r_neS ?_ | with_reducible refine r_sub ?_ | with_reducible refine r_gcons ?_ | with_reducible refine r_gnil ?_
  | with_reducible refine r_chain ?_ | with_reducible refine r_get2 ?_ | with_reducible refine r_iList ?_ | with_reducible refine r_iStr ?_ | with_reducible refine r_iTup ?_ | with_reducible refine r_iRev ?_ | with_reducible refine r_iItems ?_ | with_reducible refine r_rng ?_ | with_reducible refine r_inS ?_ | with_reducible refine r_bI ?_ | with_reducible refine r_abs ?_ | with_reducible refine r_sl ?_ | with_reducible refine r_next ?_ | with_reducible refine r_yes ?_
  | (with_reducible show rLen _ _ _ _; first | refine r_lenK (sqL (by assumption)) ?_ | refine r_lenK (by assumption) ?_ | refine r_lenTK (by assumption) ?_)
  | (with_reducible show tFor _ _ _ _ _ _; unfold tFor) | (with_reducible show tLc _ _ _ _ _ _ _ _; unfold tLc) | (with_reducible show tWhile _ _ _ _ _; unfold tWhile)
  | (with_reducible refine ⟨_, rfl, ?_⟩) | (with_reducible refine ⟨_, _, rfl, rfl, ?_⟩) | (with_reducible refine Or.inr ⟨_, rfl, ?_⟩) | (refine ⟨_, _, rfl, Or.inl (by assumption), ?_⟩; skip) | (refine ⟨_, _, rfl, Or.inr (by assumption), ?_⟩; skip)
  | (with_reducible refine iteNT ?_) | (with_reducible refine iteNF ?_) | (with_reducible refine iteT ?_) | (with_reducible refine iteF ?_)
  | (dsimp only [Bool.not_true, Bool.not_false, List.cons_append, List.nil_append]))))

def sp_mixed : Sp := fun vs H Q _ => ∃ c k : Int, vs = [.int c, .int k] ∧ ∀ r : Int, Q (.int r) H
def sp_take : Sp := fun vs H Q _ => ∃ (p : Addr) (m : Int), vs = [.ref p, .int m] ∧ PileAt H p ∧ 0 < m ∧ m < 2 ^ 100 ∧ ∀ (r : Int) (H' : Hp), 0 ≤ r → r < m → PileAt H' p → But p H H' → Q (.int r) H'
section
variable {P : Program} {w : World} {K : PySem.W.Frag} {mg : Str → Option Value} {base : Heap} {a : Ad}
theorem G__law_mixed (T : Txt K mg a) : FnOk P w K mg base CX0 1 a.f__law_mixed a.d__law_mixed ["_law_cell", "_law_k"] sp_mixed := by
  refine T.F__law_mixed.ok sc__law_mixed (fun vs H Q E h => ?_) (fun cdv A outer s H vs Q E hr h => ?_)
  · obtain ⟨c, k, rfl, _⟩ := h
    rfl
  · obtain ⟨c, k, rfl, q⟩ := h
    refine ⟨_, (pss_cons (ps_set (i := 2) sc__law_mixed.nd rfl (.inl rfl) (pe_op op_mod (pe_op op_add (pe_op op_add (pe_op op_mul (pv 0) pe_int) (pe_op op_mul (pv 1) pe_int)) pe_int) pe_int))
        (pss_cons (ps_set (i := 2) sc__law_mixed.nd rfl (.inl rfl) (pe_op op_mod (pe_op op_mul (pv 2) (pv 2)) pe_int))
        (pss_one (ps_ret (pe_op op_fdiv (pe_op op_mod (pe_op op_mul (pv 2) (pv 2)) pe_int) pe_int))))), ?_⟩
    walk_at "rd"
    exact q _
theorem G__law_take (T : Txt K mg a) : FnOk P w K mg base CX0 2 a.f__law_take a.d__law_take ["_law_pile_here", "_law_many"] sp_take := by
  refine T.F__law_take.ok sc__law_take (fun vs H Q E h => ?_) (fun cdv A outer s H vs Q E hr h => ?_)
  · obtain ⟨p, m, rfl, _⟩ := h
    rfl
  · obtain ⟨p, m, rfl, ⟨d, c, n, hp, d0, d1⟩, m0, m1, q⟩ := h
    have hD : CDivW d m := wide_div (b := 100) m0 (by omega) (by decide) (by decide)
    refine ⟨_, (pss_cons (ps_if (pt_cmpR op_eq (pe_ix (ix_listK K) (pv 0) pe_int (fun _ _ => rfl)) pe_int (nomark _)) (pss_cons (ps_asg (pe_op op_add (pe_ix (ix_listK K) (pv 0) pe_int (fun _ _ => rfl)) pe_int) (pg_sub (pv 0) pe_int set_list))
        (pss_one (ps_ret (pe_op op_mod (pe_call (G__law_mixed (K := K) T) (hr.mono (by decide)) (by rfl) T.g__law_mixed T.F__law_mixed.kp T.b__law_mixed .nil pass0 (pa_cons (pe_ix (ix_listK K) (pv 0) pe_int (fun _ _ => rfl)) (pa_cons (pe_ix (ix_listK K) (pv 0) pe_int (fun _ _ => rfl)) pa_nil))) (pv 1))))) pss_nil)
        (pss_cons (ps_set (i := 2) sc__law_take.nd rfl (.inl rfl) (pe_op op_mod (pe_ix (ix_listK K) (pv 0) pe_int (fun _ _ => rfl)) (pv 1)))
        (pss_cons (ps_asg (pe_op op_fdivW (pe_ix (ix_listK K) (pv 0) pe_int (fun _ _ => rfl)) (pv 1)) (pg_sub (pv 0) pe_int set_list))
        (pss_one (ps_ret (pv 2)))))), ?_⟩
    walk_at "rd"
    refine r_dec (fun e => ?_) (fun e => ?_)
    · walk_at "rd"
      have h2 : (upd H p (.lst [.int d, .int c, .int (n + 1)])) p = some (.lst [.int d, .int c, .int (n + 1)]) := upd_same
      refine r_ixL (sqL h2) rfl ?_
      walk_at "rd"
      refine r_ixL (sqL h2) rfl ?_
      walk_at "rd"
      refine ⟨_, _, rfl, fun r => ?_⟩
      walk_at "rd"
      exact q _ _ (Int.emod_nonneg _ (by omega)) (Int.emod_lt_of_pos _ m0) ⟨d, c, n + 1, h2, d0, d1⟩ ((But.refl p H).put)
    · walk_at "rd"
      refine r_I hD ?_
      walk_at "rd"
      exact q _ _ (Int.emod_nonneg _ (by omega)) (Int.emod_lt_of_pos _ m0) ⟨d / m, c, n, upd_same, Int.ediv_nonneg d0 (by omega), Int.lt_of_le_of_lt (Int.ediv_le_self _ d0) d1⟩ ((But.refl p H).put)
def sp_pile (K : PySem.W.Frag) : Sp := fun vs H Q _ => ∃ (b : Addr) (ns : List Int) (k : Nat), vs = [.ref b, .int k] ∧ SqL K H b (ns.map V.int) ∧ ∀ (p : Addr) (H' : Hp), H p = none → Same H H' → PileAt H' p → Q (.ref p) H'
theorem G__law_pile (T : Txt K mg a) : FnOk P w K mg base CX0 1 a.f__law_pile a.d__law_pile ["_law_script", "_law_k"] (sp_pile K) := by
  refine T.F__law_pile.ok sc__law_pile (fun vs H Q E h => ?_) (fun cdv A outer s H vs Q E hr h => ?_)
  · obtain ⟨b, ns, k, rfl, _⟩ := h
    rfl
  · obtain ⟨b, ns, k, rfl, hs, q⟩ := h
    refine ⟨_, (pss_cons (ps_set (i := 2) sc__law_pile.nd rfl (.inl rfl) pe_int)
        (C8.pss_cut (ps_if (pt_cmpR op_lt (pv 1) (pe_callB (call_len_seqK K) (by rfl) T.n_len PySem.boot_len (pa_cons (pv 0) pa_nil)) (nomark _)) (pss_one (ps_set (i := 2) sc__law_pile.nd rfl (.inl rfl) (pe_ix (ix_listK K) (pv 0) (pv 1) (fun _ _ => rfl)))) pss_nil)
        (pss_cons (ps_set (i := 3) sc__law_pile.nd rfl (.inl rfl) (pe_op op_mod (pv 2) (pe_op op_mulW (pe_op op_mulW (pe_op op_pow pe_int pe_int) (pe_op op_pow pe_int pe_int)) (pe_op op_pow pe_int pe_int))))
        (pss_one (ps_ret (pe_lst (pa_cons (pe_op op_mulW (pv 3) (pe_callTy call_int1 (by rfl) T.n_int (by decide +kernel) (pa_cons (pe_cmpR op_ge (pe_callB call_abs (by rfl) T.n_abs (by decide +kernel) (pa_cons (pv 2) pa_nil)) (pe_op op_pow pe_int pe_int) (nomark _)) pa_nil))) (pa_cons (pe_op op_mod (pv 2) pe_int) (pa_cons (pe_op op_mul pe_int (pv 1)) pa_nil))))))))), ?_⟩
    walk_at "rd"
    refine ⟨fun σ' H' => ∃ c : Int, σ' = [some (.ref b), some (.int k), some (.int c), none] ∧ H' = H, ?_, ?_⟩
    · walk_at "rd"
      refine r_dec (fun e => ?_) (fun e => ?_)
      · walk_at "rd"
        rw [List.length_map] at e
        have hk : k < ns.length := by omega
        refine r_ixL hs (atI_nat (j := k) (v := .int ns[k]) (by rw [List.getElem?_map, List.getElem?_eq_getElem hk]; rfl)) ?_
        walk_at "rd"
      · walk_at "rd"
    · rintro σ' H' ⟨c, rfl, rfl⟩
      walk_at "rd"
      refine r_I (wide_mul (a := 200) (b := 200) (by decide +kernel) (by decide +kernel) (by decide) (by decide) (by decide)) ?_
      walk_at "rd"
      refine r_I (wide_mul (a := 400) (b := 200) (by decide +kernel) (by decide +kernel) (by decide) (by decide) (by decide)) ?_
      have hB : (0 : Int) < 10 ^ Int.toNat 60 * 10 ^ Int.toNat 60 * 10 ^ Int.toNat 60 := by decide +kernel
      have hB2 : (10 : Int) ^ Int.toNat 60 * 10 ^ Int.toNat 60 * 10 ^ Int.toNat 60 < 2 ^ 700 := by decide +kernel
      generalize hBB : (10 : Int) ^ Int.toNat 60 * 10 ^ Int.toNat 60 * 10 ^ Int.toNat 60 = B at hB hB2 ⊢
      have r0 := Int.emod_nonneg c (show B ≠ 0 by omega)
      have r1 := Int.emod_lt_of_pos c hB
      have rn : (c % B).natAbs < 2 ^ 700 := by omega
      walk_at "rd"
      generalize (10 : Int) ^ Int.toNat 18 = B2
      generalize (decide (B2 ≤ if c < 0 then -c else c)) = bb
      have b1 : (if bb = true then (1 : Int) else 0) = 1 ∨ (if bb = true then (1 : Int) else 0) = 0 := by cases bb <;> simp
      generalize (if bb = true then (1 : Int) else 0) = t at b1 ⊢
      refine r_I (wide_mul (a := 700) (b := 2) rn (by omega) (by decide) (by decide) (by decide)) ?_
      walk_at "rd"
      refine ⟨by show 3 ≤ sizeLine; decide, fun p hp => q p _ hp (same_new hp) ⟨_, _, _, upd_same, ?_, ?_⟩⟩
      · rcases b1 with e | e <;> rw [e] <;> omega
      · rcases b1 with e | e <;> rw [e] <;> omega
end
end Pf

namespace Pf
open PySem PySem.Spec PyProof.Rows L2
local macro_rules | `(tactic| walk_at "rd") => `(tactic| (repeat' (first
  | with_reducible refine r_seq ?_ | with_reducible refine r_asg ?_ | with_reducible refine r_ret ?_ | with_reducible refine r_retN ?_ | with_reducible refine r_drop ?_ | with_reducible refine r_if ?_
  | with_reducible refine r_op ?_ | (with_reducible show tVar _ _ _ _; refine r_var rfl ?_) | with_reducible refine r_c ?_ | with_reducible refine r_I0 ?_ | (with_reducible refine r_I ?c ?_; (case c => first | (show (0 : Int) < _; first | decide | assumption | omega) | exact cmul_r ⟨by decide, by decide⟩ | exact cmul_l ⟨by decide, by decide⟩ | exact cmul_r (by first | assumption | constructor <;> omega) | (unfold CDiv; constructor <;> decide) | (unfold CPow; refine ⟨?_, ?_, ?_⟩ <;> decide))) | with_reducible refine r_name ?_ | (with_reducible show rIxL _ _ _ _ _; refine r_ixL (sqL (by assumption)) rfl ?_) | (with_reducible show rIxT _ _ _ _ _; refine r_ixT (by assumption) rfl ?_) | (with_reducible show rSetL _ _ _ _ _; refine r_setL (by assumption) rfl ?_) | with_reducible refine r_test ?_ | with_reducible refine r_tB ?_ | with_reducible refine r_bl ?_
  | with_reducible refine r_not ?_ | with_reducible refine r_and ?_ | with_reducible refine r_or ?_ | with_reducible refine r_andV ?_ | with_reducible refine r_orV ?_ | with_reducible refine r_notV ?_ | with_reducible refine r_ifE ?_
  | with_reducible refine r_cons ?_ | with_reducible refine r_nil ?_ | with_reducible refine r_cb ?_ | with_reducible refine r_call ?_ | with_reducible refine r_lst ?_ | with_reducible refine r_tup ?_ | with_reducible refine r_bm ?_ | with_reducible refine r_bm0 ?_
  | with_reducible refine r_un ?_ | with_reducible refine r_U ?_ | with_reducible refine r_eqI ?_ | with_reducible refine r_eqS ?_ | with_reducible refine r_neI ?_ | with_reducible refine r_neS ?_ | with_reducible refine r_sub ?_ | with_reducible refine r_gcons ?_ | with_reducible refine r_gnil ?_
  | with_reducible refine r_chain ?_ | with_reducible refine r_get2 ?_ | with_reducible refine r_iList ?_ | with_reducible refine r_iStr ?_ | with_reducible refine r_iTup ?_ | with_reducible refine r_iRev ?_ | with_reducible refine r_iItems ?_ | with_reducible refine r_rng ?_ | with_reducible refine r_inS ?_ | with_reducible refine r_bI ?_ | with_reducible refine r_abs ?_ | with_reducible refine r_sl ?_ | with_reducible refine r_next ?_ | with_reducible refine r_yes ?_
  | (with_reducible show rLen _ _ _ _; first | refine r_lenK (sqL (by assumption)) ?_ | refine r_lenK (by assumption) ?_ | refine r_lenTK (by assumption) ?_)
  | (with_reducible show tFor _ _ _ _ _ _; unfold tFor) | (with_reducible show tLc _ _ _ _ _ _ _ _; unfold tLc) | (with_reducible show tWhile _ _ _ _ _; unfold tWhile)
  | (with_reducible refine ⟨_, rfl, ?_⟩) | (with_reducible refine ⟨_, _, rfl, rfl, ?_⟩) | (with_reducible refine Or.inr ⟨_, rfl, ?_⟩) | (refine ⟨_, _, rfl, Or.inl (by assumption), ?_⟩; skip) | (refine ⟨_, _, rfl, Or.inr (by assumption), ?_⟩; skip)
  | (with_reducible refine iteNT ?_) | (with_reducible refine iteNF ?_) | (with_reducible refine iteT ?_) | (with_reducible refine iteF ?_)
  | (dsimp only [Bool.not_true, Bool.not_false, List.cons_append, List.nil_append]))))

def sp_name : Sp := fun vs H Q _ => ∃ p : Addr, vs = [.ref p] ∧ PileAt H p ∧ ∀ (w : Str) (H' : Hp), NameOk w → PileAt H' p → But p H H' → Q (.str w) H'
section
variable {P : Program} {w : World} {K : PySem.W.Frag} {mg : Str → Option Value} {base : Heap} {a : Ad}
theorem G__law_name (T : Txt K mg a) : FnOk P w K mg base CX0 3 a.f__law_name a.d__law_name ["_law_pile_here"] sp_name := by
  refine T.F__law_name.ok sc__law_name (fun vs H Q E h => ?_) (fun cdv A outer s H vs Q E hr h => ?_)
  · obtain ⟨p, rfl, _⟩ := h
    rfl
  · obtain ⟨p, rfl, hp, q⟩ := h
    refine ⟨_, (pss_cons (ps_set (i := 1) sc__law_name.nd rfl (.inl rfl) (pe_call (G__law_take (K := K) T) (hr.mono (by decide)) (by rfl) T.g__law_take T.F__law_take.kp T.b__law_take .nil pass0 (pa_cons (pv 0) (pa_cons pe_int pa_nil))))
        (pss_cons (ps_set (i := 2) sc__law_name.nd rfl (.inl rfl) pe_str)
        (pss_cons (ps_set (i := 3) sc__law_name.nd rfl (.inl rfl) (pe_ix ix_str (pv 2) (pe_call (G__law_take (K := K) T) (hr.mono (by decide)) (by rfl) T.g__law_take T.F__law_take.kp T.b__law_take .nil pass0 (pa_cons (pv 0) (pa_cons (pe_ix (ix_listK K) (pe_lst (pa_cons pe_int (pa_cons pe_int pa_nil))) (pe_callTy call_int1 (by rfl) T.n_int (by decide +kernel) (pa_cons (pe_cmpR op_gt (pv 1) pe_int (nomark _)) pa_nil)) (fun _ _ => rfl)) pa_nil))) (fun _ _ => rfl)))
        (C8.pss_cut (ps_if (pt_cmpR op_eq (pv 1) pe_int (nomark _)) (pss_one (ps_set (i := 3) sc__law_name.nd rfl (.inl rfl) (pe_op op_add_str (pv 3) (pe_callTy call_str_int (by rfl) T.n_str (by decide +kernel) (pa_cons (pe_call (G__law_take (K := K) T) (hr.mono (by decide)) (by rfl) T.g__law_take T.F__law_take.kp T.b__law_take .nil pass0 (pa_cons (pv 0) (pa_cons pe_int pa_nil))) pa_nil))))) pss_nil)
        (pss_cons (ps_if (pt_cmpR op_eq (pv 1) pe_int (nomark _)) (pss_one (ps_for PassesOwn.never rfl (pi_range1 (by rfl) T.n_range (pa_cons (pe_op op_add pe_int (pe_call (G__law_take (K := K) T) (hr.mono (by decide)) (by rfl) T.g__law_take T.F__law_take.kp T.b__law_take .nil pass0 (pa_cons (pv 0) (pa_cons pe_int pa_nil)))) pa_nil)) (pg_name (i := 4) sc__law_name.nd rfl (by first | exact Or.inl rfl | exact Or.inr rfl)) (pss_one (ps_set (i := 3) sc__law_name.nd rfl (.inl rfl) (pe_op op_add_str (pv 3) (pe_ix ix_str (pe_op op_add_str (pv 2) pe_str) (pe_call (G__law_take (K := K) T) (hr.mono (by decide)) (by rfl) T.g__law_take T.F__law_take.kp T.b__law_take .nil pass0 (pa_cons (pv 0) (pa_cons pe_int pa_nil))) (fun _ _ => rfl))))))) pss_nil)
        (pss_one (ps_ret (pv 3)))))))), ?_⟩
    walk_at "rd"
    refine ⟨p, 4, rfl, hp, by decide, by decide, fun kd H1 k0 k1 hp1 b1 => ?_⟩
    walk_at "rd"
    refine ⟨by show 2 ≤ sizeLine; decide, fun l nl => ?_⟩
    walk_at "rd"
    have hix : ∃ m : Int, atI [V.int 5, V.int 26] (if decide (1 < kd) = true then (1 : Int) else 0) = some (.int m) ∧ (m = 5 ∨ m = 26) := by
      by_cases e : 1 < kd
      · exact ⟨26, by rw [decide_eq_true e]; rfl, .inr rfl⟩
      · exact ⟨5, by rw [decide_eq_false e]; rfl, .inl rfl⟩
    obtain ⟨m, em, hm⟩ := hix
    refine r_ixL (sqL upd_same) em ?_
    walk_at "rd"
    have hp2 : PileAt (upd H1 l (.lst [.int 5, .int 26])) p := hp1.same (same_new nl)
    have b2 : But p H (upd H1 l (.lst [.int 5, .int 26])) := b1.new nl
    refine ⟨p, m, rfl, hp2, by omega, by omega, fun r H2 r0 r1 hp3 b3 => ?_⟩
    obtain ⟨c, ec, hc⟩ := at_mem (l := smallS.cps.toList) (i := r) r0 (by
      have e : smallS.cps.toList.length = 26 := by decide +kernel
      omega)
    refine r_ixS (z := smallS) (by decide +kernel) ec ?_
    walk_at "rd"
    have b4 := b2.trans b3
    refine ⟨fun σ' H' => ∃ nm : Str, σ' = [some (.ref p), some (.int kd), some (.str smallS), some (.str nm), none] ∧ NameOk nm ∧ (kd = 3 → nm.length = 1) ∧ PileAt H' p ∧ But p H H', ?_, ?_⟩
    · walk_at "rd"
      refine r_dec (fun e => ?_) (fun e => ?_)
      · walk_at "rd"
        refine ⟨p, 4, rfl, hp3, by decide, by decide, fun d H3 d0 d1 hp5 b5 => ?_⟩
        obtain ⟨y, ey, hy, _⟩ := dig4 d0 d1
        refine ⟨d, rfl, log_small d0 (by omega), ?_⟩
        rw [ey]
        refine ⟨_, _, rfl, rfl, by show 1 + 1 ≤ sizeLine; decide, ?_⟩
        walk_at "rd"
        exact ⟨(WordOk.one (L := smallS) hc).more (by show 1 ≤ 7; decide) hy, by omega, hp5, b4.trans b5⟩
      · walk_at "rd"
        exact ⟨WordOk.one hc, fun _ => rfl, hp3, b4⟩
    · rintro σ' H' ⟨nm, rfl, hn, hl, hp', hb'⟩
      walk_at "rd"
      refine r_dec (fun e => ?_) (fun e => ?_)
      · walk_at "rd"
        refine ⟨p, 7, rfl, hp', by decide, by decide, fun m H3 m0 m1 hp5 b5 => ?_⟩
        walk_at "rd"
        refine ⟨by omega, by omega, ?_⟩
        refine forN_range (fun i σ H4 => ∃ (nm : Str) (y : Option V), σ = [some (.ref p), some (.int kd), some (.str smallS), some (.str nm), y] ∧ NameOk nm ∧ nm.length = 1 + i ∧ PileAt H4 p ∧ But p H H4) ⟨nm, none, rfl, hn, hl e, hp5, hb'.trans b5⟩ (fun i σ H4 hi hP => ?_) (fun σ H4 hP => ?_)
        · obtain ⟨nm, y, rfl, hn, hl, hp6, b6⟩ := hP
          walk_at "rd"
          refine ⟨by show 26 + 10 ≤ sizeLine; decide, ?_⟩
          walk_at "rd"
          refine ⟨p, 36, rfl, hp6, by decide, by decide, fun r H5 r0 r1 hp7 b7 => ?_⟩
          obtain ⟨c, ec, hc⟩ := at_mem (l := (smallS ++ figS).cps.toList) (i := r) r0 (by
            have e : (smallS ++ figS).cps.toList.length = 36 := by decide +kernel
            omega)
          refine r_ixS (z := smallS ++ figS) (by decide +kernel) ec ?_
          have hz : nm.length + (⟨#[c]⟩ : Str).length ≤ sizeLine := by
            show nm.length + 1 ≤ sizeLine
            rw [sizeLine_eq]; omega
          refine ⟨_, _, rfl, rfl, hz, ?_⟩
          walk_at "rd"
          refine ⟨_, some (.int (0 + (i : Nat))), rfl, hn.more (by omega) hc, ?_, hp7, b6.trans b7⟩
          rw [len_cps, app_cps, List.length_append, ← len_cps]
          show nm.length + 1 = 1 + (i + 1)
          omega
        · obtain ⟨nm, y, rfl, hn, hl, hp6, b6⟩ := hP
          walk_at "rd"
          exact q _ _ hn hp6 b6
      · walk_at "rd"
        exact q _ _ hn hp' hb'
end
end Pf

namespace Pf
open PySem PySem.Spec PyProof.Rows L2
local macro_rules | `(tactic| walk_at "rd") => `(tactic| (repeat' (first
  | with_reducible refine r_seq ?_ | with_reducible refine r_asg ?_ | with_reducible refine r_ret ?_ | with_reducible refine r_retN ?_ | with_reducible refine r_drop ?_ | with_reducible refine r_if ?_
  | with_reducible refine r_op ?_ | (with_reducible show tVar _ _ _ _; refine r_var rfl ?_) | with_reducible refine r_c ?_ | with_reducible refine r_I0 ?_ | (with_reducible refine r_I ?c ?_; (case c => first | (show (0 : Int) < _; first | decide | assumption | omega) | exact cmul_r ⟨by decide, by decide⟩ | exact cmul_l ⟨by decide, by decide⟩ | exact cmul_r (by first | assumption | constructor <;> omega) | (unfold CDiv; constructor <;> decide) | (unfold CPow; refine ⟨?_, ?_, ?_⟩ <;> decide))) | with_reducible refine r_name ?_ | (with_reducible show rIxL _ _ _ _ _; refine r_ixL (sqL (by assumption)) rfl ?_) | (with_reducible show rIxT _ _ _ _ _; refine r_ixT (by assumption) rfl ?_) | (with_reducible show rSetL _ _ _ _ _; refine r_setL (by assumption) rfl ?_) | with_reducible refine r_test ?_ | with_reducible refine r_tB ?_ | with_reducible refine r_bl ?_
  | with_reducible refine r_not ?_ | with_reducible refine r_and ?_ | with_reducible refine r_or ?_ | with_reducible refine r_andV ?_ | with_reducible refine r_orV ?_ | with_reducible refine r_notV ?_ | with_reducible refine r_ifE ?_
  | with_reducible refine r_cons ?_ | with_reducible refine r_nil ?_ | with_reducible refine r_cb ?_ | with_reducible refine r_call ?_ | with_reducible refine r_lst ?_ | with_reducible refine r_tup ?_ | with_reducible refine r_bm ?_ | with_reducible refine r_bm0 ?_
  | with_reducible refine r_un ?_ | with_reducible refine r_U ?_ | with_reducible refine r_eqI ?_ | with_reducible refine r_eqS ?_ | with_reducible refine r_neI ?_ | with_reducible refine r_neS ?_ | with_reducible refine r_sub ?_ | with_reducible refine r_gcons ?_ | with_reducible refine r_gnil ?_
  | with_reducible refine r_chain ?_ | with_reducible refine r_get2 ?_ | with_reducible refine r_iList ?_ | with_reducible refine r_iStr ?_ | with_reducible refine r_iTup ?_ | with_reducible refine r_iRev ?_ | with_reducible refine r_iItems ?_ | with_reducible refine r_rng ?_ | with_reducible refine r_inS ?_ | with_reducible refine r_bI ?_ | with_reducible refine r_abs ?_ | with_reducible refine r_sl ?_ | with_reducible refine r_next ?_ | with_reducible refine r_yes ?_
  | (with_reducible show rLen _ _ _ _; first | refine r_lenK (sqL (by assumption)) ?_ | refine r_lenK (by assumption) ?_ | refine r_lenTK (by assumption) ?_)
  | (with_reducible show tFor _ _ _ _ _ _; unfold tFor) | (with_reducible show tLc _ _ _ _ _ _ _ _; unfold tLc) | (with_reducible show tWhile _ _ _ _ _; unfold tWhile)
  | (with_reducible refine ⟨_, rfl, ?_⟩) | (with_reducible refine ⟨_, _, rfl, rfl, ?_⟩) | (with_reducible refine Or.inr ⟨_, rfl, ?_⟩) | (refine ⟨_, _, rfl, Or.inl (by assumption), ?_⟩; skip) | (refine ⟨_, _, rfl, Or.inr (by assumption), ?_⟩; skip)
  | (with_reducible refine iteNT ?_) | (with_reducible refine iteNF ?_) | (with_reducible refine iteT ?_) | (with_reducible refine iteF ?_)
  | (dsimp only [Bool.not_true, Bool.not_false, List.cons_append, List.nil_append]))))

/-- unlike names, drawn -/
def sp_names (most : Int) : Sp := fun vs H Q _ => ∃ (p : Addr) (m : Int), vs = [.ref p, .int m] ∧ PileAt H p ∧ 0 ≤ m ∧ m ≤ 8 ∧ ∀ (l : Addr) (ns : List Str) (H' : Hp), (ns.length : Int) = m → ns.Nodup → (∀ n ∈ ns, NameOk n) → H l = none → H' l = some (.lst (ns.map V.str)) → PileAt H' p → But p H H' → Q (.ref l) H'
theorem flat_strs (ns : List Str) : (ns.map V.str).all flatV = true := by
  rw [List.all_eq_true]
  intro x hx
  obtain ⟨n, _, rfl⟩ := List.mem_map.mp hx
  rfl
theorem inV_strs (n : Str) (ns : List Str) : inV (V.str n) (ns.map V.str) = decide (n ∈ ns) := by
  unfold inV
  rw [List.any_map]
  by_cases h : n ∈ ns
  · rw [decide_eq_true h]
    exact List.any_eq_true.mpr ⟨n, h, by simp [eqV]⟩
  · rw [decide_eq_false h]
    refine Bool.eq_false_iff.mpr fun z => ?_
    obtain ⟨x, hx, e⟩ := List.any_eq_true.mp z
    have : x = n := by simpa [eqV] using e
    exact h (this ▸ hx)
abbrev eightS : List Str := ["a", "b", "c", "d", "e", "f", "g", "h"]
theorem eight_nd : eightS.Nodup := by decide +kernel
theorem eight_ok : ∀ n ∈ eightS, NameOk n := by
  intro n hn
  refine wordB_iff.mp ?_
  revert n hn
  decide +kernel
section
variable {P : Program} {w : World} {K : PySem.W.Frag} {mg : Str → Option Value} {base : Heap} {a : Ad}
theorem G__law_names (T : Txt K mg a) : FnOk P w K mg base CX0 4 a.f__law_names a.d__law_names ["_law_pile_here", "_law_many"] (sp_names 8) := by
  refine T.F__law_names.ok sc__law_names (fun vs H Q E h => ?_) (fun cdv A outer s H vs Q E hr h => ?_)
  · obtain ⟨p, m, rfl, _⟩ := h
    rfl
  · obtain ⟨p, m, rfl, hp, m0, m8, q⟩ := h
    refine ⟨_, (pss_cons (ps_set (i := 2) sc__law_names.nd rfl (.inr rfl) (pe_lst pa_nil))
        (pss_cons (ps_for PassesOwn.never rfl (pi_range1 (by rfl) T.n_range (pa_cons (pv 1) pa_nil)) (pg_name (i := 3) sc__law_names.nd rfl (by first | exact Or.inl rfl | exact Or.inr rfl)) (pss_cons (ps_set (i := 4) sc__law_names.nd rfl (.inl rfl) (pe_call (G__law_name (K := K) T) (hr.mono (by decide)) (by rfl) T.g__law_name T.F__law_name.kp T.b__law_name .nil pass0 (pa_cons (pv 0) pa_nil)))
        (C8.pss_cut (ps_if (pt_cmpR (op_in_seqK K) (pv 4) (pv 2) (by with_unfolding_all rfl)) (pss_one (ps_set (i := 4) sc__law_names.nd rfl (.inl rfl) (pe_ix (ix_listK K) (pe_lc (own := [("_law_one", 5)]) (by rfl) sc__law_names.nd (pi_listK K (pe_lst (pa_cons pe_str (pa_cons pe_str (pa_cons pe_str (pa_cons pe_str (pa_cons pe_str (pa_cons pe_str (pa_cons pe_str (pa_cons pe_str pa_nil)))))))))) (blkOk_by (N := N__law_names) (sc := defScope s__law_names) (by decide +kernel)) (fun _ _ _ _ _ => (pg_name (i := 5) sc__law_names.nd rfl (by first | exact Or.inl rfl | exact Or.inr rfl))) (fun _ _ _ _ _ => (pts_one (pt_cmpR (op_notIn_seqK K) (pv 5) (pv 2) (by with_unfolding_all rfl)))) (fun _ _ _ _ _ => (pv 5))) pe_int (fun _ _ => rfl)))) pss_nil)
        (pss_one (ps_expr (pe_bmK K PySem.F.plainAttrs_list PySem.F.slot_list_append PySem.F.type_list_append mt_append (pv 2) (pa_cons (pv 4) pa_nil)))))))
        (pss_one (ps_ret (pv 2))))), ?_⟩
    walk_at "rd"
    refine ⟨Nat.zero_le _, fun l nl => ?_⟩
    walk_at "rd"
    refine ⟨by omega, by omega, ?_⟩
    refine forN_range (fun i σ H4 => ∃ (ns : List Str) (y1 y2 : Option V), σ = [some (.ref p), some (.int m), some (.ref l), y1, y2, none] ∧ ns.length = i ∧ ns.Nodup ∧ (∀ n ∈ ns, NameOk n) ∧ H4 l = some (.lst (ns.map V.str)) ∧ PileAt H4 p ∧ But p H H4)
      ⟨[], none, none, rfl, rfl, List.nodup_nil, fun _ z => (nomatch z), upd_same, hp.same (same_new nl), .of (same_new nl)⟩ (fun i σ H4 hi hP => ?_) (fun σ H4 hP => ?_)
    · obtain ⟨ns, y1, y2, rfl, hlen, hnd, hok, hl, hp4, b4⟩ := hP
      walk_at "rd"
      refine ⟨p, rfl, hp4, fun w H5 hw hp5 b5 => ?_⟩
      have npl : l ≠ p := (hp.ne nl).symm
      have hl5 : H5 l = some (.lst (ns.map V.str)) := b5 _ _ npl hl
      walk_at "rd"
      refine ⟨fun σ' H' => ∃ nm : Str, σ' = [some (.ref p), some (.int m), some (.ref l), some (.int (0 + (i : Nat))), some (.str nm), none] ∧ NameOk nm ∧ nm ∉ ns ∧ Same H5 H', ?_, ?_⟩
      · walk_at "rd"
        refine r_in (sqL hl5) rfl (flat_strs ns) ?_
        rw [inV_strs]
        walk_at "rd"
        refine r_dec (fun e => ?_) (fun e => ?_)
        · walk_at "rd"
          refine ⟨by show 8 ≤ sizeLine; decide, fun l8 n8 => ?_⟩
          refine ⟨l8, rfl, ⟨_, sqL upd_same⟩, fun D nD => ?_⟩
          have h8 : (upd H5 l8 (.lst (eightS.map V.str))) l8 = some (.lst (eightS.map V.str)) := upd_same
          refine lc_list (K := K) (a := l8) (xs := eightS.map V.str) (LcI (upd H5 l8 (.lst (eightS.map V.str))) D fun i acc _ => acc = ((eightS.take i).filter fun n => decide (n ∉ ns)).map V.str) (LcI.zero nD rfl) (fun i H _ h => h.1.seq (sqL h8)) (fun i x H hx hP => ?_) (fun H hP => ?_)
          · obtain ⟨s6, acc, hD, hal, rfl⟩ := hP
            rw [List.getElem?_map] at hx
            obtain ⟨n, hn, rfl⟩ := Option.map_eq_some_iff.mp hx
            have hi : i < 8 := (List.getElem?_eq_some_iff.mp hn).1
            have hl6 : H l = some (.lst (ns.map V.str)) := s6 _ _ ((same_new n8) _ _ hl5)
            walk_at "rd"
            refine ⟨rfl, ?_⟩
            walk_at "rd"
            refine r_notIn (sqL hl6) rfl (flat_strs ns) ?_
            rw [inV_strs]
            walk_at "rd"
            refine r_ndec (fun e => ?_) (fun e => ?_)
            · walk_at "rd"
              refine LcI.keep nD s6 hD hal (by omega) (Same.refl _) ?_
              rw [take_snoc hn, List.filter_append, List.map_append]
              simp [e]
            · refine LcI.skip s6 hD hal (Same.refl _) ?_
              rw [take_snoc hn, List.filter_append, List.map_append]
              simp [e]
          · obtain ⟨s6, acc, hD, hal, rfl⟩ := hP
            obtain ⟨x, hx, hxn⟩ := not_all_in eightS ns eight_nd (by show ns.length < 8; omega)
            have hf : x ∈ (eightS.take (eightS.map V.str).length).filter fun n => decide (n ∉ ns) := List.mem_filter.mpr ⟨by simpa using hx, by simpa using hxn⟩
            generalize hfl : (eightS.take (eightS.map V.str).length).filter (fun n => decide (n ∉ ns)) = fl at hf hD
            cases fl with
            | nil => cases hf
            | cons y r =>
              have hy : y ∈ (eightS.take (eightS.map V.str).length).filter fun n => decide (n ∉ ns) := by rw [hfl]; exact List.mem_cons_self
              have hy2 := List.mem_filter.mp hy
              walk_at "rd"
              refine r_ixL (sqL hD) (v := .str y) (atI_nat (j := 0) rfl) ?_
              walk_at "rd"
              exact ⟨eight_ok y (List.mem_of_mem_take hy2.1), by simpa using hy2.2, (same_new n8).trans s6⟩
        · walk_at "rd"
          exact ⟨hw, e, Same.refl _⟩
      · rintro σ' H' ⟨nm, rfl, hn, hnn, s5⟩
        walk_at "rd"
        have hl6 := s5 _ _ hl5
        refine ⟨.inl ⟨rfl, _, sqL hl6⟩, ?_⟩
        walk_at "rd"
        refine ⟨l, _, nm |> V.str, rfl, rfl, hl6, ?_, ?_⟩
        · rw [List.length_map]; exact small1000 (by omega)
        · refine ⟨ns ++ [nm], _, _, rfl, by rw [List.length_append]; show ns.length + 1 = i + 1; omega, ?_, fun n hx => ?_, ?_, (hp5.same s5).but (fun b o nb e => by rw [upd_ne nb]; exact e) npl.symm, ?_⟩
          · rw [List.nodup_append]
            refine ⟨hnd, List.nodup_cons.mpr ⟨List.not_mem_nil, List.nodup_nil⟩, fun a ha b hb => ?_⟩
            rw [List.mem_singleton.mp hb]
            exact fun e => hnn (e ▸ ha)
          · rcases List.mem_append.mp hx with z | z
            · exact hok n z
            · rw [List.mem_singleton.mp z]; exact hn
          · rw [upd_same, List.map_append]; rfl
          · intro b o nb e
            have nbl : b ≠ l := ne_of_none e nl
            rw [upd_ne nbl]
            exact s5 _ _ (b5 _ _ nb (b4 _ _ nb e))
    · obtain ⟨ns, y1, y2, rfl, hlen, hnd, hok, hl, hp4, b4⟩ := hP
      walk_at "rd"
      exact q l ns H4 (by omega) hnd hok nl hl hp4 b4
end
end Pf

namespace Pf
open PySem PySem.Spec PyProof.Rows L2
local macro_rules | `(tactic| walk_at "rd") => `(tactic| (repeat' (first
  | with_reducible refine r_seq ?_ | with_reducible refine r_asg ?_ | with_reducible refine r_ret ?_ | with_reducible refine r_retN ?_ | with_reducible refine r_drop ?_ | with_reducible refine r_if ?_
  | with_reducible refine r_op ?_ | (with_reducible show tVar _ _ _ _; refine r_var rfl ?_) | with_reducible refine r_c ?_ | with_reducible refine r_I0 ?_ | (with_reducible refine r_I ?c ?_; (case c => first | (show (0 : Int) < _; first | decide | assumption | omega) | exact cmul_r ⟨by decide, by decide⟩ | exact cmul_l ⟨by decide, by decide⟩ | exact cmul_r (by first | assumption | constructor <;> omega) | (unfold CDiv; constructor <;> decide) | (unfold CPow; refine ⟨?_, ?_, ?_⟩ <;> decide))) | with_reducible refine r_name ?_ | (with_reducible show rIxL _ _ _ _ _; refine r_ixL (sqL (by assumption)) rfl ?_) | (with_reducible show rIxT _ _ _ _ _; refine r_ixT (by assumption) rfl ?_) | (with_reducible show rSetL _ _ _ _ _; refine r_setL (by assumption) rfl ?_) | with_reducible refine r_test ?_ | with_reducible refine r_tB ?_ | with_reducible refine r_bl ?_
  | with_reducible refine r_not ?_ | with_reducible refine r_and ?_ | with_reducible refine r_or ?_ | with_reducible refine r_andV ?_ | with_reducible refine r_orV ?_ | with_reducible refine r_notV ?_ | with_reducible refine r_ifE ?_
  | with_reducible refine r_cons ?_ | with_reducible refine r_nil ?_ | with_reducible refine r_cb ?_ | with_reducible refine r_call ?_ | with_reducible refine r_lst ?_ | with_reducible refine r_tup ?_ | with_reducible refine r_bm ?_ | with_reducible refine r_bm0 ?_
  | with_reducible refine r_un ?_ | with_reducible refine r_U ?_ | with_reducible refine r_eqI ?_ | with_reducible refine r_eqS ?_ | with_reducible refine r_neI ?_ | with_reducible refine r_neS ?_ | with_reducible refine r_sub ?_ | with_reducible refine r_gcons ?_ | with_reducible refine r_gnil ?_
  | with_reducible refine r_chain ?_ | with_reducible refine r_get2 ?_ | with_reducible refine r_iList ?_ | with_reducible refine r_iStr ?_ | with_reducible refine r_iTup ?_ | with_reducible refine r_iRev ?_ | with_reducible refine r_iItems ?_ | with_reducible refine r_rng ?_ | with_reducible refine r_inS ?_ | with_reducible refine r_bI ?_ | with_reducible refine r_abs ?_ | with_reducible refine r_sl ?_ | with_reducible refine r_next ?_ | with_reducible refine r_yes ?_
  | (with_reducible show rLen _ _ _ _; first | refine r_lenK (sqL (by assumption)) ?_ | refine r_lenK (by assumption) ?_ | refine r_lenTK (by assumption) ?_)
  | (with_reducible show tFor _ _ _ _ _ _; unfold tFor) | (with_reducible show tLc _ _ _ _ _ _ _ _; unfold tLc) | (with_reducible show tWhile _ _ _ _ _; unfold tWhile)
  | (with_reducible refine ⟨_, rfl, ?_⟩) | (with_reducible refine ⟨_, _, rfl, rfl, ?_⟩) | (with_reducible refine Or.inr ⟨_, rfl, ?_⟩) | (refine ⟨_, _, rfl, Or.inl (by assumption), ?_⟩; skip) | (refine ⟨_, _, rfl, Or.inr (by assumption), ?_⟩; skip)
  | (with_reducible refine iteNT ?_) | (with_reducible refine iteNF ?_) | (with_reducible refine iteT ?_) | (with_reducible refine iteF ?_)
  | (dsimp only [Bool.not_true, Bool.not_false, List.cons_append, List.nil_append]))))

/-- a thing of another class than the texts -/
def NoStr (K : PySem.W.Frag) (H : Hp) (x : V) : Prop := ∃ t, TyX K H x t ∧ PySem.W.kitOne K t (.type "str") = some false
def sp_is_word (K : PySem.W.Frag) : Sp := fun vs H Q _ => ∃ (x : V) (L : Str), vs = [x, .str L] ∧ L.length ≤ 100 ∧ ((∃ w : Str, x = .str w ∧ w.length ≤ sizeLine ∧ ∀ H', Same H H' → Q (.bl (wordB L w)) H') ∨ (NoStr K H x ∧ Q (.bl false) H))
def sp_is_name (K : PySem.W.Frag) : Sp := fun vs H Q _ => ∃ x : V, vs = [x] ∧ ((∃ w : Str, x = .str w ∧ w.length ≤ sizeLine ∧ ∀ H', Same H H' → Q (.bl (wordB smallS w)) H') ∨ (NoStr K H x ∧ Q (.bl false) H))
section
variable {P : Program} {w : World} {K : PySem.W.Frag} {mg : Str → Option Value} {base : Heap} {a : Ad}
theorem G_is_word (T : Txt K mg a) : FnOk P w K mg base CX0 1 a.f_is_word a.d_is_word ["thing", "letters"] (sp_is_word K) := by
  refine T.F_is_word.ok sc_is_word (fun vs H Q E h => ?_) (fun cdv A outer s H vs Q E hr h => ?_)
  · obtain ⟨x, L, rfl, _⟩ := h
    rfl
  · obtain ⟨x, L, rfl, hL, q⟩ := h
    refine ⟨_, (pss_cons (ps_if ((pw_or (pt_not (pt_val (pe_callB (call_isiK' K) (by rfl) T.n_isinstance (by decide +kernel) (pa_cons (pv 0) (pa_cons (pe_bltn (v := .ty "str") (by rfl) T.n_str (by decide +kernel) rfl) pa_nil))))) (pw_or1 (pt_not (pt_chain op_le op_le pe_int (pe_callB call_len_str (by rfl) T.n_len PySem.boot_len (pa_cons (pv 0) pa_nil)) (pe_glob (v := .int 8) (by rfl) T.c_MOST_SIGNS ⟨_, rfl⟩)))))).pt (pss_one (ps_ret pe_bl)) pss_nil)
        (pss_one (ps_ret (pe_and (pe_cmpR op_in_sign (pe_ix ix_str (pv 0) pe_int (fun _ _ => rfl)) (pv 1) (by with_unfolding_all rfl)) (pe_one (pe_callB (cr_allK K rfl) (by rfl) T.n_all (by decide +kernel) (pa_cons (pe_lc (own := [("sign", 2)]) (by rfl) sc_is_word.nd (pi_str (pv 0)) (blkOk_by (N := N_is_word) (sc := defScope s_is_word) (by decide +kernel)) (fun _ _ _ _ _ => (pg_name (i := 2) sc_is_word.nd rfl (by first | exact Or.inl rfl | exact Or.inr rfl))) (fun _ _ _ _ _ => pts_nil) (fun _ _ _ _ _ => (pe_cmpR op_in_sign (pv 2) (pe_op op_add_str (pv 1) (pe_glob (v := .str ("0123456789" : Str)) (by rfl) T.c_FIGURES ⟨_, rfl⟩)) (by with_unfolding_all rfl)))) pa_nil))))))), ?_⟩
    rcases q with ⟨w, rfl, hw, q⟩ | ⟨⟨t, ty, kt⟩, q⟩
    · walk_at "rd"
      refine r_isi (.base (.str w)) rfl ?_
      walk_at "rd"
      refine ⟨hw, ?_⟩
      walk_at "rd"
      refine r_dec (fun e1 => ?_) (fun e1 => ?_)
      · walk_at "rd"
        refine r_ndec (fun e2 => ?_) (fun e2 => ?_)
        · walk_at "rd"
          have eb : wordB L w = false := by
            refine Bool.eq_false_iff.mpr fun z => ?_
            have := (wordB_iff.mp z).len
            omega
          exact eb ▸ q H (Same.refl H)
        · walk_at "rd"
          obtain ⟨c, r, ecr⟩ : ∃ c r, w.cps.toList = c :: r := by
            rw [len_cps] at e1
            cases hcr : w.cps.toList with
            | nil => rw [hcr] at e1; simp at e1
            | cons c r => exact ⟨c, r, rfl⟩
          refine r_ixS (c := c) hw (by rw [ecr]; exact atI_nat (j := 0) rfl) ?_
          walk_at "rd"
          have hwb : wordB L w = (decide (c ∈ L.cps.toList) && (c :: r).all fun x => decide (x ∈ (L ++ figS).cps.toList)) := by
            unfold wordB
            rw [ecr]
            rw [len_cps, ecr] at e2
            simp only [decide_eq_true (show (c :: r).length ≤ 8 by omega), Bool.true_and]
          refine r_dec (fun e3 => ?_) (fun e3 => ?_)
          · walk_at "rd"
            intro D nD
            refine lcN_str (LcI H D fun i acc _ => acc = ((w.cps.toList.take i).map fun x => V.bl (decide (x ∈ (L ++ figS).cps.toList)))) (LcI.zero nD rfl) (fun i y H1 hy hP => ?_) (fun H1 hP => ?_)
            · obtain ⟨s1, acc, hD, hal, rfl⟩ := hP
              have hi : i < 8 := by
                have := (List.getElem?_eq_some_iff.mp hy).1
                rw [len_cps] at e2
                omega
              walk_at "rd"
              refine ⟨rfl, ?_⟩
              walk_at "rd"
              refine ⟨by rw [sizeLine_eq]; show L.length + 10 ≤ _; omega, ?_⟩
              walk_at "rd"
              refine LcI.keep nD s1 hD hal (by omega) (Same.refl _) ?_
              rw [take_snoc hy, List.map_append]
              rfl
            · obtain ⟨s1, acc, hD, hal, rfl⟩ := hP
              walk_at "rd"
              refine r_all (bs := (w.cps.toList).map fun x => decide (x ∈ (L ++ figS).cps.toList)) (sqL (by rw [hD, List.take_length, List.map_map]; rfl)) ?_
              have : wordB L w = ((w.cps.toList).map fun x => decide (x ∈ (L ++ figS).cps.toList)).all id := by
                rw [hwb, decide_eq_true e3, Bool.true_and, List.all_map, ecr]
                rfl
              exact this ▸ q H1 s1
          · walk_at "rd"
            have : wordB L w = false := by rw [hwb, decide_eq_false e3, Bool.false_and]
            exact this ▸ q H (Same.refl H)
      · walk_at "rd"
        have eb : wordB L w = false := by
          refine Bool.eq_false_iff.mpr fun z => ?_
          have := (wordB_iff.mp z).len
          omega
        exact eb ▸ q H (Same.refl H)
    · walk_at "rd"
      refine r_isi ty kt ?_
      walk_at "rd"
      exact q
theorem G_is_name (T : Txt K mg a) : FnOk P w K mg base CX0 2 a.f_is_name a.d_is_name ["thing"] (sp_is_name K) := by
  refine T.F_is_name.ok sc_is_name (fun vs H Q E h => ?_) (fun cdv A outer s H vs Q E hr h => ?_)
  · obtain ⟨x, rfl, _⟩ := h
    rfl
  · obtain ⟨x, rfl, q⟩ := h
    refine ⟨_, (pss_one (ps_ret (pe_call (G_is_word (K := K) T) (hr.mono (by decide)) (by rfl) T.g_is_word T.F_is_word.kp T.b_is_word .nil pass0 (pa_cons (pv 0) (pa_cons (pe_glob (v := .str ("abcdefghijklmnopqrstuvwxyz" : Str)) (by rfl) T.c_SMALL_LETTERS ⟨_, rfl⟩) pa_nil))))), ?_⟩
    walk_at "rd"
    exact ⟨x, smallS, rfl, by decide +kernel, q⟩
end
end Pf

namespace Pf
open PySem PySem.Spec PyProof.Rows L2
local macro_rules | `(tactic| walk_at "rd") => `(tactic| (repeat' (first
  | with_reducible refine r_seq ?_ | with_reducible refine r_asg ?_ | with_reducible refine r_ret ?_ | with_reducible refine r_retN ?_ | with_reducible refine r_drop ?_ | with_reducible refine r_if ?_
  | with_reducible refine r_op ?_ | (with_reducible show tVar _ _ _ _; refine r_var rfl ?_) | with_reducible refine r_c ?_ | with_reducible refine r_I0 ?_ | (with_reducible refine r_I ?c ?_; (case c => first | (show (0 : Int) < _; first | decide | assumption | omega) | exact cmul_r ⟨by decide, by decide⟩ | exact cmul_l ⟨by decide, by decide⟩ | exact cmul_r (by first | assumption | constructor <;> omega) | (unfold CDiv; constructor <;> decide) | (unfold CPow; refine ⟨?_, ?_, ?_⟩ <;> decide))) | with_reducible refine r_name ?_ | (with_reducible show rIxL _ _ _ _ _; refine r_ixL (sqL (by assumption)) rfl ?_) | (with_reducible show rIxT _ _ _ _ _; refine r_ixT (by assumption) rfl ?_) | (with_reducible show rSetL _ _ _ _ _; refine r_setL (by assumption) rfl ?_) | with_reducible refine r_test ?_ | with_reducible refine r_tB ?_ | with_reducible refine r_bl ?_
  | with_reducible refine r_not ?_ | with_reducible refine r_and ?_ | with_reducible refine r_or ?_ | with_reducible refine r_andV ?_ | with_reducible refine r_orV ?_ | with_reducible refine r_notV ?_ | with_reducible refine r_ifE ?_
  | with_reducible refine r_cons ?_ | with_reducible refine r_nil ?_ | with_reducible refine r_cb ?_ | with_reducible refine r_call ?_ | with_reducible refine r_lst ?_ | with_reducible refine r_tup ?_ | with_reducible refine r_bm ?_ | with_reducible refine r_bm0 ?_
  | with_reducible refine r_un ?_ | with_reducible refine r_U ?_ | with_reducible refine r_eqI ?_ | with_reducible refine r_eqS ?_ | with_reducible refine r_neI ?_ | with_reducible refine r_neS ?_ | with_reducible refine r_sub ?_ | with_reducible refine r_gcons ?_ | with_reducible refine r_gnil ?_
  | with_reducible refine r_chain ?_ | with_reducible refine r_get2 ?_ | with_reducible refine r_iList ?_ | with_reducible refine r_iStr ?_ | with_reducible refine r_iTup ?_ | with_reducible refine r_iRev ?_ | with_reducible refine r_iItems ?_ | with_reducible refine r_rng ?_ | with_reducible refine r_inS ?_ | with_reducible refine r_bI ?_ | with_reducible refine r_abs ?_ | with_reducible refine r_sl ?_ | with_reducible refine r_next ?_ | with_reducible refine r_yes ?_
  | (with_reducible show rLen _ _ _ _; first | refine r_lenK (sqL (by assumption)) ?_ | refine r_lenK (by assumption) ?_ | refine r_lenTK (by assumption) ?_)
  | (with_reducible show tFor _ _ _ _ _ _; unfold tFor) | (with_reducible show tLc _ _ _ _ _ _ _ _; unfold tLc) | (with_reducible show tWhile _ _ _ _ _; unfold tWhile)
  | (with_reducible refine ⟨_, rfl, ?_⟩) | (with_reducible refine ⟨_, _, rfl, rfl, ?_⟩) | (with_reducible refine Or.inr ⟨_, rfl, ?_⟩) | (refine ⟨_, _, rfl, Or.inl (by assumption), ?_⟩; skip) | (refine ⟨_, _, rfl, Or.inr (by assumption), ?_⟩; skip)
  | (with_reducible refine iteNT ?_) | (with_reducible refine iteNF ?_) | (with_reducible refine iteT ?_) | (with_reducible refine iteF ?_)
  | (dsimp only [Bool.not_true, Bool.not_false, List.cons_append, List.nil_append]))))

def sp_rises (K : PySem.W.Frag) : Sp := fun vs H Q _ => ∃ (b : Addr) (ns : List Str), vs = [.ref b] ∧ SqL K H b (ns.map V.str) ∧ ns.length ≤ 100 ∧ ns.Pairwise ltS ∧ ∀ H', Same H H' → Q (.bl true) H'
/-- a move of a turn -/
def sp_is_move (K : PySem.W.Frag) : Sp := fun vs H Q _ => ∃ (x : V) (p : PS2), vs = [x] ∧ Pr K H x p ∧ NameOk p.1 ∧ NameOk p.2 ∧ p.1 ≠ p.2 ∧ ∀ H', Same H H' → Q (.bl true) H'
def sp_is_turn (K : PySem.W.Frag) : Sp := fun vs H Q _ => ∃ (x : V) (t : List PS2), vs = [x] ∧ Tn K H x t ∧ IsTurn t ∧ ∀ H', Same H H' → Q (.bl true) H'
def sp_check_turn (K : PySem.W.Frag) : Sp := fun vs H Q _ => ∃ (x : V) (t : List PS2), vs = [x] ∧ Tn K H x t ∧ IsTurn t ∧ ∀ H', Same H H' → Q .non H'
section
variable {P : Program} {w : World} {K : PySem.W.Frag} {mg : Str → Option Value} {base : Heap} {a : Ad}
theorem sizeS {w : Str} (h : NameOk w) : w.length ≤ sizeLine := by
  have := h.len
  rw [sizeLine_eq]; omega
theorem G_rises (T : Txt K mg a) : FnOk P w K mg base CX0 1 a.f_rises a.d_rises ["things"] (sp_rises K) := by
  refine T.F_rises.ok sc_rises (fun vs H Q E h => ?_) (fun cdv A outer s H vs Q E hr h => ?_)
  · obtain ⟨b, ns, rfl, _⟩ := h
    rfl
  · obtain ⟨b, ns, rfl, hs, hl, hp, q⟩ := h
    refine ⟨_, (pss_one (ps_ret (pe_callB (cr_allK K rfl) (by rfl) T.n_all (by decide +kernel) (pa_cons (pe_lc (own := [("at", 1)]) (by rfl) sc_rises.nd (pi_range1 (by rfl) T.n_range (pa_cons (pe_op op_sub (pe_callB (call_len_seqK K) (by rfl) T.n_len PySem.boot_len (pa_cons (pv 0) pa_nil)) pe_int) pa_nil)) (blkOk_by (N := N_rises) (sc := defScope s_rises) (by decide +kernel)) (fun _ _ _ _ _ => (pg_name (i := 1) sc_rises.nd rfl (by first | exact Or.inl rfl | exact Or.inr rfl))) (fun _ _ _ _ _ => pts_nil) (fun _ _ _ _ _ => (pe_cmpR op_lt_str (pe_ix (ix_listK K) (pv 0) (pv 1) (fun _ _ => rfl)) (pe_ix (ix_listK K) (pv 0) (pe_op op_add (pv 1) pe_int) (fun _ _ => rfl)) (nomark _)))) pa_nil)))), ?_⟩
    walk_at "rd"
    rw [List.length_map]
    refine ⟨by omega, by omega, fun D nD => ?_⟩
    have hn : ((ns.length : Int) - 1).toNat = ns.length - 1 := by omega
    rw [hn]
    refine lc_range (LcI H D fun i acc _ => acc = (List.replicate i true).map V.bl) (LcI.zero nD rfl) (fun i H1 hi hP => ?_) (fun H1 hP => ?_)
    · obtain ⟨s1, acc, hD, hal, rfl⟩ := hP
      have hs1 := s1.seq hs
      walk_at "rd"
      refine ⟨rfl, ?_⟩
      walk_at "rd"
      have g1 : (ns.map V.str)[i]? = some (.str ns[i]) := by rw [List.getElem?_map, List.getElem?_eq_getElem (by omega)]; rfl
      have g2 : (ns.map V.str)[i + 1]? = some (.str ns[i + 1]) := by rw [List.getElem?_map, List.getElem?_eq_getElem (by omega)]; rfl
      refine r_ixL hs1 (by rw [Int.zero_add]; exact atI_nat g1) ?_
      walk_at "rd"
      refine r_ixL hs1 (at_of (j := i + 1) (by omega) g2) ?_
      refine ⟨_, _, rfl, rfl, ?_⟩
      refine LcI.keep nD s1 hD hal (by omega) (Same.refl _) ?_
      have lt : ltS ns[i] ns[i + 1] := List.pairwise_iff_getElem.mp hp i (i + 1) (by omega) (by omega) (by omega)
      rw [decide_eq_true (show ns[i].cps.toList < ns[i + 1].cps.toList from lt), List.replicate_succ', List.map_append]
      rfl
    · obtain ⟨s1, acc, hD, hal, rfl⟩ := hP
      walk_at "rd"
      refine r_all (bs := List.replicate (ns.length - 1) true) (sqL hD) ?_
      rw [show (List.replicate (ns.length - 1) true).all id = true by simp]
      exact q _ s1
theorem G_is_move (T : Txt K mg a) : FnOk P w K mg base CX0 3 a.f_is_move a.d_is_move ["thing"] (sp_is_move K) := by
  refine T.F_is_move.ok sc_is_move (fun vs H Q E h => ?_) (fun cdv A outer s H vs Q E hr h => ?_)
  · obtain ⟨b, ns, rfl, _⟩ := h
    rfl
  · obtain ⟨x, p, rfl, ⟨b, rfl, hs⟩, h1, h2, h3, q⟩ := h
    refine ⟨_, (pss_cons (ps_if ((pw_or (pt_not (pt_val (pe_callB (call_isiK' K) (by rfl) T.n_isinstance (by decide +kernel) (pa_cons (pv 0) (pa_cons (pe_bltn (v := .ty "tuple") (by rfl) T.n_tuple (by decide +kernel) rfl) pa_nil))))) (pw_or1 (pt_cmpR op_ne (pe_callB (call_len_seqK K) (by rfl) T.n_len PySem.boot_len (pa_cons (pv 0) pa_nil)) pe_int (nomark _))))).pt (pss_one (ps_ret pe_bl)) pss_nil)
        (pss_one (ps_ret (pe_and (pe_call (G_is_name (K := K) T) (hr.mono (by decide)) (by rfl) T.g_is_name T.F_is_name.kp T.b_is_name .nil pass0 (pa_cons (pe_ix (ix_tupK K) (pv 0) pe_int (fun _ _ => rfl)) pa_nil)) (pe_and (pe_call (G_is_name (K := K) T) (hr.mono (by decide)) (by rfl) T.g_is_name T.F_is_name.kp T.b_is_name .nil pass0 (pa_cons (pe_ix (ix_tupK K) (pv 0) pe_int (fun _ _ => rfl)) pa_nil)) (pe_one (pe_cmpR (op_neDK K hr.units) (pe_ix (ix_tupK K) (pv 0) pe_int (fun _ _ => rfl)) (pe_ix (ix_tupK K) (pv 0) pe_int (fun _ _ => rfl)) (nomark _)))))))), ?_⟩
    walk_at "rd"
    refine r_isi (ty_tup hs) rfl ?_
    walk_at "rd"
    refine r_ndec (fun e => (e rfl).elim) (fun _ => ?_)
    walk_at "rd"
    refine ⟨_, rfl, .inl ⟨p.1, rfl, sizeS h1, fun H1 s1 => ?_⟩⟩
    rw [wordB_iff.mpr h1]
    have hs1 := (Tups.of s1).sq hs
    walk_at "rd"
    refine ⟨_, rfl, .inl ⟨p.2, rfl, sizeS h2, fun H2 s2 => ?_⟩⟩
    rw [wordB_iff.mpr h2]
    have hs2 := (Tups.of s2).sq hs1
    walk_at "rd"
    refine r_neD (.str p.1) (.str p.2) (shaped_S h1.sok) (shaped_S h2.sok) ?_
    rw [eqv_str, decide_eq_false h3]
    exact q _ (s1.trans s2)
theorem G_is_turn (T : Txt K mg a) : FnOk P w K mg base CX0 4 a.f_is_turn a.d_is_turn ["thing"] (sp_is_turn K) := by
  refine T.F_is_turn.ok sc_is_turn (fun vs H Q E h => ?_) (fun cdv A outer s H vs Q E hr h => ?_)
  · obtain ⟨b, ns, rfl, _⟩ := h
    rfl
  · obtain ⟨x, t, rfl, ⟨b, xs, rfl, hs, hp⟩, ht, q⟩ := h
    refine ⟨_, (pss_cons (ps_if ((pw_or (pt_not (pt_val (pe_callB (call_isiK' K) (by rfl) T.n_isinstance (by decide +kernel) (pa_cons (pv 0) (pa_cons (pe_bltn (v := .ty "tuple") (by rfl) T.n_tuple (by decide +kernel) rfl) pa_nil))))) (pw_or1 (pt_not (pt_val (pe_callB (cr_allK K rfl) (by rfl) T.n_all (by decide +kernel) (pa_cons (pe_lc (own := [("move", 2)]) (by rfl) sc_is_turn.nd (pi_tupK K (pv 0)) (blkOk_by (N := N_is_turn) (sc := defScope s_is_turn) (by decide +kernel)) (fun _ _ _ _ _ => (pg_name (i := 2) sc_is_turn.nd rfl (by first | exact Or.inl rfl | exact Or.inr rfl))) (fun _ _ _ _ _ => pts_nil) (fun _ _ _ _ _ => (pe_call (G_is_move (K := K) T) (hr.mono (by decide)) (by rfl) T.g_is_move T.F_is_move.kp T.b_is_move .nil pass0 (pa_cons (pv 2) pa_nil)))) pa_nil))))))).pt (pss_one (ps_ret pe_bl)) pss_nil)
        (pss_cons (ps_setLc (i := 1) (own := [("name", 3), ("_", 4)]) (by rfl) sc_is_turn.nd rfl rfl (sw_true rfl rfl rfl (by decide +kernel)) (pi_tupK K (pv 0)) (blkOk_by (N := N_is_turn) (sc := defScope s_is_turn) (by decide +kernel)) (fun _ _ _ _ _ => (pg_tupK K (n := 2) rfl (pgs_cons (pg_name (i := 3) sc_is_turn.nd rfl (by first | exact Or.inl rfl | exact Or.inr rfl)) (pgs_cons (pg_name (i := 4) sc_is_turn.nd rfl (by first | exact Or.inl rfl | exact Or.inr rfl)) pgs_nil)))) (fun _ _ _ _ _ => pts_nil) (fun _ _ _ _ _ => (pv 3)))
        (pss_one (ps_ret (pe_and (pe_call (G_rises (K := K) T) (hr.mono (by decide)) (by rfl) T.g_rises T.F_rises.kp T.b_rises .nil pass0 (pa_cons (pv 1) pa_nil)) (pe_one (pe_cmpR (op_eqDK K hr.units) (pe_callB (cr_sortedSK K) (by rfl) T.n_sorted (by decide +kernel) (pa_cons (pe_lc (own := [("_", 4), ("to", 5)]) (by rfl) sc_is_turn.nd (pi_tupK K (pv 0)) (blkOk_by (N := N_is_turn) (sc := defScope s_is_turn) (by decide +kernel)) (fun _ _ _ _ _ => (pg_tupK K (n := 2) rfl (pgs_cons (pg_name (i := 4) sc_is_turn.nd rfl (by first | exact Or.inl rfl | exact Or.inr rfl)) (pgs_cons (pg_name (i := 5) sc_is_turn.nd rfl (by first | exact Or.inl rfl | exact Or.inr rfl)) pgs_nil)))) (fun _ _ _ _ _ => pts_nil) (fun _ _ _ _ _ => (pv 5))) pa_nil)) (pv 1) (nomark _)))))))), ?_⟩
    have hlen := pd_len hp
    have hsm := ht.small
    walk_at "rd"
    refine r_isi (ty_tup hs) rfl ?_
    walk_at "rd"
    refine ⟨⟨_, hs⟩, fun D nD => ?_⟩
    refine lc_tup (K := K) (a := b) (xs := xs) (LcI H D fun i acc _ => acc = (List.replicate i true).map V.bl) (LcI.zero nD rfl) (fun i H1 _ hP => (Tups.of hP.1).sq hs) (fun i x H1 hx hP => ?_) (fun H1 hP => ?_)
    · obtain ⟨s1, acc, hD, hal, rfl⟩ := hP
      obtain ⟨p, hpi, hpr⟩ := pd_get' hp hx
      have hi := (List.getElem?_eq_some_iff.mp hpi).1
      have hm : p ∈ t := List.mem_of_getElem? hpi
      walk_at "rd"
      refine ⟨rfl, ?_⟩
      walk_at "rd"
      refine ⟨x, p, rfl, hpr.stay (Tups.of s1), (ht.ok p hm).1, (ht.ok p hm).2, ht.ne p hm, fun H2 s2 => ?_⟩
      refine LcI.keep nD s1 hD hal (by omega) s2 ?_
      rw [List.replicate_succ', List.map_append]
      rfl
    · obtain ⟨s1, acc, hD, hal, rfl⟩ := hP
      walk_at "rd"
      refine r_all (bs := List.replicate xs.length true) (sqL hD) ?_
      rw [show (List.replicate xs.length true).all id = true by simp]
      have hs1 := (Tups.of s1).sq hs
      have hp1 := hp.stay (Tups.of s1)
      walk_at "rd"
      refine ⟨⟨_, hs1⟩, fun D2 nD2 => ?_⟩
      refine lc_tup (K := K) (a := b) (xs := xs) (LcI H1 D2 fun i acc _ => acc = (t.take i).map fun p => V.str p.1) (LcI.zero nD2 rfl) (fun i H2 _ hP => (Tups.of hP.1).sq hs1) (fun i x H2 hx hP => ?_) (fun H2 hP => ?_)
      · obtain ⟨s2, acc, hD2, hal2, rfl⟩ := hP
        obtain ⟨p, hpi, hpr⟩ := pd_get' hp1 hx
        have hi := (List.getElem?_eq_some_iff.mp hpi).1
        obtain ⟨y, rfl, hy⟩ := hpr.stay (Tups.of s2)
        refine r_gtup hy rfl ?_
        walk_at "rd"
        refine ⟨rfl, ?_⟩
        walk_at "rd"
        refine LcI.keep nD2 s2 hD2 hal2 (by omega) (Same.refl _) ?_
        rw [take_snoc hpi, List.map_append]
        rfl
      · obtain ⟨s2, acc, hD2, hal2, rfl⟩ := hP
        rw [hlen, List.take_length] at hD2
        have hD2' : H2 D2 = some (.lst ((t.map (·.1)).map V.str)) := by rw [hD2, List.map_map]; rfl
        have hs2 := (Tups.of s2).sq hs1
        have hp2 := hp1.stay (Tups.of s2)
        walk_at "rd"
        refine ⟨D2, t.map (·.1), rfl, sqL hD2', by rw [List.length_map]; omega, ht.rise, fun H3 s3 => ?_⟩
        have hs3 := (Tups.of s3).sq hs2
        have hp3 := hp2.stay (Tups.of s3)
        walk_at "rd"
        refine ⟨⟨_, hs3⟩, fun D3 nD3 => ?_⟩
        refine lc_tup (K := K) (a := b) (xs := xs) (LcI H3 D3 fun i acc _ => acc = (t.take i).map fun p => V.str p.2) (LcI.zero nD3 rfl) (fun i H4 _ hP => (Tups.of hP.1).sq hs3) (fun i x H4 hx hP => ?_) (fun H4 hP => ?_)
        · obtain ⟨s4, acc, hD4, hal4, rfl⟩ := hP
          obtain ⟨p, hpi, hpr⟩ := pd_get' hp3 hx
          have hi := (List.getElem?_eq_some_iff.mp hpi).1
          obtain ⟨y, rfl, hy⟩ := hpr.stay (Tups.of s4)
          refine r_gtup hy rfl ?_
          walk_at "rd"
          refine ⟨rfl, ?_⟩
          walk_at "rd"
          refine LcI.keep nD3 s4 hD4 hal4 (by omega) (Same.refl _) ?_
          rw [take_snoc hpi, List.map_append]
          rfl
        · obtain ⟨s4, acc, hD4, hal4, rfl⟩ := hP
          rw [hlen, List.take_length] at hD4
          have hD4' : H4 D3 = some (.lst ((t.map (·.2)).map V.str)) := by rw [hD4, List.map_map]; rfl
          walk_at "rd"
          refine ⟨D3, t.map (·.2), rfl, sqL hD4', by rw [List.length_map]; omega, fun ys p hperm hsort np => ?_⟩
          have e : ys = t.map (·.1) := same_sorted (hperm.trans ht.perm) (sortedS_pw hsort) (lt_le ht.rise)
          subst e
          walk_at "rd"
          have hD5 : (upd H4 p (.lst ((t.map (·.1)).map V.str))) D2 = some (.lst ((t.map (·.1)).map V.str)) := (same_new np) _ _ (s4 _ _ (s3 _ _ hD2'))
          have dl : ∀ {q : Addr} {H : Hp}, H q = some (.lst ((t.map (·.1)).map V.str)) → Dp K H (.ref q) (.list ((t.map (·.1)).map .str)) := fun h => .lst (sqL h) (dp_strs _)
          have so : SeqAt.shaped (.list ((t.map (·.1)).map .str)) = true := shaped_LS fun n hn => by
            obtain ⟨p, hp, rfl⟩ := List.mem_map.mp hn
            exact (ht.ok p hp).1.sok
          refine r_eqD (dl upd_same) (dl hD5) so so ?_
          rw [SeqAt.eqv_refl _ (shaped_iff.mp so).1]
          exact q _ ((((s1.trans s2).trans s3).trans s4).trans (same_new np))
end
end Pf

namespace Pf
open PySem PySem.Spec PyProof.Rows L2
local macro_rules | `(tactic| walk_at "rd") => `(tactic| (repeat' (first
  | with_reducible refine r_seq ?_ | with_reducible refine r_asg ?_ | with_reducible refine r_ret ?_ | with_reducible refine r_retN ?_ | with_reducible refine r_drop ?_ | with_reducible refine r_if ?_
  | with_reducible refine r_op ?_ | (with_reducible show tVar _ _ _ _; refine r_var rfl ?_) | with_reducible refine r_c ?_ | with_reducible refine r_I0 ?_ | (with_reducible refine r_I ?c ?_; (case c => first | (show (0 : Int) < _; first | decide | assumption | omega) | exact cmul_r ⟨by decide, by decide⟩ | exact cmul_l ⟨by decide, by decide⟩ | exact cmul_r (by first | assumption | constructor <;> omega) | (unfold CDiv; constructor <;> decide) | (unfold CPow; refine ⟨?_, ?_, ?_⟩ <;> decide))) | with_reducible refine r_name ?_ | (with_reducible show rIxL _ _ _ _ _; refine r_ixL (sqL (by assumption)) rfl ?_) | (with_reducible show rIxT _ _ _ _ _; refine r_ixT (by assumption) rfl ?_) | (with_reducible show rSetL _ _ _ _ _; refine r_setL (by assumption) rfl ?_) | with_reducible refine r_test ?_ | with_reducible refine r_tB ?_ | with_reducible refine r_bl ?_
  | with_reducible refine r_not ?_ | with_reducible refine r_and ?_ | with_reducible refine r_or ?_ | with_reducible refine r_andV ?_ | with_reducible refine r_orV ?_ | with_reducible refine r_notV ?_ | with_reducible refine r_ifE ?_
  | with_reducible refine r_cons ?_ | with_reducible refine r_nil ?_ | with_reducible refine r_cb ?_ | with_reducible refine r_call ?_ | with_reducible refine r_lst ?_ | with_reducible refine r_tup ?_ | with_reducible refine r_bm ?_ | with_reducible refine r_bm0 ?_
  | with_reducible refine r_un ?_ | with_reducible refine r_U ?_ | with_reducible refine r_eqI ?_ | with_reducible refine r_eqS ?_ | with_reducible refine r_neI ?_ | with_reducible refine r_neS ?_ | with_reducible refine r_sub ?_ | with_reducible refine r_gcons ?_ | with_reducible refine r_gnil ?_
  | with_reducible refine r_chain ?_ | with_reducible refine r_get2 ?_ | with_reducible refine r_iList ?_ | with_reducible refine r_iStr ?_ | with_reducible refine r_iTup ?_ | with_reducible refine r_iRev ?_ | with_reducible refine r_iItems ?_ | with_reducible refine r_rng ?_ | with_reducible refine r_inS ?_ | with_reducible refine r_bI ?_ | with_reducible refine r_abs ?_ | with_reducible refine r_sl ?_ | with_reducible refine r_next ?_ | with_reducible refine r_yes ?_
  | (with_reducible show rLen _ _ _ _; first | refine r_lenK (sqL (by assumption)) ?_ | refine r_lenK (by assumption) ?_ | refine r_lenTK (by assumption) ?_)
  | (with_reducible show tFor _ _ _ _ _ _; unfold tFor) | (with_reducible show tLc _ _ _ _ _ _ _ _; unfold tLc) | (with_reducible show tWhile _ _ _ _ _; unfold tWhile)
  | (with_reducible refine ⟨_, rfl, ?_⟩) | (with_reducible refine ⟨_, _, rfl, rfl, ?_⟩) | (with_reducible refine Or.inr ⟨_, rfl, ?_⟩) | (refine ⟨_, _, rfl, Or.inl (by assumption), ?_⟩; skip) | (refine ⟨_, _, rfl, Or.inr (by assumption), ?_⟩; skip)
  | (with_reducible refine iteNT ?_) | (with_reducible refine iteNF ?_) | (with_reducible refine iteT ?_) | (with_reducible refine iteF ?_)
  | (dsimp only [Bool.not_true, Bool.not_false, List.cons_append, List.nil_append]))))

/-- a tuple of pairs, known as an object without attributes -/
def TnD (K : PySem.W.Frag) (H : Hp) (v : V) (t : List PS2) : Prop := ∃ q o xs, v = .ref q ∧ H q = some (.frz o (.tup xs)) ∧ o.dict = none ∧ Prs K H xs t
theorem TnD.tn {K : PySem.W.Frag} {H : Hp} {v : V} {t : List PS2} (h : TnD K H v t) : Tn K H v t := by
  obtain ⟨q, o, xs, e, hq, _, hp⟩ := h
  exact ⟨q, xs, e, .inl (.inr ⟨o, hq⟩), hp⟩
theorem TnD.same {K : PySem.W.Frag} {H H' : Hp} {v : V} {t : List PS2} (h : TnD K H v t) (s : Same H H') : TnD K H' v t := by
  obtain ⟨q, o, xs, e, hq, hd, hp⟩ := h
  exact ⟨q, o, xs, e, s _ _ hq, hd, hp.stay (Tups.of s)⟩
theorem TnD.but {K : PySem.W.Frag} {H H' : Hp} {v : V} {t : List PS2} {a : Addr} {ys : List V} (h : TnD K H v t) (s : But a H H') (ha : H a = some (.lst ys)) : TnD K H' v t := by
  obtain ⟨q, o, xs, e, hq, hd, hp⟩ := h
  have : q ≠ a := ne_of hq ha (fun z => nomatch z)
  exact ⟨q, o, xs, e, s _ _ this hq, hd, hp.stay (Tups.but s ha)⟩
def sp_turn_from (K : PySem.W.Frag) : Sp := fun vs H Q _ => ∃ (d : Addr) (ms : List PS2), vs = [.ref d] ∧ H d = some (.dK (ms.map encM)) ∧ ms.length ≤ 60 ∧ ∀ v H', Same H H' → TnD K H' v (riseM ms) → Q v H'
/-- whether a thing is a name, as is_name tells -/
def NmV (K : PySem.W.Frag) (H : Hp) (x : V) (b : Bool) : Prop := (∃ w : Str, x = .str w ∧ w.length ≤ sizeLine ∧ b = wordB smallS w) ∨ (NoStr K H x ∧ b = false)
theorem NoStr.same {K : PySem.W.Frag} {H H' : Hp} {x : V} (h : NoStr K H x) (s : Same H H') : NoStr K H' x := by
  obtain ⟨t, ty, e⟩ := h
  exact ⟨t, ty_same ty s, e⟩
theorem NmV.same {K : PySem.W.Frag} {H H' : Hp} {x : V} {b : Bool} (h : NmV K H x b) (s : Same H H') : NmV K H' x b := by
  rcases h with h | ⟨h, e⟩
  · exact .inl h
  · exact .inr ⟨h.same s, e⟩
theorem NmV.ask {K : PySem.W.Frag} {H : Hp} {x : V} {b : Bool} {Q : VK} {E : XK} (h : NmV K H x b) (q : ∀ H', Same H H' → Q (.bl b) H') : sp_is_name K [x] H Q E := by
  rcases h with ⟨w, rfl, l, rfl⟩ | ⟨h, rfl⟩
  · exact ⟨_, rfl, .inl ⟨w, rfl, l, q⟩⟩
  · exact ⟨_, rfl, .inr ⟨h, q _ (Same.refl _)⟩⟩
section
variable {P : Program} {w : World} {K : PySem.W.Frag} {mg : Str → Option Value} {base : Heap} {a : Ad}
theorem G_turn_from (T : Txt K mg a) : FnOk P w K mg base CX0 1 a.f_turn_from a.d_turn_from ["moves"] (sp_turn_from K) := by
  refine T.F_turn_from.ok sc_turn_from (fun vs H Q E h => ?_) (fun cdv A outer s H vs Q E hr h => ?_)
  · obtain ⟨b, ns, rfl, _⟩ := h
    rfl
  · obtain ⟨d, ms, rfl, hd, hl, q⟩ := h
    refine ⟨_, (pss_one (ps_ret (pe_callTy (call_tupleFK K) (by rfl) T.n_tuple (by decide +kernel) (pa_cons (pe_callB (cr_sortedGK K (enc := eP) hr.units) (by rfl) T.n_sorted (by decide +kernel) (pa_cons (pe_lock (pe_lc (own := [("name", 1), ("to", 2)]) (by rfl) sc_turn_from.nd (pi_items (pv 0)) (blkOk_by (N := N_turn_from) (sc := defScope s_turn_from) (by decide +kernel)) (fun _ _ _ _ _ => (pg_tupK K (n := 2) rfl (pgs_cons (pg_name (i := 1) sc_turn_from.nd rfl (by first | exact Or.inl rfl | exact Or.inr rfl)) (pgs_cons (pg_name (i := 2) sc_turn_from.nd rfl (by first | exact Or.inl rfl | exact Or.inr rfl)) pgs_nil)))) (fun _ _ _ _ _ => (pts_one (pt_cmpR op_ne (pv 1) (pv 2) (nomark _)))) (fun _ _ _ _ _ => (pe_tup (pa_cons (pv 1) (pa_cons (pv 2) pa_nil)))))) pa_nil)) pa_nil)))), ?_⟩
    walk_at "rd"
    refine ⟨d, _, hd, trivial, fun od => ?_⟩
    have hd1 : (upd H d (.frz od (.dK (ms.map encM)))) d = some (.frz od (.dK (ms.map encM))) := upd_same
    walk_at "rd"
    refine ⟨d, od, _, rfl, hd1, fun D nD => ?_⟩
    generalize hH1 : upd H d (.frz od (.dK (ms.map encM))) = H1 at hd1 nD ⊢
    refine lcN (J := Iti d od (ms.map encM)) (n := ms.length) (LcI H1 D fun i acc H => Prs K H acc ((ms.take i).filter fun p => decide (p.1 ≠ p.2))) (LcI.zero nD .nil) (fun i H hi hP => ⟨hP.1 _ _ hd1, by rw [List.length_map]; exact hi⟩) (fun H hP => ⟨hP.1 _ _ hd1, by rw [List.length_map]; exact Nat.le_refl _⟩) (fun i x H2 H3 hi hP hy => ?_) (fun H2 hP => ?_)
    · obtain ⟨s2, acc, hD, hal, hacc⟩ := hP
      obtain ⟨T2, k, v, ekv, rfl, nT, rfl⟩ := hy
      have ep : ms[i]? = some ms[i] := List.getElem?_eq_getElem hi
      rw [List.getElem?_map, ep] at ekv
      generalize ms[i] = p at ep ekv
      cases ekv
      have s3 : Same H2 (upd H2 T2 (.tup [kV (Sum.inr p.1), V.str p.2])) := same_new nT
      refine r_gtup (sqT upd_same) rfl ?_
      walk_at "rd"
      refine ⟨rfl, ?_⟩
      walk_at "rd"
      have s3' : Same H2 (upd H2 T2 (.tup [kV (Sum.inr p.1), V.str p.2])) := s3
      generalize upd H2 T2 (.tup [kV (Sum.inr p.1), V.str p.2]) = H3 at s3' ⊢
      show rNe (.str p.1) (.str p.2) H3 _
      walk_at "rd"
      refine r_ndec (fun e => ?_) (fun e => ?_)
      · walk_at "rd"
        refine ⟨by show 2 ≤ sizeLine; decide, fun y ny => ?_⟩
        refine LcI.keep nD s2 hD hal (by omega) (s3'.trans (same_new ny)) ?_
        have hD4 : (upd H3 y (.tup [.str p.1, .str p.2])) D = some (.lst acc) := (same_new ny) _ _ (s3' _ _ hD)
        rw [take_snoc ep, List.filter_append, show [p].filter (fun p => decide (p.1 ≠ p.2)) = [p] by simp [e]]
        refine pd_snoc ((hacc.stay (Tups.of (s3'.trans (same_new ny)))).stay (tups_mut hD4)) ?_
        exact Pr.stay ⟨y, rfl, sqT upd_same⟩ (tups_mut hD4)
      · refine LcI.skip s2 hD hal s3' ?_
        rw [take_snoc ep, List.filter_append, show [p].filter (fun p => decide (p.1 ≠ p.2)) = [] by simp [e], List.append_nil]
        exact hacc.stay (Tups.of s3')
    · obtain ⟨s2, acc, hD, hal, hacc⟩ := hP
      have hd2 := s2 _ _ hd1
      have nDd : D ≠ d := by
        rintro rfl
        rw [nD] at hd1
        cases hd1
      refine ⟨hd2, ?_⟩
      have sX : Same H (upd H2 d (.dK (ms.map encM))) := fun b o e => by
        by_cases hb : b = d
        · subst hb
          rw [hd] at e
          rw [upd_same, ← e]
        · rw [upd_ne hb]
          exact s2 _ _ (by rw [← hH1, upd_ne hb]; exact e)
      have tX : Tups H2 (upd H2 d (.dK (ms.map encM))) := tups_upd hd2 (fun xs z => nomatch z) (fun ob xs z => nomatch z)
      have hDX : (upd H2 d (.dK (ms.map encM))) D = some (.lst acc) := by rw [upd_ne nDd]; exact hD
      have hX := hacc.stay tX
      generalize upd H2 d (.dK (ms.map encM)) = HX at sX tX hDX hX ⊢
      rw [List.take_of_length_le (Nat.le_refl _)] at hX
      walk_at "rd"
      refine ⟨D, acc, _, Pr K HX, rfl, sqL hDX, hX, fun x b h => h.dp, alike_P _, sortable_P _, fun b _ => Nat.le_trans (dep_P b) (by decide), fun ys p pys np => ?_⟩
      walk_at "rd"
      refine r_tupF (sqL upd_same) fun l o nl ho => ?_
      have s4 : Same HX (upd (upd HX p (.lst ys)) l (.frz o (.tup ys))) := (same_new np).trans (same_new nl)
      exact q _ _ (sX.trans s4) ⟨l, o, ys, rfl, upd_same, ho, Prs.stay pys (Tups.of s4)⟩
/-- the things of an exchange -/
def Ent (K : PySem.W.Frag) (H : Hp) (x : V) (b : Bool × Bool) : Prop := ∃ q u v, x = .ref q ∧ SqT K H q [u, v] ∧ NmV K H u b.1 ∧ NmV K H v b.2
def sp_turn_of (K : PySem.W.Frag) (C : Addr) : Sp := fun vs H Q E => ∃ (b : Addr) (xs : List V), vs = [.ref b] ∧ SqL K H b xs ∧ xs.length ≤ 20 ∧
  ((∃ ps : List PS2, Prs K H xs ps ∧ (∀ p ∈ ps, NameOk p.1 ∧ NameOk p.2) ∧ ∀ v H' ms, Same H H' → Says ms ps → TnD K H' v (riseM ms) → (riseM ms).length ≤ 40 → Q v H') ∨
   (∃ bs : List (Bool × Bool), Paired (Ent K H) xs bs ∧ (∃ b ∈ bs, (b.1 && b.2) = false) ∧ ∀ H', Same H H' → E (.ref C) none H'))
theorem Ent.same {K : PySem.W.Frag} {H H' : Hp} {x : V} {b : Bool × Bool} (h : Ent K H x b) (s : Same H H') : Ent K H' x b := by
  obtain ⟨q, u, v, e, hq, h1, h2⟩ := h
  exact ⟨q, u, v, e, (Tups.of s).sq hq, h1.same s, h2.same s⟩
theorem ent_of {K : PySem.W.Frag} {H : Hp} {xs : List V} {ps : List PS2} (h : Prs K H xs ps) (ok : ∀ p ∈ ps, NameOk p.1 ∧ NameOk p.2) : Paired (Ent K H) xs (ps.map fun _ => (true, true)) := by
  induction h with
  | nil => exact .nil
  | cons r t ih =>
    refine .cons ?_ (ih fun p hp => ok p (List.mem_cons_of_mem _ hp))
    obtain ⟨q, e, s⟩ := r
    have o := ok _ List.mem_cons_self
    exact ⟨q, _, _, e, s, .inl ⟨_, rfl, sizeS o.1, (wordB_iff.mpr o.1).symm⟩, .inl ⟨_, rfl, sizeS o.2, (wordB_iff.mpr o.2).symm⟩⟩
theorem G_turn_of (T : Txt K mg a) : FnOk P w K mg base (L2.CX P w) 3 a.f_turn_of a.d_turn_of ["swaps"] (sp_turn_of K a.f_NoName) := by
  refine T.F_turn_of.okX sc_turn_of (fun vs H Q E h => ?_) (fun cdv A outer s H vs Q E hr h => ?_)
  · obtain ⟨b, ns, rfl, _⟩ := h
    rfl
  · obtain ⟨b, xs, rfl, hs, hl, q⟩ := h
    refine ⟨_, (pss_cons (ps_if (pt_not (pt_val (pe_callB (cr_allK K rfl) (by rfl) T.n_all (by decide +kernel) (pa_cons (pe_lc (own := [("one", 2), ("other", 3)]) (by rfl) sc_turn_of.nd (pi_listK K (pv 0)) (blkOk_by (N := N_turn_of) (sc := defScope s_turn_of) (by decide +kernel)) (fun _ _ _ _ _ => (pg_tupK K (n := 2) rfl (pgs_cons (pg_name (i := 2) sc_turn_of.nd rfl (by first | exact Or.inl rfl | exact Or.inr rfl)) (pgs_cons (pg_name (i := 3) sc_turn_of.nd rfl (by first | exact Or.inl rfl | exact Or.inr rfl)) pgs_nil)))) (fun _ _ _ _ _ => pts_nil) (fun _ _ _ _ _ => (pe_and (pe_call (G_is_name (K := K) T) (hr.mono (by decide)) (by rfl) T.g_is_name T.F_is_name.kp T.b_is_name .nil pass0 (pa_cons (pv 2) pa_nil)) (pe_one (pe_call (G_is_name (K := K) T) (hr.mono (by decide)) (by rfl) T.g_is_name T.F_is_name.kp T.b_is_name .nil pass0 (pa_cons (pv 3) pa_nil)))))) pa_nil)))) (pss_one (ps_raise rfl (takes_of rfl rfl rfl rfl) (pmk_own PySem.F.excBase_ValueError T.x_NoName T.g_NoName T.k_NoName (raises_own T.r_NoName T.y_NoName) rfl))) pss_nil)
        (PSs.nox (pss_cons (ps_set (i := 1) sc_turn_of.nd rfl (.inl rfl) pe_dnewK)
        (pss_cons (ps_for PassesOwn.never rfl (pi_reversedK K (by rfl) T.n_reversed (pa_cons (pv 0) pa_nil)) (pg_tupK K (n := 2) rfl (pgs_cons (pg_name (i := 2) sc_turn_of.nd rfl (by first | exact Or.inl rfl | exact Or.inr rfl)) (pgs_cons (pg_name (i := 3) sc_turn_of.nd rfl (by first | exact Or.inl rfl | exact Or.inr rfl)) pgs_nil))) (pss_one (ps_asg (pe_tup (pa_cons (pe_dget2 (hu_of hr) (pv 1) (pv 3) (pv 3) ⟨by rfl, by rfl, by rfl, by rfl⟩) (pa_cons (pe_dget2 (hu_of hr) (pv 1) (pv 2) (pv 2) ⟨by rfl, by rfl, by rfl, by rfl⟩) pa_nil))) (pg_tupK K (n := 2) rfl (pgs_cons (pg_sub (pv 1) (pv 2) (set_dict (hu_of hr))) (pgs_cons (pg_sub (pv 1) (pv 3) (set_dict (hu_of hr))) pgs_nil))))))
        (pss_one (ps_ret (pe_call (G_turn_from (K := K) T) (hr.mono (by decide)) (by rfl) T.g_turn_from T.F_turn_from.kp T.b_turn_from .nil pass0 (pa_cons (pv 1) pa_nil)))))))), ?_⟩
    obtain ⟨bs, hbs, q⟩ : ∃ bs : List (Bool × Bool), Paired (Ent K H) xs bs ∧ (((bs.map fun b => b.1 && b.2).all id = true ∧ ∃ ps : List PS2, Prs K H xs ps ∧ (∀ p ∈ ps, NameOk p.1 ∧ NameOk p.2) ∧ ∀ v H' ms, Same H H' → Says ms ps → TnD K H' v (riseM ms) → (riseM ms).length ≤ 40 → Q v H') ∨
        ((bs.map fun b => b.1 && b.2).all id = false ∧ ∀ H', Same H H' → E (.ref a.f_NoName) none H')) := by
      rcases q with ⟨ps, hp, ok, q⟩ | ⟨bs, hb, ⟨eb, hebm, heb⟩, q⟩
      · refine ⟨_, ent_of hp ok, .inl ⟨?_, ps, hp, ok, q⟩⟩
        simp
      · refine ⟨bs, hb, .inr ⟨?_, q⟩⟩
        rw [List.all_eq_false]
        exact ⟨_, List.mem_map.mpr ⟨eb, hebm, rfl⟩, by simp [heb]⟩
    have hlb := pd_len hbs
    walk_at "rd"
    refine ⟨⟨_, hs⟩, fun D nD => ?_⟩
    refine lc_list (K := K) (a := b) (xs := xs) (LcI H D fun i acc _ => acc = ((bs.take i).map fun b => b.1 && b.2).map V.bl) (LcI.zero nD rfl) (fun i H1 _ hP => hP.1.seq hs) (fun i x H1 hx hP => ?_) (fun H1 hP => ?_)
    · obtain ⟨s1, acc, hD, hal, rfl⟩ := hP
      obtain ⟨e, he, hent⟩ := pd_get' hbs hx
      have hi := (List.getElem?_eq_some_iff.mp he).1
      obtain ⟨qd, u, v, rfl, hq, hu1, hv1⟩ := hent.same s1
      refine r_gtup hq rfl ?_
      walk_at "rd"
      refine ⟨rfl, ?_⟩
      walk_at "rd"
      refine hu1.ask fun H2 s2 => ?_
      have fin : ∀ (bb : Bool) (H4 : Hp), Same H1 H4 → bb = (e.1 && e.2) → ∃ acc, H4 D = some (.lst acc) ∧ acc.length < sizeLine ∧ LcI H D (fun i acc _ => acc = ((bs.take i).map fun b => b.1 && b.2).map V.bl) (i + 1) (upd H4 D (.lst (acc ++ [.bl bb]))) := fun bb H4 s4 eb => by
        refine LcI.keep nD s1 hD hal (by omega) s4 ?_
        rw [take_snoc he, List.map_append, List.map_append, eb]
        rfl
      walk_at "rd"
      refine r_both (fun e1 => ?_) (fun e1 => ?_)
      · walk_at "rd"
        refine (hv1.same s2).ask fun H3 s3 => ?_
        exact fin _ _ (s2.trans s3) (by rw [e1, Bool.true_and])
      · exact fin _ _ s2 (by rw [e1, Bool.false_and])
    · obtain ⟨s1, acc, hD, hal, rfl⟩ := hP
      rw [hlb, List.take_length] at hD
      walk_at "rd"
      refine r_all (sqL hD) ?_
      walk_at "rd"
      rcases q with ⟨hall, ps, hp, ok, q⟩ | ⟨hall, q⟩
      · rw [hall]
        have hlp := pd_len hp
        have hp1 := Prs.stay hp (Tups.of s1)
        walk_at "rd"
        intro d nd
        walk_at "rd"
        refine ⟨b, xs, rfl, ((s1.trans (same_new nd)).seq hs), ?_⟩
        refine forN (J := Itv K b xs.length) (n := xs.length) (fun i σ H2 => ∃ (ms : List PS2) (y2 y3 : Option V), σ = [some (.ref b), some (.ref d), y2, y3] ∧ H2 d = some (.dK (ms.map encM)) ∧ Says ms (ps.drop (xs.length - i)) ∧ ms.length ≤ 2 * i ∧ Same H1 H2)
          ⟨[], none, none, rfl, upd_same, ?_, Nat.le_refl _, same_new nd⟩ (fun i σ H2 hi hP => ?_) (fun σ H2 hP => Nat.le_refl _) (fun i x σ H2 H3 hi hP hy => ?_) (fun σ H2 hP => ?_)
        · rw [List.drop_of_length_le (by omega)]
          exact ⟨List.nodup_nil, fun n => rfl, fun k hk => nomatch hk⟩
        · obtain ⟨ms, y2, y3, rfl, hd, hsay, hml, s2⟩ := hP
          exact ⟨hi, xs, xs[xs.length - 1 - i], (s1.trans s2).seq hs, List.getElem?_eq_getElem (by omega)⟩
        · obtain ⟨ms, y2, y3, rfl, hd, hsay, hml, s2⟩ := hP
          obtain ⟨rfl, hyx⟩ := hy
          have hx := hyx xs ((s1.trans s2).seq hs)
          obtain ⟨p, hpx, hpr⟩ := pd_get' hp1 hx
          obtain ⟨t1, rfl, ht1⟩ := hpr.stay (Tups.of s2)
          refine r_gtup ht1 rfl ?_
          have isd : ∀ {H : Hp} {ms : List PS2}, H d = some (.dK (ms.map encM)) → IsD H d := fun h => .inl ⟨_, .inl h⟩
          walk_at "rd"
          refine ⟨isd hd, ?_⟩
          walk_at "rd"
          refine ⟨_, DGet.k (k := Sum.inr p.2) hd, ?_⟩
          rw [valV_enc]
          walk_at "rd"
          refine ⟨isd hd, ?_⟩
          walk_at "rd"
          refine ⟨_, DGet.k (k := Sum.inr p.1) hd, ?_⟩
          rw [valV_enc]
          walk_at "rd"
          refine ⟨by show 2 ≤ sizeLine; decide, fun t2 nt2 => ?_⟩
          refine r_gtup (sqT upd_same) rfl ?_
          walk_at "rd"
          have hd2 : (upd H3 t2 (.tup [.str (look ms p.2), .str (look ms p.1)])) d = some (.dK (ms.map encM)) := (same_new nt2) _ _ hd
          have s3 : Same H1 (upd H3 t2 (.tup [.str (look ms p.2), .str (look ms p.1)])) := s2.trans (same_new nt2)
          generalize upd H3 t2 (.tup [.str (look ms p.2), .str (look ms p.1)]) = H4 at hd2 s3 ⊢
          have hml2 := mput_len ms p.1 (look ms p.2)
          have hsz : ∀ l : List PS2, l.length ≤ 100 → (l.map encM).length < sizeLine := fun l h => by rw [List.length_map]; exact small1000 (by omega)
          refine ⟨d, _, rfl, DPut.k (k := Sum.inr p.1) hd2 (hsz _ (by omega)), ?_⟩
          rw [putK_enc]
          walk_at "rd"
          refine ⟨d, _, rfl, DPut.k (k := Sum.inr p.2) upd_same (hsz _ (by omega)), ?_⟩
          rw [putK_enc]
          have hml3 := mput_len (mput ms p.1 (look ms p.2)) p.2 (look ms p.1)
          refine r_gnil ⟨mput (mput ms p.1 (look ms p.2)) p.2 (look ms p.1), _, _, rfl, upd_same, ?_, by omega, Pf.Same.mut (Pf.Same.mut s3 nd) nd⟩
          have e1 : xs.length - i = xs.length - (i + 1) + 1 := by omega
          have e2 : ps.drop (xs.length - (i + 1)) = p :: ps.drop (xs.length - i) := by
            have : ps[xs.length - (i + 1)]? = some p := by rw [← hpx]; congr 1; omega
            rw [e1]
            exact List.drop_eq_getElem?_toList_append.trans (by rw [this]; rfl)
          rw [e2]
          exact hsay.step p.1 p.2
        · obtain ⟨ms, y2, y3, rfl, hd, hsay, hml, s2⟩ := hP
          rw [Nat.sub_self, List.drop_zero] at hsay
          walk_at "rd"
          refine ⟨d, ms, rfl, hd, by omega, fun v H3 s3 hv => ?_⟩
          refine q v H3 ms ((s1.trans s2).trans s3) hsay hv ?_
          unfold riseM
          rw [List.length_mergeSort]
          exact Nat.le_trans (List.length_filter_le _ _) (by omega)
      · rw [hall]
        walk_at "rd"
        exact q _ s1
end
end Pf

namespace Pf
open PySem PySem.Spec PyProof.Rows L2
local macro_rules | `(tactic| walk_at "rd") => `(tactic| (repeat' (first
  | with_reducible refine r_seq ?_ | with_reducible refine r_asg ?_ | with_reducible refine r_ret ?_ | with_reducible refine r_retN ?_ | with_reducible refine r_drop ?_ | with_reducible refine r_if ?_
  | with_reducible refine r_op ?_ | (with_reducible show tVar _ _ _ _; refine r_var rfl ?_) | with_reducible refine r_c ?_ | with_reducible refine r_I0 ?_ | (with_reducible refine r_I ?c ?_; (case c => first | (show (0 : Int) < _; first | decide | assumption | omega) | exact cmul_r ⟨by decide, by decide⟩ | exact cmul_l ⟨by decide, by decide⟩ | exact cmul_r (by first | assumption | constructor <;> omega) | (unfold CDiv; constructor <;> decide) | (unfold CPow; refine ⟨?_, ?_, ?_⟩ <;> decide))) | with_reducible refine r_name ?_ | (with_reducible show rIxL _ _ _ _ _; refine r_ixL (sqL (by assumption)) rfl ?_) | (with_reducible show rIxT _ _ _ _ _; refine r_ixT (by assumption) rfl ?_) | (with_reducible show rSetL _ _ _ _ _; refine r_setL (by assumption) rfl ?_) | with_reducible refine r_test ?_ | with_reducible refine r_tB ?_ | with_reducible refine r_bl ?_
  | with_reducible refine r_not ?_ | with_reducible refine r_and ?_ | with_reducible refine r_or ?_ | with_reducible refine r_andV ?_ | with_reducible refine r_orV ?_ | with_reducible refine r_notV ?_ | with_reducible refine r_ifE ?_
  | with_reducible refine r_cons ?_ | with_reducible refine r_nil ?_ | with_reducible refine r_cb ?_ | with_reducible refine r_call ?_ | with_reducible refine r_lst ?_ | with_reducible refine r_tup ?_ | with_reducible refine r_bm ?_ | with_reducible refine r_bm0 ?_
  | with_reducible refine r_un ?_ | with_reducible refine r_U ?_ | with_reducible refine r_eqI ?_ | with_reducible refine r_eqS ?_ | with_reducible refine r_neI ?_ | with_reducible refine r_neS ?_ | with_reducible refine r_sub ?_ | with_reducible refine r_gcons ?_ | with_reducible refine r_gnil ?_
  | with_reducible refine r_chain ?_ | with_reducible refine r_get2 ?_ | with_reducible refine r_iList ?_ | with_reducible refine r_iStr ?_ | with_reducible refine r_iTup ?_ | with_reducible refine r_iRev ?_ | with_reducible refine r_iItems ?_ | with_reducible refine r_rng ?_ | with_reducible refine r_inS ?_ | with_reducible refine r_bI ?_ | with_reducible refine r_abs ?_ | with_reducible refine r_sl ?_ | with_reducible refine r_next ?_ | with_reducible refine r_yes ?_
  | (with_reducible show rLen _ _ _ _; first | refine r_lenK (sqL (by assumption)) ?_ | refine r_lenK (by assumption) ?_ | refine r_lenTK (by assumption) ?_)
  | (with_reducible show tFor _ _ _ _ _ _; unfold tFor) | (with_reducible show tLc _ _ _ _ _ _ _ _; unfold tLc) | (with_reducible show tWhile _ _ _ _ _; unfold tWhile)
  | (with_reducible refine ⟨_, rfl, ?_⟩) | (with_reducible refine ⟨_, _, rfl, rfl, ?_⟩) | (with_reducible refine Or.inr ⟨_, rfl, ?_⟩) | (refine ⟨_, _, rfl, Or.inl (by assumption), ?_⟩; skip) | (refine ⟨_, _, rfl, Or.inr (by assumption), ?_⟩; skip)
  | (with_reducible refine iteNT ?_) | (with_reducible refine iteNF ?_) | (with_reducible refine iteT ?_) | (with_reducible refine iteF ?_)
  | (dsimp only [Bool.not_true, Bool.not_false, List.cons_append, List.nil_append]))))

def sp_turned (K : PySem.W.Frag) : Sp := fun vs H Q _ => ∃ (x : V) (t : List PS2) (n : Str), vs = [x, .str n] ∧ TnD K H x t ∧ IsTurn t ∧ NameOk n ∧ ∀ H', Same H H' → Q (.str (look t n)) H'
def sp_led (K : PySem.W.Frag) : Sp := fun vs H Q _ => ∃ (b : Addr) (xs : List V) (ps : List PS2) (n : Str), vs = [.ref b, .str n] ∧ SqL K H b xs ∧ Prs K H xs ps ∧ Q (.str (led ps n)) H
def sp_strange (K : PySem.W.Frag) : Sp := fun vs H Q _ => ∃ p : Addr, vs = [.ref p] ∧ PileAt H p ∧ ∀ v H', NmV K H' v false → PileAt H' p → But p H H' → Q v H'
abbrev strangeS : List Str := ["", "Ab", "1a", "abcdefghi", "a_b", "a b", "aB", "-", "a,b", "X_1", ⟨(List.replicate 12 ("a" : Str).cps).foldl (· ++ ·) #[]⟩]
theorem strange_no : ∀ w ∈ strangeS, wordB smallS w = false ∧ w.length ≤ 20 := by decide +kernel
section
variable {P : Program} {w : World} {K : PySem.W.Frag} {mg : Str → Option Value} {base : Heap} {a : Ad}
theorem G_check_turn (T : Txt K mg a) : FnOk P w K mg base (L2.CX P w) 5 a.f_check_turn a.d_check_turn ["thing"] (sp_check_turn K) := by
  refine T.F_check_turn.okX sc_check_turn (fun vs H Q E h => ?_) (fun cdv A outer s H vs Q E hr h => ?_)
  · obtain ⟨b, ns, rfl, _⟩ := h
    rfl
  · obtain ⟨x, t, rfl, hx, ht, q⟩ := h
    refine ⟨_, (pss_one (ps_if (pt_not (pt_val (pe_call (G_is_turn (K := K) T) (hr.mono (by decide)) (by rfl) T.g_is_turn T.F_is_turn.kp T.b_is_turn .nil pass0 (pa_cons (pv 0) pa_nil)))) (pss_one (ps_raise rfl (takes_of rfl rfl rfl rfl) (pmk_own PySem.F.excBase_ValueError T.x_NoTurn T.g_NoTurn T.k_NoTurn (raises_own T.r_NoTurn T.y_NoTurn) rfl))) pss_nil)), ?_⟩
    walk_at "rd"
    refine ⟨x, t, rfl, hx, ht, fun H1 s1 => ?_⟩
    walk_at "rd"
    exact q _ s1
theorem G_turned_name (T : Txt K mg a) : FnOk P w K mg base (L2.CX P w) 6 a.f_turned_name a.d_turned_name ["turn", "name"] (sp_turned K) := by
  refine T.F_turned_name.okX sc_turned_name (fun vs H Q E h => ?_) (fun cdv A outer s H vs Q E hr h => ?_)
  · obtain ⟨x, t, n, rfl, _⟩ := h
    rfl
  · obtain ⟨x, t, n, rfl, hx, ht, hn, q⟩ := h
    refine ⟨_, (pss_cons (ps_expr (pe_call (G_check_turn (K := K) T) (hr.mono (by decide)) (by rfl) T.g_check_turn T.F_check_turn.kp T.b_check_turn .nil passL (pa_cons (pv 0) pa_nil)))
        (pss_cons (ps_if (pt_not (pt_val (pe_call (G_is_name (K := K) T) (hr.mono (by decide)) (by rfl) T.g_is_name T.F_is_name.kp T.b_is_name .nil pass0 (pa_cons (pv 1) pa_nil)))) (pss_one (ps_raise rfl (takes_of rfl rfl rfl rfl) (pmk_own PySem.F.excBase_ValueError T.x_NoName T.g_NoName T.k_NoName (raises_own T.r_NoName T.y_NoName) rfl))) pss_nil)
        (PSs.nox (pss_one (ps_ret (pe_dget2 (hu_of hr) (pe_callTy (call_dictTK K rfl) (by rfl) T.n_dict (by decide +kernel) (pa_cons (pv 0) pa_nil)) (pv 1) (pv 1) ⟨by rfl, by rfl, by rfl, by rfl⟩)))))), ?_⟩
    walk_at "rd"
    refine ⟨x, t, rfl, hx.tn, ht, fun H1 s1 => ?_⟩
    walk_at "rd"
    refine ⟨_, rfl, .inl ⟨n, rfl, sizeS hn, fun H2 s2 => ?_⟩⟩
    rw [wordB_iff.mpr hn]
    walk_at "rd"
    obtain ⟨b, o, xs, rfl, hb, ho, hp⟩ := hx.same (s1.trans s2)
    obtain ⟨ps, rfl, hps⟩ := refs_of hp
    refine ⟨b, o, ps, t.map encM, rfl, hb, ho, hps, fun d nd => ?_⟩
    rw [merge_nd (lt_nodup ht.rise)]
    have hd : (upd H2 d (.dK (t.map encM))) d = some (.dK (t.map encM)) := upd_same
    refine ⟨d, rfl, .inl ⟨_, .inl hd⟩, ?_⟩
    walk_at "rd"
    refine ⟨_, DGet.k (k := Sum.inr n) hd, ?_⟩
    rw [valV_enc]
    exact q _ ((s1.trans s2).trans (same_new nd))
theorem G__law_led (T : Txt K mg a) : FnOk P w K mg base CX0 1 a.f__law_led a.d__law_led ["_law_pairs", "_law_name_here"] (sp_led K) := by
  refine T.F__law_led.ok sc__law_led (fun vs H Q E h => ?_) (fun cdv A outer s H vs Q E hr h => ?_)
  · obtain ⟨x, t, p, n, rfl, _⟩ := h
    rfl
  · obtain ⟨b, xs, ps, n, rfl, hs, hp, q⟩ := h
    refine ⟨_, (pss_cons (ps_for PassesOwn.never rfl (pi_listK K (pv 0)) (pg_tupK K (n := 2) rfl (pgs_cons (pg_name (i := 2) sc__law_led.nd rfl (by first | exact Or.inl rfl | exact Or.inr rfl)) (pgs_cons (pg_name (i := 3) sc__law_led.nd rfl (by first | exact Or.inl rfl | exact Or.inr rfl)) pgs_nil))) (pss_one (ps_if (pt_cmpR op_eq (pv 1) (pv 2) (nomark _)) (pss_one (ps_set (i := 1) sc__law_led.nd rfl (.inl rfl) (pv 3))) (pss_one (ps_if (pt_cmpR op_eq (pv 1) (pv 3) (nomark _)) (pss_one (ps_set (i := 1) sc__law_led.nd rfl (.inl rfl) (pv 2))) pss_nil)))))
        (pss_one (ps_ret (pv 1)))), ?_⟩
    walk_at "rd"
    refine ⟨⟨_, hs⟩, ?_⟩
    refine forN_list (K := K) (a := b) (xs := xs) (fun i σ H2 => ∃ (m : Str) (y2 y3 : Option V), σ = [some (.ref b), some (.str m), y2, y3] ∧ H2 = H ∧ led (ps.drop i) m = led ps n) ⟨n, none, none, rfl, rfl, rfl⟩ (fun i σ H2 _ hP => by obtain ⟨_, _, _, _, rfl, _⟩ := hP; exact hs) (fun i x σ H2 hx hP => ?_) (fun σ H2 hP => ?_)
    · obtain ⟨m, y2, y3, rfl, rfl, e⟩ := hP
      obtain ⟨p, hpx, hpr⟩ := pd_get' hp hx
      obtain ⟨t1, rfl, ht1⟩ := hpr
      have e2 : ps.drop i = p :: ps.drop (i + 1) := List.drop_eq_getElem?_toList_append.trans (by rw [hpx]; rfl)
      rw [e2] at e
      have e3 : led (ps.drop (i + 1)) (if m = p.1 then p.2 else if m = p.2 then p.1 else m) = led ps n := e
      refine r_gtup ht1 rfl ?_
      walk_at "rd"
      refine r_dec (fun c => ?_) (fun c => ?_)
      · rw [if_pos c] at e3
        walk_at "rd"
        exact ⟨_, _, _, rfl, rfl, e3⟩
      · rw [if_neg c] at e3
        walk_at "rd"
        refine r_dec (fun c => ?_) (fun c => ?_)
        · rw [if_pos c] at e3
          walk_at "rd"
          exact ⟨_, _, _, rfl, rfl, e3⟩
        · rw [if_neg c] at e3
          walk_at "rd"
          exact ⟨_, _, _, rfl, rfl, e3⟩
    · obtain ⟨m, y2, y3, rfl, rfl, e⟩ := hP
      rw [List.drop_of_length_le (by rw [← pd_len hp]; exact Nat.le_refl _)] at e
      have e : m = led ps n := e
      walk_at "rd"
      exact e ▸ q
theorem G__law_strange (T : Txt K mg a) : FnOk P w K mg base CX0 3 a.f__law_strange a.d__law_strange ["_law_pile_here"] (sp_strange K) := by
  refine T.F__law_strange.ok sc__law_strange (fun vs H Q E h => ?_) (fun cdv A outer s H vs Q E hr h => ?_)
  · obtain ⟨p, rfl, _⟩ := h
    rfl
  · obtain ⟨p, rfl, hp, q⟩ := h
    refine ⟨_, (pss_cons (ps_set (i := 1) sc__law_strange.nd rfl (.inl rfl) (pe_lst (pa_cons pe_str (pa_cons pe_str (pa_cons pe_str (pa_cons pe_str (pa_cons pe_str (pa_cons pe_str (pa_cons pe_str (pa_cons pe_str (pa_cons pe_str (pa_cons pe_str (pa_cons (pe_op op_mulS pe_str pe_int) pa_nil)))))))))))))
        (pss_cons (ps_set (i := 2) sc__law_strange.nd rfl (.inl rfl) (pe_lst (pa_cons pe_non (pa_cons pe_bl (pa_cons pe_int (pa_cons pe_int (pa_cons (pe_tup (pa_cons pe_str pa_nil)) (pa_cons (pe_lst (pa_cons pe_str pa_nil)) (pa_cons (pe_disp (pps_cons pe_str pe_str pps_nil) (by rfl) (by rfl) (fun z => by cases z) (by decide)) (pa_cons (pe_tup pa_nil) pa_nil))))))))))
        (pss_one (ps_ret (pe_ix (ix_listK K) (pe_op op_cat (pv 1) (pv 2)) (pe_call (G__law_take (K := K) T) (hr.mono (by decide)) (by rfl) T.g__law_take T.F__law_take.kp T.b__law_take .nil pass0 (pa_cons (pv 0) (pa_cons pe_int pa_nil))) (fun _ _ => rfl)))))), ?_⟩
    walk_at "rd"
    refine ⟨by decide, by decide, by decide +kernel, by decide +kernel, by decide +kernel, ?_⟩
    walk_at "rd"
    refine ⟨by show 11 ≤ sizeLine; decide, fun l1 n1 => ?_⟩
    have eW : (V.str "" :: V.str "Ab" :: V.str "1a" :: V.str "abcdefghi" :: V.str "a_b" :: V.str "a b" :: V.str "aB" :: V.str "-" :: V.str "a,b" :: V.str "X_1" :: V.str { cps := List.foldl (fun x1 x2 => x1 ++ x2) #[] (List.replicate 12 (Str.ofString "a").cps) } :: ([] : List V)) = (strangeS.map V.str) := rfl
    rw [eW]
    have s1 : Same H (upd H l1 (.lst (strangeS.map V.str))) := same_new n1
    have h1 : (upd H l1 (.lst (strangeS.map V.str))) l1 = some (.lst (strangeS.map V.str)) := upd_same
    generalize upd H l1 (.lst (strangeS.map V.str)) = H1 at s1 h1 ⊢
    walk_at "rd"
    refine ⟨by show 1 ≤ sizeLine; decide, fun t1 nt1 => ?_⟩
    have s2 := same_new (o := .tup [.str "a"]) nt1
    have h2 : (upd H1 t1 (.tup [.str "a"])) t1 = some (.tup [.str "a"]) := upd_same
    generalize upd H1 t1 (.tup [.str "a"]) = H2 at s2 h2 ⊢
    walk_at "rd"
    refine ⟨by show 1 ≤ sizeLine; decide, fun l2 nl2 => ?_⟩
    have s3 := same_new (o := .lst [.str "a"]) nl2
    have h3 : (upd H2 l2 (.lst [.str "a"])) l2 = some (.lst [.str "a"]) := upd_same
    generalize upd H2 l2 (.lst [.str "a"]) = H3 at s3 h3 ⊢
    walk_at "rd"
    intro d1 nd1
    refine ⟨upd_same, [(Sum.inr "a", V.str "b")], rfl, by decide, ?_⟩
    rw [upd_upd]
    have s4 := same_new (o := .dK (mergeK [] [(Sum.inr "a", V.str "b")])) nd1
    have h4 : (upd H3 d1 (.dK (mergeK [] [(Sum.inr "a", V.str "b")]))) d1 = some (.dK (mergeK [] [(Sum.inr "a", V.str "b")])) := upd_same
    generalize upd H3 d1 (.dK (mergeK [] [(Sum.inr "a", V.str "b")])) = H4 at s4 h4 ⊢
    walk_at "rd"
    refine ⟨Nat.zero_le _, fun t2 nt2 => ?_⟩
    have s5 := same_new (o := .tup []) nt2
    have h5 : (upd H4 t2 (.tup [])) t2 = some (.tup []) := upd_same
    generalize upd H4 t2 (.tup []) = H5 at s5 h5 ⊢
    walk_at "rd"
    refine ⟨by show 8 ≤ sizeLine; decide, fun l3 nl3 => ?_⟩
    have s6 := same_new (o := .lst [.non, .bl true, .int 0, .int 7, .ref t1, .ref l2, .ref d1, .ref t2]) nl3
    have h6 : (upd H5 l3 (.lst [.non, .bl true, .int 0, .int 7, .ref t1, .ref l2, .ref d1, .ref t2])) l3 = some (.lst [.non, .bl true, .int 0, .int 7, .ref t1, .ref l2, .ref d1, .ref t2]) := upd_same
    generalize upd H5 l3 (.lst [.non, .bl true, .int 0, .int 7, .ref t1, .ref l2, .ref d1, .ref t2]) = H6 at s6 h6 ⊢
    walk_at "rd"
    have s26 := (((s2.trans s3).trans s4).trans s5).trans s6
    refine ⟨l1, l3, _, _, rfl, rfl, s26 _ _ h1, h6, by show 11 + 8 ≤ sizeLine; decide, fun l4 nl4 => ?_⟩
    have s7 := same_new (o := .lst (strangeS.map V.str ++ [.non, .bl true, .int 0, .int 7, .ref t1, .ref l2, .ref d1, .ref t2])) nl4
    have h7 : (upd H6 l4 (.lst (strangeS.map V.str ++ [.non, .bl true, .int 0, .int 7, .ref t1, .ref l2, .ref d1, .ref t2]))) l4 = some (.lst (strangeS.map V.str ++ [.non, .bl true, .int 0, .int 7, .ref t1, .ref l2, .ref d1, .ref t2])) := upd_same
    generalize upd H6 l4 (.lst (strangeS.map V.str ++ [.non, .bl true, .int 0, .int 7, .ref t1, .ref l2, .ref d1, .ref t2])) = H7 at s7 h7 ⊢
    have sA := (s1.trans s26).trans s7
    walk_at "rd"
    refine ⟨p, 19, rfl, hp.same sA, by decide, by decide, fun r H8 r0 r1 hp8 b8 => ?_⟩
    have np : l4 ≠ p := fun e => by
      obtain ⟨_, _, _, hh, _⟩ := hp.same sA
      rw [e] at h7
      rw [h7] at hh
      exact absurd (congrArg (fun o : Option HO => match o with | some (.lst xs) => xs.length | _ => 0) hh) (by show ¬ (19 = 3); decide)
    obtain ⟨v, ev, hv⟩ := at_memV (l := strangeS.map V.str ++ [.non, .bl true, .int 0, .int 7, .ref t1, .ref l2, .ref d1, .ref t2]) (i := r) r0 (by show r < 19; exact r1)
    refine r_ixL (sqL (b8 _ _ np h7)) ev ?_
    have hnp : ∀ q : Addr, ∀ o, H7 q = some o → (∀ xs, o ≠ .lst xs ∨ ∃ y, xs = [.str y]) → H8 q = some o := fun q o h hno => b8 _ _ (fun e => by
      obtain ⟨d, c, m, hh, _⟩ := hp.same sA
      rw [e, hh] at h
      cases h
      rcases hno _ with z | ⟨y, z⟩
      · exact z rfl
      · cases z) h
    refine q v H8 ?_ hp8 ((But.of sA).trans b8)
    rcases List.mem_append.mp hv with hv | hv
    · obtain ⟨w, hw, rfl⟩ := List.mem_map.mp hv
      have := strange_no w hw
      exact .inl ⟨w, rfl, by rw [sizeLine_eq]; omega, this.1.symm⟩
    · have k2 := s7 _ _ (s6 _ _ (s5 _ _ (s4 _ _ (s3 _ _ h2))))
      have k3 := s7 _ _ (s6 _ _ (s5 _ _ (s4 _ _ h3)))
      have k4 := s7 _ _ (s6 _ _ (s5 _ _ h4))
      have k5 := s7 _ _ (s6 _ _ h5)
      simp only [List.mem_cons, List.not_mem_nil, or_false] at hv
      rcases hv with rfl | rfl | rfl | rfl | rfl | rfl | rfl | rfl
      · exact .inr ⟨⟨_, .base .non, rfl⟩, rfl⟩
      · exact .inr ⟨⟨_, .base (.bl _), rfl⟩, rfl⟩
      · exact .inr ⟨⟨_, .base (.int _), rfl⟩, rfl⟩
      · exact .inr ⟨⟨_, .base (.int _), rfl⟩, rfl⟩
      · exact .inr ⟨⟨_, .base (.tup (hnp _ _ k2 fun xs => .inl fun z => nomatch z)), rfl⟩, rfl⟩
      · exact .inr ⟨⟨_, .base (.lst (hnp _ _ k3 fun xs => by
          by_cases e : xs = [.str "a"]
          · exact .inr ⟨_, e⟩
          · exact .inl fun z => e (HO.lst.inj z).symm)), rfl⟩, rfl⟩
      · exact .inr ⟨⟨_, .base (.dK (hnp _ _ k4 fun xs => .inl fun z => nomatch z)), rfl⟩, rfl⟩
      · exact .inr ⟨⟨_, .base (.tup (hnp _ _ k5 fun xs => .inl fun z => nomatch z)), rfl⟩, rfl⟩
end
end Pf

namespace Pf
open PySem PySem.Spec PyProof.Rows L2
local macro_rules | `(tactic| walk_at "rd") => `(tactic| (repeat' (first
  | with_reducible refine r_seq ?_ | with_reducible refine r_asg ?_ | with_reducible refine r_ret ?_ | with_reducible refine r_retN ?_ | with_reducible refine r_drop ?_ | with_reducible refine r_if ?_
  | with_reducible refine r_op ?_ | (with_reducible show tVar _ _ _ _; refine r_var rfl ?_) | with_reducible refine r_c ?_ | with_reducible refine r_I0 ?_ | (with_reducible refine r_I ?c ?_; (case c => first | (show (0 : Int) < _; first | decide | assumption | omega) | exact cmul_r ⟨by decide, by decide⟩ | exact cmul_l ⟨by decide, by decide⟩ | exact cmul_r (by first | assumption | constructor <;> omega) | (unfold CDiv; constructor <;> decide) | (unfold CPow; refine ⟨?_, ?_, ?_⟩ <;> decide))) | with_reducible refine r_name ?_ | (with_reducible show rIxL _ _ _ _ _; refine r_ixL (sqL (by assumption)) rfl ?_) | (with_reducible show rIxT _ _ _ _ _; refine r_ixT (by assumption) rfl ?_) | (with_reducible show rSetL _ _ _ _ _; refine r_setL (by assumption) rfl ?_) | with_reducible refine r_test ?_ | with_reducible refine r_tB ?_ | with_reducible refine r_bl ?_
  | with_reducible refine r_not ?_ | with_reducible refine r_and ?_ | with_reducible refine r_or ?_ | with_reducible refine r_andV ?_ | with_reducible refine r_orV ?_ | with_reducible refine r_notV ?_ | with_reducible refine r_ifE ?_
  | with_reducible refine r_cons ?_ | with_reducible refine r_nil ?_ | with_reducible refine r_cb ?_ | with_reducible refine r_call ?_ | with_reducible refine r_lst ?_ | with_reducible refine r_tup ?_ | with_reducible refine r_bm ?_ | with_reducible refine r_bm0 ?_
  | with_reducible refine r_un ?_ | with_reducible refine r_U ?_ | with_reducible refine r_eqI ?_ | with_reducible refine r_eqS ?_ | with_reducible refine r_neI ?_ | with_reducible refine r_neS ?_ | with_reducible refine r_sub ?_ | with_reducible refine r_gcons ?_ | with_reducible refine r_gnil ?_
  | with_reducible refine r_chain ?_ | with_reducible refine r_get2 ?_ | with_reducible refine r_iList ?_ | with_reducible refine r_iStr ?_ | with_reducible refine r_iTup ?_ | with_reducible refine r_iRev ?_ | with_reducible refine r_iItems ?_ | with_reducible refine r_rng ?_ | with_reducible refine r_inS ?_ | with_reducible refine r_bI ?_ | with_reducible refine r_abs ?_ | with_reducible refine r_sl ?_ | with_reducible refine r_next ?_ | with_reducible refine r_yes ?_
  | (with_reducible show rLen _ _ _ _; first | refine r_lenK (sqL (by assumption)) ?_ | refine r_lenK (by assumption) ?_ | refine r_lenTK (by assumption) ?_)
  | (with_reducible show tFor _ _ _ _ _ _; unfold tFor) | (with_reducible show tLc _ _ _ _ _ _ _ _; unfold tLc) | (with_reducible show tWhile _ _ _ _ _; unfold tWhile)
  | (with_reducible refine ⟨_, rfl, ?_⟩) | (with_reducible refine ⟨_, _, rfl, rfl, ?_⟩) | (with_reducible refine Or.inr ⟨_, rfl, ?_⟩) | (refine ⟨_, _, rfl, Or.inl (by assumption), ?_⟩; skip) | (refine ⟨_, _, rfl, Or.inr (by assumption), ?_⟩; skip)
  | (with_reducible refine iteNT ?_) | (with_reducible refine iteNF ?_) | (with_reducible refine iteT ?_) | (with_reducible refine iteF ?_)
  | (dsimp only [Bool.not_true, Bool.not_false, List.cons_append, List.nil_append]))))

def sp_right (K : PySem.W.Frag) : Sp := fun vs H Q _ => ∃ (b c : Addr) (xs : List V) (ps : List PS2) (ns : List Str), vs = [.ref b, .ref c] ∧ SqL K H b xs ∧ Prs K H xs ps ∧ ps.length ≤ 20 ∧ H c = some (.lst (ns.map V.str)) ∧ ns.Nodup ∧ (∀ n ∈ ns, NameOk n) ∧ ns.length ≤ 8 ∧
  (∀ p ∈ ps, p.1 ∈ ns ∧ p.2 ∈ ns) ∧ ∀ H', Same H H' → Q (.bl true) H'
abbrev fourS : List Str := ["a", "b", "q7", "zzzzzzzz"]
section
variable {P : Program} {w : World} {K : PySem.W.Frag} {mg : Str → Option Value} {base : Heap} {a : Ad}
theorem G__law_right (T : Txt K mg a) : FnOk P w K mg base CX0 7 a.f__law_right a.d__law_right ["_law_pairs", "_law_names_here"] (sp_right K) := by
  refine T.F__law_right.ok sc__law_right (fun vs H Q E h => ?_) (fun cdv A outer s H vs Q E hr h => ?_)
  · obtain ⟨x, t, p, n, m, rfl, _⟩ := h
    rfl
  · obtain ⟨b, c, xs, ps, ns, rfl, hs, hp, hpl, hc, hnd, hok, hnl, hin, q⟩ := h
    refine ⟨_, (pss_cons (ps_set (i := 2) sc__law_right.nd rfl (.inl rfl) (pe_callTy (call_list_ofK K) (by rfl) T.n_list (by decide +kernel) (pa_cons (pv 0) pa_nil)))
        (pss_cons (ps_set (i := 3) sc__law_right.nd rfl (.inl rfl) (pe_call (G_turn_of (K := K) T) (hr.mono (by decide)) (by rfl) T.g_turn_of T.F_turn_of.kp T.b_turn_of .nil passL (pa_cons (pv 2) pa_nil)))
        (pss_cons (ps_setLc (i := 4) (own := [("_law_name_here", 6)]) (by rfl) sc__law_right.nd rfl rfl (sw_true rfl rfl rfl (by decide +kernel)) (pi_listK K (pe_callB (cr_sortedSK K) (by rfl) T.n_sorted (by decide +kernel) (pa_cons (pv 1) pa_nil))) (blkOk_by (N := N__law_right) (sc := defScope s__law_right) (by decide +kernel)) (fun _ _ _ _ _ => (pg_name (i := 6) sc__law_right.nd rfl (by first | exact Or.inl rfl | exact Or.inr rfl))) (fun _ _ _ _ _ => pts_nil) (fun _ _ _ _ _ => (pe_tup (pa_cons (pv 6) (pa_cons (pe_call (G__law_led (K := K) T) (hr.mono (by decide)) (by rfl) T.g__law_led T.F__law_led.kp T.b__law_led .nil pass0 (pa_cons (pv 0) (pa_cons (pv 6) pa_nil))) pa_nil)))))
        (pss_cons (ps_setLc (i := 5) (own := [("_law_one", 7)]) (by rfl) sc__law_right.nd rfl rfl (sw_true rfl rfl rfl (by decide +kernel)) (pi_listK K (pv 4)) (blkOk_by (N := N__law_right) (sc := defScope s__law_right) (by decide +kernel)) (fun _ _ _ _ _ => (pg_name (i := 7) sc__law_right.nd rfl (by first | exact Or.inl rfl | exact Or.inr rfl))) (fun _ _ _ _ _ => (pts_one (pt_cmpR op_ne (pe_ix (ix_tupK K) (pv 7) pe_int (fun _ _ => rfl)) (pe_ix (ix_tupK K) (pv 7) pe_int (fun _ _ => rfl)) (nomark _)))) (fun _ _ _ _ _ => (pv 7)))
        (pss_cons (ps_if ((pw_or (pt_cmpR (op_neDK K hr.units) (pv 3) (pe_callTy (call_tupleFK K) (by rfl) T.n_tuple (by decide +kernel) (pa_cons (pv 5) pa_nil)) (nomark _)) (pw_or1 (pt_cmpR (op_neDK K hr.units) (pv 2) (pv 0) (nomark _))))).pt (pss_one (ps_ret pe_bl)) pss_nil)
        (pss_cons (ps_if ((pw_or (pt_not (pt_val (pe_callB (call_isiK' K) (by rfl) T.n_isinstance (by decide +kernel) (pa_cons (pv 3) (pa_cons (pe_bltn (v := .ty "tuple") (by rfl) T.n_tuple (by decide +kernel) rfl) pa_nil))))) (pw_or1 (pt_cmpR (op_neDK K hr.units) (pe_lc (own := [("_law_pair", 8)]) (by rfl) sc__law_right.nd (pi_tupK K (pv 3)) (blkOk_by (N := N__law_right) (sc := defScope s__law_right) (by decide +kernel)) (fun _ _ _ _ _ => (pg_name (i := 8) sc__law_right.nd rfl (by first | exact Or.inl rfl | exact Or.inr rfl))) (fun _ _ _ _ _ => (pts_one (pt_not (pt_val (pe_callB (call_isiK' K) (by rfl) T.n_isinstance (by decide +kernel) (pa_cons (pv 8) (pa_cons (pe_bltn (v := .ty "tuple") (by rfl) T.n_tuple (by decide +kernel) rfl) pa_nil))))))) (fun _ _ _ _ _ => (pv 8))) (pe_lst pa_nil) (nomark _))))).pt (pss_one (ps_ret pe_bl)) pss_nil)
        (pss_cons (ps_for PassesOwn.never rfl (pi_listK K (pe_op op_cat (pv 1) (pe_lst (pa_cons pe_str (pa_cons pe_str (pa_cons pe_str (pa_cons pe_str pa_nil))))))) (pg_name (i := 6) sc__law_right.nd rfl (by first | exact Or.inl rfl | exact Or.inr rfl)) (pss_one (ps_if (pt_cmpR op_ne (pe_call (G_turned_name (K := K) T) (hr.mono (by decide)) (by rfl) T.g_turned_name T.F_turned_name.kp T.b_turned_name .nil passL (pa_cons (pv 3) (pa_cons (pv 6) pa_nil))) (pe_call (G__law_led (K := K) T) (hr.mono (by decide)) (by rfl) T.g__law_led T.F__law_led.kp T.b__law_led .nil pass0 (pa_cons (pv 0) (pa_cons (pv 6) pa_nil))) (nomark _)) (pss_one (ps_ret pe_bl)) pss_nil)))
        (pss_one (ps_ret pe_bl))))))))), ?_⟩
    have ok2 : ∀ p ∈ ps, NameOk p.1 ∧ NameOk p.2 := fun p hp => ⟨hok _ (hin p hp).1, hok _ (hin p hp).2⟩
    walk_at "rd"
    intro l1 n1
    have s1 := same_new (o := .lst xs) n1
    have h1 : (upd H l1 (.lst xs)) l1 = some (.lst xs) := upd_same
    generalize upd H l1 (.lst xs) = H1 at s1 h1 ⊢
    walk_at "rd"
    refine ⟨l1, xs, rfl, sqL h1, by rw [pd_len hp]; exact hpl, .inl ⟨ps, Prs.stay hp (Tups.of s1), ok2, fun v H2 ms s2 hsay hv hrl => ?_⟩⟩
    have it := turn_of_says hsay ok2 hrl
    have s12 := s1.trans s2
    walk_at "rd"
    refine ⟨c, ns, rfl, sqL (s12 _ _ hc), by omega, fun ys l3 py sy n3 => ?_⟩
    have s3 := same_new (o := .lst (ys.map V.str)) n3
    have h3 : (upd H2 l3 (.lst (ys.map V.str))) l3 = some (.lst (ys.map V.str)) := upd_same
    generalize upd H2 l3 (.lst (ys.map V.str)) = H3 at s3 h3 ⊢
    have s13 := s12.trans s3
    have hyl : ys.length ≤ 8 := by rw [py.length_eq]; exact hnl
    walk_at "rd"
    refine ⟨⟨_, sqL h3⟩, fun D nD => ?_⟩
    refine lc_list (K := K) (a := l3) (xs := ys.map V.str) (LcI H3 D fun i acc H => Prs K H acc ((ys.take i).map fun n => (n, led ps n))) (LcI.zero nD .nil) (fun i H1 _ hP => hP.1.seq (sqL h3)) (fun i x H4 hx hP => ?_) (fun H4 hP => ?_)
    · obtain ⟨s4, acc, hD, hal, hacc⟩ := hP
      rw [List.getElem?_map] at hx
      obtain ⟨n, hn, rfl⟩ := Option.map_eq_some_iff.mp hx
      have hi := (List.getElem?_eq_some_iff.mp hn).1
      walk_at "rd"
      refine ⟨rfl, ?_⟩
      walk_at "rd"
      refine ⟨b, xs, ps, n, rfl, (s13.trans s4).seq hs, Prs.stay hp (Tups.of (s13.trans s4)), ?_⟩
      walk_at "rd"
      refine ⟨by show 2 ≤ sizeLine; decide, fun y ny => ?_⟩
      have s5 := same_new (o := .tup [.str n, .str (led ps n)]) ny
      have h5 : (upd H4 y (.tup [.str n, .str (led ps n)])) y = some (.tup [.str n, .str (led ps n)]) := upd_same
      generalize upd H4 y (.tup [.str n, .str (led ps n)]) = H5 at s5 h5 ⊢
      refine LcI.keep nD s4 hD hal (by omega) s5 ?_
      rw [take_snoc hn, List.map_append]
      have hD5 := s5 _ _ hD
      exact pd_snoc (Prs.stay (Prs.stay hacc (Tups.of s5)) (tups_mut hD5)) (Pr.stay ⟨y, rfl, sqT h5⟩ (tups_mut hD5))
    · obtain ⟨s4, acc, hD, hal, hacc⟩ := hP
      rw [List.length_map, List.take_length] at hacc
      have hal2 : acc.length ≤ 8 := by rw [List.length_map] at hal; omega
      have s14 := s13.trans s4
      walk_at "rd"
      refine ⟨⟨_, sqL hD⟩, fun D2 nD2 => ?_⟩
      refine lc_list (K := K) (a := D) (xs := acc) (LcI H4 D2 fun i ac2 H => Prs K H ac2 (((ys.map fun n => (n, led ps n)).take i).filter fun p => decide (p.1 ≠ p.2))) (LcI.zero nD2 .nil) (fun i H1 _ hP => hP.1.seq (sqL hD)) (fun i x H5 hx hP => ?_) (fun H5 hP => ?_)
      · obtain ⟨s5, ac2, hD2, hal5, hac2⟩ := hP
        obtain ⟨p, hpx, hpr⟩ := pd_get' hacc hx
        have hi := (List.getElem?_eq_some_iff.mp hx).1
        obtain ⟨t1, rfl, ht1⟩ := hpr.stay (Tups.of s5)
        walk_at "rd"
        refine ⟨rfl, ?_⟩
        walk_at "rd"
        refine r_ndec (fun e => ?_) (fun e => ?_)
        · walk_at "rd"
          refine LcI.keep nD2 s5 hD2 hal5 (by omega) (Same.refl _) ?_
          rw [take_snoc hpx, List.filter_append, show [p].filter (fun p => decide (p.1 ≠ p.2)) = [p] by simp [e]]
          exact pd_snoc (Prs.stay hac2 (tups_mut hD2)) (Pr.stay ⟨t1, rfl, ht1⟩ (tups_mut hD2))
        · refine LcI.skip s5 hD2 hal5 (Same.refl _) ?_
          rw [take_snoc hpx, List.filter_append, show [p].filter (fun p => decide (p.1 ≠ p.2)) = [] by simp [e], List.append_nil]
          exact hac2
      · obtain ⟨s5, ac2, hD2, hal5, hac2⟩ := hP
        rw [List.take_of_length_le (by rw [pd_len hacc]; exact Nat.le_refl _)] at hac2
        rw [← told_eq hsay hin py (sortedS_pw sy) hnd] at hac2
        have s15 := s14.trans s5
        walk_at "rd"
        refine r_tupF (sqL hD2) fun l o nl ho => ?_
        have s6 := same_new (o := .frz o (.tup ac2)) nl
        have h6 : (upd H5 l (.frz o (.tup ac2))) l = some (.frz o (.tup ac2)) := upd_same
        generalize upd H5 l (.frz o (.tup ac2)) = H6 at s6 h6 ⊢
        have s26 := (((s3.trans s4).trans s5).trans s6)
        have v6 := hv.same s26
        have t6 : Tn K H6 (.ref l) (riseM ms) := ⟨l, ac2, rfl, .inl (.inr ⟨o, h6⟩), Prs.stay hac2 (Tups.of s6)⟩
        have okT : ∀ p ∈ riseM ms, okP p := fun p hp => ⟨(it.ok p hp).1.sok, (it.ok p hp).2.sok⟩
        refine r_neD v6.tn.dp t6.dp (shaped_T okT) (shaped_T okT) ?_
        rw [SeqAt.eqv_refl _ (shaped_iff.mp (shaped_T okT)).1]
        walk_at "rd"
        have s16 := s15.trans s6
        have okL : ∀ p ∈ ps, okP p := fun p hp => ⟨(ok2 p hp).1.sok, (ok2 p hp).2.sok⟩
        have dL : ∀ {q : Addr}, SqL K H6 q xs → Dp K H6 (.ref q) (.list (ps.map eP)) := fun h => .lst h (Prs.dp (Prs.stay hp (Tups.of s16)))
        refine r_neD (dL (sqL ((s2.trans s26) _ _ h1))) (dL (s16.seq hs)) (shaped_LP okL) (shaped_LP okL) ?_
        rw [SeqAt.eqv_refl _ (shaped_iff.mp (shaped_LP okL)).1]
        walk_at "rd"
        obtain ⟨qv, ov, xv, rfl, hqv, hov, hpv⟩ := id v6
        have sqv : SqT K H6 qv xv := .inl (.inr ⟨ov, hqv⟩)
        refine r_isi (ty_tup sqv) rfl ?_
        walk_at "rd"
        refine ⟨⟨_, sqv⟩, fun D3 nD3 => ?_⟩
        refine lc_tup (K := K) (a := qv) (xs := xv) (LcI H6 D3 fun i acc _ => acc = []) (LcI.zero nD3 rfl) (fun i H1 _ hP => (Tups.of hP.1).sq sqv) (fun i x H7 hx hP => ?_) (fun H7 hP => ?_)
        · obtain ⟨s7, ac3, hD3, hal7, rfl⟩ := hP
          obtain ⟨p, hpx, t1, rfl, ht1⟩ := pd_get' hpv hx
          walk_at "rd"
          refine ⟨rfl, ?_⟩
          walk_at "rd"
          refine r_isi (ty_tup ((Tups.of s7).sq ht1)) rfl ?_
          walk_at "rd"
          exact LcI.skip s7 hD3 hal7 (Same.refl _) rfl
        · obtain ⟨s7, ac3, hD3, hal7, rfl⟩ := hP
          walk_at "rd"
          refine ⟨Nat.zero_le _, fun l8 n8 => ?_⟩
          have s8 := same_new (o := .lst []) n8
          have h8 : (upd H7 l8 (.lst [])) l8 = some (.lst []) := upd_same
          generalize upd H7 l8 (.lst []) = H8 at s8 h8 ⊢
          refine r_neD (d := .list []) (e := .list []) (.lst (sqL (s8 _ _ hD3)) .nil) (.lst (sqL h8) .nil) (by decide +kernel) (by decide +kernel) ?_
          rw [show PyData.eqv (.list []) (.list []) = true from SeqAt.eqv_refl _ (by decide +kernel)]
          have s68 := s7.trans s8
          have s18 := s16.trans s68
          walk_at "rd"
          refine ⟨by show 4 ≤ sizeLine; decide, fun l9 n9 => ?_⟩
          have s9 := same_new (o := .lst [.str "a", .str "b", .str "q7", .str "zzzzzzzz"]) n9
          have h9 : (upd H8 l9 (.lst [.str "a", .str "b", .str "q7", .str "zzzzzzzz"])) l9 = some (.lst [.str "a", .str "b", .str "q7", .str "zzzzzzzz"]) := upd_same
          generalize upd H8 l9 (.lst [.str "a", .str "b", .str "q7", .str "zzzzzzzz"]) = H9 at s9 h9 ⊢
          walk_at "rd"
          have s19 := s18.trans s9
          refine ⟨c, l9, _, _, rfl, rfl, s19 _ _ hc, h9, by rw [List.length_map, sizeLine_eq]; show ns.length + 4 ≤ _; omega, fun l10 n10 => ?_⟩
          have eM : ns.map V.str ++ [.str "a", .str "b", .str "q7", .str "zzzzzzzz"] = (ns ++ fourS).map V.str := by rw [List.map_append]; rfl
          rw [eM]
          have h10 : (upd H9 l10 (.lst ((ns ++ fourS).map V.str))) l10 = some (.lst ((ns ++ fourS).map V.str)) := upd_same
          have s10 := same_new (o := .lst ((ns ++ fourS).map V.str)) n10
          generalize upd H9 l10 (.lst ((ns ++ fourS).map V.str)) = HA at s10 h10 ⊢
          have okM : ∀ n ∈ ns ++ fourS, NameOk n := fun n hn => by
            rcases List.mem_append.mp hn with h | h
            · exact hok n h
            · exact wordB_iff.mp ((by decide +kernel : ∀ n ∈ (["a", "b", "q7", "zzzzzzzz"] : List Str), wordB smallS n = true) n h)
          generalize ns ++ fourS = ms2 at h10 okM ⊢
          have s1A := s19.trans s10
          have vA := v6.same ((s68.trans s9).trans s10)
          refine ⟨l10, rfl, ⟨_, sqL h10⟩, ?_⟩
          refine forN_list (K := K) (a := l10) (xs := ms2.map V.str) (fun i σ H2 => ∃ (y6 : Option V), σ = [some (.ref b), some (.ref c), some (.ref l1), some (.ref qv), some (.ref D), some (.ref D2), y6, none, none] ∧ Same HA H2) ⟨none, rfl, Same.refl _⟩ (fun i σ H2 _ hP => by obtain ⟨_, _, s⟩ := hP; exact s.seq (sqL h10)) (fun i x σ HB hx hP => ?_) (fun σ H2 hP => ?_)
          · obtain ⟨y6, rfl, sB⟩ := hP
            rw [List.getElem?_map] at hx
            obtain ⟨n, hn, rfl⟩ := Option.map_eq_some_iff.mp hx
            walk_at "rd"
            refine ⟨_, riseM ms, n, rfl, vA.same sB, it, okM n (List.mem_of_getElem? hn), fun HC sC => ?_⟩
            walk_at "rd"
            have s1C := (s1A.trans sB).trans sC
            refine ⟨b, xs, ps, n, rfl, s1C.seq hs, Prs.stay hp (Tups.of s1C), ?_⟩
            walk_at "rd"
            refine r_ndec (fun e => (e ?_).elim) (fun _ => ?_)
            · rw [look_rise hsay.nd, hsay.to]
            · walk_at "rd"
              exact sB.trans sC
          · obtain ⟨y6, rfl, sB⟩ := hP
            walk_at "rd"
            exact q _ (s1A.trans sB)
end
end Pf

namespace Pf
open PySem PySem.Spec PyProof.Rows L2
local macro_rules | `(tactic| walk_at "rd") => `(tactic| (repeat' (first
  | with_reducible refine r_seq ?_ | with_reducible refine r_asg ?_ | with_reducible refine r_ret ?_ | with_reducible refine r_retN ?_ | with_reducible refine r_drop ?_ | with_reducible refine r_if ?_
  | with_reducible refine r_op ?_ | (with_reducible show tVar _ _ _ _; refine r_var rfl ?_) | with_reducible refine r_c ?_ | with_reducible refine r_I0 ?_ | (with_reducible refine r_I ?c ?_; (case c => first | (show (0 : Int) < _; first | decide | assumption | omega) | exact cmul_r ⟨by decide, by decide⟩ | exact cmul_l ⟨by decide, by decide⟩ | exact cmul_r (by first | assumption | constructor <;> omega) | (unfold CDiv; constructor <;> decide) | (unfold CPow; refine ⟨?_, ?_, ?_⟩ <;> decide))) | with_reducible refine r_name ?_ | (with_reducible show rIxL _ _ _ _ _; refine r_ixL (sqL (by assumption)) rfl ?_) | (with_reducible show rIxT _ _ _ _ _; refine r_ixT (by assumption) rfl ?_) | (with_reducible show rSetL _ _ _ _ _; refine r_setL (by assumption) rfl ?_) | with_reducible refine r_test ?_ | with_reducible refine r_tB ?_ | with_reducible refine r_bl ?_
  | with_reducible refine r_not ?_ | with_reducible refine r_and ?_ | with_reducible refine r_or ?_ | with_reducible refine r_andV ?_ | with_reducible refine r_orV ?_ | with_reducible refine r_notV ?_ | with_reducible refine r_ifE ?_
  | with_reducible refine r_cons ?_ | with_reducible refine r_nil ?_ | with_reducible refine r_cb ?_ | with_reducible refine r_call ?_ | with_reducible refine r_lst ?_ | with_reducible refine r_tup ?_ | with_reducible refine r_bm ?_ | with_reducible refine r_bm0 ?_
  | with_reducible refine r_un ?_ | with_reducible refine r_U ?_ | with_reducible refine r_eqI ?_ | with_reducible refine r_eqS ?_ | with_reducible refine r_neI ?_ | with_reducible refine r_neS ?_ | with_reducible refine r_sub ?_ | with_reducible refine r_gcons ?_ | with_reducible refine r_gnil ?_
  | with_reducible refine r_chain ?_ | with_reducible refine r_get2 ?_ | with_reducible refine r_iList ?_ | with_reducible refine r_iStr ?_ | with_reducible refine r_iTup ?_ | with_reducible refine r_iRev ?_ | with_reducible refine r_iItems ?_ | with_reducible refine r_rng ?_ | with_reducible refine r_inS ?_ | with_reducible refine r_bI ?_ | with_reducible refine r_abs ?_ | with_reducible refine r_sl ?_ | with_reducible refine r_next ?_ | with_reducible refine r_yes ?_
  | (with_reducible show rLen _ _ _ _; first | refine r_lenK (sqL (by assumption)) ?_ | refine r_lenK (by assumption) ?_ | refine r_lenTK (by assumption) ?_)
  | (with_reducible show tFor _ _ _ _ _ _; unfold tFor) | (with_reducible show tLc _ _ _ _ _ _ _ _; unfold tLc) | (with_reducible show tWhile _ _ _ _ _; unfold tWhile)
  | (with_reducible refine ⟨_, rfl, ?_⟩) | (with_reducible refine ⟨_, _, rfl, rfl, ?_⟩) | (with_reducible refine Or.inr ⟨_, rfl, ?_⟩) | (refine ⟨_, _, rfl, Or.inl (by assumption), ?_⟩; skip) | (refine ⟨_, _, rfl, Or.inr (by assumption), ?_⟩; skip)
  | (with_reducible refine iteNT ?_) | (with_reducible refine iteNF ?_) | (with_reducible refine iteT ?_) | (with_reducible refine iteF ?_)
  | (dsimp only [Bool.not_true, Bool.not_false, List.cons_append, List.nil_append]))))

def sp_refused (K : PySem.W.Frag) : Sp := fun vs H Q _ => ∃ (b : Addr) (xs : List V) (bs : List (Bool × Bool)), vs = [.ref b] ∧ SqL K H b xs ∧ xs.length ≤ 20 ∧ Paired (Ent K H) xs bs ∧ (∃ e ∈ bs, (e.1 && e.2) = false) ∧ ∀ H', Same H H' → Q (.bl true) H'
section
variable {P : Program} {w : World} {K : PySem.W.Frag} {mg : Str → Option Value} {base : Heap} {a : Ad}
theorem exm_self {K : PySem.W.Frag} {S : Addr} (h1 : PySem.W.subIn K (.ref S) (.type "BaseException") = some true) (h2 : PySem.W.isClsIn K S = true) (h3 : PySem.W.typeIn K (.ref S) = some (.type "type")) (h4 : PySem.W.subIn K (.ref S) (.ref S) = some true) :
    PySem.W.exmOne K (.ref S) (.ref S) = some true := by
  have e1 : (PySem.W.subIn K (.ref S) (.type "BaseException") == some true) = true := by rw [h1] <;> rfl
  have e2 : ((PySem.W.clsIn K S).isSome && PySem.W.typeIn K (.ref S) == some (.type "type")) = true := by
    have h2' : (PySem.W.clsIn K S).isSome = true := h2
    rw [h2', h3] <;> rfl
  show (if (PySem.W.subIn K (.ref S) (.type "BaseException") == some true) = true then (if ((PySem.W.clsIn K S).isSome && PySem.W.typeIn K (.ref S) == some (.type "type")) = true then PySem.W.subIn K (.ref S) (.ref S) else none) else none) = some true
  rw [if_pos e1, if_pos e2]
  exact h4
theorem r_callS {sp : Sp} {E : L2.St → XK} {t : TA} {σ : L2.St} {H : Hp} {Q : VK} (h : t σ H fun vs H1 => sp vs H1 Q (E σ)) : tCallS sp E t σ H Q := h
theorem G__law_refused (T : Txt K mg a) : FnOk P w K mg base CX0 4 a.f__law_refused a.d__law_refused ["_law_pairs"] (sp_refused K) := by
  refine T.F__law_refused.ok sc__law_refused (fun vs H Q E h => ?_) (fun cdv A outer s H vs Q E hr h => ?_)
  · obtain ⟨x, t, p, rfl, _⟩ := h
    rfl
  · obtain ⟨b, xs, bs, rfl, hs, hl, hb, hbad, q⟩ := h
    refine ⟨_, (pss_cons (ps_try_only (tb := fun W => tDrop (tCallS (sp_turn_of K a.f_NoName) (WE W) (tCons (tVar 0) tNil))) (ts := fun _ _ _ => tRet (tC (.bl true))) (Wout := fun _ _ _ _ => False) rfl rfl ⟨rfl, by decide, Or.inl T.g_NoName⟩ takes0 (fun W pn xe tk _ => pss_one (ps_expr (pe_callS (G_turn_of (K := K) T) (hr.mono (by decide)) rfl T.g_turn_of T.F_turn_of.kp T.b_turn_of (fun σ => passAt tk σ) (pa_cons (pv 0) pa_nil)))) (fun _ _ _ _ _ _ _ => pss_one (ps_ret pe_bl)))
        (pss_one (ps_ret pe_bl))), ?_⟩
    walk_at "rd"
    refine r_callS ?_
    walk_at "rd"
    refine ⟨b, xs, rfl, hs, hl, .inr ⟨bs, hb, hbad, fun H1 s1 => ?_⟩⟩
    refine ⟨true, exm_self T.r_NoName T.i_NoName T.y_NoName T.s_NoName, fun _ a _ => ?_, fun z => nomatch z⟩
    walk_at "rd"
    exact q _ s1
/-- what is kept of a turn of the law: exchanges with what they told; F: what may still change -/
structure Kept (K : PySem.W.Frag) (H : Hp) (F : List Addr) (x : V) (ps : List PS2) : Prop where
  ex : ∃ (q b : Addr) (v : V) (xs : List V) (ms : List PS2), x = .ref q ∧ SqT K H q [.ref b, v] ∧ H b = some (.lst xs) ∧ (∀ f ∈ F, b ≠ f) ∧ Prs K H xs ps ∧ Says ms ps ∧ TnD K H v (riseM ms)
  len : ps.length ≤ 20
  ok : ∀ p ∈ ps, NameOk p.1 ∧ NameOk p.2
theorem Kept.same {K : PySem.W.Frag} {H H' : Hp} {F : List Addr} {x : V} {ps : List PS2} (h : Kept K H F x ps) (s : Same H H') : Kept K H' F x ps := by
  obtain ⟨⟨q, b, v, xs, ms, e, hq, hb, nb, hp, hs, hv⟩, l, o⟩ := h
  exact ⟨⟨q, b, v, xs, ms, e, (Tups.of s).sq hq, s _ _ hb, nb, Prs.stay hp (Tups.of s), hs, hv.same s⟩, l, o⟩
theorem Kept.but {K : PySem.W.Frag} {H H' : Hp} {F : List Addr} {le : Addr} {x : V} {ps : List PS2} {ys : List V} (h : Kept K H F x ps) (m : le ∈ F) (s : But le H H') (hl : H le = some (.lst ys)) : Kept K H' F x ps := by
  obtain ⟨⟨q, b, v, xs, ms, e, hq, hb, nb, hp, hs, hv⟩, l, o⟩ := h
  exact ⟨⟨q, b, v, xs, ms, e, (Tups.but s hl).sq hq, s _ _ (nb _ m) hb, nb, Prs.stay hp (Tups.but s hl), hs, hv.but s hl⟩, l, o⟩
theorem Kept.add {K : PySem.W.Frag} {H : Hp} {F : List Addr} {p : Addr} {x : V} {ps : List PS2} (h : Kept K H F x ps) (n : H p = none) : Kept K H (p :: F) x ps := by
  obtain ⟨⟨q, b, v, xs, ms, e, hq, hb, nb, r⟩, l, o⟩ := h
  refine ⟨⟨q, b, v, xs, ms, e, hq, hb, fun f hf => ?_, r⟩, l, o⟩
  rcases List.mem_cons.mp hf with z | z
  · rw [z]; exact ne_of_none hb n
  · exact nb f z
theorem Kept.weak {K : PySem.W.Frag} {H : Hp} {F : List Addr} {p : Addr} {x : V} {ps : List PS2} (h : Kept K H (p :: F) x ps) : Kept K H F x ps := by
  obtain ⟨⟨q, b, v, xs, ms, e, hq, hb, nb, r⟩, l, o⟩ := h
  exact ⟨⟨q, b, v, xs, ms, e, hq, hb, fun f hf => nb f (List.mem_cons_of_mem _ hf), r⟩, l, o⟩
/-- how things stand within a turn -/
structure Rst (K : PySem.W.Frag) (H0 : Hp) (p le lp ln : Addr) (acc : List V) (pss : List (List PS2)) (xs : List V) (ps : List PS2) (ns : List Str) (H : Hp) : Prop where
  ne : le ≠ p ∧ lp ≠ p ∧ ln ≠ p
  np : H0 p = none
  k : Paired (Kept K H [p, le]) acc pss
  el : H le = some (.lst acc)
  pile : PileAt H p
  lp : H lp = some (.lst xs)
  prs : Prs K H xs ps
  ln : H ln = some (.lst (ns.map V.str))
  s : Same H0 H
theorem Rst.same {K : PySem.W.Frag} {H0 H H' : Hp} {p le lp ln : Addr} {acc : List V} {pss : List (List PS2)} {xs : List V} {ps : List PS2} {ns : List Str} (h : Rst K H0 p le lp ln acc pss xs ps ns H) (s : Same H H') : Rst K H0 p le lp ln acc pss xs ps ns H' :=
  ⟨h.ne, h.np, pd_mono (fun _ _ k => k.same s) h.k, s _ _ h.el, h.pile.same s, s _ _ h.lp, Prs.stay h.prs (Tups.of s), s _ _ h.ln, h.s.trans s⟩
theorem Rst.mv {K : PySem.W.Frag} {H0 H H' : Hp} {p le lp ln : Addr} {acc : List V} {pss : List (List PS2)} {xs : List V} {ps : List PS2} {ns : List Str} (h : Rst K H0 p le lp ln acc pss xs ps ns H) (hp : PileAt H' p) (b : But p H H') : Rst K H0 p le lp ln acc pss xs ps ns H' := by
  obtain ⟨d, c, n, e, _⟩ := h.pile
  exact ⟨h.ne, h.np, pd_mono (fun _ _ k => k.but List.mem_cons_self b e) h.k, b _ _ h.ne.1 h.el, hp, b _ _ h.ne.2.1 h.lp, Prs.stay h.prs (Tups.but b e), b _ _ h.ne.2.2 h.ln, ((But.of h.s).trans b).toSame h.np⟩
theorem Rst.tups {K : PySem.W.Frag} {H0 H H' : Hp} {p le lp ln : Addr} {acc : List V} {pss : List (List PS2)} {xs : List V} {ps : List PS2} {ns : List Str} (h : Rst K H0 p le lp ln acc pss xs ps ns H) (b : But p H H') : Tups H H' := h.pile.tups b
end
end Pf

namespace Pf
open PySem PySem.Spec PyProof.Rows L2
local macro_rules | `(tactic| walk_at "rd") => `(tactic| (repeat' (first
  | with_reducible refine r_seq ?_ | with_reducible refine r_asg ?_ | with_reducible refine r_ret ?_ | with_reducible refine r_retN ?_ | with_reducible refine r_drop ?_ | with_reducible refine r_if ?_
  | with_reducible refine r_op ?_ | (with_reducible show tVar _ _ _ _; refine r_var rfl ?_) | with_reducible refine r_c ?_ | with_reducible refine r_I0 ?_ | (with_reducible refine r_I ?c ?_; (case c => first | (show (0 : Int) < _; first | decide | assumption | omega) | exact cmul_r ⟨by decide, by decide⟩ | exact cmul_l ⟨by decide, by decide⟩ | exact cmul_r (by first | assumption | constructor <;> omega) | (unfold CDiv; constructor <;> decide) | (unfold CPow; refine ⟨?_, ?_, ?_⟩ <;> decide))) | with_reducible refine r_name ?_ | (with_reducible show rIxL _ _ _ _ _; refine r_ixL (sqL (by assumption)) rfl ?_) | (with_reducible show rIxT _ _ _ _ _; refine r_ixT (by assumption) rfl ?_) | (with_reducible show rSetL _ _ _ _ _; refine r_setL (by assumption) rfl ?_) | with_reducible refine r_test ?_ | with_reducible refine r_tB ?_ | with_reducible refine r_bl ?_
  | with_reducible refine r_not ?_ | with_reducible refine r_and ?_ | with_reducible refine r_or ?_ | with_reducible refine r_andV ?_ | with_reducible refine r_orV ?_ | with_reducible refine r_notV ?_ | with_reducible refine r_ifE ?_
  | with_reducible refine r_cons ?_ | with_reducible refine r_nil ?_ | with_reducible refine r_cb ?_ | with_reducible refine r_call ?_ | with_reducible refine r_lst ?_ | with_reducible refine r_tup ?_ | with_reducible refine r_bm ?_ | with_reducible refine r_bm0 ?_
  | with_reducible refine r_un ?_ | with_reducible refine r_U ?_ | with_reducible refine r_eqI ?_ | with_reducible refine r_eqS ?_ | with_reducible refine r_neI ?_ | with_reducible refine r_neS ?_ | with_reducible refine r_sub ?_ | with_reducible refine r_gcons ?_ | with_reducible refine r_gnil ?_
  | with_reducible refine r_chain ?_ | with_reducible refine r_get2 ?_ | with_reducible refine r_iList ?_ | with_reducible refine r_iStr ?_ | with_reducible refine r_iTup ?_ | with_reducible refine r_iRev ?_ | with_reducible refine r_iItems ?_ | with_reducible refine r_rng ?_ | with_reducible refine r_inS ?_ | with_reducible refine r_bI ?_ | with_reducible refine r_abs ?_ | with_reducible refine r_sl ?_ | with_reducible refine r_next ?_ | with_reducible refine r_yes ?_
  | (with_reducible show rLen _ _ _ _; first | refine r_lenK (sqL (by assumption)) ?_ | refine r_lenK (by assumption) ?_ | refine r_lenTK (by assumption) ?_)
  | (with_reducible show tFor _ _ _ _ _ _; unfold tFor) | (with_reducible show tLc _ _ _ _ _ _ _ _; unfold tLc) | (with_reducible show tWhile _ _ _ _ _; unfold tWhile)
  | (with_reducible refine ⟨_, rfl, ?_⟩) | (with_reducible refine ⟨_, _, rfl, rfl, ?_⟩) | (with_reducible refine Or.inr ⟨_, rfl, ?_⟩) | (refine ⟨_, _, rfl, Or.inl (by assumption), ?_⟩; skip) | (refine ⟨_, _, rfl, Or.inr (by assumption), ?_⟩; skip)
  | (with_reducible refine iteNT ?_) | (with_reducible refine iteNF ?_) | (with_reducible refine iteT ?_) | (with_reducible refine iteF ?_)
  | (dsimp only [Bool.not_true, Bool.not_false, List.cons_append, List.nil_append]))))

theorem ty_but {K : PySem.W.Frag} {H H' : Hp} {p : Addr} {xs ys : List V} {x : V} {t : Value} (h : TyX K H x t) (s : But p H H') (hp : H p = some (.lst xs)) (hp' : H' p = some (.lst ys)) : TyX K H' x t := by
  have key : ∀ {b : Addr} {o : HO}, H b = some o → (∀ zs, o ≠ .lst zs) → H' b = some o := fun {b o} e n => by
    refine s _ _ (fun z => ?_) e
    rw [z, hp] at e
    exact n xs (Option.some.inj e).symm
  cases h with
  | base b =>
    refine .base ?_
    cases b with
    | non => exact .non
    | bl y => exact .bl y
    | int i => exact .int i
    | str y => exact .str y
    | flt y => exact .flt y
    | @lst b _ e =>
      by_cases z : b = p
      · rw [z]; exact .lst hp'
      · exact .lst (s _ _ z e)
    | frz e => exact .frz (key e (fun _ z => nomatch z))
    | tup e => exact .tup (key e (fun _ z => nomatch z))
    | dK e => exact .dK (key e (fun _ z => nomatch z))
    | dT e => exact .dT (key e (fun _ z => nomatch z))
    | ins e cl ha hn htk hm => exact .ins (key e (fun _ z => nomatch z)) cl ha hn htk hm
  | byt b => exact .byt b
  | set e => exact .set (key e (fun _ z => nomatch z))
  | kList e c => exact .kList e c
  | kTuple e c => exact .kTuple e c
  | kDict e c => exact .kDict e c
  | fTuple e => exact .fTuple (key e (fun _ z => nomatch z))
  | fDict e => exact .fDict (key e (fun _ z => nomatch z))
theorem NmV.mv {K : PySem.W.Frag} {H H' : Hp} {p : Addr} {x : V} {b : Bool} (h : NmV K H x b) (s : But p H H') (hp : PileAt H p) (hp' : PileAt H' p) : NmV K H' x b := by
  rcases h with h | ⟨⟨t, ty, e⟩, z⟩
  · exact .inl h
  · obtain ⟨_, _, _, h1, _⟩ := hp
    obtain ⟨_, _, _, h2, _⟩ := hp'
    exact .inr ⟨⟨t, ty_but ty s h1 h2, e⟩, z⟩
theorem r_nopart {σ : L2.St} {H : Hp} {Q : Option Int → Hp → Prop} (h : Q none H) : tNoPart σ H Q := h
theorem r_part {σ : L2.St} {H : Hp} {t : TE} {Q : Option Int → Hp → Prop} (h : t σ H fun x H1 => ∃ i, x = .int i ∧ Q (some i) H1) : tPart t σ H Q := h
/-- a pair of two, of which one at least is no name -/
def BadP (K : PySem.W.Frag) (H : Hp) (x : V) : Prop := ∃ q u v, ∃ b : Bool × Bool, x = .ref q ∧ SqT K H q [u, v] ∧ NmV K H u b.1 ∧ NmV K H v b.2 ∧ (b.1 && b.2) = false
theorem BadP.mk {K : PySem.W.Frag} {H : Hp} {q : Addr} {u v : V} {b c : Bool} (s : SqT K H q [u, v]) (h1 : NmV K H u b) (h2 : NmV K H v c) (e : (b && c) = false) : BadP K H (.ref q) := ⟨q, u, v, (b, c), rfl, s, h1, h2, e⟩
theorem BadP.same {K : PySem.W.Frag} {H H' : Hp} {x : V} (h : BadP K H x) (s : Same H H') : BadP K H' x := by
  obtain ⟨q, u, v, b, e, hq, h1, h2, z⟩ := h
  exact ⟨q, u, v, b, e, (Tups.of s).sq hq, h1.same s, h2.same s, z⟩
theorem BadP.mv {K : PySem.W.Frag} {H H' : Hp} {p : Addr} {x : V} (h : BadP K H x) (s : But p H H') (hp : PileAt H p) (hp' : PileAt H' p) : BadP K H' x := by
  obtain ⟨q, u, v, b, e, hq, h1, h2, z⟩ := h
  exact ⟨q, u, v, b, e, (hp.tups s).sq hq, h1.mv s hp hp', h2.mv s hp hp', z⟩
theorem three_at {x y z : V} {r : Int} (h0 : 0 ≤ r) (h1 : r < 3) : ∃ v, atI [x, y, z] r = some v ∧ (v = x ∨ v = y ∨ v = z) := by
  have : r = 0 ∨ r = 1 ∨ r = 2 := by omega
  rcases this with e | e | e <;> subst e
  · exact ⟨x, rfl, .inl rfl⟩
  · exact ⟨y, rfl, .inr (.inl rfl)⟩
  · exact ⟨z, rfl, .inr (.inr rfl)⟩
section
variable {P : Program} {w : World} {K : PySem.W.Frag} {mg : Str → Option Value} {base : Heap} {a : Ad}
def sp_law (K : PySem.W.Frag) : Sp := fun vs H Q _ => ∃ (b : Addr) (ns : List Int), vs = [.ref b] ∧ SqL K H b (ns.map V.int) ∧ ns.length ≤ 63 ∧ ∀ H', Q (.bl true) H'
theorem ok_law (T : Txt K mg a) : FnOk P w K mg base CX0 8 a.f_law a.d_law ["_law_script"] (sp_law K) := by
  refine T.F_law.ok sc_law (fun vs H Q E h => ?_) (fun cdv A outer s H vs Q E hr h => ?_)
  · obtain ⟨x, t, rfl, _⟩ := h
    rfl
  · obtain ⟨b, zs, rfl, hs, hl, q⟩ := h
    refine ⟨_, (pss_cons (ps_set (i := 1) sc_law.nd rfl (.inl rfl) (pe_lst pa_nil))
        (pss_cons (ps_for PassesOwn.never rfl (pi_range1 (by rfl) T.n_range (pa_cons pe_int pa_nil)) (pg_name (i := 2) sc_law.nd rfl (by first | exact Or.inl rfl | exact Or.inr rfl)) (pss_cons (ps_set (i := 3) sc_law.nd rfl (.inl rfl) (pe_call (G__law_pile (K := K) T) (hr.mono (by decide)) (by rfl) T.g__law_pile T.F__law_pile.kp T.b__law_pile .nil pass0 (pa_cons (pv 0) (pa_cons (pv 2) pa_nil))))
        (pss_cons (ps_set (i := 4) sc_law.nd rfl (.inl rfl) (pe_call (G__law_names (K := K) T) (hr.mono (by decide)) (by rfl) T.g__law_names T.F__law_names.kp T.b__law_names .nil pass0 (pa_cons (pv 3) (pa_cons (pe_op op_add pe_int (pe_call (G__law_take (K := K) T) (hr.mono (by decide)) (by rfl) T.g__law_take T.F__law_take.kp T.b__law_take .nil pass0 (pa_cons (pv 3) (pa_cons pe_int pa_nil)))) pa_nil))))
        (pss_cons (ps_set (i := 5) sc_law.nd rfl (.inl rfl) (pe_lst pa_nil))
        (pss_cons (ps_for PassesOwn.never rfl (pi_range1 (by rfl) T.n_range (pa_cons (pe_call (G__law_take (K := K) T) (hr.mono (by decide)) (by rfl) T.g__law_take T.F__law_take.kp T.b__law_take .nil pass0 (pa_cons (pv 3) (pa_cons pe_int pa_nil))) pa_nil)) (pg_name (i := 6) sc_law.nd rfl (by first | exact Or.inl rfl | exact Or.inr rfl)) (pss_one (ps_expr (pe_bmK K PySem.F.plainAttrs_list PySem.F.slot_list_append PySem.F.type_list_append mt_append (pv 5) (pa_cons (pe_tup (pa_cons (pe_ix (ix_listK K) (pv 4) (pe_call (G__law_take (K := K) T) (hr.mono (by decide)) (by rfl) T.g__law_take T.F__law_take.kp T.b__law_take .nil pass0 (pa_cons (pv 3) (pa_cons (pe_callB (call_len_seqK K) (by rfl) T.n_len PySem.boot_len (pa_cons (pv 4) pa_nil)) pa_nil))) (fun _ _ => rfl)) (pa_cons (pe_ix (ix_listK K) (pv 4) (pe_call (G__law_take (K := K) T) (hr.mono (by decide)) (by rfl) T.g__law_take T.F__law_take.kp T.b__law_take .nil pass0 (pa_cons (pv 3) (pa_cons (pe_callB (call_len_seqK K) (by rfl) T.n_len PySem.boot_len (pa_cons (pv 4) pa_nil)) pa_nil))) (fun _ _ => rfl)) pa_nil))) pa_nil)))))
        (pss_cons (ps_if (pt_not (pt_val (pe_call (G__law_right (K := K) T) (hr.mono (by decide)) (by rfl) T.g__law_right T.F__law_right.kp T.b__law_right .nil pass0 (pa_cons (pv 5) (pa_cons (pv 4) pa_nil))))) (pss_one (ps_ret pe_bl)) pss_nil)
        (pss_cons (ps_expr (pe_bmK K PySem.F.plainAttrs_list PySem.F.slot_list_append PySem.F.type_list_append mt_append (pv 1) (pa_cons (pe_tup (pa_cons (pv 5) (pa_cons (pe_call (G_turn_of (K := K) T) (hr.mono (by decide)) (by rfl) T.g_turn_of T.F_turn_of.kp T.b_turn_of .nil passL (pa_cons (pv 5) pa_nil)) pa_nil))) pa_nil)))
        (pss_one (ps_if (pt_cmpR op_eq (pe_call (G__law_take (K := K) T) (hr.mono (by decide)) (by rfl) T.g__law_take T.F__law_take.kp T.b__law_take .nil pass0 (pa_cons (pv 3) (pa_cons pe_int pa_nil))) pe_int (nomark _)) (pss_cons (ps_set (i := 7) sc_law.nd rfl (.inl rfl) (pe_call (G__law_strange (K := K) T) (hr.mono (by decide)) (by rfl) T.g__law_strange T.F__law_strange.kp T.b__law_strange .nil pass0 (pa_cons (pv 3) pa_nil)))
        (pss_cons (ps_set (i := 8) sc_law.nd rfl (.inl rfl) (pe_call (G__law_take (K := K) T) (hr.mono (by decide)) (by rfl) T.g__law_take T.F__law_take.kp T.b__law_take .nil pass0 (pa_cons (pv 3) (pa_cons (pe_op op_add (pe_callB (call_len_seqK K) (by rfl) T.n_len PySem.boot_len (pa_cons (pv 5) pa_nil)) pe_int) pa_nil))))
        (pss_cons (ps_set (i := 9) sc_law.nd rfl (.inl rfl) (pe_ix (ix_listK K) (pv 4) pe_int (fun _ _ => rfl)))
        (pss_cons (ps_set (i := 10) sc_law.nd rfl (.inl rfl) (pe_ix (ix_listK K) (pe_lst (pa_cons (pe_tup (pa_cons (pv 7) (pa_cons (pv 9) pa_nil))) (pa_cons (pe_tup (pa_cons (pv 9) (pa_cons (pv 7) pa_nil))) (pa_cons (pe_tup (pa_cons (pv 7) (pa_cons (pv 7) pa_nil))) pa_nil)))) (pe_call (G__law_take (K := K) T) (hr.mono (by decide)) (by rfl) T.g__law_take T.F__law_take.kp T.b__law_take .nil pass0 (pa_cons (pv 3) (pa_cons pe_int pa_nil))) (fun _ _ => rfl)))
        (pss_one (ps_if (pt_not (pt_val (pe_call (G__law_refused (K := K) T) (hr.mono (by decide)) (by rfl) T.g__law_refused T.F__law_refused.kp T.b__law_refused .nil pass0 (pa_cons (pe_op op_cat (pe_op op_cat (pe_slice (sl_listK K) (pv 5) po_none (po_some (pv 8))) (pe_lst (pa_cons (pv 10) pa_nil))) (pe_slice (sl_listK K) (pv 5) (po_some (pv 8)) po_none)) pa_nil)))) (pss_one (ps_ret pe_bl)) pss_nil)))))) pss_nil)))))))))
        (pss_one (ps_ret (pe_cmpR (op_eqDK K hr.units) (pe_lc (own := [("_law_pairs", 5), ("_law_told", 11)]) (by rfl) sc_law.nd (pi_listK K (pv 1)) (blkOk_by (N := N_law) (sc := defScope s_law) (by decide +kernel)) (fun _ _ _ _ _ => (pg_tupK K (n := 2) rfl (pgs_cons (pg_name (i := 5) sc_law.nd rfl (by first | exact Or.inl rfl | exact Or.inr rfl)) (pgs_cons (pg_name (i := 11) sc_law.nd rfl (by first | exact Or.inl rfl | exact Or.inr rfl)) pgs_nil)))) (fun _ _ _ _ _ => (pts_one (pt_cmpR (op_neDK K hr.units) (pe_call (G_turn_of (K := K) T) (hr.mono (by decide)) (by rfl) T.g_turn_of T.F_turn_of.kp T.b_turn_of .nil passL (pa_cons (pv 5) pa_nil)) (pv 11) (nomark _)))) (fun _ _ _ _ _ => (pv 5))) (pe_lst pa_nil) (nomark _)))))), ?_⟩
    walk_at "rd"
    refine ⟨Nat.zero_le _, fun le nle => ?_⟩
    walk_at "rd"
    refine ⟨by decide, by decide, ?_⟩
    refine forN_range (fun i σ H4 => ∃ (acc : List V) (pss : List (List PS2)) (y2 y3 y4 y5 y6 y7 y8 y9 y10 : Option V), σ = [some (.ref b), some (.ref le), y2, y3, y4, y5, y6, y7, y8, y9, y10, none] ∧ H4 le = some (.lst acc) ∧ acc.length = i ∧ Paired (Kept K H4 [le]) acc pss ∧ Same H H4)
      ⟨[], [], none, none, none, none, none, none, none, none, none, rfl, upd_same, rfl, .nil, same_new nle⟩ (fun i σ H4 hi hP => ?_) (fun σ H4 hP => ?_)
    · obtain ⟨acc, pss, y2, y3, y4, y5, y6, y7, y8, y9, y10, rfl, hle, hal, hk, s4⟩ := hP
      have hi : i < 30 := hi
      walk_at "rd"
      refine ⟨b, zs, i, by rw [Int.zero_add], s4.seq hs, fun p H5 np s5 hp5 => ?_⟩
      have nple : le ≠ p := ne_of_none hle np
      walk_at "rd"
      refine ⟨p, 6, rfl, hp5, by decide, by decide, fun m H6 m0 m1 hp6 b6 => ?_⟩
      walk_at "rd"
      refine ⟨p, 1 + m, rfl, hp6, by omega, by omega, fun ln ns H7 hnl hnd hok nln hln hp7 b7 => ?_⟩
      have s7 : Same H4 H7 := (((But.of s5).trans b6).trans b7).toSame np
      walk_at "rd"
      refine ⟨Nat.zero_le _, fun lp nlp => ?_⟩
      have s8 := same_new (o := .lst []) nlp
      have h8 : (upd H7 lp (.lst [])) lp = some (.lst []) := upd_same
      have hp8 := hp7.same s8
      have hln8 := s8 _ _ hln
      have n4lp : H4 lp = none := s7.free nlp
      have nlnlp : ln ≠ lp := ne_of_none hln nlp
      have nplp : p ≠ lp := hp7.ne nlp
      have npln : ln ≠ p := fun e => by
        obtain ⟨_, _, _, hh, _⟩ := hp6
        rw [e] at nln
        rw [nln] at hh
        cases hh
      generalize upd H7 lp (.lst []) = H8 at s8 h8 hp8 hln8 ⊢
      have s48 := s7.trans s8
      walk_at "rd"
      refine ⟨p, 10, rfl, hp8, by decide, by decide, fun cnt H9 c0 c1 hp9 b9 => ?_⟩
      have s49 : Same H4 H9 := ((But.of s48).trans b9).toSame np
      walk_at "rd"
      refine ⟨by omega, by omega, ?_⟩
      refine forN_range (fun j σ HA => ∃ (xs : List V) (ps : List PS2) (y6 : Option V), σ = [some (.ref b), some (.ref le), some (.int (0 + (i : Nat))), some (.ref p), some (.ref ln), some (.ref lp), y6, y7, y8, y9, y10, none] ∧ HA lp = some (.lst xs) ∧ Prs K HA xs ps ∧ ps.length = j ∧ (∀ e ∈ ps, e.1 ∈ ns ∧ e.2 ∈ ns) ∧ HA ln = some (.lst (ns.map V.str)) ∧ PileAt HA p ∧ Same H4 HA)
        ⟨[], [], y6, rfl, b9 _ _ nplp.symm h8, .nil, rfl, fun _ z => (nomatch z), b9 _ _ npln hln8, hp9, s49⟩ (fun j σ HA hj hP => ?_) (fun σ HA hP => ?_)
      · obtain ⟨xs, ps, y6, rfl, hlp, hps, hpl, hin, hlnA, hpA, sA⟩ := hP
        have draw : ∀ (HB : Hp) (r : Int), 0 ≤ r → r < ((ns.map V.str).length : Int) → ∃ n, atI (ns.map V.str) r = some (V.str n) ∧ n ∈ ns := fun HB r r0 r1 => by
          obtain ⟨c, ec, hc⟩ := at_memV (l := ns.map V.str) r0 r1
          obtain ⟨n, hn, rfl⟩ := List.mem_map.mp hc
          exact ⟨n, ec, hn⟩
        have lnl : ((ns.map V.str).length : Int) = 1 + m := by rw [List.length_map]; exact hnl
        walk_at "rd"
        refine ⟨.inl ⟨rfl, _, sqL hlp⟩, ?_⟩
        walk_at "rd"
        refine ⟨p, _, rfl, hpA, by omega, by omega, fun r HB r0 r1 hpB bB => ?_⟩
        obtain ⟨na, ea, ha⟩ := draw HB r r0 r1
        refine r_ixL (sqL (bB _ _ npln hlnA)) ea ?_
        have hlnB := bB _ _ npln hlnA
        walk_at "rd"
        refine ⟨p, _, rfl, hpB, by omega, by omega, fun r2 HC r20 r21 hpC bC => ?_⟩
        obtain ⟨nb, eb, hb⟩ := draw HC r2 r20 r21
        have hlnC := bC _ _ npln hlnB
        refine r_ixL (sqL hlnC) eb ?_
        walk_at "rd"
        refine ⟨by show 2 ≤ sizeLine; decide, fun t nt => ?_⟩
        have sAC : Same H4 HC := (((But.of sA).trans bB).trans bC).toSame np
        have hlpC := bC _ _ nplp.symm (bB _ _ nplp.symm hlp)
        have tAC : Tups HA HC := (hpA.tups bB).trans (hpB.tups bC)
        have sD := same_new (o := .tup [.str na, .str nb]) nt
        have hD : (upd HC t (.tup [.str na, .str nb])) t = some (.tup [.str na, .str nb]) := upd_same
        generalize upd HC t (.tup [.str na, .str nb]) = HD at sD hD ⊢
        have hlpD := sD _ _ hlpC
        refine ⟨lp, xs, .ref t, rfl, rfl, hlpD, by rw [pd_len hps]; exact small1000 (by omega), ?_⟩
        refine ⟨xs ++ [.ref t], ps ++ [(na, nb)], _, rfl, upd_same, ?_, by rw [List.length_append]; show ps.length + 1 = _; omega, fun e he => ?_, ?_, ?_, Pf.Same.mut (sAC.trans sD) n4lp⟩
        · exact pd_snoc (Prs.stay (Prs.stay (Prs.stay hps tAC) (Tups.of sD)) (tups_mut hlpD)) (Pr.stay ⟨t, rfl, sqT hD⟩ (tups_mut hlpD))
        · rcases List.mem_append.mp he with h | h
          · exact hin e h
          · rw [List.mem_singleton.mp h]; exact ⟨ha, hb⟩
        · rw [upd_ne nlnlp]; exact sD _ _ hlnC
        · exact (hpC.same sD).but (fun b o nb e => by rw [upd_ne nb]; exact e) nplp
      · obtain ⟨xs, ps, y6, rfl, hlp, hps, hpl, hin, hlnA, hpA, sA⟩ := hP
        have hpl9 : ps.length ≤ 9 := by omega
        have ok2 : ∀ p ∈ ps, NameOk p.1 ∧ NameOk p.2 := fun p hp => ⟨hok _ (hin p hp).1, hok _ (hin p hp).2⟩
        have nlele : lp ≠ le := (ne_of_none hle n4lp).symm
        have nbk : ∀ f ∈ [p, le], lp ≠ f := fun f hf => by
          rcases List.mem_cons.mp hf with z | z
          · rw [z]; exact nplp.symm
          · rw [List.mem_singleton.mp z]; exact nlele
        walk_at "rd"
        refine ⟨lp, ln, xs, ps, ns, rfl, sqL hlp, hps, by omega, hlnA, hnd, hok, by omega, hin, fun HB sB => ?_⟩
        walk_at "rd"
        have hleB := sB _ _ (sA _ _ hle)
        have hlpB := sB _ _ hlp
        refine ⟨.inl ⟨rfl, _, sqL hleB⟩, ?_⟩
        walk_at "rd"
        refine ⟨lp, xs, rfl, sqL hlpB, by rw [pd_len hps]; omega, .inl ⟨ps, Prs.stay hps (Tups.of sB), ok2, fun v HC ms sC hsay hv hrl => ?_⟩⟩
        walk_at "rd"
        refine ⟨by show 2 ≤ sizeLine; decide, fun t nt => ?_⟩
        have sD := same_new (o := .tup [.ref lp, v]) nt
        have hD : (upd HC t (.tup [.ref lp, v])) t = some (.tup [.ref lp, v]) := upd_same
        generalize upd HC t (.tup [.ref lp, v]) = HD at sD hD ⊢
        have sBD := sC.trans sD
        have sAD := sB.trans sBD
        have s4D := sA.trans sAD
        have hleD := s4D _ _ hle
        refine ⟨le, acc, .ref t, rfl, rfl, hleD, small1000 (by omega), ?_⟩
        have kx : Kept K HD [p, le] (.ref t) ps := ⟨⟨t, lp, v, xs, ms, rfl, sqT hD, sAD _ _ hlp, nbk, Prs.stay hps (Tups.of sAD), hsay, hv.same sD⟩, by omega, ok2⟩
        have bE : But le HD (upd HD le (.lst (acc ++ [.ref t]))) := fun b o nb e => by rw [upd_ne nb]; exact e
        have hE : (upd HD le (.lst (acc ++ [.ref t]))) le = some (.lst (acc ++ [.ref t])) := upd_same
        have hpD := hpA.same sAD
        have hpsD := Prs.stay hps (Tups.of sAD)
        have hlpD := sAD _ _ hlp
        have hlnD := sAD _ _ hlnA
        have nlnle : ln ≠ le := by
          have n4 : H4 ln = none := (((But.of s5).trans b6).toSame np).free nln
          exact (ne_of_none hle n4).symm
        generalize upd HD le (.lst (acc ++ [.ref t])) = HE at bE hE ⊢
        have hpE : PileAt HE p := hpD.but bE nple.symm
        have hpsE := Prs.stay hpsD (Tups.but bE hleD)
        have hlpE := bE _ _ nlele hlpD
        have hlnE := bE _ _ nlnle hlnD
        have kE : Paired (Kept K HE [p, le]) (acc ++ [.ref t]) (pss ++ [ps]) := pd_snoc (pd_mono (fun _ _ k => ((k.add np).same s4D).but (List.mem_cons_of_mem _ List.mem_cons_self) bE hleD) hk) (kx.but (List.mem_cons_of_mem _ List.mem_cons_self) bE hleD)
        have bEp : Same H HE := fun b o h => (bE _ _ (ne_of_none h nle) (s4D _ _ (s4 _ _ h)))
        have rE : Rst K H p le lp ln (acc ++ [.ref t]) (pss ++ [ps]) xs ps ns HE := ⟨⟨nple, nplp.symm, npln⟩, s4.free np, kE, hE, hpE, hlpE, hpsE, hlnE, bEp⟩
        clear kE hpE hpsE hlpE hlnE bEp
        have fin : ∀ (HF : Hp) (σ2 : List (Option V)), Rst K H p le lp ln (acc ++ [.ref t]) (pss ++ [ps]) xs ps ns HF → (∃ y2 y3 y4 y5 y6 y7 y8 y9 y10 : Option V, σ2 = [some (.ref b), some (.ref le), y2, y3, y4, y5, y6, y7, y8, y9, y10, none]) → ∃ (acc' : List V) (pss' : List (List PS2)) (y2 y3 y4 y5 y6 y7 y8 y9 y10 : Option V), σ2 = [some (.ref b), some (.ref le), y2, y3, y4, y5, y6, y7, y8, y9, y10, none] ∧ HF le = some (.lst acc') ∧ acc'.length = i + 1 ∧ Paired (Kept K HF [le]) acc' pss' ∧ Same H HF := fun HF σ2 r e => by
          obtain ⟨y2, y3, y4, y5, y6, y7, y8, y9, y10, e⟩ := e
          exact ⟨_, _, y2, y3, y4, y5, y6, y7, y8, y9, y10, e, r.el, by rw [List.length_append, hal]; rfl, pd_mono (fun _ _ k => k.weak) r.k, r.s⟩
        walk_at "rd"
        refine ⟨p, 4, rfl, rE.pile, by decide, by decide, fun r HF r0 r1 hpF bF => ?_⟩
        have rF := rE.mv hpF bF
        walk_at "rd"
        refine r_dec (fun er => ?_) (fun er => ?_)
        · walk_at "rd"
          refine ⟨p, rfl, rF.pile, fun v8 HG hv8 hpG bG => ?_⟩
          have rG := rF.mv hpG bG
          have qG := sqL (K := K) rG.lp
          have hlx : xs.length = ps.length := pd_len hps
          walk_at "rd"
          refine ⟨p, _, rfl, rG.pile, by omega, by omega, fun at_ HI at0 at1 hpI bI => ?_⟩
          have rI := rG.mv hpI bI
          have hvI := hv8.mv bI hpG hpI
          obtain ⟨k, rfl⟩ := Int.eq_ofNat_of_zero_le at0
          have hk : k ≤ xs.length := by omega
          clear rG qG rF
          walk_at "rd"
          obtain ⟨n0, e0, hn0⟩ : ∃ n, atI (ns.map V.str) 0 = some (V.str n) ∧ n ∈ ns := by
            obtain ⟨c, ec, hc⟩ := at_memV (l := ns.map V.str) (i := 0) (by decide) (by rw [List.length_map]; omega)
            obtain ⟨n, hn, rfl⟩ := List.mem_map.mp hc
            exact ⟨n, ec, hn⟩
          refine r_ixL (sqL rI.ln) e0 ?_
          have hn0v : ∀ HX : Hp, NmV K HX (.str n0) true := fun HX => .inl ⟨n0, rfl, sizeS (hok _ hn0), (wordB_iff.mpr (hok _ hn0)).symm⟩
          walk_at "rd"
          refine ⟨by show 2 ≤ sizeLine; decide, fun t1 nt1 => ?_⟩
          have s1 := same_new (o := .tup [v8, .str n0]) nt1
          have h1 : (upd HI t1 (.tup [v8, .str n0])) t1 = some (.tup [v8, .str n0]) := upd_same
          generalize upd HI t1 (.tup [v8, .str n0]) = HJ at s1 h1 ⊢
          have b1 : BadP K HJ (.ref t1) := .mk (sqT h1) (hvI.same s1) (hn0v _) rfl
          have rJ := rI.same s1
          have hvJ := hvI.same s1
          clear rI s1 h1 hvI
          walk_at "rd"
          refine ⟨by show 2 ≤ sizeLine; decide, fun t2 nt2 => ?_⟩
          have s1 := same_new (o := .tup [.str n0, v8]) nt2
          have h1 : (upd HJ t2 (.tup [.str n0, v8])) t2 = some (.tup [.str n0, v8]) := upd_same
          generalize upd HJ t2 (.tup [.str n0, v8]) = HK at s1 h1 ⊢
          have b1 := b1.same s1
          have b2 : BadP K HK (.ref t2) := .mk (sqT h1) (hn0v _) (hvJ.same s1) rfl
          have rK := rJ.same s1
          have hvK := hvJ.same s1
          clear rJ s1 h1 hvJ
          walk_at "rd"
          refine ⟨by show 2 ≤ sizeLine; decide, fun t3 nt3 => ?_⟩
          have s1 := same_new (o := .tup [v8, v8]) nt3
          have h1 : (upd HK t3 (.tup [v8, v8])) t3 = some (.tup [v8, v8]) := upd_same
          generalize upd HK t3 (.tup [v8, v8]) = HL at s1 h1 ⊢
          have b1 := b1.same s1
          have b2 := b2.same s1
          have b3 : BadP K HL (.ref t3) := .mk (sqT h1) (hvK.same s1) (hvK.same s1) rfl
          have rL := rK.same s1
          clear rK s1 h1 hvK
          walk_at "rd"
          refine ⟨by show 3 ≤ sizeLine; decide, fun l4 nl4 => ?_⟩
          have s1 := same_new (o := .lst [.ref t1, .ref t2, .ref t3]) nl4
          have h1 : (upd HL l4 (.lst [.ref t1, .ref t2, .ref t3])) l4 = some (.lst [.ref t1, .ref t2, .ref t3]) := upd_same
          generalize upd HL l4 (.lst [.ref t1, .ref t2, .ref t3]) = HM at s1 h1 ⊢
          have b1 := b1.same s1
          have b2 := b2.same s1
          have b3 := b3.same s1
          have nl4p : l4 ≠ p := (rL.pile.ne nl4).symm
          have rM := rL.same s1
          clear rL s1
          walk_at "rd"
          refine ⟨p, 3, rfl, rM.pile, by decide, by decide, fun r3 HN r30 r31 hpN bN => ?_⟩
          have h4 := bN _ _ nl4p h1
          have b1 := b1.mv bN rM.pile hpN
          have b2 := b2.mv bN rM.pile hpN
          have b3 := b3.mv bN rM.pile hpN
          have rN := rM.mv hpN bN
          clear rM h1
          obtain ⟨bad, eb, hbad⟩ := three_at (x := .ref t1) (y := .ref t2) (z := .ref t3) r30 r31
          have hb : BadP K HN bad := by
            rcases hbad with z | z | z <;> rw [z] <;> assumption
          clear b1 b2 b3 hbad
          refine r_ixL (sqL h4) eb ?_
          walk_at "rd"
          refine r_nopart (r_part ?_)
          walk_at "rd"
          refine ⟨lp, xs, rfl, sqL rN.lp, fun l5 nl5 => ?_⟩
          rw [cut_to xs hk]
          have s1 := same_new (o := .lst (xs.take k)) nl5
          have h5 : (upd HN l5 (.lst (xs.take k))) l5 = some (.lst (xs.take k)) := upd_same
          generalize upd HN l5 (.lst (xs.take k)) = HO at s1 h5 ⊢
          have rO := rN.same s1
          have hb := hb.same s1
          clear rN s1
          walk_at "rd"
          refine ⟨by show 1 ≤ sizeLine; decide, fun l6 nl6 => ?_⟩
          have s1 := same_new (o := .lst [bad]) nl6
          have h6 : (upd HO l6 (.lst [bad])) l6 = some (.lst [bad]) := upd_same
          generalize upd HO l6 (.lst [bad]) = HP at s1 h6 ⊢
          have rP := rO.same s1
          have hb := hb.same s1
          have h5 := s1 _ _ h5
          clear rO s1
          refine ⟨l5, l6, _, _, rfl, rfl, h5, h6, by rw [List.length_take]; exact Nat.le_of_lt (small1000 (by show min k xs.length + 1 ≤ 1000; omega)), fun l7 nl7 => ?_⟩
          have s1 := same_new (o := .lst (xs.take k ++ [bad])) nl7
          have h7 : (upd HP l7 (.lst (xs.take k ++ [bad]))) l7 = some (.lst (xs.take k ++ [bad])) := upd_same
          generalize upd HP l7 (.lst (xs.take k ++ [bad])) = HR at s1 h7 ⊢
          have rR := rP.same s1
          have hb := hb.same s1
          clear rP s1
          walk_at "rd"
          refine r_part ?_
          walk_at "rd"
          refine r_nopart ?_
          refine ⟨lp, xs, rfl, sqL rR.lp, fun l8 nl8 => ?_⟩
          rw [cut_from xs hk]
          have s1 := same_new (o := .lst (xs.drop k)) nl8
          have h8 : (upd HR l8 (.lst (xs.drop k))) l8 = some (.lst (xs.drop k)) := upd_same
          generalize upd HR l8 (.lst (xs.drop k)) = HS at s1 h8 ⊢
          have rS := rR.same s1
          have hb := hb.same s1
          have h7 := s1 _ _ h7
          clear rR s1
          refine ⟨l7, l8, _, _, rfl, rfl, h7, h8, by rw [List.length_append, List.length_take, List.length_drop]; exact Nat.le_of_lt (small1000 (by show min k xs.length + 1 + (xs.length - k) ≤ 1000; omega)), fun l9 nl9 => ?_⟩
          have s1 := same_new (o := .lst (xs.take k ++ [bad] ++ xs.drop k)) nl9
          have h9 : (upd HS l9 (.lst (xs.take k ++ [bad] ++ xs.drop k))) l9 = some (.lst (xs.take k ++ [bad] ++ xs.drop k)) := upd_same
          generalize upd HS l9 (.lst (xs.take k ++ [bad] ++ xs.drop k)) = HU at s1 h9 ⊢
          have rU := rS.same s1
          obtain ⟨qb, ub, vb, bb, rfl, hqb, hub, hvb, zb⟩ := hb.same s1
          clear rS s1
          walk_at "rd"
          refine ⟨l9, _, ((ps.take k).map fun _ => (true, true)) ++ [bb] ++ ((ps.drop k).map fun _ => (true, true)), rfl, sqL h9, ?_, ?_, ⟨bb, ?_, zb⟩, fun HV sV => ?_⟩
          · rw [List.length_append, List.length_append, List.length_take, List.length_drop]
            show min k xs.length + 1 + (xs.length - k) ≤ 20
            omega
          · refine pd_app (pd_snoc ?_ ⟨qb, ub, vb, rfl, hqb, hub, hvb⟩) ?_
            · exact ent_of (pd_take k rU.prs) (fun p hp => ok2 p (List.mem_of_mem_take hp))
            · exact ent_of (pd_drop k rU.prs) (fun p hp => ok2 p (List.mem_of_mem_drop hp))
          · exact List.mem_append_left _ (List.mem_append_right _ List.mem_cons_self)
          walk_at "rd"
          exact fin _ _ (rU.same sV) ⟨_, _, _, _, _, _, _, _, _, rfl⟩
        · walk_at "rd"
          exact fin _ _ rF ⟨_, _, _, _, _, _, _, _, _, rfl⟩
    · obtain ⟨acc, pss, y2, y3, y4, y5, y6, y7, y8, y9, y10, rfl, hle, hal, hk, s4⟩ := hP
      walk_at "rd"
      refine ⟨⟨_, sqL hle⟩, fun D nD => ?_⟩
      refine lc_list (K := K) (a := le) (xs := acc) (LcI H4 D fun i acc2 H => acc2 = []) (LcI.zero nD rfl) (fun i H1 _ hP => hP.1.seq (sqL hle)) (fun i x H5 hx hP => ?_) (fun H5 hP => ?_)
      · obtain ⟨s5, acc2, hD, hal2, hacc⟩ := hP
        obtain ⟨ps, hpx, ⟨q1, b1, v1, xs1, ms1, rfl, hq1, hb1, nb1, hp1, hs1, hv1⟩, l1, o1⟩ := pd_get' hk hx
        refine r_gtup ((Tups.of s5).sq hq1) rfl ?_
        walk_at "rd"
        refine ⟨rfl, ?_⟩
        walk_at "rd"
        refine ⟨b1, xs1, rfl, sqL (s5 _ _ hb1), by rw [pd_len hp1]; omega, .inl ⟨ps, Prs.stay hp1 (Tups.of s5), o1, fun v2 H6 ms2 s6 hsay2 hv2 hrl2 => ?_⟩⟩
        have it := turn_of_says hsay2 o1 hrl2
        have e12 := says_one hs1 hsay2
        walk_at "rd"
        have okT : ∀ p ∈ riseM ms1, okP p := fun p hp => by
          have hp := it.ok p (by rw [e12]; exact hp)
          exact ⟨hp.1.sok, hp.2.sok⟩
        refine r_neD (hv2.tn.dp) ((hv1.same (s5.trans s6)).tn.dp) ?_ (shaped_T okT) ?_
        · rw [e12]; exact shaped_T okT
        rw [e12, SeqAt.eqv_refl _ (shaped_iff.mp (shaped_T okT)).1]
        walk_at "rd"
        exact LcI.skip s5 hD hal2 s6 hacc
      · obtain ⟨s5, acc2, hD, hal2, rfl⟩ := hP
        walk_at "rd"
        refine ⟨Nat.zero_le _, fun y ny => ?_⟩
        have s6 := same_new (o := .lst []) ny
        refine r_eqD (.lst (sqL (s6 _ _ hD)) .nil) (.lst (sqL upd_same) .nil) (by decide) (by decide) ?_
        exact q _
end
end Pf

namespace Pf
open PySem PySem.Spec PyProof.Rows L2
theorem all_mk {l : PySem.W.OpenLaw} {w : World} {K : PySem.W.Frag} {h : Heap} {mg : Str → Option Value} {fa : Addr} (X : K.In h) (G : h.Ns mainGlobals mg) (hfa : mg "law" = some (.ref fa))
    {od0 an0 : Option Addr} {sl0 : Array (Option Value)} {f0 : Addr} {oc0 kV0 dc0 pm0 cd0 ct0 : Value}
    (a0 : PySem.W.nsIn K mainGlobals "is_word" = some (some (.ref f0))) (l0 : K.lookup f0 = some ⟨oc0, od0, .func (PySem.W.fnOf "is_word" "is_word" (defArgs s_is_word) (defBody s_is_word) (defScope s_is_word) .none kV0 dc0 pm0 an0 cd0 ct0), sl0⟩) (c0 : PySem.W.codeIn K cd0 "is_word" = true) (k0 : PySem.W.keepIn K (.ref f0) = true)
    {od1 an1 : Option Addr} {sl1 : Array (Option Value)} {f1 : Addr} {oc1 kV1 dc1 pm1 cd1 ct1 : Value}
    (a1 : PySem.W.nsIn K mainGlobals "is_name" = some (some (.ref f1))) (l1 : K.lookup f1 = some ⟨oc1, od1, .func (PySem.W.fnOf "is_name" "is_name" (defArgs s_is_name) (defBody s_is_name) (defScope s_is_name) .none kV1 dc1 pm1 an1 cd1 ct1), sl1⟩) (c1 : PySem.W.codeIn K cd1 "is_name" = true) (k1 : PySem.W.keepIn K (.ref f1) = true)
    {od2 an2 : Option Addr} {sl2 : Array (Option Value)} {f2 : Addr} {oc2 kV2 dc2 pm2 cd2 ct2 : Value}
    (a2 : PySem.W.nsIn K mainGlobals "rises" = some (some (.ref f2))) (l2 : K.lookup f2 = some ⟨oc2, od2, .func (PySem.W.fnOf "rises" "rises" (defArgs s_rises) (defBody s_rises) (defScope s_rises) .none kV2 dc2 pm2 an2 cd2 ct2), sl2⟩) (c2 : PySem.W.codeIn K cd2 "rises" = true) (k2 : PySem.W.keepIn K (.ref f2) = true)
    {od3 an3 : Option Addr} {sl3 : Array (Option Value)} {f3 : Addr} {oc3 kV3 dc3 pm3 cd3 ct3 : Value}
    (a3 : PySem.W.nsIn K mainGlobals "is_move" = some (some (.ref f3))) (l3 : K.lookup f3 = some ⟨oc3, od3, .func (PySem.W.fnOf "is_move" "is_move" (defArgs s_is_move) (defBody s_is_move) (defScope s_is_move) .none kV3 dc3 pm3 an3 cd3 ct3), sl3⟩) (c3 : PySem.W.codeIn K cd3 "is_move" = true) (k3 : PySem.W.keepIn K (.ref f3) = true)
    {od4 an4 : Option Addr} {sl4 : Array (Option Value)} {f4 : Addr} {oc4 kV4 dc4 pm4 cd4 ct4 : Value}
    (a4 : PySem.W.nsIn K mainGlobals "is_turn" = some (some (.ref f4))) (l4 : K.lookup f4 = some ⟨oc4, od4, .func (PySem.W.fnOf "is_turn" "is_turn" (defArgs s_is_turn) (defBody s_is_turn) (defScope s_is_turn) .none kV4 dc4 pm4 an4 cd4 ct4), sl4⟩) (c4 : PySem.W.codeIn K cd4 "is_turn" = true) (k4 : PySem.W.keepIn K (.ref f4) = true)
    {od5 an5 : Option Addr} {sl5 : Array (Option Value)} {f5 : Addr} {oc5 kV5 dc5 pm5 cd5 ct5 : Value}
    (a5 : PySem.W.nsIn K mainGlobals "check_turn" = some (some (.ref f5))) (l5 : K.lookup f5 = some ⟨oc5, od5, .func (PySem.W.fnOf "check_turn" "check_turn" (defArgs s_check_turn) (defBody s_check_turn) (defScope s_check_turn) .none kV5 dc5 pm5 an5 cd5 ct5), sl5⟩) (c5 : PySem.W.codeIn K cd5 "check_turn" = true) (k5 : PySem.W.keepIn K (.ref f5) = true)
    {od6 an6 : Option Addr} {sl6 : Array (Option Value)} {f6 : Addr} {oc6 kV6 dc6 pm6 cd6 ct6 : Value}
    (a6 : PySem.W.nsIn K mainGlobals "turn_from" = some (some (.ref f6))) (l6 : K.lookup f6 = some ⟨oc6, od6, .func (PySem.W.fnOf "turn_from" "turn_from" (defArgs s_turn_from) (defBody s_turn_from) (defScope s_turn_from) .none kV6 dc6 pm6 an6 cd6 ct6), sl6⟩) (c6 : PySem.W.codeIn K cd6 "turn_from" = true) (k6 : PySem.W.keepIn K (.ref f6) = true)
    {od7 an7 : Option Addr} {sl7 : Array (Option Value)} {f7 : Addr} {oc7 kV7 dc7 pm7 cd7 ct7 : Value}
    (a7 : PySem.W.nsIn K mainGlobals "turn_of" = some (some (.ref f7))) (l7 : K.lookup f7 = some ⟨oc7, od7, .func (PySem.W.fnOf "turn_of" "turn_of" (defArgs s_turn_of) (defBody s_turn_of) (defScope s_turn_of) .none kV7 dc7 pm7 an7 cd7 ct7), sl7⟩) (c7 : PySem.W.codeIn K cd7 "turn_of" = true) (k7 : PySem.W.keepIn K (.ref f7) = true)
    {od8 an8 : Option Addr} {sl8 : Array (Option Value)} {f8 : Addr} {oc8 kV8 dc8 pm8 cd8 ct8 : Value}
    (a8 : PySem.W.nsIn K mainGlobals "turned_name" = some (some (.ref f8))) (l8 : K.lookup f8 = some ⟨oc8, od8, .func (PySem.W.fnOf "turned_name" "turned_name" (defArgs s_turned_name) (defBody s_turned_name) (defScope s_turned_name) .none kV8 dc8 pm8 an8 cd8 ct8), sl8⟩) (c8 : PySem.W.codeIn K cd8 "turned_name" = true) (k8 : PySem.W.keepIn K (.ref f8) = true)
    {od9 an9 : Option Addr} {sl9 : Array (Option Value)} {f9 : Addr} {oc9 kV9 dc9 pm9 cd9 ct9 : Value}
    (a9 : PySem.W.nsIn K mainGlobals "_law_mixed" = some (some (.ref f9))) (l9 : K.lookup f9 = some ⟨oc9, od9, .func (PySem.W.fnOf "_law_mixed" "_law_mixed" (defArgs s__law_mixed) (defBody s__law_mixed) (defScope s__law_mixed) .none kV9 dc9 pm9 an9 cd9 ct9), sl9⟩) (c9 : PySem.W.codeIn K cd9 "_law_mixed" = true) (k9 : PySem.W.keepIn K (.ref f9) = true)
    {od10 an10 : Option Addr} {sl10 : Array (Option Value)} {f10 : Addr} {oc10 kV10 dc10 pm10 cd10 ct10 : Value}
    (a10 : PySem.W.nsIn K mainGlobals "_law_pile" = some (some (.ref f10))) (l10 : K.lookup f10 = some ⟨oc10, od10, .func (PySem.W.fnOf "_law_pile" "_law_pile" (defArgs s__law_pile) (defBody s__law_pile) (defScope s__law_pile) .none kV10 dc10 pm10 an10 cd10 ct10), sl10⟩) (c10 : PySem.W.codeIn K cd10 "_law_pile" = true) (k10 : PySem.W.keepIn K (.ref f10) = true)
    {od11 an11 : Option Addr} {sl11 : Array (Option Value)} {f11 : Addr} {oc11 kV11 dc11 pm11 cd11 ct11 : Value}
    (a11 : PySem.W.nsIn K mainGlobals "_law_take" = some (some (.ref f11))) (l11 : K.lookup f11 = some ⟨oc11, od11, .func (PySem.W.fnOf "_law_take" "_law_take" (defArgs s__law_take) (defBody s__law_take) (defScope s__law_take) .none kV11 dc11 pm11 an11 cd11 ct11), sl11⟩) (c11 : PySem.W.codeIn K cd11 "_law_take" = true) (k11 : PySem.W.keepIn K (.ref f11) = true)
    {od12 an12 : Option Addr} {sl12 : Array (Option Value)} {f12 : Addr} {oc12 kV12 dc12 pm12 cd12 ct12 : Value}
    (a12 : PySem.W.nsIn K mainGlobals "_law_name" = some (some (.ref f12))) (l12 : K.lookup f12 = some ⟨oc12, od12, .func (PySem.W.fnOf "_law_name" "_law_name" (defArgs s__law_name) (defBody s__law_name) (defScope s__law_name) .none kV12 dc12 pm12 an12 cd12 ct12), sl12⟩) (c12 : PySem.W.codeIn K cd12 "_law_name" = true) (k12 : PySem.W.keepIn K (.ref f12) = true)
    {od13 an13 : Option Addr} {sl13 : Array (Option Value)} {f13 : Addr} {oc13 kV13 dc13 pm13 cd13 ct13 : Value}
    (a13 : PySem.W.nsIn K mainGlobals "_law_names" = some (some (.ref f13))) (l13 : K.lookup f13 = some ⟨oc13, od13, .func (PySem.W.fnOf "_law_names" "_law_names" (defArgs s__law_names) (defBody s__law_names) (defScope s__law_names) .none kV13 dc13 pm13 an13 cd13 ct13), sl13⟩) (c13 : PySem.W.codeIn K cd13 "_law_names" = true) (k13 : PySem.W.keepIn K (.ref f13) = true)
    {od14 an14 : Option Addr} {sl14 : Array (Option Value)} {f14 : Addr} {oc14 kV14 dc14 pm14 cd14 ct14 : Value}
    (a14 : PySem.W.nsIn K mainGlobals "_law_strange" = some (some (.ref f14))) (l14 : K.lookup f14 = some ⟨oc14, od14, .func (PySem.W.fnOf "_law_strange" "_law_strange" (defArgs s__law_strange) (defBody s__law_strange) (defScope s__law_strange) .none kV14 dc14 pm14 an14 cd14 ct14), sl14⟩) (c14 : PySem.W.codeIn K cd14 "_law_strange" = true) (k14 : PySem.W.keepIn K (.ref f14) = true)
    {od15 an15 : Option Addr} {sl15 : Array (Option Value)} {f15 : Addr} {oc15 kV15 dc15 pm15 cd15 ct15 : Value}
    (a15 : PySem.W.nsIn K mainGlobals "_law_led" = some (some (.ref f15))) (l15 : K.lookup f15 = some ⟨oc15, od15, .func (PySem.W.fnOf "_law_led" "_law_led" (defArgs s__law_led) (defBody s__law_led) (defScope s__law_led) .none kV15 dc15 pm15 an15 cd15 ct15), sl15⟩) (c15 : PySem.W.codeIn K cd15 "_law_led" = true) (k15 : PySem.W.keepIn K (.ref f15) = true)
    {od16 an16 : Option Addr} {sl16 : Array (Option Value)} {f16 : Addr} {oc16 kV16 dc16 pm16 cd16 ct16 : Value}
    (a16 : PySem.W.nsIn K mainGlobals "_law_right" = some (some (.ref f16))) (l16 : K.lookup f16 = some ⟨oc16, od16, .func (PySem.W.fnOf "_law_right" "_law_right" (defArgs s__law_right) (defBody s__law_right) (defScope s__law_right) .none kV16 dc16 pm16 an16 cd16 ct16), sl16⟩) (c16 : PySem.W.codeIn K cd16 "_law_right" = true) (k16 : PySem.W.keepIn K (.ref f16) = true)
    {od17 an17 : Option Addr} {sl17 : Array (Option Value)} {f17 : Addr} {oc17 kV17 dc17 pm17 cd17 ct17 : Value}
    (a17 : PySem.W.nsIn K mainGlobals "_law_refused" = some (some (.ref f17))) (l17 : K.lookup f17 = some ⟨oc17, od17, .func (PySem.W.fnOf "_law_refused" "_law_refused" (defArgs s__law_refused) (defBody s__law_refused) (defScope s__law_refused) .none kV17 dc17 pm17 an17 cd17 ct17), sl17⟩) (c17 : PySem.W.codeIn K cd17 "_law_refused" = true) (k17 : PySem.W.keepIn K (.ref f17) = true)
    {od18 an18 : Option Addr} {sl18 : Array (Option Value)} {f18 : Addr} {oc18 kV18 dc18 pm18 cd18 ct18 : Value}
    (a18 : PySem.W.nsIn K mainGlobals "law" = some (some (.ref f18))) (l18 : K.lookup f18 = some ⟨oc18, od18, .func (PySem.W.fnOf "law" "law" (defArgs s_law) (defBody s_law) (defScope s_law) .none kV18 dc18 pm18 an18 cd18 ct18), sl18⟩) (c18 : PySem.W.codeIn K cd18 "law" = true) (k18 : PySem.W.keepIn K (.ref f18) = true)
    {t0 : Tok} (v0 : PySem.W.nsIn K mainGlobals "SMALL_LETTERS" = some (some (.str ("abcdefghijklmnopqrstuvwxyz" : Str) t0)))
    {t1 : Tok} (v1 : PySem.W.nsIn K mainGlobals "FIGURES" = some (some (.str ("0123456789" : Str) t1)))
    {t2 : Tok} (v2 : PySem.W.nsIn K mainGlobals "MOST_SIGNS" = some (some (.int 8 t2)))
    {C0 : Addr} (q0 : PySem.W.nsIn K mainGlobals "NoName" = some (some (.ref C0))) (x0 : PySem.W.excIn K C0 [.type "ValueError", .type "Exception", .type "BaseException", .type "object"] "ValueError.__new__" = true) (p0 : PySem.W.keepIn K (.ref C0) = true) (e0 : PySem.W.subIn K (.ref C0) (.type "BaseException") = some true) (y0 : PySem.W.typeIn K (.ref C0) = some (.type "type")) (i0 : PySem.W.isClsIn K C0 = true) (s0 : PySem.W.subIn K (.ref C0) (.ref C0) = some true)
    {C1 : Addr} (q1 : PySem.W.nsIn K mainGlobals "NoTurn" = some (some (.ref C1))) (x1 : PySem.W.excIn K C1 [.type "ValueError", .type "Exception", .type "BaseException", .type "object"] "ValueError.__new__" = true) (p1 : PySem.W.keepIn K (.ref C1) = true) (e1 : PySem.W.subIn K (.ref C1) (.type "BaseException") = some true) (y1 : PySem.W.typeIn K (.ref C1) = some (.type "type")) (i1 : PySem.W.isClsIn K C1 = true) (s1 : PySem.W.subIn K (.ref C1) (.ref C1) = some true)
    (z0 : PySem.W.nsIn K mainGlobals "abs" = some none)
    (z1 : PySem.W.nsIn K mainGlobals "all" = some none)
    (z2 : PySem.W.nsIn K mainGlobals "dict" = some none)
    (z3 : PySem.W.nsIn K mainGlobals "int" = some none)
    (z4 : PySem.W.nsIn K mainGlobals "isinstance" = some none)
    (z5 : PySem.W.nsIn K mainGlobals "len" = some none)
    (z6 : PySem.W.nsIn K mainGlobals "list" = some none)
    (z7 : PySem.W.nsIn K mainGlobals "range" = some none)
    (z8 : PySem.W.nsIn K mainGlobals "reversed" = some none)
    (z9 : PySem.W.nsIn K mainGlobals "sorted" = some none)
    (z10 : PySem.W.nsIn K mainGlobals "str" = some none)
    (z11 : PySem.W.nsIn K mainGlobals "tuple" = some none)
    : ∃ fd : FuncData, (∀ (s : Shared) (v : Value), BindsTo s fd ⟨[v], []⟩ [("_law_script", v)]) ∧ ∀ base : Heap, K.In base → base.Ns mainGlobals mg → FnOk l.prog w K mg base CX0 8 fa fd ["_law_script"] (sp_law K) := by
  have e := hfa.symm.trans (PySem.W.mg_of X G a18)
  cases e
  let a : Ad := ⟨f0, PySem.W.fnOf "is_word" "is_word" (defArgs s_is_word) (defBody s_is_word) (defScope s_is_word) .none kV0 dc0 pm0 an0 cd0 ct0, f1, PySem.W.fnOf "is_name" "is_name" (defArgs s_is_name) (defBody s_is_name) (defScope s_is_name) .none kV1 dc1 pm1 an1 cd1 ct1, f2, PySem.W.fnOf "rises" "rises" (defArgs s_rises) (defBody s_rises) (defScope s_rises) .none kV2 dc2 pm2 an2 cd2 ct2, f3, PySem.W.fnOf "is_move" "is_move" (defArgs s_is_move) (defBody s_is_move) (defScope s_is_move) .none kV3 dc3 pm3 an3 cd3 ct3, f4, PySem.W.fnOf "is_turn" "is_turn" (defArgs s_is_turn) (defBody s_is_turn) (defScope s_is_turn) .none kV4 dc4 pm4 an4 cd4 ct4, f5, PySem.W.fnOf "check_turn" "check_turn" (defArgs s_check_turn) (defBody s_check_turn) (defScope s_check_turn) .none kV5 dc5 pm5 an5 cd5 ct5, f6, PySem.W.fnOf "turn_from" "turn_from" (defArgs s_turn_from) (defBody s_turn_from) (defScope s_turn_from) .none kV6 dc6 pm6 an6 cd6 ct6, f7, PySem.W.fnOf "turn_of" "turn_of" (defArgs s_turn_of) (defBody s_turn_of) (defScope s_turn_of) .none kV7 dc7 pm7 an7 cd7 ct7, f8, PySem.W.fnOf "turned_name" "turned_name" (defArgs s_turned_name) (defBody s_turned_name) (defScope s_turned_name) .none kV8 dc8 pm8 an8 cd8 ct8, f9, PySem.W.fnOf "_law_mixed" "_law_mixed" (defArgs s__law_mixed) (defBody s__law_mixed) (defScope s__law_mixed) .none kV9 dc9 pm9 an9 cd9 ct9, f10, PySem.W.fnOf "_law_pile" "_law_pile" (defArgs s__law_pile) (defBody s__law_pile) (defScope s__law_pile) .none kV10 dc10 pm10 an10 cd10 ct10, f11, PySem.W.fnOf "_law_take" "_law_take" (defArgs s__law_take) (defBody s__law_take) (defScope s__law_take) .none kV11 dc11 pm11 an11 cd11 ct11, f12, PySem.W.fnOf "_law_name" "_law_name" (defArgs s__law_name) (defBody s__law_name) (defScope s__law_name) .none kV12 dc12 pm12 an12 cd12 ct12, f13, PySem.W.fnOf "_law_names" "_law_names" (defArgs s__law_names) (defBody s__law_names) (defScope s__law_names) .none kV13 dc13 pm13 an13 cd13 ct13, f14, PySem.W.fnOf "_law_strange" "_law_strange" (defArgs s__law_strange) (defBody s__law_strange) (defScope s__law_strange) .none kV14 dc14 pm14 an14 cd14 ct14, f15, PySem.W.fnOf "_law_led" "_law_led" (defArgs s__law_led) (defBody s__law_led) (defScope s__law_led) .none kV15 dc15 pm15 an15 cd15 ct15, f16, PySem.W.fnOf "_law_right" "_law_right" (defArgs s__law_right) (defBody s__law_right) (defScope s__law_right) .none kV16 dc16 pm16 an16 cd16 ct16, f17, PySem.W.fnOf "_law_refused" "_law_refused" (defArgs s__law_refused) (defBody s__law_refused) (defScope s__law_refused) .none kV17 dc17 pm17 an17 cd17 ct17, fa, PySem.W.fnOf "law" "law" (defArgs s_law) (defBody s_law) (defScope s_law) .none kV18 dc18 pm18 an18 cd18 ct18, C0, C1, t0, t1, t2⟩
  have F0 := fun_mk (st := s_is_word) l0 c0 k0
  have F1 := fun_mk (st := s_is_name) l1 c1 k1
  have F2 := fun_mk (st := s_rises) l2 c2 k2
  have F3 := fun_mk (st := s_is_move) l3 c3 k3
  have F4 := fun_mk (st := s_is_turn) l4 c4 k4
  have F5 := fun_mk (st := s_check_turn) l5 c5 k5
  have F6 := fun_mk (st := s_turn_from) l6 c6 k6
  have F7 := fun_mk (st := s_turn_of) l7 c7 k7
  have F8 := fun_mk (st := s_turned_name) l8 c8 k8
  have F9 := fun_mk (st := s__law_mixed) l9 c9 k9
  have F10 := fun_mk (st := s__law_pile) l10 c10 k10
  have F11 := fun_mk (st := s__law_take) l11 c11 k11
  have F12 := fun_mk (st := s__law_name) l12 c12 k12
  have F13 := fun_mk (st := s__law_names) l13 c13 k13
  have F14 := fun_mk (st := s__law_strange) l14 c14 k14
  have F15 := fun_mk (st := s__law_led) l15 c15 k15
  have F16 := fun_mk (st := s__law_right) l16 c16 k16
  have F17 := fun_mk (st := s__law_refused) l17 c17 k17
  have F18 := fun_mk (st := s_law) l18 c18 k18
  have T : Txt K mg a := ⟨F0, PySem.W.mg_of X G a0, F0.binds (ps := ["thing", "letters"]) fun _ _ _ _ _ _ us hl => match us, hl with | [_, _], _ => rfl, F1, PySem.W.mg_of X G a1, F1.binds (ps := ["thing"]) fun _ _ _ _ _ _ us hl => match us, hl with | [_], _ => rfl, F2, PySem.W.mg_of X G a2, F2.binds (ps := ["things"]) fun _ _ _ _ _ _ us hl => match us, hl with | [_], _ => rfl, F3, PySem.W.mg_of X G a3, F3.binds (ps := ["thing"]) fun _ _ _ _ _ _ us hl => match us, hl with | [_], _ => rfl, F4, PySem.W.mg_of X G a4, F4.binds (ps := ["thing"]) fun _ _ _ _ _ _ us hl => match us, hl with | [_], _ => rfl, F5, PySem.W.mg_of X G a5, F5.binds (ps := ["thing"]) fun _ _ _ _ _ _ us hl => match us, hl with | [_], _ => rfl, F6, PySem.W.mg_of X G a6, F6.binds (ps := ["moves"]) fun _ _ _ _ _ _ us hl => match us, hl with | [_], _ => rfl, F7, PySem.W.mg_of X G a7, F7.binds (ps := ["swaps"]) fun _ _ _ _ _ _ us hl => match us, hl with | [_], _ => rfl, F8, PySem.W.mg_of X G a8, F8.binds (ps := ["turn", "name"]) fun _ _ _ _ _ _ us hl => match us, hl with | [_, _], _ => rfl, F9, PySem.W.mg_of X G a9, F9.binds (ps := ["_law_cell", "_law_k"]) fun _ _ _ _ _ _ us hl => match us, hl with | [_, _], _ => rfl, F10, PySem.W.mg_of X G a10, F10.binds (ps := ["_law_script", "_law_k"]) fun _ _ _ _ _ _ us hl => match us, hl with | [_, _], _ => rfl, F11, PySem.W.mg_of X G a11, F11.binds (ps := ["_law_pile_here", "_law_many"]) fun _ _ _ _ _ _ us hl => match us, hl with | [_, _], _ => rfl, F12, PySem.W.mg_of X G a12, F12.binds (ps := ["_law_pile_here"]) fun _ _ _ _ _ _ us hl => match us, hl with | [_], _ => rfl, F13, PySem.W.mg_of X G a13, F13.binds (ps := ["_law_pile_here", "_law_many"]) fun _ _ _ _ _ _ us hl => match us, hl with | [_, _], _ => rfl, F14, PySem.W.mg_of X G a14, F14.binds (ps := ["_law_pile_here"]) fun _ _ _ _ _ _ us hl => match us, hl with | [_], _ => rfl, F15, PySem.W.mg_of X G a15, F15.binds (ps := ["_law_pairs", "_law_name_here"]) fun _ _ _ _ _ _ us hl => match us, hl with | [_, _], _ => rfl, F16, PySem.W.mg_of X G a16, F16.binds (ps := ["_law_pairs", "_law_names_here"]) fun _ _ _ _ _ _ us hl => match us, hl with | [_, _], _ => rfl, F17, PySem.W.mg_of X G a17, F17.binds (ps := ["_law_pairs"]) fun _ _ _ _ _ _ us hl => match us, hl with | [_], _ => rfl, F18, PySem.W.mg_of X G a18, F18.binds (ps := ["_law_script"]) fun _ _ _ _ _ _ us hl => match us, hl with | [_], _ => rfl, PySem.W.mg_of X G v0, PySem.W.mg_of X G v1, PySem.W.mg_of X G v2, PySem.W.mg_of X G q0, x0, p0, e0, y0, i0, s0, PySem.W.mg_of X G q1, x1, p1, e1, y1, i1, s1, PySem.W.mg_none_of X G z0, PySem.W.mg_none_of X G z1, PySem.W.mg_none_of X G z2, PySem.W.mg_none_of X G z3, PySem.W.mg_none_of X G z4, PySem.W.mg_none_of X G z5, PySem.W.mg_none_of X G z6, PySem.W.mg_none_of X G z7, PySem.W.mg_none_of X G z8, PySem.W.mg_none_of X G z9, PySem.W.mg_none_of X G z10, PySem.W.mg_none_of X G z11⟩
  exact ⟨PySem.W.fnOf "law" "law" (defArgs s_law) (defBody s_law) (defScope s_law) .none kV18 dc18 pm18 an18 cd18 ct18, fun s v => .of_eq rfl, fun base _ _ => ok_law (a := a) T⟩
end Pf
open PySem PySem.W PyProof.Rows
set_option maxRecDepth 100000 in
set_option maxHeartbeats 0 in
theorem PySem.Challenge.cw_shutnames_k02_exchanges_one_after_anothe_holds : PySem.Challenge.rw_shutnames_k02_exchanges_one_after_anothe.Holds := by
  w_on; o_law; k_head; (case hw => w_witness2)
  k_fill
  refine L2.walk_of (l := PySem.Challenge.rw_shutnames_k02_exchanges_one_after_anothe) (n := 63) (k := 8) (x := "_law_script") (CX := fun _ => L2.CX0) (sp := fun w => Pf.sp_law _) rfl (by decide) rfl ⟨rfl, by decide, by decide⟩ (fun w h Y => PySem.W.kIn_of Y) ?F (fun _ _ a ns hl _ hS => ⟨a, ns, rfl, hS, hl, fun _ => rfl⟩) (fun _ _ _ _ _ h => h)
  case F =>
    intro w mg fa h KX G hmg
    refine' Pf.all_mk KX G hmg ?a0 ?l0 ?c0 ?k0 ?a1 ?l1 ?c1 ?k1 ?a2 ?l2 ?c2 ?k2 ?a3 ?l3 ?c3 ?k3 ?a4 ?l4 ?c4 ?k4 ?a5 ?l5 ?c5 ?k5 ?a6 ?l6 ?c6 ?k6 ?a7 ?l7 ?c7 ?k7 ?a8 ?l8 ?c8 ?k8 ?a9 ?l9 ?c9 ?k9 ?a10 ?l10 ?c10 ?k10 ?a11 ?l11 ?c11 ?k11 ?a12 ?l12 ?c12 ?k12 ?a13 ?l13 ?c13 ?k13 ?a14 ?l14 ?c14 ?k14 ?a15 ?l15 ?c15 ?k15 ?a16 ?l16 ?c16 ?k16 ?a17 ?l17 ?c17 ?k17 ?a18 ?l18 ?c18 ?k18 ?v0 ?v1 ?v2 ?q0 ?x0 ?p0 ?e0 ?y0 ?i0 ?s0 ?q1 ?x1 ?p1 ?e1 ?y1 ?i1 ?s1 ?z0 ?z1 ?z2 ?z3 ?z4 ?z5 ?z6 ?z7 ?z8 ?z9 ?z10 ?z11
    (case a0 => k_is); (case l0 => k_is); (case c0 => k_is); (case k0 => k_is); (case a1 => k_is); (case l1 => k_is); (case c1 => k_is); (case k1 => k_is)
    (case a2 => k_is); (case l2 => k_is); (case c2 => k_is); (case k2 => k_is); (case a3 => k_is); (case l3 => k_is); (case c3 => k_is); (case k3 => k_is)
    (case a4 => k_is); (case l4 => k_is); (case c4 => k_is); (case k4 => k_is); (case a5 => k_is); (case l5 => k_is); (case c5 => k_is); (case k5 => k_is)
    (case a6 => k_is); (case l6 => k_is); (case c6 => k_is); (case k6 => k_is); (case a7 => k_is); (case l7 => k_is); (case c7 => k_is); (case k7 => k_is)
    (case a8 => k_is); (case l8 => k_is); (case c8 => k_is); (case k8 => k_is); (case a9 => k_is); (case l9 => k_is); (case c9 => k_is); (case k9 => k_is)
    (case a10 => k_is); (case l10 => k_is); (case c10 => k_is); (case k10 => k_is); (case a11 => k_is); (case l11 => k_is); (case c11 => k_is); (case k11 => k_is)
    (case a12 => k_is); (case l12 => k_is); (case c12 => k_is); (case k12 => k_is); (case a13 => k_is); (case l13 => k_is); (case c13 => k_is); (case k13 => k_is)
    (case a14 => k_is); (case l14 => k_is); (case c14 => k_is); (case k14 => k_is); (case a15 => k_is); (case l15 => k_is); (case c15 => k_is); (case k15 => k_is)
    (case a16 => k_is); (case l16 => k_is); (case c16 => k_is); (case k16 => k_is); (case a17 => k_is); (case l17 => k_is); (case c17 => k_is); (case k17 => k_is)
    (case a18 => k_is); (case l18 => k_is); (case c18 => k_is); (case k18 => k_is); (case v0 => k_is); (case v1 => k_is); (case v2 => k_is); (case q0 => k_is)
    (case x0 => first | k_exc | k_is); (case p0 => k_is); (case e0 => k_is); (case y0 => k_is); (case i0 => k_is); (case s0 => first | rfl | k_is); (case q1 => k_is); (case x1 => first | k_exc | k_is)
    (case p1 => k_is); (case e1 => k_is); (case y1 => k_is); (case i1 => k_is); (case s1 => first | rfl | k_is); (case z0 => k_is); (case z1 => k_is); (case z2 => k_is)
    (case z3 => k_is); (case z4 => k_is); (case z5 => k_is); (case z6 => k_is); (case z7 => k_is); (case z8 => k_is); (case z9 => k_is); (case z10 => k_is)
    (case z11 => k_is)

