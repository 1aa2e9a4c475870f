import PyProof.Rows.All
import Wide.All
import OpenK.AllK
import Wide.FinOn
import PyProof.EqAt
import PyProof.EqKinds
import PyProof.TupleCall
import KE.SortData
import KE.KDictPairs
import HandS.Base
import HandS.Call
import HandS.List
import HandS.Comp
import HandS.Ends
import HandS.Dict
import HandS.Iter
import HandS.Text
import HandS.Exc
import HandS.TryOnly
import HandS.ExcOwn
import HandS.IsInst
import HandS.Small
import HandS.Wide
import HandS.Words
import HandS.WordsList
import HandS.WordsDict
import HandS.WordsExc
import HandS.TryMany
import HandS.Codes
import HandS.ExcInit
import HandS.ExcField
import HandS.ClsMeth
import KE.KDictZip
import KE.GoesZip
import PyProof.CollectWalk
import PyProof.ListNew
import HandS.Zip0
import KE.GoesMore
import HandS.ListItems
import HandS.Set
import HandS.SetFor
import HandS.SetBool
import HandS.Nested
import KE.KLam
import HandS.EndTab
import PySem.Challenge.RW_shutnames_k15_whole_terms_taken_apart
import PyProof.AutoSeq1
import HandS.Style
import KE.KRevSl
import HandS.TupAny
import HandS.RevRange
import HandS.More
import HandS.Deep
import HandS.HeadWalk
import HandS.HeadHook4
set_option Elab.async false
set_option linter.all false
set_option maxRecDepth 100000
set_option maxHeartbeats 4000000
/-! Own words over the hand layer: what stays, data that never changes, sorting of data, dicts of tuples of pairs. -/
namespace Pf
open PySem PySem.Spec PyProof.Rows L2
/-! ### what stays -/
def But (a : Addr) (H H' : Hp) : Prop := ∀ b o, b ≠ a → H b = some o → H' b = some o
theorem But.refl (a : Addr) (H : Hp) : But a H H := fun _ _ _ h => h
theorem But.trans {a : Addr} {H H1 H2 : Hp} (x : But a H H1) (y : But a H1 H2) : But a H H2 := fun b o n h => y b o n (x b o n h)
theorem But.of {a : Addr} {H H' : Hp} (s : Same H H') : But a H H' := fun b o _ h => s b o h
theorem But.new {a : Addr} {H H' : Hp} (x : But a H H') {p : Addr} {o : HO} (n : H' p = none) : But a H (upd H' p o) := fun b u nb h => by
  have e := x b u nb h
  rw [upd_ne (ne_of_none e n)]
  exact e
theorem But.put {a : Addr} {H H' : Hp} {o : HO} (x : But a H H') : But a H (upd H' a o) := fun b u nb h => by
  rw [upd_ne nb]
  exact x b u nb h
theorem same_new {H : Hp} {p : Addr} {o : HO} (h : H p = none) : Same H (upd H p o) := fun b x e => by
  rw [upd_ne (ne_of_none e h)]
  exact e
theorem Same.new {H H' : Hp} (s : Same H H') {p : Addr} {o : HO} (n : H' p = none) : Same H (upd H' p o) := s.trans (same_new n)
/-- an object that H does not know may change -/
theorem Same.mut {H H' : Hp} (s : Same H H') {p : Addr} {o : HO} (n : H p = none) : Same H (upd H' p o) := fun b u h => by
  rw [upd_ne (ne_of_none h n)]
  exact s b u h
theorem But.free {a : Addr} {H H' : Hp} (x : But a H H') {l : Addr} (n : l ≠ a) (h : H' l = none) : H l = none := by
  cases q : H l with
  | none => rfl
  | some o =>
    rw [x l o n q] at h
    cases h
/-- tuples stay -/
def Tups (H H' : Hp) : Prop := ∀ b xs, Rd H b (.tup xs) → Rd H' b (.tup xs)
theorem Tups.of {H H' : Hp} (s : Same H H') : Tups H H' := fun b xs h => by
  rcases h with h | ⟨o, h⟩
  · exact .inl (s _ _ h)
  · exact .inr ⟨o, s _ _ h⟩
theorem Tups.but {a : Addr} {H H' : Hp} {ys : List V} (s : But a H H') (ha : H a = some (.lst ys)) : Tups H H' := fun b xs h => by
  have nb : b ≠ a := by
    rintro rfl
    rcases h with h | ⟨o, h⟩
    · rw [ha] at h; cases h
    · rw [ha] at h; cases h
  rcases h with h | ⟨o, h⟩
  · exact .inl (s _ _ nb h)
  · exact .inr ⟨o, s _ _ nb h⟩
theorem Tups.trans {H H1 H2 : Hp} (x : Tups H H1) (y : Tups H1 H2) : Tups H H2 := fun b xs h => y b xs (x b xs h)
section
variable {K : PySem.W.Frag} {H H' : Hp}
theorem Tups.sq {a : Addr} {xs : List V} (t : Tups H H') (h : SqT K H a xs) : SqT K H' a xs := by
  rcases h with h | h
  · exact .inl (t _ _ h)
  · exact .inr h
theorem But.sq {a b : Addr} {xs : List V} (s : But a H H') (n : b ≠ a) (h : SqL K H b xs) : SqL K H' b xs := by
  rcases h with (h | ⟨o, h⟩) | h
  · exact .inl (.inl (s _ _ n h))
  · exact .inl (.inr ⟨o, s _ _ n h⟩)
  · exact .inr h
theorem sqL {a : Addr} {xs : List V} (h : H a = some (.lst xs)) : SqL K H a xs := .inl (.inl h)
theorem sqT {a : Addr} {xs : List V} (h : H a = some (.tup xs)) : SqT K H a xs := .inl (.inl h)
/-! ### pairs, lists side by side -/
theorem pd_get {α β : Type} {R : α → β → Prop} : ∀ {xs : List α} {ys : List β} {i : Nat} {y : β}, Paired R xs ys → ys[i]? = some y → ∃ x, xs[i]? = some x ∧ R x y
  | _, _, _, _, .nil, e => by simp at e
  | _, _, 0, _, .cons r _, e => by simp at e; subst e; exact ⟨_, rfl, r⟩
  | _, _, i + 1, y, .cons _ t, e => by
    obtain ⟨x, h1, h2⟩ := pd_get (i := i) (y := y) t (by simpa using e)
    exact ⟨x, by simpa using h1, h2⟩
theorem pd_get' {α β : Type} {R : α → β → Prop} : ∀ {xs : List α} {ys : List β} {i : Nat} {x : α}, Paired R xs ys → xs[i]? = some x → ∃ y, ys[i]? = some y ∧ R x y
  | _, _, _, _, .nil, e => by simp at e
  | _, _, 0, _, .cons r _, e => by simp at e; subst e; exact ⟨_, rfl, r⟩
  | _, _, i + 1, x, .cons _ t, e => by
    obtain ⟨y, h1, h2⟩ := pd_get' (i := i) (x := x) t (by simpa using e)
    exact ⟨y, by simpa using h1, h2⟩
theorem pd_mono {α β : Type} {R S : α → β → Prop} (f : ∀ a b, R a b → S a b) : ∀ {xs : List α} {ys : List β}, Paired R xs ys → Paired S xs ys
  | _, _, .nil => .nil
  | _, _, .cons r t => .cons (f _ _ r) (pd_mono f t)
theorem pd_app {α β : Type} {R : α → β → Prop} : ∀ {xs : List α} {ys : List β} {xs' : List α} {ys' : List β}, Paired R xs ys → Paired R xs' ys' → Paired R (xs ++ xs') (ys ++ ys')
  | _, _, _, _, .nil, h => h
  | _, _, _, _, .cons r t, h => .cons r (pd_app t h)
theorem pd_snoc {α β : Type} {R : α → β → Prop} {xs : List α} {ys : List β} {x : α} {y : β} (h : Paired R xs ys) (r : R x y) : Paired R (xs ++ [x]) (ys ++ [y]) := pd_app h (.cons r .nil)
theorem pd_len {α β : Type} {R : α → β → Prop} : ∀ {xs : List α} {ys : List β}, Paired R xs ys → xs.length = ys.length
  | _, _, .nil => rfl
  | _, _, .cons _ t => congrArg (· + 1) (pd_len t)
theorem pd_map {α β γ : Type} {R : α → γ → Prop} (f : β → γ) : ∀ {xs : List α} {ys : List β}, Paired (fun x y => R x (f y)) xs ys → Paired R xs (ys.map f)
  | _, _, .nil => .nil
  | _, _, .cons r t => .cons r (pd_map f t)
theorem pd_take {α β : Type} {R : α → β → Prop} : ∀ {xs : List α} {ys : List β} (n : Nat), Paired R xs ys → Paired R (xs.take n) (ys.take n)
  | _, _, 0, _ => .nil
  | _, _, _ + 1, .nil => .nil
  | _, _, n + 1, .cons r t => .cons r (pd_take n t)
theorem pd_drop {α β : Type} {R : α → β → Prop} : ∀ {xs : List α} {ys : List β} (n : Nat), Paired R xs ys → Paired R (xs.drop n) (ys.drop n)
  | _, _, 0, h => h
  | _, _, _ + 1, .nil => .nil
  | _, _, n + 1, .cons _ t => pd_drop n t
theorem all_of {ds : List PyData} {xs : List V} (h : Paired (Dp K H) xs ds) : DpAll K H xs ds := by
  induction h with
  | nil => exact .nil
  | cons r _ ih => exact .cons r ih
/-- a pair of texts -/
def Pr (K : PySem.W.Frag) (H : Hp) (v : V) (p : Str × Str) : Prop := ∃ q, v = .ref q ∧ SqT K H q [.str p.1, .str p.2]
def eP (p : Str × Str) : PyData := .tuple [.str p.1, .str p.2]
theorem Pr.dp {v : V} {p : Str × Str} (h : Pr K H v p) : Dp K H v (eP p) := by
  obtain ⟨q, rfl, s⟩ := h
  exact .tup s (.cons (.str _) (.cons (.str _) .nil))
theorem Pr.stay {v : V} {p : Str × Str} (h : Pr K H v p) (t : Tups H H') : Pr K H' v p := by
  obtain ⟨q, e, s⟩ := h
  exact ⟨q, e, t.sq s⟩
abbrev Prs (K : PySem.W.Frag) (H : Hp) : List V → List (Str × Str) → Prop := Paired (Pr K H)
theorem Prs.stay {vs : List V} {ps : List (Str × Str)} (h : Prs K H vs ps) (t : Tups H H') : Prs K H' vs ps := pd_mono (fun _ _ r => r.stay t) h
theorem Prs.dp {vs : List V} {ps : List (Str × Str)} (h : Prs K H vs ps) : DpAll K H vs (ps.map eP) := all_of (pd_map eP (pd_mono (fun _ _ r => r.dp) h))
/-- a tuple of pairs of texts -/
def Tn (K : PySem.W.Frag) (H : Hp) (v : V) (t : List (Str × Str)) : Prop := ∃ q xs, v = .ref q ∧ SqT K H q xs ∧ Prs K H xs t
def eT (t : List (Str × Str)) : PyData := .tuple (t.map eP)
theorem Tn.dp {v : V} {t : List (Str × Str)} (h : Tn K H v t) : Dp K H v (eT t) := by
  obtain ⟨q, xs, rfl, s, p⟩ := h
  exact .tup s p.dp
theorem Tn.stay {v : V} {t : List (Str × Str)} (h : Tn K H v t) (u : Tups H H') : Tn K H' v t := by
  obtain ⟨q, xs, e, s, p⟩ := h
  exact ⟨q, xs, e, u.sq s, p.stay u⟩
/-- a tuple is none of another class -/
theorem ty_tup {q : Addr} {xs : List V} (h : SqT K H q xs) : TyX K H (.ref q) (.type "tuple") := by
  rcases h with (h | ⟨o, h⟩) | ⟨o, _, _, e, c, _⟩
  · exact .base (.tup h)
  · exact .fTuple h
  · exact .kTuple e c
theorem ty_list {q : Addr} {xs : List V} (h : SqL K H q xs) : TyX K H (.ref q) (.type "list") := by
  rcases h with (h | ⟨o, h⟩) | ⟨o, _, _, e, c, _⟩
  · exact .base (.lst h)
  · exact .base (.frz h)
  · exact .kList e c
/-! ### data that may be compared -/
theorem shaped_iff {d : PyData} : SeqAt.shaped d = true ↔ d.canLay0 = true ∧ d.depth ≤ 64 := by
  unfold SeqAt.shaped
  rw [Bool.and_eq_true, decide_eq_true_iff]
theorem canAll {α : Type} (f : α → PyData) : ∀ {l : List α}, (∀ x ∈ l, (f x).canLay0 = true) → PyData.canLayAll0 (l.map f) = true
  | [], _ => rfl
  | x :: r, h => by
    show ((f x).canLay0 && PyData.canLayAll0 (r.map f)) = true
    rw [h x List.mem_cons_self, canAll f fun y hy => h y (List.mem_cons_of_mem _ hy)]
    rfl
theorem depAll {α : Type} (f : α → PyData) {n : Nat} : ∀ {l : List α}, (∀ x ∈ l, (f x).depth ≤ n) → PyData.depthAll (l.map f) ≤ n
  | [], _ => Nat.zero_le _
  | x :: r, h => by
    show max (f x).depth (PyData.depthAll (r.map f)) ≤ n
    exact Nat.max_le.mpr ⟨h x List.mem_cons_self, depAll f fun y hy => h y (List.mem_cons_of_mem _ hy)⟩
def okP (p : Str × Str) : Prop := PyData.strOk p.1 = true ∧ PyData.strOk p.2 = true
theorem lay_P {p : Str × Str} (h : okP p) : (eP p).canLay0 = true := by
  show (PyData.strOk p.1 && (PyData.strOk p.2 && true)) = true
  rw [h.1, h.2]
  rfl
theorem dep_P (p : Str × Str) : (eP p).depth ≤ 1 := Nat.le_refl 1
theorem shaped_P {p : Str × Str} (h : okP p) : SeqAt.shaped (eP p) = true := shaped_iff.mpr ⟨lay_P h, Nat.le_trans (dep_P p) (by decide)⟩
theorem shaped_T {t : List (Str × Str)} (h : ∀ p ∈ t, okP p) : SeqAt.shaped (eT t) = true :=
  shaped_iff.mpr ⟨canAll eP fun p hp => lay_P (h p hp), Nat.le_trans (Nat.succ_le_succ (depAll eP fun p _ => dep_P p)) (by decide)⟩
theorem shaped_LP {t : List (Str × Str)} (h : ∀ p ∈ t, okP p) : SeqAt.shaped (.list (t.map eP)) = true :=
  shaped_iff.mpr ⟨canAll eP fun p hp => lay_P (h p hp), Nat.le_trans (Nat.succ_le_succ (depAll eP fun p _ => dep_P p)) (by decide)⟩
theorem shaped_LS {t : List Str} (h : ∀ p ∈ t, PyData.strOk p = true) : SeqAt.shaped (.list (t.map .str)) = true :=
  shaped_iff.mpr ⟨canAll .str fun p hp => h p hp, Nat.le_trans (Nat.succ_le_succ (depAll (n := 0) .str fun p _ => Nat.le_refl 0)) (by decide)⟩
theorem shaped_S {x : Str} (h : PyData.strOk x = true) : SeqAt.shaped (.str x) = true := shaped_iff.mpr ⟨h, Nat.zero_le _⟩
end
/-! ### sorting of data at any depth -/
theorem vals_of {α : Type} {P : V → α → Prop} : ∀ {us : List Value} {bs : List α}, PySem.W.EachIs (fun u b => ∃ x, RelV x u ∧ P x b) us bs → ∃ ys, Vals ys us ∧ Paired P ys bs
  | _, _, .nil => ⟨[], .nil, .nil⟩
  | _, _, .cons ⟨x, r, p⟩ t => by
    obtain ⟨ys, a, b⟩ := vals_of t
    exact ⟨x :: ys, .cons r a, .cons p b⟩
theorem each_of {α : Type} {P : V → α → Prop} : ∀ {xs : List V} {us : List Value} {bs : List α}, Vals xs us → Paired P xs bs → PySem.W.EachIs (fun u b => ∃ x, RelV x u ∧ P x b) us bs
  | _, _, _, .nil, .nil => .nil
  | _, _, _, .cons r t, .cons p q => .cons ⟨_, r, p⟩ (each_of t q)
theorem each_map' {α β : Type} {R S : α → β → Prop} (f : ∀ a b, R a b → S a b) : ∀ {as : List α} {bs : List β}, PySem.W.EachIs R as bs → PySem.W.EachIs S as bs
  | _, _, .nil => .nil
  | _, _, .cons r t => .cons (f _ _ r) (each_map' f t)
/-- sorted(xs): xs reads as bs by enc -/
def rSortedG (K : PySem.W.Frag) {β : Type} (enc : β → PyData) : List V → Hp → VK → Prop := fun vs H Q => ∃ (a : Addr) (xs : List V) (bs : List β) (P : V → β → Prop), vs = [V.ref a] ∧ SqL K H a xs ∧ Paired P xs bs ∧ (∀ x b, P x b → Dp K H x (enc b)) ∧
  PySem.W.AllAlike (bs.map enc) ∧ PySem.W.Sortable (bs.map enc) ∧ (∀ b ∈ bs, (enc b).depth ≤ 40) ∧ ∀ (ys : List V) (p : Addr), Paired P ys (bs.mergeSort (PySem.W.dataLe false enc)) → H p = none → Q (.ref p) (upd H p (.lst ys))
section
variable {X : Cx}
theorem cr_sortedG {β : Type} {enc : β → PyData} (hu : X.A.units + 64 < cLine) : CallR X (.builtin "sorted") (rSortedG X.K enc) := by
  intro pins s σ H vs us Q I r h
  obtain ⟨a, xs, bs, P, rfl, hs, hp, hd, hal, hso, hde, q⟩ := h
  obtain ⟨its, rv, hl, hz⟩ := I.list hs
  obtain ⟨u, rfl, ru⟩ := vals1 r
  obtain rfl : u = Value.ref a := ru
  have e := each_of rv hp
  refine PySem.W.sorted_data (bs := bs) (enc := enc) hl.isList e (each_map' (fun u b ⟨x, rx, px⟩ => Dp.reads I _ _ _ (hd x b px) rx) e) hal hso (by rw [← pd_len hp]; exact hz) (fun b hb => by have := hde b hb; omega) fun out hlen ho => ?_
  obtain ⟨ys, vy, py⟩ := vals_of ho
  obtain ⟨c, hc⟩ := PyProof.Rows.sortedAll_at s.heap its out.toArray
  refine ⟨.ref (s.heap.objs.size + 1), upd H (s.heap.objs.size + 1) (.lst ys), I.laid (t' := s.toks) (fun b o e => PyProof.Rows.sortedAll_old e) (Nat.le_succ _) ⟨?_, out, c, vy, hc⟩, rfl, q ys _ py (I.hok.fresh (Nat.le_succ _))⟩
  rw [vy.length, hlen, ← pd_len hp]
  exact hz
/-- text * whole number -/
theorem op_mulS : OpR X (binaryOp .Mult) (fun x y H Q => ∃ (z : Str) (k : Nat), x = .str z ∧ y = .int (k : Int) ∧ 2 ≤ k ∧ k ≤ 1000 ∧ 1 ≤ z.length ∧ z.length ≤ 1000 ∧ (⟨(List.replicate k z.cps).foldl (· ++ ·) #[]⟩ : Str).length ≤ sizeLine ∧ Q (.str ⟨(List.replicate k z.cps).foldl (· ++ ·) #[]⟩) H) := by
  intro pins s σ H x y v u Q I rx ry h
  obtain ⟨z, k, rfl, rfl, h2, h3, h4, h5, h6, q⟩ := h
  obtain ⟨t, rfl⟩ := rx
  obtain ⟨t', rfl⟩ := ry
  have hm : z.length * k ≤ 1000 * 1000 := Nat.mul_le_mul h5 h3
  refine PySem.P.mul_str ?_ ?_ ?_ ?_
  · rw [Bool.or_eq_false_iff, decide_eq_false_iff_not, decide_eq_false_iff_not]
    omega
  · intro _ _ hlt
    have e : ((z.length : Int)) ≤ 1000 := by omega
    have e2 : ((2 : Int) ^ 63 - 1) / (k : Int) ≥ (2 ^ 63 - 1) / 1000 := by
      have hk : (0 : Int) < k := by omega
      rw [ge_iff_le, Int.le_ediv_iff_mul_le hk]
      have : ((2 : Int) ^ 63 - 1) / 1000 * (k : Int) ≤ (2 ^ 63 - 1) / 1000 * 1000 := Int.mul_le_mul_of_nonneg_left (by omega) (by decide)
      refine Int.le_trans this (by decide)
    have e3 : ((2 : Int) ^ 63 - 1) / 1000 ≥ 1000 := by decide
    omega
  · intro _ _
    show decide (z.length * ((k : Int)).toNat > sizeLine) = false
    rw [decide_eq_false_iff_not]
    rw [Int.toNat_natCast]
    have : sizeLine = 16777216 := sizeLine_eq
    omega
  · rw [if_neg (by omega)]
    have e1 : ((k : Int) == 1) = false := by
      rw [beq_eq_false_iff_ne]; omega
    have e2 : (z.length == 0) = false := by
      rw [beq_eq_false_iff_ne]; omega
    rw [e1, e2]
    rw [Int.toNat_natCast]
    exact ⟨h6, .str _, H, I.tok _, ⟨_, rfl⟩, q⟩
/-- tuple(list): a new tuple, known as an object without attributes -/
theorem call_tupleF : CallR X (.type "tuple") (fun xs H Q => ∃ p ys, xs = [.ref p] ∧ SqL X.K H p ys ∧ ∀ l o, H l = none → o.dict = none → Q (.ref l) (upd H l (.frz o (.tup ys)))) := by
  intro pins s σ H xs us Q I r h
  obtain ⟨p, ys, rfl, hq, q⟩ := h
  obtain ⟨u, rfl, rx⟩ := vals1 r
  cases rx
  obtain ⟨its, r', pl, hz⟩ := I.list hq
  have hlen := r'.length
  refine call_tuple_list pl.isList (fun h' kp => ?_) (by simp only [List.size_toArray] <;> omega)
  have I1 : Inv X pins σ H { s with heap := h' } := I.kept (t' := s.toks) kp
  have I2 : Inv X pins σ (upd H h'.objs.size (.frz { cls := .type "tuple", data := .seq its.toArray } (.tup ys))) { s with heap := h'.push { cls := .type "tuple", data := .seq its.toArray } } :=
    I1.laid (t' := s.toks) (fun b o e => Heap.get?_push_of_some _ e) (Nat.le_refl _) (show ObjOk X.prog X.w _ _ _ (.frz _ (.tup ys)) from ⟨Heap.get?_push_size _ rfl, hz, its, r', IsTup.new _ _⟩)
  exact ⟨.ref h'.objs.size, _, I2, rfl, q _ _ (I1.hok.fresh (Nat.le_refl _)) rfl⟩
/-- dict(t), t a tuple of pairs (key, value), known to have no attributes -/
theorem call_dictT (hcalm : X.calm = true) : CallR X (.type "dict") (fun xs H Q => ∃ (a : Addr) (o : Obj) (ps : List Addr) (kvs : List (Key × V)), xs = [.ref a] ∧ H a = some (.frz o (.tup (ps.map V.ref))) ∧ o.dict = none ∧ Paired (fun p kv => SqT X.K H p [kV kv.1, kv.2]) ps kvs ∧
    ∀ p, H p = none → Q (.ref p) (upd H p (.dK (mergeK [] kvs)))) := by
  intro pins s σ H xs us Q I r q
  obtain ⟨a, o, ps, kvs, ex, hq, hdn, hp, q⟩ := q
  subst ex
  obtain ⟨u, eu, rx⟩ := vals1 r
  subst eu
  cases rx
  obtain ⟨hao, hz, its, rv, ht⟩ := I.hok a _ hq
  have ei := refs_at rv
  subst ei
  rw [List.length_map] at hz
  obtain ⟨prs, rel, hl, hpr⟩ := pairs_of I hp
  obtain ⟨o2, ho2, hc2, n, hd2⟩ := ht
  rw [hao] at ho2
  cases ho2
  have key : ∀ (j : Nat) (q : Key × Value), prs[j]? = some q → ∃ (b : Addr) (u : Value), ps[j]? = some b ∧ s.heap.IsTuple b #[u, q.2] ∧ keyIs q.1 u = true := hpr
  let Ts : Nat → Addr := fun j => ps.getD j 0
  have ch : ∀ j : Nat, ∃ uv : Value × Value, ∀ q : Key × Value, prs[j]? = some q → uv.2 = q.2 ∧ ∃ b, ps[j]? = some b ∧ s.heap.IsTuple b #[uv.1, q.2] ∧ keyIs q.1 uv.1 = true := fun j => by
    cases e : prs[j]? with
    | none => exact ⟨(.none, .none), fun q z => nomatch z⟩
    | some q =>
      obtain ⟨b, u, e1, e2, e3⟩ := key j q e
      exact ⟨(u, q.2), fun q' z => by cases z; exact ⟨rfl, b, e1, e2, e3⟩⟩
  obtain ⟨f, hf⟩ := Classical.axiomOfChoice ch
  let uv : List (Value × Value) := (List.range prs.length).map f
  have hul : uv.length = prs.length := by simp [uv]
  have uvat : ∀ (j : Nat) (q : Key × Value), prs[j]? = some q → ∃ u b, uv[j]? = some (u, q.2) ∧ ps[j]? = some b ∧ s.heap.IsTuple b #[u, q.2] ∧ keyIs q.1 u = true := fun j q e => by
    have hj : j < prs.length := (List.getElem?_eq_some_iff.mp e).1
    obtain ⟨e0, b, f1, f2, f3⟩ := hf j q e
    refine ⟨(f j).1, b, ?_, f1, f2, f3⟩
    show ((List.range prs.length).map f)[j]? = _
    rw [List.getElem?_map, List.getElem?_range hj, ← e0]
    rfl
  refine PySem.call_dict_pairs (knd := mixKind X.prog X.w) (kvs := prs) (PySem.PairArg.tuple (prog := X.prog) (w := X.w) a (ps.map Value.ref).toArray Ts uv) (I.ok.hd hcalm) ⟨⟨o, n, hao, hc2, hdn, hd2⟩, ?_, ?_⟩ ⟨hul.symm, ?_⟩ (by rw [hul, hl]; exact hz) fun h' tk hd' k => ?_
  · simp [hul, hl]
  · intro j k v hj
    have hj2 : j < prs.length := by rw [← hul]; exact (List.getElem?_eq_some_iff.mp hj).1
    obtain ⟨u, b, e1, e2, e3, e4⟩ := uvat j _ (List.getElem?_eq_getElem hj2)
    rw [hj] at e1
    cases e1
    have ed : Ts j = b := by
      show ps.getD j 0 = b
      rw [List.getD_eq_getElem?_getD, e2]
      rfl
    refine ⟨?_, .inl (by rw [ed]; exact e3)⟩
    rw [ed]
    simp [e2]
  · intro j key v hj
    have hj : uv[j]? = some (key, v) := hj
    have hj2 : j < prs.length := by rw [← hul]; exact (List.getElem?_eq_some_iff.mp hj).1
    obtain ⟨u, b, e1, e2, e3, e4⟩ := uvat j _ (List.getElem?_eq_getElem hj2)
    rw [hj] at e1
    cases e1
    exact ⟨_, List.getElem?_eq_getElem hj2, e4⟩
  · have hm : (s.heap.objs.size == sysModules) = false := beq_eq_false_iff_ne.mpr (Nat.ne_of_gt I.big)
    have hlen : (mergeK [] kvs).length ≤ sizeLine := by
      refine Nat.le_trans (length_mergeK kvs []) ?_
      rw [List.length_nil, Nat.zero_add, rel.length, hl]
      exact hz
    exact ⟨.ref s.heap.objs.size, upd H s.heap.objs.size (.dK (mergeK [] kvs)), I.laid (t' := tk) (fun b o e => k b o (fun z => nomatch z) e) (Nat.le_refl _) (show ObjOk X.prog X.w _ _ _ (.dK (mergeK [] kvs)) from ⟨hlen, hm, merged [] prs, KV.merge rel .nil, hd'⟩), rfl, q _ (I.hok.fresh (Nat.le_refl _))⟩
end
end Pf

/-! own rule: try with several clauses, each with a name or without one -/
namespace Pf
open PySem PySem.Spec PyProof.Rows L2
/-- a clause: the class, the slot of its name if it has one, what its suite does -/
structure Cl where
  cl : Value
  slot : Option Nat
  does : Addr → Value → Option Addr → TS
def Cl.ends (D : Ends) : Option Nat → Ends
  | none => D
  | some i => ⟨fun τ G => D.nx (τ.set i none) G, D.rt, fun τ G => D.bk (τ.set i none) G, fun τ G => D.ct (τ.set i none) G⟩
def Cl.st (σ : L2.St) (a : Addr) : Option Nat → L2.St
  | none => σ
  | some i => σ.set i (some (.ref a))
def wCls (K : PySem.W.Frag) (Wout : WX) (D : Ends) : List Cl → WX
  | [] => Wout
  | k :: r => fun S d σ H => ∃ b, PySem.W.exmOne K S k.cl = some b ∧ (b = true → ∀ a, H a = none → k.does a S d (Cl.ends D k.slot) (Cl.st σ a k.slot) H) ∧ (b = false → wCls K Wout D r S d σ H)
/-- a suite that does so -/
def SuiteOk (X : Cx) (b₀ : Stmt) (bs : List Stmt) (does : Addr → Value → Option Addr → TS) : Prop :=
  ∀ (a : Addr) (oe : Obj) (S : Value) (d : Option Addr) (pn : List (Addr × Obj)), Zc S d oe → (∃ vs, oe.data = .fields vs) → PSs (X.suite a ((a, oe) :: pn)) (b₀ :: bs) (does a S d)
inductive ClsOk (X : Cx) : List ExceptHandler → List Cl → Prop
  | nil : ClsOk X [] []
  | bare {x : Str} {c : Value} {f : Addr → Value → Option Addr → TS} {b₀ : Stmt} {bs : List Stmt} {np p : Pos} {hs : List ExceptHandler} {l : List Cl} (hc : Names X x c) (so : SuiteOk X b₀ bs f) (r : ClsOk X hs l) :
      ClsOk X (.ExceptHandler (some (.Name x np)) none (b₀ :: bs) p :: hs) (⟨c, none, f⟩ :: l)
  | as {x n : Str} {i : Nat} {c : Value} {f : Addr → Value → Option Addr → TS} {b₀ : Stmt} {bs : List Stmt} {np p : Pos} {hs : List ExceptHandler} {l : List Cl} (hc : Names X x c) (hN : X.N.Nodup) (hi : X.N[i]? = some n)
      (hln : X.env.kindOf n = some .local) (so : SuiteOk X b₀ bs f) (r : ClsOk X hs l) : ClsOk X (.ExceptHandler (some (.Name x np)) (some n) (b₀ :: bs) p :: hs) (⟨c, some i, f⟩ :: l)
section
variable {X : Cx} {body : List Stmt} {h₀ : ExceptHandler} {hds : List ExceptHandler} {l : List Cl} {pos : Pos} {tb : WX → TS} {Wout : WX}
theorem handled (hs : X.stack = X.env :: X.outer) (hf : X.env.frame = some X.env.locals) (tk : Takes X Wout) {pins : List (Addr × Obj)} {D : Ends} {B : Heap} {a : Addr} {S : Value} {d : Option Addr} {τ : L2.St} {G : Hp} {sI s : Shared}
    (J : Inv X pins τ G sI) (nb : ∀ b o, sI.heap.get? b = some o → b ∉ frs X.stack → B.get? b = some o) (up : sI.heap.UpToSlots s.heap) (os : s.os = sI.os) (ag : AllBare s.gens) (na : G a = none)
    (fl : HandSPX.FlyingZ B (X.env :: X.outer) a (Zc S d) s.heap) {hds : List ExceptHandler} {l : List Cl} (k : ClsOk X hds l) :
    wCls X.K Wout D l S d τ G → wpAny (model X.prog X.w) X.A (handleBy (.ref a) X.env hds) (SP X pins D) X.xe s := by
  have ok := J.ok
  -- the exception's object is no frame
  have apart : ∀ {h : Heap} {o : Obj} {us : Array Value}, h.FunFrames B (X.env :: X.outer) → h.get? a = some o → o.data = .fields us → a ≠ X.env.locals ∧ a ∉ X.fs := fun {h o us} ff e dd => by
    have no : a ∉ frs (X.env :: X.outer) := fun hm => by
      obtain ⟨_, o2, e2, bad⟩ := ff.mem hm
      rw [e] at e2
      cases e2
      exact bad _ dd
    refine ⟨fun z => no (List.mem_filterMap.mpr ⟨X.env, List.mem_cons_self, by rw [hf, z]⟩), fun hm => ?_⟩
    obtain ⟨v, hv, q⟩ := List.mem_filterMap.mp hm
    exact no (List.mem_filterMap.mpr ⟨v, List.mem_cons_of_mem _ hv, q⟩)
  have J0 : Inv X pins τ G s := J.landed nb fl.1 up os ag
  obtain ⟨oe, us, he, hz, hd⟩ := fl.there
  have S0 := J0.suite he hd na (apart fl.2.2.1 he hd).1 (apart fl.2.2.1 he hd).2
  have LT : PySem.W.Looks (model X.prog X.w) s.heap (typeOf (.ref a)) S := fun A Q E t u q => wpAny_typeOf_ref (u _ _ he) (by rw [hz.1]; exact q)
  have test : ∀ {x : Str} {np : Pos} {c : Value} {Q E : Value → Shared → Prop}, Names X x c → Q c s → wpAny (model X.prog X.w) (X.A.mark (some (.ref a))) (eval (.Name x np) X.env) Q E s := fun {x np c Q E} nm q => by
    obtain ⟨hg, hdbg, hm | ⟨hm, hv, hnn⟩⟩ := nm
    · exact ld_glob S0 hg hm q hdbg
    · exact ld_blt S0 hg hm hv q hnn hdbg
  induction k with
  | nil =>
    intro wi
    refine wpAny_handleBy_nil ?_
    obtain ⟨_, _, _, ob, ws, tr, otr, t1, e1, e2, e3, e4, e5⟩ := id fl
    unfold PySem.passOn
    refine wpAny_bind (wpAny_field e1 e3 e4 ?_)
    rw [if_neg (by simp : ¬ ((Value.ref tr == Value.none) = true))]
    have out : wpAny (model X.prog X.w) X.A (setFlight (.ref a) X.env.frame) (fun _ t => wpAny (model X.prog X.w) X.A (throw (.ref a) : Sem Flow) (SP X pins D) X.xe t) X.xe s := by
      rw [hf]
      exact HandSPX.setFlight_upZ fl fun g hg ug => wpAny_throw (tk _ _ ⟨a, B, sI, pins, τ, G, S, d, rfl, J, nb, up.trans ug, .inr (.inr (by rw [hs]; exact hg)), na, os, ag, wi⟩)
    first
      | exact wpAny_bind (wpAny_pure (wpAny_bind out))
      | exact wpAny_bind out
  | bare hc so r ih =>
    intro ⟨b, hb, yes, no⟩
    refine wpAny_handleBy_cons (codeAny_handlers_test (test hc ((PySem.W.exm_one (M := model X.prog X.w) J0.kIn LT hb).here ?_))) (by intro q; cases q)
    cases b with
    | true =>
      refine codeAny_handlers_suite (HandSPX.lands_againZ fl fun g fg ug => ?_)
      obtain ⟨o4, u4, e4, z4, d4⟩ := fg.there
      have S4 := (J.landed (s' := { s with heap := g }) nb fg.1 (up.trans ug) os ag).suite e4 d4 na (apart fg.2.2.1 e4 d4).1 (apart fg.2.2.1 e4 d4).2
      refine wpAny_mono ((so a o4 S d (X.pn ++ pins) z4 ⟨_, d4⟩).run [] _ _ G _ S4 (yes rfl a na)) (fun f t ht => ?_) (fun _ _ z => z.elim)
      cases f with
      | ret u => exact ht.elim fun v ⟨τ6, G6, S6, r6, q6⟩ => ⟨v, τ6, G6, S6.unsuite ok, r6, q6⟩
      | next => exact ht.elim fun τ6 ⟨G6, S6, q6⟩ => ⟨τ6, G6, S6.unsuite ok, q6⟩
      | brk => exact ht.elim fun τ6 ⟨G6, S6, q6⟩ => ⟨τ6, G6, S6.unsuite ok, q6⟩
      | cont => exact ht.elim fun τ6 ⟨G6, S6, q6⟩ => ⟨τ6, G6, S6.unsuite ok, q6⟩
    | false => exact ih (no rfl)
  | as hc hN hi hln so r ih =>
    intro ⟨b, hb, yes, no⟩
    refine wpAny_handleBy_cons (codeAny_handlers_test (test hc ((PySem.W.exm_one (M := model X.prog X.w) J0.kIn LT hb).here ?_))) (by intro q; cases q)
    cases b with
    | true =>
      refine codeAny_handlers_suite_as (HandSPX.lands_againZ fl fun g fg ug => ?_)
      obtain ⟨o4, u4, e4, z4, d4⟩ := fg.there
      have S4 := (J.landed (s' := { s with heap := g }) nb fg.1 (up.trans ug) os ag).suite e4 d4 na (apart fg.2.2.1 e4 d4).1 (apart fg.2.2.1 e4 d4).2
      refine store_ok (X := X.suite a _) (v := .ref a) S4 hN hi (.inl hln) rfl (fun s5 S5 => ?_) (.inr hln)
      refine wpAny_mono ((so a o4 S d (X.pn ++ pins) z4 ⟨_, d4⟩).run [] s5 _ G _ S5 (yes rfl a na)) (fun f t ht => ?_) (fun _ _ z => z.elim)
      cases f with
      | ret u => exact ht.elim fun v ⟨τ6, G6, S6, r6, q6⟩ => gone_ok (S6.unsuite ok) hN hi hln fun t7 J7 => ⟨v, _, _, J7, r6, q6⟩
      | next => exact ht.elim fun τ6 ⟨G6, S6, q6⟩ => gone_ok (S6.unsuite ok) hN hi hln fun t7 J7 => ⟨_, _, J7, q6⟩
      | brk => exact ht.elim fun τ6 ⟨G6, S6, q6⟩ => gone_ok (S6.unsuite ok) hN hi hln fun t7 J7 => ⟨_, _, J7, q6⟩
      | cont => exact ht.elim fun τ6 ⟨G6, S6, q6⟩ => gone_ok (S6.unsuite ok) hN hi hln fun t7 J7 => ⟨_, _, J7, q6⟩
    | false => exact ih (no rfl)
theorem ps_try_cls (hs : X.stack = X.env :: X.outer) (hf : X.env.frame = some X.env.locals) (tk : Takes X Wout)
    (hb : ∀ (W : WX) (pn : List (Addr × Obj)) (xe : Value → Shared → Prop), Takes (X.tr pn xe) W → PassesOwn (model X.prog X.w) X.A X.env xe → PSs (X.tr pn xe) body (tb W))
    (k : ClsOk X (h₀ :: hds) l) : PS X (.Try body (h₀ :: hds) [] [] pos) (fun D σ H => tb (wCls X.K Wout D l) D σ H) := by
  refine ⟨fun pins s σ H D I h => wpAny_Try_except ?_⟩
  have ok := I.ok
  refine wpAny_mono ((hb (wCls X.K Wout D l) (X.pn ++ pins) (fun e t1 => wpAny (model X.prog X.w) X.A (noteFrame e X.env) (fun _ t2 => wpAny (model X.prog X.w) X.A (setFlight e none) (fun _ t3 =>
    wpAny (model X.prog X.w) X.A (handleBy e X.env (h₀ :: hds)) (SP X pins D) X.xe t3) X.xe t2) X.xe t1) (fun u t xx => ?_) PassesOwn.looking).run [] s σ H D (I.toTry _) h) (fun f t ht => ?_) (fun e t he => he)
  · obtain ⟨a, B, sI, _, τ, G, S, d, rfl, J, nb, up, sky, na, os, ag, wi⟩ := xx
    refine Sky.land (s := t) Zc.steady (by rw [ok.frames, hs]) hf (by rw [← hs]; exact sky) fun g fg ug => ?_
    exact handled (s := { t with heap := g }) hs hf tk (J.ofTry ok) nb (up.trans ug) os ag na fg k wi
  · cases f with
    | ret u => exact ht.elim fun v ⟨τ, G, J, r, q⟩ => ⟨v, τ, G, J.ofTry ok, r, q⟩
    | next => exact wpAny_execs_nil (ht.elim fun τ ⟨G, J, q⟩ => ⟨τ, G, J.ofTry ok, q⟩)
    | brk => exact ht.elim fun τ ⟨G, J, q⟩ => ⟨τ, G, J.ofTry ok, q⟩
    | cont => exact ht.elim fun τ ⟨G, J, q⟩ => ⟨τ, G, J.ofTry ok, q⟩
end
end Pf

/-! the layer's rules with the written part named: they may stand within a comprehension's block, too -/
namespace Pf
open PySem PySem.Spec PyProof.Rows L2
section
variable {X : Cx} (K : PySem.W.Frag)
theorem ix_listK (e : X.K = K := by rfl) : IxR X (rIxL K) := e ▸ ix_list
theorem ix_tupK (e : X.K = K := by rfl) : IxR X (rIxT K) := e ▸ ix_tup
theorem op_in_seqK (e : X.K = K := by rfl) : OpR X (compareOp .In) (rIn K false) := e ▸ op_in_seq
theorem op_notIn_seqK (e : X.K = K := by rfl) : OpR X (compareOp .NotIn) (rIn K true) := e ▸ op_notIn_seq
theorem op_eqDK (hu : X.A.units + 64 < cLine) (e : X.K = K := by rfl) : OpR X (compareOp .Eq) (rEqD K) := e ▸ op_eqD hu
theorem op_neDK (hu : X.A.units + 64 < cLine) (e : X.K = K := by rfl) : OpR X (compareOp .NotEq) (rNeD K) := e ▸ op_neD hu
def rLen (K : PySem.W.Frag) : List V → Hp → VK → Prop := fun xs H Q => ∃ p ys, xs = [.ref p] ∧ (SqL K H p ys ∨ SqT K H p ys) ∧ Q (.int ys.length) H
theorem call_len_seqK (e : X.K = K := by rfl) : CallR X (.builtin "len") (rLen K) := e ▸ call_len_seq
theorem call_isiK' (e : X.K = K := by rfl) : CallR X (.builtin "isinstance") (rIsi K) := e ▸ call_isi
def rListOf (K : PySem.W.Frag) : List V → Hp → VK → Prop := fun xs H Q => ∃ p ys, xs = [.ref p] ∧ (SqL K H p ys ∨ SqT K H p ys) ∧ ∀ l, H l = none → Q (.ref l) (upd H l (.lst ys))
theorem call_list_ofK (e : X.K = K := by rfl) : CallR X (.type "list") (rListOf K) := e ▸ call_list_of
def rTupF (K : PySem.W.Frag) : List V → Hp → VK → Prop := fun xs H Q => ∃ p ys, xs = [.ref p] ∧ SqL K H p ys ∧ ∀ l o, H l = none → o.dict = none → Q (.ref l) (upd H l (.frz o (.tup ys)))
theorem call_tupleFK (e : X.K = K := by rfl) : CallR X (.type "tuple") (rTupF K) := e ▸ call_tupleF
theorem cr_allK (hc : X.calm = true) (e : X.K = K := by rfl) : CallR X (.builtin "all") (rAll K) := e ▸ cr_all hc
theorem cr_anyK (hc : X.calm = true) (e : X.K = K := by rfl) : CallR X (.builtin "any") (rAny K) := e ▸ cr_any hc
theorem cr_sortedSK (e : X.K = K := by rfl) : CallR X (.builtin "sorted") (rSortedS K) := e ▸ cr_sortedS
theorem cr_sortedGK {β : Type} {enc : β → PyData} (hu : X.A.units + 64 < cLine) (e : X.K = K := by rfl) : CallR X (.builtin "sorted") (rSortedG K enc) := e ▸ cr_sortedG hu
theorem pi_listK {tg l : Expr} {tl : TE} (hl : PE X l tl) (e : X.K = K := by rfl) : PI X tg l (iList K tl) := e ▸ pi_list hl
theorem pi_tupK {tg l : Expr} {tl : TE} (hl : PE X l tl) (e : X.K = K := by rfl) : PI X tg l (iTup K tl) := e ▸ pi_tup hl
theorem pi_reversedK {tg a : Expr} {p pos : Pos} {ta : TA} (hg : Gl X "reversed") (hm : X.mg "reversed" = none) (ha : PA X [a] ta) (e : X.K = K := by rfl)
    (hs : starEach [a] X.env = [(false, eval a X.env)] := by rfl) : PI X tg (.Call (.Name "reversed" p) [a] [] pos) (iRev K ta) := e ▸ pi_reversed hg hm ha hs
theorem pg_tupK {es : List Expr} {k n : Nat} {pos : Pos} {t : TGs} (hc : X.calm = true) (h : PGs X es t) (e : X.K = K := by rfl)
    (hn : (assignEach es X.env).length = n := by rfl) (hst : (assignEach es X.env).findIdx? (·.1) = none := by rfl) : PG X (.Tuple es k pos) (gTup K n t) := e ▸ pg_tup hc h hn hst
theorem pe_bmK {o e1 : Expr} {es : List Expr} {name : Str} {apos cpos : Pos} {T id : String} {r : V → List V → Hp → VK → Prop} {to : TE} {t : TA} (pa : PlainAttrs T) (slot : Slot T name id) (hty : typeOf (.builtin id) = pure (.type "method_descriptor")) (hm : MtR X id r) (ho : PE X o to) (ha : PA X (e1 :: es) t) (e : X.K = K := by rfl)
    (hbase : attributeBase o name X.env (eval o X.env) = eval o X.env := by rfl)
    (hfew : ((backTo cpos (starEach (e1 :: es) X.env)).all (fun x => !x.1) && (backToKw cpos (keywordEach [] X.env)).all (fun x => x.1.isSome)
      && decide ((e1 :: es).length + ([] : List Keyword).length + (if ([] : List Keyword).isEmpty then 0 else 1) < 30)) = true := by rfl)
    (hline : (apos.endLine == cpos.line) = true := by rfl) (hs : starEach (e1 :: es) X.env = (false, eval e1 X.env) :: starEach es X.env := by rfl) (hplain : (backTo cpos (starEach es X.env)).any (·.1) = false := by rfl) :
    PE X (.Call (.Attribute o name apos) (e1 :: es) [] cpos) (tBM K T r to t) := e ▸ pe_bm pa slot hty hm ho ha hbase hfew hline hs hplain
theorem pe_bm0K {o : Expr} {name : Str} {apos cpos : Pos} {T id : String} {r : V → List V → Hp → VK → Prop} {to : TE} (pa : PlainAttrs T) (slot : Slot T name id) (hty : typeOf (.builtin id) = pure (.type "method_descriptor")) (hm : MtR X id r) (ho : PE X o to) (e : X.K = K := by rfl)
    (hbase : attributeBase o name X.env (eval o X.env) = eval o X.env := by rfl) (hline : (apos.endLine == cpos.line) = true := by rfl) : PE X (.Call (.Attribute o name apos) [] [] cpos) (tBM0 K T r to) := e ▸ pe_bm0 pa slot hty hm ho hbase hline
theorem sl_listK (e : X.K = K := by rfl) : SlR X (rSlL K) := e ▸ sl_list
def rDictT (K : PySem.W.Frag) : List V → Hp → VK → Prop := fun xs H Q => ∃ (a : Addr) (o : Obj) (ps : List Addr) (kvs : List (Key × V)), xs = [.ref a] ∧ H a = some (.frz o (.tup (ps.map V.ref))) ∧ o.dict = none ∧ Paired (fun p kv => SqT K H p [kV kv.1, kv.2]) ps kvs ∧
    ∀ p, H p = none → Q (.ref p) (upd H p (.dK (mergeK [] kvs)))
theorem call_dictTK (hc : X.calm = true) (e : X.K = K := by rfl) : CallR X (.type "dict") (rDictT K) := e ▸ call_dictT hc
end
end Pf

/-! Stepping lemmas for the layer's readings: each peels one construct off; the word «rd» peels on while nothing is to be answered. -/
namespace Pf
open PySem PySem.Spec PyProof.Rows L2
section
variable {σ : L2.St} {H : Hp} {D : Ends} {Q : VK} {K : PySem.W.Frag}
theorem r_seq {t u : TS} (h : t { D with nx := u D } σ H) : tSeq t u D σ H := h
theorem r_next (h : D.nx σ H) : tNext D σ H := h
theorem r_asg {te : TE} {g : TG} (h : te σ H fun x H1 => g x σ H1 D.nx) : tAsg te g D σ H := h
theorem r_name {i : Nat} {v : V} {R : L2.St → Hp → Prop} (h : R (σ.set i (some v)) H) : gName i v σ H R := h
theorem r_ret {te : TE} (h : te σ H D.rt) : tRet te D σ H := h
theorem r_retN (h : D.rt .non H) : tRetN D σ H := h
theorem r_drop {te : TE} (h : te σ H fun _ H1 => D.nx σ H1) : tDrop te D σ H := h
theorem r_if {c : TT} {t u : TS} (h : c σ H fun b H1 => if b = true then t D σ H1 else u D σ H1) : tIfS c t u D σ H := h
theorem r_test {t : TE} {R : Bool → Hp → Prop} (h : t σ H fun x H' => ∃ k, x = .bl k ∧ R k H') : tTest t σ H R := h
theorem r_tB {t : TE} {R : Bool → Hp → Prop} (h : t σ H fun x H' => ∃ k, x = .bl k ∧ R k H') : tB t σ H R := h
theorem r_bl {b : Bool} {R : Bool → Prop} (h : R b) : ∃ k, V.bl b = .bl k ∧ R k := ⟨b, rfl, h⟩
theorem r_not {t : TT} {R : Bool → Hp → Prop} (h : t σ H fun c H1 => R (!c) H1) : tNot t σ H R := h
theorem r_and {t u : TT} {R : Bool → Hp → Prop} (h : t σ H fun c H1 => if c = true then u σ H1 R else R false H1) : tAnd t u σ H R := h
theorem r_or {t u : TT} {R : Bool → Hp → Prop} (h : t σ H fun c H1 => if c = true then R true H1 else u σ H1 R) : tOr t u σ H R := h
theorem r_andV {t u : TE} (h : t σ H fun x H1 => ∃ c, x = .bl c ∧ if c = true then u σ H1 Q else Q (.bl false) H1) : tAndV t u σ H Q := h
theorem r_orV {t u : TE} (h : t σ H fun x H1 => ∃ c, x = .bl c ∧ if c = true then Q (.bl true) H1 else u σ H1 Q) : tOrV t u σ H Q := h
theorem r_notV {t : TE} (h : t σ H fun x H1 => ∃ c, x = .bl c ∧ Q (.bl (!c)) H1) : tNotV t σ H Q := h
theorem r_ifE {c : TT} {t u : TE} (h : c σ H fun b H1 => if b = true then t σ H1 Q else u σ H1 Q) : tIf c t u σ H Q := h
theorem r_yes {H : Hp} {R : Bool → Hp → Prop} (h : R true H) : tYes σ H R := h
theorem r_var {i : Nat} {v : V} (e : σ[i]? = some (some v)) (h : Q v H) : tVar i σ H Q := ⟨v, e, h⟩
theorem r_c {v : V} (h : Q v H) : tC v σ H Q := h
theorem r_op {r : R2} {ta tb : TE} (h : ta σ H fun x H1 => tb σ H1 fun y H2 => r x y H2 Q) : tOp r ta tb σ H Q := h
theorem r_un {r : V → Hp → VK → Prop} {ta : TE} (h : ta σ H fun x H1 => r x H1 Q) : tUn r ta σ H Q := h
theorem r_I0 {g : Int → Int → V} {i j : Int} (h : Q (g i j) H) : rI0 g (.int i) (.int j) H Q := ⟨i, j, rfl, rfl, h⟩
theorem r_I {C : Int → Int → Prop} {g : Int → Int → V} {i j : Int} (c : C i j) (h : Q (g i j) H) : rI C g (.int i) (.int j) H Q := ⟨i, j, rfl, rfl, c, h⟩
theorem r_U {g : Int → V} {i : Int} (h : Q (g i) H) : rU g (.int i) H Q := ⟨i, rfl, h⟩
theorem dec_int {i j : Int} : decide (V.int i = V.int j) = decide (i = j) := by simp
theorem dec_str {i j : Str} : decide (V.str i = V.str j) = decide (i = j) := by simp
theorem r_eqI {i j : Int} (h : Q (.bl (decide (i = j))) H) : rEq (.int i) (.int j) H Q := ⟨rfl, by rw [dec_int]; exact h⟩
theorem r_eqS {i j : Str} (h : Q (.bl (decide (i = j))) H) : rEq (.str i) (.str j) H Q := ⟨rfl, by rw [dec_str]; exact h⟩
theorem r_neI {i j : Int} (h : Q (.bl (!decide (i = j))) H) : rNe (.int i) (.int j) H Q := ⟨rfl, by rw [dec_int]; exact h⟩
theorem r_neS {i j : Str} (h : Q (.bl (!decide (i = j))) H) : rNe (.str i) (.str j) H Q := ⟨rfl, by rw [dec_str]; exact h⟩
theorem r_addS {i j : Str} (z : i.length + j.length ≤ sizeLine) (h : Q (.str (i ++ j)) H) : (∃ i' j', V.str i = .str i' ∧ V.str j = .str j' ∧ i'.length + j'.length ≤ sizeLine ∧ Q (.str (i' ++ j')) H) := ⟨i, j, rfl, rfl, z, h⟩
theorem r_ixL {p : Addr} {xs : List V} {i : Int} {v : V} (s : SqL K H p xs) (e : atI xs i = some v) (h : Q v H) : rIxL K (.ref p) (.int i) H Q := ⟨p, xs, i, v, rfl, rfl, s, e, h⟩
theorem r_ixT {p : Addr} {xs : List V} {i : Int} {v : V} (s : SqT K H p xs) (e : atI xs i = some v) (h : Q v H) : rIxT K (.ref p) (.int i) H Q := ⟨p, xs, i, v, rfl, rfl, s, e, h⟩
theorem r_ixS {z : Str} {i : Int} {c : Nat} (s : z.length ≤ sizeLine) (e : atI z.cps.toList i = some c) (h : Q (.str ⟨#[c]⟩) H) : rIxS (.str z) (.int i) H Q := ⟨z, i, c, rfl, rfl, s, e, h⟩
theorem r_nil {R : List V → Hp → Prop} (h : R [] H) : tNil σ H R := h
theorem r_cons {ta : TE} {t : TA} {R : List V → Hp → Prop} (h : ta σ H fun x H1 => t σ H1 fun xs H2 => R (x :: xs) H2) : tCons ta t σ H R := h
theorem r_cb {r : List V → Hp → VK → Prop} {t : TA} (h : t σ H fun vs H1 => r vs H1 Q) : tCB r t σ H Q := h
theorem r_call {sp : Sp} {dvs : List V} {E : XK} {t : TA} (h : t σ H fun vs H1 => sp (vs ++ dvs) H1 Q E) : tCall sp dvs E t σ H Q := h
theorem r_lst {t : TA} (h : t σ H fun xs H1 => xs.length ≤ sizeLine ∧ ∀ p, H1 p = none → Q (.ref p) (upd H1 p (.lst xs))) : tLst t σ H Q := h
theorem r_tup {t : TA} (h : t σ H fun xs H1 => xs.length ≤ sizeLine ∧ ∀ p, H1 p = none → Q (.ref p) (upd H1 p (.tup xs))) : tTup t σ H Q := h
theorem r_bm {T : String} {r : V → List V → Hp → VK → Prop} {to : TE} {t : TA} (h : to σ H fun x H1 => tyV K T x H1 ∧ t σ H1 fun xs H2 => r x xs H2 Q) : tBM K T r to t σ H Q := h
theorem r_bm0 {T : String} {r : V → List V → Hp → VK → Prop} {to : TE} (h : to σ H fun x H1 => tyV K T x H1 ∧ r x [] H1 Q) : tBM0 K T r to σ H Q := h
theorem r_sl {r : V → Option Int → Option Int → Hp → VK → Prop} {te : TE} {tl th : TO} (h : te σ H fun x H1 => tl σ H1 fun l H2 => th σ H2 fun u H3 => r x l u H3 Q) : L2.tSl r te tl th σ H Q := h
theorem r_sub {to ti : TE} {t : TSet} {v : V} {R : L2.St → Hp → Prop} (h : to σ H fun o H1 => ti σ H1 fun i H2 => t o i v H2 fun H3 => R σ H3) : gSub to ti t v σ H R := h
theorem r_setL {p : Addr} {xs : List V} {k : Int} {j : Nat} {v : V} {R : Hp → Prop} (s : H p = some (.lst xs)) (e : ixN xs.length k = some j) (h : R (upd H p (.lst (xs.set j v)))) : rSetL (.ref p) (.int k) v H R := ⟨p, xs, k, j, rfl, rfl, s, e, h⟩
theorem r_gtup {n : Nat} {t : TGs} {a : Addr} {xs : List V} {R : L2.St → Hp → Prop} (s : SqT K H a xs) (l : xs.length = n) (h : t xs σ H R) : gTup K n t (.ref a) σ H R := ⟨a, xs, rfl, s, l, h⟩
theorem r_gcons {t : TG} {u : TGs} {v : V} {r : List V} {R : L2.St → Hp → Prop} (h : t v σ H fun σ' H' => u r σ' H' R) : gCons t u (v :: r) σ H R := ⟨v, r, rfl, h⟩
theorem r_gnil {R : L2.St → Hp → Prop} (h : R σ H) : gNil [] σ H R := ⟨rfl, h⟩
theorem r_len {p : Addr} {xs : List V} (s : SqL K H p xs) (h : Q (.int xs.length) H) : ∃ q ys, [V.ref p] = [.ref q] ∧ (SqL K H q ys ∨ SqT K H q ys) ∧ Q (.int ys.length) H := ⟨p, xs, rfl, .inl s, h⟩
theorem r_lenT {p : Addr} {xs : List V} (s : SqT K H p xs) (h : Q (.int xs.length) H) : ∃ q ys, [V.ref p] = [.ref q] ∧ (SqL K H q ys ∨ SqT K H q ys) ∧ Q (.int ys.length) H := ⟨p, xs, rfl, .inr s, h⟩
theorem r_lenS {z : Str} (s : z.length ≤ sizeLine) (h : Q (.int z.length) H) : ∃ y : Str, [V.str z] = [.str y] ∧ y.length ≤ sizeLine ∧ Q (.int y.length) H := ⟨z, rfl, s, h⟩
theorem r_inS {c : Nat} {z : Str} (h : Q (.bl (decide (c ∈ z.cps.toList))) H) : ∃ (c' : Nat) (z' : Str), V.str ⟨#[c]⟩ = .str ⟨#[c']⟩ ∧ V.str z = .str z' ∧ Q (.bl (decide (c' ∈ z'.cps.toList))) H := ⟨c, z, rfl, rfl, h⟩
theorem r_bI {k : Bool} (h : Q (.int (if k then 1 else 0)) H) : (∃ i, [V.bl k] = [.int i] ∧ Q (.int i) H) ∨ ∃ b, [V.bl k] = [.bl b] ∧ Q (.int (if b then 1 else 0)) H := .inr ⟨k, rfl, h⟩
theorem r_abs {i : Int} (h : Q (.int (if i < 0 then -i else i)) H) : ∃ j, [V.int i] = [.int j] ∧ Q (.int (if j < 0 then -j else j)) H := ⟨i, rfl, h⟩
theorem r_str {i : Int} (z : i.natAbs.log2 < 1920) (h : Q (.str (toString i)) H) : ∃ j : Int, [V.int i] = [.int j] ∧ j.natAbs.log2 < 1920 ∧ Q (.str (toString j)) H := ⟨i, rfl, z, h⟩
theorem r_chain {r r' : R2} {ta tb tc : TE} (h : ta σ H fun x H1 => tb σ H1 fun y H2 => r x y H2 fun z H3 => ∃ k, z = .bl k ∧ (if k = true then tc σ H3 fun w' H4 => r' y w' H4 Q else Q (.bl false) H3)) : tChain r r' ta tb tc σ H Q := h
theorem r_get2 {td ty tx : TE} (h : td σ H fun x H1 => ∃ a, x = .ref a ∧ IsD H1 a ∧ ty σ H1 fun y H2 => tx σ H2 fun z H3 => ∃ o, DGet H3 a y o ∧ Q (o.getD z) H3) : tDGet2 td ty tx σ H Q := h
theorem r_iList {tl : TE} {R : It → Hp → Prop} (h : tl σ H fun x H1 => ∃ a, x = .ref a ∧ (∃ xs, SqL K H1 a xs) ∧ R (Itl K a) H1) : iList K tl σ H R := h
theorem r_iL {a : Addr} {xs : List V} {R : It → Hp → Prop} (s : SqL K H a xs) (h : R (Itl K a) H) : ∃ b, V.ref a = .ref b ∧ (∃ xs, SqL K H b xs) ∧ R (Itl K b) H := ⟨a, rfl, ⟨xs, s⟩, h⟩
theorem r_iT {a : Addr} {xs : List V} {R : It → Hp → Prop} (s : SqT K H a xs) (h : R (Itt K a) H) : ∃ b, V.ref a = .ref b ∧ (∃ xs, SqT K H b xs) ∧ R (Itt K b) H := ⟨a, rfl, ⟨xs, s⟩, h⟩
theorem r_rng {ta : TA} {R : It → Hp → Prop} (h : ta σ H fun vs H1 => ∃ j : Int, vs = [.int j] ∧ -(2 ^ 62) ≤ j ∧ j < 2 ^ 62 ∧ R (Itr 0 j.toNat) H1) : iRng1 ta σ H R := h
theorem r_rn {j : Int} {R : It → Hp → Prop} (a : 0 ≤ j) (b : j < 2 ^ 62) (h : R (Itr 0 j.toNat) H) : ∃ i : Int, [V.int j] = [.int i] ∧ -(2 ^ 62) ≤ i ∧ i < 2 ^ 62 ∧ R (Itr 0 i.toNat) H := ⟨j, rfl, by omega, b, h⟩
theorem r_app {R : List V → Prop} {vs : List V} (h : R vs) : R (vs ++ []) := by
  rw [List.append_nil]; exact h
/-- a test that is not decided: both ways -/
theorem r_dec {p A B : Prop} [Decidable p] (h1 : p → A) (h2 : ¬ p → B) : if decide p = true then A else B := by
  by_cases h : p
  · rw [decide_eq_true h, if_pos rfl]; exact h1 h
  · rw [decide_eq_false h, if_neg Bool.false_ne_true]; exact h2 h
theorem r_ndec {p A B : Prop} [Decidable p] (h1 : ¬ p → A) (h2 : p → B) : if (!decide p) = true then A else B := by
  by_cases h : p
  · rw [decide_eq_true h]; exact iteF (h2 h)
  · rw [decide_eq_false h]; exact iteT (h1 h)
theorem r_both {b : Bool} {A B : Prop} (h1 : b = true → A) (h2 : b = false → B) : if b = true then A else B := by
  cases b with
  | true => exact iteT (h1 rfl)
  | false => exact iteF (h2 rfl)
/-! ### loops, whose ends may be written out -/
theorem forN_range {lo : Int} {n : Nat} {g : TG} {tb : (L2.St → Hp → Prop) → L2.St → Hp → Prop} {Nx : L2.St → Hp → Prop} {σ : L2.St} {H : Hp} (Pv : Nat → L2.St → Hp → Prop) (h0 : Pv 0 σ H)
    (hs : ∀ i σ H, i < n → Pv i σ H → g (.int (lo + i)) σ H fun σ2 H2 => tb (Pv (i + 1)) σ2 H2) (hd : ∀ σ H, Pv n σ H → Nx σ H) :
    ∃ W : Nat → Nat → L2.St → Hp → Prop, (∃ m, W 0 m σ H) ∧ ∀ i m σ H, W i m σ H →
      ((Itr lo n).stop i H ∧ Nx σ H) ∨ ((Itr lo n).go i H ∧ ∃ N : L2.St → Hp → Prop, (∀ σ' H', N σ' H' → ∃ m', m' < m ∧ W (i + 1) m' σ' H') ∧ ∀ x H', (Itr lo n).yld i H x H' → g x σ H' fun σ2 H2 => tb N σ2 H2) :=
  for_range (tb := fun D => tb D.nx) (D := { nx := Nx, rt := fun _ _ => True }) Pv h0 hs hd
theorem forN_list {K : PySem.W.Frag} {a : Addr} {xs : List V} {g : TG} {tb : (L2.St → Hp → Prop) → L2.St → Hp → Prop} {Nx : L2.St → Hp → Prop} {σ : L2.St} {H : Hp} (Pv : Nat → L2.St → Hp → Prop) (h0 : Pv 0 σ H) (hl : ∀ i σ H, i ≤ xs.length → Pv i σ H → SqL K H a xs)
    (hs : ∀ i x σ H, xs[i]? = some x → Pv i σ H → g x σ H fun σ2 H2 => tb (Pv (i + 1)) σ2 H2) (hd : ∀ σ H, Pv xs.length σ H → Nx σ H) :
    ∃ W : Nat → Nat → L2.St → Hp → Prop, (∃ m, W 0 m σ H) ∧ ∀ i m σ H, W i m σ H →
      ((Itl K a).stop i H ∧ Nx σ H) ∨ ((Itl K a).go i H ∧ ∃ N : L2.St → Hp → Prop, (∀ σ' H', N σ' H' → ∃ m', m' < m ∧ W (i + 1) m' σ' H') ∧ ∀ x H', (Itl K a).yld i H x H' → g x σ H' fun σ2 H2 => tb N σ2 H2) :=
  for_list (tb := fun D => tb D.nx) (D := { nx := Nx, rt := fun _ _ => True }) Pv h0 hl hs hd
theorem forN_tup {K : PySem.W.Frag} {a : Addr} {xs : List V} {g : TG} {tb : (L2.St → Hp → Prop) → L2.St → Hp → Prop} {Nx : L2.St → Hp → Prop} {σ : L2.St} {H : Hp} (Pv : Nat → L2.St → Hp → Prop) (h0 : Pv 0 σ H) (hl : ∀ i σ H, i ≤ xs.length → Pv i σ H → SqT K H a xs)
    (hs : ∀ i x σ H, xs[i]? = some x → Pv i σ H → g x σ H fun σ2 H2 => tb (Pv (i + 1)) σ2 H2) (hd : ∀ σ H, Pv xs.length σ H → Nx σ H) :
    ∃ W : Nat → Nat → L2.St → Hp → Prop, (∃ m, W 0 m σ H) ∧ ∀ i m σ H, W i m σ H →
      ((Itt K a).stop i H ∧ Nx σ H) ∨ ((Itt K a).go i H ∧ ∃ N : L2.St → Hp → Prop, (∀ σ' H', N σ' H' → ∃ m', m' < m ∧ W (i + 1) m' σ' H') ∧ ∀ x H', (Itt K a).yld i H x H' → g x σ H' fun σ2 H2 => tb N σ2 H2) :=
  for_tup (tb := fun D => tb D.nx) (D := { nx := Nx, rt := fun _ _ => True }) Pv h0 hl hs hd
theorem cmul_l {i j : Int} (h : -(2 ^ 64) < i ∧ i < 2 ^ 64) : CMul i j := .inl h
theorem cmul_r {i j : Int} (h : -(2 ^ 64) < j ∧ j < 2 ^ 64) : CMul i j := .inr h
/-- len -/
theorem r_lenK {H : Hp} {Q : VK} {K : PySem.W.Frag} {p : Addr} {xs : List V} (s : SqL K H p xs) (h : Q (.int xs.length) H) : rLen K [.ref p] H Q := ⟨p, xs, rfl, .inl s, h⟩
theorem r_lenTK {H : Hp} {Q : VK} {K : PySem.W.Frag} {p : Addr} {xs : List V} (s : SqT K H p xs) (h : Q (.int xs.length) H) : rLen K [.ref p] H Q := ⟨p, xs, rfl, .inr s, h⟩
theorem r_in {H : Hp} {Q : VK} {K : PySem.W.Frag} {x : V} {p : Addr} {xs : List V} (s : SqL K H p xs) (fx : flatV x = true) (fa : xs.all flatV = true) (h : Q (.bl (inV x xs)) H) : rIn K false x (.ref p) H Q := ⟨p, xs, rfl, .inl s, fx, fa, h⟩
theorem r_notIn {H : Hp} {Q : VK} {K : PySem.W.Frag} {x : V} {p : Addr} {xs : List V} (s : SqL K H p xs) (fx : flatV x = true) (fa : xs.all flatV = true) (h : Q (.bl (!inV x xs)) H) : rIn K true x (.ref p) H Q := ⟨p, xs, rfl, .inl s, fx, fa, h⟩
theorem r_neD {H : Hp} {Q : VK} {K : PySem.W.Frag} {x y : V} {d e : PyData} (a : Dp K H x d) (b : Dp K H y e) (sa : SeqAt.shaped d = true) (sb : SeqAt.shaped e = true) (h : Q (.bl (!PyData.eqv d e)) H) : rNeD K x y H Q := ⟨d, e, a, b, sa, sb, h⟩
theorem r_eqD {H : Hp} {Q : VK} {K : PySem.W.Frag} {x y : V} {d e : PyData} (a : Dp K H x d) (b : Dp K H y e) (sa : SeqAt.shaped d = true) (sb : SeqAt.shaped e = true) (h : Q (.bl (PyData.eqv d e)) H) : rEqD K x y H Q := ⟨d, e, a, b, sa, sb, h⟩
theorem r_all {H : Hp} {Q : VK} {K : PySem.W.Frag} {p : Addr} {bs : List Bool} (s : SqL K H p (bs.map V.bl)) (h : Q (.bl (bs.all id)) H) : rAll K [.ref p] H Q := ⟨p, bs, rfl, s, h⟩
theorem r_listL {H : Hp} {Q : VK} {K : PySem.W.Frag} {p : Addr} {xs : List V} (s : SqL K H p xs) (h : ∀ l, H l = none → Q (.ref l) (upd H l (.lst xs))) : rListOf K [.ref p] H Q := ⟨p, xs, rfl, .inl s, h⟩
theorem r_listT {H : Hp} {Q : VK} {K : PySem.W.Frag} {p : Addr} {xs : List V} (s : SqT K H p xs) (h : ∀ l, H l = none → Q (.ref l) (upd H l (.lst xs))) : rListOf K [.ref p] H Q := ⟨p, xs, rfl, .inr s, h⟩
theorem r_tupF {H : Hp} {Q : VK} {K : PySem.W.Frag} {p : Addr} {xs : List V} (s : SqL K H p xs) (h : ∀ l o, H l = none → o.dict = none → Q (.ref l) (upd H l (.frz o (.tup xs)))) : rTupF K [.ref p] H Q := ⟨p, xs, rfl, s, h⟩
theorem r_isi {H : Hp} {Q : VK} {K : PySem.W.Frag} {x : V} {n : String} {t : Value} {b : Bool} (ty : TyX K H x t) (e : PySem.W.kitOne K t (.type n) = some b) (h : Q (.bl b) H) : rIsi K [x, .ty n] H Q := ⟨x, .ty n, t, .type n, b, rfl, .ty n, ty, e, h⟩
/-! ### comprehensions: what holds between two turns -/
/-- the heap knows what stood; the new list at D holds acc, of which Rl is true -/
def LcI (H1 : Hp) (D : Addr) (Rl : Nat → List V → Hp → Prop) (i : Nat) (H : Hp) : Prop := Same H1 H ∧ ∃ acc, H D = some (.lst acc) ∧ acc.length ≤ i ∧ Rl i acc H
theorem LcI.zero {H1 : Hp} {D : Addr} {Rl : Nat → List V → Hp → Prop} (n : H1 D = none) (r : Rl 0 [] (upd H1 D (.lst []))) : LcI H1 D Rl 0 (upd H1 D (.lst [])) := ⟨same_new n, [], upd_same, Nat.le_refl _, r⟩
theorem LcI.keep {H1 H H4 : Hp} {D : Addr} {Rl : Nat → List V → Hp → Prop} {i : Nat} {acc : List V} {y : V} (n : H1 D = none) (s : Same H1 H) (hD : H D = some (.lst acc)) (hl : acc.length ≤ i) (hi : i < 1000) (s4 : Same H H4) (r : Rl (i + 1) (acc ++ [y]) (upd H4 D (.lst (acc ++ [y])))) :
    ∃ acc, H4 D = some (.lst acc) ∧ acc.length < sizeLine ∧ LcI H1 D Rl (i + 1) (upd H4 D (.lst (acc ++ [y]))) :=
  ⟨acc, s4 _ _ hD, small1000 (by omega), Pf.Same.mut (s.trans s4) n, acc ++ [y], upd_same, by rw [List.length_append]; exact Nat.succ_le_succ hl, r⟩
theorem LcI.skip {H1 H H4 : Hp} {D : Addr} {Rl : Nat → List V → Hp → Prop} {i : Nat} {acc : List V} (s : Same H1 H) (hD : H D = some (.lst acc)) (hl : acc.length ≤ i) (s4 : Same H H4) (r : Rl (i + 1) acc H4) : LcI H1 D Rl (i + 1) H4 :=
  ⟨s.trans s4, acc, s4 _ _ hD, Nat.le_succ_of_le hl, r⟩
theorem tups_mut {H : Hp} {D : Addr} {acc bcc : List V} (h : H D = some (.lst acc)) : Tups H (upd H D (.lst bcc)) := Tups.but (a := D) (fun b o n e => by rw [upd_ne n]; exact e) h
theorem take_snoc {α : Type} {l : List α} {i : Nat} {x : α} (h : l[i]? = some x) : l.take (i + 1) = l.take i ++ [x] := by
  rw [List.take_add_one, h]; rfl
theorem iteNT {A B : Prop} (h : B) : if (!true) = true then A else B := h
theorem iteNF {A B : Prop} (h : A) : if (!false) = true then A else B := h
/-! ### walks of any kind, n turns -/
theorem lcN {J : It} {n : Nat} {g : TG} {tt : TT} {te : TE} {vs : List Nat} {σ : L2.St} {H1 : Hp} {D : Addr} {Qd : Hp → Prop} (Pv : Nat → Hp → Prop) (h0 : Pv 0 (upd H1 D (.lst []))) (go : ∀ i H, i < n → Pv i H → J.go i H) (st : ∀ H, Pv n H → J.stop n H)
    (hs : ∀ i x H H', i < n → Pv i H → J.yld i H x H' → g x (wipe σ vs) H' fun σ2 H2 => wipe σ2 vs = wipe σ vs ∧ tt σ2 H2 fun b H3 =>
      if b = true then te σ2 H3 fun y H4 => ∃ acc, H4 D = some (.lst acc) ∧ acc.length < sizeLine ∧ Pv (i + 1) (upd H4 D (.lst (acc ++ [y]))) else Pv (i + 1) H3) (hd : ∀ H, Pv n H → Qd H) :
    ∃ W : Nat → Nat → Hp → Prop, (∃ m, W 0 m (upd H1 D (.lst []))) ∧ ∀ i m H, W i m H →
      (J.stop i H ∧ Qd H) ∨ (J.go i H ∧ ∃ Nx : Hp → Prop, (∀ H', Nx H' → ∃ m', m' < m ∧ W (i + 1) m' H') ∧ ∀ x H', J.yld i H x H' → g x (wipe σ vs) H' fun σ2 H2 => wipe σ2 vs = wipe σ vs ∧ tt σ2 H2 fun b H3 =>
        if b = true then te σ2 H3 fun y H4 => ∃ acc, H4 D = some (.lst acc) ∧ acc.length < sizeLine ∧ Nx (upd H4 D (.lst (acc ++ [y]))) else Nx H3) := by
  refine ⟨fun i m H => m = n - i ∧ i ≤ n ∧ Pv i H, ⟨n, by simp, Nat.zero_le _, h0⟩, ?_⟩
  rintro i m H ⟨rfl, hi, p⟩
  by_cases hlt : i < n
  · exact .inr ⟨go i H hlt p, Pv (i + 1), fun H' p' => ⟨n - (i + 1), by omega, rfl, hlt, p'⟩, fun x H' y => hs i x H H' hlt p y⟩
  · have e : i = n := by omega
    subst e
    exact .inl ⟨st H p, hd H p⟩
theorem forN {J : It} {n : Nat} {g : TG} {tb : (L2.St → Hp → Prop) → L2.St → Hp → Prop} {Nx : L2.St → Hp → Prop} {σ : L2.St} {H : Hp} (Pv : Nat → L2.St → Hp → Prop) (h0 : Pv 0 σ H) (go : ∀ i σ H, i < n → Pv i σ H → J.go i H) (st : ∀ σ H, Pv n σ H → J.stop n H)
    (hs : ∀ i x σ H H', i < n → Pv i σ H → J.yld i H x H' → g x σ H' fun σ2 H2 => tb (Pv (i + 1)) σ2 H2) (hd : ∀ σ H, Pv n σ H → Nx σ H) :
    ∃ W : Nat → Nat → L2.St → Hp → Prop, (∃ m, W 0 m σ H) ∧ ∀ i m σ H, W i m σ H →
      (J.stop i H ∧ Nx σ H) ∨ (J.go i H ∧ ∃ N : L2.St → Hp → Prop, (∀ σ' H', N σ' H' → ∃ m', m' < m ∧ W (i + 1) m' σ' H') ∧ ∀ x H', J.yld i H x H' → g x σ H' fun σ2 H2 => tb N σ2 H2) := by
  refine ⟨fun i m σ H => m = n - i ∧ i ≤ n ∧ Pv i σ H, ⟨n, by simp, Nat.zero_le _, h0⟩, ?_⟩
  rintro i m σ H ⟨rfl, hi, p⟩
  by_cases hlt : i < n
  · exact .inr ⟨go i σ H hlt p, Pv (i + 1), fun σ' H' p' => ⟨n - (i + 1), by omega, rfl, hlt, p'⟩, fun x H' y => hs i x σ H H' hlt p y⟩
  · have e : i = n := by omega
    subst e
    exact .inl ⟨st σ H p, hd σ H p⟩
theorem lcN_str {x : Str} {g : TG} {tt : TT} {te : TE} {vs : List Nat} {σ : L2.St} {H1 : Hp} {D : Addr} {Qd : Hp → Prop} (Pv : Nat → Hp → Prop) (h0 : Pv 0 (upd H1 D (.lst [])))
    (hs : ∀ i c H, x.cps.toList[i]? = some c → Pv i H → g (.str ⟨#[c]⟩) (wipe σ vs) H fun σ2 H2 => wipe σ2 vs = wipe σ vs ∧ tt σ2 H2 fun b H3 =>
      if b = true then te σ2 H3 fun y H4 => ∃ acc, H4 D = some (.lst acc) ∧ acc.length < sizeLine ∧ Pv (i + 1) (upd H4 D (.lst (acc ++ [y]))) else Pv (i + 1) H3) (hd : ∀ H, Pv x.cps.toList.length H → Qd H) :
    ∃ W : Nat → Nat → Hp → Prop, (∃ m, W 0 m (upd H1 D (.lst []))) ∧ ∀ i m H, W i m H →
      ((Its x).stop i H ∧ Qd H) ∨ ((Its x).go i H ∧ ∃ Nx : Hp → Prop, (∀ H', Nx H' → ∃ m', m' < m ∧ W (i + 1) m' H') ∧ ∀ x' H', (Its x).yld i H x' H' → g x' (wipe σ vs) H' fun σ2 H2 => wipe σ2 vs = wipe σ vs ∧ tt σ2 H2 fun b H3 =>
        if b = true then te σ2 H3 fun y H4 => ∃ acc, H4 D = some (.lst acc) ∧ acc.length < sizeLine ∧ Nx (upd H4 D (.lst (acc ++ [y]))) else Nx H3) :=
  lcN (J := Its x) (n := x.cps.toList.length) Pv h0 (fun i H hi _ => hi) (fun H _ => Nat.le_refl _) (fun i y H H' hi p yl => by
    obtain ⟨rfl, c, hc, rfl⟩ := yl
    exact hs i c _ (by rw [Array.getElem?_toList]; exact hc) p) hd
theorem r_iStr {σ : L2.St} {H : Hp} {te : TE} {R : It → Hp → Prop} (h : te σ H fun v H1 => ∃ x, v = .str x ∧ R (Its x) H1) : iStr te σ H R := h
theorem r_iTup {σ : L2.St} {H : Hp} {K : PySem.W.Frag} {tl : TE} {R : It → Hp → Prop} (h : tl σ H fun x H1 => ∃ a, x = .ref a ∧ (∃ xs, SqT K H1 a xs) ∧ R (Itt K a) H1) : iTup K tl σ H R := h
theorem r_iRev {σ : L2.St} {H : Hp} {K : PySem.W.Frag} {ta : TA} {R : It → Hp → Prop} (h : ta σ H fun vs H1 => ∃ (a : Addr) (xs : List V), vs = [.ref a] ∧ SqL K H1 a xs ∧ R (Itv K a xs.length) H1) : iRev K ta σ H R := h
theorem r_iItems {σ : L2.St} {H : Hp} {td : TE} {R : It → Hp → Prop} (h : td σ H fun x H1 => ∃ d o kvs, x = .ref d ∧ H1 d = some (.frz o (.dK kvs)) ∧ R (Iti d o kvs) H1) : iItems td σ H R := h
theorem tups_upd {H : Hp} {d : Addr} {o o' : HO} (h : H d = some o) (n1 : ∀ xs, o ≠ .tup xs) (n2 : ∀ ob xs, o ≠ .frz ob (.tup xs)) : Tups H (upd H d o') := fun b xs r => by
  have nb : b ≠ d := by
    rintro rfl
    rcases r with r | ⟨ob, r⟩
    · rw [h] at r; exact n1 xs (Option.some.inj r)
    · rw [h] at r; exact n2 ob xs (Option.some.inj r)
  rcases r with r | ⟨ob, r⟩
  · exact .inl (by rw [upd_ne nb]; exact r)
  · exact .inr ⟨ob, by rw [upd_ne nb]; exact r⟩
end
end Pf

/-! own rule: C.__init__(self, ..), C a class of the program that has the one of ValueError -/
namespace Pf
open PySem PySem.Spec PyProof.Rows L2
section
variable {X : Cx} {e : Expr} {es : List Expr} {ta : TA} {p1 p2 pos : Pos} {x : Str} {C0 : Addr} {mc : Value}
theorem pe_cinit {pl : Sem Bool} (rd : ClX.CRead X.K C0 mc) (here : PySem.W.findCls X.K (.ref C0) mc "__init__" = some (.val (.builtin "ValueError.__init__"))) (hg : Gl X x) (hm : X.mg x = some (.ref C0)) (ha : PA X (e :: es) ta)
    (hdb : (x == ("__debug__" : Str)) = false := by decide)
    (shape : eval (.Call (.Attribute (.Name x p1) "__init__" p2) (e :: es) [] pos) X.env = (do
      let ov ← eval (.Name x p1) X.env
      standAt p2.atName
      let (f, first) ← holding [ov] (getMethod ov "__init__" pl)
      callWith pos f first (backTo pos (starEach (e :: es) X.env)) (backToKw pos (keywordEach [] X.env))) := by rfl)
    (hs : starEach (e :: es) X.env = (false, eval e X.env) :: starEach es X.env := by rfl) (hpl : (backTo pos (starEach es X.env)).any (·.1) = false := by rfl) :
    PE X (.Call (.Attribute (.Name x p1) "__init__" p2) (e :: es) [] pos) (tVeI X.K ta) := by
  refine ⟨fun pins s σ H Q I h => ?_⟩
  refine PySem.W.methodCall_KW (ld_glob I hg hm ?_ hdb) shape
  refine PySem.W.method_cls I.kIn rd.ga (PySem.W.cls_value I.kIn rd.rd here (by decide +kernel) ?_)
  show wpAny _ _ (callWith pos (Value.builtin "ValueError.__init__") [] (backTo pos (starEach (e :: es) X.env)) []) _ _ _
  refine PyProof.Rows.callWith_method1 (thn (ha.run pos pins _ σ H _ (I.tok _) h) fun us s1 hh => ?_) hs hpl
  obtain ⟨vs, H1, I1, r1, a, C, ws, rfl, few, oex, ea, q⟩ := hh
  cases r1 with
  | @cons _ u0 _ ur ra rest =>
    obtain rfl : u0 = Value.ref a := ra
    refine oinit_ok oex I1 ea ?_ fun s' J => ⟨.non, H1, J, rfl, q⟩
    rw [← Paired.length rest, sizeLine_eq]
    omega
end
/-- what makes a class one that OexC speaks of, by reckoning -/
def oexB (K : PySem.W.Frag) (C : Addr) : Bool :=
  match K.lookup C with
  | some ⟨.type "type", _, .cls c, l⟩ =>
    match c.mro, l.toList with
    | .ref D :: m, [_, _, _, _, some (.builtin b), _] => (D == C) && ((b == "ValueError.__new__") && ((!c.hasDel) && (c.hasDict && PySem.HandSPX.refsVE m)))
    | _, _ => false
  | _ => false
theorem oex_cls {K : PySem.W.Frag} {C : Addr} (h : oexB K C = true) :
    ∃ nm q N bs bm sn sub ab col dd k0 k1 k2 k3 k5, K.lookup C = some (excClassObj nm q C N bs bm true sn sub ab col dd k0 k1 k2 k3 k5 "ValueError.__new__") ∧ PySem.HandSPX.refsVE bm = true := by
  unfold oexB at h
  split at h
  · rename_i dct c l here
    split at h
    · rename_i D m a0 a1 a2 a3 b a5 em el
      rw [Bool.and_eq_true, Bool.and_eq_true, Bool.and_eq_true, Bool.and_eq_true] at h
      obtain ⟨e1, e2, e3, e4, e5⟩ := h
      have e1 := eq_of_beq e1
      have e2 := eq_of_beq e2
      subst e1 e2
      obtain ⟨v1, v2, v3, v4, v5, v6, v7, v8, v9, v10, v11⟩ := c
      have fm : v3 = .ref D :: m := em
      have f3 : v11 = false := by simpa using e3
      have f4 : v6 = true := e4
      obtain ⟨ls⟩ := l
      have fl : ls = [a0, a1, a2, a3, some (.builtin "ValueError.__new__"), a5] := el
      subst fm f3 f4 fl
      exact ⟨v1, v5, v4, v2, m, v7, v8, v9, v10, dct, a0, a1, a2, a3, a5, here, e5⟩
    · cases h
  · cases h
end Pf

/-! own rule: list(zip(xs, ys)), each a list or a tuple -/
namespace Pf
open PySem PySem.Spec PyProof.Rows L2
section
variable {P : Program} {w : World} {A : Around} {E : Value → Shared → Prop} {s : Shared} {z TI TO T i1 i2 : Addr} {f1 f2 : List Addr} {n1 n2 i : Nat} {P1 P2 : Nat → Value → Prop} {S1 S2 : Nat → Heap → Prop} {fl : Bool} {oT : Obj}
/-- a pair more, the one given out before being still there -/
theorem zipH_item {Q : Option Value → Shared → Prop} (S : ZipSep2 z TI TO i1 i2 f1 f2) (D1 : Draws P w A.in1 i1 f1 n1 P1 S1) (D2 : Draws P w A.in1 i2 f2 n2 P2 S2) (hz : IsZipHeld s.heap z TI TO T fl) (hT : s.heap.get? T = some oT) (hTI : IsTupOf2 s.heap TI (.ref i1) (.ref i2))
    (a1 : S1 i s.heap) (a2 : S2 i s.heap) (l1 : i < n1) (l2 : i < n2)
    (next : ∀ x y g tk, P1 i x → P2 i y → IsZipHeld g z TI TO T true → S1 (i + 1) g → S2 (i + 1) g → IsTupOf2 g s.heap.objs.size x y → g.objs.size = s.heap.objs.size + 1 → (∀ c o, c ≠ z → c ≠ i1 → c ≠ i2 → s.heap.get? c = some o → g.get? c = some o) →
      Q (some (.ref s.heap.objs.size)) { s with heap := g, toks := tk }) : wpAny (model P w) A (pyNext (.ref z)) Q E s := by
  obtain ⟨hp, gn, dr, tk0, os⟩ := s
  have ty : Shared.TypeIs ⟨hp, gn, dr, tk0, os⟩ (.ref z) "zip" := ⟨_, hz, rfl⟩
  unfold pyNext
  refine wpAny_bind (wpAny_attempt (wpAny_callSpecial?_slot (name := Str.ofString "__next__") ty F.slot_zip_next (wpAny_call_entry F.slot_zip_next ty F.entry_zip_next ?_ (F.args_zip_next_1 _))))
  show wpAny _ _ (field (.ref z) 2 >>= _) _ _ _
  refine wpAny_bind (wpAny_field hz rfl (x := .bool false) rfl ?_)
  show wpAny _ _ (field (.ref z) 3 >>= _) _ _ _
  refine wpAny_bind (wpAny_field hz rfl (x := .ref TI) rfl (wpAny_bind (wpAny_seqItems hTI rfl ?_)))
  show wpAny _ _ (Builtin.SmallTypes.ownedTupleIsFree (.ref z) >>= _) _ _ _
  refine wpAny_bind (wpAny_tupleHeld_zip hz hT fun g1 z1 b1 => ?_)
  replace b1 : Heap.SameBut z hp g1 := b1
  simp only [Bool.false_eq_true, if_false]
  refine wpAny_bind ?_
  rw [← Array.forIn_toList]
  simp only [List.forIn_cons, List.forIn_nil]
  refine wpAny_bind (wpAny_bind (wpAny_holding ?_))
  show wpAny _ _ (Builtin.SmallTypes.nextOf (.ref i1) >>= _) _ _ ⟨g1, gn, dr, tk0, os⟩
  refine wpAny_bind (D1.item i _ _ _ l1 (D1.over a1 b1 S.zf1) fun x g2 tk2 px c1 b2 => wpAny_pure (wpAny_pure ?_))
  replace b2 : Heap.SameBut i1 g1 g2 := b2
  refine wpAny_bind (wpAny_bind (wpAny_holding ?_))
  show wpAny _ _ (Builtin.SmallTypes.nextOf (.ref i2) >>= _) _ _ ⟨g2, gn, dr, tk2, os⟩
  refine wpAny_bind (D2.item i _ _ _ l2 (D2.over (D2.over a2 b1 S.zf2) b2 S.sep1_2) fun y g3 tk3 py c2 b3 => wpAny_pure (wpAny_pure (wpAny_pure ?_)))
  replace b3 : Heap.SameBut i2 g2 g3 := b3
  show wpAny _ _ (newTuple [x, y] >>= _) _ _ ⟨g3, gn, dr, tk3, os⟩
  refine wpAny_bind (wpAny_newTuple ?_)
  have sz : g3.objs.size = hp.objs.size := by rw [b3.1, b2.1, b1.1]
  have z3 : IsZipHeld g3 z TI TO T true := b3.extBut _ _ S.zi2 (b2.extBut _ _ S.zi1 z1)
  have kp : ∀ c o, c ≠ z → c ≠ i1 → c ≠ i2 → hp.get? c = some o → g3.get? c = some o := fun c o n1 n2 n3 e => b3.extBut _ _ n3 (b2.extBut _ _ n2 (b1.extBut _ _ n1 e))
  refine wpAny_pure ⟨_, rfl, wpAny_pure ?_⟩
  show Q (some (.ref g3.objs.size)) ⟨g3.push { cls := .type "tuple", data := .seq #[x, y] }, gn, dr, tk3, os⟩
  have new : IsTupOf2 (g3.push { cls := .type "tuple", data := .seq #[x, y] }) g3.objs.size x y := Heap.get?_push_size _ rfl
  have szn : (g3.push { cls := .type "tuple", data := .seq #[x, y] }).objs.size = g3.objs.size + 1 := Heap.size_push ..
  rw [sz] at new szn ⊢
  exact next x y _ tk3 px py (Heap.get?_push_of_some _ z3) (D1.frame _ _ _ (D1.over c1 b3 S.sep2_1) fun b _ o e => Heap.get?_push_of_some _ e) (D2.frame _ _ _ c2 fun b _ o e => Heap.get?_push_of_some _ e) new szn fun c o n1 n2 n3 e => Heap.get?_push_of_some _ (kp c o n1 n2 n3 e)
/-- the end -/
theorem zipH_end {Q : Option Value → Shared → Prop} (S : ZipSep2 z TI TO i1 i2 f1 f2) (D1 : Draws P w A.in1 i1 f1 n1 P1 S1) (D2 : Draws P w A.in1 i2 f2 n2 P2 S2) (hz : IsZipHeld s.heap z TI TO T fl) (hT : s.heap.get? T = some oT) (hTI : IsTupOf2 s.heap TI (.ref i1) (.ref i2))
    (a1 : S1 i s.heap) (a2 : S2 i s.heap) (l1 : i ≤ n1) (l2 : i ≤ n2) (over : i = n1 ∨ i = n2)
    (next : ∀ g tk, (∀ c o, c ≠ z → c ≠ i1 → c ≠ i2 → s.heap.get? c = some o → g.get? c = some o) → Q none { s with heap := g, toks := tk }) : wpAny (model P w) A (pyNext (.ref z)) Q E s := by
  obtain ⟨hp, gn, dr, tk0, os⟩ := s
  have ty : Shared.TypeIs ⟨hp, gn, dr, tk0, os⟩ (.ref z) "zip" := ⟨_, hz, rfl⟩
  unfold pyNext
  refine wpAny_bind (wpAny_attempt (wpAny_callSpecial?_slot (name := Str.ofString "__next__") ty F.slot_zip_next (wpAny_call_entry F.slot_zip_next ty F.entry_zip_next ?_ (F.args_zip_next_1 _))))
  show wpAny _ _ (field (.ref z) 2 >>= _) _ _ _
  refine wpAny_bind (wpAny_field hz rfl (x := .bool false) rfl ?_)
  show wpAny _ _ (field (.ref z) 3 >>= _) _ _ _
  refine wpAny_bind (wpAny_field hz rfl (x := .ref TI) rfl (wpAny_bind (wpAny_seqItems hTI rfl ?_)))
  show wpAny _ _ (Builtin.SmallTypes.ownedTupleIsFree (.ref z) >>= _) _ _ _
  refine wpAny_bind (wpAny_tupleHeld_zip hz hT fun g1 z1 b1 => ?_)
  replace b1 : Heap.SameBut z hp g1 := b1
  simp only [Bool.false_eq_true, if_false]
  refine wpAny_bind ?_
  rw [← Array.forIn_toList]
  simp only [List.forIn_cons, List.forIn_nil]
  refine wpAny_bind (wpAny_bind (wpAny_holding ?_))
  show wpAny _ _ (Builtin.SmallTypes.nextOf (.ref i1) >>= _) _ _ ⟨g1, gn, dr, tk0, os⟩
  by_cases c1 : i < n1
  · refine wpAny_bind (D1.item i _ _ _ c1 (D1.over a1 b1 S.zf1) fun x g2 tk2 px c1 b2 => wpAny_pure (wpAny_pure ?_))
    replace b2 : Heap.SameBut i1 g1 g2 := b2
    refine wpAny_bind (wpAny_bind (wpAny_holding ?_))
    show wpAny _ _ (Builtin.SmallTypes.nextOf (.ref i2) >>= _) _ _ ⟨g2, gn, dr, tk2, os⟩
    have e2 : i = n2 := by omega
    refine wpAny_bind (D2.done ⟨g2, gn, dr, tk2, os⟩ _ _ (by rw [← e2]; exact D2.over (D2.over a2 b1 S.zf2) b2 S.sep1_2) fun g3 e b3 he => ?_)
    replace b3 : Heap.ExtBut i2 g2 g3 := b3
    obtain ⟨oe, he, hc⟩ := he
    refine wpAny_bind (wpAny_isInstance (T := "StopIteration") (b := true) ⟨oe, he, hc⟩ isSubtype_stop ?_)
    exact wpAny_pure (next g3 tk2 fun c o n1 n2 n3 q => b3 _ _ n3 (b2.extBut _ _ n2 (b1.extBut _ _ n1 q)))
  · have e1 : i = n1 := by omega
    refine wpAny_bind (D1.done ⟨g1, gn, dr, tk0, os⟩ _ _ (by rw [← e1]; exact D1.over a1 b1 S.zf1) fun g3 e b3 he => ?_)
    replace b3 : Heap.ExtBut i1 g1 g3 := b3
    obtain ⟨oe, he, hc⟩ := he
    refine wpAny_bind (wpAny_isInstance (T := "StopIteration") (b := true) ⟨oe, he, hc⟩ isSubtype_stop ?_)
    exact wpAny_pure (next g3 tk0 fun c o n1 n2 n3 q => b3 _ _ n2 (b1.extBut _ _ n1 q))
end
end Pf

/-! own rule: list(zip(t, l)), t a tuple and l a list -/
namespace Pf
open PySem PySem.Spec PyProof.Rows L2
/-- the pairs given out so far, all above S -/
structure ZGot (xs ys : Array Value) (S : Addr) (g : Heap) (as : List Addr) : Prop where
  above : ∀ a ∈ as, S < a
  rise : as.Pairwise (· < ·)
  tups : ∀ (j : Nat) a, as[j]? = some a → ∃ x y, xs[j]? = some x ∧ ys[j]? = some y ∧ IsTupOf2 g a x y
theorem ZGot.keep {xs ys : Array Value} {S : Addr} {g g2 : Heap} {as : List Addr} (G : ZGot xs ys S g as) (k : ∀ b o, S < b → g.get? b = some o → g2.get? b = some o) : ZGot xs ys S g2 as :=
  ⟨G.above, G.rise, fun j a e => by
    obtain ⟨x, y, h1, h2, h3⟩ := G.tups j a e
    exact ⟨x, y, h1, h2, k a _ (G.above a (List.mem_of_getElem? e)) h3⟩⟩
theorem ZGot.lt {xs ys : Array Value} {S : Addr} {g : Heap} {as : List Addr} (G : ZGot xs ys S g as) {a : Addr} (m : a ∈ as) : a < g.objs.size := by
  obtain ⟨j, e⟩ := List.mem_iff_getElem?.mp m
  obtain ⟨x, y, _, _, h⟩ := G.tups j a e
  exact Heap.lt_size h
theorem ZGot.push {xs ys : Array Value} {S : Addr} {g g2 : Heap} {as : List Addr} (G : ZGot xs ys S g as) {x y : Value} (k : ∀ b o, S < b → g.get? b = some o → g2.get? b = some o) (up : S < g.objs.size)
    (ex : xs[as.length]? = some x) (ey : ys[as.length]? = some y) (t : IsTupOf2 g2 g.objs.size x y) : ZGot xs ys S g2 (as ++ [g.objs.size]) := by
  refine ⟨fun a m => ?_, List.pairwise_append.mpr ⟨G.rise, List.pairwise_singleton _ _, fun a m b mb => ?_⟩, fun j a e => ?_⟩
  · rcases List.mem_append.mp m with m | m
    · exact G.above a m
    · rw [List.mem_singleton.mp m]; exact up
  · rw [List.mem_singleton.mp mb]; exact G.lt m
  · rw [List.getElem?_append] at e
    split at e
    · exact (G.keep k).tups j a e
    · rename_i nl
      have : j - as.length = 0 := by
        rcases Nat.eq_zero_or_pos (j - as.length) with z | z
        · exact z
        · obtain ⟨q, hq⟩ : ∃ q, j - as.length = q + 1 := ⟨j - as.length - 1, by omega⟩
          rw [hq] at e; cases e
      rw [this] at e
      have ej : j = as.length := by omega
      cases e
      exact ⟨x, y, by rw [ej]; exact ex, by rw [ej]; exact ey, t⟩
/-- how the cells of zip(t, l) lie below the list that is made -/
structure ZLow (S z TI TO i1 i2 t l : Addr) : Prop where
  sep : ZipSep2 z TI TO i1 i2 [i1, t] [i2, l]
  lz : z < S
  lI : TI < S
  lO : TO < S
  l1 : i1 < S
  l2 : i2 < S
  lt : t < S
  ll : l < S
  n1 : t ≠ i1
  n2 : l ≠ i2
section
variable {P : Program} {w : World} {A : Around} {E : Value → Shared → Prop} {S z TI TO T i1 i2 t l : Addr} {xs ys : Array Value} {fl : Bool} {res : Value} {R : Result → Shared → Prop}
abbrev zlst (acc : Array Value) (c : Nat) : Obj := { cls := .type "list", dict := none, data := .seq acc c, slots := #[] }
/-- what the loop leaves -/
def ZDone (xs ys : Array Value) (S z TO i1 i2 : Addr) (s : Shared) (g : Heap) (acc : Array Value) (as : List Addr) : Prop :=
  (∀ b o, b < S → b ≠ z → b ≠ TO → b ≠ i1 → b ≠ i2 → s.heap.get? b = some o → g.get? b = some o) ∧ acc.toList = as.map Value.ref ∧ as.length = min xs.size ys.size ∧ ZGot xs ys S g as
theorem zupd {g : Heap} {v : Value} {acc : Array Value} {c : Nat} (at0 : g.get? S = some (zlst acc c)) {b : Addr} {o : Obj} (ne : b ≠ S) (e : g.get? b = some o) : (g.update S (Obj.mapSeq (·.push v))).get? b = some o :=
  (Heap.get?_update_other _ _ (Ne.symm ne)).trans e
theorem zipRest (calm : A.handled = none) (L : ZLow S z TI TO i1 i2 t l) (few : min xs.size ys.size ≤ sizeLine) :
    ∀ (left i : Nat) (s : Shared) (acc : Array Value) (c : Nat) (as : List Addr) (fl : Bool) (oT : Obj), min xs.size ys.size - i = left → i ≤ min xs.size ys.size → IsZipHeld s.heap z TI TO T fl → s.heap.get? T = some oT → S < T → IsTupOf2 s.heap TI (.ref i1) (.ref i2) →
      (s.heap.IsTupleIter i1 t i ∧ s.heap.IsTuple t xs) → (s.heap.IsListIter i2 l i ∧ s.heap.IsList l ys) → s.heap.get? S = some (zlst acc c) → acc.toList = as.map Value.ref → as.length = i → ZGot xs ys S s.heap as →
      (∀ g tk acc2 c2 as2, ZDone xs ys S z TO i1 i2 s g acc2 as2 → g.get? S = some (zlst acc2 c2) → R (.ok (.ret res)) { s with heap := g, toks := tk }) →
      codeAny (model P w) A (.builtin "list.extend.loop" ⟨[.ref S, .ref z, res], []⟩) R s := by
  have cal : A.in1.in1.handled = none := by simp [calm]
  have D1 : Draws P w A.in1.in1 i1 [i1, t] xs.size _ _ := Draws.tuple cal i1 t L.n1 xs
  have D2 : Draws P w A.in1.in1 i2 [i2, l] ys.size _ _ := Draws.list cal i2 l L.n2 ys
  intro left
  induction left with
  | zero =>
    intro i s acc c as fl oT el hi hz hT sT hTI a1 a2 at0 ea la G done
    refine codeAny_builtin PySem.F.entry_extend_loop ?_
    rw [Around.under_plainId PySem.F.plain_extend_loop _]
    refine (show wpAny _ A.in1 (pyNext (.ref z) >>= _) _ _ s from wpAny_bind (zipH_end (i := i) L.sep D1 D2 hz hT hTI a1 a2 (by omega) (by omega) (by omega) fun g tk k => ?_))
    have kS := k S _ (Nat.ne_of_gt L.lz) (Nat.ne_of_gt L.l1) (Nat.ne_of_gt L.l2) at0
    exact wpAny_pure (done g tk acc c as ⟨fun b o _ n1 _ n3 n4 e => k b o n1 n3 n4 e, ea, by omega, G.keep fun b o lb e => k b o (Nat.ne_of_gt (Nat.lt_trans L.lz lb)) (Nat.ne_of_gt (Nat.lt_trans L.l1 lb)) (Nat.ne_of_gt (Nat.lt_trans L.l2 lb)) e⟩ kS)
  | succ left ih =>
    intro i s acc c as fl oT el hi hz hT sT hTI a1 a2 at0 ea la G done
    refine codeAny_builtin PySem.F.entry_extend_loop ?_
    rw [Around.under_plainId PySem.F.plain_extend_loop _]
    refine (show wpAny _ A.in1 (pyNext (.ref z) >>= _) _ _ s from wpAny_bind (zipH_item (i := i) L.sep D1 D2 hz hT hTI a1 a2 (by omega) (by omega) fun x y g tk px py z2 b1 b2 new sz k => ?_))
    have kS := k S _ (Nat.ne_of_gt L.lz) (Nat.ne_of_gt L.l1) (Nat.ne_of_gt L.l2) at0
    have upS : S < s.heap.objs.size := Heap.lt_size at0
    have up : ∀ b o, S < b → s.heap.get? b = some o → g.get? b = some o := fun b o lb e => k b o (Nat.ne_of_gt (Nat.lt_trans L.lz lb)) (Nat.ne_of_gt (Nat.lt_trans L.l1 lb)) (Nat.ne_of_gt (Nat.lt_trans L.l2 lb)) e
    have la2 : acc.size = i := by rw [← Array.length_toList, ea, List.length_map, la]
    have G2 : ZGot xs ys S g (as ++ [s.heap.objs.size]) := G.push up upS (by rw [la]; exact px) (by rw [la]; exact py) new
    refine (show wpAny _ A.in1 (updateSeq S (·.push (Value.ref s.heap.objs.size)) >>= _) _ _ _ from wpAny_bind (wpAny_updateSeq kS rfl (wpAny_pure ⟨plainId_quiet PySem.F.plain_extend_loop _, ?_⟩) (by rw [la2]; omega) (by show (acc.push _).size ≤ sizeLine + 1; rw [Array.size_push, la2]; omega)))
    have low : ∀ b o, b ≠ S → g.get? b = some o → (g.update S (Obj.mapSeq (·.push (Value.ref s.heap.objs.size)))).get? b = some o := fun b o ne e => zupd kS ne e
    refine ih (i + 1) _ (acc.push (.ref s.heap.objs.size)) _ (as ++ [s.heap.objs.size]) true oT (by omega) (by omega) (low _ _ (Nat.ne_of_lt L.lz) z2) (low _ _ (Nat.ne_of_gt sT) (up _ _ sT hT)) sT
      (low _ _ (Nat.ne_of_lt L.lI) (k _ _ L.sep.TIz L.sep.TIi1 L.sep.TIi2 hTI)) (D1.frame _ _ _ b1 fun b hb o e => low b o ?_ e) (D2.frame _ _ _ b2 fun b hb o e => low b o ?_ e) (Heap.get?_update_self _ kS rfl) (by rw [Array.toList_push, ea, List.map_append]; rfl)
      (by rw [List.length_append, la]; rfl) (G2.keep fun b o lb e => low b o (Nat.ne_of_gt lb) e) fun g3 tk3 acc3 c3 as3 d3 at3 => ?_
    · rcases List.mem_cons.mp hb with q | q
      · rw [q]; exact Nat.ne_of_lt L.l1
      · rw [List.mem_singleton.mp q]; exact Nat.ne_of_lt L.lt
    · rcases List.mem_cons.mp hb with q | q
      · rw [q]; exact Nat.ne_of_lt L.l2
      · rw [List.mem_singleton.mp q]; exact Nat.ne_of_lt L.ll
    · exact done g3 tk3 acc3 c3 as3 ⟨fun b o lb n1 n2 n3 n4 e => d3.1 b o lb n1 n2 n3 n4 (low b o (Nat.ne_of_lt lb) (k b o n1 n3 n4 e)), d3.2⟩ at3
end
end Pf

namespace Pf
open PySem PySem.Spec PyProof.Rows L2
theorem zip_noLen : typeLookup (.type "zip") "__len__" = pure none := by
  rw [typeLookup_type, builtinLookup_eq_fast]
  kernel_rfl
theorem zip_noHint : typeLookup (.type "zip") "__length_hint__" = pure none := by
  rw [typeLookup_type, builtinLookup_eq_fast]
  kernel_rfl
section
variable {P : Program} {w : World} {A : Around} {E : Value → Shared → Prop} {S z TI TO i1 i2 t l : Addr} {xs ys : Array Value} {res : Value} {R : Result → Shared → Prop}
/-- the cells as zip leaves them, and the new list -/
structure ZStart (S z TI TO i1 i2 t l : Addr) (xs ys : Array Value) (h : Heap) : Prop where
  zip : IsZip h z TI TO .none
  ti : IsTupOf2 h TI (.ref i1) (.ref i2)
  to : ∃ a b, IsTupOf2 h TO a b
  one : h.IsTupleIter i1 t 0 ∧ h.IsTuple t xs
  two : h.IsListIter i2 l 0 ∧ h.IsList l ys
theorem ZStart.keep (L : ZLow S z TI TO i1 i2 t l) {h g : Heap} (Z : ZStart S z TI TO i1 i2 t l xs ys h) (k : ∀ b o, b ≠ S → h.get? b = some o → g.get? b = some o) : ZStart S z TI TO i1 i2 t l xs ys g := by
  obtain ⟨a, b, e⟩ := Z.to
  exact ⟨k _ _ (Nat.ne_of_lt L.lz) Z.zip, k _ _ (Nat.ne_of_lt L.lI) Z.ti, ⟨a, b, k _ _ (Nat.ne_of_lt L.lO) e⟩, ⟨Z.one.1.at fun o => k _ o (Nat.ne_of_lt L.l1), Z.one.2.at fun o => k _ o (Nat.ne_of_lt L.lt)⟩,
    ⟨Z.two.1.at fun o => k _ o (Nat.ne_of_lt L.l2), Z.two.2.at fun o => k _ o (Nat.ne_of_lt L.ll)⟩⟩
theorem zipLoop (calm : A.handled = none) (L : ZLow S z TI TO i1 i2 t l) (few : min xs.size ys.size ≤ sizeLine) {s : Shared} {c : Nat} (Z : ZStart S z TI TO i1 i2 t l xs ys s.heap) (at0 : s.heap.get? S = some (zlst #[] c))
    (done : ∀ g tk acc2 c2 as2, ZDone xs ys S z TO i1 i2 s g acc2 as2 → g.get? S = some (zlst acc2 c2) → R (.ok (.ret res)) { s with heap := g, toks := tk }) :
    codeAny (model P w) A (.builtin "list.extend.loop" ⟨[.ref S, .ref z, res], []⟩) R s := by
  have cal : A.in1.in1.handled = none := by simp [calm]
  have D1 : Draws P w A.in1.in1 i1 [i1, t] xs.size _ _ := Draws.tuple cal i1 t L.n1 xs
  have D2 : Draws P w A.in1.in1 i2 [i2, l] ys.size _ _ := Draws.list cal i2 l L.n2 ys
  obtain ⟨a, b, hTO⟩ := Z.to
  have upS : S < s.heap.objs.size := Heap.lt_size at0
  refine codeAny_builtin PySem.F.entry_extend_loop ?_
  rw [Around.under_plainId PySem.F.plain_extend_loop _]
  rcases Nat.eq_zero_or_pos (min xs.size ys.size) with m0 | m0
  · refine (show wpAny _ A.in1 (pyNext (.ref z) >>= _) _ _ s from wpAny_bind (wpAny_pyNext_zipD2_end (i := 0) L.sep D1 D2 Z.zip Z.ti hTO Z.one Z.two (Nat.zero_le _) (Nat.zero_le _) (by omega) fun g tk k => ?_))
    have kS := k S _ (Nat.ne_of_gt L.lz) (Nat.ne_of_gt L.lO) (Nat.ne_of_gt L.l1) (Nat.ne_of_gt L.l2) at0
    exact wpAny_pure (done g tk #[] c [] ⟨fun b o _ n1 n2 n3 n4 e => k b o n1 n2 n3 n4 e, rfl, m0.symm, ⟨fun _ h => (nomatch h), List.Pairwise.nil, fun _ _ h => by cases h⟩⟩ kS)
  · refine (show wpAny _ A.in1 (pyNext (.ref z) >>= _) _ _ s from wpAny_bind (wpAny_pyNext_zipD2_item (i := 0) L.sep D1 D2 Z.zip Z.ti hTO Z.one Z.two (by omega) (by omega) fun x y g tk px py z2 _ b1 b2 new sz k => ?_))
    have kS := k S _ (Nat.ne_of_gt L.lz) (Nat.ne_of_gt L.lO) (Nat.ne_of_gt L.l1) (Nat.ne_of_gt L.l2) at0
    have low : ∀ b o, b ≠ S → g.get? b = some o → (g.update S (Obj.mapSeq (·.push (Value.ref s.heap.objs.size)))).get? b = some o := fun b o ne e => zupd kS ne e
    refine (show wpAny _ A.in1 (updateSeq S (·.push (Value.ref s.heap.objs.size)) >>= _) _ _ _ from wpAny_bind (wpAny_updateSeq kS rfl (wpAny_pure ⟨plainId_quiet PySem.F.plain_extend_loop _, ?_⟩) (by show (0 : Nat) ≤ _; omega) (by show (Array.push #[] _).size ≤ sizeLine + 1; rw [Array.size_push]; show 0 + 1 ≤ _; omega)))
    have G1 : ZGot xs ys S g [s.heap.objs.size] := by
      refine ⟨fun a m => by rw [List.mem_singleton.mp m]; exact upS, List.pairwise_singleton _ _, fun j a e => ?_⟩
      cases j with
      | zero => cases e; exact ⟨x, y, px, py, new⟩
      | succ j => cases e
    refine zipRest (T := s.heap.objs.size) calm L few (min xs.size ys.size - 1) 1 _ (#[].push (.ref s.heap.objs.size)) _ [s.heap.objs.size] false _ rfl (by omega) (low _ _ (Nat.ne_of_lt L.lz) z2) (low _ _ (Nat.ne_of_gt upS) new) upS
      (low _ _ (Nat.ne_of_lt L.lI) (k _ _ L.sep.TIz L.sep.TITO L.sep.TIi1 L.sep.TIi2 Z.ti)) (D1.frame _ _ _ b1 fun b hb o e => low b o ?_ e) (D2.frame _ _ _ b2 fun b hb o e => low b o ?_ e) (Heap.get?_update_self _ kS rfl) rfl rfl
      (G1.keep fun b o lb e => low b o (Nat.ne_of_gt lb) e) fun g3 tk3 acc3 c3 as3 d3 at3 => ?_
    · rcases List.mem_cons.mp hb with q | q
      · rw [q]; exact Nat.ne_of_lt L.l1
      · rw [List.mem_singleton.mp q]; exact Nat.ne_of_lt L.lt
    · rcases List.mem_cons.mp hb with q | q
      · rw [q]; exact Nat.ne_of_lt L.l2
      · rw [List.mem_singleton.mp q]; exact Nat.ne_of_lt L.ll
    · exact done g3 tk3 acc3 c3 as3 ⟨fun b o lb n1 n2 n3 n4 e => d3.1 b o lb n1 n2 n3 n4 (low b o (Nat.ne_of_lt lb) (k b o n1 n2 n3 n4 e)), d3.2⟩ at3
/-- list.__init__(S, z) -/
theorem zipInit (calm : A.handled = none) (L : ZLow S z TI TO i1 i2 t l) (few : min xs.size ys.size ≤ sizeLine) {s : Shared} (Z : ZStart S z TI TO i1 i2 t l xs ys s.heap) (at0 : s.heap.get? S = some { cls := .type "list", data := .seq #[] })
    (done : ∀ g tk acc2 c2 as2, ZDone xs ys S z TO i1 i2 s g acc2 as2 → g.get? S = some (zlst acc2 c2) → R (.ok (.ret .none)) { s with heap := g, toks := tk }) :
    wpAny (model P w) A.in1 (Builtin.«list.__init__» ⟨[.ref S, .ref z], []⟩)
      (fun fin s2 => match fin with | .done f => R (.ok f) s2 | .again c2 => c2.quiet = true ∧ codeAny (model P w) A c2 R s2) (fun e s2 => R (.error e) s2) s := by
  have ne : S ≠ z := Nat.ne_of_gt L.lz
  have ty : ∀ {g : Heap} {tk : Nat}, ZStart S z TI TO i1 i2 t l xs ys g → Shared.TypeIs { s with heap := g, toks := tk } (.ref z) "zip" := fun q => ⟨_, q.zip, rfl⟩
  refine (show wpAny _ A.in1 (do let old ← Builtin.List.listItems (.ref S); Builtin.List.listUpdate (.ref S) (fun _ => #[]); letGo old.toList.reverse; Builtin.List.listExtendWith (.ref S) (.ref z) .none) _ _ s from wpAny_bind ?_)
  unfold Builtin.List.listItems
  refine wpAny_bind (wpAny_seqItems at0 rfl (wpAny_pure ?_))
  refine (show wpAny _ A.in1 (updateSeq S (fun _ => #[]) >>= fun _ => letGo (#[] : Array Value).toList.reverse >>= fun _ => Builtin.List.listExtendWith (.ref S) (.ref z) .none) _ _ s from wpAny_bind (wpAny_updateSeq at0 rfl ?_))
  have at1 := Heap.get?_update_self (Obj.mapSeq (fun _ => (#[] : Array Value))) at0 rfl
  have o1 : ∀ b o, b ≠ S → s.heap.get? b = some o → (s.heap.update S (Obj.mapSeq (fun _ => (#[] : Array Value)))).get? b = some o := fun b o hb e => (Heap.get?_update_other _ _ (Ne.symm hb)).trans e
  have Z1 := Z.keep L o1
  refine wpAny_bind (wpAny_letGo ?_)
  unfold Builtin.List.listExtendWith
  refine wpAny_bind (wpAny_typeOf (ty Z1) ?_)
  have e1 : Builtin.List.listSameRef (.ref S) (.ref z) = false := by simp [Builtin.List.listSameRef, ne]
  have e2 : (Value.type "zip" == Value.type "list") = false := by decide
  have e3 : (Value.type "zip" == Value.type "tuple") = false := by decide
  simp only [e1, e2, e3, Bool.or_false, Bool.false_eq_true, if_false]
  refine wpAny_bind (wpAny_pyIter_zip Z1.zip (wpAny_bind (wpAny_holding ?_)))
  unfold Builtin.List.listLengthHint
  refine wpAny_bind (wpAny_specialOf (ty Z1) zip_noLen ?_)
  refine (show wpAny _ A.in1 (specialOf (Value.ref z) (Str.ofString "__length_hint__") >>= _) _ _ _ from wpAny_bind (wpAny_specialOf (ty Z1) zip_noHint (wpAny_pure ?_)))
  refine (show wpAny _ A.in1 (rule "list.extend.makes-room" >>= fun _ => Builtin.List.listTouch (.ref S) >>= fun _ => again (.builtin "list.extend.loop" ⟨[.ref S, .ref z, .none], []⟩)) _ _ _ from wpAny_bind (wpAny_rule (wpAny_bind ?_)))
  refine (show wpAny _ A.in1 (updateSeq S (·.push .none) >>= fun _ => updateSeq S (·.pop)) _ _ _ from wpAny_bind (wpAny_updateSeq at1 rfl ?_))
  have at2 := Heap.get?_update_self (Obj.mapSeq (·.push Value.none)) at1 rfl
  refine wpAny_updateSeq (hz := by seq_fits) at2 rfl ?_
  have at3 := Heap.get?_update_self (Obj.mapSeq (·.pop)) at2 rfl
  have o3 : ∀ b o, b ≠ S → s.heap.get? b = some o → (((s.heap.update S (Obj.mapSeq (fun _ => (#[] : Array Value)))).update S (Obj.mapSeq (·.push Value.none))).update S (Obj.mapSeq (·.pop))).get? b = some o :=
    fun b o hb e => (Heap.get?_update_other _ _ (Ne.symm hb)).trans ((Heap.get?_update_other _ _ (Ne.symm hb)).trans (o1 b o hb e))
  refine wpAny_pure ⟨plainId_quiet PySem.F.plain_extend_loop _, zipLoop calm L few (Z.keep L o3) at3 fun g tk acc2 c2 as2 d q => ?_⟩
  exact done g tk acc2 c2 as2 ⟨fun b o lb n1 n2 n3 n4 e => d.1 b o lb n1 n2 n3 n4 (o3 b o (Nat.ne_of_lt lb) e), d.2⟩ q
end
section
variable {P : Program} {w : World} {A : Around} {E : Value → Shared → Prop} {s : Shared} {z TI TO i1 i2 t l : Addr} {xs ys : Array Value}
/-- list(z) -/
theorem zipList {Q : Value → Shared → Prop} (calm : A.handled = none) (L : ZLow s.heap.objs.size z TI TO i1 i2 t l) (few : min xs.size ys.size ≤ sizeLine) (Z : ZStart s.heap.objs.size z TI TO i1 i2 t l xs ys s.heap)
    (next : ∀ g tk acc2 c2 as2, ZDone xs ys s.heap.objs.size z TO i1 i2 s g acc2 as2 → g.get? s.heap.objs.size = some (zlst acc2 c2) → Q (.ref s.heap.objs.size) { s with heap := g, toks := tk }) :
    wpAny (model P w) A (call (.type "list") [.ref z]) Q E s := by
  refine callType_codes (Q₁ := fun ob s1 => ob = .ref s.heap.objs.size ∧ s1 = { s with heap := s.heap.push { cls := .type "list", data := .seq #[] } }) PySem.F.called_list (PySem.F.typeCall_list_1 _) PySem.F.entry_list_init (code_list_new _ ⟨rfl, rfl⟩) fun ob s1 h1 => ?_
  obtain ⟨rfl, rfl⟩ := h1
  have at0 : (s.heap.push { cls := .type "list", data := .seq #[] }).get? s.heap.objs.size = some { cls := .type "list", data := .seq #[] } := Heap.get?_push_size _ rfl
  have old : ∀ b o, s.heap.get? b = some o → (s.heap.push { cls := .type "list", data := .seq #[] }).get? b = some o := fun b o e => Heap.get?_push_of_some _ e
  refine ⟨⟨_, at0, rfl⟩, PySem.F.args_list_init_2 _ _, zipInit (by simp [calm]) L few (Z.keep L fun b o _ e => old b o e) at0 fun g tk acc2 c2 as2 d q => ?_⟩
  exact ⟨rfl, next g tk acc2 c2 as2 ⟨fun b o lb n1 n2 n3 n4 e => d.1 b o lb n1 n2 n3 n4 (old b o e), d.2⟩ q⟩
end
end Pf

namespace Pf
open PySem PySem.Spec PyProof.Rows L2
/-- pairs laid at their addresses -/
def putP : Hp → List Addr → List (V × V) → Hp
  | H, a :: as, q :: qs => putP (upd H a (.tup [q.1, q.2])) as qs
  | H, _, _ => H
theorem putP_off {b : Addr} : ∀ (as : List Addr) (qs : List (V × V)) (H : Hp), b ∉ as → putP H as qs b = H b
  | [], _, _, _ => rfl
  | _ :: _, [], _, _ => rfl
  | a :: as, q :: qs, H, h => by
    refine (putP_off as qs (upd H a (.tup [q.1, q.2])) fun z => h (List.mem_cons_of_mem _ z)).trans ?_
    rw [upd_ne fun z => h (by rw [z]; exact List.mem_cons_self)]
theorem putP_at : ∀ (as : List Addr) (qs : List (V × V)) (H : Hp), as.length = qs.length → as.Nodup → Paired (fun (a : Addr) (q : V × V) => putP H as qs a = some (.tup [q.1, q.2])) as qs
  | [], [], _, _, _ => .nil
  | [], _ :: _, _, h, _ => nomatch h
  | _ :: _, [], _, h, _ => nomatch h
  | a :: as, q :: qs, H, h, nd => by
    obtain ⟨na, nd⟩ := List.nodup_cons.mp nd
    refine .cons ?_ (putP_at as qs (upd H a (.tup [q.1, q.2])) (Nat.succ.inj h) nd)
    exact (putP_off as qs (upd H a (.tup [q.1, q.2])) na).trans (upd_same ..)
theorem vals_zip : ∀ {xs ys : List V} {us vs : List Value}, Vals xs us → Vals ys vs → ∀ {j : Nat} {q : V × V}, (xs.zip ys)[j]? = some q → ∃ u v, us[j]? = some u ∧ vs[j]? = some v ∧ RelV q.1 u ∧ RelV q.2 v
  | _, _, _, _, .nil, _, j, q, e => by cases e
  | _, _, _, _, .cons _ _, .nil, j, q, e => by cases e
  | _, _, _, _, .cons r _, .cons r2 _, 0, q, e => by cases e; exact ⟨_, _, rfl, rfl, r, r2⟩
  | _, _, _, _, .cons _ t, .cons _ t2, j + 1, q, e => vals_zip t t2 (j := j) e
def tLZip (K : PySem.W.Frag) (ta : TA) : TE := fun σ H Q => ta σ H fun us H1 => ∃ (t l : Addr) (xs ys : List V), us = [.ref t, .ref l] ∧ SqT K H1 t xs ∧ SqL K H1 l ys ∧
  ∀ (H2 : Hp) (p : Addr) (as : List Addr), (∀ b o, H1 b = some o → H2 b = some o) → H1 p = none → (∀ a ∈ as, H1 a = none) → p ∉ as → H2 p = some (.lst (as.map V.ref)) →
    Paired (fun (a : Addr) (q : V × V) => H2 a = some (.tup [q.1, q.2])) as (xs.zip ys) → Q (.ref p) H2
section
variable {X : Cx} {e e2 : Expr} {ta : TA} {p p2 pos pos2 : Pos}
theorem zip_laid {pins : List (Addr × Obj)} {σ : L2.St} {H : Hp} {s : Shared} {g : Heap} {tk : Nat} {S : Addr} {xs ys : List V} {us vs : List Value} {acc : Array Value} {c : Nat} {as : List Addr} (I : Inv X pins σ H s) (lo : s.heap.objs.size ≤ S) (few : xs.length ≤ sizeLine)
    (rx : Vals xs us) (ry : Vals ys vs) (k : ∀ b o, s.heap.get? b = some o → g.get? b = some o) (at0 : g.get? S = some (zlst acc c)) (ea : acc.toList = as.map Value.ref) (la : as.length = min us.toArray.size vs.toArray.size) (G : ZGot us.toArray vs.toArray S g as) :
    ∃ H2 : Hp, (∀ b o, H b = some o → H2 b = some o) ∧ H S = none ∧ (∀ a ∈ as, H a = none) ∧ S ∉ as ∧ H2 S = some (.lst (as.map V.ref)) ∧ Paired (fun (a : Addr) (q : V × V) => H2 a = some (.tup [q.1, q.2])) as (xs.zip ys) ∧ Inv X pins σ H2 { s with heap := g, toks := tk } := by
  have l1 := rx.length
  have l2 := ry.length
  have lz : as.length = (xs.zip ys).length := by rw [la, List.length_zip]; simp; omega
  have nS : S ∉ as := fun m => Nat.lt_irrefl _ (G.above _ m)
  have nd : as.Nodup := G.rise.imp fun h => Nat.ne_of_lt h
  have new : ∀ a ∈ as, H a = none := fun a m => I.hok.fresh (Nat.le_of_lt (Nat.lt_of_le_of_lt lo (G.above a m)))
  have newS : H S = none := I.hok.fresh lo
  have atP := putP_at as (xs.zip ys) (upd H S (.lst (as.map V.ref))) lz nd
  have off : ∀ b, b ∉ as → b ≠ S → putP (upd H S (.lst (as.map V.ref))) as (xs.zip ys) b = H b := fun b h1 h2 => (putP_off as _ _ h1).trans (upd_ne h2)
  have low : ∀ b o, s.heap.get? b = some o → b ∉ as ∧ b ≠ S := fun b o q =>
    ⟨fun m => Nat.lt_irrefl _ (Nat.lt_trans (Nat.lt_of_lt_of_le (Heap.lt_size q) lo) (G.above b m)), Nat.ne_of_lt (Nat.lt_of_lt_of_le (Heap.lt_size q) lo)⟩
  have kp : ∀ b u, H b = some u → putP (upd H S (.lst (as.map V.ref))) as (xs.zip ys) b = some u := fun b u q =>
    (off b (fun m => by rw [new b m] at q; cases q) fun z => by rw [z, newS] at q; cases q).trans q
  have eS : putP (upd H S (.lst (as.map V.ref))) as (xs.zip ys) S = some (.lst (as.map V.ref)) := (putP_off as _ _ nS).trans (upd_same ..)
  refine ⟨_, kp, newS, new, nS, eS, atP, I.call' (ch := []) rfl ⟨fun b o q _ _ _ => k b o q, fun b o q _ _ _ => ⟨o.slots, k b o q⟩, fun b o q n _ => ?_, fun b o q _ => ⟨o, k b o q⟩, fun b xs q => kp b _ q, fun b o u q => kp b _ q, fun b ps q => ⟨#[], by rw [kp b _ q]; simp⟩⟩ (fun b u q => ?_) I.bare fun b z => by simp at z⟩
  · obtain ⟨z1, z2⟩ := low b o q
    exact (off b z1 z2).trans n
  · by_cases hb : b ∈ as
    · obtain ⟨j, pk, e1, e2, e3⟩ := LiI.paired_ix atP hb
      rw [e3] at q
      cases q
      obtain ⟨x, y, f1, f2, f3⟩ := G.tups j b e1
      obtain ⟨u, v, g1, g2, g3, g4⟩ := vals_zip rx ry e2
      rw [List.getElem?_toArray] at f1 f2
      obtain rfl : x = u := Option.some.inj (f1.symm.trans g1)
      obtain rfl : y = v := Option.some.inj (f2.symm.trans g2)
      exact ⟨by show 2 ≤ sizeLine; decide, [x, y], .cons g3 (.cons g4 .nil), ⟨_, f3, rfl, _, rfl⟩⟩
    · by_cases hb2 : b = S
      · rw [hb2] at q ⊢
        rw [eS] at q
        cases q
        refine ⟨by rw [List.length_map, lz, List.length_zip]; omega, acc.toList, c, by rw [ea]; exact LiI.vals_refs as, ?_⟩
        rw [Array.toArray_toList]
        exact at0
      · rw [off b hb hb2] at q
        exact (I.hok b u q).stay (fun d v _ y => k d v y) (fun d y => kp d _ y) fun d xs y => kp d _ y
/-- list(zip(t, l)) -/
theorem pe_listZip (K : PySem.W.Frag) (hc : X.calm = true) (hg : Gl X "list") (hm : X.mg "list" = none) (hg2 : Gl X "zip") (hm2 : X.mg "zip" = none) (ha : PA X [e, e2] ta) (eK : X.K = K := by rfl)
    (hv : bootBuiltins "list" = some (.type "list") := by rfl)
    (hs : starEach [e, e2] X.env = (false, eval e X.env) :: starEach [e2] X.env := by rfl) (hpl : (backTo pos2 (starEach [e2] X.env)).any (·.1) = false := by rfl)
    (hs2 : starEach [.Call (.Name "zip" p2) [e, e2] [] pos2] X.env = (false, eval (.Call (.Name "zip" p2) [e, e2] [] pos2) X.env) :: starEach [] X.env := by rfl) :
    PE X (.Call (.Name "list" p) [.Call (.Name "zip" p2) [e, e2] [] pos2] [] pos) (tLZip K ta) := by
  subst eK
  refine ⟨fun pins s σ H Q I hq => ?_⟩
  refine wpAny_Call_Name_kw (ld_blt I hg hm hv ?_)
  refine PyProof.Rows.callWith_type1 ?_ hs2 rfl
  rw [hs2]
  refine (show wpAny _ _ (spliced ((false, eval (.Call (.Name "zip" p2) [e, e2] [] pos2) X.env) :: backTo pos (starEach [] X.env))) _ _ s from Calls.spliced_cons ?_)
  refine Call_ (ld_blt I hg2 hm2 PyProof.Rows.boot_zip (PyProof.Rows.callWith_type1 (thn (ha.run pos2 pins s σ H _ I hq) fun us s1 ⟨vs, H1, I1, r1, q1⟩ => ?_) hs hpl))
  obtain ⟨t, l, xs, ys, rfl, ht, hl, q⟩ := q1
  cases r1 with
  | cons r rr =>
    cases rr with
    | cons r2 rr =>
      cases rr
      cases r
      cases r2
      obtain ⟨i1, rv1, p1, z1⟩ := I1.tuple ht
      obtain ⟨i2, rv2, p2, z2⟩ := I1.list hl
      have hlt1 : t < s1.heap.objs.size := by obtain ⟨o, ho, _⟩ := id p1; exact Heap.lt_size ho
      have hlt2 : l < s1.heap.objs.size := p2.lt
      refine zip_begins2 (begins_tuple t i1.toArray) (begins_list l i2.toArray) p1 p2.isList fun g hz hTI hTO g1 g2 sz kp => ?_
      refine Calls.spliced_nil ?_
      have n0 : t ≠ s1.heap.objs.size := Nat.ne_of_lt hlt1
      have n1 : l ≠ s1.heap.objs.size + 1 := Nat.ne_of_lt (Nat.lt_succ_of_lt hlt2)
      have m0 : (s1.heap.objs.size : Nat) < s1.heap.objs.size + 2 := by omega
      have m1 : (s1.heap.objs.size + 1 : Nat) < s1.heap.objs.size + 2 := by omega
      have m2 : (s1.heap.objs.size + 2 : Nat) < s1.heap.objs.size + 3 := by omega
      have m3 : (s1.heap.objs.size + 3 : Nat) < s1.heap.objs.size + 4 := by omega
      have m5 : (s1.heap.objs.size + 4 : Nat) < g.objs.size := by omega
      have q0 : (s1.heap.objs.size : Nat) < s1.heap.objs.size + 1 := by omega
      have t1 : t < s1.heap.objs.size + 1 := Nat.lt_trans hlt1 q0
      have l0 : l < s1.heap.objs.size + 1 := Nat.lt_trans hlt2 q0
      have two : ∀ {a b c : Addr}, a ≠ b → a ≠ c → a ∉ [b, c] := fun h1 h2 m => by
        rcases List.mem_cons.mp m with m | m
        · exact h1 m
        · exact h2 (List.mem_singleton.mp m)
      have L : ZLow g.objs.size (s1.heap.objs.size + 4) (s1.heap.objs.size + 2) (s1.heap.objs.size + 3) s1.heap.objs.size (s1.heap.objs.size + 1) t l :=
        ⟨⟨Nat.ne_of_lt (Nat.lt_trans m2 m3), Nat.ne_of_lt m3, Nat.ne_of_lt m2, Nat.ne_of_gt m0, List.mem_cons_self, two (Nat.ne_of_gt (Nat.lt_trans m0 (Nat.lt_trans m2 m3))) (Nat.ne_of_gt (Nat.lt_trans t1 (Nat.lt_trans m1 (Nat.lt_trans m2 m3)))),
          two (Nat.ne_of_gt (Nat.lt_trans m0 m2)) (Nat.ne_of_gt (Nat.lt_trans t1 (Nat.lt_trans m1 m2))), Nat.ne_of_gt m1, List.mem_cons_self, two (Nat.ne_of_gt (Nat.lt_trans m1 (Nat.lt_trans m2 m3))) (Nat.ne_of_gt (Nat.lt_trans l0 (Nat.lt_trans m1 (Nat.lt_trans m2 m3)))),
          two (Nat.ne_of_gt (Nat.lt_trans m1 m2)) (Nat.ne_of_gt (Nat.lt_trans l0 (Nat.lt_trans m1 m2))), two (Nat.ne_of_lt q0) (Nat.ne_of_gt hlt2), two (Nat.ne_of_gt q0) (Nat.ne_of_gt t1)⟩,
         m5, Nat.lt_trans (Nat.lt_trans m2 m3) m5, Nat.lt_trans m3 m5, Nat.lt_trans (Nat.lt_trans m0 (Nat.lt_trans m2 m3)) m5, Nat.lt_trans (Nat.lt_trans m1 (Nat.lt_trans m2 m3)) m5, Nat.lt_trans t1 (Nat.lt_trans (Nat.lt_trans m1 (Nat.lt_trans m2 m3)) m5), Nat.lt_trans l0 (Nat.lt_trans (Nat.lt_trans m1 (Nat.lt_trans m2 m3)) m5), n0, n1⟩
      have I2 : Inv X pins σ H1 { s1 with heap := g } := I1.kept (t' := s1.toks) kp
      have few : min i1.toArray.size i2.toArray.size ≤ sizeLine := by
        have := rv1.length
        simp
        omega
      refine zipList (s := { s1 with heap := g }) (xs := i1.toArray) (ys := i2.toArray) (I1.ok.hd hc) L few ⟨hz, hTI, ⟨_, _, hTO⟩, ⟨⟨_, g1, rfl, rfl⟩, Heap.IsTuple.at p1 fun o => kp _ o⟩, ⟨⟨_, g2, rfl, rfl⟩, p2.isList.at fun o => kp _ o⟩⟩ fun g3 tk acc2 c2 as2 d at3 => ?_
      obtain ⟨d1, d2, d3, d4⟩ := d
      have low : ∀ b o, s1.heap.get? b = some o → g3.get? b = some o := fun b o e => by
        have h0 := Heap.lt_size e
        exact d1 b o (Nat.lt_trans h0 (Nat.lt_trans (Nat.lt_trans m0 (Nat.lt_trans m2 m3)) m5)) (Nat.ne_of_lt (Nat.lt_trans h0 (Nat.lt_trans m0 (Nat.lt_trans m2 m3)))) (Nat.ne_of_lt (Nat.lt_trans h0 (Nat.lt_trans m0 m2))) (Nat.ne_of_lt h0) (Nat.ne_of_lt (Nat.lt_trans h0 q0)) (kp b o e)
      obtain ⟨H2, k1, k2, k3, k4, k5, k6, J⟩ := zip_laid (tk := tk) (S := g.objs.size) I1 (Nat.le_of_lt (Nat.lt_trans (Nat.lt_trans m0 (Nat.lt_trans m2 m3)) m5)) z1 rv1 rv2 low at3 d2 d3 d4
      exact ⟨.ref _, H2, J, rfl, q H2 _ as2 k1 k2 k3 k4 k5 k6⟩
end
end Pf

/-! own names: tuple(t) of a tuple, list(zip(t, l)) taken by a walk -/
namespace Pf
open PySem PySem.Spec PyProof.Rows L2
section
variable {X : Cx}
def rTupO (K : PySem.W.Frag) : List V → Hp → VK → Prop := fun xs H Q => ∃ p ys, xs = [.ref p] ∧ ((SqL K H p ys ∧ ∀ l, H l = none → Q (.ref l) (upd H l (.tup ys))) ∨ (SqT K H p ys ∧ Q (.ref p) H))
theorem call_tupleOfK (K : PySem.W.Frag) (e : X.K = K := by rfl) : CallR X (.type "tuple") (rTupO K) := e ▸ call_tuple_of
theorem r_tupO {K : PySem.W.Frag} {H : Hp} {p : Addr} {ys : List V} {Q : VK} (h : SqT K H p ys) (q : Q (.ref p) H) : rTupO K [.ref p] H Q := ⟨p, ys, rfl, .inr ⟨h, q⟩⟩
theorem r_lzip {K : PySem.W.Frag} {ta : TA} {σ : L2.St} {H : Hp} {Q : VK} (h : ta σ H fun us H1 => ∃ (t l : Addr) (xs ys : List V), us = [.ref t, .ref l] ∧ SqT K H1 t xs ∧ SqL K H1 l ys ∧
    ∀ (H2 : Hp) (p : Addr) (as : List Addr), (∀ b o, H1 b = some o → H2 b = some o) → H1 p = none → (∀ a ∈ as, H1 a = none) → p ∉ as → H2 p = some (.lst (as.map V.ref)) →
      Paired (fun (a : Addr) (q : V × V) => H2 a = some (.tup [q.1, q.2])) as (xs.zip ys) → Q (.ref p) H2) : tLZip K ta σ H Q := h
theorem forN_rev {K : PySem.W.Frag} {a : Addr} {xs : List V} {g : TG} {tb : (L2.St → Hp → Prop) → L2.St → Hp → Prop} {Nx : L2.St → Hp → Prop} {σ : L2.St} {H : Hp} (Pv : Nat → L2.St → Hp → Prop) (h0 : Pv 0 σ H) (hl : ∀ i σ H, i ≤ xs.length → Pv i σ H → SqL K H a xs)
    (hs : ∀ i x σ H, i < xs.length → xs[xs.length - 1 - i]? = some x → Pv i σ H → g x σ H fun σ2 H2 => tb (Pv (i + 1)) σ2 H2) (hd : ∀ σ H, Pv xs.length σ H → Nx σ H) :
    ∃ W : Nat → Nat → L2.St → Hp → Prop, (∃ m, W 0 m σ H) ∧ ∀ i m σ H, W i m σ H →
      ((Itv K a xs.length).stop i H ∧ Nx σ H) ∨ ((Itv K a xs.length).go i H ∧ ∃ N : L2.St → Hp → Prop, (∀ σ' H', N σ' H' → ∃ m', m' < m ∧ W (i + 1) m' σ' H') ∧ ∀ x H', (Itv K a xs.length).yld i H x H' → g x σ H' fun σ2 H2 => tb N σ2 H2) := by
  refine ⟨fun i m σ H => m = xs.length - i ∧ i ≤ xs.length ∧ Pv i σ H, ⟨xs.length, by omega, by omega, h0⟩, ?_⟩
  rintro i m σ H ⟨rfl, hi, hP⟩
  rcases Nat.lt_or_ge i xs.length with lt | ge
  · have e : xs[xs.length - 1 - i]? = some xs[xs.length - 1 - i] := List.getElem?_eq_getElem (by omega)
    have sq := hl i σ H hi hP
    refine .inr ⟨⟨lt, xs, _, sq, e⟩, Pv (i + 1), fun σ2 H2 q => ⟨xs.length - (i + 1), by omega, rfl, by omega, q⟩, fun x H2 y => ?_⟩
    obtain ⟨rfl, y⟩ := y
    exact hs i x σ H2 lt (y xs sq) hP
  · obtain rfl : i = xs.length := by omega
    exact .inl ⟨Nat.le_refl _, hd σ H hP⟩
end
end Pf

/-! own rules: set(xs) of a list, sorted of such a set; for keys that are compared by value -/
namespace Pf
open PySem PySem.Spec PyProof.Rows L2
theorem pd_perm {α β : Type} {R : α → β → Prop} {l l2 : List α} (p : l2.Perm l) : ∀ {ks : List β}, Paired R l ks → ∃ ks2 : List β, ks2.Perm ks ∧ Paired R l2 ks2 := by
  induction p with
  | nil => exact fun h => ⟨_, .refl _, h⟩
  | cons x _ ih =>
    intro ks h
    cases h with
    | cons r t =>
      obtain ⟨k2, p2, h2⟩ := ih t
      exact ⟨_, p2.cons _, .cons r h2⟩
  | swap x y _ =>
    intro ks h
    cases h with
    | cons r t =>
      cases t with
      | cons r2 t2 => exact ⟨_, .swap _ _ _, .cons r2 (.cons r t2)⟩
  | trans _ _ ih1 ih2 =>
    intro ks h
    obtain ⟨k1, p1, h1⟩ := ih2 h
    obtain ⟨k2, p2, h2⟩ := ih1 h1
    exact ⟨k2, p2.trans p1, h2⟩
section
variable {P : Program} {w : World} {KK : Type} [DecidableEq KK]
/-- a set's entries and table, its keys ks in some order -/
structure KTab (knd : PySem.KeyKind P w KK) (es : Array (Int × Value)) (t : SetTable) (ks : List KK) : Prop where
  el : ElemsOf knd es.toList
  keys : ∃ k2 : List KK, k2.Perm ks ∧ Paired (fun e k => knd.is k e.2 = true) es.toList k2
  nd : ks.Nodup
  few : es.size < scanBound
  fit : t.fits es.size = true
  ris : Ris t.place.toList
  led : w.params.followText "set-order" = true ∨ t.led = true
variable {knd : PySem.KeyKind P w KK} {es es2 : Array (Int × Value)} {t t2 : SetTable} {ks : List KK}
theorem KTab.size (F : KTab knd es t ks) : es.size = ks.length := by
  obtain ⟨k2, p, h⟩ := F.keys
  rw [← p.length_eq, ← pd_len h, Array.length_toList]
theorem KTab.mem (F : KTab knd es t ks) (k : KK) : k ∈ ks ↔ ∃ e ∈ es.toList, knd.is k e.2 = true := by
  obtain ⟨k2, p, h⟩ := F.keys
  rw [← p.mem_iff]
  constructor
  · intro hk
    obtain ⟨i, hi⟩ := List.mem_iff_getElem?.mp hk
    obtain ⟨e, he, r⟩ := pd_get h hi
    exact ⟨e, List.mem_of_getElem? he, r⟩
  · rintro ⟨e, he, r⟩
    obtain ⟨i, hi⟩ := List.mem_iff_getElem?.mp he
    obtain ⟨k3, hk3, r3⟩ := pd_get' h hi
    rw [knd.inj _ _ _ r r3]
    exact List.mem_of_getElem? hk3
theorem KTab.perm (F : KTab knd es t ks) (p : List.Perm es2.toList es.toList) (fit : t2.fits es2.size = true) (ris : Ris t2.place.toList) (led : t2.led = t.led) : KTab knd es2 t2 ks := by
  obtain ⟨k2, pk, h⟩ := F.keys
  obtain ⟨k3, p3, h3⟩ := pd_perm p h
  have sz : es2.size = es.size := by rw [← Array.length_toList, p.length_eq, Array.length_toList]
  exact ⟨F.el.perm p, ⟨k3, p3.trans pk, h3⟩, F.nd, by rw [sz]; exact F.few, fit, ris, F.led.imp id fun z => by rw [led]; exact z⟩
theorem KTab.push (F : KTab knd es t ks) {k : KK} {x : Value} (is : knd.is k x = true) (sc : x.scannable = true) (new : k ∉ ks) (room : ks.length + 1 < scanBound) (p : List.Perm es2.toList (es.push (knd.hash k, x)).toList)
    (fit : t2.fits es2.size = true) (ris : Ris t2.place.toList) (led : t2.led = t.led) : KTab knd es2 t2 (k :: ks) := by
  rw [Array.toList_push] at p
  obtain ⟨k2, pk, h⟩ := F.keys
  obtain ⟨k3, p3, h3⟩ := pd_perm p (pd_snoc (x := (knd.hash k, x)) h is)
  have sz : es2.size = es.size + 1 := by rw [← Array.length_toList, p.length_eq, List.length_append, Array.length_toList]; rfl
  refine ⟨(F.el.push (k := k) (x := x) is sc).perm p, ⟨k3, p3.trans ((List.perm_append_singleton k k2).trans (pk.cons k)), h3⟩, List.nodup_cons.mpr ⟨new, F.nd⟩, by rw [sz, F.size]; exact room, fit, ris, F.led.imp id fun z => by rw [led]; exact z⟩
/-- the set at a -/
def KSet (knd : PySem.KeyKind P w KK) (h : Heap) (a : Addr) (ks : List KK) : Prop := ∃ (o : Obj) (es : Array (Int × Value)) (age : Nat) (t : SetTable), h.get? a = some o ∧ o.ExactSet ∧ o.data = .set es age t ∧ KTab knd es t ks
theorem KSet.keep {h h2 : Heap} {a : Addr} (F : KSet knd h a ks) (k : ∀ o, h.get? a = some o → h2.get? a = some o) : KSet knd h2 a ks := by
  obtain ⟨o, es, age, t, ho, r⟩ := F
  exact ⟨o, es, age, t, k o ho, r⟩
variable {A : Around} {E : Value → Shared → Prop} {s : Shared} {a : Addr}
theorem layTail {say : Bool → Sem Unit} (quiet : ∀ (b : Bool) (s2 : Shared) (Q2 : Unit → Shared → Prop), Q2 () s2 → wpAny (model P w) A (say b) Q2 E s2) {o : Obj} {age : Nat} (at0 : s.heap.get? a = some o) (exa : o.ExactSet) (dat : o.data = .set es age t)
    (F : KTab knd es2 t2 ks) {dum : Bool} {R : Option Bool → Shared → Prop} (next : ∀ g, Heap.SameBut a s.heap g → KSet knd g a ks → R (some true) { s with heap := g }) :
    wpAny (model P w) A (do
        storeSet a es2 t2
        if (!dum && t2.tooFull) = true then do
            say (relayAll t2 es2 (SetTable.grown es2.size)).2.2
            storeSet a (relayAll t2 es2 (SetTable.grown es2.size)).1 (relayAll t2 es2 (SetTable.grown es2.size)).2.1
            pure (some true)
          else pure (some true)) R E s := by
  refine wpAny_bind (wpAny_storeSet_of at0 dat ?_ (fits_of_scanBound F.few))
  have at1 := store_at (es' := es2) (t' := t2) at0 dat
  have sb := Heap.SameBut.update s.heap a (Obj.putSet es2 t2)
  split
  · have G := F.perm (relayAll_perm t2 es2 (SetTable.grown es2.size)) (relayAll_fits t2 es2 (SetTable.grown es2.size)) (relayAll_ris t2 es2 (SetTable.grown es2.size)) (relayAll_led t2 es2 (SetTable.grown es2.size))
    generalize relayAll t2 es2 (SetTable.grown es2.size) = Z at G ⊢
    obtain ⟨es3, t3, gave⟩ := Z
    refine wpAny_bind (quiet _ _ _ (wpAny_bind (wpAny_storeSet_of at1 rfl ?_ (fits_of_scanBound G.few))))
    have at2 := store_at (es' := es3) (t' := t3) at1 rfl
    exact wpAny_pure (next _ (sb.trans (Heap.SameBut.update _ a _)) ⟨_, es3, _, t3, at2, exa, rfl, G⟩)
  · exact wpAny_pure (next _ sb ⟨_, es2, _, t2, at1, exa, rfl, F⟩)
theorem addOne {k : KK} {x : Value} {Q : Bool → Shared → Prop} (F : KSet knd s.heap a ks) (is : knd.is k x = true) (sc : x.scannable = true) (room : ks.length + 1 < scanBound)
    (next : ∀ g, Heap.SameBut a s.heap g → KSet knd g a (if k ∈ ks then ks else k :: ks) → Q (!decide (k ∈ ks)) { s with heap := g }) : wpAny (model P w) A (setAddHashed a x (knd.hash k)) Q E s := by
  obtain ⟨o, es, age, t, at0, exa, dat, T⟩ := F
  unfold setAddHashed setAddHashedIn
  refine wpAny_holding (wpAny_bind (wpAny_setState_of at0 dat T.fit ?_))
  dsimp only
  rw [byScan_of sc T.few T.el]
  simp only [↓reduceIte]
  unfold setAddByScan
  refine wpAny_bind (wpAny_bind (wpAny_rule (wpAny_bind (wpAny_setScan_of is at0 dat T.fit T.el ?_))))
  rcases f : List.findIdx? (fun e => knd.is k e.2) es.toList with _ | j
  · rw [f]
    have new : k ∉ ks := fun z => by
      obtain ⟨e, he, r⟩ := (T.mem k).mp z
      have c := List.findIdx?_eq_none_iff.mp f e he
      rw [r] at c
      cases c
    rw [if_neg new, decide_eq_false new] at next
    dsimp only
    have say : ∀ (b : Bool) {s2 : Shared} {Q2 : Unit → Shared → Prop}, Q2 () s2 → wpAny (model P w) A (match b with | true => rule "set.scan.the-table-gave-way" | false => pure ()) Q2 E s2 :=
      fun b s2 Q2 q => by
        cases b
        · exact wpAny_pure q
        · exact wpAny_rule q
    have G := T.push is sc new room (layNew_perm t es (knd.hash k) x) (layNew_fits t es (knd.hash k) x) (layNew_ris t es (knd.hash k) x T.ris) (layNew_led t es (knd.hash k) x)
    generalize layNew t es (knd.hash k) x = Z at G ⊢
    obtain ⟨es1, t1, dum, gave⟩ := Z
    dsimp only at G ⊢
    refine wpAny_bind (say _ ?_)
    split
    · refine wpAny_bind ?_
      rw [hashByValue_scannable 8 sc]
      refine wpAny_pure ?_
      have G2 : KTab knd es1 (if plainKind x = true then t1 else { t1 with plain := false }) (k :: ks) := by
        split
        · exact G
        · exact ⟨G.el, G.keys, G.nd, G.few, SetTable.fits_plain_off G.fit, G.ris, G.led⟩
      refine layTail (fun b s2 Q2 q => ?_) at0 exa dat G2 (fun g gs gk => ?_)
      · cases b
        · exact wpAny_pure q
        · exact wpAny_rule q
      · dsimp only
        exact wpAny_pure (next g gs gk)
    · refine wpAny_bind (wpAny_pure ?_)
      simp only [↓reduceIte]
      refine layTail (fun b s2 Q2 q => ?_) at0 exa dat G (fun g gs gk => ?_)
      · cases b
        · exact wpAny_pure q
        · exact wpAny_rule q
      · dsimp only
        exact wpAny_pure (next g gs gk)
  · rw [f]
    obtain ⟨hj, pj, _⟩ := List.findIdx?_eq_some_iff_getElem.mp f
    have old : k ∈ ks := (T.mem k).mpr ⟨es.toList[j], List.getElem_mem hj, pj⟩
    rw [if_pos old, decide_eq_true old] at next
    dsimp only
    exact wpAny_pure (wpAny_pure (next s.heap (Heap.SameBut.refl a s.heap) ⟨o, es, age, t, at0, exa, dat, T⟩))
theorem newAt {g : Heap} {a : Addr} {f0 : Bool} (ef : (!w.params.followText "set-order") = f0) (here : g.get? a = some { cls := .type "set", dict := none, data := .set #[] 0 (.fresh 0 0 f0) }) : KSet knd g a [] := by
  refine ⟨_, #[], 0, _, here, ⟨rfl, rfl, rfl⟩, rfl, fun e he => ?_, ⟨[], .refl _, .nil⟩, List.nodup_nil, by decide, by rfl, List.Pairwise.nil, ?_⟩
  · simp at he
  · show _ ∨ f0 = true
    rw [← ef]
    cases w.params.followText "set-order" <;> simp
/-- the keys met so far, each once, the last one first -/
def heap1 : List KK → List KK → List KK
  | acc, [] => acc
  | acc, k :: r => heap1 (if k ∈ acc then acc else k :: acc) r
theorem heap1_mem : ∀ (l acc : List KK) (x : KK), x ∈ heap1 acc l ↔ x ∈ acc ∨ x ∈ l
  | [], acc, x => by simp [heap1]
  | k :: r, acc, x => by
    rw [heap1, heap1_mem r]
    by_cases c : k ∈ acc
    · rw [if_pos c, List.mem_cons]
      exact ⟨fun z => z.elim .inl fun z => .inr (.inr z), fun z => z.elim .inl fun z => z.elim (fun e => .inl (e ▸ c)) .inr⟩
    · rw [if_neg c, List.mem_cons, List.mem_cons]
      exact ⟨fun z => z.elim (fun z => z.elim (fun e => .inr (.inl e)) .inl) fun z => .inr (.inr z), fun z => z.elim (fun z => .inl (.inr z)) fun z => z.elim (fun e => .inl (.inl e)) .inr⟩
theorem heap1_nd : ∀ (l acc : List KK), acc.Nodup → (heap1 acc l).Nodup
  | [], _, h => h
  | k :: r, acc, h => by
    rw [heap1]
    refine heap1_nd r _ ?_
    by_cases c : k ∈ acc
    · rw [if_pos c]; exact h
    · rw [if_neg c]; exact List.nodup_cons.mpr ⟨c, h⟩
theorem heap1_len : ∀ (l acc : List KK), (heap1 acc l).length ≤ acc.length + l.length
  | [], _ => Nat.le_refl _
  | k :: r, acc => by
    have q := heap1_len r (if k ∈ acc then acc else k :: acc)
    have z : (if k ∈ acc then acc else k :: acc).length ≤ acc.length + 1 := by split <;> simp
    rw [heap1, List.length_cons]
    omega
theorem heap1_step : ∀ (l acc : List KK) (k : KK), heap1 acc (l ++ [k]) = (if k ∈ heap1 acc l then heap1 acc l else k :: heap1 acc l)
  | [], acc, k => rfl
  | x :: r, acc, k => by
    rw [List.cons_append, heap1, heap1_step r, heap1]
/-- one more after the other -/
theorem loopKeys {I S : Addr} {fp wr : List Addr} {G : Array GenState → Array GenState → Prop} {n : Nat} {Pv : Nat → Value → Prop} {St : Nat → Shared → Prop} {R : Result → Shared → Prop} (W : WalksS P w A.in1 I fp wr G n Pv St) (apart : S ∉ fp)
    (ns : List KK) (many : n = ns.length) (room : ns.length + 1 < scanBound) (val : ∀ i v, Pv i v → ∃ k, ns[i]? = some k ∧ knd.is k v = true ∧ v.scannable = true) :
    ∀ (left i : Nat) (s : Shared), n - i = left → i ≤ n → St i s → KSet knd s.heap S (heap1 [] (ns.take i)) →
      (∀ s2, Moved (S :: wr) G s s2 → KSet knd s2.heap S (heap1 [] ns) → R (.ok (.ret .none)) s2) →
      codeAny (model P w) A (.builtin "set.update.loop" ⟨[.ref S, .ref I], []⟩) R s := by
  have nw : S ∉ wr := fun z => apart (W.sub _ z)
  have wide : ∀ b ∈ wr, b ∈ S :: wr := fun b z => List.mem_cons_of_mem _ z
  intro left
  induction left with
  | zero =>
    intro i s el hi st F done
    obtain rfl : i = n := by omega
    refine codeAny_builtin PyProof.Rows.F.entry_set_update_loop ?_
    rw [Around.under_plainId PyProof.Rows.F.plain_set_update_loop _]
    refine (show wpAny _ A.in1 (pyNext (.ref I) >>= _) _ _ s from wpAny_bind (W.done s _ _ st fun s2 mv => ?_))
    rw [List.take_of_length_le (Nat.le_of_eq many.symm)] at F
    exact (show wpAny _ A.in1 (ret Value.none) _ _ s2 from wpAny_pure (done s2 (mv.mono wide) (F.keep fun o e => mv.heap S o nw e)))
  | succ left ih =>
    intro i s el hi st F done
    have lt : i < n := by omega
    refine codeAny_builtin PyProof.Rows.F.entry_set_update_loop ?_
    rw [Around.under_plainId PyProof.Rows.F.plain_set_update_loop _]
    refine (show wpAny _ A.in1 (pyNext (.ref I) >>= _) _ _ s from wpAny_bind (W.item i s _ _ lt st fun v s2 pv st2 mv => ?_))
    obtain ⟨k, hk, is, sc⟩ := val i v pv
    have F2 : KSet knd s2.heap S (heap1 [] (ns.take i)) := F.keep fun o e => mv.heap S o nw e
    have ln := heap1_len (ns.take i) []
    rw [List.length_take, List.length_nil] at ln
    refine (show wpAny _ A.in1 (holding [v] (setAdd S v) >>= _) _ _ s2 from wpAny_bind (wpAny_holding ?_))
    unfold setAdd
    refine wpAny_holding (wpAny_bind (knd.pyHash is ?_))
    refine addOne (s := { s2 with toks := s2.toks + 1 }) F2 is sc (by omega) fun g gs F3 => ?_
    rw [← heap1_step, show ns.take i ++ [k] = ns.take (i + 1) by rw [List.take_add_one, hk]; rfl] at F3
    refine wpAny_pure ⟨plainId_quiet PyProof.Rows.F.plain_set_update_loop _, ih (i + 1) _ (by omega) lt (W.frame _ s2 _ _ st2 (Nat.le_succ _) fun b hb o e => ?_) F3 fun s3 mv3 F4 => ?_⟩
    · rw [gs.2 b (fun z : b = S => apart (z ▸ hb))]; exact e
    · refine done s3 (Moved.trans W.gtrans ((mv.mono wide).then_heap (Nat.le_succ _) fun b o hb e => ?_) mv3) F4
      rw [gs.2 b (fun z : b = S => hb (by rw [z]; exact List.mem_cons_self))]; exact e
/-- set(xs), xs a list -/
theorem callSetList {l : Addr} {items : Array Value} (ns : List KK) {Q : Value → Shared → Prop} (calm : A.handled = none) (isl : s.heap.IsList l items) (many : items.size = ns.length) (room : ns.length + 1 < scanBound)
    (val : ∀ (i : Nat) v, items[i]? = some v → ∃ k, ns[i]? = some k ∧ knd.is k v = true ∧ v.scannable = true)
    (next : ∀ (g : Heap) (tk : Nat), KSet knd g s.heap.objs.size (heap1 [] ns) → (∀ b o, s.heap.get? b = some o → g.get? b = some o) → Q (.ref s.heap.objs.size) { s with heap := g, toks := tk }) :
    wpAny (model P w) A (call (.type "set") [.ref l]) Q E s := by
  generalize ef : (!w.params.followText "set-order") = fresh0
  obtain ⟨c0, tl0, mro0⟩ := PySem.F.called_set.mro
  have made0 := PySem.F.called_set.made
  have sub0 := PySem.F.called_set.sub
  refine wpAny_call (codeAny_of_tree (show wpAny _ _ (callAny (.type "set") _) _ _ _ from wpAny_pure ⟨Code.quiet_builtin _ (by decide +kernel), codeAny_builtin PySem.F.entry_type_call ?_⟩))
  rw [Around.under_plain (weight_type_call_type "set" [.ref l] []) rfl]
  have n1 := PySem.F.called_set.notType
  have n2 := PySem.F.called_set.canCreate
  have n3 := PySem.F.typeCall_set_1 (.ref l)
  repeat (any_goals (first | assumption | wp_step))
  refine codeAny_mono (code_set_led1 (.ref l) (E := E) (Q₁ := fun ob s2 => ob = .ref s.heap.objs.size ∧ s2 = { s with heap := s.heap.push { cls := .type "set", dict := none, data := .set #[] 0 (.fresh 0 0 fresh0) } }) (by rw [ef]; exact ⟨rfl, rfl⟩)) fun r s2 hr => ?_
  rcases r with e | fl
  · exact hr
  · cases fl with
    | ret ob =>
      obtain ⟨rfl, rfl⟩ := hr
      have at0 : (s.heap.push { cls := .type "set", dict := none, data := .set #[] 0 (.fresh 0 0 fresh0) }).get? s.heap.objs.size = some { cls := .type "set", dict := none, data := .set #[] 0 (.fresh 0 0 fresh0) } := Heap.get?_push_size _ rfl
      have ty0 : Shared.TypeIs { s with heap := s.heap.push { cls := .type "set", dict := none, data := .set #[] 0 (.fresh 0 0 fresh0) } } (.ref s.heap.objs.size) "set" := ⟨_, at0, rfl⟩
      have li := PySem.F.called_set.init.lookup
      have bi := PySem.F.called_set.init.bind (.ref s.heap.objs.size)
      repeat (any_goals (first | assumption | wp_step))
      refine codeAny_mono (codeAny_call_builtin (R := wants (fun r s2 => r = .none ∧ ∃ g tk, s2 = { s with heap := g, toks := tk } ∧ KSet knd g s.heap.objs.size (heap1 [] ns) ∧ (∀ b o, s.heap.get? b = some o → g.get? b = some o)) E)
        PySem.F.called_set.init.plain PySem.F.entry_set_init (check_set_init_1 ty0 ?_)) fun r2 s2 hr2 => ?_
      · obtain ⟨ol, atl, cl, nl, dl⟩ := isl
        obtain ⟨oc, od, oda, osl⟩ := ol
        simp only at cl dl
        subst cl dl
        have atl2 : (s.heap.push { cls := .type "set", dict := none, data := .set #[] 0 (.fresh 0 0 fresh0) }).get? l = some { cls := .type "list", dict := od, data := .seq items nl, slots := osl } := Heap.get?_push_of_some _ atl
        have m1 := PySem.F.sub_list_set
        have m2 := PySem.F.sub_list_frozenset
        have m3 : (Value.type "list" == Value.type "dict") = false := by decide
        have isl2 : (s.heap.push { cls := .type "set", dict := none, data := .set #[] 0 (.fresh 0 0 fresh0) }).IsList l items := ⟨_, atl2, rfl, nl, rfl⟩
        unfold Builtin.«set.__init__» noKeywords Builtin.Frozenset.updateFrom
        generalize epi : pyIter = pi
        wp_walk
        subst epi
        refine wpAny_pyIter_list isl2 (wpAny_bind (wpAny_runValue ?_))
        have ltl : l < s.heap.objs.size := Heap.lt_size atl
        have calm3 : A.in1.in1.in1.handled = none := by simp [calm]
        have nI : l ≠ (s.heap.push { cls := .type "set", dict := none, data := .set #[] 0 (.fresh 0 0 fresh0) }).objs.size := by
          rw [Heap.size_push]; exact Nat.ne_of_lt (Nat.lt_succ_of_lt ltl)
        have apart : s.heap.objs.size ∉ [(s.heap.push { cls := .type "set", dict := none, data := .set #[] 0 (.fresh 0 0 fresh0) }).objs.size, l] := by
          rw [Heap.size_push]
          intro z
          rcases List.mem_cons.mp z with z | z
          · exact absurd z (Nat.ne_of_lt (Nat.lt_succ_self _))
          · exact absurd (List.mem_singleton.mp z) (Nat.ne_of_gt ltl)
        refine loopKeys (knd := knd) ((Walks.list calm3 _ l nI items).toS) apart ns many room val (items.size - 0) 0 _ (by omega) (Nat.zero_le _) ⟨⟨_, Heap.get?_push_size _ rfl, rfl, rfl⟩, (isl2.push _)⟩ ?first ?last
        case first =>
          have here : ((s.heap.push { cls := .type "set", dict := none, data := .set #[] 0 (.fresh 0 0 fresh0) }).push { cls := .type "list_iterator", data := .fields #[.ref l, .int 0 0] }).get? s.heap.objs.size = some { cls := .type "set", dict := none, data := .set #[] 0 (.fresh 0 0 fresh0) } := Heap.get?_push_of_some _ at0
          exact newAt ef here
        case last =>
          intro s3 mv F
          obtain ⟨g, g3, d3, tk3, os3⟩ := s3
          obtain rfl : g3 = s.gens := mv.gens
          obtain rfl : d3 = s.drawn := mv.drawn
          obtain rfl : os3 = s.os := mv.os
          refine (show wpAny _ _ _ _ _ _ from wpAny_pure (show wpAny _ _ (ret Value.none) _ _ _ from wpAny_pure ⟨rfl, g, tk3, rfl, F, fun b o e => ?_⟩))
          have lt0 : b < s.heap.objs.size := Heap.lt_size e
          refine mv.heap b o (fun z => ?_) (Heap.get?_push_of_some _ (Heap.get?_push_of_some _ e))
          rcases List.mem_cons.mp z with z | z
          · exact absurd z (Nat.ne_of_lt lt0)
          · have z : b = (s.heap.push { cls := .type "set", dict := none, data := .set #[] 0 (.fresh 0 0 fresh0) }).objs.size := List.mem_singleton.mp z
            rw [Heap.size_push] at z
            exact absurd z (Nat.ne_of_lt (Nat.lt_succ_of_lt lt0))
      · rcases r2 with e | fl2
        · exact hr2
        · cases fl2 with
          | ret r =>
            obtain ⟨rfl, g, tk, rfl, F, kp⟩ := hr2
            repeat (any_goals (first | assumption | wp_step))
            exact next _ _ F kp
          | _ => exact hr2.elim
    | _ => exact hr.elim
end
end Pf

/-! names as texts: pure -/
namespace Pf
open PySem PySem.Spec PyProof.Rows L2
abbrev smallS : Str := "abcdefghijklmnopqrstuvwxyz"
abbrev greatS : Str := "ABCDEFGHIJKLMNOPQRSTUVWXYZ"
abbrev figS : Str := "0123456789"
theorem app_cps (x y : Str) : (x ++ y).cps.toList = x.cps.toList ++ y.cps.toList := by
  show (x.cps ++ y.cps).toList = _
  rw [Array.toList_append]
theorem len_cps (x : Str) : x.length = x.cps.toList.length := rfl
theorem str_ext {x y : Str} (h : x.cps.toList = y.cps.toList) : x = y := by
  cases x; cases y
  simp only [Str.mk.injEq]
  exact Array.toList_inj.mp h
/-- a short text of these letters and figures, a letter ahead -/
def WordOk (L : Str) (w : Str) : Prop := ∃ c r, w.cps.toList = c :: r ∧ c ∈ L.cps.toList ∧ (∀ x ∈ r, x ∈ (L ++ figS).cps.toList) ∧ r.length ≤ 7
abbrev NameOk : Str → Prop := WordOk smallS
theorem WordOk.ne {L w : Str} (h : WordOk L w) : w ≠ "" := by
  rintro rfl
  obtain ⟨c, r, e, _⟩ := h
  cases e
theorem WordOk.len {L w : Str} (h : WordOk L w) : 1 ≤ w.length ∧ w.length ≤ 8 := by
  obtain ⟨c, r, e, _, _, l⟩ := h
  rw [len_cps, e, List.length_cons]
  omega
theorem WordOk.one {L : Str} {c : Nat} (h : c ∈ L.cps.toList) : WordOk L ⟨#[c]⟩ := ⟨c, [], rfl, h, fun _ z => (nomatch z), Nat.zero_le _⟩
theorem WordOk.more {L w : Str} {c : Nat} (h : WordOk L w) (l : w.length ≤ 7) (hc : c ∈ (L ++ figS).cps.toList) : WordOk L (w ++ ⟨#[c]⟩) := by
  obtain ⟨d, r, e, h1, h2, h3⟩ := h
  rw [len_cps, e, List.length_cons] at l
  refine ⟨d, r ++ [c], by rw [app_cps, e]; rfl, h1, fun x hx => ?_, by rw [List.length_append]; show r.length + 1 ≤ 7; omega⟩
  rcases List.mem_append.mp hx with z | z
  · exact h2 x z
  · rw [List.mem_singleton.mp z]; exact hc
theorem low_small : ∀ c ∈ (smallS ++ figS).cps.toList, c < 128 := by decide +kernel
theorem low_great : ∀ c ∈ (greatS ++ figS).cps.toList, c < 128 := by decide +kernel
theorem WordOk.sok {L w : Str} (hL : ∀ c ∈ (L ++ figS).cps.toList, c < 128) (h : WordOk L w) : PyData.strOk w = true := by
  obtain ⟨d, r, e, h1, h2, h3⟩ := h
  unfold PyData.strOk
  rw [Array.all_eq_true_iff_forall_mem]
  intro x hx
  have hx : x ∈ w.cps.toList := hx.val
  rw [e] at hx
  rw [decide_eq_true_iff]
  rcases List.mem_cons.mp hx with z | z
  · rw [z]
    have := hL d (by rw [app_cps]; exact List.mem_append.mpr (.inl h1))
    omega
  · have := hL x (h2 x z)
    omega
theorem NameOk.sok {w : Str} (h : NameOk w) : PyData.strOk w = true := WordOk.sok low_small h
/-- the same by reckoning -/
def wordB (L : Str) (w : Str) : Bool := match w.cps.toList with
  | [] => false
  | c :: r => decide ((c :: r).length ≤ 8) && (decide (c ∈ L.cps.toList) && (c :: r).all fun x => decide (x ∈ (L ++ figS).cps.toList))
theorem wordB_iff {L w : Str} : wordB L w = true ↔ WordOk L w := by
  unfold wordB WordOk
  constructor
  · intro h
    split at h
    · cases h
    · rename_i c r e
      simp only [Bool.and_eq_true, decide_eq_true_iff, List.all_eq_true, List.length_cons] at h
      exact ⟨c, r, e, h.2.1, fun x hx => h.2.2 x (List.mem_cons_of_mem _ hx), by omega⟩
  · rintro ⟨c, r, e, h1, h2, h3⟩
    rw [e]
    simp only [Bool.and_eq_true, decide_eq_true_iff, List.all_eq_true, List.length_cons]
    refine ⟨by omega, h1, fun x hx => ?_⟩
    rcases List.mem_cons.mp hx with z | z
    · rw [z, app_cps]; exact List.mem_append.mpr (.inl h1)
    · exact h2 x z
theorem at_mem {l : List Nat} {i : Int} (h0 : 0 ≤ i) (h1 : i < l.length) : ∃ c, atI l i = some c ∧ c ∈ l := by
  obtain ⟨j, rfl⟩ := Int.eq_ofNat_of_zero_le h0
  have hj : j < l.length := by omega
  exact ⟨l[j], atI_nat (List.getElem?_eq_getElem hj), List.getElem_mem hj⟩
theorem at_memV {α : Type} {l : List α} {i : Int} (h0 : 0 ≤ i) (h1 : i < l.length) : ∃ c, atI l i = some c ∧ c ∈ l := by
  obtain ⟨j, rfl⟩ := Int.eq_ofNat_of_zero_le h0
  have hj : j < l.length := by omega
  exact ⟨l[j], atI_nat (List.getElem?_eq_getElem hj), List.getElem_mem hj⟩
theorem dig4 {d : Int} (h0 : 0 ≤ d) (h1 : d < 4) : ∃ c, Str.ofString (toString d) = ⟨#[c]⟩ ∧ c ∈ (smallS ++ figS).cps.toList ∧ c ∈ (greatS ++ figS).cps.toList := by
  have e : d = 0 ∨ d = 1 ∨ d = 2 ∨ d = 3 := by omega
  rcases e with rfl | rfl | rfl | rfl
  · exact ⟨48, by decide +kernel, by decide +kernel, by decide +kernel⟩
  · exact ⟨49, by decide +kernel, by decide +kernel, by decide +kernel⟩
  · exact ⟨50, by decide +kernel, by decide +kernel, by decide +kernel⟩
  · exact ⟨51, by decide +kernel, by decide +kernel, by decide +kernel⟩
theorem log_small {d : Int} (h0 : 0 ≤ d) (h1 : d < 1000000) : d.natAbs.log2 < 1920 := by
  have h : d.natAbs < 2 ^ 20 := by omega
  have := PySem.Flt.log2_lt_of (k := 20) (by decide) h
  omega
/-- in a longer list some of these is not -/
theorem not_all_in {α : Type} [DecidableEq α] : ∀ (l m : List α), l.Nodup → m.length < l.length → ∃ x ∈ l, x ∉ m
  | [], m, _, h => by simp at h
  | a :: l, m, nd, h => by
    by_cases ha : a ∈ m
    · obtain ⟨x, hx, hn⟩ := not_all_in l (m.erase a) (List.nodup_cons.mp nd).2 (by
        rw [List.length_erase_of_mem ha]
        have : 0 < m.length := List.length_pos_of_mem ha
        rw [List.length_cons] at h
        omega)
      refine ⟨x, List.mem_cons_of_mem _ hx, fun hm => hn ?_⟩
      have hne : x ≠ a := fun e => (List.nodup_cons.mp nd).1 (e ▸ hx)
      exact (List.mem_erase_of_ne hne).mpr hm
    · exact ⟨a, List.mem_cons_self, ha⟩
end Pf

/-! names in order, turns: pure -/
namespace Pf
open PySem PySem.Spec PyProof.Rows L2
def ltS (x y : Str) : Prop := x.cps.toList < y.cps.toList
instance : DecidableRel ltS := fun x y => inferInstanceAs (Decidable (x.cps.toList < y.cps.toList))
def leS (x y : Str) : Prop := ¬ ltS y x
instance : DecidableRel leS := fun x y => inferInstanceAs (Decidable (¬ ltS y x))
theorem ltS_irr (x : Str) : ¬ ltS x x := List.lt_irrefl _
theorem ltS_trans {x y z : Str} (a : ltS x y) (b : ltS y z) : ltS x z := List.lt_trans a b
theorem ltS_tri (x y : Str) : ltS x y ∨ x = y ∨ ltS y x := by
  by_cases a : ltS x y
  · exact .inl a
  · by_cases b : ltS y x
    · exact .inr (.inr b)
    · exact .inr (.inl (str_ext (List.le_antisymm (List.not_lt.mp b) (List.not_lt.mp a))))
theorem ltS_asymm {x y : Str} (a : ltS x y) : ¬ ltS y x := fun b => ltS_irr x (ltS_trans a b)
theorem leS_anti {x y : Str} (a : leS x y) (b : leS y x) : x = y := by
  rcases ltS_tri x y with h | h | h
  · exact absurd h b
  · exact h
  · exact absurd h a
theorem leS_of_lt {x y : Str} (a : ltS x y) : leS x y := ltS_asymm a
theorem leS_trans {x y z : Str} (a : leS x y) (b : leS y z) : leS x z := by
  intro h
  rcases ltS_tri x y with c | c | c
  · exact b (ltS_trans h c)
  · subst c; exact b h
  · exact a c
theorem leS_ne {x y : Str} (a : leS x y) (n : x ≠ y) : ltS x y := by
  rcases ltS_tri x y with h | h | h
  · exact h
  · exact absurd h n
  · exact absurd h a
theorem sortedS_pw : ∀ {ys : List Str}, sortedS ys = true → ys.Pairwise leS
  | [], _ => List.Pairwise.nil
  | x :: r, h => go r x h
where
  go : ∀ (r : List Str) (x : Str), risingS x r = true → (x :: r).Pairwise leS
  | [], x, _ => List.pairwise_cons.mpr ⟨fun _ z => (nomatch z), List.Pairwise.nil⟩
  | y :: r, x, h => by
    rw [risingS, Bool.and_eq_true, Bool.not_eq_true', ltCps_eq, decide_eq_false_iff_not] at h
    have t := go r y h.2
    refine List.pairwise_cons.mpr ⟨fun z hz => ?_, t⟩
    rcases List.mem_cons.mp hz with e | e
    · rw [e]; exact h.1
    · exact leS_trans h.1 ((List.pairwise_cons.mp t).1 z e)
theorem lt_le {ys : List Str} (h : ys.Pairwise ltS) : ys.Pairwise leS := h.imp leS_of_lt
theorem le_lt {ys : List Str} (h : ys.Pairwise leS) (n : ys.Nodup) : ys.Pairwise ltS := by
  have := h.and n
  exact this.imp fun ⟨a, b⟩ => leS_ne a b
theorem lt_nodup {ys : List Str} (h : ys.Pairwise ltS) : ys.Nodup := by
  show ys.Pairwise (· ≠ ·)
  exact h.imp fun {a b} l e => by rw [e] at l; exact ltS_irr _ l
theorem same_sorted {xs ys : List Str} (p : xs.Perm ys) (a : xs.Pairwise leS) (b : ys.Pairwise leS) : xs = ys := List.Perm.eq_of_pairwise (fun _ _ _ _ => leS_anti) a b p
/-! ### pairs -/
abbrev PS2 := Str × Str
def leP (p q : PS2) : Prop := ltS p.1 q.1 ∨ (p.1 = q.1 ∧ leS p.2 q.2)
theorem ltS_dec (x y : Str) : PySem.W.dataLt (.str x) (.str y) = decide (ltS x y) := PySem.W.dataLt_str x y
theorem eqv_str (x y : Str) : PyData.eqv (.str x) (.str y) = decide (x = y) := by
  simp only [PyData.eqv]
  exact Bool.eq_iff_iff.mpr (by simp)
theorem dataLe_P (p q : PS2) : PySem.W.dataLe false eP p q = true ↔ leP p q := by
  show (!PySem.W.dataLt (eP q) (eP p)) = true ↔ _
  unfold eP
  rw [PySem.W.dataLt_pair (by simp [PySem.W.alike]) (by simp [PySem.W.alike]), eqv_str, eqv_str, ltS_dec, ltS_dec]
  unfold leP
  by_cases h1 : q.1 = p.1
  · rw [decide_eq_true h1, if_pos rfl]
    by_cases h2 : q.2 = p.2
    · rw [decide_eq_true h2, if_pos rfl]
      simp only [Bool.not_false, true_iff]
      exact .inr ⟨h1.symm, by rw [h2]; exact ltS_irr _⟩
    · rw [decide_eq_false h2, if_neg Bool.false_ne_true, Bool.not_eq_true', decide_eq_false_iff_not]
      constructor
      · intro h; exact .inr ⟨h1.symm, h⟩
      · rintro (h | h)
        · rw [h1] at h; exact absurd h (ltS_irr _)
        · exact h.2
  · rw [decide_eq_false h1, if_neg Bool.false_ne_true, Bool.not_eq_true', decide_eq_false_iff_not]
    constructor
    · intro h
      rcases ltS_tri p.1 q.1 with c | c | c
      · exact .inl c
      · exact absurd c.symm h1
      · exact absurd c h
    · rintro (h | h)
      · exact ltS_asymm h
      · exact absurd h.1.symm h1
theorem leP_trans {p q r : PS2} (a : leP p q) (b : leP q r) : leP p r := by
  rcases a with a | ⟨a, a'⟩
  · rcases b with b | ⟨b, b'⟩
    · exact .inl (ltS_trans a b)
    · exact .inl (b ▸ a)
  · rcases b with b | ⟨b, b'⟩
    · exact .inl (a ▸ b)
    · exact .inr ⟨a.trans b, leS_trans a' b'⟩
theorem leP_total (p q : PS2) : leP p q ∨ leP q p := by
  rcases ltS_tri p.1 q.1 with h | h | h
  · exact .inl (.inl h)
  · by_cases c : ltS q.2 p.2
    · exact .inr (.inr ⟨h.symm, leS_of_lt c⟩)
    · exact .inl (.inr ⟨h, c⟩)
  · exact .inr (.inl h)
theorem leP_anti {p q : PS2} (a : leP p q) (b : leP q p) : p = q := by
  rcases a with a | ⟨a, a'⟩
  · rcases b with b | ⟨b, _⟩
    · exact absurd b (ltS_asymm a)
    · rw [b] at a; exact absurd a (ltS_irr _)
  · rcases b with b | ⟨_, b'⟩
    · rw [a] at b; exact absurd b (ltS_irr _)
    · exact Prod.ext a (leS_anti a' b')
theorem sort_P (ps : List PS2) : (ps.mergeSort (PySem.W.dataLe false eP)).Perm ps ∧ (ps.mergeSort (PySem.W.dataLe false eP)).Pairwise leP := by
  refine ⟨List.mergeSort_perm _ _, ?_⟩
  have h := List.pairwise_mergeSort (le := PySem.W.dataLe false eP) (fun a b c x y => (dataLe_P _ _).mpr (leP_trans ((dataLe_P _ _).mp x) ((dataLe_P _ _).mp y))) (fun a b => by
    rw [Bool.or_eq_true, dataLe_P, dataLe_P]; exact leP_total a b) ps
  exact h.imp fun x => (dataLe_P _ _).mp x
theorem alike_P (ps : List PS2) : PySem.W.AllAlike (ps.map eP) := by
  intro d hd d' hd'
  obtain ⟨p, _, rfl⟩ := List.mem_map.mp hd
  obtain ⟨q, _, rfl⟩ := List.mem_map.mp hd'
  simp [eP, PySem.W.alike, PySem.W.alikeAll]
theorem sortable_P (ps : List PS2) : PySem.W.Sortable (ps.map eP) := by
  refine .inl fun d hd => ?_
  obtain ⟨p, _, rfl⟩ := List.mem_map.mp hd
  exact ⟨_, _, rfl⟩
/-! ### turns -/
structure IsTurn (t : List PS2) : Prop where
  rise : (t.map (·.1)).Pairwise ltS
  perm : (t.map (·.2)).Perm (t.map (·.1))
  ne : ∀ p ∈ t, p.1 ≠ p.2
  ok : ∀ p ∈ t, NameOk p.1 ∧ NameOk p.2
  small : t.length ≤ 40
/-- where a turn leads a name -/
def look (t : List PS2) (n : Str) : Str := match t.find? fun p => decide (p.1 = n) with
  | some p => p.2
  | none => n
/-- exchanges, the first one first -/
def led : List PS2 → Str → Str
  | [], n => n
  | (a, b) :: r, n => led r (if n = a then b else if n = b then a else n)
theorem led_app (xs ys : List PS2) (n : Str) : led (xs ++ ys) n = led ys (led xs n) := by
  induction xs generalizing n with
  | nil => rfl
  | cons p r ih => obtain ⟨a, b⟩ := p; exact ih _
theorem led_inj : ∀ (ps : List PS2) (m n : Str), led ps m = led ps n → m = n
  | [], _, _, h => h
  | (a, b) :: r, m, n, h => by
    have h2 := led_inj r _ _ h
    by_cases m1 : m = a <;> by_cases n1 : n = a <;> by_cases m2 : m = b <;> by_cases n2 : n = b <;> simp_all
theorem led_mem {ns : List Str} : ∀ (ps : List PS2) (n : Str), (∀ p ∈ ps, p.1 ∈ ns ∧ p.2 ∈ ns) → n ∈ ns → led ps n ∈ ns
  | [], _, _, h => h
  | (a, b) :: r, n, hp, h => by
    refine led_mem r _ (fun p hp' => hp p (List.mem_cons_of_mem _ hp')) ?_
    have h0 := hp (a, b) List.mem_cons_self
    split
    · exact h0.2
    · split
      · exact h0.1
      · exact h
theorem led_out {ns : List Str} : ∀ (ps : List PS2) (n : Str), (∀ p ∈ ps, p.1 ∈ ns ∧ p.2 ∈ ns) → n ∉ ns → led ps n = n
  | [], _, _, _ => rfl
  | (a, b) :: r, n, hp, h => by
    have h0 := hp (a, b) List.mem_cons_self
    have e1 : n ≠ a := fun e => h (e ▸ h0.1)
    have e2 : n ≠ b := fun e => h (e ▸ h0.2)
    show led r (if n = a then b else if n = b then a else n) = n
    rw [if_neg e1, if_neg e2]
    exact led_out r n (fun p hp' => hp p (List.mem_cons_of_mem _ hp')) h
theorem dp_strs {K : PySem.W.Frag} {H : Hp} : ∀ ns : List Str, DpAll K H (ns.map V.str) (ns.map .str)
  | [] => .nil
  | n :: r => .cons (.str n) (dp_strs r)
theorem ty_same {K : PySem.W.Frag} {H H' : Hp} {x : V} {t : Value} (h : TyX K H x t) (s : Same H H') : TyX K H' x t := by
  cases h with
  | base b =>
    refine .base ?_
    cases b with
    | non => exact .non
    | bl y => exact .bl y
    | int i => exact .int i
    | str y => exact .str y
    | flt y => exact .flt y
    | lst e => exact .lst (s _ _ e)
    | frz e => exact .frz (s _ _ e)
    | tup e => exact .tup (s _ _ e)
    | dK e => exact .dK (s _ _ e)
    | dT e => exact .dT (s _ _ e)
    | ins e cl ha hn htk hm => exact .ins (s _ _ e) cl ha hn htk hm
  | byt b => exact .byt b
  | set e => exact .set (s _ _ e)
  | kList e c => exact .kList e c
  | kTuple e c => exact .kTuple e c
  | kDict e c => exact .kDict e c
  | fTuple e => exact .fTuple (s _ _ e)
  | fDict e => exact .fDict (s _ _ e)
end Pf

/-! moves in a dict, the turn of exchanges: pure -/
namespace Pf
open PySem PySem.Spec PyProof.Rows L2
def encM (p : PS2) : Key × V := (Sum.inr p.1, V.str p.2)
def mput (ms : List PS2) (k v : Str) : List PS2 := if (ms.any fun p => decide (p.1 = k)) = true then ms.map (fun p => if p.1 = k then (p.1, v) else p) else ms ++ [(k, v)]
theorem inr_dec (a b : Str) : decide ((Sum.inr a : Key) = Sum.inr b) = decide (a = b) := key_rr a b
theorem putK_enc (ms : List PS2) (k v : Str) : putK (ms.map encM) (Sum.inr k) (V.str v) = (mput ms k v).map encM := by
  unfold putK mput
  have e : ((ms.map encM).any fun kv => decide (kv.1 = (Sum.inr k : Key))) = ms.any fun p => decide (p.1 = k) := by
    rw [List.any_map]
    congr 1
    funext p
    exact inr_dec _ _
  rw [e]
  split
  · rw [List.map_map, List.map_map]
    refine List.map_congr_left fun p _ => ?_
    show (if (Sum.inr p.1 : Key) = Sum.inr k then ((Sum.inr p.1 : Key), V.str v) else encM p) = encM (if p.1 = k then (p.1, v) else p)
    by_cases h : p.1 = k
    · rw [if_pos h, if_pos (by rw [h])]; rfl
    · rw [if_neg h, if_neg (fun z => h (Sum.inr.inj z))]
  · rw [List.map_append]; rfl
theorem valV_enc (ms : List PS2) (k : Str) : (valV (ms.map encM) (Sum.inr k)).getD (V.str k) = V.str (look ms k) := by
  unfold valV look
  rw [List.find?_map]
  have e : ((fun kv : Key × V => decide (kv.1 = (Sum.inr k : Key))) ∘ encM) = fun p : PS2 => decide (p.1 = k) := by
    funext p; exact inr_dec _ _
  rw [e]
  cases ms.find? fun p => decide (p.1 = k) <;> rfl
theorem look_nil (n : Str) : look [] n = n := rfl
theorem look_cons (p : PS2) (r : List PS2) (n : Str) : look (p :: r) n = if p.1 = n then p.2 else look r n := by
  unfold look
  rw [List.find?_cons]
  by_cases h : p.1 = n
  · rw [if_pos h, decide_eq_true h]
  · rw [if_neg h, decide_eq_false h]
theorem look_map (k v : Str) : ∀ (ms : List PS2) (n : Str), (ms.any fun p => decide (p.1 = k)) = true → look (ms.map (fun p => if p.1 = k then (p.1, v) else p)) n = if n = k then v else look ms n
  | [], _, h => by simp at h
  | p :: r, n, h => by
    rw [List.map_cons, look_cons, look_cons]
    by_cases h1 : p.1 = k
    · rw [if_pos h1]
      by_cases h2 : n = k
      · rw [if_pos h2, if_pos (by show p.1 = n; rw [h1, h2])]
      · have h3 : ¬ p.1 = n := fun e => h2 (e ▸ h1)
        rw [if_neg h2, if_neg h3, if_neg h3]
        by_cases hr : (r.any fun p => decide (p.1 = k)) = true
        · rw [look_map k v r n hr, if_neg h2]
        · have : r.map (fun p => if p.1 = k then (p.1, v) else p) = r := by
            rw [List.map_congr_left (g := id)]
            · exact List.map_id _
            · intro q hq
              have : ¬ q.1 = k := fun e => hr (List.any_eq_true.mpr ⟨q, hq, decide_eq_true e⟩)
              rw [if_neg this]; rfl
          rw [this]
    · rw [if_neg h1]
      rw [List.any_cons, decide_eq_false h1, Bool.false_or] at h
      rw [look_map k v r n h]
      by_cases h2 : n = k
      · have h3 : ¬ p.1 = n := fun e => h1 (e.trans h2)
        rw [if_pos h2, if_pos h2, if_neg h3]
      · rw [if_neg h2, if_neg h2]
theorem look_app (ms : List PS2) (k v n : Str) (h : ¬ (ms.any fun p => decide (p.1 = k)) = true) : look (ms ++ [(k, v)]) n = if n = k then v else look ms n := by
  induction ms with
  | nil =>
    show look [(k, v)] n = _
    rw [look_cons]
    by_cases e : n = k
    · rw [if_pos e.symm, if_pos e]
    · rw [if_neg (fun z => e z.symm), if_neg e]
  | cons p r ih =>
    rw [List.any_cons, Bool.or_eq_true, not_or] at h
    have h1 : ¬ p.1 = k := fun e => h.1 (decide_eq_true e)
    rw [List.cons_append, look_cons, look_cons, ih h.2]
    by_cases e : n = k
    · have : ¬ p.1 = n := fun z => h1 (z.trans e)
      rw [if_pos e, if_pos e, if_neg this]
    · rw [if_neg e, if_neg e]
theorem look_put (ms : List PS2) (k v n : Str) : look (mput ms k v) n = if n = k then v else look ms n := by
  unfold mput
  split
  · rename_i h; exact look_map k v ms n h
  · rename_i h; exact look_app ms k v n h
theorem mput_len (ms : List PS2) (k v : Str) : (mput ms k v).length ≤ ms.length + 1 := by
  unfold mput
  split
  · rw [List.length_map]; omega
  · rw [List.length_append]; exact Nat.le_refl _
theorem mput_fst (ms : List PS2) (k v : Str) : (mput ms k v).map (·.1) = if (ms.any fun p => decide (p.1 = k)) = true then ms.map (·.1) else ms.map (·.1) ++ [k] := by
  unfold mput
  split
  · rw [List.map_map]
    refine List.map_congr_left fun p _ => ?_
    show (if p.1 = k then (p.1, v) else p).1 = p.1
    split <;> rfl
  · rw [List.map_append]; rfl
theorem mput_nd {ms : List PS2} (k v : Str) (h : (ms.map (·.1)).Nodup) : ((mput ms k v).map (·.1)).Nodup := by
  rw [mput_fst]
  split
  · exact h
  · rename_i hn
    rw [List.nodup_append]
    refine ⟨h, List.nodup_cons.mpr ⟨List.not_mem_nil, List.nodup_nil⟩, fun a ha b hb e => ?_⟩
    rw [List.mem_singleton.mp hb] at e
    obtain ⟨p, hp, rfl⟩ := List.mem_map.mp ha
    exact hn (List.any_eq_true.mpr ⟨p, hp, decide_eq_true e⟩)
theorem mput_mem {ms : List PS2} {k v : Str} {q : Str} (h : q ∈ (mput ms k v).map (·.1)) : q = k ∨ q ∈ ms.map (·.1) := by
  rw [mput_fst] at h
  split at h
  · exact .inr h
  · rcases List.mem_append.mp h with h | h
    · exact .inr h
    · exact .inl (List.mem_singleton.mp h)
theorem look_mem {ms : List PS2} (h : (ms.map (·.1)).Nodup) {k v : Str} : (k, v) ∈ ms ↔ k ∈ ms.map (·.1) ∧ look ms k = v := by
  induction ms with
  | nil => simp
  | cons p r ih =>
    have hn := List.nodup_cons.mp h
    rw [look_cons]
    constructor
    · intro hm
      rcases List.mem_cons.mp hm with e | hm
      · subst e
        exact ⟨List.mem_cons_self, if_pos rfl⟩
      · have := (ih hn.2).mp hm
        refine ⟨List.mem_cons_of_mem _ this.1, ?_⟩
        rw [if_neg (fun e : p.1 = k => hn.1 (by show p.1 ∈ _; rw [e]; exact this.1))]
        exact this.2
    · rintro ⟨hk, he⟩
      by_cases e : p.1 = k
      · rw [if_pos e] at he
        obtain ⟨a, b⟩ := p
        simp only at e he
        rw [e, he]
        exact List.mem_cons_self
      · rw [if_neg e] at he
        refine List.mem_cons_of_mem _ ((ih hn.2).mpr ⟨?_, he⟩)
        rcases List.mem_cons.mp hk with z | z
        · exact absurd z.symm e
        · exact z
theorem look_none {ms : List PS2} {k : Str} (h : k ∉ ms.map (·.1)) : look ms k = k := by
  induction ms with
  | nil => rfl
  | cons p r ih =>
    rw [look_cons, if_neg (fun e => h (by rw [← e]; exact List.mem_cons_self))]
    exact ih fun z => h (List.mem_cons_of_mem _ z)
/-- the moves of a dict, rising -/
def riseM (ms : List PS2) : List PS2 := (ms.filter fun p => decide (p.1 ≠ p.2)).mergeSort (PySem.W.dataLe false eP)
/-- a dict that says where exchanges lead -/
structure Says (ms : List PS2) (ps : List PS2) : Prop where
  nd : (ms.map (·.1)).Nodup
  to : ∀ n, look ms n = led ps n
  keys : ∀ k ∈ ms.map (·.1), ∃ p ∈ ps, k = p.1 ∨ k = p.2
theorem Says.step {ms ps : List PS2} (h : Says ms ps) (a b : Str) : Says (mput (mput ms a (look ms b)) b (look ms a)) ((a, b) :: ps) := by
  refine ⟨mput_nd _ _ (mput_nd _ _ h.nd), fun n => ?_, fun k hk => ?_⟩
  · rw [look_put, look_put]
    show _ = led ps (if n = a then b else if n = b then a else n)
    rw [← h.to]
    by_cases h1 : n = b
    · rw [if_pos h1]
      by_cases h2 : n = a
      · rw [if_pos h2, ← h1, h2]
      · rw [if_neg h2, if_pos h1]
    · rw [if_neg h1]
      by_cases h2 : n = a
      · rw [if_pos h2, if_pos h2]
      · rw [if_neg h2, if_neg h2, if_neg h1]
  · rcases mput_mem hk with e | hk
    · exact ⟨(a, b), List.mem_cons_self, .inr e⟩
    · rcases mput_mem hk with e | hk
      · exact ⟨(a, b), List.mem_cons_self, .inl e⟩
      · obtain ⟨p, hp, e⟩ := h.keys k hk
        exact ⟨p, List.mem_cons_of_mem _ hp, e⟩
theorem nd_of_fst {l : List PS2} (h : (l.map (·.1)).Nodup) : l.Nodup := by
  rw [List.Nodup, List.pairwise_map] at h
  exact h.imp fun {p q} hn e => hn (by rw [e])
theorem riseM_mem {ms : List PS2} (h : (ms.map (·.1)).Nodup) {k v : Str} : (k, v) ∈ riseM ms ↔ look ms k = v ∧ k ≠ v := by
  unfold riseM
  rw [(sort_P _).1.mem_iff, List.mem_filter, look_mem h, decide_eq_true_iff]
  constructor
  · rintro ⟨⟨_, h1⟩, h2⟩; exact ⟨h1, h2⟩
  · rintro ⟨h1, h2⟩
    refine ⟨⟨Classical.byContradiction fun hn => h2 ?_, h1⟩, h2⟩
    rw [← h1, look_none hn]
theorem fst_nd_filter {ms : List PS2} (h : (ms.map (·.1)).Nodup) (f : PS2 → Bool) : ((ms.filter f).map (·.1)).Nodup := by
  rw [List.Nodup, List.pairwise_map] at h ⊢
  exact h.filter f
theorem rise_lt {l : List PS2} (h : l.Pairwise leP) (n : (l.map (·.1)).Nodup) : (l.map (·.1)).Pairwise ltS := by
  rw [List.Nodup, List.pairwise_map] at n
  rw [List.pairwise_map]
  refine (h.and n).imp fun {p q} ⟨a, b⟩ => ?_
  rcases a with a | a
  · exact a
  · exact absurd a.1 b
theorem lt_leP {l : List PS2} (h : (l.map (·.1)).Pairwise ltS) : l.Pairwise leP := by
  rw [List.pairwise_map] at h
  exact h.imp fun x => .inl x
theorem riseM_rise {ms : List PS2} (h : (ms.map (·.1)).Nodup) : ((riseM ms).map (·.1)).Pairwise ltS := by
  refine rise_lt (sort_P _).2 ?_
  exact ((sort_P _).1.map (·.1)).nodup_iff.mpr (fst_nd_filter h _)
/-- a rising list of just the moves is that one -/
theorem rise_eq {ms l : List PS2} (h : (ms.map (·.1)).Nodup) (r : (l.map (·.1)).Pairwise ltS) (m : ∀ k v, (k, v) ∈ l ↔ look ms k = v ∧ k ≠ v) : riseM ms = l := by
  refine List.Perm.eq_of_pairwise (le := leP) (fun _ _ _ _ => leP_anti) (sort_P _).2 (lt_leP r) ?_
  refine (List.perm_ext_iff_of_nodup (nd_of_fst (lt_nodup (riseM_rise h))) (nd_of_fst (lt_nodup r))).mpr fun p => ?_
  obtain ⟨k, v⟩ := p
  rw [m]
  exact riseM_mem h
/-- the names with where they are led, those that move -/
theorem told_eq {ms ps : List PS2} (h : Says ms ps) {ns : List Str} (hp : ∀ p ∈ ps, p.1 ∈ ns ∧ p.2 ∈ ns) {ys : List Str} (py : ys.Perm ns) (sy : ys.Pairwise leS) (nd : ns.Nodup) :
    riseM ms = (ys.map fun n => (n, led ps n)).filter fun p => decide (p.1 ≠ p.2) := by
  refine rise_eq h.nd ?_ fun k v => ?_
  · rw [List.pairwise_map]
    refine List.Pairwise.filter _ ?_
    rw [List.pairwise_map]
    exact le_lt sy (py.nodup_iff.mpr nd)
  · rw [List.mem_filter, List.mem_map, decide_eq_true_iff, h.to]
    constructor
    · rintro ⟨⟨n, _, e⟩, h2⟩
      cases e
      exact ⟨rfl, h2⟩
    · rintro ⟨h1, h2⟩
      refine ⟨⟨k, py.mem_iff.mpr (Classical.byContradiction fun hn => h2 ?_), by rw [h1]⟩, h2⟩
      rw [← h1, led_out ps k hp hn]
theorem perm_of_sub {α : Type} [DecidableEq α] : ∀ {l m : List α}, l.Nodup → (∀ x ∈ l, x ∈ m) → m.length ≤ l.length → l.Perm m
  | [], m, _, _, h => by
    have : m = [] := List.length_eq_zero_iff.mp (Nat.le_zero.mp h)
    rw [this]
  | a :: l, m, nd, s, h => by
    have ha := s a List.mem_cons_self
    have hn := List.nodup_cons.mp nd
    have p := perm_of_sub (l := l) (m := m.erase a) hn.2 (fun x hx => (List.mem_erase_of_ne (fun e => hn.1 (by rw [← e]; exact hx))).mpr (s x (List.mem_cons_of_mem _ hx))) (by
      rw [List.length_erase_of_mem ha]
      rw [List.length_cons] at h
      omega)
    exact (p.cons a).trans (List.perm_cons_erase ha).symm
theorem led_name : ∀ (ps : List PS2) (n : Str), (∀ p ∈ ps, NameOk p.1 ∧ NameOk p.2) → NameOk n → NameOk (led ps n)
  | [], _, _, h => h
  | (a, b) :: r, n, hp, h => by
    have h0 := hp (a, b) List.mem_cons_self
    refine led_name r (if n = a then b else if n = b then a else n) (fun p hp' => hp p (List.mem_cons_of_mem _ hp')) ?_
    split
    · exact h0.2
    · split
      · exact h0.1
      · exact h
theorem turn_of_says {ms ps : List PS2} (h : Says ms ps) (ok : ∀ p ∈ ps, NameOk p.1 ∧ NameOk p.2) (small : (riseM ms).length ≤ 40) : IsTurn (riseM ms) := by
  have mem := fun k v => riseM_mem h.nd (k := k) (v := v)
  refine ⟨riseM_rise h.nd, ?_, ?_, ?_, small⟩
  · refine perm_of_sub ?_ (fun x hx => ?_) (by rw [List.length_map, List.length_map]; exact Nat.le_refl _)
    · rw [List.Nodup, List.pairwise_map]
      have nd := nd_of_fst (lt_nodup (riseM_rise h.nd))
      refine List.Pairwise.imp_of_mem (R := (· ≠ ·)) (fun {p q} hp hq hne e => hne ?_) nd
      have h1 := (mem p.1 p.2).mp hp
      have h2 := (mem q.1 q.2).mp hq
      rw [h.to] at h1 h2
      have : p.1 = q.1 := led_inj ps _ _ (by rw [h1.1, h2.1]; exact e)
      exact Prod.ext this e
    · obtain ⟨p, hp, rfl⟩ := List.mem_map.mp hx
      have h1 := (mem p.1 p.2).mp hp
      rw [h.to] at h1
      refine List.mem_map.mpr ⟨(p.2, led ps p.2), (mem _ _).mpr ⟨h.to _, fun e => h1.2 ?_⟩, rfl⟩
      exact led_inj ps _ _ (h1.1.trans e)
  · exact fun p hp => ((mem p.1 p.2).mp hp).2
  · intro p hp
    have h1 := (mem p.1 p.2).mp hp
    have hk : p.1 ∈ ms.map (·.1) := Classical.byContradiction fun hn => h1.2 (by rw [← h1.1, look_none hn])
    obtain ⟨q, hq, e⟩ := h.keys _ hk
    have n1 : NameOk p.1 := by
      rcases e with e | e <;> rw [e]
      · exact (ok q hq).1
      · exact (ok q hq).2
    refine ⟨n1, ?_⟩
    rw [← h1.1, h.to]
    exact led_name ps p.1 ok n1
theorem look_rise {ms : List PS2} (h : (ms.map (·.1)).Nodup) (n : Str) : look (riseM ms) n = look ms n := by
  have nd := lt_nodup (riseM_rise h)
  by_cases hn : n ∈ (riseM ms).map (·.1)
  · have hm := (look_mem nd (k := n)).mpr ⟨hn, rfl⟩
    exact ((riseM_mem h).mp hm).1.symm
  · rw [look_none hn]
    by_cases e : n = look ms n
    · exact e
    · exact absurd (List.mem_map.mpr ⟨(n, look ms n), (riseM_mem h).mpr ⟨rfl, e⟩, rfl⟩) hn
theorem merge_enc : ∀ (t acc : List PS2), mergeK (acc.map encM) (t.map encM) = (t.foldl (fun m p => mput m p.1 p.2) acc).map encM
  | [], acc => rfl
  | p :: r, acc => by
    show mergeK (putK (acc.map encM) (Sum.inr p.1) (V.str p.2)) (r.map encM) = _
    rw [putK_enc, merge_enc r]
    rfl
theorem fold_put : ∀ (t acc : List PS2), ((acc ++ t).map (·.1)).Nodup → t.foldl (fun m p => mput m p.1 p.2) acc = acc ++ t
  | [], acc, _ => by rw [List.append_nil]; rfl
  | p :: r, acc, h => by
    have hn : ¬ (acc.any fun q => decide (q.1 = p.1)) = true := fun z => by
      obtain ⟨q, hq, e⟩ := List.any_eq_true.mp z
      rw [List.map_append, List.nodup_append] at h
      exact h.2.2 q.1 (List.mem_map.mpr ⟨q, hq, rfl⟩) p.1 (List.mem_map.mpr ⟨p, List.mem_cons_self, rfl⟩) (of_decide_eq_true e)
    have e : mput acc p.1 p.2 = acc ++ [p] := by
      unfold mput
      rw [if_neg hn]
    show r.foldl _ (mput acc p.1 p.2) = _
    rw [e, fold_put r (acc ++ [p]) (by rw [List.append_assoc]; exact h), List.append_assoc]
    rfl
theorem merge_nd {t : List PS2} (h : (t.map (·.1)).Nodup) : mergeK [] (t.map encM) = t.map encM := by
  have := merge_enc t []
  rw [fold_put t [] h] at this
  exact this
theorem refs_of {K : PySem.W.Frag} {H : Hp} {xs : List V} {t : List PS2} (h : Prs K H xs t) : ∃ ps : List Addr, xs = ps.map V.ref ∧ Paired (fun p (kv : Key × V) => SqT K H p [kV kv.1, kv.2]) ps (t.map encM) := by
  induction h with
  | nil => exact ⟨[], rfl, .nil⟩
  | cons r _ ih =>
    obtain ⟨ps, e, p⟩ := ih
    obtain ⟨q, eq, s⟩ := r
    exact ⟨q :: ps, by rw [eq, e]; rfl, .cons s p⟩
theorem cut_to (xs : List V) {k : Nat} (h : k ≤ xs.length) : cutV xs none (some (k : Int)) = xs.take k := by
  unfold cutV
  rw [HT.sIx_none, HT.sIx_nat, Nat.min_eq_left h, List.drop_zero, Nat.sub_zero]
theorem cut_from (xs : List V) {k : Nat} (h : k ≤ xs.length) : cutV xs (some (k : Int)) none = xs.drop k := by
  unfold cutV
  rw [HT.sIx_none, HT.sIx_nat, Nat.min_eq_left h]
  exact List.take_of_length_le (by rw [List.length_drop]; exact Nat.le_refl _)
theorem But.skip {a p : Addr} {H H1 H2 : Hp} (x : But a H H1) (y : But p H1 H2) (n : H p = none) : But a H H2 := fun b o nb h => y b o (ne_of_none h n) (x b o nb h)
theorem But.toSame {p : Addr} {H H1 : Hp} (x : But p H H1) (n : H p = none) : Same H H1 := fun b o h => x b o (ne_of_none h n) h
theorem says_one {ms ms2 ps : List PS2} (h : Says ms ps) (h2 : Says ms2 ps) : riseM ms2 = riseM ms :=
  rise_eq h2.nd (riseM_rise h.nd) fun k v => by rw [riseM_mem h.nd, h.to, h2.to]
end Pf

/-! a while whose ends may be written out; order, turns of lists -/
namespace Pf
open PySem PySem.Spec PyProof.Rows L2
theorem whileN {c : TT} {tb : (L2.St → Hp → Prop) → L2.St → Hp → Prop} {Nx : L2.St → Hp → Prop} {σ : L2.St} {H : Hp} (Pv : L2.St → Hp → Prop) (μ : L2.St → Hp → Nat) (h0 : Pv σ H)
    (hs : ∀ σ H, Pv σ H → c σ H fun b H1 => if b = true then ∃ N : L2.St → Hp → Prop, (∀ σ' H', N σ' H' → ∃ m', m' < μ σ H ∧ m' = μ σ' H' ∧ Pv σ' H') ∧ tb N σ H1 else Nx σ H1) :
    ∃ W : Nat → L2.St → Hp → Prop, (∃ m, W m σ H) ∧ ∀ m σ H, W m σ H → c σ H fun b H1 => if b = true then ∃ N : L2.St → Hp → Prop, (∀ σ' H', N σ' H' → ∃ m', m' < m ∧ W m' σ' H') ∧ tb N σ H1 else Nx σ H1 := by
  refine ⟨fun m σ H => m = μ σ H ∧ Pv σ H, ⟨_, rfl, h0⟩, ?_⟩
  rintro m σ H ⟨rfl, p⟩
  exact hs σ H p
theorem erase_perm {α : Type} : ∀ {l : List α} {k : Nat} {y : α}, l[k]? = some y → (y :: l.eraseIdx k).Perm l
  | [], _, _, h => by simp at h
  | x :: r, 0, y, h => by
    simp at h
    rw [h]
    exact List.Perm.refl _
  | x :: r, k + 1, y, h => by
    have h' : r[k]? = some y := by simpa using h
    exact (List.Perm.swap x y _).trans ((erase_perm h').cons x)
theorem erase_map {α β : Type} (f : α → β) : ∀ (l : List α) (k : Nat), (l.map f).eraseIdx k = (l.eraseIdx k).map f
  | [], _ => rfl
  | _ :: _, 0 => rfl
  | x :: r, k + 1 => by
    show f x :: (r.map f).eraseIdx k = f x :: (r.eraseIdx k).map f
    rw [erase_map f r k]
theorem but_mut {p a : Addr} {H H' : Hp} {o : HO} (h : But p H H') (n : H a = none) : But p H (upd H' a o) := fun b u nb e => by
  rw [upd_ne (ne_of_none e n)]
  exact h b u nb e
theorem but_same {p : Addr} {H H1 H2 : Hp} (h : But p H H1) (s : Same H1 H2) : But p H H2 := fun b u nb e => s _ _ (h b u nb e)
theorem eqv_nil_cons (d : PyData) (r : List PyData) : PyData.eqv (.list (d :: r)) (.list []) = false := by rfl
def lenAt (a : Addr) (H : Hp) : Nat := match H a with
  | some (.lst xs) => xs.length
  | _ => 0
theorem lenAt_eq {a : Addr} {H : Hp} {xs : List V} (h : H a = some (.lst xs)) : lenAt a H = xs.length := by
  unfold lenAt
  rw [h]
theorem dps_str {K : PySem.W.Frag} {H : Hp} : ∀ (ls : List Str), DpAll K H (ls.map V.str) (ls.map PyData.str)
  | [] => .nil
  | x :: r => .cons (.str x) (dps_str r)
end Pf

/-! turns that are made of names and others -/
namespace Pf
open PySem PySem.Spec PyProof.Rows L2
theorem zip_fst {α β : Type} : ∀ {xs : List α} {ys : List β}, xs.length = ys.length → (xs.zip ys).map (·.1) = xs
  | [], [], _ => rfl
  | x :: xs, y :: ys, h => by
    show x :: (xs.zip ys).map (·.1) = _
    rw [zip_fst (Nat.succ.inj h)]
  | [], _ :: _, h => nomatch h
  | _ :: _, [], h => nomatch h
theorem zip_snd {α β : Type} : ∀ {xs : List α} {ys : List β}, xs.length = ys.length → (xs.zip ys).map (·.2) = ys
  | [], [], _ => rfl
  | x :: xs, y :: ys, h => by
    show y :: (xs.zip ys).map (·.2) = _
    rw [zip_snd (Nat.succ.inj h)]
  | [], _ :: _, h => nomatch h
  | _ :: _, [], h => nomatch h
theorem filter_split {α : Type} (f : α → Bool) (l : List α) : (l.filter f ++ l.filter (fun x => !f x)).Perm l := by
  induction l with
  | nil => exact List.Perm.refl _
  | cons x r ih =>
    rw [List.filter_cons, List.filter_cons]
    cases h : f x with
    | true => exact ih.cons x
    | false => exact (List.perm_middle).trans (ih.cons x)
theorem moved_perm {ms : List PS2} (h : (ms.map (·.2)).Perm (ms.map (·.1))) : ((ms.filter fun p => decide (p.1 ≠ p.2)).map (·.2)).Perm ((ms.filter fun p => decide (p.1 ≠ p.2)).map (·.1)) := by
  have s := filter_split (fun p : PS2 => decide (p.1 ≠ p.2)) ms
  have e : (ms.filter fun p => !decide (p.1 ≠ p.2)).map (·.2) = (ms.filter fun p => !decide (p.1 ≠ p.2)).map (·.1) := by
    refine List.map_congr_left fun p hp => ?_
    have := (List.mem_filter.mp hp).2
    simp at this
    exact this.symm
  have s1 := s.map (·.1)
  have s2 := s.map (·.2)
  rw [List.map_append] at s1 s2
  rw [e] at s2
  exact (List.perm_append_right_iff _).mp ((s2.trans h).trans s1.symm)
theorem riseM_turn {ms : List PS2} (nd : (ms.map (·.1)).Nodup) (h : (ms.map (·.2)).Perm (ms.map (·.1))) (ok : ∀ n ∈ ms.map (·.1), NameOk n) (sm : ms.length ≤ 40) : IsTurn (riseM ms) := by
  have pm : (riseM ms).Perm (ms.filter fun p => decide (p.1 ≠ p.2)) := (sort_P _).1
  refine ⟨riseM_rise nd, ?_, fun p hp => ?_, fun p hp => ?_, ?_⟩
  · exact ((pm.map _).trans (moved_perm h)).trans (pm.map _).symm
  · have := (List.mem_filter.mp (pm.mem_iff.mp hp)).2
    exact of_decide_eq_true this
  · have := (List.mem_filter.mp (pm.mem_iff.mp hp)).1
    exact ⟨ok _ (List.mem_map.mpr ⟨p, this, rfl⟩), ok _ (h.mem_iff.mp (List.mem_map.mpr ⟨p, this, rfl⟩))⟩
  · rw [pm.length_eq]
    exact Nat.le_trans (List.length_filter_le _ _) sm
/-- a turn among names -/
def Among (t : List PS2) (ns : List Str) : Prop := ∀ q ∈ t, q.1 ∈ ns ∧ q.2 ∈ ns
theorem riseM_among {ms : List PS2} {ns : List Str} (h1 : ms.map (·.1) = ns) (h2 : (ms.map (·.2)).Perm ns) : Among (riseM ms) ns := fun q hq => by
  have : q ∈ ms := (List.mem_filter.mp ((sort_P _).1.mem_iff.mp hq)).1
  exact ⟨by rw [← h1]; exact List.mem_map.mpr ⟨q, this, rfl⟩, h2.mem_iff.mp (List.mem_map.mpr ⟨q, this, rfl⟩)⟩
theorem IsTurn.nd {t : List PS2} (h : IsTurn t) : (t.map (·.1)).Nodup := lt_nodup h.rise
end Pf

/-! rounds of a turn: pure -/
namespace Pf
open PySem PySem.Spec PyProof.Rows L2
theorem least {p : Nat → Prop} : ∀ {n : Nat}, p n → ∃ m, p m ∧ ∀ k, k < m → ¬ p k := by
  intro n
  induction n using Nat.strongRecOn with
  | _ n ih =>
    intro h
    by_cases e : ∃ k, k < n ∧ p k
    · obtain ⟨k, hk, hp⟩ := e
      exact ih k hk hp
    · exact ⟨n, h, fun k hk hp => e ⟨k, hk, hp⟩⟩
/-- where a name is led by so many steps -/
def it (t : List PS2) (n : Str) : Nat → Str
  | 0 => n
  | i + 1 => look t (it t n i)
theorem it_add (t : List PS2) (n : Str) (i j : Nat) : it t n (i + j) = it t (it t n i) j := by
  induction j with
  | zero => rfl
  | succ j ih => show look t (it t n (i + j)) = _; rw [ih]; rfl
theorem IsTurn.look_mem {t : List PS2} (h : IsTurn t) {k : Str} (hk : k ∈ t.map (·.1)) : (k, look t k) ∈ t := (Pf.look_mem h.nd).mpr ⟨hk, rfl⟩
theorem IsTurn.look_in {t : List PS2} (h : IsTurn t) {k : Str} (hk : k ∈ t.map (·.1)) : look t k ∈ t.map (·.1) :=
  h.perm.mem_iff.mp (List.mem_map.mpr ⟨_, h.look_mem hk, rfl⟩)
theorem IsTurn.look_ne {t : List PS2} (h : IsTurn t) {k : Str} (hk : k ∈ t.map (·.1)) : look t k ≠ k := fun e => h.ne _ (h.look_mem hk) e.symm
theorem nd_map_inj {α β : Type} (f : α → β) : ∀ {l : List α}, (l.map f).Nodup → ∀ {x y : α}, x ∈ l → y ∈ l → f x = f y → x = y
  | [], _, _, _, h, _, _ => by cases h
  | a :: r, nd, x, y, hx, hy, e => by
    rw [List.map_cons, List.nodup_cons] at nd
    rcases List.mem_cons.mp hx with ex | hx
    · rcases List.mem_cons.mp hy with ey | hy
      · rw [ex, ey]
      · rw [ex] at e
        exact absurd (List.mem_map.mpr ⟨y, hy, e.symm⟩) nd.1
    · rcases List.mem_cons.mp hy with ey | hy
      · rw [ey] at e
        exact absurd (List.mem_map.mpr ⟨x, hx, e⟩) nd.1
      · exact nd_map_inj f nd.2 hx hy e
theorem IsTurn.look_inj {t : List PS2} (h : IsTurn t) {k l : Str} (hk : k ∈ t.map (·.1)) (hl : l ∈ t.map (·.1)) (e : look t k = look t l) : k = l := by
  have nd : (t.map (·.2)).Nodup := h.perm.nodup_iff.mpr h.nd
  have := nd_map_inj (·.2) nd (h.look_mem hk) (h.look_mem hl) e
  exact congrArg Prod.fst this
theorem IsTurn.it_in {t : List PS2} (h : IsTurn t) {n : Str} (hn : n ∈ t.map (·.1)) : ∀ i, it t n i ∈ t.map (·.1)
  | 0 => hn
  | i + 1 => h.look_in (h.it_in hn i)
theorem IsTurn.it_inj {t : List PS2} (h : IsTurn t) {n m : Str} (hn : n ∈ t.map (·.1)) (hm : m ∈ t.map (·.1)) : ∀ i, it t n i = it t m i → n = m
  | 0, e => e
  | i + 1, e => h.it_inj hn hm i (h.look_inj (h.it_in hn i) (h.it_in hm i) e)
theorem IsTurn.back {t : List PS2} (h : IsTurn t) {n : Str} (hn : n ∈ t.map (·.1)) {i j : Nat} (hij : i ≤ j) (e : it t n i = it t n j) : it t n (j - i) = n := by
  have e2 : it t n j = it t (it t n (j - i)) i := by
    rw [← it_add]; congr 1; omega
  exact (h.it_inj hn (h.it_in hn _) i (e.trans e2)).symm
structure IsPer (t : List PS2) (n : Str) (p : Nat) : Prop where
  pos : 1 ≤ p
  back : it t n p = n
  first : ∀ i, 1 ≤ i → i < p → it t n i ≠ n
theorem IsPer.uniq {t : List PS2} {n : Str} {p q : Nat} (h : IsPer t n p) (g : IsPer t n q) : p = q := by
  rcases Nat.lt_trichotomy p q with x | x | x
  · exact absurd h.back (g.first p h.pos x)
  · exact x
  · exact absurd g.back (h.first q g.pos x)
theorem IsPer.nd {t : List PS2} (ht : IsTurn t) {n : Str} (hn : n ∈ t.map (·.1)) {p : Nat} (h : ∀ i, 1 ≤ i → i < p → it t n i ≠ n) : ((List.range p).map (it t n)).Nodup := by
  rw [List.Nodup, List.pairwise_map]
  refine List.Pairwise.imp_of_mem ?_ (List.pairwise_lt_range (n := p))
  intro i j hi hj hij e
  rw [List.mem_range] at hj
  exact h (j - i) (by omega) (by omega) (ht.back hn (Nat.le_of_lt hij) e)
theorem IsTurn.hasPer {t : List PS2} (ht : IsTurn t) {n : Str} (hn : n ∈ t.map (·.1)) : ∃ p, IsPer t n p ∧ p ≤ t.length := by
  have ex : ∃ p, 1 ≤ p ∧ it t n p = n ∧ p ≤ t.length := Classical.byContradiction fun no => by
    have nd := IsPer.nd ht hn (p := t.length + 1) (fun i h1 h2 e => no ⟨i, h1, e, by omega⟩)
    have := perm_of_sub nd (m := t.map (·.1)) (fun x hx => by
      obtain ⟨i, _, rfl⟩ := List.mem_map.mp hx
      exact ht.it_in hn i) (by rw [List.length_map, List.length_map, List.length_range]; omega)
    have := this.length_eq
    rw [List.length_map, List.length_map, List.length_range] at this
    omega
  obtain ⟨p, h1, h2, h3⟩ := ex
  obtain ⟨m, ⟨hm1, hm2⟩, hm3⟩ := least (p := fun p => 1 ≤ p ∧ it t n p = n) ⟨h1, h2⟩
  refine ⟨m, ⟨hm1, hm2, fun i hi hlt e => hm3 i hlt ⟨hi, e⟩⟩, Nat.le_trans (Nat.le_of_not_lt fun hlt => hm3 p hlt ⟨h1, h2⟩) h3⟩
noncomputable def per (t : List PS2) (n : Str) : Nat := open Classical in if h : ∃ p, IsPer t n p then Classical.choose h else 0
theorem IsTurn.perOk {t : List PS2} (ht : IsTurn t) {n : Str} (hn : n ∈ t.map (·.1)) : IsPer t n (per t n) := by
  have h : ∃ p, IsPer t n p := (ht.hasPer hn).imp fun _ h => h.1
  unfold per
  rw [dif_pos h]
  exact Classical.choose_spec h
theorem IsTurn.perLe {t : List PS2} (ht : IsTurn t) {n : Str} (hn : n ∈ t.map (·.1)) : per t n ≤ t.length := by
  obtain ⟨p, hp, hl⟩ := ht.hasPer hn
  rw [(ht.perOk hn).uniq hp]
  exact hl
noncomputable def ringOf (t : List PS2) (n : Str) : List Str := (List.range (per t n)).map (it t n)
theorem mem_ring {t : List PS2} {n x : Str} : x ∈ ringOf t n ↔ ∃ i, i < per t n ∧ it t n i = x := by
  unfold ringOf
  rw [List.mem_map]
  constructor
  · rintro ⟨i, hi, e⟩; exact ⟨i, List.mem_range.mp hi, e⟩
  · rintro ⟨i, hi, e⟩; exact ⟨i, List.mem_range.mpr hi, e⟩
theorem it_mul (t : List PS2) (n : Str) {p : Nat} (h : it t n p = n) : ∀ k, it t n (k * p) = n
  | 0 => by rw [Nat.zero_mul]; rfl
  | k + 1 => by rw [Nat.succ_mul, it_add, it_mul t n h k]; exact h
theorem it_mod (t : List PS2) (n : Str) {p : Nat} (h : it t n p = n) (i : Nat) : it t n i = it t n (i % p) := by
  have e : i = (i / p) * p + i % p := by rw [Nat.mul_comm]; exact (Nat.div_add_mod i p).symm
  conv => lhs; rw [e]
  rw [it_add, it_mul t n h]
theorem IsTurn.it_mem {t : List PS2} (ht : IsTurn t) {n : Str} (hn : n ∈ t.map (·.1)) (i : Nat) : it t n i ∈ ringOf t n := by
  have hp := ht.perOk hn
  rw [it_mod t n hp.back]
  exact mem_ring.mpr ⟨_, Nat.mod_lt _ hp.pos, rfl⟩
theorem IsTurn.ring_in {t : List PS2} (ht : IsTurn t) {n x : Str} (hn : n ∈ t.map (·.1)) (h : x ∈ ringOf t n) : x ∈ t.map (·.1) := by
  obtain ⟨i, _, rfl⟩ := mem_ring.mp h
  exact ht.it_in hn i
theorem IsTurn.ring_nd {t : List PS2} (ht : IsTurn t) {n : Str} (hn : n ∈ t.map (·.1)) : (ringOf t n).Nodup := IsPer.nd ht hn (ht.perOk hn).first
/-- rings of names of one ring have the same names -/
theorem IsTurn.ring_sub {t : List PS2} (ht : IsTurn t) {n x : Str} (hn : n ∈ t.map (·.1)) (h : x ∈ ringOf t n) {y : Str} (hy : y ∈ ringOf t x) : y ∈ ringOf t n := by
  obtain ⟨i, _, rfl⟩ := mem_ring.mp h
  obtain ⟨j, _, rfl⟩ := mem_ring.mp hy
  rw [← it_add]
  exact ht.it_mem hn _
theorem IsTurn.ring_sym {t : List PS2} (ht : IsTurn t) {n x : Str} (hn : n ∈ t.map (·.1)) (h : x ∈ ringOf t n) : n ∈ ringOf t x := by
  obtain ⟨i, hi, rfl⟩ := mem_ring.mp h
  have hp := ht.perOk hn
  have : it t (it t n i) (per t n - i) = n := by
    rw [← it_add]
    rw [show i + (per t n - i) = per t n by omega]
    exact hp.back
  have h2 := ht.it_mem (ht.it_in hn i) (per t n - i)
  rw [this] at h2
  exact h2
theorem IsTurn.ring_two {t : List PS2} (ht : IsTurn t) {n : Str} (hn : n ∈ t.map (·.1)) : 2 ≤ per t n := by
  have hp := ht.perOk hn
  rcases Nat.lt_or_ge (per t n) 2 with h | h
  · have e : per t n = 1 := by have := hp.pos; omega
    have b := hp.back
    rw [e] at b
    exact absurd b (ht.look_ne hn)
  · exact h
theorem ring_len (t : List PS2) (n : Str) : (ringOf t n).length = per t n := by
  unfold ringOf
  rw [List.length_map, List.length_range]
theorem ring_get {t : List PS2} {n : Str} {i : Nat} (h : i < per t n) : (ringOf t n)[i]? = some (it t n i) := by
  unfold ringOf
  rw [List.getElem?_map, List.getElem?_range h]
  rfl
end Pf

/-! the rounds of a turn, told from their least names: pure -/
namespace Pf
open PySem PySem.Spec PyProof.Rows L2
def eR (r : List Str) : PyData := .tuple (r.map .str)
noncomputable def isMin (t : List PS2) (n : Str) : Bool := open Classical in decide (∀ x ∈ ringOf t n, leS n x)
theorem isMin_iff {t : List PS2} {n : Str} : isMin t n = true ↔ ∀ x ∈ ringOf t n, leS n x := by
  unfold isMin
  exact decide_eq_true_iff
noncomputable def roundsOf (t : List PS2) : List (List Str) := ((t.map (·.1)).filter (isMin t)).map (ringOf t)
theorem leS_refl (x : Str) : leS x x := ltS_irr x
theorem leS_tot (x y : Str) : leS x y ∨ leS y x := by
  rcases ltS_tri x y with h | h | h
  · exact .inl (leS_of_lt h)
  · exact .inl (by rw [h]; exact leS_refl y)
  · exact .inr (leS_of_lt h)
theorem min_ex : ∀ {l : List Str}, l ≠ [] → ∃ m ∈ l, ∀ x ∈ l, leS m x
  | [], h => absurd rfl h
  | [a], _ => ⟨a, List.mem_cons_self, fun x hx => by rw [List.mem_singleton.mp hx]; exact leS_refl a⟩
  | a :: b :: r, _ => by
    obtain ⟨m, hm, hl⟩ := min_ex (l := b :: r) (fun z => nomatch z)
    rcases leS_tot a m with h | h
    · exact ⟨a, List.mem_cons_self, fun x hx => by
        rcases List.mem_cons.mp hx with e | hx
        · rw [e]; exact leS_refl a
        · exact leS_trans h (hl x hx)⟩
    · exact ⟨m, List.mem_cons_of_mem _ hm, fun x hx => by
        rcases List.mem_cons.mp hx with e | hx
        · rw [e]; exact h
        · exact hl x hx⟩
theorem IsTurn.self_in {t : List PS2} (ht : IsTurn t) {n : Str} (hn : n ∈ t.map (·.1)) : n ∈ ringOf t n := mem_ring.mpr ⟨0, (ht.perOk hn).pos, rfl⟩
/-- each name that moves stands in a round that is told -/
theorem IsTurn.home {t : List PS2} (ht : IsTurn t) {x : Str} (hx : x ∈ t.map (·.1)) : ∃ m ∈ (t.map (·.1)).filter (isMin t), x ∈ ringOf t m := by
  have h0 := ht.self_in hx
  obtain ⟨m, hm, hl⟩ := min_ex (l := ringOf t x) (fun z => by rw [z] at h0; cases h0)
  have hms := ht.ring_in hx hm
  exact ⟨m, List.mem_filter.mpr ⟨hms, isMin_iff.mpr fun y hy => hl y (ht.ring_sub hx hm hy)⟩, ht.ring_sym hx hm⟩
theorem IsTurn.flat_mem {t : List PS2} (ht : IsTurn t) (x : Str) : x ∈ (roundsOf t).flatten ↔ x ∈ t.map (·.1) := by
  unfold roundsOf
  rw [List.mem_flatten]
  constructor
  · rintro ⟨r, hr, hx⟩
    obtain ⟨m, hm, rfl⟩ := List.mem_map.mp hr
    exact ht.ring_in (List.mem_filter.mp hm).1 hx
  · intro hx
    obtain ⟨m, hm, h⟩ := ht.home hx
    exact ⟨_, List.mem_map.mpr ⟨m, hm, rfl⟩, h⟩
theorem IsTurn.flat_nd {t : List PS2} (ht : IsTurn t) : (roundsOf t).flatten.Nodup := by
  unfold roundsOf
  rw [List.Nodup, List.pairwise_flatten]
  refine ⟨fun l hl => ?_, ?_⟩
  · obtain ⟨m, hm, rfl⟩ := List.mem_map.mp hl
    exact ht.ring_nd (List.mem_filter.mp hm).1
  · rw [List.pairwise_map]
    have nd : ((t.map (·.1)).filter (isMin t)).Pairwise (· ≠ ·) := List.Pairwise.filter _ ht.nd
    refine List.Pairwise.imp_of_mem ?_ nd
    intro m m' hm hm' hne x hx y hy e
    subst e
    have h1 := List.mem_filter.mp hm
    have h2 := List.mem_filter.mp hm'
    have a1 : m' ∈ ringOf t m := ht.ring_sub h1.1 hx (ht.ring_sym h2.1 hy)
    have a2 : m ∈ ringOf t m' := ht.ring_sub h2.1 hy (ht.ring_sym h1.1 hx)
    exact hne (leS_anti (isMin_iff.mp h1.2 _ a1) (isMin_iff.mp h2.2 _ a2))
theorem IsTurn.flat_perm {t : List PS2} (ht : IsTurn t) : (roundsOf t).flatten.Perm (t.map (·.1)) :=
  (List.perm_ext_iff_of_nodup ht.flat_nd ht.nd).mpr ht.flat_mem
theorem IsTurn.ring_cons {t : List PS2} (ht : IsTurn t) {n : Str} (hn : n ∈ t.map (·.1)) : ∃ r, ringOf t n = n :: r := by
  have h := ring_get (t := t) (n := n) (i := 0) (ht.perOk hn).pos
  cases e : ringOf t n with
  | nil => rw [e] at h; simp at h
  | cons a r =>
    rw [e] at h
    have : a = n := by simpa [it] using h
    exact ⟨r, by rw [this]⟩
theorem lt_rings {x y : Str} {r s : List Str} (h : ltS x y) : PySem.W.dataLe false eR (x :: r) (y :: s) = true := by
  show (!PySem.W.dataLt (eR (y :: s)) (eR (x :: r))) = true
  unfold eR
  rw [List.map_cons, List.map_cons, PySem.W.dataLt_tuple, PySem.W.dataLt_cons (by simp [PySem.W.alike]), eqv_str, ltS_dec]
  have ne : ¬ y = x := fun e => ltS_irr x (by rw [e] at h; exact h)
  rw [decide_eq_false ne, if_neg Bool.false_ne_true, decide_eq_false (ltS_asymm h)]
  rfl
theorem IsTurn.rise_rounds {t : List PS2} (ht : IsTurn t) : (roundsOf t).mergeSort (PySem.W.dataLe false eR) = roundsOf t := by
  refine List.mergeSort_of_pairwise ?_
  unfold roundsOf
  rw [List.pairwise_map]
  refine List.Pairwise.imp_of_mem ?_ (List.Pairwise.filter (isMin t) ht.rise)
  intro m m' hm hm' h
  obtain ⟨r, e⟩ := ht.ring_cons (List.mem_filter.mp hm).1
  obtain ⟨s, e'⟩ := ht.ring_cons (List.mem_filter.mp hm').1
  rw [e, e']
  exact lt_rings h
theorem alike_strs : ∀ (r s : List Str), PySem.W.alikeAll (r.map .str) (s.map .str) = true
  | [], _ => by simp [PySem.W.alikeAll]
  | _ :: _, [] => by simp [PySem.W.alikeAll]
  | x :: r, y :: s => by
    rw [List.map_cons, List.map_cons]
    unfold PySem.W.alikeAll
    rw [alike_strs r s]
    simp [PySem.W.alike]
theorem alike_R (rs : List (List Str)) : PySem.W.AllAlike (rs.map eR) := by
  refine .of fun r s => ?_
  unfold eR PySem.W.alike
  exact alike_strs r s
theorem sortable_R {rs : List (List Str)} (h : ∀ r ∈ rs, r ≠ []) : PySem.W.Sortable (rs.map eR) := by
  refine .inl fun d hd => ?_
  obtain ⟨r, hr, rfl⟩ := List.mem_map.mp hd
  cases r with
  | nil => exact absurd rfl (h _ hr)
  | cons x r => exact ⟨_, _, rfl⟩
theorem IsTurn.rounds_mem {t : List PS2} (ht : IsTurn t) {r : List Str} (h : r ∈ roundsOf t) : ∃ n, n ∈ t.map (·.1) ∧ isMin t n = true ∧ r = ringOf t n := by
  obtain ⟨n, hn, e⟩ := List.mem_map.mp h
  exact ⟨n, (List.mem_filter.mp hn).1, (List.mem_filter.mp hn).2, e.symm⟩
end Pf

/-! min of a tuple of texts, extend by a tuple, enumerate of a tuple -/
namespace Pf
open PySem PySem.Spec PyProof.Rows L2
theorem cmp_strs {prog : Program} {w : World} {A : Around} {P : Nat → Value → Prop} (val : Nat → Str) (hval : ∀ i v, P i v → ∃ t, v = .str (val i) t) :
    CmpOf prog w A .Lt P (fun i j => decide ((val i).cps.toList < (val j).cps.toList)) := fun i j vi vj s Q E hi hj h => by
  obtain ⟨t, rfl⟩ := hval i vi hi
  obtain ⟨u, rfl⟩ := hval j vj hj
  exact richCompare_gives (op := .Lt) (typeIs_str s _ t) (typeIs_str s _ u) PySem.F.slot_str_lt PySem.F.entry_str_lt (PySem.F.args_str_lt_2 _ _) (gives_str_lt _ _ t u) (fun x => nomatch x) h
theorem best_least (val : Nat → Str) : ∀ k, argBest (fun i j => decide (ltS (val i) (val j))) k ≤ k ∧ ∀ j, j ≤ k → leS (val (argBest (fun i j => decide (ltS (val i) (val j))) k)) (val j)
  | 0 => ⟨Nat.le_refl _, fun j hj => by rw [Nat.le_zero.mp hj]; exact leS_refl _⟩
  | k + 1 => by
    obtain ⟨h1, h2⟩ := best_least val k
    unfold argBest
    by_cases h : ltS (val (k + 1)) (val (argBest (fun i j => decide (ltS (val i) (val j))) k))
    · rw [if_pos (decide_eq_true h)]
      refine ⟨Nat.le_refl _, fun j hj => ?_⟩
      by_cases e : j = k + 1
      · rw [e]; exact leS_refl _
      · exact leS_trans (leS_of_lt h) (h2 j (by omega))
    · rw [if_neg (by rw [decide_eq_true_iff]; exact h)]
      refine ⟨by omega, fun j hj => ?_⟩
      by_cases e : j = k + 1
      · rw [e]; exact h
      · exact h2 j (by omega)
theorem strsAre_get : ∀ {us : List Value} {xs : List Str} {i : Nat} {v : Value}, StrsAre us xs → us[i]? = some v → ∃ t, v = .str (xs.getD i ⟨#[]⟩) t
  | _, _, _, _, .nil, h => by simp at h
  | _, _, 0, _, .cons x t r, h => by
    simp at h
    exact ⟨_, by rw [← h]; rfl⟩
  | _, _, i + 1, v, .cons x t r, h => by
    have h' : _ := strsAre_get (i := i) (v := v) r (by simpa using h)
    exact h'
section
variable {prog : Program} {w : World} {A : Around} {E : Value → Shared → Prop} {s : Shared} {l : Addr} {its : List Value}
theorem min_strTup {xs : List Str} {Q : Value → Shared → Prop} (hh : A.handled = none) (hl : s.heap.IsTuple l its.toArray) (hs : StrsAre its xs) (hlen : its.length = xs.length) (hne : 0 < xs.length)
    (h : ∀ h' tk m t', (∀ b o, s.heap.get? b = some o → h'.get? b = some o) → m ∈ xs → (∀ y ∈ xs, leS m y) → Q (.str m t') { s with heap := h', toks := tk }) :
    wpAny (model prog w) A (call (.builtin "min") [.ref l]) Q E s := by
  have hlt : l < s.heap.objs.size := by obtain ⟨_, e, _⟩ := hl; exact Heap.lt_size e
  refine call_min_walk (wpAny_pyIter_tuple hl ?_)
  refine ⟨s.heap.objs.size, _, _, _, _, _, _, rfl, Walks.tuple (A := A.in1) hh _ l (Nat.ne_of_lt hlt) its.toArray, ⟨⟨_, Heap.get?_push_size _ rfl, rfl, rfl⟩, hl.push _⟩, fun b hb => ?_, by rw [List.size_toArray]; omega, cmp_strs (fun i => xs.getD i ⟨#[]⟩) (fun i v hv => strsAre_get hs (by simpa using hv)), fun v h' tk hP hk => ?_⟩
  · show b < (s.heap.push _).objs.size
    rw [Heap.size_push]
    rcases List.mem_cons.mp hb with rfl | hb
    · exact Nat.lt_succ_self _
    · rcases List.mem_cons.mp hb with rfl | hb
      · exact Nat.lt_succ_of_lt hlt
      · cases hb
  · have hP' : its[argBest (fun i j => decide (ltS (xs.getD i ⟨#[]⟩) (xs.getD j ⟨#[]⟩))) (its.length - 1)]? = some v := by
      have e : its.toArray[argBest (fun i j => decide ((xs.getD i ⟨#[]⟩).cps.toList < (xs.getD j ⟨#[]⟩).cps.toList)) (its.toArray.size - 1)]? = some v := hP
      rw [List.getElem?_toArray, List.size_toArray] at e
      exact e
    obtain ⟨t, rfl⟩ := strsAre_get hs hP'
    obtain ⟨h1, h2⟩ := best_least (fun i => xs.getD i ⟨#[]⟩) (its.length - 1)
    generalize argBest (fun i j => decide (ltS (xs.getD i ⟨#[]⟩) (xs.getD j ⟨#[]⟩))) (its.length - 1) = k at h1 h2 hP' ⊢
    have hlt2 : k < xs.length := by omega
    refine h h' tk _ t (fun b o e => hk b o (fun hm => ?_) (Heap.get?_push_of_some _ e)) ?_ fun y hy => ?_
    · rcases List.mem_cons.mp hm with e1 | hm
      · exact absurd (e1 ▸ Heap.lt_size e) (Nat.lt_irrefl _)
      · cases hm
    · rw [List.getD_eq_getElem?_getD, List.getElem?_eq_getElem hlt2]
      exact List.getElem_mem hlt2
    · obtain ⟨j, hj, rfl⟩ := List.getElem_of_mem hy
      have := h2 j (by omega)
      have e : xs.getD j ⟨#[]⟩ = xs[j] := by rw [List.getD_eq_getElem?_getD, List.getElem?_eq_getElem hj]; rfl
      rw [← e]
      exact this
end
def rMinS (K : PySem.W.Frag) : List V → Hp → VK → Prop := fun vs H Q => ∃ (a : Addr) (xs : List Str), vs = [V.ref a] ∧ SqT K H a (xs.map V.str) ∧ 0 < xs.length ∧ ∀ m, m ∈ xs → (∀ y ∈ xs, leS m y) → Q (.str m) H
section
variable {X : Cx}
theorem cr_minT (hc : X.calm = true) : CallR X (.builtin "min") (rMinS X.K) := by
  intro pins s σ H vs us Q I r h
  obtain ⟨a, xs, rfl, hs, hne, q⟩ := h
  obtain ⟨its, rv, hl, _⟩ := I.tuple hs
  rw [Vals.ref1 r]
  refine min_strTup (I.ok.hd hc) hl (Vals.strs rv) (by rw [← rv.length, List.length_map]) hne fun h' tk m t' hk h1 h2 => ⟨.str _, H, I.kept hk, ⟨_, rfl⟩, q m h1 h2⟩
theorem cr_minTK (K : PySem.W.Frag) (hc : X.calm = true) (e : X.K = K := by rfl) : CallR X (.builtin "min") (rMinS K) := e ▸ cr_minT hc
end
end Pf

/-! sets of texts as objects: set(xs), sorted(set) -/
namespace Pf
open PySem PySem.Spec PyProof.Rows L2
def STx (P : Program) (w : World) (a : Addr) (ks : List Str) : HO := .ext fun h => KSet (strKind P w) h a ks
theorem STx.ok {P : Program} {w : World} {H : Hp} {h : Heap} {a : Addr} {ks : List Str} (F : KSet (strKind P w) h a ks) : ObjOk P w H h a (STx P w a ks) :=
  ⟨F, let ⟨o, _, _, _, ho, _⟩ := F; ⟨o, ho⟩, fun _ _ F1 k => F1.keep k⟩
theorem STx.at {P : Program} {w : World} {H : Hp} {h : Heap} {a : Addr} {ks : List Str} (ok : HOk P w H h) (e : H a = some (STx P w a ks)) : KSet (strKind P w) h a ks := (ok a _ e).1
theorem alike_S (xs : List Str) : PySem.W.AllAlike (xs.map PyData.str) := by
  intro d hd e he
  obtain ⟨x, _, rfl⟩ := List.mem_map.mp hd
  obtain ⟨y, _, rfl⟩ := List.mem_map.mp he
  simp [PySem.W.alike]
theorem sortable_S (xs : List Str) : PySem.W.Sortable (xs.map PyData.str) := by
  refine .inr fun d hd => ?_
  obtain ⟨x, _, rfl⟩ := List.mem_map.mp hd
  exact ⟨fun z => (nomatch z), fun _ z => (nomatch z)⟩
theorem dataLe_S (x y : Str) : PySem.W.dataLe false PyData.str x y = true ↔ leS x y := by
  show (!PySem.W.dataLt (.str y) (.str x)) = true ↔ _
  rw [ltS_dec, Bool.not_eq_true', decide_eq_false_iff_not]
  rfl
theorem leS_total (x y : Str) : leS x y ∨ leS y x := by
  rcases ltS_tri x y with h | h | h
  · exact .inl (leS_of_lt h)
  · exact .inl (by rw [h]; exact ltS_irr y)
  · exact .inr (leS_of_lt h)
theorem sort_S (xs : List Str) : (xs.mergeSort (PySem.W.dataLe false PyData.str)).Perm xs ∧ (xs.mergeSort (PySem.W.dataLe false PyData.str)).Pairwise leS := by
  refine ⟨List.mergeSort_perm _ _, ?_⟩
  have h := List.pairwise_mergeSort (le := PySem.W.dataLe false PyData.str) (fun a b c x y => (dataLe_S _ _).mpr (leS_trans ((dataLe_S _ _).mp x) ((dataLe_S _ _).mp y))) (fun a b => by
    rw [Bool.or_eq_true, dataLe_S, dataLe_S]; exact leS_total a b) xs
  exact h.imp fun x => (dataLe_S _ _).mp x
theorem pd_mapL {α β γ : Type} {R : γ → β → Prop} (f : α → γ) : ∀ {xs : List α} {ys : List β}, Paired (fun x y => R (f x) y) xs ys → Paired R (xs.map f) ys
  | _, _, .nil => .nil
  | _, _, .cons r t => .cons r (pd_mapL f t)
theorem each_pd {α β : Type} {R : α → β → Prop} : ∀ {xs : List α} {ys : List β}, Paired R xs ys → PySem.W.EachIs R xs ys
  | _, _, .nil => .nil
  | _, _, .cons r t => .cons r (each_pd t)
section
variable {X : Cx}
def rSetS (K : PySem.W.Frag) (P : Program) (w : World) : List V → Hp → VK → Prop := fun vs H Q => ∃ (l : Addr) (xs : List Str), vs = [.ref l] ∧ SqL K H l (xs.map V.str) ∧ xs.length ≤ 4000 ∧ ∀ a, H a = none → Q (.ref a) (upd H a (STx P w a (heap1 [] xs)))
def rSrtS (K : PySem.W.Frag) (P : Program) (w : World) : List V → Hp → VK → Prop := fun vs H Q => ∃ (a : Addr) (ks : List Str), vs = [.ref a] ∧ H a = some (STx P w a ks) ∧ ks.length ≤ 4000 ∧ ∀ (ys : List Str) (p : Addr), ys.Perm ks → ys.Pairwise leS → H p = none → Q (.ref p) (upd H p (.lst (ys.map V.str)))
theorem crSetS (calm : X.calm = true) : CallR X (.type "set") (rSetS X.K X.prog X.w) := by
  intro pins s σ H vs us Q I r h
  obtain ⟨l, xs, rfl, hs, hl, q⟩ := h
  obtain ⟨its, rv, li, _⟩ := I.list hs
  rw [Vals.ref1 r]
  have ln := rv.length
  rw [List.length_map] at ln
  have st := rv.strs
  have big : 4001 < scanBound := by decide
  refine callSetList (knd := strKind X.prog X.w) xs (I.ok.hd calm) li.isList (by rw [List.size_toArray]; exact ln.symm) (by omega) (fun i v hv => ?_) fun g tk F kp => ?_
  · rw [List.getElem?_toArray] at hv
    have hi : i < xs.length := by rw [ln]; exact (List.getElem?_eq_some_iff.mp hv).1
    obtain ⟨t, e⟩ := strsAre_get st hv
    refine ⟨xs[i], List.getElem?_eq_getElem hi, ?_, ?_⟩
    · rw [e, List.getD_eq_getElem?_getD, List.getElem?_eq_getElem hi]
      exact PySem.strKind_is _ _ _ _
    · rw [e]; rfl
  · exact ⟨.ref s.heap.objs.size, upd H s.heap.objs.size (STx X.prog X.w s.heap.objs.size (heap1 [] xs)), I.laid (t' := tk) kp (Nat.le_refl _) (STx.ok F), rfl, q _ (I.hok.fresh (Nat.le_refl _))⟩
theorem sortedKeys {P : Program} {w : World} {A : Around} {E : Value → Shared → Prop} {s : Shared} {a : Addr} {ks : List Str} {Q : Value → Shared → Prop} (F : KSet (strKind P w) s.heap a ks) (calm : A.handled = none) (units : A.units + 64 < cLine)
    (next : ∀ (s2 : Shared) (p : Addr) (out : Array Value) (age : Nat) (ys : List Str), (∀ b o, s.heap.get? b = some o → s2.heap.get? b = some o) → s2.gens = s.gens → s2.os = s.os → s.heap.objs.size ≤ p → s2.heap.get? p = some (seqObj "list" out age) →
      Vals (ys.map V.str) out.toList → ys.Perm ks → ys.Pairwise leS → Q (.ref p) s2) : wpAny (model P w) A (call (.builtin "sorted") [.ref a]) Q E s := by
  obtain ⟨o, es, age, t, at0, exa, dat, T⟩ := F
  refine Calls.call_function_entry kind_sorted plain_sorted entry_sorted (args_sorted1 _) ?_
  unfold Builtin.«sorted»
  refine wpAny_bind (m := checkCount "sorted" 1 1 _) (wpAny_pure (wpAny_bind (collect_set (A := A.in1) calm ⟨o, at0, exa.1, dat⟩ T.fit T.few T.ris T.led fun s1 vals kp big gens1 os1 pm => ?_)))
  obtain ⟨k2, pk, hk⟩ := T.keys
  have hv : Paired (fun (v : Value) (k : Str) => (strKind P w).is k v = true) (es.toList.map (·.2)) k2 := pd_mapL _ hk
  obtain ⟨k3, pk3, hk3⟩ := pd_perm pm hv
  have many : vals.length = ks.length := by rw [pd_len hk3, pk3.length_eq, pk.length_eq]
  have few : vals.length < 4096 := by
    have z := T.few
    rw [T.size] at z
    rw [many]; exact z
  refine wpAny_bind (wpAny_newList ?_ (by rw [sizeLine_eq]; omega))
  have atL : (s1.heap.push (seqObj "list" vals.toArray 0)).get? s1.heap.objs.size = some (seqObj "list" vals.toArray 0) := Heap.get?_push_size _ rfl
  have shp : ∀ {v : Value} {k : Str}, (strKind P w).is k v = true → ∃ tk, v = .str k tk := fun {v k} z => by
    obtain ⟨tk, e⟩ := Value.isStrOf_shape (x := k) (v := v) z
    exact ⟨tk, e⟩
  have each : PySem.W.EachIs (fun (v : Value) (k : Str) => ∃ tk, v = .str k tk) vals k3 := each_pd (pd_mono (fun _ _ r => shp r) hk3)
  have rd : PySem.W.EachIs (fun (v : Value) (k : Str) => ∃ as, Reads (s1.heap.push (seqObj "list" vals.toArray 0)) v (PyData.str k) as ∧ s1.heap.objs.size ∉ as) vals k3 := each_map' (fun v k ⟨tk, e⟩ => by
    subst e
    exact ⟨[], .str _ _, by simp⟩) each
  refine wpAny_bind (wpAny_holding (PySem.W.list_sort_data (bs := k3) (enc := PyData.str) (R := fun (v : Value) (k : Str) => ∃ tk, v = .str k tk) atL each rd (alike_S _) (sortable_S _) (by rw [← pd_len hk3, sizeLine_eq]; omega) (fun b _ => ?_) fun out lout eo => ?_))
  · have d0 : (PyData.str b).depth = 0 := rfl
    have u0 : A.in1.units ≤ A.units + 1 := by simp
    omega
  · have so := sort_S k3
    obtain ⟨age2, hc⟩ := sortedHeap_at (vs := vals) (out := out.toArray) atL
    have vo : Vals ((k3.mergeSort (PySem.W.dataLe false PyData.str)).map V.str) out := by
      generalize k3.mergeSort (PySem.W.dataLe false PyData.str) = ks3 at eo
      clear so hc lout
      induction eo with
      | nil => exact .nil
      | cons r _ ih => exact .cons r ih
    refine wpAny_pure ⟨_, rfl, next _ s1.heap.objs.size out.toArray age2 _ (fun b u e => ?_) gens1 os1 big hc (by exact vo) (so.1.trans (pk3.trans pk)) so.2⟩
    have q := kp b u e
    have lt := Heap.lt_size q
    show (sortedHeap (s1.heap.push (seqObj "list" vals.toArray 0)) s1.heap.objs.size vals out.toArray).get? b = some u
    rw [sortedHeap_old (Nat.ne_of_lt lt) (by rw [Heap.size_push]; exact Nat.lt_succ_of_lt lt)]
    exact Heap.get?_push_of_some _ q
theorem crSrtS (calm : X.calm = true) (hu : X.A.units + 64 < cLine) : CallR X (.builtin "sorted") (rSrtS X.K X.prog X.w) := by
  intro pins s σ H vs us Q I r h
  obtain ⟨a, ks, rfl, ha, hl, q⟩ := h
  rw [Vals.ref1 r]
  refine sortedKeys (STx.at I.hok ha) (I.ok.hd calm) hu fun s2 p out age ys kp g o big at2 vo py sy => ?_
  have ln : (ys.map V.str).length ≤ sizeLine := by rw [List.length_map, py.length_eq, sizeLine_eq]; omega
  have fr : H p = none := I.hok.fresh big
  have J : Inv X pins σ (upd H p (.lst (ys.map V.str))) { s with heap := s2.heap, gens := s2.gens, drawn := s2.drawn, toks := s2.toks } :=
    I.call (ch := []) (Un.laid kp big fr) (I.hok.laid kp big ⟨ln, out.toList, age, vo, at2⟩) (by rw [g]; exact I.bare) (fun _ z => nomatch z)
  have e : s2 = { s with heap := s2.heap, gens := s2.gens, drawn := s2.drawn, toks := s2.toks } := by
    cases s2
    cases s
    cases o
    rfl
  rw [e]
  exact ⟨.ref p, _, J, rfl, q ys p py sy fr⟩
theorem crSetSK (K : PySem.W.Frag) (P : Program) (w : World) (calm : X.calm = true) (e : X.K = K := by rfl) (e2 : X.prog = P := by rfl) (e3 : X.w = w := by rfl) : CallR X (.type "set") (rSetS K P w) := by
  subst e e2 e3
  exact crSetS calm
theorem crSrtSK (K : PySem.W.Frag) (P : Program) (w : World) (calm : X.calm = true) (hu : X.A.units + 64 < cLine) (e : X.K = K := by rfl) (e2 : X.prog = P := by rfl) (e3 : X.w = w := by rfl) : CallR X (.builtin "sorted") (rSrtS K P w) := by
  subst e e2 e3
  exact crSrtS calm hu
end
end Pf

/-! own rules: {e for x in xs if ..}, {e for x in xs for y in ys}, e a text -/
namespace Pf
open PySem PySem.Spec PyProof.Rows L2
/-- slots that know at least what others know -/
def Knows (σ τ : L2.St) : Prop := σ.length = τ.length ∧ ∀ (j : Nat) v, σ[j]? = some (some v) → τ[j]? = some (some v)
theorem Knows.trans {σ τ υ : L2.St} (a : Knows σ τ) (b : Knows τ υ) : Knows σ υ := ⟨a.1.trans b.1, fun j v e => b.2 j v (a.2 j v e)⟩
theorem Knows.refl (σ : L2.St) : Knows σ σ := ⟨rfl, fun _ _ e => e⟩
theorem Knows.wiped {σ τ : L2.St} {vs : List Nat} (h : wipe τ vs = wipe σ vs) : Knows (wipe σ vs) τ := ⟨by rw [← h, wipe_length], fun j v e => by rw [← h] at e; exact (wipe_some e).1⟩
theorem Knows.less (σ : L2.St) (vs : List Nat) : Knows (wipe σ vs) σ := ⟨wipe_length σ vs, fun j v e => (wipe_some e).1⟩
theorem Inv.known {X : Cx} {pins : List (Addr × Obj)} {σ τ : L2.St} {H : Hp} {s : Shared} (I : L2.Inv X pins τ H s) (k : Knows σ τ) : L2.Inv X pins σ H s := I.weak k.1 k.2
section
variable {Y : Cx} {pins : List (Addr × Obj)} {σ : L2.St} {E : Expr} {depth : Nat} {it : Addr} {acc : Value} {tg : Expr} {ifs : List Expr} {p : Pos} {tail : Sem PySem.Fin} {fp : List Addr} {tn : Nat → Heap → Prop} {J : It} {g : TG} {tt : TT}
  {R : Result → Shared → Prop} {W : Nat → Nat → Hp → Prop} {m0 : Nat} {H0 : Hp} {s0 : Shared}
/-- the turns of a clause, whatever stands in it -/
theorem clauseTurns (T : Turn Y.prog Y.w Y.K tg J fp it tn) (calm : Y.calm = true) (xe : Y.xe = fun _ _ => False) (pg : PG Y tg g) (pt : PTs Y ifs tt) (ready : ∀ {G : Hp}, (∀ b ∈ fp, G b = none) → ∀ b ∈ fp, FpOk Y pins G b)
    (shape : compTurn E depth (.ref it) acc Y.env = (do
      standAt p
      match ← pyNext (.ref it) with
      | none => pure (.done .next)
      | some u =>
        letOwnedTupleGo tg (.ref it) u
        assign tg Y.env u
        let mut good := true
        for q in ifs do
          if good then good ← isTrue q Y.env (eval q Y.env)
        if good then tail else again (.compLoop E depth (.ref it) acc Y.env)))
    (plain : (Code.compLoop E depth (.ref it) acc Y.env).quiet = true)
    (opens : ∀ (Q : PySem.Fin → Shared → Prop) (Ee : Value → Shared → Prop) (s : Shared), wpAny (model Y.prog Y.w) Y.A ((compTurn E depth (.ref it) acc Y.env).onRaise (fun e => do noteFrame e Y.env; theTreesLotGoes e)) Q Ee s →
      wpAny (model Y.prog Y.w) (Y.A.under (Code.compLoop E depth (.ref it) acc Y.env)) ((model Y.prog Y.w).den (Code.compLoop E depth (.ref it) acc Y.env)) Q Ee s)
    (turn : ∀ i m G, W i m G → (J.stop i G ∧ ∀ s, L2.Inv Y pins σ G s → R (.ok .next) s) ∨ (J.go i G ∧ ∃ N : Hp → Prop, (∀ G2, N G2 → ∃ m2, m2 < m ∧ W (i + 1) m2 G2) ∧ ∀ x G2, J.yld i G x G2 → ∃ C1 : L2.St → Hp → Prop, g x σ G2 C1 ∧ ∀ τ G3, C1 τ G3 → Knows σ τ ∧ ∃ C2 : Bool → Hp → Prop, tt τ G3 C2 ∧ (∀ G4, C2 false G4 → N G4) ∧
      ∀ G4, C2 true G4 → ∀ (more : List (Addr × Obj)) (s : Shared), L2.Inv Y (pins ++ more) τ G4 s →
        wpAny (model Y.prog Y.w) Y.A tail (fun r s2 => r = .again (.compLoop E depth (.ref it) acc Y.env) ∧ ∃ υ G5, L2.Inv Y (pins ++ more) υ G5 s2 ∧ Knows σ υ ∧ N G5) (fun _ _ => False) s))
    (I0 : L2.Inv Y pins σ H0 s0) (st0 : tn 0 s0.heap) (n0 : ∀ b ∈ fp, H0 b = none) (w0 : W 0 m0 H0) : codeAny (model Y.prog Y.w) Y.A (.compLoop E depth (.ref it) acc Y.env) R s0 := by
  refine codeAny_loop plain (fun n s => ∃ i G, L2.Inv Y pins σ G s ∧ tn i s.heap ∧ (∀ b ∈ fp, G b = none) ∧ W i n G) (fun n s hI => ?_) m0 ⟨0, H0, I0, st0, n0, w0⟩
  obtain ⟨i, G, I, st, nn, w⟩ := hI
  refine opens _ _ _ (wpAny_noted ?_)
  rw [shape]
  refine wpAny_bind (wpAny_standAt (wpAny_bind ?_))
  have off : ∀ {α : Type} {t : Sem α} {Q Q2 : α → Shared → Prop} {E2 : Value → Shared → Prop} {s : Shared}, wpAny (model Y.prog Y.w) Y.A t Q Y.xe s → (∀ a s, Q a s → Q2 a s) → wpAny (model Y.prog Y.w) Y.A t Q2 E2 s := fun h hq => wpAny_mono h hq fun _ _ z => by rw [xe] at z; exact z.elim
  rcases turn i n G w with ⟨stop, last⟩ | ⟨go, N, hN, step⟩
  · refine thnF (T.done Y rfl rfl rfl calm i pins s σ G (fun _ _ => False) I (ready nn) st stop) fun r s2 ⟨hr, I2⟩ => ?_
    subst hr
    exact wpAny_pure (last _ I2)
  · refine thnF (T.item Y rfl rfl rfl calm i pins s σ G (fun _ _ => False) I (ready nn) st go) fun r s2 ⟨u, hr, h2⟩ => ?_
    subst hr
    refine wpAny_bind (thnF h2 fun _ s3 ⟨x, G3, I3, r3, y3, st3, n3⟩ => ?_)
    have J3 := I3.pinned (ready n3) (T.obj _ _ st3)
    obtain ⟨C1, go1, c1⟩ := step x G3 y3
    refine wpAny_bind (off (pg.run _ s3 _ G3 x u _ J3 r3 go1) fun _ s4 ⟨τ, G4, I4, q4⟩ => ?_)
    obtain ⟨k4, C2, go2, c20, c21⟩ := c1 τ G4 q4
    refine wpAny_bind (off (pt.run _ s4 τ G4 _ I4 go2) fun b s5 ⟨G5, I5, q5⟩ => ?_)
    have round : ∀ {υ : L2.St} {s6 : Shared} {G6 : Hp}, L2.Inv Y (pins ++ pinsAt fp s3.heap) υ G6 s6 → Knows σ υ → N G6 → ∃ m, m < n ∧ ∃ i G, L2.Inv Y pins σ G s6 ∧ tn i s6.heap ∧ (∀ b ∈ fp, G b = none) ∧ W i m G := fun {υ s6 G6} I6 k6 q6 => by
      obtain ⟨m2, lt, w2⟩ := hN _ q6
      have held : ∀ b ∈ fp, ∀ o, s3.heap.get? b = some o → s6.heap.get? b = some o ∧ G6 b = none := fun b hb o e => by
        obtain ⟨z1, z2, _⟩ := I6.pin (b, o) (List.mem_append_right _ (List.mem_append_right _ (mem_pinsAt hb e)))
        exact ⟨z1, z2⟩
      refine ⟨m2, lt, i + 1, G6, Inv.known I6.unpinned k6, T.keep _ _ _ st3 fun b hb o e => (held b hb o e).1, fun b hb => ?_, w2⟩
      obtain ⟨o, e, _⟩ := T.obj _ _ st3 b hb
      exact (held b hb o e).2
    cases b with
    | false => exact wpAny_pure ⟨rfl, round I5 k4 (c20 _ q5)⟩
    | true =>
      refine thnF (c21 _ q5 _ s5 I5) fun r s6 hr => ?_
      obtain ⟨rfl, υ, G6, I6, k6, q6⟩ := hr
      exact ⟨rfl, round I6 k6 q6⟩
end
section
variable {X : Cx} {pins : List (Addr × Obj)} {σ : L2.St} {H : Hp} {s : Shared} {E2 : Value → Shared → Prop} {D : Addr} {ks : List Str} {k : Str} {v : Value}
/-- a text put into a set of texts -/
theorem addT {Q : Value → Shared → Prop} (I : L2.Inv X pins σ H s) (at0 : H D = some (STx X.prog X.w D ks)) (room : ks.length + 1 < scanBound) (r : RelV (.str k) v) (next : ∀ s2, L2.Inv X pins σ (upd H D (STx X.prog X.w D (if k ∈ ks then ks else k :: ks))) s2 → Q .none s2) :
    wpAny (model X.prog X.w) X.A (call (.builtin "set.add") [.ref D, v]) Q E2 s := by
  obtain ⟨t, rfl⟩ := r
  have S0 := STx.at I.hok at0
  have ty : s.TypeIs (.ref D) "set" := by
    obtain ⟨o, es, age, t, ho, ex, _⟩ := S0
    exact ⟨o, ho, ex.1⟩
  have isk := PySem.strKind_is X.prog X.w k t
  refine wpAny_call_entry F.slot_set_add ty F.entry_set_add ?_ (F.args_set_add_2 _ _)
  unfold Builtin.«set.add» Builtin.Frozenset.oneOther
  simp only [List.isEmpty_nil, bind_assoc]
  unfold Builtin.Frozenset.addrOf setAdd
  refine wpAny_bind (wpAny_pure ?_)
  try dsimp only
  refine wpAny_bind (wpAny_pure ?_)
  try dsimp only
  refine wpAny_bind (wpAny_holding (wpAny_bind ((strKind X.prog X.w).pyHash isk ?_)))
  refine addOne (knd := strKind X.prog X.w) (s := { s with toks := s.toks + 1 }) S0 isk rfl room fun g gs gk => ?_
  show wpAny _ _ (ret Value.none) _ _ _
  refine wpAny_pure ⟨_, rfl, next _ (I.write (e := D) (t' := s.toks + 1) (by rw [at0]; trivial) (.inl rfl) (fun b u hb hu => (gs.2 b hb).trans hu) ?_ (STx.ok gk))⟩
  obtain ⟨o, _, _, _, ho, _⟩ := gk
  exact ⟨o, ho⟩
end
section
variable {X : Cx} {pins : List (Addr × Obj)} {σ : L2.St} {H : Hp} {s : Shared} {Q : VK} {elt tg iter : Expr} {ifs : List Expr} {rest : List Comprehension} {scope : Scope} {own : List (Str × Nat)} {pos pos2 : Pos} {wi : TI} {use : Option (Value → Sem Unit)} {Qf : Value → Shared → Prop}
/-- the new set is there, and the block's own names -/
theorem setEnter (calm : X.calm = true) (hN : X.N.Nodup) (I : L2.Inv X pins σ H s) (hi : PI X tg iter wi) (ok : BlkOk X.N X.env.scope scope own) (hs : ∀ x, foldedSetIterable iter X.env x = pure x) {Start : It → Addr → Hp → Prop}
    (h : wi σ H fun J G => ∀ D, G D = none → Start J D (upd G D (STx X.prog X.w D [])))
    (inside : ∀ (J : It) (D : Addr) (G : Hp) (b0 : Shared) (cl : List (Str × Addr)) (fp : List Addr) (it : Addr) (tn : Nat → Heap → Prop) (b1 : Shared), Start J D G → Turn X.prog X.w X.K tg J fp it tn →
      L2.Inv (X.blk b0 G scope (compEnvC scope cl b0.heap.objs.size X.env) fp) [] (wipe σ (own.map (·.2))) G b1 → tn 0 b1.heap → (∀ b ∈ fp, G b = none) →
      (∀ (G2 : Hp) (b2 : Shared), L2.Inv (X.blk b0 G scope (compEnvC scope cl b0.heap.objs.size X.env) fp) [] (wipe σ (own.map (·.2))) G2 b2 → Q (.ref D) G2 → compPost (model X.prog X.w) X.A X.xe use Qf (.ref D) b0.heap.objs.size (.ok .next) b2) →
      codeAny (model X.prog X.w) X.A (.compLoop (.SetComp elt (⟨tg, iter, ifs, 0⟩ :: rest) scope pos) 0 (.ref it) (.ref D) (compEnvC scope cl b0.heap.objs.size X.env)) (compPost (model X.prog X.w) X.A X.xe use Qf (.ref D) b0.heap.objs.size) b1)
    (leave : ∀ (D C : Addr) (b2 : Shared) (m : Str → Option Value) (G2 : Hp), L2.Inv X pins σ G2 b2 → Q (.ref D) G2 → b2.heap.Ns C m → FpOk X pins G2 C → compPost (model X.prog X.w) X.A X.xe use Qf (.ref D) C (.ok .next) b2) :
    wpAny (model X.prog X.w) X.A (comprehension (.SetComp elt (⟨tg, iter, ifs, 0⟩ :: rest) scope pos) scope X.env pos2 (newSet (.type "set")) false (eval iter X.env) use) Qf X.xe s := by
  have cells : ∀ y ∈ scope.names, y.2 = .free → ∃ c, X.env.cells.lookup y.1 = some c := fun y hy e => (ok.free y hy e).elim (fun z => I.ok.has _ (.inl z)) (fun z => I.ok.has _ (.inr z))
  refine wpAny_comprehension_free (use := use) rfl hs (closure_ok cells) ok.kind (fun y hy e => by rw [ok.uniq y hy, e]) (thn (hi.run pins s σ H _ I h) fun _ s1 h1 => thn h1 fun _ s2 h2 => ?_)
  obtain ⟨it, fp, tn, J, G, rfl, I2, T, st2, f2, start⟩ := h2
  refine PpSet.newSet_ok (newEnv_comp ?_)
  have free0 : G s2.heap.objs.size = none := I2.hok.fresh (Nat.le_refl _)
  have start := start _ free0
  have keep0 : ∀ b o, s2.heap.get? b = some o → (s2.heap.push { cls := .type "set", dict := none, data := .set #[] 0 (.fresh 0 0 (!X.w.params.followText "set-order")) }).get? b = some o := fun b o e => Heap.get?_push_of_some _ e
  have I3 : L2.Inv X pins σ (upd G s2.heap.objs.size (STx X.prog X.w s2.heap.objs.size [])) { s2 with heap := s2.heap.push { cls := .type "set", dict := none, data := .set #[] 0 (.fresh 0 0 (!X.w.params.followText "set-order")) } } :=
    I2.laid (t' := s2.toks) keep0 (Nat.le_refl _) (STx.ok (newAt rfl (Heap.get?_push_size _ rfl)))
  have small : ∀ b ∈ fp, b < s2.heap.objs.size := fun b hb => by
    obtain ⟨o, e, _⟩ := T.obj _ _ st2 b hb
    exact Heap.lt_size e
  have grown : (s2.heap.push { cls := .type "set", dict := none, data := .set #[] 0 (.fresh 0 0 (!X.w.params.followText "set-order")) }).objs.size = s2.heap.objs.size + 1 := Heap.size_push ..
  have st3 := T.keep _ _ _ st2 fun b _ o e => keep0 b o e
  have low : ∀ b ∈ fp, FpOk X pins (upd G s2.heap.objs.size (STx X.prog X.w s2.heap.objs.size [])) b ∧ b < (s2.heap.push { cls := .type "set", dict := none, data := .set #[] 0 (.fresh 0 0 (!X.w.params.followText "set-order")) }).objs.size := fun b hb => by
    have lt := small b hb
    refine ⟨⟨?_, (f2 b hb).2⟩, by rw [grown]; exact Nat.lt_succ_of_lt lt⟩
    rw [upd_ne (Nat.ne_of_lt lt)]
    exact (f2 b hb).1
  generalize s2.heap.objs.size = D at start I3 low ⊢
  generalize hb0 : ({ s2 with heap := s2.heap.push { cls := .type "set", dict := none, data := .set #[] 0 (.fresh 0 0 (!X.w.params.followText "set-order")) } } : Shared) = b0 at I3 ⊢
  rw [show s2.heap.push { cls := .type "set", dict := none, data := .set #[] 0 (.fresh 0 0 (!X.w.params.followText "set-order")) } = b0.heap by rw [← hb0]] at st3 low
  have I4 := block_start I3 ok hN low
  have st4 := T.keep _ _ (pushCells (b0.heap.push { cls := .type "dict", data := .dict #[] }) scope.names) st3 fun b _ o e => pushCells_keeps _ _ _ _ (Heap.get?_push_of_some _ e)
  generalize upd G D (STx X.prog X.w D []) = G0 at start I3 I4 low
  have loop := inside J D G0 b0 _ fp it tn _ start T I4 st4 (fun b hb => (low b hb).1.1) fun G2 b2 I5 q => by
    have I6 : L2.Inv X pins σ G2 b2 := I3.call' (ch := fp) I5.os I5.base I5.hok I5.bare fun b hb => ⟨(low b hb).1.2.2.2.1, (low b hb).1.2.1, (low b hb).1.2.2.2.2.1, (low b hb).1.2.2.2.2.2⟩
    obtain ⟨m, hn, _⟩ := I5.loc
    exact leave D b0.heap.objs.size b2 m G2 I6 q hn (I3.fpOk (Nat.le_refl _) I5.free)
  exact PpSet.codeAny_compStart_set loop (T.self X.A 0 _ _ _ st4 loop)
variable {g : TG} {tt : TT} {te : TE}
/-- the turns of {elt for tg in iter if ..}: D the new set of texts -/
def scFrom (P : Program) (w : World) (g : TG) (tt : TT) (te : TE) (vs : List Nat) (σ : L2.St) (Q : VK) (J : It) (D : Addr) (G : Hp) : Prop := ∃ W : Nat → Nat → Hp → Prop, (∃ m, W 0 m G) ∧ ∀ i m G1, W i m G1 →
  (J.stop i G1 ∧ Q (.ref D) G1) ∨ (J.go i G1 ∧ ∃ N : Hp → Prop, (∀ G2, N G2 → ∃ m2, m2 < m ∧ W (i + 1) m2 G2) ∧ ∀ x G2, J.yld i G1 x G2 → g x (wipe σ vs) G2 fun τ G3 => wipe τ vs = wipe σ vs ∧ tt τ G3 fun b G4 =>
    if b = true then te τ G4 fun y G5 => ∃ (k : Str) (ks : List Str), y = .str k ∧ G5 D = some (STx P w D ks) ∧ ks.length < 4000 ∧ N (upd G5 D (STx P w D (if k ∈ ks then ks else k :: ks))) else N G4)
def tScT (P : Program) (w : World) (wi : TI) (g : TG) (tt : TT) (te : TE) (vs : List Nat) : TE := fun σ H Q => wi σ H fun J G => ∀ D, G D = none → scFrom P w g tt te vs σ Q J D (upd G D (STx P w D []))
theorem ready_blk {b0 b1 : Shared} {G G1 : Hp} {ce : Env} {fp : List Addr} {τ : L2.St} (I1 : L2.Inv (X.blk b0 G1 scope ce fp) [] τ G b1) {G2 : Hp} (n : ∀ b ∈ fp, G2 b = none) : ∀ b ∈ fp, FpOk (X.blk b0 G1 scope ce fp) [] G2 b := fun b hb =>
  ⟨n b hb, (I1.ok.exf b hb).1, I1.ok.exfs b hb, .inl hb, fun y c e => (I1.ok.exf b hb).2 y c e, fun q hq => absurd (show q ∈ ([] : List (Addr × Obj)) ++ [] from hq) (by simp)⟩
theorem pe_sct (calm : X.calm = true) (hN : X.N.Nodup) (hi : PI X tg iter wi) (ok : BlkOk X.N X.env.scope scope own)
    (hg : ∀ (b0 : Shared) (G : Hp) (C : Addr) (cl : List (Str × Addr)) (fp : List Addr), PG (X.blk b0 G scope (compEnvC scope cl C X.env) fp) tg g)
    (ht : ∀ (b0 : Shared) (G : Hp) (C : Addr) (cl : List (Str × Addr)) (fp : List Addr), PTs (X.blk b0 G scope (compEnvC scope cl C X.env) fp) ifs tt)
    (he : ∀ (b0 : Shared) (G : Hp) (C : Addr) (cl : List (Str × Addr)) (fp : List Addr), PE (X.blk b0 G scope (compEnvC scope cl C X.env) fp) elt te)
    (hs : ∀ x, foldedSetIterable iter X.env x = pure x := by intro _; rfl) : PE X (.SetComp elt [⟨tg, iter, ifs, 0⟩] scope pos) (tScT X.prog X.w wi g tt te (own.map (·.2))) := by
  refine ⟨fun pins s σ H Q I h => ?_⟩
  rw [PpSet.eval_SetComp]
  refine setEnter (Q := Q) (Start := scFrom X.prog X.w g tt te (own.map fun q : Str × Nat => q.2) σ Q) calm hN I hi ok hs h (fun J D G b0 cl fp it tn b1 start T I1 st n back => ?_) (fun D C b2 m G2 I2 q hn f => ⟨m, hn, fun g2 sb => ?_⟩)
  · obtain ⟨W, ⟨m0, w0⟩, turn⟩ := start
    have big : 4001 < scanBound := by decide
    refine clauseTurns (Y := X.blk b0 G scope (compEnvC scope cl b0.heap.objs.size X.env) fp) (p := iter.pos) (tail := do
        let __r ← (do let v ← eval elt (compEnvC scope cl b0.heap.objs.size X.env); standAt elt.pos; let _ ← call (.builtin "set.add") [.ref D, v])
        again (.compLoop (.SetComp elt [⟨tg, iter, ifs, 0⟩] scope pos) 0 (.ref it) (.ref D) (compEnvC scope cl b0.heap.objs.size X.env)))
      T calm rfl (hg b0 G _ cl fp) (ht b0 G _ cl fp) (ready_blk I1) (by rfl) rfl (fun _ _ _ h => h) (fun i m G1 w => ?_) I1 st n w0
    rcases turn i m G1 w with ⟨stop, q⟩ | ⟨go, N, less, step⟩
    · exact .inl ⟨stop, fun b2 I2 => back _ _ I2 q⟩
    · refine .inr ⟨go, N, less, fun x G2 y => ⟨_, step x G2 y, fun τ G3 ⟨ew, q3⟩ => ⟨Knows.wiped ew, _, q3, fun G4 q4 => ?_, fun G4 q4 more b2 I2 => ?_⟩⟩⟩
      · rw [if_neg Bool.false_ne_true] at q4
        exact q4
      · rw [if_pos rfl] at q4
        refine wpAny_bind (wpAny_bind (thnF ((he b0 G _ cl fp).run _ b2 τ G4 _ I2 q4) fun z b3 ⟨yv, G5, I5, r5, k, ks, ey, at5, few, nx⟩ => wpAny_bind (wpAny_standAt (wpAny_bind ?_))))
        subst ey
        exact addT (X := X.blk b0 G scope (compEnvC scope cl b0.heap.objs.size X.env) fp) I5 at5 (by omega) r5 fun b4 I4 => wpAny_pure (wpAny_pure ⟨rfl, τ, _, I4, Knows.wiped ew, nx⟩)
  · obtain ⟨f0, f1, f2, f3, f4, f5⟩ := f
    exact ⟨.ref D, G2, I2.turned (t' := b2.toks) (fun b o hb e => (sb.2 b hb).trans e) f0 f1 f3 f4 f5, rfl, q⟩
variable {tg1 iter1 : Expr} {ifs1 : List Expr} {vs1 : List Nat} {wi1 : TI} {g1 : TG} {tt1 : TT}
/-- the turns of {elt for tg in iter if .. for tg1 in iter1 if ..} -/
def scFrom2 (P : Program) (w : World) (g : TG) (tt : TT) (wi1 : TI) (g1 : TG) (tt1 : TT) (te : TE) (vs vs1 : List Nat) (σ : L2.St) (Q : VK) (J : It) (D : Addr) (G : Hp) : Prop := ∃ W : Nat → Nat → Hp → Prop, (∃ m, W 0 m G) ∧ ∀ i m G1, W i m G1 →
  (J.stop i G1 ∧ Q (.ref D) G1) ∨ (J.go i G1 ∧ ∃ N : Hp → Prop, (∀ G2, N G2 → ∃ m2, m2 < m ∧ W (i + 1) m2 G2) ∧ ∀ x G2, J.yld i G1 x G2 → g x (wipe σ vs) G2 fun τ G3 => wipe τ vs = wipe σ vs ∧ tt τ G3 fun b G4 =>
    if b = true then wi1 τ G4 fun J1 G5 => ∃ W1 : Nat → Nat → Hp → Prop, (∃ m, W1 0 m G5) ∧ ∀ j m1 G6, W1 j m1 G6 →
      (J1.stop j G6 ∧ N G6) ∨ (J1.go j G6 ∧ ∃ N1 : Hp → Prop, (∀ G7, N1 G7 → ∃ m2, m2 < m1 ∧ W1 (j + 1) m2 G7) ∧ ∀ x1 G7, J1.yld j G6 x1 G7 → g1 x1 (wipe τ vs1) G7 fun υ G8 => wipe υ vs1 = wipe τ vs1 ∧ tt1 υ G8 fun b1 G9 =>
        if b1 = true then te υ G9 fun y G10 => ∃ (k : Str) (ks : List Str), y = .str k ∧ G10 D = some (STx P w D ks) ∧ ks.length < 4000 ∧ N1 (upd G10 D (STx P w D (if k ∈ ks then ks else k :: ks))) else N1 G9)
    else N G4)
def tScT2 (P : Program) (w : World) (wi : TI) (g : TG) (tt : TT) (wi1 : TI) (g1 : TG) (tt1 : TT) (te : TE) (vs vs1 : List Nat) : TE := fun σ H Q => wi σ H fun J G => ∀ D, G D = none → scFrom2 P w g tt wi1 g1 tt1 te vs vs1 σ Q J D (upd G D (STx P w D []))
/-- the second clause begins -/
theorem secondFrom {P : Program} {w : World} {A : Around} {R : Result → Shared → Prop} {s : Shared} {c0 : Comprehension} {it : Addr} {acc : Value} {env : Env}
    (h0 : codeAny (model P w) A (.compLoop (.SetComp elt [c0, ⟨tg1, iter1, ifs1, 0⟩] scope pos) 1 (.ref it) acc env) R s)
    (h : ∀ (Q : Value → Shared → Prop) (E : Value → Shared → Prop), Q (.ref it) s → wpAny (model P w) A (pyIter (.ref it)) Q E s) :
    codeAny (model P w) A (.compStart (.SetComp elt [c0, ⟨tg1, iter1, ifs1, 0⟩] scope pos) 1 (.ref it) acc env) R s := by
  refine codeAny_of_tree ?_
  show wpAny _ _ ((compStart (.SetComp elt [c0, ⟨tg1, iter1, ifs1, 0⟩] scope pos) 1 (.ref it) acc env).onRaise (fun e => do noteFrame e env; standAt theWindowsPlace)) _ _ s
  refine wpAny_notedAt ?_
  unfold compStart
  show wpAny _ _ (ask >>= _) _ _ s
  refine wpAny_bind (m := ask) (wpAny_askSetting (wpAny_ite ?_))
  split
  · first
      | exact wpAny_pure (And.intro rfl h0)
      | exact wpAny_bind (wpAny_pure (wpAny_pure (And.intro rfl h0)))
  · first
      | exact wpAny_bind (wpAny_rule (wpAny_bind (wpAny_standAt (wpAny_bind (h _ _ (wpAny_pure (And.intro rfl h0)))))))
      | (refine wpAny_bind (wpAny_rule ?_); show wpAny _ _ (standAt iter1.pos >>= _) _ _ s; exact wpAny_bind (wpAny_standAt (wpAny_bind (h _ _ (wpAny_pure (And.intro rfl h0))))))
theorem pe_sct2 (calm : X.calm = true) (hN : X.N.Nodup) (hi : PI X tg iter wi) (ok : BlkOk X.N X.env.scope scope own) (sub : ∀ i ∈ vs1, i ∈ own.map (·.2))
    (hg : ∀ (b0 : Shared) (G : Hp) (C : Addr) (cl : List (Str × Addr)) (fp : List Addr), PG (X.blk b0 G scope (compEnvC scope cl C X.env) fp) tg g)
    (ht : ∀ (b0 : Shared) (G : Hp) (C : Addr) (cl : List (Str × Addr)) (fp : List Addr), PTs (X.blk b0 G scope (compEnvC scope cl C X.env) fp) ifs tt)
    (hi1 : ∀ (b0 : Shared) (G : Hp) (C : Addr) (cl : List (Str × Addr)) (fp : List Addr), PI (X.blk b0 G scope (compEnvC scope cl C X.env) fp) tg1 iter1 wi1)
    (hg1 : ∀ (b0 : Shared) (G : Hp) (C : Addr) (cl : List (Str × Addr)) (fp : List Addr), PG (X.blk b0 G scope (compEnvC scope cl C X.env) fp) tg1 g1)
    (ht1 : ∀ (b0 : Shared) (G : Hp) (C : Addr) (cl : List (Str × Addr)) (fp : List Addr), PTs (X.blk b0 G scope (compEnvC scope cl C X.env) fp) ifs1 tt1)
    (he : ∀ (b0 : Shared) (G : Hp) (C : Addr) (cl : List (Str × Addr)) (fp : List Addr), PE (X.blk b0 G scope (compEnvC scope cl C X.env) fp) elt te)
    (hs : ∀ x, foldedSetIterable iter X.env x = pure x := by intro _; rfl) (hs1 : ∀ env x, foldedSetIterable iter1 env x = pure x := by intro _ _; rfl) :
    PE X (.SetComp elt [⟨tg, iter, ifs, 0⟩, ⟨tg1, iter1, ifs1, 0⟩] scope pos) (tScT2 X.prog X.w wi g tt wi1 g1 tt1 te (own.map (·.2)) vs1) := by
  refine ⟨fun pins s σ H Q I h => ?_⟩
  rw [PpSet.eval_SetComp]
  refine setEnter (Q := Q) (Start := scFrom2 X.prog X.w g tt wi1 g1 tt1 te (own.map fun q : Str × Nat => q.2) vs1 σ Q) calm hN I hi ok hs h (fun J D G b0 cl fp it tn b1 start T I1 st n back => ?_) (fun D C b2 m G2 I2 q hn f => ⟨m, hn, fun g2 sb => ?_⟩)
  · obtain ⟨W, ⟨m0, w0⟩, turn⟩ := start
    have big : 4001 < scanBound := by decide
    have pe := he b0 G b0.heap.objs.size cl fp
    have pi1 := hi1 b0 G b0.heap.objs.size cl fp
    have pg1 := hg1 b0 G b0.heap.objs.size cl fp
    have pt1 := ht1 b0 G b0.heap.objs.size cl fp
    have pg := hg b0 G b0.heap.objs.size cl fp
    have pt := ht b0 G b0.heap.objs.size cl fp
    generalize compEnvC scope cl b0.heap.objs.size X.env = ce at *
    refine clauseTurns (Y := X.blk b0 G scope ce fp) (p := iter.pos) (tail := do
        let x ← eval iter1 ce
        standAt iter1.pos
        let x ← foldedSetIterable iter1 ce x
        let _ ← runOwn (.compStart (.SetComp elt [⟨tg, iter, ifs, 0⟩, ⟨tg1, iter1, ifs1, 0⟩] scope pos) 1 (← holding [x] (pyIter x)) (.ref D) ce) ce
        again (.compLoop (.SetComp elt [⟨tg, iter, ifs, 0⟩, ⟨tg1, iter1, ifs1, 0⟩] scope pos) 0 (.ref it) (.ref D) ce))
      T calm rfl pg pt (ready_blk I1) (by rfl) rfl (fun _ _ _ h => h) (fun i m G1 w => ?_) I1 st n w0
    rcases turn i m G1 w with ⟨stop, q⟩ | ⟨go, N, less, step⟩
    · exact .inl ⟨stop, fun b2 I2 => back _ _ I2 q⟩
    · refine .inr ⟨go, N, less, fun x G2 y => ⟨_, step x G2 y, fun τ G3 ⟨ew, q3⟩ => ⟨Knows.wiped ew, _, q3, fun G4 q4 => ?_, fun G4 q4 more b2 I2 => ?_⟩⟩⟩
      · rw [if_neg Bool.false_ne_true] at q4
        exact q4
      · rw [if_pos rfl] at q4
        refine wpAny_bind (thnF (pi1.run _ b2 τ G4 _ I2 q4) fun xv b3 hx => wpAny_bind (wpAny_standAt (wpAny_bind (wpAny_of_eq (hs1 ce xv) (wpAny_bind (wpAny_holding (thnF hx fun itv b4 h4 => ?_)))))))
        obtain ⟨it1, fp1, tn1, J1, G5, rfl, I5, T1, st5, f5, W1, ⟨m1, w1⟩, turn1⟩ := h4
        have kw : Knows (wipe σ (own.map (·.2))) (wipe τ vs1) := ⟨by rw [wipe_length τ vs1, ← wipe_length τ (own.map (·.2)), ew], fun j v e => by
          rw [← ew] at e
          obtain ⟨e1, e2⟩ := wipe_some e
          rw [wipe_out fun z => e2 (sub j z)]
          exact e1⟩
        have inner : codeAny (model X.prog X.w) X.A (.compLoop (.SetComp elt [⟨tg, iter, ifs, 0⟩, ⟨tg1, iter1, ifs1, 0⟩] scope pos) 1 (.ref it1) (.ref D) ce)
            (fun r b5 => match r with
              | .ok _ => ∃ υ G6, L2.Inv (X.blk b0 G scope ce fp) ([] ++ more) υ G6 b5 ∧ Knows (wipe σ (own.map (·.2))) υ ∧ N G6
              | .error _ => False) b4 := by
          refine clauseTurns (Y := X.blk b0 G scope ce fp) (pins := [] ++ more) (σ := wipe τ vs1) (p := iter1.pos) (tail := do
              let __r ← (do let v ← eval elt ce; standAt elt.pos; let _ ← call (.builtin "set.add") [.ref D, v])
              again (.compLoop (.SetComp elt [⟨tg, iter, ifs, 0⟩, ⟨tg1, iter1, ifs1, 0⟩] scope pos) 1 (.ref it1) (.ref D) ce))
            T1 calm rfl pg1 pt1 (fun nn b hb => ⟨nn b hb, (f5 b hb).2⟩) (by rfl) rfl (fun _ _ _ h => h) (fun j m2 G6 w2 => ?_) (Inv.known I5 (Knows.less τ vs1)) st5 (fun b hb => (f5 b hb).1) w1
          rcases turn1 j m2 G6 w2 with ⟨stop1, q6⟩ | ⟨go1, N1, less1, step1⟩
          · exact .inl ⟨stop1, fun b5 I6 => ⟨_, _, I6, kw, q6⟩⟩
          · refine .inr ⟨go1, N1, less1, fun x1 G7 y1 => ⟨_, step1 x1 G7 y1, fun υ G8 ⟨ew1, q8⟩ => ⟨Knows.wiped ew1, _, q8, fun G9 q9 => ?_, fun G9 q9 more1 b6 I9 => ?_⟩⟩⟩
            · rw [if_neg Bool.false_ne_true] at q9
              exact q9
            · rw [if_pos rfl] at q9
              refine wpAny_bind (wpAny_bind (thnF (pe.run _ b6 υ G9 _ I9 q9) fun z b7 ⟨yv, G10, I10, r10, k, ks, ey, at10, few, nx⟩ => wpAny_bind (wpAny_standAt (wpAny_bind ?_))))
              subst ey
              exact addT (X := X.blk b0 G scope ce fp) I10 at10 (by omega) r10 fun b8 I11 => wpAny_pure (wpAny_pure ⟨rfl, υ, _, I11, Knows.wiped ew1, nx⟩)
        refine wpAny_bind (wpAny_runOwn ?_)
        rw [Around.mark_none]
        refine codeAny_mono (secondFrom inner fun Q1 E1 q1 => T1.self X.A 0 _ _ _ st5 q1) fun r b5 hr => ?_
        cases r with
        | ok f =>
          first
            | exact wpAny_pure ⟨rfl, hr⟩
            | exact wpAny_bind (wpAny_pure (wpAny_pure ⟨rfl, hr⟩))
        | error e => exact hr.elim
  · obtain ⟨f0, f1, f2, f3, f4, f5⟩ := f
    exact ⟨.ref D, G2, I2.turned (t' := b2.toks) (fun b o hb e => (sb.2 b hb).trans e) f0 f1 f3 f4 f5, rfl, q⟩
end
end Pf

/-! set comprehensions of texts: named, and the forms that are used -/
namespace Pf
open PySem PySem.Spec PyProof.Rows L2
section
variable {X : Cx} {elt tg iter tg1 iter1 : Expr} {ifs ifs1 : List Expr} {scope : Scope} {own : List (Str × Nat)} {vs1 : List Nat} {pos : Pos} {wi wi1 : TI} {g g1 : TG} {tt tt1 : TT} {te : TE} (P : Program) (w : World)
theorem pe_sctK (calm : X.calm = true) (hN : X.N.Nodup) (hi : PI X tg iter wi) (ok : BlkOk X.N X.env.scope scope own)
    (hg : ∀ (b0 : Shared) (G : Hp) (C : Addr) (cl : List (Str × Addr)) (fp : List Addr), PG (X.blk b0 G scope (compEnvC scope cl C X.env) fp) tg g)
    (ht : ∀ (b0 : Shared) (G : Hp) (C : Addr) (cl : List (Str × Addr)) (fp : List Addr), PTs (X.blk b0 G scope (compEnvC scope cl C X.env) fp) ifs tt)
    (he : ∀ (b0 : Shared) (G : Hp) (C : Addr) (cl : List (Str × Addr)) (fp : List Addr), PE (X.blk b0 G scope (compEnvC scope cl C X.env) fp) elt te)
    (eP : X.prog = P := by rfl) (ew : X.w = w := by rfl) (hs : ∀ x, foldedSetIterable iter X.env x = pure x := by intro _; rfl) : PE X (.SetComp elt [⟨tg, iter, ifs, 0⟩] scope pos) (tScT P w wi g tt te (own.map (·.2))) := by
  subst eP ew
  exact pe_sct calm hN hi ok hg ht he hs
theorem pe_sct2K (calm : X.calm = true) (hN : X.N.Nodup) (hi : PI X tg iter wi) (ok : BlkOk X.N X.env.scope scope own) (sub : ∀ i ∈ vs1, i ∈ own.map (·.2))
    (hg : ∀ (b0 : Shared) (G : Hp) (C : Addr) (cl : List (Str × Addr)) (fp : List Addr), PG (X.blk b0 G scope (compEnvC scope cl C X.env) fp) tg g)
    (ht : ∀ (b0 : Shared) (G : Hp) (C : Addr) (cl : List (Str × Addr)) (fp : List Addr), PTs (X.blk b0 G scope (compEnvC scope cl C X.env) fp) ifs tt)
    (hi1 : ∀ (b0 : Shared) (G : Hp) (C : Addr) (cl : List (Str × Addr)) (fp : List Addr), PI (X.blk b0 G scope (compEnvC scope cl C X.env) fp) tg1 iter1 wi1)
    (hg1 : ∀ (b0 : Shared) (G : Hp) (C : Addr) (cl : List (Str × Addr)) (fp : List Addr), PG (X.blk b0 G scope (compEnvC scope cl C X.env) fp) tg1 g1)
    (ht1 : ∀ (b0 : Shared) (G : Hp) (C : Addr) (cl : List (Str × Addr)) (fp : List Addr), PTs (X.blk b0 G scope (compEnvC scope cl C X.env) fp) ifs1 tt1)
    (he : ∀ (b0 : Shared) (G : Hp) (C : Addr) (cl : List (Str × Addr)) (fp : List Addr), PE (X.blk b0 G scope (compEnvC scope cl C X.env) fp) elt te)
    (eP : X.prog = P := by rfl) (ew : X.w = w := by rfl) (hs : ∀ x, foldedSetIterable iter X.env x = pure x := by intro _; rfl) (hs1 : ∀ env x, foldedSetIterable iter1 env x = pure x := by intro _ _; rfl) :
    PE X (.SetComp elt [⟨tg, iter, ifs, 0⟩, ⟨tg1, iter1, ifs1, 0⟩] scope pos) (tScT2 P w wi g tt wi1 g1 tt1 te (own.map (·.2)) vs1) := by
  subst eP ew
  exact pe_sct2 calm hN hi ok sub hg ht hi1 hg1 ht1 he hs hs1
end
section
variable {P : Program} {w : World} {wi wi1 : TI} {g g1 : TG} {tt tt1 : TT} {te : TE} {vs vs1 : List Nat} {σ τ : L2.St} {H G : Hp} {Q : VK} {K : PySem.W.Frag} {a D : Addr} {xs : List V}
theorem r_sct (h : wi σ H fun J G => ∀ D, G D = none → scFrom P w g tt te vs σ Q J D (upd G D (STx P w D []))) : tScT P w wi g tt te vs σ H Q := h
theorem r_sct2 (h : wi σ H fun J G => ∀ D, G D = none → scFrom2 P w g tt wi1 g1 tt1 te vs vs1 σ Q J D (upd G D (STx P w D []))) : tScT2 P w wi g tt wi1 g1 tt1 te vs vs1 σ H Q := h
theorem sct_list (Pv : Nat → Hp → Prop) (h0 : Pv 0 G) (hl : ∀ i H, i ≤ xs.length → Pv i H → SqL K H a xs)
    (hs : ∀ i x H, xs[i]? = some x → Pv i H → g x (wipe σ vs) H fun τ H2 => wipe τ vs = wipe σ vs ∧ tt τ H2 fun b H3 =>
      if b = true then te τ H3 fun y H4 => ∃ (k : Str) (ks : List Str), y = .str k ∧ H4 D = some (STx P w D ks) ∧ ks.length < 4000 ∧ Pv (i + 1) (upd H4 D (STx P w D (if k ∈ ks then ks else k :: ks))) else Pv (i + 1) H3)
    (hd : ∀ H, Pv xs.length H → Q (.ref D) H) : scFrom P w g tt te vs σ Q (Itl K a) D G := by
  refine ⟨fun i m H => m + i = xs.length ∧ Pv i H, ⟨xs.length, rfl, h0⟩, ?_⟩
  rintro i m H ⟨e, p⟩
  have q := hl i H (by omega) p
  by_cases lt : i < xs.length
  · refine .inr ⟨⟨xs, xs[i], q, List.getElem?_eq_getElem lt⟩, Pv (i + 1), fun H2 p2 => ⟨xs.length - (i + 1), by omega, by omega, p2⟩, fun x H2 y => ?_⟩
    obtain ⟨rfl, y⟩ := y
    exact hs i x _ (y xs q) p
  · have : i = xs.length := by omega
    exact .inl ⟨⟨xs, q, by omega⟩, hd H (this ▸ p)⟩
theorem sct2_list (Pv : Nat → Hp → Prop) (h0 : Pv 0 G) (hl : ∀ i H, i ≤ xs.length → Pv i H → SqL K H a xs)
    (hs : ∀ i x H, xs[i]? = some x → Pv i H → g x (wipe σ vs) H fun τ G3 => wipe τ vs = wipe σ vs ∧ tt τ G3 fun b G4 =>
    if b = true then wi1 τ G4 fun J1 G5 => ∃ W1 : Nat → Nat → Hp → Prop, (∃ m, W1 0 m G5) ∧ ∀ j m1 G6, W1 j m1 G6 →
      (J1.stop j G6 ∧ Pv (i + 1) G6) ∨ (J1.go j G6 ∧ ∃ N1 : Hp → Prop, (∀ G7, N1 G7 → ∃ m2, m2 < m1 ∧ W1 (j + 1) m2 G7) ∧ ∀ x1 G7, J1.yld j G6 x1 G7 → g1 x1 (wipe τ vs1) G7 fun υ G8 => wipe υ vs1 = wipe τ vs1 ∧ tt1 υ G8 fun b1 G9 =>
        if b1 = true then te υ G9 fun y G10 => ∃ (k : Str) (ks : List Str), y = .str k ∧ G10 D = some (STx P w D ks) ∧ ks.length < 4000 ∧ N1 (upd G10 D (STx P w D (if k ∈ ks then ks else k :: ks))) else N1 G9)
    else Pv (i + 1) G4) (hd : ∀ H, Pv xs.length H → Q (.ref D) H) : scFrom2 P w g tt wi1 g1 tt1 te vs vs1 σ Q (Itl K a) D G := by
  refine ⟨fun i m H => m + i = xs.length ∧ Pv i H, ⟨xs.length, rfl, h0⟩, ?_⟩
  rintro i m H ⟨e, p⟩
  have q := hl i H (by omega) p
  by_cases lt : i < xs.length
  · refine .inr ⟨⟨xs, xs[i], q, List.getElem?_eq_getElem lt⟩, Pv (i + 1), fun H2 p2 => ⟨xs.length - (i + 1), by omega, by omega, p2⟩, fun x H2 y => ?_⟩
    obtain ⟨rfl, y⟩ := y
    exact hs i x _ (y xs q) p
  · have : i = xs.length := by omega
    exact .inl ⟨⟨xs, q, by omega⟩, hd H (this ▸ p)⟩
/-- the second clause, over a list -/
theorem sct_in {Nx : Hp → Prop} (Pv : Nat → Hp → Prop) (h0 : Pv 0 G) (hl : ∀ i H, i ≤ xs.length → Pv i H → SqL K H a xs)
    (hs : ∀ i x H, xs[i]? = some x → Pv i H → g1 x (wipe τ vs1) H fun υ G8 => wipe υ vs1 = wipe τ vs1 ∧ tt1 υ G8 fun b1 G9 =>
        if b1 = true then te υ G9 fun y G10 => ∃ (k : Str) (ks : List Str), y = .str k ∧ G10 D = some (STx P w D ks) ∧ ks.length < 4000 ∧ Pv (i + 1) (upd G10 D (STx P w D (if k ∈ ks then ks else k :: ks))) else Pv (i + 1) G9)
    (hd : ∀ H, Pv xs.length H → Nx H) : ∃ W1 : Nat → Nat → Hp → Prop, (∃ m, W1 0 m G) ∧ ∀ j m1 G6, W1 j m1 G6 →
      ((Itl K a).stop j G6 ∧ Nx G6) ∨ ((Itl K a).go j G6 ∧ ∃ N1 : Hp → Prop, (∀ G7, N1 G7 → ∃ m2, m2 < m1 ∧ W1 (j + 1) m2 G7) ∧ ∀ x1 G7, (Itl K a).yld j G6 x1 G7 → g1 x1 (wipe τ vs1) G7 fun υ G8 => wipe υ vs1 = wipe τ vs1 ∧ tt1 υ G8 fun b1 G9 =>
        if b1 = true then te υ G9 fun y G10 => ∃ (k : Str) (ks : List Str), y = .str k ∧ G10 D = some (STx P w D ks) ∧ ks.length < 4000 ∧ N1 (upd G10 D (STx P w D (if k ∈ ks then ks else k :: ks))) else N1 G9) := by
  refine ⟨fun i m H => m + i = xs.length ∧ Pv i H, ⟨xs.length, rfl, h0⟩, ?_⟩
  rintro i m H ⟨e, p⟩
  have q := hl i H (by omega) p
  by_cases lt : i < xs.length
  · refine .inr ⟨⟨xs, xs[i], q, List.getElem?_eq_getElem lt⟩, Pv (i + 1), fun H2 p2 => ⟨xs.length - (i + 1), by omega, by omega, p2⟩, fun x H2 y => ?_⟩
    obtain ⟨rfl, y⟩ := y
    exact hs i x _ (y xs q) p
  · have : i = xs.length := by omega
    exact .inl ⟨⟨xs, q, by omega⟩, hd H (this ▸ p)⟩
end
end Pf

/-! turns as maps of all names: put together, undone: pure -/
namespace Pf
open PySem PySem.Spec PyProof.Rows L2
theorem IsTurn.inj {t : List PS2} (h : IsTurn t) {m n : Str} (e : look t m = look t n) : m = n := by
  by_cases hm : m ∈ t.map (·.1)
  · by_cases hn : n ∈ t.map (·.1)
    · exact h.look_inj hm hn e
    · rw [look_none hn] at e
      exact absurd (e ▸ h.look_in hm) hn
  · by_cases hn : n ∈ t.map (·.1)
    · rw [look_none hm] at e
      exact absurd (e ▸ h.look_in hn) hm
    · rw [look_none hm, look_none hn] at e
      exact e
theorem IsTurn.name {t : List PS2} (h : IsTurn t) {n : Str} (hn : NameOk n) : NameOk (look t n) := by
  by_cases hm : n ∈ t.map (·.1)
  · exact (h.ok _ (h.look_mem hm)).2
  · rw [look_none hm]; exact hn
theorem IsTurn.key {t : List PS2} (h : IsTurn t) {n : Str} (hn : n ∈ t.map (·.1)) : NameOk n := (h.ok _ (h.look_mem hn)).1
/-- moves that lead no two names to one make a turn -/
theorem turn_of_inj {ms : List PS2} (nd : (ms.map (·.1)).Nodup) (inj : ∀ m n, look ms m = look ms n → m = n) (ok : ∀ k ∈ ms.map (·.1), NameOk k ∧ NameOk (look ms k)) (small : ms.length ≤ 40) : IsTurn (riseM ms) := by
  have mem := fun k v => riseM_mem nd (k := k) (v := v)
  refine ⟨riseM_rise nd, ?_, ?_, ?_, ?_⟩
  · refine perm_of_sub ?_ (fun x hx => ?_) (by rw [List.length_map, List.length_map]; exact Nat.le_refl _)
    · rw [List.Nodup, List.pairwise_map]
      refine List.Pairwise.imp_of_mem (R := (· ≠ ·)) (fun {p q} hp hq hne e => hne ?_) (nd_of_fst (lt_nodup (riseM_rise nd)))
      have h1 := (mem p.1 p.2).mp hp
      have h2 := (mem q.1 q.2).mp hq
      exact Prod.ext (inj _ _ (by rw [h1.1, h2.1]; exact e)) e
    · obtain ⟨p, hp, rfl⟩ := List.mem_map.mp hx
      have h1 := (mem p.1 p.2).mp hp
      refine List.mem_map.mpr ⟨(p.2, look ms p.2), (mem _ _).mpr ⟨rfl, fun e => h1.2 ?_⟩, rfl⟩
      exact inj _ _ (h1.1.trans e)
  · exact fun p hp => ((mem p.1 p.2).mp hp).2
  · intro p hp
    have h1 := (mem p.1 p.2).mp hp
    have hk : p.1 ∈ ms.map (·.1) := Classical.byContradiction fun hn => h1.2 (by rw [← h1.1, look_none hn])
    have h2 := ok _ hk
    rw [h1.1] at h2
    exact h2
  · have hl : (riseM ms).length ≤ ms.length := by
      unfold riseM
      rw [(sort_P _).1.length_eq]
      exact List.length_filter_le _ _
    omega
/-- a dict of moves that does first the one turn, then the other -/
structure Both (t u ms : List PS2) : Prop where
  nd : (ms.map (·.1)).Nodup
  to : ∀ n, look ms n = look u (look t n)
  keys : ∀ k ∈ ms.map (·.1), k ∈ t.map (·.1) ∨ k ∈ u.map (·.1)
theorem Both.turn {t u ms : List PS2} (h : Both t u ms) (ht : IsTurn t) (hu : IsTurn u) (small : ms.length ≤ 40) : IsTurn (riseM ms) := by
  refine turn_of_inj h.nd (fun m n e => ?_) (fun k hk => ?_) small
  · rw [h.to, h.to] at e
    exact ht.inj (hu.inj e)
  · have hn : NameOk k := by
      rcases h.keys k hk with z | z
      · exact ht.key z
      · exact hu.key z
    rw [h.to]
    exact ⟨hn, hu.name (ht.name hn)⟩
end Pf

/-! exchanges told of rounds lead as the turn does: pure -/
namespace Pf
open PySem PySem.Spec PyProof.Rows L2
def starS : List Str → List PS2
  | [] => []
  | n :: r => r.map fun x => (n, x)
theorem star_mem {r : List Str} {p : PS2} (h : p ∈ starS r) : p.1 ∈ r ∧ p.2 ∈ r := by
  cases r with
  | nil => cases h
  | cons n r =>
    obtain ⟨x, hx, rfl⟩ := List.mem_map.mp h
    exact ⟨List.mem_cons_self, List.mem_cons_of_mem _ hx⟩
theorem led_cons (a b : Str) (r : List PS2) (n : Str) : led ((a, b) :: r) n = led r (if n = a then b else if n = b then a else n) := rfl
theorem star_out {n x : Str} {r : List Str} (h : x ∉ n :: r) : led (r.map fun y => (n, y)) x = x :=
  led_out _ x (fun p hp => star_mem (r := n :: r) hp) h
theorem star_head {n : Str} {r : List Str} (nd : (n :: r).Nodup) : led (r.map fun y => (n, y)) n = r.headD n := by
  cases r with
  | nil => rfl
  | cons b r =>
    rw [List.map_cons, led_cons, if_pos rfl]
    have h1 := List.nodup_cons.mp nd
    have h2 := List.nodup_cons.mp h1.2
    refine star_out fun z => ?_
    rcases List.mem_cons.mp z with e | z
    · exact h1.1 (by rw [e]; exact List.mem_cons_self)
    · exact h2.1 z
theorem star_mid {n b : Str} {r1 r2 : List Str} (nd : (n :: (r1 ++ b :: r2)).Nodup) : led ((r1 ++ b :: r2).map fun y => (n, y)) b = r2.headD n := by
  have h1 := List.nodup_cons.mp nd
  have h2 := List.nodup_append.mp h1.2
  have h3 := List.nodup_cons.mp h2.2.1
  have nb : b ≠ n := fun e => h1.1 (List.mem_append_right _ (by rw [e]; exact List.mem_cons_self))
  rw [List.map_append, led_app, List.map_cons, star_out, led_cons, if_neg nb, if_pos rfl]
  · refine star_head (List.nodup_cons.mpr ⟨fun z => h1.1 (List.mem_append_right _ (List.mem_cons_of_mem _ z)), h3.2⟩)
  · intro z
    rcases List.mem_cons.mp z with e | z
    · exact nb e
    · exact h2.2.2 b z b List.mem_cons_self rfl
/-- a ring's exchanges lead on in the ring -/
theorem IsTurn.star_look {t : List PS2} (ht : IsTurn t) {n x : Str} (hn : n ∈ t.map (·.1)) (hx : x ∈ ringOf t n) : led (starS (ringOf t n)) x = look t x := by
  have nd := ht.ring_nd hn
  have hp := ht.perOk hn
  obtain ⟨r, er⟩ := ht.ring_cons hn
  obtain ⟨i, hi, rfl⟩ := mem_ring.mp hx
  have hl : r.length + 1 = per t n := by rw [← ring_len, er]; rfl
  have get : ∀ j, j < r.length → r[j]? = some (it t n (j + 1)) := fun j hj => by
    have := ring_get (t := t) (n := n) (i := j + 1) (by omega)
    rw [er] at this
    simpa using this
  have hd : ∀ j, j ≤ r.length → (r.drop j).headD n = it t n (j + 1) := fun j hj => by
    rcases Nat.lt_or_ge j r.length with c | c
    · have := get j c
      rw [List.headD_eq_head?_getD, List.head?_drop, this]; rfl
    · have e : j + 1 = per t n := by omega
      rw [List.drop_of_length_le (by omega), e, hp.back]; rfl
  rw [er]
  rw [er] at nd
  show led (r.map fun y => (n, y)) _ = it t n (i + 1)
  cases i with
  | zero =>
    show led (r.map fun y => (n, y)) n = _
    rw [star_head nd, ← hd 0 (Nat.zero_le _), List.drop_zero]
  | succ j =>
    have hj : j < r.length := by omega
    have e1 : r = r.take j ++ it t n (j + 1) :: r.drop (j + 1) := by
      have h1 : r[j] = it t n (j + 1) := by
        have := get j hj
        rw [List.getElem?_eq_getElem hj] at this
        exact Option.some.inj this
      rw [← h1, ← List.drop_eq_getElem_cons hj, List.take_append_drop]
    rw [e1] at nd
    have := star_mid nd
    rw [← e1] at this
    rw [this, hd (j + 1) (by omega)]
theorem flat_out {L : List (List Str)} {x : Str} (h : x ∉ L.flatten) : led (L.flatMap starS) x = x := by
  refine led_out _ x (ns := L.flatten) (fun p hp => ?_) h
  obtain ⟨r, hr, hp⟩ := List.mem_flatMap.mp hp
  have := star_mem hp
  exact ⟨List.mem_flatten.mpr ⟨r, hr, this.1⟩, List.mem_flatten.mpr ⟨r, hr, this.2⟩⟩
noncomputable def swapsS (t : List PS2) : List PS2 := (roundsOf t).flatMap starS
theorem IsTurn.swaps_look {t : List PS2} (ht : IsTurn t) (x : Str) : led (swapsS t) x = look t x := by
  by_cases hx : x ∈ t.map (·.1)
  · have h1 := (ht.flat_mem x).mpr hx
    obtain ⟨r, hr, hxr⟩ := List.mem_flatten.mp h1
    obtain ⟨n, hn, _, rfl⟩ := ht.rounds_mem hr
    obtain ⟨L1, L2, e⟩ := List.append_of_mem hr
    have nd := ht.flat_nd
    rw [e, List.flatten_append, List.flatten_cons] at nd
    have n1 := List.nodup_append.mp nd
    have n2 := List.nodup_append.mp n1.2.1
    unfold swapsS
    have o1 : x ∉ L1.flatten := fun z => n1.2.2 x z x (List.mem_append_left _ hxr) rfl
    rw [e, List.flatMap_append, List.flatMap_cons, led_app, led_app, flat_out o1, ht.star_look hn hxr]
    · have hy : look t x ∈ ringOf t n := by
        obtain ⟨i, _, rfl⟩ := mem_ring.mp hxr
        exact ht.it_mem hn (i + 1)
      exact flat_out fun z => n2.2.2 _ hy _ z rfl
  · rw [look_none hx]
    exact flat_out fun z => hx ((ht.flat_mem x).mp z)
/-- told of the rounds' exchanges: the turn itself -/
theorem IsTurn.swaps_back {t ms : List PS2} (ht : IsTurn t) (h : Says ms (swapsS t)) : riseM ms = t := by
  refine rise_eq h.nd ht.rise fun k v => ?_
  rw [h.to, ht.swaps_look, Pf.look_mem ht.nd]
  constructor
  · rintro ⟨hk, e⟩
    exact ⟨e, fun z => ht.look_ne hk (by rw [e]; exact z.symm)⟩
  · rintro ⟨e, ne⟩
    refine ⟨Classical.byContradiction fun hk => ne ?_, e⟩
    rw [← e, look_none hk]
end Pf

/-! exchanges that lead each name home are even in number: pure -/
namespace Pf
open PySem PySem.Spec PyProof.Rows L2
def Proper (ps : List PS2) : Prop := ∀ p ∈ ps, p.1 ≠ p.2
def Home (ps : List PS2) : Prop := ∀ n, led ps n = n
def sw (a b n : Str) : Str := if n = a then b else if n = b then a else n
theorem led_two (a b c d : Str) (r : List PS2) (n : Str) : led ((a, b) :: (c, d) :: r) n = led r (sw c d (sw a b n)) := rfl
theorem home_swap {p r : List PS2} {a b c d e f g h : Str} (q : Home (p ++ (a, b) :: (c, d) :: r)) (same : ∀ n, sw c d (sw a b n) = sw g h (sw e f n)) : Home ((p ++ [(e, f)]) ++ (g, h) :: r) := fun n => by
  have := q n
  rw [led_app, led_two, same] at this
  rw [List.append_assoc, led_app]
  exact this
theorem sw_same (a b n : Str) : sw a b (sw a b n) = n := by
  unfold sw
  by_cases h1 : n = a <;> by_cases h2 : n = b <;> by_cases h3 : a = b <;> simp_all
theorem sw_comm (a b n : Str) : sw a b n = sw b a n := by
  unfold sw
  by_cases h1 : n = a <;> by_cases h2 : n = b <;> simp_all
theorem sw_far {a b c d : Str} (h1 : c ≠ a) (h2 : c ≠ b) (h3 : d ≠ a) (h4 : d ≠ b) (n : Str) : sw c d (sw a b n) = sw a b (sw c d n) := by
  have g1 : ¬ a = c := fun e => h1 e.symm
  have g2 : ¬ b = c := fun e => h2 e.symm
  have g3 : ¬ a = d := fun e => h3 e.symm
  have g4 : ¬ b = d := fun e => h4 e.symm
  unfold sw
  by_cases e1 : n = a <;> by_cases e2 : n = b <;> by_cases e3 : n = c <;> by_cases e4 : n = d <;> simp_all
theorem sw_b {a b d : Str} (h1 : a ≠ b) (h2 : d ≠ a) (h3 : b ≠ d) (n : Str) : sw b d (sw a b n) = sw a d (sw b d n) := by
  have g1 : ¬ b = a := fun e => h1 e.symm
  have g2 : ¬ a = d := fun e => h2 e.symm
  have g3 : ¬ d = b := fun e => h3 e.symm
  unfold sw
  by_cases e1 : n = a <;> by_cases e2 : n = b <;> by_cases e4 : n = d <;> simp_all
theorem sw_a {a b d : Str} (h1 : a ≠ b) (h2 : d ≠ a) (h3 : b ≠ d) (n : Str) : sw a d (sw a b n) = sw a b (sw b d n) := by
  have g1 : ¬ b = a := fun e => h1 e.symm
  have g2 : ¬ a = d := fun e => h2 e.symm
  have g3 : ¬ d = b := fun e => h3 e.symm
  unfold sw
  by_cases e1 : n = a <;> by_cases e2 : n = b <;> by_cases e4 : n = d <;> simp_all
theorem skips {a : Str} : ∀ {p : List PS2}, (∀ q ∈ p, q.1 ≠ a ∧ q.2 ≠ a) → led p a = a
  | [], _ => rfl
  | (c, d) :: p, na => by
    have h0 := na (c, d) List.mem_cons_self
    show led p (if a = c then d else if a = d then c else a) = a
    rw [if_neg (fun e => h0.1 e.symm), if_neg (fun e => h0.2 e.symm)]
    exact skips fun x hx => na x (List.mem_cons_of_mem _ hx)
/-- the exchange that holds a is carried on until it meets itself -/
theorem carry (a : Str) : ∀ (r p : List PS2) (b : Str), Proper p → Proper r → a ≠ b → (∀ q ∈ p, q.1 ≠ a ∧ q.2 ≠ a) → Home (p ++ (a, b) :: r) → ∃ qs, Proper qs ∧ Home qs ∧ qs.length + 1 = p.length + r.length
  | [], p, b, _, _, nab, na, q => by
    have h := q a
    have out : led p a = a := skips na
    rw [led_app, out] at h
    have : led [(a, b)] a = b := by
      show (if a = a then b else if a = b then a else a) = b
      rw [if_pos rfl]
    rw [this] at h
    exact absurd h.symm nab
  | (c, d) :: r, p, b, pp, pr, nab, na, q => by
    have ncd : c ≠ d := pr (c, d) List.mem_cons_self
    have pr' : Proper r := fun x hx => pr x (List.mem_cons_of_mem _ hx)
    have go : ∀ e f b' : Str, e ≠ f → e ≠ a → f ≠ a → a ≠ b' → (∀ n, sw c d (sw a b n) = sw a b' (sw e f n)) → ∃ qs, Proper qs ∧ Home qs ∧ qs.length + 1 = p.length + ((c, d) :: r).length := fun e f b' nef ne nf nb' same => by
      obtain ⟨qs, h1, h2, h3⟩ := carry a r (p ++ [(e, f)]) b' (fun x hx => by
        rcases List.mem_append.mp hx with h | h
        · exact pp x h
        · rw [List.mem_singleton.mp h]; exact nef) pr' nb' (fun x hx => by
        rcases List.mem_append.mp hx with h | h
        · exact na x h
        · rw [List.mem_singleton.mp h]; exact ⟨ne, nf⟩) (home_swap q same)
      refine ⟨qs, h1, h2, ?_⟩
      simp only [List.length_append, List.length_cons, List.length_nil] at h3 ⊢
      omega
    have cancel : (∀ n, sw c d (sw a b n) = n) → ∃ qs, Proper qs ∧ Home qs ∧ qs.length + 1 = p.length + ((c, d) :: r).length := fun same => by
      refine ⟨p ++ r, fun x hx => ?_, fun n => ?_, ?_⟩
      · rcases List.mem_append.mp hx with h | h
        · exact pp x h
        · exact pr' x h
      · have h := q n
        rw [led_app, led_two, same] at h
        rw [led_app]; exact h
      · rw [List.length_append, List.length_cons]; omega
    by_cases ca : c = a
    · subst ca
      by_cases db : d = b
      · subst db
        exact cancel fun n => sw_same _ _ n
      · exact go b d b (fun e => db e.symm) (fun e => nab e.symm) (fun e => ncd e.symm) nab fun n => sw_a nab (fun e => ncd e.symm) (fun e => db e.symm) n
    · by_cases da : d = a
      · subst da
        by_cases cb : c = b
        · subst cb
          exact cancel fun n => by rw [sw_comm c d]; exact sw_same _ _ n
        · exact go b c b (fun e => cb e.symm) (fun e => nab e.symm) ca nab fun n => by rw [sw_comm c d]; exact sw_a nab ca (fun e => cb e.symm) n
      · by_cases cb : c = b
        · subst cb
          exact go c d d ncd ca da (fun e => da e.symm) fun n => sw_b nab da ncd n
        · by_cases db : d = b
          · subst db
            exact go d c c (fun e => ncd e.symm) da ca (fun e => ca e.symm) fun n => by rw [sw_comm c d]; exact sw_b nab ca (fun e => ncd e.symm) n
          · exact go c d b ncd ca da nab fun n => sw_far ca cb da db n
theorem home_even : ∀ (k : Nat) (ps : List PS2), ps.length = k → Proper ps → Home ps → k % 2 = 0 := by
  intro k
  induction k using Nat.strongRecOn with
  | _ k ih =>
    intro ps hk pp hh
    cases ps with
    | nil => rw [← hk]; rfl
    | cons x r =>
      obtain ⟨a, b⟩ := x
      obtain ⟨qs, h1, h2, h3⟩ := carry a r [] b (fun _ z => nomatch z) (fun x hx => pp x (List.mem_cons_of_mem _ hx)) (pp (a, b) List.mem_cons_self) (fun _ z => nomatch z) hh
      rw [List.length_cons] at hk
      rw [List.length_nil] at h3
      have := ih qs.length (by omega) qs rfl h1 h2
      omega
theorem led_rev : ∀ (ps : List PS2) (n : Str), led ps.reverse (led ps n) = n
  | [], _ => rfl
  | (a, b) :: r, n => by
    rw [List.reverse_cons, led_app]
    show led [(a, b)] (led r.reverse (led r (sw a b n))) = n
    rw [led_rev r]
    exact sw_same a b n
/-- lists of exchanges that lead alike are both even or both odd in number -/
theorem alike_even {ps qs : List PS2} (hp : Proper ps) (hq : Proper qs) (h : ∀ n, led ps n = led qs n) : (ps.length + qs.length) % 2 = 0 := by
  have hh : Home (ps ++ qs.reverse) := fun n => by rw [led_app, h, led_rev]
  have := home_even _ _ rfl (fun x hx => by
    rcases List.mem_append.mp hx with z | z
    · exact hp x z
    · exact hq x (List.mem_reverse.mp z)) hh
  rw [List.length_append, List.length_reverse] at this
  exact this
end Pf

/-! a turn wants so many exchanges as it has moved names less rounds: pure -/
namespace Pf
open PySem PySem.Spec PyProof.Rows L2
/-- labels: names that exchanges tie together have one label -/
def lab : List PS2 → Str → Str
  | [], x => x
  | (a, b) :: r, x => if lab r x = lab r b then lab r a else lab r x
theorem lab_pair : ∀ {ps : List PS2} {p : PS2}, p ∈ ps → lab ps p.1 = lab ps p.2
  | (a, b) :: r, p, h => by
    show (if lab r p.1 = lab r b then lab r a else lab r p.1) = (if lab r p.2 = lab r b then lab r a else lab r p.2)
    rcases List.mem_cons.mp h with e | h
    · rw [e]
      show (if lab r a = lab r b then lab r a else lab r a) = (if lab r b = lab r b then lab r a else lab r b)
      rw [if_pos rfl]
      split <;> rfl
    · rw [lab_pair h]
theorem lab_led {ps : List PS2} : ∀ (qs : List PS2) (n : Str), (∀ q ∈ qs, q ∈ ps) → lab ps (led qs n) = lab ps n
  | [], _, _ => rfl
  | (a, b) :: r, n, h => by
    have e := lab_pair (h (a, b) List.mem_cons_self)
    show lab ps (led r (if n = a then b else if n = b then a else n)) = _
    rw [lab_led r _ fun q hq => h q (List.mem_cons_of_mem _ hq)]
    by_cases h1 : n = a
    · rw [if_pos h1, h1]; exact e.symm
    · rw [if_neg h1]
      by_cases h2 : n = b
      · rw [if_pos h2, h2]; exact e
      · rw [if_neg h2]
theorem few {α : Type} [DecidableEq α] {W M : List α} (nd : W.Nodup) (h : ∀ x ∈ W, x ∈ M) : W.length ≤ M.length := by
  rcases Nat.lt_or_ge M.length W.length with c | c
  · have := (perm_of_sub nd h (Nat.le_of_lt c)).length_eq
    omega
  · exact c
theorem drop_one {W : List Str} (nd : W.Nodup) (x : Str) : W.length ≤ (W.filter fun w => decide (w ≠ x)).length + 1 := by
  have h : ∀ w ∈ W, w ∈ x :: W.filter fun w => decide (w ≠ x) := fun w hw => by
    by_cases e : w = x
    · rw [e]; exact List.mem_cons_self
    · exact List.mem_cons_of_mem _ (List.mem_filter.mpr ⟨hw, decide_eq_true e⟩)
  exact few nd h
theorem labs_many {V : List Str} (nd : V.Nodup) : ∀ ps : List PS2, ∃ W : List Str, W.Nodup ∧ (∀ w ∈ W, ∃ x ∈ V, lab ps x = w) ∧ V.length ≤ W.length + ps.length
  | [] => ⟨V, nd, fun w hw => ⟨w, hw, rfl⟩, Nat.le_refl _⟩
  | (a, b) :: r => by
    obtain ⟨W, h1, h2, h3⟩ := labs_many nd r
    refine ⟨W.filter fun w => decide (w ≠ lab r b), List.Pairwise.filter _ h1, fun w hw => ?_, ?_⟩
    · obtain ⟨hw1, hw2⟩ := List.mem_filter.mp hw
      obtain ⟨x, hx, e⟩ := h2 w hw1
      refine ⟨x, hx, ?_⟩
      show (if lab r x = lab r b then lab r a else lab r x) = w
      rw [if_neg (by rw [e]; exact of_decide_eq_true hw2)]
      exact e
    · have := drop_one h1 (lab r b)
      rw [List.length_cons]
      omega
theorem IsTurn.lab_ring {t ps : List PS2} (ht : IsTurn t) (h : ∀ n, led ps n = look t n) {n x : Str} (hn : n ∈ t.map (·.1)) (hx : x ∈ ringOf t n) : lab ps x = lab ps n := by
  obtain ⟨i, _, rfl⟩ := mem_ring.mp hx
  clear hx
  induction i with
  | zero => rfl
  | succ i ih =>
    show lab ps (look t (it t n i)) = _
    rw [← h, lab_led ps _ fun _ z => z]
    exact ih (by omega)
/-- no fewer exchanges make a turn than it has names less rounds -/
theorem IsTurn.least {t ps : List PS2} (ht : IsTurn t) (h : ∀ n, led ps n = look t n) : t.length ≤ (roundsOf t).length + ps.length := by
  obtain ⟨W, h1, h2, h3⟩ := labs_many ht.nd ps
  have h4 : W.length ≤ (((t.map (·.1)).filter (isMin t)).map (lab ps)).length := few h1 fun w hw => by
    obtain ⟨x, hx, rfl⟩ := h2 w hw
    obtain ⟨m, hm, hxm⟩ := ht.home hx
    exact List.mem_map.mpr ⟨m, hm, (ht.lab_ring h (List.mem_filter.mp hm).1 hxm).symm⟩
  have h5 : (roundsOf t).length = ((t.map (·.1)).filter (isMin t)).length := by unfold roundsOf; rw [List.length_map]
  rw [List.length_map] at h4 h3
  omega
theorem star_count : ∀ (L : List (List Str)), (∀ r ∈ L, r ≠ []) → (L.flatMap starS).length + L.length = L.flatten.length
  | [], _ => rfl
  | [] :: L, h => absurd rfl (h [] List.mem_cons_self)
  | (n :: r) :: L, h => by
    have := star_count L fun r hr => h r (List.mem_cons_of_mem _ hr)
    rw [List.flatMap_cons, List.flatten_cons, List.length_append, List.length_append, List.length_cons, List.length_cons]
    show (r.map fun x => (n, x)).length + _ + _ = _
    rw [List.length_map]
    omega
theorem IsTurn.swaps_len {t : List PS2} (ht : IsTurn t) : (swapsS t).length + (roundsOf t).length = t.length := by
  have h := star_count (roundsOf t) fun r hr z => by
    obtain ⟨n, hn, _, e⟩ := ht.rounds_mem hr
    obtain ⟨s, es⟩ := ht.ring_cons hn
    rw [e, es] at z
    cases z
  have h2 := ht.flat_perm.length_eq
  rw [List.length_map] at h2
  unfold swapsS
  omega
theorem IsTurn.swaps_proper {t : List PS2} (ht : IsTurn t) : Proper (swapsS t) := fun p hp e => by
  obtain ⟨r, hr, hp⟩ := List.mem_flatMap.mp hp
  obtain ⟨n, hn, _, rfl⟩ := ht.rounds_mem hr
  obtain ⟨s, es⟩ := ht.ring_cons hn
  have nd := ht.ring_nd hn
  rw [es] at hp nd
  obtain ⟨x, hx, rfl⟩ := List.mem_map.mp hp
  exact (List.nodup_cons.mp nd).1 (by rw [show n = x from e]; exact hx)
theorem IsTurn.swaps_fewest {t ps : List PS2} (ht : IsTurn t) (h : ∀ n, led ps n = look t n) : (swapsS t).length ≤ ps.length := by
  have h1 := ht.least h
  have h2 := ht.swaps_len
  omega
theorem IsTurn.swaps_even {t ps : List PS2} (ht : IsTurn t) (pp : Proper ps) (h : ∀ n, led ps n = look t n) : (ps.length + (swapsS t).length) % 2 = 0 :=
  alike_even pp ht.swaps_proper fun n => by rw [h, ht.swaps_look]
theorem IsTurn.swaps_ok {t : List PS2} (ht : IsTurn t) : ∀ p ∈ swapsS t, NameOk p.1 ∧ NameOk p.2 := fun p hp => by
  obtain ⟨r, hr, hp⟩ := List.mem_flatMap.mp hp
  obtain ⟨n, hn, _, rfl⟩ := ht.rounds_mem hr
  have := star_mem hp
  exact ⟨ht.key (ht.ring_in hn this.1), ht.key (ht.ring_in hn this.2)⟩
end Pf

/-! the lengths of a turn's rounds stay when names are led by another turn: pure -/
namespace Pf
open PySem PySem.Spec PyProof.Rows L2
noncomputable def lensOf (t : List PS2) : List Nat := (roundsOf t).map List.length
theorem IsTurn.per_ring {t : List PS2} (ht : IsTurn t) {n x : Str} (hn : n ∈ t.map (·.1)) (hx : x ∈ ringOf t n) : per t x = per t n := by
  have hxs := ht.ring_in hn hx
  have h1 : (ringOf t x).length ≤ (ringOf t n).length := few (ht.ring_nd hxs) fun y hy => ht.ring_sub hn hx hy
  have h2 : (ringOf t n).length ≤ (ringOf t x).length := few (ht.ring_nd hn) fun y hy => ht.ring_sub hxs (ht.ring_sym hn hx) hy
  rw [ring_len, ring_len] at h1 h2
  omega
theorem pers_flat {t : List PS2} (ht : IsTurn t) : ∀ (L : List (List Str)), (∀ r ∈ L, r ∈ roundsOf t) → ∀ k, (L.flatten.map (per t)).count k = k * (L.map List.length).count k
  | [], _, _ => rfl
  | r :: L, h, k => by
    obtain ⟨n, hn, _, e⟩ := ht.rounds_mem (h r List.mem_cons_self)
    have hr : r.map (per t) = List.replicate r.length r.length := by
      rw [List.eq_replicate_iff]
      refine ⟨List.length_map .., fun b hb => ?_⟩
      obtain ⟨x, hx, rfl⟩ := List.mem_map.mp hb
      rw [e] at hx ⊢
      rw [ht.per_ring hn hx, ring_len]
    rw [List.flatten_cons, List.map_append, List.count_append, pers_flat ht L (fun r hr => h r (List.mem_cons_of_mem _ hr)) k, hr, List.map_cons, List.count_cons, List.count_replicate]
    by_cases c : r.length = k
    · simp [c, Nat.mul_add, Nat.add_comm]
    · simp [c]
theorem IsTurn.pers_count {t : List PS2} (ht : IsTurn t) (k : Nat) : ((t.map (·.1)).map (per t)).count k = k * (lensOf t).count k := by
  show _ = k * ((roundsOf t).map List.length).count k
  rw [← pers_flat ht (roundsOf t) (fun _ h => h) k]
  exact ((ht.flat_perm.map (per t)).count_eq k).symm
/-- a turn u that does among led names what t does -/
structure Led (f : Str → Str) (t u : List PS2) : Prop where
  inj : ∀ m n, f m = f n → m = n
  to : ∀ n, look u (f n) = f (look t n)
  perm : (u.map (·.1)).Perm ((t.map (·.1)).map f)
theorem Led.iter {f : Str → Str} {t u : List PS2} (h : Led f t u) (n : Str) : ∀ i, it u (f n) i = f (it t n i)
  | 0 => rfl
  | i + 1 => by
    show look u (it u (f n) i) = f (look t (it t n i))
    rw [h.iter n i, h.to]
theorem Led.same_per {f : Str → Str} {t u : List PS2} (h : Led f t u) (ht : IsTurn t) (hu : IsTurn u) {n : Str} (hn : n ∈ t.map (·.1)) : per u (f n) = per t n := by
  have hp := ht.perOk hn
  have hf : f n ∈ u.map (·.1) := h.perm.mem_iff.mpr (List.mem_map.mpr ⟨n, hn, rfl⟩)
  refine (hu.perOk hf).uniq ⟨hp.pos, ?_, fun i h1 h2 e => ?_⟩
  · rw [h.iter, hp.back]
  · rw [h.iter] at e
    exact hp.first i h1 h2 (h.inj _ _ e)
theorem IsTurn.lens_pos {t : List PS2} (ht : IsTurn t) {k : Nat} (h : k ∈ lensOf t) : 1 ≤ k := by
  obtain ⟨r, hr, rfl⟩ := List.mem_map.mp h
  obtain ⟨n, hn, _, e⟩ := ht.rounds_mem hr
  rw [e, ring_len]
  exact (ht.perOk hn).pos
theorem Led.lens {f : Str → Str} {t u : List PS2} (h : Led f t u) (ht : IsTurn t) (hu : IsTurn u) : (lensOf u).Perm (lensOf t) := by
  rw [List.perm_iff_count]
  intro k
  rcases Nat.eq_zero_or_pos k with z | z
  · subst z
    have a : (lensOf u).count 0 = 0 := List.count_eq_zero.mpr fun z => absurd (hu.lens_pos z) (by omega)
    have b : (lensOf t).count 0 = 0 := List.count_eq_zero.mpr fun z => absurd (ht.lens_pos z) (by omega)
    rw [a, b]
  · have e : ((u.map (·.1)).map (Pf.per u)).count k = ((t.map (·.1)).map (Pf.per t)).count k := by
      have h1 := (h.perm.map (Pf.per u)).count_eq k
      rw [h1, List.map_map]
      congr 1
      exact List.map_congr_left fun n hn => h.same_per ht hu hn
    rw [hu.pers_count, ht.pers_count] at e
    exact Nat.eq_of_mul_eq_mul_left z e
theorem IsTurn.moves {t : List PS2} (ht : IsTurn t) {k : Str} : k ∈ t.map (·.1) ↔ look t k ≠ k :=
  ⟨fun h => ht.look_ne h, fun h => Classical.byContradiction fun hn => h (look_none hn)⟩
theorem IsTurn.pair {t : List PS2} (ht : IsTurn t) {k v : Str} : (k, v) ∈ t ↔ look t k = v ∧ k ≠ v := by
  rw [Pf.look_mem ht.nd, ht.moves]
  constructor
  · rintro ⟨a, b⟩; exact ⟨b, fun e => a (by rw [b, e])⟩
  · rintro ⟨a, b⟩; exact ⟨fun e => b (by rw [← a, e]), a⟩
/-- turns that lead alike are one -/
theorem IsTurn.ext {t u : List PS2} (ht : IsTurn t) (hu : IsTurn u) (h : ∀ n, look t n = look u n) : t = u := by
  refine List.Perm.eq_of_pairwise (le := leP) (fun _ _ _ _ => leP_anti) (lt_leP ht.rise) (lt_leP hu.rise) ?_
  refine (List.perm_ext_iff_of_nodup (nd_of_fst ht.nd) (nd_of_fst hu.nd)).mpr fun p => ?_
  obtain ⟨k, v⟩ := p
  rw [ht.pair, hu.pair, h]
theorem Both.look {t u ms : List PS2} (h : Both t u ms) (n : Str) : Pf.look (riseM ms) n = Pf.look u (Pf.look t n) := by
  rw [look_rise h.nd, h.to]
/-- what leads as t does among names led by f -/
theorem led_of {f : Str → Str} {t u : List PS2} (ht : IsTurn t) (hu : IsTurn u) (inj : ∀ m n, f m = f n → m = n) (to : ∀ n, look u (f n) = f (look t n)) (sur : ∀ n, ∃ m, f m = n) : Led f t u := by
  refine ⟨inj, to, ?_⟩
  have nd : ((t.map (·.1)).map f).Nodup := by
    rw [List.Nodup, List.pairwise_map]
    exact List.Pairwise.imp (fun hne e => hne (inj _ _ e)) ht.nd
  refine (List.perm_ext_iff_of_nodup hu.nd nd).mpr fun n => ?_
  obtain ⟨m, rfl⟩ := sur n
  rw [hu.moves, to, List.mem_map]
  constructor
  · intro h
    exact ⟨m, ht.moves.mpr fun e => h (by rw [e]), rfl⟩
  · rintro ⟨x, hx, e⟩ z
    have : x = m := inj _ _ e
    subst this
    exact ht.moves.mp hx (inj _ _ z)
end Pf

/-! names that two turns lead apart; dicts of moves merged: pure -/
namespace Pf
open PySem PySem.Spec PyProof.Rows L2
structure Apart (t u : List PS2) (ls : List Str) : Prop where
  rise : ls.Pairwise ltS
  mem : ∀ n, n ∈ ls ↔ look t n ≠ look u n
theorem rise_one {xs ys : List Str} (a : xs.Pairwise ltS) (b : ys.Pairwise ltS) (h : ∀ n, n ∈ xs ↔ n ∈ ys) : xs = ys :=
  same_sorted ((List.perm_ext_iff_of_nodup (lt_nodup a) (lt_nodup b)).mpr h) (lt_le a) (lt_le b)
theorem Apart.uniq {t u : List PS2} {xs ys : List Str} (a : Apart t u xs) (b : Apart t u ys) : xs = ys := rise_one a.rise b.rise fun n => (a.mem n).trans (b.mem n).symm
theorem Apart.nil {t u : List PS2} {xs : List Str} (a : Apart t u xs) (ht : IsTurn t) (hu : IsTurn u) : xs = [] ↔ t = u := by
  constructor
  · intro e
    refine ht.ext hu fun n => Classical.byContradiction fun hn => ?_
    have := (a.mem n).mpr hn
    rw [e] at this
    exact nomatch this
  · rintro rfl
    cases xs with
    | nil => rfl
    | cons x r => exact absurd rfl ((a.mem x).mp List.mem_cons_self)
theorem Apart.keys {t u : List PS2} {xs : List Str} (a : Apart t u xs) {n : Str} (h : n ∈ xs) : n ∈ t.map (·.1) ∨ n ∈ u.map (·.1) := by
  refine Classical.byContradiction fun z => (a.mem n).mp h ?_
  rw [look_none fun h => z (.inl h), look_none fun h => z (.inr h)]
/-- two dicts of moves merged -/
def joinD (t u : List PS2) : List PS2 := u.foldl (fun m p => mput m p.1 p.2) t
theorem joinD_keys : ∀ (u t : List PS2) (k : Str), k ∈ (joinD t u).map (·.1) ↔ k ∈ t.map (·.1) ∨ k ∈ u.map (·.1)
  | [], t, k => by show k ∈ t.map (·.1) ↔ _; simp
  | p :: r, t, k => by
    show k ∈ (joinD (mput t p.1 p.2) r).map (·.1) ↔ _
    rw [joinD_keys r, mput_fst, List.map_cons, List.mem_cons]
    by_cases c : (t.any fun q => decide (q.1 = p.1)) = true
    · rw [if_pos c]
      obtain ⟨q, hq, e⟩ := List.any_eq_true.mp c
      have hp : p.1 ∈ t.map (·.1) := List.mem_map.mpr ⟨q, hq, of_decide_eq_true e⟩
      constructor
      · rintro (h | h)
        · exact .inl h
        · exact .inr (.inr h)
      · rintro (h | h | h)
        · exact .inl h
        · exact .inl (h ▸ hp)
        · exact .inr h
    · rw [if_neg c, List.mem_append, List.mem_singleton]
      constructor
      · rintro ((h | h) | h)
        · exact .inl h
        · exact .inr (.inl h)
        · exact .inr (.inr h)
      · rintro (h | h | h)
        · exact .inl (.inl h)
        · exact .inl (.inr h)
        · exact .inr h
theorem joinD_nd : ∀ (u t : List PS2), (t.map (·.1)).Nodup → ((joinD t u).map (·.1)).Nodup
  | [], _, h => h
  | p :: r, _, h => joinD_nd r _ (mput_nd p.1 p.2 h)
theorem joinD_len : ∀ (u t : List PS2), (joinD t u).length ≤ t.length + u.length
  | [], _ => Nat.le_refl _
  | p :: r, t => by
    have h := joinD_len r (mput t p.1 p.2)
    have h2 := mput_len t p.1 p.2
    show (joinD (mput t p.1 p.2) r).length ≤ _
    rw [List.length_cons]
    omega
theorem joinD_enc {t u : List PS2} (h : (t.map (·.1)).Nodup) : mergeK (mergeK [] (t.map encM)) (u.map encM) = (joinD t u).map encM := by
  rw [merge_nd h, merge_enc]
  rfl
theorem apart_of {t u : List PS2} (ht : (t.map (·.1)).Nodup) {ls : List Str} (p : ls.Perm (((joinD t u).map (·.1)).filter fun n => decide (look t n ≠ look u n))) (s : ls.Pairwise leS) : Apart t u ls := by
  have nd : ls.Nodup := p.nodup_iff.mpr ((joinD_nd u t ht).sublist List.filter_sublist)
  refine ⟨le_lt s nd, fun n => ?_⟩
  rw [p.mem_iff, List.mem_filter, joinD_keys]
  constructor
  · exact fun h => of_decide_eq_true h.2
  · refine fun h => ⟨Classical.byContradiction fun z => h ?_, decide_eq_true h⟩
    rw [look_none fun h => z (.inl h), look_none fun h => z (.inr h)]
end Pf

/-! a turn undone: pure -/
namespace Pf
open PySem PySem.Spec PyProof.Rows L2
def flip (t : List PS2) : List PS2 := t.map fun p => (p.2, p.1)
def undoT (t : List PS2) : List PS2 := (flip t).mergeSort (PySem.W.dataLe false eP)
theorem flip_fst (t : List PS2) : (flip t).map (·.1) = t.map (·.2) := by unfold flip; rw [List.map_map]; rfl
theorem flip_snd (t : List PS2) : (flip t).map (·.2) = t.map (·.1) := by unfold flip; rw [List.map_map]; rfl
theorem IsTurn.flip_nd {t : List PS2} (h : IsTurn t) : ((flip t).map (·.1)).Nodup := by
  rw [flip_fst]
  exact h.perm.nodup_iff.mpr h.nd
theorem IsTurn.undo_rise {t : List PS2} (h : IsTurn t) : undoT t = riseM (flip t) := by
  unfold undoT riseM
  congr 1
  symm
  rw [List.filter_eq_self]
  intro p hp
  obtain ⟨q, hq, rfl⟩ := List.mem_map.mp hp
  exact decide_eq_true fun e => h.ne q hq e.symm
theorem IsTurn.undo {t : List PS2} (h : IsTurn t) : IsTurn (undoT t) := by
  rw [h.undo_rise]
  refine riseM_turn h.flip_nd ?_ (fun n hn => ?_) ?_
  · rw [flip_fst, flip_snd]; exact h.perm.symm
  · rw [flip_fst] at hn
    obtain ⟨p, hp, rfl⟩ := List.mem_map.mp hn
    exact (h.ok p hp).2
  · unfold flip; rw [List.length_map]; exact h.small
theorem IsTurn.undo_look {t : List PS2} (h : IsTurn t) (n : Str) : look (undoT t) (look t n) = n := by
  rw [h.undo_rise, look_rise h.flip_nd]
  by_cases c : n ∈ t.map (·.1)
  · exact ((Pf.look_mem h.flip_nd).mp (show (look t n, n) ∈ flip t from List.mem_map.mpr ⟨_, h.look_mem c, rfl⟩)).2
  · rw [look_none c]
    refine look_none ?_
    rw [flip_fst]
    exact fun z => c (h.perm.mem_iff.mp z)
theorem IsTurn.undo_len (t : List PS2) : (undoT t).length = t.length := by
  unfold undoT flip
  rw [List.length_mergeSort, List.length_map]
end Pf

/-! equality of data decided; what turns put together come to: pure -/
namespace Pf
open PySem PySem.Spec PyProof.Rows L2
theorem eqvAll_dec {α : Type} [DecidableEq α] (f : α → PyData) (h : ∀ a b, PyData.eqv (f a) (f b) = decide (a = b)) : ∀ xs ys : List α, PyData.eqvAll (xs.map f) (ys.map f) = decide (xs = ys)
  | [], [] => by rfl
  | [], _ :: _ => by rfl
  | _ :: _, [] => by rfl
  | x :: xs, y :: ys => by
    rw [List.map_cons, List.map_cons, PyData.eqvAll, h, eqvAll_dec f h xs ys, ← Bool.decide_and]
    exact decide_eq_decide.mpr (by simp)
theorem eqv_tupD {α : Type} [DecidableEq α] (f : α → PyData) (h : ∀ a b, PyData.eqv (f a) (f b) = decide (a = b)) (xs ys : List α) : PyData.eqv (.tuple (xs.map f)) (.tuple (ys.map f)) = decide (xs = ys) := by
  rw [PyData.eqv]; exact eqvAll_dec f h xs ys
theorem eqv_lstD {α : Type} [DecidableEq α] (f : α → PyData) (h : ∀ a b, PyData.eqv (f a) (f b) = decide (a = b)) (xs ys : List α) : PyData.eqv (.list (xs.map f)) (.list (ys.map f)) = decide (xs = ys) := by
  rw [PyData.eqv]; exact eqvAll_dec f h xs ys
theorem eqv_intD (x y : Int) : PyData.eqv (.int x) (.int y) = decide (x = y) := by
  rw [PyData.eqv]
  by_cases e : x = y <;> simp [e]
theorem eqv_PD (p q : PS2) : PyData.eqv (eP p) (eP q) = decide (p = q) := by
  show PyData.eqv (.tuple ([p.1, p.2].map .str)) (.tuple ([q.1, q.2].map .str)) = _
  rw [eqv_tupD .str eqv_str]
  exact decide_eq_decide.mpr ⟨fun e => by injection e with a b; injection b with b _; exact Prod.ext a b, fun e => by rw [e]⟩
theorem eqv_TD (t u : List PS2) : PyData.eqv (eT t) (eT u) = decide (t = u) := eqv_tupD eP eqv_PD t u
theorem eqv_LS (t u : List Str) : PyData.eqv (.list (t.map .str)) (.list (u.map .str)) = decide (t = u) := eqv_lstD .str eqv_str t u
theorem eqv_LI (t u : List Int) : PyData.eqv (.list (t.map .int)) (.list (u.map .int)) = decide (t = u) := eqv_lstD .int eqv_intD t u
theorem r_neB {b c : Bool} {H : Hp} {Q : VK} (h : Q (.bl (!decide (b = c))) H) : rNe (.bl b) (.bl c) H Q := ⟨rfl, by rw [show decide (V.bl b = V.bl c) = decide (b = c) from decide_eq_decide.mpr (by simp)]; exact h⟩
theorem r_eqB {b c : Bool} {H : Hp} {Q : VK} (h : Q (.bl (decide (b = c))) H) : rEq (.bl b) (.bl c) H Q := ⟨rfl, by rw [show decide (V.bl b = V.bl c) = decide (b = c) from decide_eq_decide.mpr (by simp)]; exact h⟩
theorem dps_int {K : PySem.W.Frag} {H : Hp} : ∀ ns : List Int, DpAll K H (ns.map V.int) (ns.map .int)
  | [] => .nil
  | n :: r => .cons (.int n) (dps_int r)
theorem shaped_LI {t : List Int} : SeqAt.shaped (.list (t.map .int)) = true :=
  shaped_iff.mpr ⟨canAll .int fun p hp => rfl, Nat.le_trans (Nat.succ_le_succ (depAll (n := 0) .int fun p _ => Nat.le_refl 0)) (by decide)⟩
/-! ### turns -/
theorem IsTurn.empty : IsTurn [] := ⟨.nil, .refl _, fun _ h => (nomatch h), fun _ h => (nomatch h), Nat.zero_le _⟩
theorem IsTurn.undo_look2 {t : List PS2} (h : IsTurn t) (n : Str) : look t (look (undoT t) n) = n := h.undo.inj (h.undo_look (look (undoT t) n))
theorem IsTurn.undo_of {t : List PS2} (h : IsTurn t) {m n : Str} (e : look t m = n) : look (undoT t) n = m := by rw [← e, h.undo_look]
theorem IsTurn.undo_undo {t : List PS2} (h : IsTurn t) : undoT (undoT t) = t := h.undo.undo.ext h fun n => h.undo.undo_of (h.undo_look n)
/-- r does t and then u -/
def Does2 (t u r : List PS2) : Prop := IsTurn r ∧ ∀ n, look r n = look u (look t n)
theorem Does2.back {t u r : List PS2} (h : Does2 t u r) (ht : IsTurn t) (hu : IsTurn u) {r2 : List PS2} (h2 : Does2 (undoT u) (undoT t) r2) : undoT r = r2 :=
  h.1.undo.ext h2.1 fun n => h.1.undo_of (by rw [h.2, h2.2, ht.undo_look2, hu.undo_look2])
theorem Does2.assoc {a b c ab abc bc abc2 : List PS2} (h1 : Does2 a b ab) (h2 : Does2 ab c abc) (h3 : Does2 b c bc) (h4 : Does2 a bc abc2) : abc = abc2 :=
  h2.1.ext h4.1 fun n => by rw [h2.2, h1.2, h4.2, h3.2]
theorem Does2.undoR {t r : List PS2} (h : Does2 t (undoT t) r) (ht : IsTurn t) : r = [] := h.1.ext .empty fun n => by rw [h.2, ht.undo_look]; rfl
theorem Does2.undoL {t r : List PS2} (h : Does2 (undoT t) t r) (ht : IsTurn t) : r = [] := h.1.ext .empty fun n => by rw [h.2, ht.undo_look2]; rfl
theorem Does2.nilR {t r : List PS2} (h : Does2 t [] r) (ht : IsTurn t) : r = t := h.1.ext ht fun n => by rw [h.2]; rfl
theorem Does2.nilL {t r : List PS2} (h : Does2 [] t r) (ht : IsTurn t) : r = t := h.1.ext ht fun n => by rw [h.2]; rfl
theorem Apart.third {t u v r s : List PS2} {xs ys : List Str} (h : Apart t u xs) (hv : IsTurn v) (h1 : Does2 t v r) (h2 : Does2 u v s) (h3 : Apart r s ys) : ys = xs :=
  rise_one h3.rise h.rise fun n => by
    rw [h3.mem, h.mem, h1.2, h2.2]
    exact ⟨fun a b => a (by rw [b]), fun a b => a (hv.inj b)⟩
theorem Apart.ahead {t u v r s : List PS2} {xs ys ds : List Str} (h : Apart t u xs) (hv : IsTurn v) (h1 : Does2 v t r) (h2 : Does2 v u s) (h3 : Apart r s ys) (p : ds.Perm (xs.map (look (undoT v)))) (sd : ds.Pairwise leS) : ys = ds := by
  have nd : ds.Nodup := by
    rw [p.nodup_iff, List.Nodup, List.pairwise_map]
    exact List.Pairwise.imp (fun hne e => hne (hv.undo.inj e)) (lt_nodup h.rise)
  refine rise_one h3.rise (le_lt sd nd) fun n => ?_
  rw [p.mem_iff, List.mem_map, h3.mem, h1.2, h2.2, ← h.mem]
  exact ⟨fun a => ⟨_, a, hv.undo_look n⟩, fun ⟨m, a, e⟩ => by rw [← e, hv.undo_look2]; exact a⟩
theorem lens_one {t v r s : List PS2} (ht : IsTurn t) (hv : IsTurn v) (h1 : Does2 (undoT v) t r) (h2 : Does2 r v s) {xs ys : List Int} (p : xs.Perm ((lensOf s).map Int.ofNat)) (q : ys.Perm ((lensOf t).map Int.ofNat))
    (a : xs.Pairwise (· ≤ ·)) (b : ys.Pairwise (· ≤ ·)) : xs = ys := by
  have l : Led (look v) t s := led_of ht h2.1 (fun _ _ e => hv.inj e) (fun n => by rw [h2.2, h1.2, hv.undo_look]) fun n => ⟨_, hv.undo_look2 n⟩
  have e := (l.lens ht h2.1).map Int.ofNat
  exact List.Perm.eq_of_pairwise (fun _ _ _ _ => Int.le_antisymm) a b ((p.trans e).trans q.symm)
theorem swaps_two {t u r : List PS2} (ht : IsTurn t) (hu : IsTurn u) (h : Does2 t u r) {ms : List PS2} (hs : Says ms (swapsS t ++ swapsS u)) (hl : (riseM ms).length ≤ 40) : riseM ms = r :=
  (turn_of_says hs (fun p hp => (List.mem_append.mp hp).elim (ht.swaps_ok p) (hu.swaps_ok p)) hl).ext h.1 fun n => by
    rw [look_rise hs.nd, hs.to, led_app, ht.swaps_look, hu.swaps_look, h.2]
end Pf

/-! things of any kind, as names, moves and turns look at them; what stays of them -/
namespace Pf
open PySem PySem.Spec PyProof.Rows L2
def NoT (K : PySem.W.Frag) (H : Hp) (n : String) (x : V) : Prop := ∃ t, TyX K H x t ∧ PySem.W.kitOne K t (.type n) = some false
structure Stay (K : PySem.W.Frag) (H H' : Hp) : Prop where
  tups : Tups H H'
  frz : ∀ q o xs, H q = some (.frz o (.tup xs)) → H' q = some (.frz o (.tup xs))
  ty : ∀ x t, TyX K H x t → TyX K H' x t
theorem Stay.of {K : PySem.W.Frag} {H H' : Hp} (s : Same H H') : Stay K H H' := ⟨Tups.of s, fun _ _ _ h => s _ _ h, fun _ _ h => ty_same h s⟩
theorem Stay.refl {K : PySem.W.Frag} {H : Hp} : Stay K H H := Stay.of (Same.refl _)
theorem Stay.trans {K : PySem.W.Frag} {H H1 H2 : Hp} (a : Stay K H H1) (b : Stay K H1 H2) : Stay K H H2 := ⟨a.tups.trans b.tups, fun q o xs h => b.frz _ _ _ (a.frz _ _ _ h), fun x t h => b.ty _ _ (a.ty _ _ h)⟩
theorem ty_at {K : PySem.W.Frag} {H H' : Hp} {p : Addr} {xs ys : List V} (b : But p H H') (h : H p = some (.lst xs)) (h' : H' p = some (.lst ys)) {x : V} {t : Value} (ty : TyX K H x t) : TyX K H' x t := by
  have ne : ∀ {q : Addr} {o : HO}, H q = some o → (∀ zs, o ≠ .lst zs) → q ≠ p := fun e n z => by
    rw [z, h] at e
    exact n _ (Option.some.inj e).symm
  cases ty with
  | base c =>
    refine .base ?_
    cases c with
    | non => exact .non
    | bl y => exact .bl y
    | int i => exact .int i
    | str y => exact .str y
    | flt y => exact .flt y
    | @lst a zs e =>
      by_cases z : a = p
      · rw [z]; exact .lst h'
      · exact .lst (b _ _ z e)
    | frz e => exact .frz (b _ _ (ne e fun _ z => nomatch z) e)
    | tup e => exact .tup (b _ _ (ne e fun _ z => nomatch z) e)
    | dK e => exact .dK (b _ _ (ne e fun _ z => nomatch z) e)
    | dT e => exact .dT (b _ _ (ne e fun _ z => nomatch z) e)
    | ins e cl ha hn htk hm => exact .ins (b _ _ (ne e fun _ z => nomatch z) e) cl ha hn htk hm
  | byt c => exact .byt c
  | set e => exact .set (b _ _ (ne e fun _ z => nomatch z) e)
  | kList e c => exact .kList e c
  | kTuple e c => exact .kTuple e c
  | kDict e c => exact .kDict e c
  | fTuple e => exact .fTuple (b _ _ (ne e fun _ z => nomatch z) e)
  | fDict e => exact .fDict (b _ _ (ne e fun _ z => nomatch z) e)
theorem Stay.at {K : PySem.W.Frag} {H H' : Hp} {p : Addr} {xs ys : List V} (b : But p H H') (h : H p = some (.lst xs)) (h' : H' p = some (.lst ys)) : Stay K H H' :=
  ⟨Tups.but b h, fun q o zs e => b _ _ (fun z => by rw [z, h] at e; exact nomatch e) e, fun x t ty => ty_at b h h' ty⟩
section
variable {K : PySem.W.Frag} {H H' : Hp}
theorem NoT.stay {n : String} {x : V} (h : NoT K H n x) (s : Stay K H H') : NoT K H' n x := by
  obtain ⟨t, ty, e⟩ := h
  exact ⟨t, s.ty _ _ ty, e⟩
/-- a thing that is_name looks at -/
def NmB (K : PySem.W.Frag) (H : Hp) (x : V) (b : Bool) : Prop := (∃ w : Str, x = .str w ∧ w.length ≤ sizeLine ∧ PyData.strOk w = true ∧ b = wordB smallS w) ∨ (NoT K H "str" x ∧ b = false)
theorem NmB.stay {x : V} {b : Bool} (h : NmB K H x b) (s : Stay K H H') : NmB K H' x b := by
  rcases h with h | ⟨h, e⟩
  · exact .inl h
  · exact .inr ⟨h.stay s, e⟩
theorem NmB.name {w : Str} (h : NameOk w) : NmB K H (.str w) true := .inl ⟨w, rfl, by have := h.len; rw [sizeLine_eq]; omega, h.sok, (wordB_iff.mpr h).symm⟩
theorem NmB.yes {x : V} (h : NmB K H x true) : ∃ w, x = .str w ∧ NameOk w := by
  rcases h with ⟨w, e, _, _, h⟩ | ⟨_, h⟩
  · exact ⟨w, e, wordB_iff.mp h.symm⟩
  · exact nomatch h
/-- a thing that is_move looks at -/
inductive MvV (K : PySem.W.Frag) (H : Hp) : V → Option PS2 → Prop
  | yes {x : V} {p : PS2} (h : Pr K H x p) (a : NameOk p.1) (b : NameOk p.2) (n : p.1 ≠ p.2) : MvV K H x (some p)
  | noTup {x : V} (h : NoT K H "tuple" x) : MvV K H x none
  | len {q : Addr} {xs : List V} (h : SqT K H q xs) (n : xs.length ≠ 2) : MvV K H (.ref q) none
  | bad {q : Addr} {u v : V} {b c : Bool} (h : SqT K H q [u, v]) (a : NmB K H u b) (d : NmB K H v c) (e : (b && c) = false) : MvV K H (.ref q) none
  | self {q : Addr} {w : Str} (h : SqT K H q [.str w, .str w]) (a : NameOk w) : MvV K H (.ref q) none
theorem MvV.stay {x : V} {o : Option PS2} (h : MvV K H x o) (s : Stay K H H') : MvV K H' x o := by
  cases h with
  | yes h a b n => exact .yes (h.stay s.tups) a b n
  | noTup h => exact .noTup (h.stay s)
  | len h n => exact .len (s.tups.sq h) n
  | bad h a d e => exact .bad (s.tups.sq h) (a.stay s) (d.stay s) e
  | self h a => exact .self (s.tups.sq h) a
/-- a thing that is_turn looks at -/
inductive TgV (K : PySem.W.Frag) (H : Hp) : V → Option (List PS2) → Prop
  | all {q : Addr} {xs : List V} {ps : List PS2} (h : SqT K H q xs) (p : Prs K H xs ps) (few : ps.length ≤ 40) (ok : ∀ p ∈ ps, NameOk p.1 ∧ NameOk p.2 ∧ p.1 ≠ p.2) (d : IsTurn ps → ∃ o, H q = some (.frz o (.tup xs)) ∧ o.dict = none) : TgV K H (.ref q) (some ps)
  | noTup {x : V} (h : NoT K H "tuple" x) : TgV K H x none
  | part {q : Addr} {xs : List V} {os : List (Option PS2)} (h : SqT K H q xs) (few : xs.length ≤ 60) (p : Paired (MvV K H) xs os) (n : none ∈ os) : TgV K H (.ref q) none
theorem TgV.stay {x : V} {o : Option (List PS2)} (h : TgV K H x o) (s : Stay K H H') : TgV K H' x o := by
  cases h with
  | all h p few ok d =>
    exact .all (s.tups.sq h) (p.stay s.tups) few ok fun it => by
      obtain ⟨o, e, n⟩ := d it
      exact ⟨o, s.frz _ _ _ e, n⟩
  | noTup h => exact .noTup (h.stay s)
  | part h few p n => exact .part (s.tups.sq h) few (pd_mono (fun _ _ r => r.stay s) p) n
noncomputable instance (t : List PS2) : Decidable (IsTurn t) := Classical.propDecidable _
noncomputable def turnB (o : Option (List PS2)) : Bool := match o with
  | some ps => decide (IsTurn ps)
  | none => false
theorem turnB_yes {t : List PS2} (h : IsTurn t) : turnB (some t) = true := by
  unfold turnB
  exact decide_eq_true h
theorem turnB_of {o : Option (List PS2)} (h : turnB o = true) : ∃ t, o = some t ∧ IsTurn t := by
  cases o with
  | none => exact nomatch h
  | some t => exact ⟨t, rfl, by unfold turnB at h; exact of_decide_eq_true h⟩
/-- moves that are a turn -/
theorem turn_iff {ps : List PS2} (few : ps.length ≤ 40) (ok : ∀ p ∈ ps, NameOk p.1 ∧ NameOk p.2 ∧ p.1 ≠ p.2) : IsTurn ps ↔ (ps.map (·.1)).Pairwise ltS ∧ (ps.map (·.2)).Perm (ps.map (·.1)) :=
  ⟨fun h => ⟨h.rise, h.perm⟩, fun h => ⟨h.1, h.2, fun p hp => (ok p hp).2.2, fun p hp => ⟨(ok p hp).1, (ok p hp).2.1⟩, few⟩⟩
/-- sorted seconds are the rising firsts just where they are these in some order -/
theorem perm_sorted {xs ys ms : List Str} (p : ys.Perm xs) (s : ys.Pairwise leS) (r : ms.Pairwise ltS) : ys = ms ↔ xs.Perm ms :=
  ⟨fun e => e ▸ p.symm, fun q => same_sorted (p.trans q) s (lt_le r)⟩
/-- a list is its own members, rising, just where it rises -/
theorem sorted_set_iff {ms ys ks : List Str} (nd : ks.Nodup) (mem : ∀ x, x ∈ ks ↔ x ∈ ms) (p : ys.Perm ks) (s : ys.Pairwise leS) : ms = ys ↔ ms.Pairwise ltS := by
  have sy : ys.Pairwise ltS := le_lt s (p.nodup_iff.mpr nd)
  exact ⟨fun e => e ▸ sy, fun h => rise_one h sy fun n => by rw [p.mem_iff, mem]⟩
/-- neighbours that rise, and all that does -/
theorem rise_near {ns : List Str} : ((List.range (ns.length - 1)).map fun i => decide (ltS (ns.getD i ⟨#[]⟩) (ns.getD (i + 1) ⟨#[]⟩))).all id = decide (ns.Pairwise ltS) := by
  have gd : ∀ i (h : i < ns.length), ns.getD i ⟨#[]⟩ = ns[i] := fun i h => by rw [List.getD_eq_getElem?_getD, List.getElem?_eq_getElem h]; rfl
  refine Bool.eq_iff_iff.mpr ?_
  rw [List.all_eq_true, decide_eq_true_iff]
  constructor
  · intro h
    have near : ∀ i (h1 : i + 1 < ns.length), ltS ns[i] ns[i + 1] := fun i h1 => by
      have := h (decide (ltS (ns.getD i ⟨#[]⟩) (ns.getD (i + 1) ⟨#[]⟩))) (List.mem_map.mpr ⟨i, List.mem_range.mpr (by omega), rfl⟩)
      rw [gd i (by omega), gd (i + 1) h1] at this
      exact of_decide_eq_true this
    have far : ∀ k i (h1 : i + k + 1 < ns.length), ltS ns[i] ns[i + k + 1] := by
      intro k
      induction k with
      | zero => exact fun i h1 => near i h1
      | succ k ih => exact fun i h1 => ltS_trans (ih i (by omega)) (near (i + k + 1) (by omega))
    refine List.pairwise_iff_getElem.mpr fun i j hi hj lt => ?_
    have e : j = i + (j - i - 1) + 1 := by omega
    have := far (j - i - 1) i (by omega)
    simpa [← e] using this
  · intro h b hb
    obtain ⟨i, hi, rfl⟩ := List.mem_map.mp hb
    rw [List.mem_range] at hi
    show decide _ = true
    rw [gd i (by omega), gd (i + 1) (by omega)]
    exact decide_eq_true (List.pairwise_iff_getElem.mp h i (i + 1) (by omega) (by omega) (by omega))
end
end Pf

/-! functions handed on as values: captured cells tracked while the callee runs, untracked within the function's own body -/
namespace Pf
open PySem PySem.Spec PyProof.Rows L2 LamX NdefX
/-- a cell, known to the object -/
def PinO (_ : Addr) (o : Obj) : HO := .frz o (.ext fun _ => True)
abbrev Pz := List (Addr × Obj)
def pinA (H : Hp) (z : Pz) : Hp := fun b => match z.lookup b with
  | some o => some (PinO b o)
  | none => H b
def unpA (H : Hp) (z : Pz) : Hp := fun b => match z.lookup b with
  | some _ => none
  | none => H b
def Pinned (z : Pz) (H : Hp) : Prop := ∀ b o, z.lookup b = some o → H b = some (PinO b o)
theorem pin_at {H : Hp} {z : Pz} {b : Addr} {o : Obj} (e : z.lookup b = some o) : pinA H z b = some (PinO b o) := by unfold pinA; rw [e]
theorem pin_off {H : Hp} {z : Pz} {b : Addr} (e : z.lookup b = none) : pinA H z b = H b := by unfold pinA; rw [e]
theorem unp_at {H : Hp} {z : Pz} {b : Addr} {o : Obj} (e : z.lookup b = some o) : unpA H z b = none := by unfold unpA; rw [e]
theorem unp_off {H : Hp} {z : Pz} {b : Addr} (e : z.lookup b = none) : unpA H z b = H b := by unfold unpA; rw [e]
theorem pinned_pin {H : Hp} {z : Pz} : Pinned z (pinA H z) := fun b o e => pin_at e
theorem Pinned.same {z : Pz} {H H2 : Hp} (p : Pinned z H) (s : Same H H2) : Pinned z H2 := fun b o e => s _ _ (p b o e)
theorem Pinned.ne {z : Pz} {H : Hp} (p : Pinned z H) {b : Addr} {u : HO} (e : H b = some u) (n : ∀ ob φ, u ≠ .frz ob (.ext φ)) : z.lookup b = none := by
  cases q : z.lookup b with
  | none => rfl
  | some o =>
    rw [p b o q] at e
    exact absurd (Option.some.inj e).symm (n _ _)
/-- untracked at each -/
def Bare (z : Pz) (H : Hp) : Prop := ∀ b o, z.lookup b = some o → H b = none
theorem Bare.ne {z : Pz} {H : Hp} (p : Bare z H) {b : Addr} {u : HO} (e : H b = some u) : z.lookup b = none := by
  cases q : z.lookup b with
  | none => rfl
  | some o => rw [p b o q] at e; cases e
theorem bare_unp {z : Pz} {H : Hp} : Bare z (unpA H z) := fun b o e => unp_at e
theorem same_pin {z : Pz} {H : Hp} (p : Bare z H) : Same H (pinA H z) := fun b o e => (pin_off (p.ne e)).trans e
theorem unp_pin {z : Pz} {H : Hp} (p : Bare z H) : unpA (pinA H z) z = H := by
  funext b
  cases q : z.lookup b with
  | none => rw [unp_off q, pin_off q]
  | some o => rw [unp_at q, p b o q]
theorem pin_unp {z : Pz} {H : Hp} (p : Pinned z H) : pinA (unpA H z) z = H := by
  funext b
  cases q : z.lookup b with
  | none => rw [pin_off q, unp_off q]
  | some o => rw [pin_at q, p b o q]
/-- back from a later heap: what stood stands -/
theorem same_unp {z : Pz} {H H2 : Hp} (p : Bare z H) (s : Same (pinA H z) H2) : Same H (unpA H2 z) := fun b o e => (unp_off (p.ne e)).trans (s _ _ ((pin_off (p.ne e)).trans e))
theorem same_repin {z : Pz} {H H2 : Hp} (p : Pinned z H) (s : Same (unpA H z) H2) : Same H (pinA H2 z) := fun b o e => by
  cases q : z.lookup b with
  | none => exact (pin_off q).trans (s _ _ ((unp_off q).trans e))
  | some o2 =>
    rw [p b o2 q] at e
    rw [pin_at q]
    exact e
section
variable {P : Program} {w : World} {K : PySem.W.Frag} {mg : Str → Option Value} {base : Heap} {A : Around} {outer : List Env} {s s2 : Shared} {H : Hp} {h : Heap} {z : Pz}
theorem hok_pin (k : HOk P w H h) (b : Bare z H) (at0 : ∀ c o, z.lookup c = some o → h.get? c = some o) : HOk P w (pinA H z) h := by
  intro c u e
  cases q : z.lookup c with
  | none =>
    rw [pin_off q] at e
    exact (k c u e).stay (fun d v _ r => r) (fun d r => (pin_off (b.ne r)).trans r) fun d xs r => (pin_off (b.ne r)).trans r
  | some o =>
    rw [pin_at q] at e
    cases e
    exact ⟨at0 c o q, trivial, ⟨o, at0 c o q⟩, fun _ _ _ _ => trivial⟩
theorem hok_unp (k : HOk P w H h) (p : Pinned z H) : HOk P w (unpA H z) h := by
  intro c u e
  cases q : z.lookup c with
  | none =>
    rw [unp_off q] at e
    exact (k c u e).stay (fun d v _ r => r) (fun d r => (unp_off (p.ne r (fun _ φ z => nomatch z))).trans r) fun d xs r => (unp_off (p.ne r (fun _ φ z => nomatch z))).trans r
  | some o => rw [unp_at q] at e; cases e
theorem pin_obj (k : HOk P w H h) (p : Pinned z H) {c : Addr} {o : Obj} (e : z.lookup c = some o) : h.get? c = some o := by
  exact (k c _ (p c o e)).1
/-- what a handing over asks of the cells -/
structure ZOk (z : Pz) (base : Heap) (outer : List Env) (s : Shared) (H : Hp) : Prop where
  bare : Bare z H
  at0 : ∀ c o, z.lookup c = some o → s.heap.get? c = some o
  nobase : ∀ c o, z.lookup c = some o → base.get? c = none
  nofr : ∀ c o, z.lookup c = some o → c ∉ frs outer
theorem env_pin (e : Env0 P w K mg base A outer s H) (Z : ZOk z base outer s H) : Env0 P w K mg base A outer s (pinA H z) := by
  have off : ∀ b, (∀ o, z.lookup b ≠ some o) → H b = none → pinA H z b = none := fun b n q => by
    cases r : z.lookup b with
    | none => rw [pin_off r]; exact q
    | some o => exact absurd r (n o)
  refine ⟨e.frames, e.mod, fun b o q => ⟨(e.bs b o q).1, off b (fun o2 r => ?_) (e.bs b o q).2⟩, e.bsz, e.funs, fun b hb => off b (fun o2 r => Z.nofr b o2 r hb) (e.frf b hb), hok_pin e.hok Z.bare Z.at0, e.bare⟩
  rw [Z.nobase b o2 r] at q
  cases q
theorem env_unp (e : Env0 P w K mg base A outer s H) (p : Pinned z H) : Env0 P w K mg base A outer s (unpA H z) := by
  have off : ∀ b, H b = none → unpA H z b = none := fun b q => by
    cases r : z.lookup b with
    | none => rw [unp_off r]; exact q
    | some o => rw [unp_at r]
  exact ⟨e.frames, e.mod, fun b o q => ⟨(e.bs b o q).1, off b (e.bs b o q).2⟩, e.bsz, e.funs, fun b hb => off b (e.frf b hb), hok_unp e.hok p, e.bare⟩
theorem ce_pin {Q : VK} {u : Value} (Z : ZOk z base outer s H) (c : CE outer P w (pinA H z) s (fun v H2 => Pinned z H2 ∧ Q v (unpA H2 z)) u s2) : CE outer P w H s Q u s2 := by
  obtain ⟨v, H2, os, bare, un, hok, r, p, q⟩ := c
  have on : ∀ b, H b = none → z.lookup b = none → pinA H z b = none := fun b n e => (pin_off e).trans n
  refine ⟨v, unpA H2 z, os, bare, ⟨fun b o e n nf nx => ?_, fun b o e n hf nx => ?_, fun b o e n nx => ?_, fun b o e nx => un.there b o e nx, fun b xs e => ?_, fun b o u e => ?_, fun b ps e => ?_⟩, hok_unp hok p, r, q⟩
  · cases l : z.lookup b with
    | none => exact un.keep b o e (on b n l) nf nx
    | some o2 =>
      have e1 := Z.at0 b o2 l
      rw [e] at e1
      cases e1
      exact pin_obj hok p l
  · cases l : z.lookup b with
    | none => exact un.slot b o e (on b n l) hf nx
    | some o2 => exact absurd hf (Z.nofr b o2 l)
  · cases l : z.lookup b with
    | none => rw [unp_off l]; exact un.free b o e (on b n l) nx
    | some o2 => rw [unp_at l]
  · have l := Z.bare.ne e
    rw [unp_off l]
    exact un.tups b xs ((pin_off l).trans e)
  · have l := Z.bare.ne e
    rw [unp_off l]
    exact un.frzs b o u ((pin_off l).trans e)
  · have l := Z.bare.ne e
    rw [unp_off l]
    exact un.tbls b ps ((pin_off l).trans e)
theorem ce_unp {Q : VK} {u : Value} (e0 : Env0 P w K mg base A outer s H) (p : Pinned z H) (c : CE outer P w (unpA H z) s (fun v H2 => Bare z H2 → Q v (pinA H2 z)) u s2) : CE outer P w H s Q u s2 := by
  obtain ⟨v, H2, os, bare, un, hok, r, q⟩ := c
  have nl : ∀ b, H b = none → z.lookup b = none := fun b n => by
    cases l : z.lookup b with
    | none => rfl
    | some o => rw [p b o l] at n; cases n
  have nof : ∀ b o, z.lookup b = some o → b ∉ frs outer := fun b o l hb => by
    have := e0.frf b hb
    rw [p b o l] at this
    cases this
  have at2 : ∀ b o, z.lookup b = some o → H2 b = none ∧ s2.heap.get? b = some o := fun b o l => by
    have e := pin_obj e0.hok p l
    exact ⟨un.free b o e (unp_at l) (by simp), un.keep b o e (unp_at l) (nof b o l) (by simp)⟩
  refine ⟨v, pinA H2 z, os, bare, ⟨fun b o e n nf nx => ?_, fun b o e n hf nx => ?_, fun b o e n nx => ?_, fun b o e nx => un.there b o e nx, fun b xs e => ?_, fun b o u e => ?_, fun b ps e => ?_⟩, hok_pin hok (fun b o l => (at2 b o l).1) (fun b o l => (at2 b o l).2), r, q fun b o l => (at2 b o l).1⟩
  · exact un.keep b o e ((unp_off (nl b n)).trans n) nf nx
  · exact un.slot b o e ((unp_off (nl b n)).trans n) hf nx
  · rw [pin_off (nl b n)]
    exact un.free b o e ((unp_off (nl b n)).trans n) nx
  · have l := p.ne e (fun _ φ z => nomatch z)
    rw [pin_off l]
    exact un.tups b xs ((unp_off l).trans e)
  · cases l : z.lookup b with
    | none =>
      rw [pin_off l]
      exact un.frzs b o u ((unp_off l).trans e)
    | some o2 =>
      rw [pin_at l, ← p b o2 l]
      exact e
  · have l := p.ne e (fun _ φ z => nomatch z)
    rw [pin_off l]
    exact un.tbls b ps ((unp_off l).trans e)
end
end Pf

namespace Pf
open PySem PySem.Spec PyProof.Rows L2 LamX NdefX
/-- what the pins tell of a function's captured cells: fr their names, ws what they hold -/
structure PinsOf (cl : List (Str × Addr)) (fr : List Str) (ws : List V) (z : Pz) : Prop where
  len : ws.length = fr.length
  all : ∀ y c, cl.lookup y = some c → ∃ o v, z.lookup c = some o ∧ o.data = .cell v
  inj : ∀ x y c, cl.lookup x = some c → cl.lookup y = some c → x = y
  has : ∀ (i : Nat) (y : Str), fr[i]? = some y → ∃ c, cl.lookup y = some c ∧ ∀ v, ws[i]? = some v → ∃ u o, RelV v u ∧ z.lookup c = some o ∧ o.data = .cell (some u)
theorem cells_pins {P : Program} {w : World} {cl : List (Str × Addr)} {fr : List Str} {ws : List V} {z : Pz} {H : Hp} {h : Heap} (p : PinsOf cl fr ws z) (k : HOk P w H h) (t : Pinned z H) : CellsAt cl fr (ws.map some) h (unpA H z) := by
  refine ⟨by rw [List.length_map]; exact p.len, fun y c e => ?_, p.inj, fun i y e => ?_⟩
  · obtain ⟨o, v, l, d⟩ := p.all y c e
    exact ⟨unp_at l, v, o, pin_obj k t l, d⟩
  · obtain ⟨c, e1, e2⟩ := p.has i y e
    refine ⟨c, e1, fun v ev => ?_⟩
    rw [List.getElem?_map] at ev
    cases q : ws[i]? with
    | none => rw [q] at ev; cases ev
    | some v2 =>
      rw [q] at ev
      cases ev
      obtain ⟨u, o, r, l, d⟩ := e2 v q
      exact ⟨u, r, o, pin_obj k t l, d⟩
/-- the objects of some addresses -/
def zOf (h : Heap) (l : List Addr) : Pz := l.filterMap fun c => (h.get? c).map fun o => (c, o)
theorem zOf_look {h : Heap} : ∀ {l : List Addr} {c : Addr}, (zOf h l).lookup c = if c ∈ l then h.get? c else none
  | [], c => by simp [zOf]
  | a :: l, c => by
    have ih := zOf_look (h := h) (l := l) (c := c)
    unfold zOf at ih ⊢
    rw [List.filterMap_cons]
    cases e : h.get? a with
    | none =>
      show List.lookup c (List.filterMap _ l) = _
      rw [ih]
      by_cases q : c = a
      · subst q
        rw [show (if c ∈ c :: l then h.get? c else none) = h.get? c from if_pos List.mem_cons_self, e]
        split <;> rfl
      · by_cases m : c ∈ l
        · rw [if_pos m, if_pos (List.mem_cons_of_mem _ m)]
        · rw [if_neg m, if_neg (fun z => (List.mem_cons.mp z).elim q m)]
    | some o =>
      show List.lookup c ((a, o) :: List.filterMap _ l) = _
      rw [List.lookup_cons]
      by_cases q : c = a
      · subst q
        rw [show (if c ∈ c :: l then h.get? c else none) = h.get? c from if_pos List.mem_cons_self, e]
        simp
      · have : (c == a) = false := beq_eq_false_iff_ne.mpr q
        rw [this]
        show List.lookup c (List.filterMap _ l) = _
        rw [ih]
        by_cases m : c ∈ l
        · rw [if_pos m, if_pos (List.mem_cons_of_mem _ m)]
        · rw [if_neg m, if_neg (fun z => (List.mem_cons.mp z).elim q m)]
/-- the object at f is a lambda -/
def LamO (f : Addr) (F : NF) (body : Expr) : HO := .ext fun h => ∃ pm ctv, h.get? f = some (PySem.W.kla_obj F.name F.qual F.params body F.scope F.cl pm F.c ctv)
/-- a function stands there -/
def FnH (H : Hp) (f : Addr) : Prop := ∃ φ : Heap → Prop, H f = some (.ext φ) ∧ ∀ h, φ h → PySem.W.FnAt f h
theorem fnH_lam {H : Hp} {f : Addr} {F : NF} {body : Expr} (e : H f = some (LamO f F body)) : FnH H f := ⟨_, e, fun h ⟨pm, ctv, q⟩ => ⟨_, _, _, _, q⟩⟩
theorem FnH.at_ {P : Program} {w : World} {H : Hp} {h : Heap} {f : Addr} (q : FnH H f) (k : HOk P w H h) : PySem.W.FnAt f h := by
  obtain ⟨φ, e, st⟩ := q
  obtain ⟨r, _, _⟩ := k f _ e
  exact st h r
theorem FnH.same {H H2 : Hp} {f : Addr} (q : FnH H f) (s : Same H H2) : FnH H2 f := by
  obtain ⟨φ, e, st⟩ := q
  exact ⟨φ, s _ _ e, st⟩
/-- what the function at f promises of a call -/
def VOk (P : Program) (w : World) (K : PySem.W.Frag) (mg : Str → Option Value) (base : Heap) (k : Nat) (f : Addr) (sp : Sp) : Prop :=
  ∀ (A : Around) (outer : List Env) (s : Shared) (H : Hp) (us : List Value) (vs : List V) (Q : VK) (E : XK), Room k A → Env0 P w K mg base A outer s H → Vals vs us → sp vs H Q E →
    codeAny (model P w) A (.call (.ref f) ⟨us, []⟩) (CR C8.CX0 outer P w H s Q E) s
section
variable {P : Program} {w : World} {K : PySem.W.Frag} {mg : Str → Option Value} {base : Heap} {N ps fr : List Str} {F : NF} {body : Expr} {f : Addr} {k j : Nat} {sp sp2 : Sp} {ws : List V} {z : Pz}
theorem VOk.mono (o : VOk P w K mg base j f sp) (h : j ≤ k) : VOk P w K mg base k f sp := fun A outer s H us vs Q E hr => o A outer s H us vs Q E (hr.mono h)
theorem VOk.imp (o : VOk P w K mg base k f sp) (h : ∀ vs H Q E, sp2 vs H Q E → sp vs H Q E) : VOk P w K mg base k f sp2 := fun A outer s H us vs Q E hr e0 r q => o A outer s H us vs Q E hr e0 r (h _ _ _ _ q)
/-- a lambda by its body -/
def spL (f : Addr) (F : NF) (body : Expr) (n : Nat) (z : Pz) (sp : Sp) : Sp := fun vs H Q E => vs.length = n ∧ H f = some (LamO f F body) ∧ H F.c = some (CodeO F.c F.qual) ∧ Pinned z H ∧ sp vs (unpA H z) (fun v H2 => Bare z H2 → Q v (pinA H2 z)) E
theorem lam_ok (S : NScope N ps fr F.scope) (pz : PinsOf F.cl fr ws z) (hb : ∀ (pm ctv : Value) (us : List Value), us.length = ps.length → bindArgs (PySem.W.kla_fn F.name F.qual F.params body F.scope F.cl pm (.ref F.c) ctv) ⟨us, []⟩ = pure (ps.zip us))
    (hbody : ∀ (A : Around) (outer : List Env) (s : Shared) (H : Hp) (vs : List V) (Q : VK) (E : XK), Room k (A.deeper (envF F f s.heap.objs.size)) → vs.length = ps.length → sp vs H Q E →
      ∃ t, PE (ncx C8.CX0 P w K mg base N F f A outer s H E) body t ∧ t (startF N vs (ws.map some)) H Q) :
    VOk P w K mg base (k + 1) f (spL f F body ps.length z sp) := by
  intro A outer s H us vs Q E hr e0 r q
  obtain ⟨hl, hf, hc, hp, q⟩ := q
  have lim : s.heap.NoLimit := e0.mod.nolimit.keeps fun b o e => (e0.bs b o e).1
  obtain ⟨⟨pm, ctv, ho⟩, _, _⟩ := e0.hok f _ hf
  have eU := env_unp e0 hp
  have C := cells_pins pz e0.hok hp
  obtain ⟨⟨oc, cs, ct, g1, g2, g3⟩, _, _⟩ := e0.hok F.c _ hc
  refine codeAny_mono (R := CR C8.CX0 outer P w (unpA H z) s (fun v H2 => Bare z H2 → Q v (pinA H2 z)) E) (PySem.W.kla_callFunE hr.depth ho rfl S.co S.gen rfl ⟨F.c, oc, cs, ct, rfl, g1, g2, g3⟩ ?_) fun r2 s2 h2 => ?_
  · rw [hb pm ctv us (by rw [← r.length]; exact hl)]
    refine wpAny_pure (wpAny_newFunctionEnv S.nocell (fun ⟨n, _⟩ hy => S.par n (List.of_mem_zip hy).1) (fun h1 hns hsb => ⟨lim.fresh _ hsb, ?_⟩) S.kind)
    show codeAny _ _ (.expr body (envF F f s.heap.objs.size)) _ _
    have kp : ∀ b o, s.heap.get? b = some o → h1.get? b = some o := fun b o e => hsb.extBut b o (Nat.ne_of_lt (Heap.lt_size e)) (Heap.get?_push_of_some _ e)
    obtain ⟨t, ht, hq⟩ := hbody A outer s (unpA H z) vs (fun v H2 => Bare z H2 → Q v (pinA H2 z)) E (hr.deeper _) hl q
    have I : Inv (ncx C8.CX0 P w K mg base N F f A outer s (unpA H z) E) [] (startF N vs (ws.map some)) (unpA H z) { s with heap := h1, toks := s.toks + (ps.zip us).length } := inv_startN S hr.hd eU hl r C hns kp
    refine PySem.W.kla_codeExpr (wpAny_mono (ht.run [] _ _ (unpA H z) _ I hq) (fun v s3 h3 => ?_) fun e s3 h3 => h3)
    obtain ⟨x, H3, J, rv, q3⟩ := h3
    exact ⟨x, H3, J.os, J.bare, J.base, J.hok, rv, q3⟩
  · cases r2 with
    | error e => exact h2
    | ok fl =>
      cases fl with
      | ret u => exact ce_unp e0 hp h2
      | next => exact h2
      | brk => exact h2
      | cont => exact h2
end
end Pf

namespace Pf
open PySem PySem.Spec PyProof.Rows L2 LamX NdefX
/-- x(..), x a name that holds a function -/
def tCallV (P : Program) (w : World) (K : PySem.W.Frag) (mg : Str → Option Value) (base : Heap) (k i : Nat) (E : XK) (t : TA) : TE := fun σ H Q => ∃ f : Addr, σ[i]? = some (some (.ref f)) ∧ FnH H f ∧ t σ H fun vs H1 => FnH H1 f ∧ ∃ sp : Sp, VOk P w K mg base k f sp ∧ sp vs H1 Q E
/-- g(..), of whose arguments one is a lambda with captured names -/
def tCallZ (cl : List (Str × Addr)) (fr : List Str) (js : List Nat) (sp : Sp) (E : XK) (t : TA) : TE := fun σ H Q => t σ H fun vs H1 => ∃ ws : List V, js.map (slotAt σ) = ws.map some ∧
  ∀ z, PinsOf cl fr ws z → Bare z H1 → sp vs (pinA H1 z) (fun v H2 => Pinned z H2 ∧ Q v (unpA H2 z)) E
/-- a lambda -/
def tLamV (T : List NTab) (body : Expr) (mk : Addr → NF) : TE := fun σ H Q => TabsN T H ∧ ∀ (f c2 : Addr) (H1 : Hp), ExtN H H1 → (∀ b, H1 b = none → H b = none) → TabsN T H1 → H f = none → H1 f = some (LamO f (mk c2) body) → H1 c2 = some (CodeO c2 (mk c2).qual) → Q (.ref f) H1
section
variable {X : Cx} {k i : Nat} {x : Str} {E : XK} {t : TA} {e : Expr} {es : List Expr} {p pos : Pos}
theorem pe_callV (hr : Room k X.A) (hx : Passes C8.CX0 X E) (hN : X.N[i]? = some x) (hv : Vis X.env.scope x) (ha : PA X (e :: es) t)
    (hd : (x == ("__debug__" : Str)) = false := by decide) (hcd : (x == ("__classdict__" : Str)) = false := by decide)
    (he : starEach (e :: es) X.env = (false, eval e X.env) :: starEach es X.env := by rfl) (hpl : (backTo pos (starEach es X.env)).any (·.1) = false := by rfl) :
    PE X (.Call (.Name x p) (e :: es) [] pos) (tCallV X.prog X.w X.K X.mg X.base k i E t) := by
  refine ⟨fun pins s σ H Q I h => ?_⟩
  obtain ⟨f, hs, hf, ht⟩ := h
  refine wpAny_Call_Name_kw (thn ((pe_var (pos := p) hN hv hd hcd).run pins s σ H (fun v H1 => v = .ref f ∧ H1 = H) I ⟨.ref f, hs, rfl, rfl⟩) fun u s1 ⟨v, H1, I1, r1, q1⟩ => ?_)
  obtain ⟨rfl, rfl⟩ := q1
  obtain rfl : u = Value.ref f := r1
  refine PySem.W.callWith_F (first := []) (hf.at_ I1.hok) (thn (ha.run pos pins s1 σ _ _ I1 ht) fun us s2 ⟨vs, H2, I2, r, h1, sp, V, q⟩ => ⟨h1.at_ I2.hok, ?_⟩) he hpl
  refine (show wpAny _ _ (call (.ref f) us) _ _ _ from wpAny_call (codeAny_mono (V X.A X.stack s2 H2 us vs Q E hr I2.env0 r q) fun r s3 hq => ?_))
  cases r with
  | error e => exact hx pins σ H2 s2 e s3 I2 hq
  | ok fl =>
    cases fl with
    | ret u => exact I2.after hq
    | next => exact False.elim hq
    | brk => exact False.elim hq
    | cont => exact False.elim hq
/-- the cells of a lambda made here, as pins -/
theorem pins_of {pins : List (Addr × Obj)} {σ : L2.St} {H : Hp} {s : Shared} {names : List (Str × NameKind)} {fr : List Str} {js : List Nat} {ws : List V} (I : Inv X pins σ H s) (cp : Caps X (cloFrom X.env.cells names []) fr js)
    (hfree : ∀ y ∈ names, y.2 = .free → ∃ c, X.env.cells.lookup y.1 = some c) (hfn : ∀ y, X.fn y = true) (hws : js.map (slotAt σ) = ws.map some) :
    ∃ z, PinsOf (cloFrom X.env.cells names []) fr ws z ∧ ZOk z X.base X.stack s H := by
  have C := cells_of I cp
  have mem : ∀ y c, (cloFrom X.env.cells names []).lookup y = some c → c ∈ (cloFrom X.env.cells names []).map (·.2) := fun y c e => List.mem_map.mpr ⟨(y, c), PySem.mem_of_lookup e, rfl⟩
  have look : ∀ y c, (cloFrom X.env.cells names []).lookup y = some c → (zOf s.heap ((cloFrom X.env.cells names []).map (·.2))).lookup c = s.heap.get? c := fun y c e => by rw [zOf_look, if_pos (mem y c e)]
  have back : ∀ c o, (zOf s.heap ((cloFrom X.env.cells names []).map (·.2))).lookup c = some o → s.heap.get? c = some o ∧ ∃ y, X.env.cells.lookup y = some c := fun c o e => by
    rw [zOf_look] at e
    by_cases m : c ∈ (cloFrom X.env.cells names []).map (·.2)
    · rw [if_pos m] at e
      obtain ⟨yc, h1, h2⟩ := List.mem_map.mp m
      obtain ⟨y, c2⟩ := yc
      cases h2
      rcases cloFrom_mem h1 with q | ⟨q1, q2⟩
      · cases q
      · obtain ⟨c1, hc⟩ := hfree _ q1 rfl
        have hc : X.env.cells.lookup y = some c1 := hc
        have e2 : c2 = c1 := by rw [q2, hc] <;> rfl
        exact ⟨e, y, by rw [hc, ← e2]⟩
    · rw [if_neg m] at e
      cases e
  refine ⟨zOf s.heap ((cloFrom X.env.cells names []).map (·.2)), ⟨?_, fun y c e => ?_, C.inj, fun i y e => ?_⟩, ⟨fun c o e => ?_, fun c o e => (back c o e).1, fun c o e => ?_, fun c o e hm => ?_⟩⟩
  · have := C.len
    rw [hws, List.length_map] at this
    exact this
  · obtain ⟨_, v, o, ho, hd⟩ := C.all y c e
    exact ⟨o, v, (look y c e).trans ho, hd⟩
  · obtain ⟨c, e1, e2⟩ := C.has i y e
    refine ⟨c, e1, fun v ev => ?_⟩
    obtain ⟨u, r, o, ho, hd⟩ := e2 v (by rw [hws, List.getElem?_map, ev]; rfl)
    exact ⟨u, o, r, (look y c e1).trans ho, hd⟩
  · obtain ⟨_, y, hy⟩ := back c o e
    exact I.freeC y c hy
  · obtain ⟨_, y, hy⟩ := back c o e
    cases q : X.base.get? c with
    | none => rfl
    | some ob => exact absurd (Heap.lt_size q) (Nat.not_lt.mpr (Nat.le_trans I.ok.bsz (I.ok.cab y c (hfn y) hy)))
  · obtain ⟨ho, y, hy⟩ := back c o e
    rcases List.mem_cons.mp (I.stkSub c hm) with q | q
    · obtain ⟨v, oc, hoc, hdc⟩ := I.cell y c hy
      obtain ⟨m, ⟨ob, eb, pb, hb, hd, _⟩, _⟩ := I.loc
      rw [q] at hoc
      rw [hb] at hoc
      cases hoc
      rw [hd] at hdc
      cases hdc
    · obtain ⟨_, ob, hb, _⟩ := I.ok.funs.mem q
      exact absurd (Heap.lt_size hb) (Nat.not_lt.mpr (I.ok.cab y c (hfn y) hy))
theorem pe_callZ {names : List (Str × NameKind)} {fr : List Str} {js : List Nat} {g : Addr} {fd : FuncData} {ps : List Str} {sp : Sp} (F : FnOk X.prog X.w X.K X.mg X.base C8.CX0 k g fd ps sp) (hr : Room k X.A) (hg : Gl X x) (hm : X.mg x = some (.ref g)) (hk : PySem.W.keepIn X.K (.ref g) = true) (hb : Binds X.K fd ps []) (hx : Passes C8.CX0 X E)
    (cp : X.Ok → Caps X (cloFrom X.env.cells names []) fr js) (hfree : ∀ y ∈ names, y.2 = .free → X.env.scope.names.lookup y.1 = some .cell ∨ X.env.scope.names.lookup y.1 = some .free) (hfn : ∀ y, X.fn y = true)
    (ha : PA X (e :: es) t) (hdb : (x == ("__debug__" : Str)) = false := by decide) (he : starEach (e :: es) X.env = (false, eval e X.env) :: starEach es X.env := by rfl) (hpl : (backTo pos (starEach es X.env)).any (·.1) = false := by rfl) :
    PE X (.Call (.Name x p) (e :: es) [] pos) (tCallZ (cloFrom X.env.cells names []) fr js sp E t) := by
  refine ⟨fun pins s σ H Q I h => ?_⟩
  refine wpAny_Call_Name_kw (ld_glob I hg hm ?_ hdb)
  refine PySem.W.callWith_K (h₀ := X.base) I.ok.mod.kin hk (thn (ha.run pos pins s σ H _ I h) fun us s1 ⟨vs, H1, I1, r, ws, hws, q⟩ => ⟨I1.kIn, ?_⟩) he hpl
  obtain ⟨z, pz, Z⟩ := pins_of I1 (cp I1.ok) (fun y hy e => (hfree y hy e).elim (fun z => I1.ok.has _ (.inl z)) fun z => I1.ok.has _ (.inr z)) hfn hws
  have q := q z pz Z.bare
  have hl : us.length = ps.length := by rw [← r.length]; exact F.len _ _ _ _ q
  have hb2 := hb s1 us I1.kIn (by rw [List.append_nil]; exact hl)
  rw [List.append_nil] at hb2
  refine (show wpAny _ _ (call (.ref g) us) _ _ _ from wpAny_call (codeAny_mono (F.run X.A X.stack s1 (pinA H1 z) ⟨us, []⟩ us vs _ E hr (env_pin I1.env0 Z) hb2 r q) fun r s3 hq => ?_))
  cases r with
  | error e => exact False.elim hq
  | ok fl =>
    cases fl with
    | ret u => exact I1.after (ce_pin Z hq)
    | next => exact False.elim hq
    | brk => exact False.elim hq
    | cont => exact False.elim hq
end
end Pf

namespace Pf
open PySem PySem.Spec PyProof.Rows L2 LamX NdefX
section
variable {X : Cx} {pins : List (Addr × Obj)} {σ : L2.St} {H : Hp} {s : Shared}
/-- a lambda's object just made is known from now on -/
theorem inv_lam {F : NF} {body : Expr} {tk : Nat} {pm ctv : Value} (I : Inv X pins σ H s) :
    Inv X pins σ (upd H s.heap.objs.size (LamO s.heap.objs.size F body)) { s with heap := s.heap.push (PySem.W.kla_obj F.name F.qual F.params body F.scope F.cl pm F.c ctv), toks := tk } := by
  refine I.laid (a := s.heap.objs.size) (fun b u e => Heap.get?_push_of_some _ e) (Nat.le_refl _) ?_
  have e : (s.heap.push (PySem.W.kla_obj F.name F.qual F.params body F.scope F.cl pm F.c ctv)).get? s.heap.objs.size = some (PySem.W.kla_obj F.name F.qual F.params body F.scope F.cl pm F.c ctv) := Heap.get?_push_size _ rfl
  exact ⟨⟨pm, ctv, e⟩, ⟨_, e⟩, fun h1 h2 ⟨p, d, q⟩ st => ⟨p, d, st _ q⟩⟩
/-- the words of a lambda made in the frame of X -/
abbrev lamF (X : Cx) (params : Arguments) (scope : Scope) (c : Addr) : NF := ⟨"<lambda>", X.env.qual ++ "<lambda>", params, [], scope, cloFrom X.env.cells scope.names [], c⟩
theorem lam_makeN {T : List NTab} {nm : Nat → Nat → Str} {c P : Addr} {params : Arguments} {body : Expr} {scope : Scope} {pos : Pos} {E : Value → Shared → Prop} {Q : Value → Shared → Prop} (I : Inv X pins σ H s) (TB : TabB X.base X.mg c P) (hcode : X.env.code = .ref c)
    (hm : (P, nm) ∈ T) (hn : nm pos.line pos.col = X.env.qual ++ "<lambda>") (hu : ∀ p ∈ T, p.1 = P → p.2 = nm) (hT : TabsN T H) (hdef : defaultsOf params X.env = ([], [])) (hfree : ∀ y ∈ scope.names, y.2 = .free → ∃ c, X.env.cells.lookup y.1 = some c)
    (h : ∀ (f c2 : Addr) (H1 : Hp) (s2 : Shared), Inv X pins σ H1 s2 → ExtN H H1 → (∀ b, H1 b = none → H b = none) → TabsN T H1 → H f = none → H1 f = some (LamO f (lamF X params scope c2) body) → H1 c2 = some (CodeO c2 (X.env.qual ++ "<lambda>")) → Q (.ref f) s2) :
    wpAny (model X.prog X.w) X.A (eval (.Lambda params body scope pos) X.env) Q E s := by
  obtain ⟨ps, hP, ht, ha⟩ := (show TabN H P nm from hT _ hm)
  refine PySem.W.kla_eval hdef ?_
  have bP : s.heap.BuiltinsAt X.mg P := TB.bm.keeps I.bk
  have hP2 : s.heap.get? P = some { cls := .none, data := .fields ps } := I.hok P _ hP
  cases hc : codeAmong pos ps.toList with
  | none =>
    refine PySem.W.kla_makeFunction (mg := X.mg) (c := c) (P := P) (ps := ps) (closure_ok hfree) I.ok.glob (I.mod.glob.keeps I.bk) hcode (TB.code.keeps I.bk) hP2 ht hc TB.gP bP fun c2 ctv g tk hx hge hlt hrec htb => ?_
    obtain ⟨c3, oc, vs, t, e2, hoc, hd, hv⟩ := hrec
    cases e2
    have nC : H c2 = none := I.hok.fresh hge
    have I1 := inv_table (t' := tk) (more := #[rawInt pos.line, rawInt pos.col, .ref c2]) (h' := g) I hP (fun b o hb e => hx b o hb e) htb hge ⟨oc, vs, t, hoc, hd, hv⟩
    have hE : ExtN H (upd (upd H P (.tbl (ps ++ #[rawInt pos.line, rawInt pos.col, .ref c2]))) c2 (CodeO c2 (X.env.qual ++ "<lambda>"))) := fun b o e n => by
      rw [upd_ne (ne_of_none e nC), upd_ne (fun z => n ps (Option.some.inj (e.symm.trans (by rw [z]; exact hP))))]
      exact e
    have eL : (ps ++ #[rawInt pos.line, rawInt pos.col, .ref c2]).toList = ps.toList ++ [rawInt pos.line, rawInt pos.col, .ref c2] := by simp
    have T1 : TabsN T (upd (upd H P (.tbl (ps ++ #[rawInt pos.line, rawInt pos.col, .ref c2]))) c2 (CodeO c2 (X.env.qual ++ "<lambda>"))) := fun p hp => by
      by_cases hb : p.1 = P
      · rw [hu p hp hb, hb]
        refine ⟨_, by rw [upd_ne (ne_of_none hP nC), upd_same], by rw [eL]; exact PySem.TriplesOk_snoc _ _ _ _ ht, fun p2 cv hcv => ?_⟩
        rw [eL] at hcv
        rcases among_app2 _ ht hcv with z | ⟨z, z1, z2⟩
        · obtain ⟨c0, e1, e2⟩ := ha p2 cv z
          exact ⟨c0, e1, hE _ _ e2 codeO_ne⟩
        · refine ⟨c2, z, ?_⟩
          rw [← z1, ← z2, hn]
          exact upd_same
      · obtain ⟨ps2, a1, a2, a3⟩ := hT p hp
        refine ⟨ps2, by rw [upd_ne (ne_of_none a1 nC), upd_ne hb]; exact a1, a2, fun p2 cv hcv => ?_⟩
        obtain ⟨c0, e1, e2⟩ := a3 p2 cv hcv
        exact ⟨c0, e1, hE _ _ e2 codeO_ne⟩
    have nF := I1.hok.fresh (Nat.le_refl _)
    have I2 := inv_lam (F := lamF X params scope c2) (body := body) (tk := tk) (pm := (X.mg "__name__").getD .none) (ctv := ctv) I1
    refine h g.objs.size c2 _ _ I2 (fun b o e n => ?_) (fun b e => upd_none (upd_none (upd_none e))) (T1.ext fun b o e => ?_) (I.hok.fresh (Nat.le_trans hge (Nat.le_of_lt hlt))) upd_same ?_
    · have e1 := hE b o e n
      exact (upd_ne (ne_of_none e1 nF)).trans e1
    · exact (upd_ne (ne_of_none e nF)).trans e
    · exact (upd_ne (Nat.ne_of_lt hlt)).trans upd_same
  | some cv =>
    obtain ⟨c2, e, hco⟩ := ha pos cv hc
    subst e
    rw [hn] at hco
    refine PySem.W.kla_makeFunctionHit (mg := X.mg) (c := c) (P := P) (ps := ps) (closure_ok hfree) I.ok.glob (I.mod.glob.keeps I.bk) hcode (TB.code.keeps I.bk) hP2 ht hc bP fun ctv g tk hx hsz => ?_
    have I1 : Inv X pins σ H { s with heap := g, toks := tk } := I.kept hx
    have nF : H g.objs.size = none := I1.hok.fresh (Nat.le_refl _)
    have I2 := inv_lam (F := lamF X params scope c2) (body := body) (tk := tk) (pm := (X.mg "__name__").getD .none) (ctv := ctv) I1
    refine h g.objs.size c2 _ _ I2 (fun b o e n => ?_) (fun b e => upd_none e) (hT.ext fun b o e => ?_) nF upd_same ?_
    · exact (upd_ne (ne_of_none e nF)).trans e
    · exact (upd_ne (ne_of_none e nF)).trans e
    · exact (upd_ne (ne_of_none hco nF)).trans hco
theorem pe_lam {T : List NTab} {nm : Nat → Nat → Str} {c P : Addr} {params : Arguments} {body : Expr} {scope : Scope} {pos : Pos} (TB : TabB X.base X.mg c P) (hcode : X.env.code = .ref c) (hm : (P, nm) ∈ T) (hn : nm pos.line pos.col = X.env.qual ++ "<lambda>") (hu : ∀ p ∈ T, p.1 = P → p.2 = nm)
    (hfree : ∀ y ∈ scope.names, y.2 = .free → X.env.scope.names.lookup y.1 = some .cell ∨ X.env.scope.names.lookup y.1 = some .free) (hdef : defaultsOf params X.env = ([], [])) :
    PE X (.Lambda params body scope pos) (tLamV T body (lamF X params scope)) := by
  refine ⟨fun pins s σ H Q I h => ?_⟩
  obtain ⟨hT, h⟩ := h
  refine lam_makeN I TB hcode hm hn hu hT hdef (fun y hy e => (hfree y hy e).elim (fun z => I.ok.has _ (.inl z)) fun z => I.ok.has _ (.inr z)) fun f c2 H1 s1 I1 eN nn T1 f0 f1 c1 => ?_
  exact ⟨.ref f, H1, I1, rfl, h f c2 H1 eN nn T1 f0 f1 c1⟩
end
end Pf

namespace Pf
open PySem PySem.Spec PyProof.Rows L2 LamX NdefX
/-- all stays but tables of code objects, functions and cells -/
def Ext2 (H H2 : Hp) : Prop := ∀ b o, H b = some o → (∀ ps, o ≠ .tbl ps) → (∀ ob φ, o ≠ .frz ob (.ext φ)) → H2 b = some o
theorem Ext2.ofN {H H2 : Hp} (e : ExtN H H2) : Ext2 H H2 := fun b o h n _ => e b o h n
theorem Ext2.of {H H2 : Hp} (e : Same H H2) : Ext2 H H2 := fun b o h _ _ => e b o h
theorem Ext2.trans {H H1 H2 : Hp} (a : Ext2 H H1) (b : Ext2 H1 H2) : Ext2 H H2 := fun c o h n m => b c o (a c o h n m) n m
theorem ext2_unp {z : Pz} {H : Hp} (p : Pinned z H) : Ext2 H (unpA H z) := fun b o e _ n => (unp_off (p.ne e n)).trans e
theorem tabs_unp {T : List NTab} {z : Pz} {H : Hp} (p : Pinned z H) (t : TabsN T H) : TabsN T (unpA H z) := fun q hq => by
  obtain ⟨ps, h1, h2, h3⟩ := t q hq
  refine ⟨ps, (unp_off (p.ne h1 (fun _ _ z => nomatch z))).trans h1, h2, fun pos cv hc => ?_⟩
  obtain ⟨c, e1, e2⟩ := h3 pos cv hc
  exact ⟨c, e1, (unp_off (p.ne e2 (fun _ _ z => nomatch z))).trans e2⟩
theorem Ext2.ty {K : PySem.W.Frag} {H H2 : Hp} (b : Ext2 H H2) {x : V} {t : Value} (ty : TyX K H x t) : TyX K H2 x t := by
  cases ty with
  | base c =>
    refine .base ?_
    cases c with
    | non => exact .non
    | bl y => exact .bl y
    | int y => exact .int y
    | str y => exact .str y
    | flt y => exact .flt y
    | lst e => exact .lst (b _ _ e (fun _ z => nomatch z) fun _ _ z => nomatch z)
    | frz e => exact .frz (b _ _ e (fun _ z => nomatch z) fun _ _ z => nomatch z)
    | tup e => exact .tup (b _ _ e (fun _ z => nomatch z) fun _ _ z => nomatch z)
    | dK e => exact .dK (b _ _ e (fun _ z => nomatch z) fun _ _ z => nomatch z)
    | dT e => exact .dT (b _ _ e (fun _ z => nomatch z) fun _ _ z => nomatch z)
    | ins e cl ha hn htk hm => exact .ins (b _ _ e (fun _ z => nomatch z) fun _ _ z => nomatch z) cl ha hn htk hm
  | byt c => exact .byt c
  | set e => exact .set (b _ _ e (fun _ z => nomatch z) fun _ _ z => nomatch z)
  | kList e c => exact .kList e c
  | kTuple e c => exact .kTuple e c
  | kDict e c => exact .kDict e c
  | fTuple e => exact .fTuple (b _ _ e (fun _ z => nomatch z) fun _ _ z => nomatch z)
  | fDict e => exact .fDict (b _ _ e (fun _ z => nomatch z) fun _ _ z => nomatch z)
theorem Ext2.tups {H H2 : Hp} (b : Ext2 H H2) : Tups H H2 := fun q xs h => by
  rcases h with h | ⟨o, h⟩
  · exact .inl (b _ _ h (fun _ z => nomatch z) fun _ _ z => nomatch z)
  · exact .inr ⟨o, b _ _ h (fun _ z => nomatch z) fun _ _ z => nomatch z⟩
theorem Ext2.stay {K : PySem.W.Frag} {H H2 : Hp} (b : Ext2 H H2) : Stay K H H2 := ⟨b.tups, fun q o xs h => b _ _ h (fun _ z => (nomatch z)) (fun _ _ z => (nomatch z)), fun x t h => b.ty h⟩
theorem Ext2.lst {H H2 : Hp} (b : Ext2 H H2) {q : Addr} {xs : List V} (h : H q = some (.lst xs)) : H2 q = some (.lst xs) := b _ _ h (fun _ z => nomatch z) fun _ _ z => nomatch z
theorem Ext2.dK {H H2 : Hp} (b : Ext2 H H2) {q : Addr} {xs : List (Key × V)} (h : H q = some (.dK xs)) : H2 q = some (.dK xs) := b _ _ h (fun _ z => nomatch z) fun _ _ z => nomatch z
end Pf

namespace Pf
open PySem PySem.Spec PyProof.Rows L2 LamX NdefX
/-- a def of the text whose code object is known -/
structure FunC (K : PySem.W.Frag) (x qual : Str) (st : Stmt) (f : Addr) (fd : FuncData) (c : Addr) : Prop where
  ex : ∃ (oc : Value) (od : Option Addr) (kV doc pm : Value) (an : Option Addr) (ct : Value) (osl : Array (Option Value)),
    fd = PySem.W.fnOf x qual (defArgs st) (defBody st) (defScope st) .none kV doc pm an (.ref c) ct ∧ K.lookup f = some ⟨oc, od, .func fd, osl⟩ ∧ PySem.W.codeIn K (.ref c) qual = true
section
variable {P : Program} {w : World} {K : PySem.W.Frag} {mg : Str → Option Value} {base : Heap}
theorem FunC.ok {x qual : Str} {st : Stmt} {f c : Addr} {fd : FuncData} {N ps : List Str} {k : Nat} {sp : Sp} (F : FunC K x qual st f fd c) (S : FnScope N ps (defScope st)) (len : ∀ vs H Q E, sp vs H Q E → vs.length = ps.length)
    (hbody : ∀ (A : Around) (outer : List Env) (s : Shared) (H : Hp) (vs : List V) (Q : VK) (E : XK), Room k (A.deeper (envOfC qual (defScope st) s.heap.objs.size f (.ref c))) → sp vs H Q E →
      ∃ t, PSs (cxOf CX0 P w K mg base N qual (defScope st) f (.ref c) A outer s H E).nox (defBody st) t ∧ t { nx := fun _ H2 => Q .non H2, rt := Q } (start N vs) H) : FnOk P w K mg base CX0 (k + 1) f fd ps sp := by
  obtain ⟨oc, od, kV, doc, pm, an, ct, osl, rfl, lk, hcd⟩ := F.ex
  refine fn_of lk hcd S len fun A outer s H vs Q E hr hsp => ?_
  obtain ⟨t, h, q⟩ := hbody A outer s H vs Q E hr hsp
  exact ⟨t, h.nox, q⟩
theorem funC_mk {x qual : Str} {st : Stmt} {f c : Addr} {oc : Value} {od an : Option Addr} {osl : Array (Option Value)} {kV doc pm ct : Value} (l : K.lookup f = some ⟨oc, od, .func (PySem.W.fnOf x qual (defArgs st) (defBody st) (defScope st) .none kV doc pm an (.ref c) ct), osl⟩)
    (q : PySem.W.codeIn K (.ref c) qual = true) : FunC K x qual st f (PySem.W.fnOf x qual (defArgs st) (defBody st) (defScope st) .none kV doc pm an (.ref c) ct) c := ⟨⟨oc, od, kV, doc, pm, an, ct, osl, rfl, l, q⟩⟩
end
section
variable {X : Cx} {k : Nat} {x : Str} {E : XK} {t : TA} {e : Expr} {p pos lpos : Pos}
/-- g(e, lambda ..) -/
theorem pe_callZ2 {params : Arguments} {body : Expr} {scope : Scope} {g : Addr} {fd : FuncData} {ps : List Str} {sp : Sp} (fr : List Str) (js : List Nat) (F : FnOk X.prog X.w X.K X.mg X.base CX0 k g fd ps sp) (hr : Room k X.A) (hg : Gl X x) (hm : X.mg x = some (.ref g)) (hk : PySem.W.keepIn X.K (.ref g) = true) (hb : Binds X.K fd ps [])
    (nd : ndefB X.env.scope scope fr = true) (hjs : js.map (fun j => X.N[j]?) = fr.map some) (hfn : ∀ y, X.fn y = true) (ha : PA X [e, .Lambda params body scope lpos] t) (hdb : (x == ("__debug__" : Str)) = false := by decide)
    (he : starEach [e, .Lambda params body scope lpos] X.env = (false, eval e X.env) :: starEach [.Lambda params body scope lpos] X.env := by rfl) (hpl : (backTo pos (starEach [.Lambda params body scope lpos] X.env)).any (·.1) = false := by rfl) :
    PE X (.Call (.Name x p) [e, .Lambda params body scope lpos] [] pos) (tCallZ (cloFrom X.env.cells scope.names []) fr js sp E0 t) :=
  pe_callZ (E := E0) F hr hg hm hk hb (fun _ _ _ _ _ _ _ z => z.elim) (fun ok => Caps.made ok (ndef_free nd) (ndef_fr nd) hjs) (ndef_free nd) hfn ha hdb he hpl
theorem pe_lam2 {T : List NTab} {q : Str} {c P : Addr} {params : Arguments} {body : Expr} {scope : Scope} {pos : Pos} (fr : List Str) (TB : TabB X.base X.mg c P) (hcode : X.env.code = .ref c) (hm : (P, fun _ _ => q) ∈ T) (hn : q = X.env.qual ++ "<lambda>") (hu : ∀ p ∈ T, p.1 = P → p.2 = fun _ _ => q)
    (nd : ndefB X.env.scope scope fr = true) (hdef : defaultsOf params X.env = ([], [])) : PE X (.Lambda params body scope pos) (tLamV T body (lamF X params scope)) := pe_lam TB hcode hm hn hu (ndef_free nd) hdef
end
end Pf

namespace Pf
open PySem PySem.Spec PyProof.Rows L2
def clsBody (s : Stmt) : List Stmt := match s with
  | .ClassDef _ _ _ b _ _ _ _ _ _ _ => b
  | _ => []
def topS (i : Nat) : Stmt := PySem.Challenge.pw_shutnames_k15_whole_terms_taken_apart.main.body.getD i (.Pass ⟨0, 0, 0, 0⟩)
abbrev s_is_word : Stmt := topS 10
abbrev N_is_word : List Str := ["thing", "letters", "sign"]
theorem sc_is_word : FnScope N_is_word ["thing", "letters"] (defScope s_is_word) := ⟨rfl, rfl, rfl, by decide +kernel, rfl, by decide +kernel, by decide +kernel⟩
abbrev s_is_name : Stmt := topS 11
abbrev N_is_name : List Str := ["thing"]
theorem sc_is_name : FnScope N_is_name ["thing"] (defScope s_is_name) := ⟨rfl, rfl, rfl, by decide +kernel, rfl, by decide +kernel, by decide +kernel⟩
abbrev s_is_hole : Stmt := topS 12
abbrev N_is_hole : List Str := ["thing"]
theorem sc_is_hole : FnScope N_is_hole ["thing"] (defScope s_is_hole) := ⟨rfl, rfl, rfl, by decide +kernel, rfl, by decide +kernel, by decide +kernel⟩
abbrev s_is_number : Stmt := topS 13
abbrev N_is_number : List Str := ["thing"]
theorem sc_is_number : FnScope N_is_number ["thing"] (defScope s_is_number) := ⟨rfl, rfl, rfl, by decide +kernel, rfl, by decide +kernel, by decide +kernel⟩
abbrev s_rises : Stmt := topS 14
abbrev N_rises : List Str := ["things", "at"]
theorem sc_rises : FnScope N_rises ["things"] (defScope s_rises) := ⟨rfl, rfl, rfl, by decide +kernel, rfl, by decide +kernel, by decide +kernel⟩
abbrev s_within : Stmt := topS 16
abbrev N_within : List Str := ["part"]
theorem sc_within : FnScope N_within ["part"] (defScope s_within) := ⟨rfl, rfl, rfl, by decide +kernel, rfl, by decide +kernel, by decide +kernel⟩
abbrev s_with_parts : Stmt := topS 17
abbrev N_with_parts : List Str := ["part", "told"]
theorem sc_with_parts : FnScope N_with_parts ["part", "told"] (defScope s_with_parts) := ⟨rfl, rfl, rfl, by decide +kernel, rfl, by decide +kernel, by decide +kernel⟩
abbrev s_rows_of : Stmt := topS 18
abbrev N_rows_of : List Str := ["term", "rows", "waiting", "part", "above", "lower", "inner"]
theorem sc_rows_of : FnScope N_rows_of ["term"] (defScope s_rows_of) := ⟨rfl, rfl, rfl, by decide +kernel, rfl, by decide +kernel, by decide +kernel⟩
abbrev s_parts_in : Stmt := topS 19
abbrev N_parts_in : List Str := ["term", "part", "_"]
theorem sc_parts_in : FnScope N_parts_in ["term"] (defScope s_parts_in) := ⟨rfl, rfl, rfl, by decide +kernel, rfl, by decide +kernel, by decide +kernel⟩
abbrev s_places_in : Stmt := topS 20
abbrev N_places_in : List Str := ["term", "places", "waiting", "place", "part", "at", "inner"]
theorem sc_places_in : FnScope N_places_in ["term"] (defScope s_places_in) := ⟨rfl, rfl, rfl, by decide +kernel, rfl, by decide +kernel, by decide +kernel⟩
abbrev s_rebuilt : Stmt := topS 21
abbrev N_rebuilt : List Str := ["parts", "make", "done", "at", "told", "_"]
theorem sc_rebuilt : FnScope N_rebuilt ["parts", "make"] (defScope s_rebuilt) := ⟨rfl, rfl, rfl, by decide +kernel, rfl, by decide +kernel, by decide +kernel⟩
abbrev s_changed : Stmt := topS 22
abbrev N_changed : List Str := ["term", "make", "parts"]
theorem sc_changed : FnScope N_changed ["term", "make"] (defScope s_changed) := ⟨rfl, rfl, rfl, by decide +kernel, rfl, by decide +kernel, by decide +kernel⟩
abbrev s_is_move : Stmt := topS 24
abbrev N_is_move : List Str := ["thing"]
theorem sc_is_move : FnScope N_is_move ["thing"] (defScope s_is_move) := ⟨rfl, rfl, rfl, by decide +kernel, rfl, by decide +kernel, by decide +kernel⟩
abbrev s_is_turn : Stmt := topS 25
abbrev N_is_turn : List Str := ["thing", "movers", "move", "name", "_", "to"]
theorem sc_is_turn : FnScope N_is_turn ["thing"] (defScope s_is_turn) := ⟨rfl, rfl, rfl, by decide +kernel, rfl, by decide +kernel, by decide +kernel⟩
abbrev s_check_turn : Stmt := topS 26
abbrev N_check_turn : List Str := ["thing"]
theorem sc_check_turn : FnScope N_check_turn ["thing"] (defScope s_check_turn) := ⟨rfl, rfl, rfl, by decide +kernel, rfl, by decide +kernel, by decide +kernel⟩
abbrev s_turn_from : Stmt := topS 27
abbrev N_turn_from : List Str := ["moves", "name", "to"]
theorem sc_turn_from : FnScope N_turn_from ["moves"] (defScope s_turn_from) := ⟨rfl, rfl, rfl, by decide +kernel, rfl, by decide +kernel, by decide +kernel⟩
abbrev s_joined : Stmt := topS 28
abbrev N_joined : List Str := ["first", "second", "moves", "name", "to"]
theorem sc_joined : FnScope N_joined ["first", "second"] (defScope s_joined) := ⟨rfl, rfl, rfl, by decide +kernel, rfl, by decide +kernel, by decide +kernel⟩
abbrev s_is_part : Stmt := topS 30
abbrev N_is_part : List Str := ["thing"]
theorem sc_is_part : FnScope N_is_part ["thing"] (defScope s_is_part) := ⟨rfl, rfl, rfl, by decide +kernel, rfl, by decide +kernel, by decide +kernel⟩
abbrev s_is_term : Stmt := topS 31
abbrev N_is_term : List Str := ["thing", "waiting", "part"]
theorem sc_is_term : FnScope N_is_term ["thing"] (defScope s_is_term) := ⟨rfl, rfl, rfl, by decide +kernel, rfl, by decide +kernel, by decide +kernel⟩
abbrev s_check_term : Stmt := topS 32
abbrev N_check_term : List Str := ["thing"]
theorem sc_check_term : FnScope N_check_term ["thing"] (defScope s_check_term) := ⟨rfl, rfl, rfl, by decide +kernel, rfl, by decide +kernel, by decide +kernel⟩
abbrev s_parts_of : Stmt := topS 33
abbrev N_parts_of : List Str := ["term"]
theorem sc_parts_of : FnScope N_parts_of ["term"] (defScope s_parts_of) := ⟨rfl, rfl, rfl, by decide +kernel, rfl, by decide +kernel, by decide +kernel⟩
abbrev s_levels_of : Stmt := topS 34
abbrev N_levels_of : List Str := ["term", "place"]
theorem sc_levels_of : FnScope N_levels_of ["term"] (defScope s_levels_of) := ⟨rfl, rfl, rfl, by decide +kernel, rfl, by decide +kernel, by decide +kernel⟩
abbrev s_names_at : Stmt := topS 35
abbrev N_names_at : List Str := ["part", "name", "_"]
theorem sc_names_at : FnScope N_names_at ["part"] (defScope s_names_at) := ⟨rfl, rfl, rfl, by decide +kernel, rfl, by decide +kernel, by decide +kernel⟩
abbrev s_names_in : Stmt := topS 36
abbrev N_names_in : List Str := ["term", "part", "name"]
theorem sc_names_in : FnScope N_names_in ["term"] (defScope s_names_in) := ⟨rfl, rfl, rfl, by decide +kernel, rfl, by decide +kernel, by decide +kernel⟩
abbrev s_holes_within : Stmt := topS 37
abbrev N_holes_within : List Str := ["term", "part"]
theorem sc_holes_within : FnScope N_holes_within ["term"] (defScope s_holes_within) := ⟨rfl, rfl, rfl, by decide +kernel, rfl, by decide +kernel, by decide +kernel⟩
abbrev s_holes_in : Stmt := topS 38
abbrev N_holes_in : List Str := ["term"]
theorem sc_holes_in : FnScope N_holes_in ["term"] (defScope s_holes_in) := ⟨rfl, rfl, rfl, by decide +kernel, rfl, by decide +kernel, by decide +kernel⟩
abbrev s_places_of : Stmt := topS 39
abbrev N_places_of : List Str := ["term"]
theorem sc_places_of : FnScope N_places_of ["term"] (defScope s_places_of) := ⟨rfl, rfl, rfl, by decide +kernel, rfl, by decide +kernel, by decide +kernel⟩
abbrev s_parts_down : Stmt := topS 40
abbrev N_parts_down : List Str := ["term", "place", "way", "at", "parts"]
theorem sc_parts_down : FnScope N_parts_down ["term", "place"] (defScope s_parts_down) := ⟨rfl, rfl, rfl, by decide +kernel, rfl, by decide +kernel, by decide +kernel⟩
abbrev s_part_at : Stmt := topS 41
abbrev N_part_at : List Str := ["term", "place"]
theorem sc_part_at : FnScope N_part_at ["term", "place"] (defScope s_part_at) := ⟨rfl, rfl, rfl, by decide +kernel, rfl, by decide +kernel, by decide +kernel⟩
abbrev s_put_down : Stmt := topS 42
abbrev N_put_down : List Str := ["term", "place", "part", "way", "whole", "at", "above", "parts"]
theorem sc_put_down : FnScope N_put_down ["term", "place", "part"] (defScope s_put_down) := ⟨rfl, rfl, rfl, by decide +kernel, rfl, by decide +kernel, by decide +kernel⟩
abbrev s_put_at : Stmt := topS 43
abbrev N_put_at : List Str := ["term", "place", "part"]
theorem sc_put_at : FnScope N_put_at ["term", "place", "part"] (defScope s_put_at) := ⟨rfl, rfl, rfl, by decide +kernel, rfl, by decide +kernel, by decide +kernel⟩
abbrev s_turned_part : Stmt := topS 44
abbrev N_turned_part : List Str := ["moves", "part", "told"]
theorem sc_turned_part : FnScope N_turned_part ["moves", "part", "told"] (defScope s_turned_part) := ⟨rfl, rfl, rfl, by decide +kernel, rfl, by decide +kernel, by decide +kernel⟩
abbrev s_turned : Stmt := topS 45
abbrev N_turned : List Str := ["turn", "term", "moves"]
theorem sc_turned : FnScope N_turned ["turn", "term"] (defScope s_turned) := ⟨rfl, rfl, rfl, by decide +kernel, rfl, by decide +kernel, by decide +kernel⟩
abbrev s_turned_term : Stmt := topS 46
abbrev N_turned_term : List Str := ["turn", "term"]
theorem sc_turned_term : FnScope N_turned_term ["turn", "term"] (defScope s_turned_term) := ⟨rfl, rfl, rfl, by decide +kernel, rfl, by decide +kernel, by decide +kernel⟩
abbrev s__law_mixed : Stmt := topS 48
abbrev N__law_mixed : List Str := ["_law_cell", "_law_k", "_law_number"]
theorem sc__law_mixed : FnScope N__law_mixed ["_law_cell", "_law_k"] (defScope s__law_mixed) := ⟨rfl, rfl, rfl, by decide +kernel, rfl, by decide +kernel, by decide +kernel⟩
abbrev s__law_pile : Stmt := topS 49
abbrev N__law_pile : List Str := ["_law_script", "_law_k", "_law_cell", "_law_digits"]
theorem sc__law_pile : FnScope N__law_pile ["_law_script", "_law_k"] (defScope s__law_pile) := ⟨rfl, rfl, rfl, by decide +kernel, rfl, by decide +kernel, by decide +kernel⟩
abbrev s__law_take : Stmt := topS 50
abbrev N__law_take : List Str := ["_law_pile_here", "_law_many", "_law_digit"]
theorem sc__law_take : FnScope N__law_take ["_law_pile_here", "_law_many"] (defScope s__law_take) := ⟨rfl, rfl, rfl, by decide +kernel, rfl, by decide +kernel, by decide +kernel⟩
abbrev s__law_name : Stmt := topS 51
abbrev N__law_name : List Str := ["_law_pile_here", "_law_kind", "_law_letters", "_law_name_here", "_law_k"]
theorem sc__law_name : FnScope N__law_name ["_law_pile_here"] (defScope s__law_name) := ⟨rfl, rfl, rfl, by decide +kernel, rfl, by decide +kernel, by decide +kernel⟩
abbrev s__law_names : Stmt := topS 52
abbrev N__law_names : List Str := ["_law_pile_here", "_law_many", "_law_found", "_law_k", "_law_name_here", "_law_one"]
theorem sc__law_names : FnScope N__law_names ["_law_pile_here", "_law_many"] (defScope s__law_names) := ⟨rfl, rfl, rfl, by decide +kernel, rfl, by decide +kernel, by decide +kernel⟩
abbrev s__law_order : Stmt := topS 53
abbrev N__law_order : List Str := ["_law_pile_here", "_law_some", "_law_left", "_law_found"]
theorem sc__law_order : FnScope N__law_order ["_law_pile_here", "_law_some"] (defScope s__law_order) := ⟨rfl, rfl, rfl, by decide +kernel, rfl, by decide +kernel, by decide +kernel⟩
abbrev s__law_turn : Stmt := topS 54
abbrev N__law_turn : List Str := ["_law_pile_here", "_law_names_here", "_law_kind", "_law_others", "_law_one", "_law_two", "_law_last_one", "_law_name_here", "_law_to_here"]
theorem sc__law_turn : FnScope N__law_turn ["_law_pile_here", "_law_names_here"] (defScope s__law_turn) := ⟨rfl, rfl, rfl, by decide +kernel, rfl, by decide +kernel, by decide +kernel⟩
abbrev s__law_to : Stmt := topS 55
abbrev N__law_to : List Str := ["_law_turn_here", "_law_name_here", "_law_one", "_law_to_here"]
theorem sc__law_to : FnScope N__law_to ["_law_turn_here", "_law_name_here"] (defScope s__law_to) := ⟨rfl, rfl, rfl, by decide +kernel, rfl, by decide +kernel, by decide +kernel⟩
abbrev s__law_holes : Stmt := topS 56
abbrev N__law_holes : List Str := ["_law_pile_here", "_law_many", "_law_letters", "_law_found", "_law_k", "_law_hole", "_law_j", "_law_one"]
theorem sc__law_holes : FnScope N__law_holes ["_law_pile_here", "_law_many"] (defScope s__law_holes) := ⟨rfl, rfl, rfl, by decide +kernel, rfl, by decide +kernel, by decide +kernel⟩
abbrev s__law_sign : Stmt := topS 57
abbrev N__law_sign : List Str := ["_law_pile_here", "_law_names_here"]
theorem sc__law_sign : FnScope N__law_sign ["_law_pile_here", "_law_names_here"] (defScope s__law_sign) := ⟨rfl, rfl, rfl, by decide +kernel, rfl, by decide +kernel, by decide +kernel⟩
abbrev s__law_term : Stmt := topS 58
abbrev N__law_term : List Str := ["_law_pile_here", "_law_names_here", "_law_some", "_law_depth", "_law_kind", "_law_leaf", "_law_many", "_law_parts_here", "_law_k"]
theorem sc__law_term : FnScope N__law_term ["_law_pile_here", "_law_names_here", "_law_some", "_law_depth"] (defScope s__law_term) := ⟨rfl, rfl, rfl, by decide +kernel, rfl, by decide +kernel, by decide +kernel⟩
abbrev s__law_any : Stmt := topS 59
abbrev N__law_any : List Str := ["_law_pile_here", "_law_names_here", "_law_some", "_law_kind", "_law_term_here", "_law_k", "_law_parts_here"]
theorem sc__law_any : FnScope N__law_any ["_law_pile_here", "_law_names_here", "_law_some"] (defScope s__law_any) := ⟨rfl, rfl, rfl, by decide +kernel, rfl, by decide +kernel, by decide +kernel⟩
abbrev s__law_in : Stmt := topS 60
abbrev N__law_in : List Str := ["_law_term_here"]
theorem sc__law_in : FnScope N__law_in ["_law_term_here"] (defScope s__law_in) := ⟨rfl, rfl, rfl, by decide +kernel, rfl, by decide +kernel, by decide +kernel⟩
abbrev s__law_sums : Stmt := topS 62
abbrev N__law_sums : List Str := ["_law_term_here", "_law_inside", "_law_names_here", "_law_holes_here", "_law_part", "_law_own", "_law_every", "_law_k", "_law_one", "_law_to_here", "_law_place"]
theorem sc__law_sums : FnScope N__law_sums ["_law_term_here"] (defScope s__law_sums) := ⟨rfl, rfl, rfl, by decide +kernel, rfl, by decide +kernel, by decide +kernel⟩
abbrev s__law_put_right : Stmt := topS 63
abbrev N__law_put_right : List Str := ["_law_term_here", "_law_place", "_law_further", "_law_told", "_law_deep", "_law_other", "_law_short", "_law_below"]
theorem sc__law_put_right : FnScope N__law_put_right ["_law_term_here", "_law_place", "_law_further"] (defScope s__law_put_right) := ⟨rfl, rfl, rfl, by decide +kernel, rfl, by decide +kernel, by decide +kernel⟩
abbrev s_law : Stmt := topS 64
abbrev N_law : List Str := ["_law_script", "_law_k", "_law_pile_here", "_law_names_here", "_law_some", "_law_term_here", "_law_further", "_law_turn_here", "_law_places", "_law_turned", "_law_place", "_law_part", "_law_due", "_law_name_here"]
theorem sc_law : FnScope N_law ["_law_script"] (defScope s_law) := ⟨rfl, rfl, rfl, by decide +kernel, rfl, by decide +kernel, by decide +kernel⟩
abbrev s_NoPlace___init__ : Stmt := (clsBody (topS 4)).getD 0 (.Pass ⟨0, 0, 0, 0⟩)
abbrev N_NoPlace___init__ : List Str := ["self", "place"]
theorem sc_NoPlace___init__ : FnScope N_NoPlace___init__ ["self", "place"] (defScope s_NoPlace___init__) := ⟨rfl, rfl, rfl, by decide +kernel, rfl, by decide +kernel, by decide +kernel⟩
structure Ad where
  f_is_word : Addr
  d_is_word : FuncData
  f_is_name : Addr
  d_is_name : FuncData
  f_is_hole : Addr
  d_is_hole : FuncData
  f_is_number : Addr
  d_is_number : FuncData
  f_rises : Addr
  d_rises : FuncData
  f_within : Addr
  d_within : FuncData
  f_with_parts : Addr
  d_with_parts : FuncData
  f_rows_of : Addr
  d_rows_of : FuncData
  f_parts_in : Addr
  d_parts_in : FuncData
  f_places_in : Addr
  d_places_in : FuncData
  f_rebuilt : Addr
  d_rebuilt : FuncData
  f_changed : Addr
  d_changed : FuncData
  f_is_move : Addr
  d_is_move : FuncData
  f_is_turn : Addr
  d_is_turn : FuncData
  f_check_turn : Addr
  d_check_turn : FuncData
  f_turn_from : Addr
  d_turn_from : FuncData
  f_joined : Addr
  d_joined : FuncData
  f_is_part : Addr
  d_is_part : FuncData
  f_is_term : Addr
  d_is_term : FuncData
  f_check_term : Addr
  d_check_term : FuncData
  f_parts_of : Addr
  d_parts_of : FuncData
  f_levels_of : Addr
  d_levels_of : FuncData
  f_names_at : Addr
  d_names_at : FuncData
  f_names_in : Addr
  d_names_in : FuncData
  f_holes_within : Addr
  d_holes_within : FuncData
  f_holes_in : Addr
  d_holes_in : FuncData
  f_places_of : Addr
  d_places_of : FuncData
  f_parts_down : Addr
  d_parts_down : FuncData
  f_part_at : Addr
  d_part_at : FuncData
  f_put_down : Addr
  d_put_down : FuncData
  f_put_at : Addr
  d_put_at : FuncData
  f_turned_part : Addr
  d_turned_part : FuncData
  f_turned : Addr
  d_turned : FuncData
  f_turned_term : Addr
  d_turned_term : FuncData
  f__law_mixed : Addr
  d__law_mixed : FuncData
  f__law_pile : Addr
  d__law_pile : FuncData
  f__law_take : Addr
  d__law_take : FuncData
  f__law_name : Addr
  d__law_name : FuncData
  f__law_names : Addr
  d__law_names : FuncData
  f__law_order : Addr
  d__law_order : FuncData
  f__law_turn : Addr
  d__law_turn : FuncData
  f__law_to : Addr
  d__law_to : FuncData
  f__law_holes : Addr
  d__law_holes : FuncData
  f__law_sign : Addr
  d__law_sign : FuncData
  f__law_term : Addr
  d__law_term : FuncData
  f__law_any : Addr
  d__law_any : FuncData
  f__law_in : Addr
  d__law_in : FuncData
  f__law_sums : Addr
  d__law_sums : FuncData
  f__law_put_right : Addr
  d__law_put_right : FuncData
  f_law : Addr
  d_law : FuncData
  f_NoPlace___init__ : Addr
  d_NoPlace___init__ : FuncData
  c_changed : Addr
  p_changed : Addr
  c_turned : Addr
  p_turned : Addr
  f_ShutError : Addr
  f_NoTurn : Addr
  f_NoTerm : Addr
  f_NoPlace : Addr
  t_SMALL_LETTERS : Tok
  t_GREAT_LETTERS : Tok
  t_FIGURES : Tok
  t_MOST_SIGNS : Tok
structure Txt (K : PySem.W.Frag) (mg : Str → Option Value) (a : Ad) : Prop where
  F_is_word : Fun K "is_word" "is_word" s_is_word a.f_is_word a.d_is_word
  g_is_word : mg "is_word" = some (.ref a.f_is_word)
  b_is_word : Binds K a.d_is_word ["thing", "letters"] []
  F_is_name : Fun K "is_name" "is_name" s_is_name a.f_is_name a.d_is_name
  g_is_name : mg "is_name" = some (.ref a.f_is_name)
  b_is_name : Binds K a.d_is_name ["thing"] []
  F_is_hole : Fun K "is_hole" "is_hole" s_is_hole a.f_is_hole a.d_is_hole
  g_is_hole : mg "is_hole" = some (.ref a.f_is_hole)
  b_is_hole : Binds K a.d_is_hole ["thing"] []
  F_is_number : Fun K "is_number" "is_number" s_is_number a.f_is_number a.d_is_number
  g_is_number : mg "is_number" = some (.ref a.f_is_number)
  b_is_number : Binds K a.d_is_number ["thing"] []
  F_rises : Fun K "rises" "rises" s_rises a.f_rises a.d_rises
  g_rises : mg "rises" = some (.ref a.f_rises)
  b_rises : Binds K a.d_rises ["things"] []
  F_within : Fun K "within" "within" s_within a.f_within a.d_within
  g_within : mg "within" = some (.ref a.f_within)
  b_within : Binds K a.d_within ["part"] []
  F_with_parts : Fun K "with_parts" "with_parts" s_with_parts a.f_with_parts a.d_with_parts
  g_with_parts : mg "with_parts" = some (.ref a.f_with_parts)
  b_with_parts : Binds K a.d_with_parts ["part", "told"] []
  F_rows_of : Fun K "rows_of" "rows_of" s_rows_of a.f_rows_of a.d_rows_of
  g_rows_of : mg "rows_of" = some (.ref a.f_rows_of)
  b_rows_of : Binds K a.d_rows_of ["term"] []
  F_parts_in : Fun K "parts_in" "parts_in" s_parts_in a.f_parts_in a.d_parts_in
  g_parts_in : mg "parts_in" = some (.ref a.f_parts_in)
  b_parts_in : Binds K a.d_parts_in ["term"] []
  F_places_in : Fun K "places_in" "places_in" s_places_in a.f_places_in a.d_places_in
  g_places_in : mg "places_in" = some (.ref a.f_places_in)
  b_places_in : Binds K a.d_places_in ["term"] []
  F_rebuilt : Fun K "rebuilt" "rebuilt" s_rebuilt a.f_rebuilt a.d_rebuilt
  g_rebuilt : mg "rebuilt" = some (.ref a.f_rebuilt)
  b_rebuilt : Binds K a.d_rebuilt ["parts", "make"] []
  F_changed : Fun K "changed" "changed" s_changed a.f_changed a.d_changed
  g_changed : mg "changed" = some (.ref a.f_changed)
  b_changed : Binds K a.d_changed ["term", "make"] []
  F_is_move : Fun K "is_move" "is_move" s_is_move a.f_is_move a.d_is_move
  g_is_move : mg "is_move" = some (.ref a.f_is_move)
  b_is_move : Binds K a.d_is_move ["thing"] []
  F_is_turn : Fun K "is_turn" "is_turn" s_is_turn a.f_is_turn a.d_is_turn
  g_is_turn : mg "is_turn" = some (.ref a.f_is_turn)
  b_is_turn : Binds K a.d_is_turn ["thing"] []
  F_check_turn : Fun K "check_turn" "check_turn" s_check_turn a.f_check_turn a.d_check_turn
  g_check_turn : mg "check_turn" = some (.ref a.f_check_turn)
  b_check_turn : Binds K a.d_check_turn ["thing"] []
  F_turn_from : Fun K "turn_from" "turn_from" s_turn_from a.f_turn_from a.d_turn_from
  g_turn_from : mg "turn_from" = some (.ref a.f_turn_from)
  b_turn_from : Binds K a.d_turn_from ["moves"] []
  F_joined : Fun K "joined" "joined" s_joined a.f_joined a.d_joined
  g_joined : mg "joined" = some (.ref a.f_joined)
  b_joined : Binds K a.d_joined ["first", "second"] []
  F_is_part : Fun K "is_part" "is_part" s_is_part a.f_is_part a.d_is_part
  g_is_part : mg "is_part" = some (.ref a.f_is_part)
  b_is_part : Binds K a.d_is_part ["thing"] []
  F_is_term : Fun K "is_term" "is_term" s_is_term a.f_is_term a.d_is_term
  g_is_term : mg "is_term" = some (.ref a.f_is_term)
  b_is_term : Binds K a.d_is_term ["thing"] []
  F_check_term : Fun K "check_term" "check_term" s_check_term a.f_check_term a.d_check_term
  g_check_term : mg "check_term" = some (.ref a.f_check_term)
  b_check_term : Binds K a.d_check_term ["thing"] []
  F_parts_of : Fun K "parts_of" "parts_of" s_parts_of a.f_parts_of a.d_parts_of
  g_parts_of : mg "parts_of" = some (.ref a.f_parts_of)
  b_parts_of : Binds K a.d_parts_of ["term"] []
  F_levels_of : Fun K "levels_of" "levels_of" s_levels_of a.f_levels_of a.d_levels_of
  g_levels_of : mg "levels_of" = some (.ref a.f_levels_of)
  b_levels_of : Binds K a.d_levels_of ["term"] []
  F_names_at : Fun K "names_at" "names_at" s_names_at a.f_names_at a.d_names_at
  g_names_at : mg "names_at" = some (.ref a.f_names_at)
  b_names_at : Binds K a.d_names_at ["part"] []
  F_names_in : Fun K "names_in" "names_in" s_names_in a.f_names_in a.d_names_in
  g_names_in : mg "names_in" = some (.ref a.f_names_in)
  b_names_in : Binds K a.d_names_in ["term"] []
  F_holes_within : Fun K "holes_within" "holes_within" s_holes_within a.f_holes_within a.d_holes_within
  g_holes_within : mg "holes_within" = some (.ref a.f_holes_within)
  b_holes_within : Binds K a.d_holes_within ["term"] []
  F_holes_in : Fun K "holes_in" "holes_in" s_holes_in a.f_holes_in a.d_holes_in
  g_holes_in : mg "holes_in" = some (.ref a.f_holes_in)
  b_holes_in : Binds K a.d_holes_in ["term"] []
  F_places_of : Fun K "places_of" "places_of" s_places_of a.f_places_of a.d_places_of
  g_places_of : mg "places_of" = some (.ref a.f_places_of)
  b_places_of : Binds K a.d_places_of ["term"] []
  F_parts_down : Fun K "parts_down" "parts_down" s_parts_down a.f_parts_down a.d_parts_down
  g_parts_down : mg "parts_down" = some (.ref a.f_parts_down)
  b_parts_down : Binds K a.d_parts_down ["term", "place"] []
  F_part_at : Fun K "part_at" "part_at" s_part_at a.f_part_at a.d_part_at
  g_part_at : mg "part_at" = some (.ref a.f_part_at)
  b_part_at : Binds K a.d_part_at ["term", "place"] []
  F_put_down : Fun K "put_down" "put_down" s_put_down a.f_put_down a.d_put_down
  g_put_down : mg "put_down" = some (.ref a.f_put_down)
  b_put_down : Binds K a.d_put_down ["term", "place", "part"] []
  F_put_at : Fun K "put_at" "put_at" s_put_at a.f_put_at a.d_put_at
  g_put_at : mg "put_at" = some (.ref a.f_put_at)
  b_put_at : Binds K a.d_put_at ["term", "place", "part"] []
  F_turned_part : Fun K "turned_part" "turned_part" s_turned_part a.f_turned_part a.d_turned_part
  g_turned_part : mg "turned_part" = some (.ref a.f_turned_part)
  b_turned_part : Binds K a.d_turned_part ["moves", "part", "told"] []
  F_turned : Fun K "turned" "turned" s_turned a.f_turned a.d_turned
  g_turned : mg "turned" = some (.ref a.f_turned)
  b_turned : Binds K a.d_turned ["turn", "term"] []
  F_turned_term : Fun K "turned_term" "turned_term" s_turned_term a.f_turned_term a.d_turned_term
  g_turned_term : mg "turned_term" = some (.ref a.f_turned_term)
  b_turned_term : Binds K a.d_turned_term ["turn", "term"] []
  F__law_mixed : Fun K "_law_mixed" "_law_mixed" s__law_mixed a.f__law_mixed a.d__law_mixed
  g__law_mixed : mg "_law_mixed" = some (.ref a.f__law_mixed)
  b__law_mixed : Binds K a.d__law_mixed ["_law_cell", "_law_k"] []
  F__law_pile : Fun K "_law_pile" "_law_pile" s__law_pile a.f__law_pile a.d__law_pile
  g__law_pile : mg "_law_pile" = some (.ref a.f__law_pile)
  b__law_pile : Binds K a.d__law_pile ["_law_script", "_law_k"] []
  F__law_take : Fun K "_law_take" "_law_take" s__law_take a.f__law_take a.d__law_take
  g__law_take : mg "_law_take" = some (.ref a.f__law_take)
  b__law_take : Binds K a.d__law_take ["_law_pile_here", "_law_many"] []
  F__law_name : Fun K "_law_name" "_law_name" s__law_name a.f__law_name a.d__law_name
  g__law_name : mg "_law_name" = some (.ref a.f__law_name)
  b__law_name : Binds K a.d__law_name ["_law_pile_here"] []
  F__law_names : Fun K "_law_names" "_law_names" s__law_names a.f__law_names a.d__law_names
  g__law_names : mg "_law_names" = some (.ref a.f__law_names)
  b__law_names : Binds K a.d__law_names ["_law_pile_here", "_law_many"] []
  F__law_order : Fun K "_law_order" "_law_order" s__law_order a.f__law_order a.d__law_order
  g__law_order : mg "_law_order" = some (.ref a.f__law_order)
  b__law_order : Binds K a.d__law_order ["_law_pile_here", "_law_some"] []
  F__law_turn : Fun K "_law_turn" "_law_turn" s__law_turn a.f__law_turn a.d__law_turn
  g__law_turn : mg "_law_turn" = some (.ref a.f__law_turn)
  b__law_turn : Binds K a.d__law_turn ["_law_pile_here", "_law_names_here"] []
  F__law_to : Fun K "_law_to" "_law_to" s__law_to a.f__law_to a.d__law_to
  g__law_to : mg "_law_to" = some (.ref a.f__law_to)
  b__law_to : Binds K a.d__law_to ["_law_turn_here", "_law_name_here"] []
  F__law_holes : Fun K "_law_holes" "_law_holes" s__law_holes a.f__law_holes a.d__law_holes
  g__law_holes : mg "_law_holes" = some (.ref a.f__law_holes)
  b__law_holes : Binds K a.d__law_holes ["_law_pile_here", "_law_many"] []
  F__law_sign : Fun K "_law_sign" "_law_sign" s__law_sign a.f__law_sign a.d__law_sign
  g__law_sign : mg "_law_sign" = some (.ref a.f__law_sign)
  b__law_sign : Binds K a.d__law_sign ["_law_pile_here", "_law_names_here"] []
  F__law_term : Fun K "_law_term" "_law_term" s__law_term a.f__law_term a.d__law_term
  g__law_term : mg "_law_term" = some (.ref a.f__law_term)
  b__law_term : Binds K a.d__law_term ["_law_pile_here", "_law_names_here", "_law_some", "_law_depth"] []
  F__law_any : Fun K "_law_any" "_law_any" s__law_any a.f__law_any a.d__law_any
  g__law_any : mg "_law_any" = some (.ref a.f__law_any)
  b__law_any : Binds K a.d__law_any ["_law_pile_here", "_law_names_here", "_law_some"] []
  F__law_in : Fun K "_law_in" "_law_in" s__law_in a.f__law_in a.d__law_in
  g__law_in : mg "_law_in" = some (.ref a.f__law_in)
  b__law_in : Binds K a.d__law_in ["_law_term_here"] []
  F__law_sums : Fun K "_law_sums" "_law_sums" s__law_sums a.f__law_sums a.d__law_sums
  g__law_sums : mg "_law_sums" = some (.ref a.f__law_sums)
  b__law_sums : Binds K a.d__law_sums ["_law_term_here"] []
  F__law_put_right : Fun K "_law_put_right" "_law_put_right" s__law_put_right a.f__law_put_right a.d__law_put_right
  g__law_put_right : mg "_law_put_right" = some (.ref a.f__law_put_right)
  b__law_put_right : Binds K a.d__law_put_right ["_law_term_here", "_law_place", "_law_further"] []
  F_law : Fun K "law" "law" s_law a.f_law a.d_law
  g_law : mg "law" = some (.ref a.f_law)
  b_law : Binds K a.d_law ["_law_script"] []
  c_SMALL_LETTERS : mg "SMALL_LETTERS" = some (.str ("abcdefghijklmnopqrstuvwxyz" : Str) a.t_SMALL_LETTERS)
  c_GREAT_LETTERS : mg "GREAT_LETTERS" = some (.str ("ABCDEFGHIJKLMNOPQRSTUVWXYZ" : Str) a.t_GREAT_LETTERS)
  c_FIGURES : mg "FIGURES" = some (.str ("0123456789" : Str) a.t_FIGURES)
  c_MOST_SIGNS : mg "MOST_SIGNS" = some (.int 8 a.t_MOST_SIGNS)
  g_ShutError : mg "ShutError" = some (.ref a.f_ShutError)
  x_ShutError : PySem.W.excIn K a.f_ShutError [.type "ValueError", .type "Exception", .type "BaseException", .type "object"] "ValueError.__new__" = true
  k_ShutError : PySem.W.keepIn K (.ref a.f_ShutError) = true
  r_ShutError : PySem.W.subIn K (.ref a.f_ShutError) (.type "BaseException") = some true
  y_ShutError : PySem.W.typeIn K (.ref a.f_ShutError) = some (.type "type")
  i_ShutError : PySem.W.isClsIn K a.f_ShutError = true
  s_ShutError : PySem.W.subIn K (.ref a.f_ShutError) (.ref a.f_ShutError) = some true
  g_NoTurn : mg "NoTurn" = some (.ref a.f_NoTurn)
  x_NoTurn : PySem.W.excIn K a.f_NoTurn [.type "ValueError", .type "Exception", .type "BaseException", .type "object"] "ValueError.__new__" = true
  k_NoTurn : PySem.W.keepIn K (.ref a.f_NoTurn) = true
  r_NoTurn : PySem.W.subIn K (.ref a.f_NoTurn) (.type "BaseException") = some true
  y_NoTurn : PySem.W.typeIn K (.ref a.f_NoTurn) = some (.type "type")
  i_NoTurn : PySem.W.isClsIn K a.f_NoTurn = true
  s_NoTurn : PySem.W.subIn K (.ref a.f_NoTurn) (.ref a.f_NoTurn) = some true
  g_NoTerm : mg "NoTerm" = some (.ref a.f_NoTerm)
  x_NoTerm : PySem.W.excIn K a.f_NoTerm [.type "ValueError", .type "Exception", .type "BaseException", .type "object"] "ValueError.__new__" = true
  k_NoTerm : PySem.W.keepIn K (.ref a.f_NoTerm) = true
  r_NoTerm : PySem.W.subIn K (.ref a.f_NoTerm) (.type "BaseException") = some true
  y_NoTerm : PySem.W.typeIn K (.ref a.f_NoTerm) = some (.type "type")
  i_NoTerm : PySem.W.isClsIn K a.f_NoTerm = true
  s_NoTerm : PySem.W.subIn K (.ref a.f_NoTerm) (.ref a.f_NoTerm) = some true
  g_NoPlace : mg "NoPlace" = some (.ref a.f_NoPlace)
  x_NoPlace : OexC K a.f_NoPlace
  k_NoPlace : PySem.W.keepIn K (.ref a.f_NoPlace) = true
  r_NoPlace : PySem.W.subIn K (.ref a.f_NoPlace) (.type "BaseException") = some true
  y_NoPlace : PySem.W.typeIn K (.ref a.f_NoPlace) = some (.type "type")
  i_NoPlace : PySem.W.isClsIn K a.f_NoPlace = true
  s_NoPlace : PySem.W.subIn K (.ref a.f_NoPlace) (.ref a.f_NoPlace) = some true
  F_NoPlace___init__ : Fun K "__init__" "NoPlace.__init__" s_NoPlace___init__ a.f_NoPlace___init__ a.d_NoPlace___init__
  b_NoPlace___init__ : Binds K a.d_NoPlace___init__ ["self", "place"] []
  h_NoPlace___init__ : PySem.W.findIn K (.ref a.f_NoPlace) "__init__" = some (some (.ref a.f_NoPlace___init__))
  t_NoPlace___init__ : PySem.W.typeIn K (.ref a.f_NoPlace___init__) = some (.type "function")
  p_NoPlace_place : PySem.W.findIn K (.ref a.f_NoPlace) "place" = some none
  cr_ShutError : ClX.CRead K a.f_ShutError (.type "type")
  ci_ShutError : PySem.W.findCls K (.ref a.f_ShutError) (.type "type") "__init__" = some (.val (.builtin "ValueError.__init__"))
  n_abs : mg "abs" = none
  n_all : mg "all" = none
  n_bool : mg "bool" = none
  n_dict : mg "dict" = none
  n_enumerate : mg "enumerate" = none
  n_int : mg "int" = none
  n_isinstance : mg "isinstance" = none
  n_len : mg "len" = none
  n_list : mg "list" = none
  n_max : mg "max" = none
  n_min : mg "min" = none
  n_range : mg "range" = none
  n_reversed : mg "reversed" = none
  n_set : mg "set" = none
  n_sorted : mg "sorted" = none
  n_str : mg "str" = none
  n_sum : mg "sum" = none
  n_tuple : mg "tuple" = none
  n_zip : mg "zip" = none
  C_changed : FunC K "changed" "changed" s_changed a.f_changed a.d_changed a.c_changed
  C_turned : FunC K "turned" "turned" s_turned a.f_turned a.d_turned a.c_turned
  np_changed_turned : a.p_changed ≠ a.p_turned
abbrev q_changed : Str := "changed.<locals>.<lambda>"
abbrev q_turned : Str := "turned.<locals>.<lambda>"
abbrev tabs (a : Ad) : List NdefX.NTab := [(a.p_changed, fun _ _ => q_changed), (a.p_turned, fun _ _ => q_turned)]
structure Tbs (base : Heap) (mg : Str → Option Value) (a : Ad) : Prop where
  t_changed : LamX.TabB base mg a.c_changed a.p_changed
  t_turned : LamX.TabB base mg a.c_turned a.p_turned
theorem hu_changed {K : PySem.W.Frag} {mg : Str → Option Value} {a : Ad} (T : Txt K mg a) : ∀ p ∈ tabs a, p.1 = a.p_changed → p.2 = fun _ _ => q_changed := fun p hp e => by
  rcases List.mem_cons.mp hp with hp | hp
  · subst hp; rfl
  rcases List.mem_cons.mp hp with hp | hp
  · subst hp; exact absurd e.symm T.np_changed_turned
  · exact absurd hp List.not_mem_nil
theorem hu_turned {K : PySem.W.Frag} {mg : Str → Option Value} {a : Ad} (T : Txt K mg a) : ∀ p ∈ tabs a, p.1 = a.p_turned → p.2 = fun _ _ => q_turned := fun p hp e => by
  rcases List.mem_cons.mp hp with hp | hp
  · subst hp; exact absurd e T.np_changed_turned
  rcases List.mem_cons.mp hp with hp | hp
  · subst hp; rfl
  · exact absurd hp List.not_mem_nil
end Pf

namespace Pf
open PySem PySem.Spec PyProof.Rows L2
local macro_rules | `(tactic| walk_at "rd") => `(tactic| (repeat' (first
  | with_reducible refine r_seq ?_ | with_reducible refine r_asg ?_ | with_reducible refine r_ret ?_ | with_reducible refine r_retN ?_ | with_reducible refine r_drop ?_ | with_reducible refine r_if ?_
  | with_reducible refine r_op ?_ | (with_reducible show tVar _ _ _ _; refine r_var rfl ?_) | with_reducible refine r_c ?_ | with_reducible refine r_I0 ?_ | (with_reducible refine r_I ?c ?_; (case c => first | (show (0 : Int) < _; first | decide | assumption | omega) | exact cmul_r ⟨by decide, by decide⟩ | exact cmul_l ⟨by decide, by decide⟩ | exact cmul_r (by first | assumption | constructor <;> omega) | (unfold CDiv; constructor <;> decide) | (unfold CPow; refine ⟨?_, ?_, ?_⟩ <;> decide))) | with_reducible refine r_name ?_ | (with_reducible show rIxL _ _ _ _ _; refine r_ixL (sqL (by assumption)) rfl ?_) | (with_reducible show rIxT _ _ _ _ _; refine r_ixT (by assumption) rfl ?_) | (with_reducible show rSetL _ _ _ _ _; refine r_setL (by assumption) rfl ?_) | with_reducible refine r_test ?_ | with_reducible refine r_tB ?_ | with_reducible refine r_bl ?_
  | with_reducible refine r_not ?_ | with_reducible refine r_and ?_ | with_reducible refine r_or ?_ | with_reducible refine r_andV ?_ | with_reducible refine r_orV ?_ | with_reducible refine r_notV ?_ | with_reducible refine r_ifE ?_
  | with_reducible refine r_cons ?_ | with_reducible refine r_nil ?_ | with_reducible refine r_cb ?_ | with_reducible refine r_call ?_ | with_reducible refine r_lst ?_ | with_reducible refine r_tup ?_ | with_reducible refine r_bm ?_ | with_reducible refine r_bm0 ?_
  | with_reducible refine r_un ?_ | with_reducible refine r_U ?_ | with_reducible refine r_eqI ?_ | with_reducible refine r_eqS ?_ | with_reducible refine r_neI ?_ | with_reducible refine r_neS ?_ | with_reducible refine r_sub ?_ | with_reducible refine r_gcons ?_ | with_reducible refine r_gnil ?_
  | with_reducible refine r_chain ?_ | with_reducible refine r_get2 ?_ | with_reducible refine r_iList ?_ | with_reducible refine r_iStr ?_ | with_reducible refine r_iTup ?_ | with_reducible refine r_iRev ?_ | with_reducible refine r_iItems ?_ | with_reducible refine r_rng ?_ | with_reducible refine r_inS ?_ | with_reducible refine r_bI ?_ | with_reducible refine r_abs ?_ | with_reducible refine r_sl ?_ | with_reducible refine r_next ?_ | with_reducible refine r_yes ?_
  | (with_reducible show rLen _ _ _ _; first | refine r_lenK (sqL (by assumption)) ?_ | refine r_lenK (by assumption) ?_ | refine r_lenTK (by assumption) ?_)
  | (with_reducible show tFor _ _ _ _ _ _; unfold tFor) | (with_reducible show tLc _ _ _ _ _ _ _ _; unfold tLc) | (with_reducible show tWhile _ _ _ _ _; unfold tWhile)
  | (with_reducible refine ⟨_, rfl, ?_⟩) | (with_reducible refine ⟨_, _, rfl, rfl, ?_⟩) | (with_reducible refine Or.inr ⟨_, rfl, ?_⟩) | (refine ⟨_, _, rfl, Or.inl (by assumption), ?_⟩; skip) | (refine ⟨_, _, rfl, Or.inr (by assumption), ?_⟩; skip)
  | (with_reducible refine iteNT ?_) | (with_reducible refine iteNF ?_) | (with_reducible refine iteT ?_) | (with_reducible refine iteF ?_)
  | (dsimp only [Bool.not_true, Bool.not_false, List.cons_append, List.nil_append]))))

local macro_rules | `(tactic| walk_at "st") => `(tactic| first | exact Same.refl _ | assumption | (refine Same.trans (by assumption) ?_; walk_at "st"))
local macro_rules | `(tactic| walk_at "ok") => `(tactic| first | assumption | exact up_tm (by assumption) (by walk_at "st") | exact up_sqT (by assumption) (by walk_at "st") | exact up_get (by assumption) (by walk_at "st") | exact up_getL (by assumption) (by walk_at "st") | exact up_getT (by assumption) (by walk_at "st") | exact up_sqL (by assumption) (by walk_at "st") | exact up_tms (by assumption) (by walk_at "st") | exact up_tnD (by assumption) (by walk_at "st") | exact up_tn (by assumption) (by walk_at "st") | exact ⟨_, up_getL (by assumption) (by walk_at "st")⟩ | exact ⟨_, up_sqL (by assumption) (by walk_at "st")⟩)

/-- a thing of another class than the texts -/
def NoStr (K : PySem.W.Frag) (H : Hp) (x : V) : Prop := ∃ t, TyX K H x t ∧ PySem.W.kitOne K t (.type "str") = some false
def sp_is_word (K : PySem.W.Frag) : Sp := fun vs H Q _ => ∃ (x : V) (L : Str), vs = [x, .str L] ∧ L.length ≤ 100 ∧ ((∃ w : Str, x = .str w ∧ w.length ≤ sizeLine ∧ ∀ H', Same H H' → Q (.bl (wordB L w)) H') ∨ (NoStr K H x ∧ Q (.bl false) H))
def sp_is_name (K : PySem.W.Frag) : Sp := fun vs H Q _ => ∃ x : V, vs = [x] ∧ ((∃ w : Str, x = .str w ∧ w.length ≤ sizeLine ∧ ∀ H', Same H H' → Q (.bl (wordB smallS w)) H') ∨ (NoStr K H x ∧ Q (.bl false) H))
section
variable {P : Program} {w : World} {K : PySem.W.Frag} {mg : Str → Option Value} {base : Heap} {a : Ad}
theorem G_is_word (T : Txt K mg a) : FnOk P w K mg base CX0 1 a.f_is_word a.d_is_word ["thing", "letters"] (sp_is_word K) := by
  refine T.F_is_word.ok sc_is_word (fun vs H Q E h => ?_) (fun cdv A outer s H vs Q E hr h => ?_)
  · obtain ⟨x, L, rfl, _⟩ := h
    rfl
  · obtain ⟨x, L, rfl, hL, q⟩ := h
    refine ⟨_, (pss_cons (ps_if ((pw_or (pt_not (pt_val (pe_callB (call_isiK' K) (by rfl) T.n_isinstance (by decide +kernel) (pa_cons (pv 0) (pa_cons (pe_bltn (v := .ty "str") (by rfl) T.n_str (by decide +kernel) rfl) pa_nil))))) (pw_or1 (pt_not (pt_chain op_le op_le pe_int (pe_callB call_len_str (by rfl) T.n_len PySem.boot_len (pa_cons (pv 0) pa_nil)) (pe_glob (v := .int 8) (by rfl) T.c_MOST_SIGNS ⟨_, rfl⟩)))))).pt (pss_one (ps_ret pe_bl)) pss_nil)
        (pss_one (ps_ret (pe_and (pe_cmpR op_in_sign (pe_ix ix_str (pv 0) pe_int (fun _ _ => rfl)) (pv 1) (by with_unfolding_all rfl)) (pe_one (pe_callB (cr_allK K rfl) (by rfl) T.n_all (by decide +kernel) (pa_cons (pe_lc (own := [("sign", 2)]) (by rfl) sc_is_word.nd (pi_str (pv 0)) (blkOk_by (N := N_is_word) (sc := defScope s_is_word) (by decide +kernel)) (fun _ _ _ _ _ => (pg_name (i := 2) sc_is_word.nd rfl (by first | exact Or.inl rfl | exact Or.inr rfl))) (fun _ _ _ _ _ => pts_nil) (fun _ _ _ _ _ => (pe_cmpR op_in_sign (pv 2) (pe_op op_add_str (pv 1) (pe_glob (v := .str ("0123456789" : Str)) (by rfl) T.c_FIGURES ⟨_, rfl⟩)) (by with_unfolding_all rfl)))) pa_nil))))))), ?_⟩
    rcases q with ⟨w, rfl, hw, q⟩ | ⟨⟨t, ty, kt⟩, q⟩
    · walk_at "rd"
      refine r_isi (.base (.str w)) rfl ?_
      walk_at "rd"
      refine ⟨hw, ?_⟩
      walk_at "rd"
      refine r_dec (fun e1 => ?_) (fun e1 => ?_)
      · walk_at "rd"
        refine r_ndec (fun e2 => ?_) (fun e2 => ?_)
        · walk_at "rd"
          have eb : wordB L w = false := by
            refine Bool.eq_false_iff.mpr fun z => ?_
            have := (wordB_iff.mp z).len
            omega
          exact eb ▸ q H (Same.refl H)
        · walk_at "rd"
          obtain ⟨c, r, ecr⟩ : ∃ c r, w.cps.toList = c :: r := by
            rw [len_cps] at e1
            cases hcr : w.cps.toList with
            | nil => rw [hcr] at e1; simp at e1
            | cons c r => exact ⟨c, r, rfl⟩
          refine r_ixS (c := c) hw (by rw [ecr]; exact atI_nat (j := 0) rfl) ?_
          walk_at "rd"
          have hwb : wordB L w = (decide (c ∈ L.cps.toList) && (c :: r).all fun x => decide (x ∈ (L ++ figS).cps.toList)) := by
            unfold wordB
            rw [ecr]
            rw [len_cps, ecr] at e2
            simp only [decide_eq_true (show (c :: r).length ≤ 8 by omega), Bool.true_and]
          refine r_dec (fun e3 => ?_) (fun e3 => ?_)
          · walk_at "rd"
            intro D nD
            refine lcN_str (LcI H D fun i acc _ => acc = ((w.cps.toList.take i).map fun x => V.bl (decide (x ∈ (L ++ figS).cps.toList)))) (LcI.zero nD rfl) (fun i y H1 hy hP => ?_) (fun H1 hP => ?_)
            · obtain ⟨s1, acc, hD, hal, rfl⟩ := hP
              have hi : i < 8 := by
                have := (List.getElem?_eq_some_iff.mp hy).1
                rw [len_cps] at e2
                omega
              walk_at "rd"
              refine ⟨rfl, ?_⟩
              walk_at "rd"
              refine ⟨by rw [sizeLine_eq]; show L.length + 10 ≤ _; omega, ?_⟩
              walk_at "rd"
              refine LcI.keep nD s1 hD hal (by omega) (Same.refl _) ?_
              rw [take_snoc hy, List.map_append]
              rfl
            · obtain ⟨s1, acc, hD, hal, rfl⟩ := hP
              walk_at "rd"
              refine r_all (bs := (w.cps.toList).map fun x => decide (x ∈ (L ++ figS).cps.toList)) (sqL (by rw [hD, List.take_length, List.map_map]; rfl)) ?_
              have : wordB L w = ((w.cps.toList).map fun x => decide (x ∈ (L ++ figS).cps.toList)).all id := by
                rw [hwb, decide_eq_true e3, Bool.true_and, List.all_map, ecr]
                rfl
              exact this ▸ q H1 s1
          · walk_at "rd"
            have : wordB L w = false := by rw [hwb, decide_eq_false e3, Bool.false_and]
            exact this ▸ q H (Same.refl H)
      · walk_at "rd"
        have eb : wordB L w = false := by
          refine Bool.eq_false_iff.mpr fun z => ?_
          have := (wordB_iff.mp z).len
          omega
        exact eb ▸ q H (Same.refl H)
    · walk_at "rd"
      refine r_isi ty kt ?_
      walk_at "rd"
      exact q
theorem G_is_name (T : Txt K mg a) : FnOk P w K mg base CX0 2 a.f_is_name a.d_is_name ["thing"] (sp_is_name K) := by
  refine T.F_is_name.ok sc_is_name (fun vs H Q E h => ?_) (fun cdv A outer s H vs Q E hr h => ?_)
  · obtain ⟨x, rfl, _⟩ := h
    rfl
  · obtain ⟨x, rfl, q⟩ := h
    refine ⟨_, (pss_one (ps_ret (pe_call (G_is_word (K := K) T) (hr.mono (by decide)) (by rfl) T.g_is_word T.F_is_word.kp T.b_is_word .nil pass0 (pa_cons (pv 0) (pa_cons (pe_glob (v := .str ("abcdefghijklmnopqrstuvwxyz" : Str)) (by rfl) T.c_SMALL_LETTERS ⟨_, rfl⟩) pa_nil))))), ?_⟩
    walk_at "rd"
    exact ⟨x, smallS, rfl, by decide +kernel, q⟩
end
end Pf

namespace Pf
open PySem PySem.Spec PyProof.Rows L2
local macro_rules | `(tactic| walk_at "rd") => `(tactic| (repeat' (first
  | with_reducible refine r_seq ?_ | with_reducible refine r_asg ?_ | with_reducible refine r_ret ?_ | with_reducible refine r_retN ?_ | with_reducible refine r_drop ?_ | with_reducible refine r_if ?_
  | with_reducible refine r_op ?_ | (with_reducible show tVar _ _ _ _; refine r_var rfl ?_) | with_reducible refine r_c ?_ | with_reducible refine r_I0 ?_ | (with_reducible refine r_I ?c ?_; (case c => first | (show (0 : Int) < _; first | decide | assumption | omega) | exact cmul_r ⟨by decide, by decide⟩ | exact cmul_l ⟨by decide, by decide⟩ | exact cmul_r (by first | assumption | constructor <;> omega) | (unfold CDiv; constructor <;> decide) | (unfold CPow; refine ⟨?_, ?_, ?_⟩ <;> decide))) | with_reducible refine r_name ?_ | (with_reducible show rIxL _ _ _ _ _; refine r_ixL (sqL (by assumption)) rfl ?_) | (with_reducible show rIxT _ _ _ _ _; refine r_ixT (by assumption) rfl ?_) | (with_reducible show rSetL _ _ _ _ _; refine r_setL (by assumption) rfl ?_) | with_reducible refine r_test ?_ | with_reducible refine r_tB ?_ | with_reducible refine r_bl ?_
  | with_reducible refine r_not ?_ | with_reducible refine r_and ?_ | with_reducible refine r_or ?_ | with_reducible refine r_andV ?_ | with_reducible refine r_orV ?_ | with_reducible refine r_notV ?_ | with_reducible refine r_ifE ?_
  | with_reducible refine r_cons ?_ | with_reducible refine r_nil ?_ | with_reducible refine r_cb ?_ | with_reducible refine r_call ?_ | with_reducible refine r_lst ?_ | with_reducible refine r_tup ?_ | with_reducible refine r_bm ?_ | with_reducible refine r_bm0 ?_
  | with_reducible refine r_un ?_ | with_reducible refine r_U ?_ | with_reducible refine r_eqI ?_ | with_reducible refine r_eqS ?_ | with_reducible refine r_neI ?_ | with_reducible refine r_neS ?_ | with_reducible refine r_sub ?_ | with_reducible refine r_gcons ?_ | with_reducible refine r_gnil ?_
  | with_reducible refine r_chain ?_ | with_reducible refine r_get2 ?_ | with_reducible refine r_iList ?_ | with_reducible refine r_iStr ?_ | with_reducible refine r_iTup ?_ | with_reducible refine r_iRev ?_ | with_reducible refine r_iItems ?_ | with_reducible refine r_rng ?_ | with_reducible refine r_inS ?_ | with_reducible refine r_bI ?_ | with_reducible refine r_abs ?_ | with_reducible refine r_sl ?_ | with_reducible refine r_next ?_ | with_reducible refine r_yes ?_
  | (with_reducible show rLen _ _ _ _; first | refine r_lenK (sqL (by assumption)) ?_ | refine r_lenK (by assumption) ?_ | refine r_lenTK (by assumption) ?_)
  | (with_reducible show tFor _ _ _ _ _ _; unfold tFor) | (with_reducible show tLc _ _ _ _ _ _ _ _; unfold tLc) | (with_reducible show tWhile _ _ _ _ _; unfold tWhile)
  | (with_reducible refine ⟨_, rfl, ?_⟩) | (with_reducible refine ⟨_, _, rfl, rfl, ?_⟩) | (with_reducible refine Or.inr ⟨_, rfl, ?_⟩) | (refine ⟨_, _, rfl, Or.inl (by assumption), ?_⟩; skip) | (refine ⟨_, _, rfl, Or.inr (by assumption), ?_⟩; skip)
  | (with_reducible refine iteNT ?_) | (with_reducible refine iteNF ?_) | (with_reducible refine iteT ?_) | (with_reducible refine iteF ?_)
  | (dsimp only [Bool.not_true, Bool.not_false, List.cons_append, List.nil_append]))))

local macro_rules | `(tactic| walk_at "st") => `(tactic| first | exact Same.refl _ | assumption | (refine Same.trans (by assumption) ?_; walk_at "st"))
local macro_rules | `(tactic| walk_at "ok") => `(tactic| first | assumption | exact up_tm (by assumption) (by walk_at "st") | exact up_sqT (by assumption) (by walk_at "st") | exact up_get (by assumption) (by walk_at "st") | exact up_getL (by assumption) (by walk_at "st") | exact up_getT (by assumption) (by walk_at "st") | exact up_sqL (by assumption) (by walk_at "st") | exact up_tms (by assumption) (by walk_at "st") | exact up_tnD (by assumption) (by walk_at "st") | exact up_tn (by assumption) (by walk_at "st") | exact ⟨_, up_getL (by assumption) (by walk_at "st")⟩ | exact ⟨_, up_sqL (by assumption) (by walk_at "st")⟩)

def sp_rises (K : PySem.W.Frag) : Sp := fun vs H Q _ => ∃ (b : Addr) (ns : List Str), vs = [.ref b] ∧ SqL K H b (ns.map V.str) ∧ ns.length ≤ 100 ∧ ∀ H', Same H H' → Q (.bl (decide (ns.Pairwise ltS))) H'
def sp_is_move (K : PySem.W.Frag) : Sp := fun vs H Q _ => ∃ (x : V) (o : Option PS2), vs = [x] ∧ MvV K H x o ∧ ∀ H', Same H H' → Q (.bl o.isSome) H'
def sp_is_turn (K : PySem.W.Frag) : Sp := fun vs H Q _ => ∃ (x : V) (o : Option (List PS2)), vs = [x] ∧ TgV K H x o ∧ ∀ H', Same H H' → Q (.bl (turnB o)) H'
theorem sizeS {w : Str} (h : NameOk w) : w.length ≤ sizeLine := by
  have := h.len
  rw [sizeLine_eq]; omega
theorem askN {K : PySem.W.Frag} {H : Hp} {x : V} {b : Bool} {Q : VK} {E : XK} (h : NmB K H x b) (q : ∀ H', Same H H' → Q (.bl b) H') : sp_is_name K [x] H Q E := by
  rcases h with ⟨w, rfl, l, _, rfl⟩ | ⟨h, rfl⟩
  · exact ⟨_, rfl, .inl ⟨w, rfl, l, q⟩⟩
  · exact ⟨_, rfl, .inr ⟨h, q _ (Same.refl _)⟩⟩
section
variable {P : Program} {w : World} {K : PySem.W.Frag} {mg : Str → Option Value} {base : Heap} {a : Ad}
theorem G_rises (T : Txt K mg a) : FnOk P w K mg base CX0 1 a.f_rises a.d_rises ["things"] (sp_rises K) := by
  refine T.F_rises.ok sc_rises (fun vs H Q E h => ?_) (fun cdv A outer s H vs Q E hr h => ?_)
  · obtain ⟨b, ns, rfl, _⟩ := h
    rfl
  · obtain ⟨b, ns, rfl, hs, hl, q⟩ := h
    refine ⟨_, (pss_one (ps_ret (pe_callB (cr_allK K rfl) (by rfl) T.n_all (by decide +kernel) (pa_cons (pe_lc (own := [("at", 1)]) (by rfl) sc_rises.nd (pi_range1 (by rfl) T.n_range (pa_cons (pe_op op_sub (pe_callB (call_len_seqK K) (by rfl) T.n_len PySem.boot_len (pa_cons (pv 0) pa_nil)) pe_int) pa_nil)) (blkOk_by (N := N_rises) (sc := defScope s_rises) (by decide +kernel)) (fun _ _ _ _ _ => (pg_name (i := 1) sc_rises.nd rfl (by first | exact Or.inl rfl | exact Or.inr rfl))) (fun _ _ _ _ _ => pts_nil) (fun _ _ _ _ _ => (pe_cmpR op_lt_str (pe_ix (ix_listK K) (pv 0) (pv 1) (fun _ _ => rfl)) (pe_ix (ix_listK K) (pv 0) (pe_op op_add (pv 1) pe_int) (fun _ _ => rfl)) (nomark _)))) pa_nil)))), ?_⟩
    walk_at "rd"
    rw [List.length_map]
    refine ⟨by omega, by omega, fun D nD => ?_⟩
    have hn : ((ns.length : Int) - 1).toNat = ns.length - 1 := by omega
    rw [hn]
    refine lc_range (LcI H D fun i acc _ => acc = (((List.range (ns.length - 1)).map fun i => decide (ltS (ns.getD i ⟨#[]⟩) (ns.getD (i + 1) ⟨#[]⟩))).take i).map V.bl) (LcI.zero nD rfl) (fun i H1 hi hP => ?_) (fun H1 hP => ?_)
    · obtain ⟨s1, acc, hD, hal, rfl⟩ := hP
      have hs1 := s1.seq hs
      walk_at "rd"
      refine ⟨rfl, ?_⟩
      walk_at "rd"
      have gd : ∀ i (h : i < ns.length), ns.getD i ⟨#[]⟩ = ns[i] := fun i h => by rw [List.getD_eq_getElem?_getD, List.getElem?_eq_getElem h]; rfl
      have g1 : (ns.map V.str)[i]? = some (.str (ns.getD i ⟨#[]⟩)) := by rw [List.getElem?_map, gd i (by omega), List.getElem?_eq_getElem (by omega)]; rfl
      have g2 : (ns.map V.str)[i + 1]? = some (.str (ns.getD (i + 1) ⟨#[]⟩)) := by rw [List.getElem?_map, gd (i + 1) (by omega), List.getElem?_eq_getElem (by omega)]; rfl
      refine r_ixL hs1 (by rw [Int.zero_add]; exact atI_nat g1) ?_
      walk_at "rd"
      refine r_ixL hs1 (at_of (j := i + 1) (by omega) g2) ?_
      refine ⟨_, _, rfl, rfl, ?_⟩
      refine LcI.keep nD s1 hD hal (by omega) (Same.refl _) ?_
      have em : ((List.range (ns.length - 1)).map fun i => decide (ltS (ns.getD i ⟨#[]⟩) (ns.getD (i + 1) ⟨#[]⟩)))[i]? = some (decide (ltS (ns.getD i ⟨#[]⟩) (ns.getD (i + 1) ⟨#[]⟩))) := by
        rw [List.getElem?_map, List.getElem?_range (by omega)]; rfl
      rw [take_snoc em, List.map_append]
      rfl
    · obtain ⟨s1, acc, hD, hal, rfl⟩ := hP
      rw [List.take_of_length_le (by rw [List.length_map, List.length_range]; exact Nat.le_refl _)] at hD
      walk_at "rd"
      refine r_all (sqL hD) ?_
      rw [rise_near]
      exact q _ s1
theorem G_is_move (T : Txt K mg a) : FnOk P w K mg base CX0 3 a.f_is_move a.d_is_move ["thing"] (sp_is_move K) := by
  refine T.F_is_move.ok sc_is_move (fun vs H Q E h => ?_) (fun cdv A outer s H vs Q E hr h => ?_)
  · obtain ⟨b, ns, rfl, _⟩ := h
    rfl
  · obtain ⟨x, o, rfl, hx, q⟩ := h
    refine ⟨_, (pss_cons (ps_if ((pw_or (pt_not (pt_val (pe_callB (call_isiK' K) (by rfl) T.n_isinstance (by decide +kernel) (pa_cons (pv 0) (pa_cons (pe_bltn (v := .ty "tuple") (by rfl) T.n_tuple (by decide +kernel) rfl) pa_nil))))) (pw_or1 (pt_cmpR op_ne (pe_callB (call_len_seqK K) (by rfl) T.n_len PySem.boot_len (pa_cons (pv 0) pa_nil)) pe_int (nomark _))))).pt (pss_one (ps_ret pe_bl)) pss_nil)
        (pss_one (ps_ret (pe_and (pe_call (G_is_name (K := K) T) (hr.mono (by decide)) (by rfl) T.g_is_name T.F_is_name.kp T.b_is_name .nil pass0 (pa_cons (pe_ix (ix_tupK K) (pv 0) pe_int (fun _ _ => rfl)) pa_nil)) (pe_and (pe_call (G_is_name (K := K) T) (hr.mono (by decide)) (by rfl) T.g_is_name T.F_is_name.kp T.b_is_name .nil pass0 (pa_cons (pe_ix (ix_tupK K) (pv 0) pe_int (fun _ _ => rfl)) pa_nil)) (pe_one (pe_cmpR (op_neDK K hr.units) (pe_ix (ix_tupK K) (pv 0) pe_int (fun _ _ => rfl)) (pe_ix (ix_tupK K) (pv 0) pe_int (fun _ _ => rfl)) (nomark _)))))))), ?_⟩
    walk_at "rd"
    cases hx with
    | yes h h1 h2 h3 =>
      rename_i p
      obtain ⟨b, rfl, hs⟩ := h
      refine r_isi (ty_tup hs) rfl ?_
      walk_at "rd"
      refine r_ndec (fun e => (e rfl).elim) (fun _ => ?_)
      walk_at "rd"
      refine askN (.name h1) fun H1 s1 => ?_
      have hs1 := (Tups.of s1).sq hs
      walk_at "rd"
      refine askN (.name h2) fun H2 s2 => ?_
      have hs2 := (Tups.of s2).sq hs1
      walk_at "rd"
      refine r_neD (.str p.1) (.str p.2) (shaped_S h1.sok) (shaped_S h2.sok) ?_
      rw [eqv_str, decide_eq_false h3]
      exact q _ (s1.trans s2)
    | noTup h =>
      obtain ⟨t, ty, e⟩ := h
      refine r_isi ty e ?_
      walk_at "rd"
      exact q _ (Same.refl _)
    | len hs n =>
      refine r_isi (ty_tup hs) rfl ?_
      walk_at "rd"
      refine r_ndec (fun _ => ?_) (fun e => absurd (by omega) n)
      walk_at "rd"
      exact q _ (Same.refl _)
    | bad hs hu hv e =>
      rename_i bq u v b c
      refine r_isi (ty_tup hs) rfl ?_
      walk_at "rd"
      refine r_ndec (fun e => (e rfl).elim) (fun _ => ?_)
      walk_at "rd"
      refine askN hu fun H1 s1 => ?_
      have hs1 := (Tups.of s1).sq hs
      walk_at "rd"
      refine r_both (fun e1 => ?_) (fun _ => q _ s1)
      walk_at "rd"
      refine askN (hv.stay (.of s1)) fun H2 s2 => ?_
      have hs2 := (Tups.of s2).sq hs1
      walk_at "rd"
      refine r_both (fun e2 => ?_) (fun _ => q _ (s1.trans s2))
      rw [e1, e2] at e
      exact nomatch e
    | self hs h1 =>
      rename_i bq w0
      refine r_isi (ty_tup hs) rfl ?_
      walk_at "rd"
      refine r_ndec (fun e => (e rfl).elim) (fun _ => ?_)
      walk_at "rd"
      refine askN (.name h1) fun H1 s1 => ?_
      have hs1 := (Tups.of s1).sq hs
      walk_at "rd"
      refine askN (.name h1) fun H2 s2 => ?_
      have hs2 := (Tups.of s2).sq hs1
      walk_at "rd"
      refine r_neD (.str w0) (.str w0) (shaped_S h1.sok) (shaped_S h1.sok) ?_
      rw [eqv_str, decide_eq_true rfl]
      exact q _ (s1.trans s2)
theorem G_is_turn (T : Txt K mg a) : FnOk P w K mg base CX0 4 a.f_is_turn a.d_is_turn ["thing"] (sp_is_turn K) := by
  refine T.F_is_turn.ok sc_is_turn (fun vs H Q E h => ?_) (fun cdv A outer s H vs Q E hr h => ?_)
  · obtain ⟨b, ns, rfl, _⟩ := h
    rfl
  · obtain ⟨x, o, rfl, hx, q⟩ := h
    refine ⟨_, (pss_cons (ps_if ((pw_or (pt_not (pt_val (pe_callB (call_isiK' K) (by rfl) T.n_isinstance (by decide +kernel) (pa_cons (pv 0) (pa_cons (pe_bltn (v := .ty "tuple") (by rfl) T.n_tuple (by decide +kernel) rfl) pa_nil))))) (pw_or1 (pt_not (pt_val (pe_callB (cr_allK K rfl) (by rfl) T.n_all (by decide +kernel) (pa_cons (pe_lc (own := [("move", 2)]) (by rfl) sc_is_turn.nd (pi_tupK K (pv 0)) (blkOk_by (N := N_is_turn) (sc := defScope s_is_turn) (by decide +kernel)) (fun _ _ _ _ _ => (pg_name (i := 2) sc_is_turn.nd rfl (by first | exact Or.inl rfl | exact Or.inr rfl))) (fun _ _ _ _ _ => pts_nil) (fun _ _ _ _ _ => (pe_call (G_is_move (K := K) T) (hr.mono (by decide)) (by rfl) T.g_is_move T.F_is_move.kp T.b_is_move .nil pass0 (pa_cons (pv 2) pa_nil)))) pa_nil))))))).pt (pss_one (ps_ret pe_bl)) pss_nil)
        (pss_cons (ps_setLc (i := 1) (own := [("name", 3), ("_", 4)]) (by rfl) sc_is_turn.nd rfl rfl (sw_true rfl rfl rfl (by decide +kernel)) (pi_tupK K (pv 0)) (blkOk_by (N := N_is_turn) (sc := defScope s_is_turn) (by decide +kernel)) (fun _ _ _ _ _ => (pg_tupK K (n := 2) rfl (pgs_cons (pg_name (i := 3) sc_is_turn.nd rfl (by first | exact Or.inl rfl | exact Or.inr rfl)) (pgs_cons (pg_name (i := 4) sc_is_turn.nd rfl (by first | exact Or.inl rfl | exact Or.inr rfl)) pgs_nil)))) (fun _ _ _ _ _ => pts_nil) (fun _ _ _ _ _ => (pv 3)))
        (pss_one (ps_ret (pe_and (pe_call (G_rises (K := K) T) (hr.mono (by decide)) (by rfl) T.g_rises T.F_rises.kp T.b_rises .nil pass0 (pa_cons (pv 1) pa_nil)) (pe_one (pe_cmpR (op_eqDK K hr.units) (pe_callB (cr_sortedSK K) (by rfl) T.n_sorted (by decide +kernel) (pa_cons (pe_lc (own := [("_", 4), ("to", 5)]) (by rfl) sc_is_turn.nd (pi_tupK K (pv 0)) (blkOk_by (N := N_is_turn) (sc := defScope s_is_turn) (by decide +kernel)) (fun _ _ _ _ _ => (pg_tupK K (n := 2) rfl (pgs_cons (pg_name (i := 4) sc_is_turn.nd rfl (by first | exact Or.inl rfl | exact Or.inr rfl)) (pgs_cons (pg_name (i := 5) sc_is_turn.nd rfl (by first | exact Or.inl rfl | exact Or.inr rfl)) pgs_nil)))) (fun _ _ _ _ _ => pts_nil) (fun _ _ _ _ _ => (pv 5))) pa_nil)) (pv 1) (nomark _)))))))), ?_⟩
    walk_at "rd"
    cases hx with
    | noTup h =>
      obtain ⟨t, ty, e⟩ := h
      refine r_isi ty e ?_
      walk_at "rd"
      exact q _ (Same.refl _)
    | part hs few hp hn =>
      rename_i b xs os
      have hlen := pd_len hp
      refine r_isi (ty_tup hs) rfl ?_
      walk_at "rd"
      refine ⟨⟨_, hs⟩, fun D nD => ?_⟩
      refine lc_tup (K := K) (a := b) (xs := xs) (LcI H D fun i acc _ => acc = ((os.take i).map Option.isSome).map V.bl) (LcI.zero nD rfl) (fun i H1 _ hP => (Tups.of hP.1).sq hs) (fun i x H1 hx hP => ?_) (fun H1 hP => ?_)
      · obtain ⟨s1, acc, hD, hal, rfl⟩ := hP
        obtain ⟨o, hpi, hpr⟩ := pd_get' hp hx
        have hi := (List.getElem?_eq_some_iff.mp hx).1
        walk_at "rd"
        refine ⟨rfl, ?_⟩
        walk_at "rd"
        refine ⟨x, o, rfl, hpr.stay (.of s1), fun H2 s2 => ?_⟩
        refine LcI.keep nD s1 hD hal (by omega) s2 ?_
        rw [take_snoc hpi, List.map_append, List.map_append]
        rfl
      · obtain ⟨s1, acc, hD, hal, rfl⟩ := hP
        rw [List.take_of_length_le (by omega)] at hD
        walk_at "rd"
        refine r_all (sqL hD) ?_
        rw [show (os.map Option.isSome).all id = false by
          rw [List.all_eq_false]
          exact ⟨_, List.mem_map.mpr ⟨none, hn, rfl⟩, by simp⟩]
        walk_at "rd"
        exact q _ s1
    | all hs hp few ok d0 =>
      rename_i b xs t
      have hlen := pd_len hp
      refine r_isi (ty_tup hs) rfl ?_
      walk_at "rd"
      refine ⟨⟨_, hs⟩, fun D nD => ?_⟩
      refine lc_tup (K := K) (a := b) (xs := xs) (LcI H D fun i acc _ => acc = (List.replicate i true).map V.bl) (LcI.zero nD rfl) (fun i H1 _ hP => (Tups.of hP.1).sq hs) (fun i x H1 hx hP => ?_) (fun H1 hP => ?_)
      · obtain ⟨s1, acc, hD, hal, rfl⟩ := hP
        obtain ⟨p, hpi, hpr⟩ := pd_get' hp hx
        have hi := (List.getElem?_eq_some_iff.mp hpi).1
        have hm : p ∈ t := List.mem_of_getElem? hpi
        walk_at "rd"
        refine ⟨rfl, ?_⟩
        walk_at "rd"
        refine ⟨x, some p, rfl, .yes (hpr.stay (Tups.of s1)) (ok p hm).1 (ok p hm).2.1 (ok p hm).2.2, fun H2 s2 => ?_⟩
        refine LcI.keep nD s1 hD hal (by omega) s2 ?_
        rw [List.replicate_succ', List.map_append]
        rfl
      · obtain ⟨s1, acc, hD, hal, rfl⟩ := hP
        walk_at "rd"
        refine r_all (bs := List.replicate xs.length true) (sqL hD) ?_
        rw [show (List.replicate xs.length true).all id = true by simp]
        have hs1 := (Tups.of s1).sq hs
        have hp1 := hp.stay (Tups.of s1)
        walk_at "rd"
        refine ⟨⟨_, hs1⟩, fun D2 nD2 => ?_⟩
        refine lc_tup (K := K) (a := b) (xs := xs) (LcI H1 D2 fun i acc _ => acc = (t.take i).map fun p => V.str p.1) (LcI.zero nD2 rfl) (fun i H2 _ hP => (Tups.of hP.1).sq hs1) (fun i x H2 hx hP => ?_) (fun H2 hP => ?_)
        · obtain ⟨s2, acc, hD2, hal2, rfl⟩ := hP
          obtain ⟨p, hpi, hpr⟩ := pd_get' hp1 hx
          have hi := (List.getElem?_eq_some_iff.mp hpi).1
          obtain ⟨y, rfl, hy⟩ := hpr.stay (Tups.of s2)
          refine r_gtup hy rfl ?_
          walk_at "rd"
          refine ⟨rfl, ?_⟩
          walk_at "rd"
          refine LcI.keep nD2 s2 hD2 hal2 (by omega) (Same.refl _) ?_
          rw [take_snoc hpi, List.map_append]
          rfl
        · obtain ⟨s2, acc, hD2, hal2, rfl⟩ := hP
          rw [hlen, List.take_length] at hD2
          have hD2' : H2 D2 = some (.lst ((t.map (·.1)).map V.str)) := by rw [hD2, List.map_map]; rfl
          have hs2 := (Tups.of s2).sq hs1
          have hp2 := hp1.stay (Tups.of s2)
          walk_at "rd"
          refine ⟨D2, t.map (·.1), rfl, sqL hD2', by rw [List.length_map]; omega, fun H3 s3 => ?_⟩
          have hs3 := (Tups.of s3).sq hs2
          have hp3 := hp2.stay (Tups.of s3)
          walk_at "rd"
          refine r_both (fun e1 => ?_) (fun e1 => ?_)
          · have ris := of_decide_eq_true e1
            walk_at "rd"
            refine ⟨⟨_, hs3⟩, fun D3 nD3 => ?_⟩
            refine lc_tup (K := K) (a := b) (xs := xs) (LcI H3 D3 fun i acc _ => acc = (t.take i).map fun p => V.str p.2) (LcI.zero nD3 rfl) (fun i H4 _ hP => (Tups.of hP.1).sq hs3) (fun i x H4 hx hP => ?_) (fun H4 hP => ?_)
            · obtain ⟨s4, acc, hD4, hal4, rfl⟩ := hP
              obtain ⟨p, hpi, hpr⟩ := pd_get' hp3 hx
              have hi := (List.getElem?_eq_some_iff.mp hpi).1
              obtain ⟨y, rfl, hy⟩ := hpr.stay (Tups.of s4)
              refine r_gtup hy rfl ?_
              walk_at "rd"
              refine ⟨rfl, ?_⟩
              walk_at "rd"
              refine LcI.keep nD3 s4 hD4 hal4 (by omega) (Same.refl _) ?_
              rw [take_snoc hpi, List.map_append]
              rfl
            · obtain ⟨s4, acc, hD4, hal4, rfl⟩ := hP
              rw [hlen, List.take_length] at hD4
              have hD4' : H4 D3 = some (.lst ((t.map (·.2)).map V.str)) := by rw [hD4, List.map_map]; rfl
              walk_at "rd"
              refine ⟨D3, t.map (·.2), rfl, sqL hD4', by rw [List.length_map]; omega, fun ys p hperm hsort np => ?_⟩
              walk_at "rd"
              have hD5 : (upd H4 p (.lst (ys.map V.str))) D2 = some (.lst ((t.map (·.1)).map V.str)) := (same_new np) _ _ (s4 _ _ (s3 _ _ hD2'))
              have ok1 : ∀ n ∈ t.map (·.1), PyData.strOk n = true := fun n hn => by
                obtain ⟨p, hp, rfl⟩ := List.mem_map.mp hn
                exact (ok p hp).1.sok
              have ok2 : ∀ n ∈ ys, PyData.strOk n = true := fun n hn => by
                obtain ⟨p, hp, rfl⟩ := List.mem_map.mp (hperm.mem_iff.mp hn)
                exact (ok p hp).2.1.sok
              refine r_eqD (.lst (sqL upd_same) (dp_strs ys)) (.lst (sqL hD5) (dp_strs _)) (shaped_LS ok2) (shaped_LS ok1) ?_
              rw [eqv_LS, show decide (ys = t.map (·.1)) = turnB (some t) by
                show _ = decide (IsTurn t)
                refine decide_eq_decide.mpr ?_
                rw [turn_iff few ok, perm_sorted hperm (sortedS_pw hsort) ris]
                exact ⟨fun h => ⟨ris, h⟩, fun h => h.2⟩]
              exact q _ ((((s1.trans s2).trans s3).trans s4).trans (same_new np))
          · have e2 : turnB (some t) = false := decide_eq_false fun h => of_decide_eq_false e1 h.rise
            rw [e2] at q
            exact q _ ((s1.trans s2).trans s3)
end
end Pf

/-! terms as trees, and how they lie on a heap -/
namespace Pf
open PySem PySem.Spec PyProof.Rows L2
abbrev HoleOk : Str → Prop := WordOk greatS
theorem HoleOk.sok {w : Str} (h : HoleOk w) : PyData.strOk w = true := WordOk.sok low_great h
/-- a tree: a term, or a thing that is none at some of its places -/
inductive Tm where
  | name (n : Str)
  | hole (t : List PS2) (X : Str)
  | shut (n : Str) (b : Tm)
  | sign (n : Str) (ps : List Tm)
  | bad
namespace Tm
mutual
def size : Tm → Nat
  | .name _ => 1
  | .hole _ _ => 1
  | .shut _ b => 1 + size b
  | .sign _ ps => 1 + sizes ps
  | .bad => 1
def sizes : List Tm → Nat
  | [] => 0
  | p :: r => size p + sizes r
end
mutual
def good : Tm → Bool
  | .name _ => true
  | .hole _ _ => true
  | .shut _ b => good b
  | .sign _ ps => goods ps
  | .bad => false
def goods : List Tm → Bool
  | [] => true
  | p :: r => good p && goods r
end
def isBad : Tm → Bool
  | .bad => true
  | _ => false
/-- parts right in it -/
def kids : Tm → List Tm
  | .shut _ b => [b]
  | .sign _ ps => ps
  | _ => []
mutual
/-- all parts in order -/
def pre : Tm → List Tm
  | .name n => [.name n]
  | .hole t X => [.hole t X]
  | .shut n b => .shut n b :: pre b
  | .sign n ps => .sign n ps :: pres ps
  | .bad => [.bad]
def pres : List Tm → List Tm
  | [] => []
  | p :: r => pre p ++ pres r
end
mutual
/-- places in order, each with its part -/
def plc : Tm → List (List Nat × Tm)
  | .name n => [([], .name n)]
  | .hole t X => [([], .hole t X)]
  | .shut n b => ([], .shut n b) :: (plc b).map fun q => (0 :: q.1, q.2)
  | .sign n ps => ([], .sign n ps) :: plcs 0 ps
  | .bad => [([], .bad)]
def plcs : Nat → List Tm → List (List Nat × Tm)
  | _, [] => []
  | i, p :: r => ((plc p).map fun q => (i :: q.1, q.2)) ++ plcs (i + 1) r
end
mutual
def enc : Tm → PyData
  | .name n => .tuple [.str "name", .str n]
  | .hole t X => .tuple [.str "hole", eT t, .str X]
  | .shut n b => .tuple [.str "shut", .str n, enc b]
  | .sign n ps => .tuple [.str "sign", .str n, .tuple (encs ps)]
  | .bad => .none
def encs : List Tm → List PyData
  | [] => []
  | p :: r => enc p :: encs r
end
mutual
def dep : Tm → Nat
  | .name _ => 1
  | .hole _ _ => 1
  | .shut _ b => 1 + dep b
  | .sign _ ps => 1 + deps ps
  | .bad => 1
def deps : List Tm → Nat
  | [] => 0
  | p :: r => max (dep p) (deps r)
end
theorem size_pos (T : Tm) : 1 ≤ T.size := by
  cases T <;> simp only [size] <;> omega
theorem sizes_app : ∀ (a b : List Tm), sizes (a ++ b) = sizes a + sizes b
  | [], b => by simp [sizes]
  | p :: r, b => by
    show size p + sizes (r ++ b) = size p + sizes r + sizes b
    rw [sizes_app r b]
    omega
theorem sizes_rev : ∀ (a : List Tm), sizes a.reverse = sizes a
  | [] => rfl
  | p :: r => by
    rw [List.reverse_cons, sizes_app, sizes_rev r]
    show sizes r + (size p + 0) = size p + sizes r
    omega
theorem sizes_mem : ∀ {l : List Tm} {T : Tm}, T ∈ l → T.size ≤ sizes l
  | p :: r, T, h => by
    show T.size ≤ size p + sizes r
    rcases List.mem_cons.mp h with e | h
    · rw [e]; omega
    · have := sizes_mem h; omega
theorem sizes_len : ∀ (l : List Tm), l.length ≤ sizes l
  | [] => Nat.le_refl _
  | p :: r => by
    have := sizes_len r
    have := size_pos p
    show r.length + 1 ≤ size p + sizes r
    omega
theorem size_kids (T : Tm) : T.size = 1 + sizes T.kids := by
  cases T with
  | shut n b => simp [size, kids, sizes]
  | _ => simp [size, kids, sizes]
theorem pre_kids (T : Tm) : T.pre = T :: pres T.kids := by
  cases T with
  | shut n b => simp [pre, kids, pres]
  | _ => simp [pre, kids, pres]
theorem pres_app : ∀ (a b : List Tm), pres (a ++ b) = pres a ++ pres b
  | [], b => rfl
  | p :: r, b => by
    show pre p ++ pres (r ++ b) = (pre p ++ pres r) ++ pres b
    rw [pres_app r b, List.append_assoc]
theorem good_kids (T : Tm) : T.good = (!T.isBad && goods T.kids) := by
  cases T with
  | shut n b => simp [good, kids, goods, isBad]
  | _ => simp [good, kids, goods, isBad]
theorem goods_app : ∀ (a b : List Tm), goods (a ++ b) = (goods a && goods b)
  | [], b => by simp [goods]
  | p :: r, b => by
    show (good p && goods (r ++ b)) = ((good p && goods r) && goods b)
    rw [goods_app r b, Bool.and_assoc]
theorem goods_mem : ∀ {l : List Tm}, goods l = true → ∀ T ∈ l, T.good = true
  | p :: r, h, T, hT => by
    have h : (good p && goods r) = true := h
    rw [Bool.and_eq_true] at h
    rcases List.mem_cons.mp hT with e | hT
    · rw [e]; exact h.1
    · exact goods_mem h.2 T hT
theorem plc_kids (T : Tm) : T.plc = ([], T) :: plcs 0 T.kids := by
  cases T with
  | shut n b => simp [plc, kids, plcs]
  | _ => simp [plc, kids, plcs]
mutual
theorem len_pre : ∀ T : Tm, T.pre.length = T.size
  | .name _ => rfl
  | .hole _ _ => rfl
  | .shut _ b => by rw [pre, size, List.length_cons, len_pre b]; omega
  | .sign _ ps => by rw [pre, size, List.length_cons, len_pres ps]; omega
  | .bad => rfl
theorem len_pres : ∀ l : List Tm, (pres l).length = sizes l
  | [] => rfl
  | p :: r => by rw [pres, sizes, List.length_append, len_pre p, len_pres r]
end
mutual
theorem len_plc : ∀ T : Tm, T.plc.length = T.size
  | .name _ => rfl
  | .hole _ _ => rfl
  | .shut _ b => by rw [plc, size, List.length_cons, List.length_map, len_plc b]; omega
  | .sign _ ps => by rw [plc, size, List.length_cons, len_plcs 0 ps]; omega
  | .bad => rfl
theorem len_plcs : ∀ (i : Nat) (l : List Tm), (plcs i l).length = sizes l
  | _, [] => rfl
  | i, p :: r => by rw [plcs, sizes, List.length_append, List.length_map, len_plc p, len_plcs (i + 1) r]
end
end Tm
/-- a thing that isn't written as a part -/
def NoPart (K : PySem.W.Frag) (H : Hp) (x : V) : Prop := NoT K H "tuple" x ∨ ∃ q xs, x = .ref q ∧ SqT K H q xs ∧ xs.length ≠ 2 ∧ xs.length ≠ 3
/-- a turn's tuple, known as an object without attributes -/
def TnD (K : PySem.W.Frag) (H : Hp) (v : V) (t : List PS2) : Prop := ∃ q o xs, v = .ref q ∧ H q = some (.frz o (.tup xs)) ∧ o.dict = none ∧ Prs K H xs t
section
variable {K : PySem.W.Frag} {H H' : Hp}
theorem TnD.tn {v : V} {t : List PS2} (h : TnD K H v t) : Tn K H v t := by
  obtain ⟨q, o, xs, e, hq, _, hp⟩ := h
  exact ⟨q, xs, e, .inl (.inr ⟨o, hq⟩), hp⟩
theorem TnD.stay {v : V} {t : List PS2} (h : TnD K H v t) (s : Stay K H H') : TnD K H' v t := by
  obtain ⟨q, o, xs, e, hq, hd, hp⟩ := h
  exact ⟨q, o, xs, e, s.frz _ _ _ hq, hd, hp.stay s.tups⟩
theorem TnD.tg {x : V} {t : List PS2} (h : TnD K H x t) (it : IsTurn t) : TgV K H x (some t) := by
  obtain ⟨q, o, xs, rfl, e, n, p⟩ := h
  exact .all (.inl (.inr ⟨o, e⟩)) p it.small (fun r hr => ⟨(it.ok r hr).1, (it.ok r hr).2, it.ne r hr⟩) fun _ => ⟨o, e, n⟩
theorem NoPart.stay {x : V} (h : NoPart K H x) (s : Stay K H H') : NoPart K H' x := by
  rcases h with h | ⟨q, xs, e, h, n⟩
  · exact .inl (h.stay s)
  · exact .inr ⟨q, xs, e, s.tups.sq h, n⟩
mutual
inductive TmV (K : PySem.W.Frag) (H : Hp) : V → Tm → Prop
  | name {q : Addr} {n : Str} (h : SqT K H q [.str "name", .str n]) (a : NameOk n) : TmV K H (.ref q) (.name n)
  | hole {q : Addr} {x : V} {t : List PS2} {X : Str} (h : SqT K H q [.str "hole", x, .str X]) (d : TnD K H x t) (it : IsTurn t) (ho : HoleOk X) : TmV K H (.ref q) (.hole t X)
  | shut {q : Addr} {n : Str} {y : V} {b : Tm} (h : SqT K H q [.str "shut", .str n, y]) (a : NameOk n) (s : TmV K H y b) : TmV K H (.ref q) (.shut n b)
  | sign {q z : Addr} {n : Str} {xs : List V} {ps : List Tm} (h : SqT K H q [.str "sign", .str n, .ref z]) (a : NameOk n) (hz : SqT K H z xs) (s : TmsV K H xs ps) : TmV K H (.ref q) (.sign n ps)
  | bad {x : V} (h : NoPart K H x) : TmV K H x .bad
inductive TmsV (K : PySem.W.Frag) (H : Hp) : List V → List Tm → Prop
  | nil : TmsV K H [] []
  | cons {x : V} {xs : List V} {p : Tm} {ps : List Tm} (h : TmV K H x p) (t : TmsV K H xs ps) : TmsV K H (x :: xs) (p :: ps)
end
mutual
theorem TmV.stay (s : Stay K H H') {x : V} {T : Tm} : TmV K H x T → TmV K H' x T
  | .name h a => .name (s.tups.sq h) a
  | .hole h d it ho => .hole (s.tups.sq h) (d.stay s) it ho
  | .shut h a t => .shut (s.tups.sq h) a (t.stay s)
  | .sign h a hz t => .sign (s.tups.sq h) a (s.tups.sq hz) (t.stay s)
  | .bad h => .bad (h.stay s)
theorem TmsV.stay (s : Stay K H H') {xs : List V} {Ts : List Tm} : TmsV K H xs Ts → TmsV K H' xs Ts
  | .nil => .nil
  | .cons h t => .cons (h.stay s) (t.stay s)
end
theorem TmsV.pd {xs : List V} {Ts : List Tm} : TmsV K H xs Ts → Paired (TmV K H) xs Ts
  | .nil => .nil
  | .cons h t => .cons h t.pd
theorem tms_of : ∀ {xs : List V} {Ts : List Tm}, Paired (TmV K H) xs Ts → TmsV K H xs Ts
  | _, _, .nil => .nil
  | _, _, .cons h t => .cons h (tms_of t)
theorem Tm.and2 {a b : Bool} (h : (a && b) = true) : a = true ∧ b = true := Bool.and_eq_true_iff.mp h
mutual
theorem TmV.dp {x : V} {T : Tm} : TmV K H x T → T.good = true → Dp K H x T.enc
  | .name h a, _ => .tup h (.cons (.str _) (.cons (.str _) .nil))
  | .hole h d it ho, _ => .tup h (.cons (.str _) (.cons d.tn.dp (.cons (.str _) .nil)))
  | .shut h a t, g => .tup h (.cons (.str _) (.cons (.str _) (.cons (t.dp g) .nil)))
  | .sign h a hz t, g => .tup h (.cons (.str _) (.cons (.str _) (.cons (.tup hz (t.dp g)) .nil)))
  | .bad h, g => nomatch g
theorem TmsV.dp {xs : List V} {Ts : List Tm} : TmsV K H xs Ts → Tm.goods Ts = true → DpAll K H xs (Tm.encs Ts)
  | .nil, _ => .nil
  | .cons h t, g => .cons (h.dp (Tm.and2 g).1) (t.dp (Tm.and2 g).2)
end
mutual
/-- names and holes are right -/
theorem TmV.lay {x : V} {T : Tm} : TmV K H x T → T.good = true → T.enc.canLay0 = true ∧ T.enc.depth ≤ 2 * T.dep + 1
  | .name (n := n) h a, _ => ⟨by show (PyData.strOk _ && (PyData.strOk n && true)) = true; rw [a.sok]; decide +kernel, by show max 0 (max 0 0) + 1 ≤ 2 * 1 + 1; simp⟩
  | .hole (t := t) (X := X) h d it ho, _ => by
    have l : (eT t).canLay0 = true := canAll eP fun p hp => lay_P ⟨(it.ok p hp).1.sok, (it.ok p hp).2.sok⟩
    have e : (eT t).depth ≤ 2 := Nat.succ_le_succ (depAll eP fun p _ => dep_P p)
    refine ⟨by show (PyData.strOk _ && ((eT t).canLay0 && (PyData.strOk X && true))) = true; rw [l, HoleOk.sok ho]; decide +kernel, ?_⟩
    show max 0 (max (eT t).depth (max 0 0)) + 1 ≤ 2 * 1 + 1
    omega
  | .shut (n := n) (b := b) h a t, g => by
    obtain ⟨l, e⟩ := t.lay g
    refine ⟨by show (PyData.strOk _ && (PyData.strOk n && (b.enc.canLay0 && true))) = true; rw [l, a.sok]; decide +kernel, ?_⟩
    show max 0 (max 0 (max b.enc.depth 0)) + 1 ≤ 2 * (1 + b.dep) + 1
    omega
  | .sign (n := n) (ps := ps) h a hz t, g => by
    obtain ⟨l, e⟩ := t.lay g
    refine ⟨by show (PyData.strOk _ && (PyData.strOk n && (PyData.canLayAll0 (Tm.encs ps) && true))) = true; rw [l, a.sok]; decide +kernel, ?_⟩
    show max 0 (max 0 (max (PyData.depthAll (Tm.encs ps) + 1) 0)) + 1 ≤ 2 * (1 + Tm.deps ps) + 1
    omega
  | .bad h, g => nomatch g
theorem TmsV.lay {xs : List V} {Ts : List Tm} : TmsV K H xs Ts → Tm.goods Ts = true → PyData.canLayAll0 (Tm.encs Ts) = true ∧ PyData.depthAll (Tm.encs Ts) ≤ 2 * Tm.deps Ts + 1
  | .nil, _ => ⟨rfl, Nat.zero_le _⟩
  | .cons (p := p) (ps := ps) h t, g => by
    obtain ⟨l, e⟩ := h.lay (Tm.and2 g).1
    obtain ⟨l2, e2⟩ := t.lay (Tm.and2 g).2
    refine ⟨by show (p.enc.canLay0 && PyData.canLayAll0 (Tm.encs ps)) = true; rw [l, l2]; rfl, ?_⟩
    show max p.enc.depth (PyData.depthAll (Tm.encs ps)) ≤ 2 * max p.dep (Tm.deps ps) + 1
    omega
end
theorem TmV.shaped {x : V} {T : Tm} (h : TmV K H x T) (g : T.good = true) (d : T.dep ≤ 30) : SeqAt.shaped T.enc = true := shaped_iff.mpr ⟨(h.lay g).1, by have := (h.lay g).2; omega⟩
end
end Pf

namespace Pf
open PySem PySem.Spec PyProof.Rows L2
/-! ### the pile -/
/-- a pile of digits, a cell, a count -/
def PileAt (H : Hp) (p : Addr) : Prop := ∃ d c n : Int, H p = some (.lst [.int d, .int c, .int n]) ∧ 0 ≤ d ∧ d < 2 ^ 700
theorem PileAt.but {H H' : Hp} {p q : Addr} (h : PileAt H p) (s : But q H H') (n : p ≠ q) : PileAt H' p := by
  obtain ⟨d, c, m, e, r⟩ := h
  exact ⟨d, c, m, s _ _ n e, r⟩
theorem PileAt.same {H H' : Hp} {p : Addr} (h : PileAt H p) (s : Same H H') : PileAt H' p := by
  obtain ⟨d, c, m, e, r⟩ := h
  exact ⟨d, c, m, s _ _ e, r⟩
theorem PileAt.tups {H H' : Hp} {p : Addr} (h : PileAt H p) (s : But p H H') : Tups H H' := by
  obtain ⟨d, c, m, e, r⟩ := h
  exact Tups.but s e
theorem PileAt.ne {H : Hp} {p q : Addr} (h : PileAt H p) (n : H q = none) : p ≠ q := by
  obtain ⟨d, c, m, e, r⟩ := h
  exact ne_of_none e n
local macro_rules | `(tactic| walk_at "rd") => `(tactic| (repeat' (first
  | with_reducible refine r_seq ?_ | with_reducible refine r_asg ?_ | with_reducible refine r_ret ?_ | with_reducible refine r_retN ?_ | with_reducible refine r_drop ?_ | with_reducible refine r_if ?_
  | with_reducible refine r_op ?_ | (with_reducible show tVar _ _ _ _; refine r_var rfl ?_) | with_reducible refine r_c ?_ | with_reducible refine r_I0 ?_ | (with_reducible refine r_I ?c ?_; (case c => first | (show (0 : Int) < _; first | decide | assumption | omega) | exact cmul_r ⟨by decide, by decide⟩ | exact cmul_l ⟨by decide, by decide⟩ | exact cmul_r (by first | assumption | constructor <;> omega) | (unfold CDiv; constructor <;> decide) | (unfold CPow; refine ⟨?_, ?_, ?_⟩ <;> decide))) | with_reducible refine r_name ?_ | (with_reducible show rIxL _ _ _ _ _; refine r_ixL (sqL (by assumption)) rfl ?_) | (with_reducible show rIxT _ _ _ _ _; refine r_ixT (by assumption) rfl ?_) | (with_reducible show rSetL _ _ _ _ _; refine r_setL (by assumption) rfl ?_) | with_reducible refine r_test ?_ | with_reducible refine r_tB ?_ | with_reducible refine r_bl ?_
  | with_reducible refine r_not ?_ | with_reducible refine r_and ?_ | with_reducible refine r_or ?_ | with_reducible refine r_andV ?_ | with_reducible refine r_orV ?_ | with_reducible refine r_notV ?_ | with_reducible refine r_ifE ?_
  | with_reducible refine r_cons ?_ | with_reducible refine r_nil ?_ | with_reducible refine r_cb ?_ | with_reducible refine r_call ?_ | with_reducible refine r_lst ?_ | with_reducible refine r_tup ?_ | with_reducible refine r_bm ?_ | with_reducible refine r_bm0 ?_
  | with_reducible refine r_un ?_ | with_reducible refine r_U ?_ | with_reducible refine r_eqI ?_ | with_reducible refine r_eqS ?_ | with_reducible refine r_neI ?_ | with_reducible refine r_neS ?_ | with_reducible refine r_sub ?_ | with_reducible refine r_gcons ?_ | with_reducible refine r_gnil ?_
  | with_reducible refine r_chain ?_ | with_reducible refine r_get2 ?_ | with_reducible refine r_iList ?_ | with_reducible refine r_iStr ?_ | with_reducible refine r_iTup ?_ | with_reducible refine r_iRev ?_ | with_reducible refine r_iItems ?_ | with_reducible refine r_rng ?_ | with_reducible refine r_inS ?_ | with_reducible refine r_bI ?_ | with_reducible refine r_abs ?_ | with_reducible refine r_sl ?_ | with_reducible refine r_next ?_ | with_reducible refine r_yes ?_
  | (with_reducible show rLen _ _ _ _; first | refine r_lenK (sqL (by assumption)) ?_ | refine r_lenK (by assumption) ?_ | refine r_lenTK (by assumption) ?_)
  | (with_reducible show tFor _ _ _ _ _ _; unfold tFor) | (with_reducible show tLc _ _ _ _ _ _ _ _; unfold tLc) | (with_reducible show tWhile _ _ _ _ _; unfold tWhile)
  | (with_reducible refine ⟨_, rfl, ?_⟩) | (with_reducible refine ⟨_, _, rfl, rfl, ?_⟩) | (with_reducible refine Or.inr ⟨_, rfl, ?_⟩) | (refine ⟨_, _, rfl, Or.inl (by assumption), ?_⟩; skip) | (refine ⟨_, _, rfl, Or.inr (by assumption), ?_⟩; skip)
  | (with_reducible refine iteNT ?_) | (with_reducible refine iteNF ?_) | (with_reducible refine iteT ?_) | (with_reducible refine iteF ?_)
  | (dsimp only [Bool.not_true, Bool.not_false, List.cons_append, List.nil_append]))))

local macro_rules | `(tactic| walk_at "st") => `(tactic| first | exact Same.refl _ | assumption | (refine Same.trans (by assumption) ?_; walk_at "st"))
local macro_rules | `(tactic| walk_at "ok") => `(tactic| first | assumption | exact up_tm (by assumption) (by walk_at "st") | exact up_sqT (by assumption) (by walk_at "st") | exact up_get (by assumption) (by walk_at "st") | exact up_getL (by assumption) (by walk_at "st") | exact up_getT (by assumption) (by walk_at "st") | exact up_sqL (by assumption) (by walk_at "st") | exact up_tms (by assumption) (by walk_at "st") | exact up_tnD (by assumption) (by walk_at "st") | exact up_tn (by assumption) (by walk_at "st") | exact ⟨_, up_getL (by assumption) (by walk_at "st")⟩ | exact ⟨_, up_sqL (by assumption) (by walk_at "st")⟩)

def sp_mixed : Sp := fun vs H Q _ => ∃ c k : Int, vs = [.int c, .int k] ∧ ∀ r : Int, Q (.int r) H
def sp_take : Sp := fun vs H Q _ => ∃ (p : Addr) (m : Int), vs = [.ref p, .int m] ∧ PileAt H p ∧ 0 < m ∧ m < 2 ^ 100 ∧ ∀ (r : Int) (H' : Hp), 0 ≤ r → r < m → PileAt H' p → But p H H' → Q (.int r) H'
section
variable {P : Program} {w : World} {K : PySem.W.Frag} {mg : Str → Option Value} {base : Heap} {a : Ad}
theorem G__law_mixed (T : Txt K mg a) : FnOk P w K mg base CX0 1 a.f__law_mixed a.d__law_mixed ["_law_cell", "_law_k"] sp_mixed := by
  refine T.F__law_mixed.ok sc__law_mixed (fun vs H Q E h => ?_) (fun cdv A outer s H vs Q E hr h => ?_)
  · obtain ⟨c, k, rfl, _⟩ := h
    rfl
  · obtain ⟨c, k, rfl, q⟩ := h
    refine ⟨_, (pss_cons (ps_set (i := 2) sc__law_mixed.nd rfl (.inl rfl) (pe_op op_mod (pe_op op_add (pe_op op_add (pe_op op_mul (pv 0) pe_int) (pe_op op_mul (pv 1) pe_int)) pe_int) pe_int))
        (pss_cons (ps_set (i := 2) sc__law_mixed.nd rfl (.inl rfl) (pe_op op_mod (pe_op op_mul (pv 2) (pv 2)) pe_int))
        (pss_one (ps_ret (pe_op op_fdiv (pe_op op_mod (pe_op op_mul (pv 2) (pv 2)) pe_int) pe_int))))), ?_⟩
    walk_at "rd"
    exact q _
theorem G__law_take (T : Txt K mg a) : FnOk P w K mg base CX0 2 a.f__law_take a.d__law_take ["_law_pile_here", "_law_many"] sp_take := by
  refine T.F__law_take.ok sc__law_take (fun vs H Q E h => ?_) (fun cdv A outer s H vs Q E hr h => ?_)
  · obtain ⟨p, m, rfl, _⟩ := h
    rfl
  · obtain ⟨p, m, rfl, ⟨d, c, n, hp, d0, d1⟩, m0, m1, q⟩ := h
    have hD : CDivW d m := wide_div (b := 100) m0 (by omega) (by decide) (by decide)
    refine ⟨_, (pss_cons (ps_if (pt_cmpR op_eq (pe_ix (ix_listK K) (pv 0) pe_int (fun _ _ => rfl)) pe_int (nomark _)) (pss_cons (ps_asg (pe_op op_add (pe_ix (ix_listK K) (pv 0) pe_int (fun _ _ => rfl)) pe_int) (pg_sub (pv 0) pe_int set_list))
        (pss_one (ps_ret (pe_op op_mod (pe_call (G__law_mixed (K := K) T) (hr.mono (by decide)) (by rfl) T.g__law_mixed T.F__law_mixed.kp T.b__law_mixed .nil pass0 (pa_cons (pe_ix (ix_listK K) (pv 0) pe_int (fun _ _ => rfl)) (pa_cons (pe_ix (ix_listK K) (pv 0) pe_int (fun _ _ => rfl)) pa_nil))) (pv 1))))) pss_nil)
        (pss_cons (ps_set (i := 2) sc__law_take.nd rfl (.inl rfl) (pe_op op_mod (pe_ix (ix_listK K) (pv 0) pe_int (fun _ _ => rfl)) (pv 1)))
        (pss_cons (ps_asg (pe_op op_fdivW (pe_ix (ix_listK K) (pv 0) pe_int (fun _ _ => rfl)) (pv 1)) (pg_sub (pv 0) pe_int set_list))
        (pss_one (ps_ret (pv 2)))))), ?_⟩
    walk_at "rd"
    refine r_dec (fun e => ?_) (fun e => ?_)
    · walk_at "rd"
      have h2 : (upd H p (.lst [.int d, .int c, .int (n + 1)])) p = some (.lst [.int d, .int c, .int (n + 1)]) := upd_same
      refine r_ixL (sqL h2) rfl ?_
      walk_at "rd"
      refine r_ixL (sqL h2) rfl ?_
      walk_at "rd"
      refine ⟨_, _, rfl, fun r => ?_⟩
      walk_at "rd"
      exact q _ _ (Int.emod_nonneg _ (by omega)) (Int.emod_lt_of_pos _ m0) ⟨d, c, n + 1, h2, d0, d1⟩ ((But.refl p H).put)
    · walk_at "rd"
      refine r_I hD ?_
      walk_at "rd"
      exact q _ _ (Int.emod_nonneg _ (by omega)) (Int.emod_lt_of_pos _ m0) ⟨d / m, c, n, upd_same, Int.ediv_nonneg d0 (by omega), Int.lt_of_le_of_lt (Int.ediv_le_self _ d0) d1⟩ ((But.refl p H).put)
def sp_pile (K : PySem.W.Frag) : Sp := fun vs H Q _ => ∃ (b : Addr) (ns : List Int) (k : Nat), vs = [.ref b, .int k] ∧ SqL K H b (ns.map V.int) ∧ ∀ (p : Addr) (H' : Hp), H p = none → Same H H' → PileAt H' p → Q (.ref p) H'
theorem G__law_pile (T : Txt K mg a) : FnOk P w K mg base CX0 1 a.f__law_pile a.d__law_pile ["_law_script", "_law_k"] (sp_pile K) := by
  refine T.F__law_pile.ok sc__law_pile (fun vs H Q E h => ?_) (fun cdv A outer s H vs Q E hr h => ?_)
  · obtain ⟨b, ns, k, rfl, _⟩ := h
    rfl
  · obtain ⟨b, ns, k, rfl, hs, q⟩ := h
    refine ⟨_, (pss_cons (ps_set (i := 2) sc__law_pile.nd rfl (.inl rfl) pe_int)
        (C8.pss_cut (ps_if (pt_cmpR op_lt (pv 1) (pe_callB (call_len_seqK K) (by rfl) T.n_len PySem.boot_len (pa_cons (pv 0) pa_nil)) (nomark _)) (pss_one (ps_set (i := 2) sc__law_pile.nd rfl (.inl rfl) (pe_ix (ix_listK K) (pv 0) (pv 1) (fun _ _ => rfl)))) pss_nil)
        (pss_cons (ps_set (i := 3) sc__law_pile.nd rfl (.inl rfl) (pe_op op_mod (pv 2) (pe_op op_mulW (pe_op op_mulW (pe_op op_pow pe_int pe_int) (pe_op op_pow pe_int pe_int)) (pe_op op_pow pe_int pe_int))))
        (pss_one (ps_ret (pe_lst (pa_cons (pe_op op_mulW (pv 3) (pe_callTy call_int1 (by rfl) T.n_int (by decide +kernel) (pa_cons (pe_cmpR op_ge (pe_callB call_abs (by rfl) T.n_abs (by decide +kernel) (pa_cons (pv 2) pa_nil)) (pe_op op_pow pe_int pe_int) (nomark _)) pa_nil))) (pa_cons (pe_op op_mod (pv 2) pe_int) (pa_cons (pe_op op_mul pe_int (pv 1)) pa_nil))))))))), ?_⟩
    walk_at "rd"
    refine ⟨fun σ' H' => ∃ c : Int, σ' = [some (.ref b), some (.int k), some (.int c), none] ∧ H' = H, ?_, ?_⟩
    · walk_at "rd"
      refine r_dec (fun e => ?_) (fun e => ?_)
      · walk_at "rd"
        rw [List.length_map] at e
        have hk : k < ns.length := by omega
        refine r_ixL hs (atI_nat (j := k) (v := .int ns[k]) (by rw [List.getElem?_map, List.getElem?_eq_getElem hk]; rfl)) ?_
        walk_at "rd"
      · walk_at "rd"
    · rintro σ' H' ⟨c, rfl, rfl⟩
      walk_at "rd"
      refine r_I (wide_mul (a := 200) (b := 200) (by decide +kernel) (by decide +kernel) (by decide) (by decide) (by decide)) ?_
      walk_at "rd"
      refine r_I (wide_mul (a := 400) (b := 200) (by decide +kernel) (by decide +kernel) (by decide) (by decide) (by decide)) ?_
      have hB : (0 : Int) < 10 ^ Int.toNat 60 * 10 ^ Int.toNat 60 * 10 ^ Int.toNat 60 := by decide +kernel
      have hB2 : (10 : Int) ^ Int.toNat 60 * 10 ^ Int.toNat 60 * 10 ^ Int.toNat 60 < 2 ^ 700 := by decide +kernel
      generalize hBB : (10 : Int) ^ Int.toNat 60 * 10 ^ Int.toNat 60 * 10 ^ Int.toNat 60 = B at hB hB2 ⊢
      have r0 := Int.emod_nonneg c (show B ≠ 0 by omega)
      have r1 := Int.emod_lt_of_pos c hB
      have rn : (c % B).natAbs < 2 ^ 700 := by omega
      walk_at "rd"
      generalize (10 : Int) ^ Int.toNat 18 = B2
      generalize (decide (B2 ≤ if c < 0 then -c else c)) = bb
      have b1 : (if bb = true then (1 : Int) else 0) = 1 ∨ (if bb = true then (1 : Int) else 0) = 0 := by cases bb <;> simp
      generalize (if bb = true then (1 : Int) else 0) = t at b1 ⊢
      refine r_I (wide_mul (a := 700) (b := 2) rn (by omega) (by decide) (by decide) (by decide)) ?_
      walk_at "rd"
      refine ⟨by show 3 ≤ sizeLine; decide, fun p hp => q p _ hp (same_new hp) ⟨_, _, _, upd_same, ?_, ?_⟩⟩
      · rcases b1 with e | e <;> rw [e] <;> omega
      · rcases b1 with e | e <;> rw [e] <;> omega
end
end Pf

namespace Pf
open PySem PySem.Spec PyProof.Rows L2
local macro_rules | `(tactic| walk_at "rd") => `(tactic| (repeat' (first
  | with_reducible refine r_seq ?_ | with_reducible refine r_asg ?_ | with_reducible refine r_ret ?_ | with_reducible refine r_retN ?_ | with_reducible refine r_drop ?_ | with_reducible refine r_if ?_
  | with_reducible refine r_op ?_ | (with_reducible show tVar _ _ _ _; refine r_var rfl ?_) | with_reducible refine r_c ?_ | with_reducible refine r_I0 ?_ | (with_reducible refine r_I ?c ?_; (case c => first | (show (0 : Int) < _; first | decide | assumption | omega) | exact cmul_r ⟨by decide, by decide⟩ | exact cmul_l ⟨by decide, by decide⟩ | exact cmul_r (by first | assumption | constructor <;> omega) | (unfold CDiv; constructor <;> decide) | (unfold CPow; refine ⟨?_, ?_, ?_⟩ <;> decide))) | with_reducible refine r_name ?_ | (with_reducible show rIxL _ _ _ _ _; refine r_ixL (sqL (by assumption)) rfl ?_) | (with_reducible show rIxT _ _ _ _ _; refine r_ixT (by assumption) rfl ?_) | (with_reducible show rSetL _ _ _ _ _; refine r_setL (by assumption) rfl ?_) | with_reducible refine r_test ?_ | with_reducible refine r_tB ?_ | with_reducible refine r_bl ?_
  | with_reducible refine r_not ?_ | with_reducible refine r_and ?_ | with_reducible refine r_or ?_ | with_reducible refine r_andV ?_ | with_reducible refine r_orV ?_ | with_reducible refine r_notV ?_ | with_reducible refine r_ifE ?_
  | with_reducible refine r_cons ?_ | with_reducible refine r_nil ?_ | with_reducible refine r_cb ?_ | with_reducible refine r_call ?_ | with_reducible refine r_lst ?_ | with_reducible refine r_tup ?_ | with_reducible refine r_bm ?_ | with_reducible refine r_bm0 ?_
  | with_reducible refine r_un ?_ | with_reducible refine r_U ?_ | with_reducible refine r_eqI ?_ | with_reducible refine r_eqS ?_ | with_reducible refine r_neI ?_ | with_reducible refine r_neS ?_ | with_reducible refine r_sub ?_ | with_reducible refine r_gcons ?_ | with_reducible refine r_gnil ?_
  | with_reducible refine r_chain ?_ | with_reducible refine r_get2 ?_ | with_reducible refine r_iList ?_ | with_reducible refine r_iStr ?_ | with_reducible refine r_iTup ?_ | with_reducible refine r_iRev ?_ | with_reducible refine r_iItems ?_ | with_reducible refine r_rng ?_ | with_reducible refine r_inS ?_ | with_reducible refine r_bI ?_ | with_reducible refine r_abs ?_ | with_reducible refine r_sl ?_ | with_reducible refine r_next ?_ | with_reducible refine r_yes ?_
  | (with_reducible show rLen _ _ _ _; first | refine r_lenK (sqL (by assumption)) ?_ | refine r_lenK (by assumption) ?_ | refine r_lenTK (by assumption) ?_)
  | (with_reducible show tFor _ _ _ _ _ _; unfold tFor) | (with_reducible show tLc _ _ _ _ _ _ _ _; unfold tLc) | (with_reducible show tWhile _ _ _ _ _; unfold tWhile)
  | (with_reducible refine ⟨_, rfl, ?_⟩) | (with_reducible refine ⟨_, _, rfl, rfl, ?_⟩) | (with_reducible refine Or.inr ⟨_, rfl, ?_⟩) | (refine ⟨_, _, rfl, Or.inl (by assumption), ?_⟩; skip) | (refine ⟨_, _, rfl, Or.inr (by assumption), ?_⟩; skip)
  | (with_reducible refine iteNT ?_) | (with_reducible refine iteNF ?_) | (with_reducible refine iteT ?_) | (with_reducible refine iteF ?_)
  | (dsimp only [Bool.not_true, Bool.not_false, List.cons_append, List.nil_append]))))

local macro_rules | `(tactic| walk_at "st") => `(tactic| first | exact Same.refl _ | assumption | (refine Same.trans (by assumption) ?_; walk_at "st"))
local macro_rules | `(tactic| walk_at "ok") => `(tactic| first | assumption | exact up_tm (by assumption) (by walk_at "st") | exact up_sqT (by assumption) (by walk_at "st") | exact up_get (by assumption) (by walk_at "st") | exact up_getL (by assumption) (by walk_at "st") | exact up_getT (by assumption) (by walk_at "st") | exact up_sqL (by assumption) (by walk_at "st") | exact up_tms (by assumption) (by walk_at "st") | exact up_tnD (by assumption) (by walk_at "st") | exact up_tn (by assumption) (by walk_at "st") | exact ⟨_, up_getL (by assumption) (by walk_at "st")⟩ | exact ⟨_, up_sqL (by assumption) (by walk_at "st")⟩)

def sp_name : Sp := fun vs H Q _ => ∃ p : Addr, vs = [.ref p] ∧ PileAt H p ∧ ∀ (w : Str) (H' : Hp), NameOk w → PileAt H' p → But p H H' → Q (.str w) H'
section
variable {P : Program} {w : World} {K : PySem.W.Frag} {mg : Str → Option Value} {base : Heap} {a : Ad}
theorem G__law_name (T : Txt K mg a) : FnOk P w K mg base CX0 3 a.f__law_name a.d__law_name ["_law_pile_here"] sp_name := by
  refine T.F__law_name.ok sc__law_name (fun vs H Q E h => ?_) (fun cdv A outer s H vs Q E hr h => ?_)
  · obtain ⟨p, rfl, _⟩ := h
    rfl
  · obtain ⟨p, rfl, hp, q⟩ := h
    refine ⟨_, (pss_cons (ps_set (i := 1) sc__law_name.nd rfl (.inl rfl) (pe_call (G__law_take (K := K) T) (hr.mono (by decide)) (by rfl) T.g__law_take T.F__law_take.kp T.b__law_take .nil pass0 (pa_cons (pv 0) (pa_cons pe_int pa_nil))))
        (pss_cons (ps_set (i := 2) sc__law_name.nd rfl (.inl rfl) pe_str)
        (pss_cons (ps_set (i := 3) sc__law_name.nd rfl (.inl rfl) (pe_ix ix_str (pv 2) (pe_call (G__law_take (K := K) T) (hr.mono (by decide)) (by rfl) T.g__law_take T.F__law_take.kp T.b__law_take .nil pass0 (pa_cons (pv 0) (pa_cons (pe_ix (ix_listK K) (pe_lst (pa_cons pe_int (pa_cons pe_int pa_nil))) (pe_callTy call_int1 (by rfl) T.n_int (by decide +kernel) (pa_cons (pe_cmpR op_gt (pv 1) pe_int (nomark _)) pa_nil)) (fun _ _ => rfl)) pa_nil))) (fun _ _ => rfl)))
        (C8.pss_cut (ps_if (pt_cmpR op_eq (pv 1) pe_int (nomark _)) (pss_one (ps_set (i := 3) sc__law_name.nd rfl (.inl rfl) (pe_op op_add_str (pv 3) (pe_callTy call_str_int (by rfl) T.n_str (by decide +kernel) (pa_cons (pe_call (G__law_take (K := K) T) (hr.mono (by decide)) (by rfl) T.g__law_take T.F__law_take.kp T.b__law_take .nil pass0 (pa_cons (pv 0) (pa_cons pe_int pa_nil))) pa_nil))))) pss_nil)
        (pss_cons (ps_if (pt_cmpR op_eq (pv 1) pe_int (nomark _)) (pss_one (ps_for PassesOwn.never rfl (pi_range1 (by rfl) T.n_range (pa_cons (pe_op op_add pe_int (pe_call (G__law_take (K := K) T) (hr.mono (by decide)) (by rfl) T.g__law_take T.F__law_take.kp T.b__law_take .nil pass0 (pa_cons (pv 0) (pa_cons pe_int pa_nil)))) pa_nil)) (pg_name (i := 4) sc__law_name.nd rfl (by first | exact Or.inl rfl | exact Or.inr rfl)) (pss_one (ps_set (i := 3) sc__law_name.nd rfl (.inl rfl) (pe_op op_add_str (pv 3) (pe_ix ix_str (pe_op op_add_str (pv 2) pe_str) (pe_call (G__law_take (K := K) T) (hr.mono (by decide)) (by rfl) T.g__law_take T.F__law_take.kp T.b__law_take .nil pass0 (pa_cons (pv 0) (pa_cons pe_int pa_nil))) (fun _ _ => rfl))))))) pss_nil)
        (pss_one (ps_ret (pv 3)))))))), ?_⟩
    walk_at "rd"
    refine ⟨p, 4, rfl, hp, by decide, by decide, fun kd H1 k0 k1 hp1 b1 => ?_⟩
    walk_at "rd"
    refine ⟨by show 2 ≤ sizeLine; decide, fun l nl => ?_⟩
    walk_at "rd"
    have hix : ∃ m : Int, atI [V.int 5, V.int 26] (if decide (1 < kd) = true then (1 : Int) else 0) = some (.int m) ∧ (m = 5 ∨ m = 26) := by
      by_cases e : 1 < kd
      · exact ⟨26, by rw [decide_eq_true e]; rfl, .inr rfl⟩
      · exact ⟨5, by rw [decide_eq_false e]; rfl, .inl rfl⟩
    obtain ⟨m, em, hm⟩ := hix
    refine r_ixL (sqL upd_same) em ?_
    walk_at "rd"
    have hp2 : PileAt (upd H1 l (.lst [.int 5, .int 26])) p := hp1.same (same_new nl)
    have b2 : But p H (upd H1 l (.lst [.int 5, .int 26])) := b1.new nl
    refine ⟨p, m, rfl, hp2, by omega, by omega, fun r H2 r0 r1 hp3 b3 => ?_⟩
    obtain ⟨c, ec, hc⟩ := at_mem (l := smallS.cps.toList) (i := r) r0 (by
      have e : smallS.cps.toList.length = 26 := by decide +kernel
      omega)
    refine r_ixS (z := smallS) (by decide +kernel) ec ?_
    walk_at "rd"
    have b4 := b2.trans b3
    refine ⟨fun σ' H' => ∃ nm : Str, σ' = [some (.ref p), some (.int kd), some (.str smallS), some (.str nm), none] ∧ NameOk nm ∧ (kd = 3 → nm.length = 1) ∧ PileAt H' p ∧ But p H H', ?_, ?_⟩
    · walk_at "rd"
      refine r_dec (fun e => ?_) (fun e => ?_)
      · walk_at "rd"
        refine ⟨p, 4, rfl, hp3, by decide, by decide, fun d H3 d0 d1 hp5 b5 => ?_⟩
        obtain ⟨y, ey, hy, _⟩ := dig4 d0 d1
        refine ⟨d, rfl, log_small d0 (by omega), ?_⟩
        rw [ey]
        refine ⟨_, _, rfl, rfl, by show 1 + 1 ≤ sizeLine; decide, ?_⟩
        walk_at "rd"
        exact ⟨(WordOk.one (L := smallS) hc).more (by show 1 ≤ 7; decide) hy, by omega, hp5, b4.trans b5⟩
      · walk_at "rd"
        exact ⟨WordOk.one hc, fun _ => rfl, hp3, b4⟩
    · rintro σ' H' ⟨nm, rfl, hn, hl, hp', hb'⟩
      walk_at "rd"
      refine r_dec (fun e => ?_) (fun e => ?_)
      · walk_at "rd"
        refine ⟨p, 7, rfl, hp', by decide, by decide, fun m H3 m0 m1 hp5 b5 => ?_⟩
        walk_at "rd"
        refine ⟨by omega, by omega, ?_⟩
        refine forN_range (fun i σ H4 => ∃ (nm : Str) (y : Option V), σ = [some (.ref p), some (.int kd), some (.str smallS), some (.str nm), y] ∧ NameOk nm ∧ nm.length = 1 + i ∧ PileAt H4 p ∧ But p H H4) ⟨nm, none, rfl, hn, hl e, hp5, hb'.trans b5⟩ (fun i σ H4 hi hP => ?_) (fun σ H4 hP => ?_)
        · obtain ⟨nm, y, rfl, hn, hl, hp6, b6⟩ := hP
          walk_at "rd"
          refine ⟨by show 26 + 10 ≤ sizeLine; decide, ?_⟩
          walk_at "rd"
          refine ⟨p, 36, rfl, hp6, by decide, by decide, fun r H5 r0 r1 hp7 b7 => ?_⟩
          obtain ⟨c, ec, hc⟩ := at_mem (l := (smallS ++ figS).cps.toList) (i := r) r0 (by
            have e : (smallS ++ figS).cps.toList.length = 36 := by decide +kernel
            omega)
          refine r_ixS (z := smallS ++ figS) (by decide +kernel) ec ?_
          have hz : nm.length + (⟨#[c]⟩ : Str).length ≤ sizeLine := by
            show nm.length + 1 ≤ sizeLine
            rw [sizeLine_eq]; omega
          refine ⟨_, _, rfl, rfl, hz, ?_⟩
          walk_at "rd"
          refine ⟨_, some (.int (0 + (i : Nat))), rfl, hn.more (by omega) hc, ?_, hp7, b6.trans b7⟩
          rw [len_cps, app_cps, List.length_append, ← len_cps]
          show nm.length + 1 = 1 + (i + 1)
          omega
        · obtain ⟨nm, y, rfl, hn, hl, hp6, b6⟩ := hP
          walk_at "rd"
          exact q _ _ hn hp6 b6
      · walk_at "rd"
        exact q _ _ hn hp' hb'
end
end Pf

namespace Pf
open PySem PySem.Spec PyProof.Rows L2
local macro_rules | `(tactic| walk_at "rd") => `(tactic| (repeat' (first
  | with_reducible refine r_seq ?_ | with_reducible refine r_asg ?_ | with_reducible refine r_ret ?_ | with_reducible refine r_retN ?_ | with_reducible refine r_drop ?_ | with_reducible refine r_if ?_
  | with_reducible refine r_op ?_ | (with_reducible show tVar _ _ _ _; refine r_var rfl ?_) | with_reducible refine r_c ?_ | with_reducible refine r_I0 ?_ | (with_reducible refine r_I ?c ?_; (case c => first | (show (0 : Int) < _; first | decide | assumption | omega) | exact cmul_r ⟨by decide, by decide⟩ | exact cmul_l ⟨by decide, by decide⟩ | exact cmul_r (by first | assumption | constructor <;> omega) | (unfold CDiv; constructor <;> decide) | (unfold CPow; refine ⟨?_, ?_, ?_⟩ <;> decide))) | with_reducible refine r_name ?_ | (with_reducible show rIxL _ _ _ _ _; refine r_ixL (sqL (by assumption)) rfl ?_) | (with_reducible show rIxT _ _ _ _ _; refine r_ixT (by assumption) rfl ?_) | (with_reducible show rSetL _ _ _ _ _; refine r_setL (by assumption) rfl ?_) | with_reducible refine r_test ?_ | with_reducible refine r_tB ?_ | with_reducible refine r_bl ?_
  | with_reducible refine r_not ?_ | with_reducible refine r_and ?_ | with_reducible refine r_or ?_ | with_reducible refine r_andV ?_ | with_reducible refine r_orV ?_ | with_reducible refine r_notV ?_ | with_reducible refine r_ifE ?_
  | with_reducible refine r_cons ?_ | with_reducible refine r_nil ?_ | with_reducible refine r_cb ?_ | with_reducible refine r_call ?_ | with_reducible refine r_lst ?_ | with_reducible refine r_tup ?_ | with_reducible refine r_bm ?_ | with_reducible refine r_bm0 ?_
  | with_reducible refine r_un ?_ | with_reducible refine r_U ?_ | with_reducible refine r_eqI ?_ | with_reducible refine r_eqS ?_ | with_reducible refine r_neI ?_ | with_reducible refine r_neS ?_ | with_reducible refine r_sub ?_ | with_reducible refine r_gcons ?_ | with_reducible refine r_gnil ?_
  | with_reducible refine r_chain ?_ | with_reducible refine r_get2 ?_ | with_reducible refine r_iList ?_ | with_reducible refine r_iStr ?_ | with_reducible refine r_iTup ?_ | with_reducible refine r_iRev ?_ | with_reducible refine r_iItems ?_ | with_reducible refine r_rng ?_ | with_reducible refine r_inS ?_ | with_reducible refine r_bI ?_ | with_reducible refine r_abs ?_ | with_reducible refine r_sl ?_ | with_reducible refine r_next ?_ | with_reducible refine r_yes ?_
  | (with_reducible show rLen _ _ _ _; first | refine r_lenK (sqL (by assumption)) ?_ | refine r_lenK (by assumption) ?_ | refine r_lenTK (by assumption) ?_)
  | (with_reducible show tFor _ _ _ _ _ _; unfold tFor) | (with_reducible show tLc _ _ _ _ _ _ _ _; unfold tLc) | (with_reducible show tWhile _ _ _ _ _; unfold tWhile)
  | (with_reducible refine ⟨_, rfl, ?_⟩) | (with_reducible refine ⟨_, _, rfl, rfl, ?_⟩) | (with_reducible refine Or.inr ⟨_, rfl, ?_⟩) | (refine ⟨_, _, rfl, Or.inl (by assumption), ?_⟩; skip) | (refine ⟨_, _, rfl, Or.inr (by assumption), ?_⟩; skip)
  | (with_reducible refine iteNT ?_) | (with_reducible refine iteNF ?_) | (with_reducible refine iteT ?_) | (with_reducible refine iteF ?_)
  | (dsimp only [Bool.not_true, Bool.not_false, List.cons_append, List.nil_append]))))

local macro_rules | `(tactic| walk_at "st") => `(tactic| first | exact Same.refl _ | assumption | (refine Same.trans (by assumption) ?_; walk_at "st"))
local macro_rules | `(tactic| walk_at "ok") => `(tactic| first | assumption | exact up_tm (by assumption) (by walk_at "st") | exact up_sqT (by assumption) (by walk_at "st") | exact up_get (by assumption) (by walk_at "st") | exact up_getL (by assumption) (by walk_at "st") | exact up_getT (by assumption) (by walk_at "st") | exact up_sqL (by assumption) (by walk_at "st") | exact up_tms (by assumption) (by walk_at "st") | exact up_tnD (by assumption) (by walk_at "st") | exact up_tn (by assumption) (by walk_at "st") | exact ⟨_, up_getL (by assumption) (by walk_at "st")⟩ | exact ⟨_, up_sqL (by assumption) (by walk_at "st")⟩)

/-- unlike names, drawn -/
def sp_names (most : Int) : Sp := fun vs H Q _ => ∃ (p : Addr) (m : Int), vs = [.ref p, .int m] ∧ PileAt H p ∧ 0 ≤ m ∧ m ≤ 8 ∧ ∀ (l : Addr) (ns : List Str) (H' : Hp), (ns.length : Int) = m → ns.Nodup → (∀ n ∈ ns, NameOk n) → H l = none → H' l = some (.lst (ns.map V.str)) → PileAt H' p → But p H H' → Q (.ref l) H'
theorem flat_strs (ns : List Str) : (ns.map V.str).all flatV = true := by
  rw [List.all_eq_true]
  intro x hx
  obtain ⟨n, _, rfl⟩ := List.mem_map.mp hx
  rfl
theorem inV_strs (n : Str) (ns : List Str) : inV (V.str n) (ns.map V.str) = decide (n ∈ ns) := by
  unfold inV
  rw [List.any_map]
  by_cases h : n ∈ ns
  · rw [decide_eq_true h]
    exact List.any_eq_true.mpr ⟨n, h, by simp [eqV]⟩
  · rw [decide_eq_false h]
    refine Bool.eq_false_iff.mpr fun z => ?_
    obtain ⟨x, hx, e⟩ := List.any_eq_true.mp z
    have : x = n := by simpa [eqV] using e
    exact h (this ▸ hx)
abbrev eightS : List Str := ["a", "b", "c", "d", "e", "f", "g", "h"]
theorem eight_nd : eightS.Nodup := by decide +kernel
theorem eight_ok : ∀ n ∈ eightS, NameOk n := by
  intro n hn
  refine wordB_iff.mp ?_
  revert n hn
  decide +kernel
section
variable {P : Program} {w : World} {K : PySem.W.Frag} {mg : Str → Option Value} {base : Heap} {a : Ad}
theorem G__law_names (T : Txt K mg a) : FnOk P w K mg base CX0 4 a.f__law_names a.d__law_names ["_law_pile_here", "_law_many"] (sp_names 8) := by
  refine T.F__law_names.ok sc__law_names (fun vs H Q E h => ?_) (fun cdv A outer s H vs Q E hr h => ?_)
  · obtain ⟨p, m, rfl, _⟩ := h
    rfl
  · obtain ⟨p, m, rfl, hp, m0, m8, q⟩ := h
    refine ⟨_, (pss_cons (ps_set (i := 2) sc__law_names.nd rfl (.inr rfl) (pe_lst pa_nil))
        (pss_cons (ps_for PassesOwn.never rfl (pi_range1 (by rfl) T.n_range (pa_cons (pv 1) pa_nil)) (pg_name (i := 3) sc__law_names.nd rfl (by first | exact Or.inl rfl | exact Or.inr rfl)) (pss_cons (ps_set (i := 4) sc__law_names.nd rfl (.inl rfl) (pe_call (G__law_name (K := K) T) (hr.mono (by decide)) (by rfl) T.g__law_name T.F__law_name.kp T.b__law_name .nil pass0 (pa_cons (pv 0) pa_nil)))
        (C8.pss_cut (ps_if (pt_cmpR (op_in_seqK K) (pv 4) (pv 2) (by with_unfolding_all rfl)) (pss_one (ps_set (i := 4) sc__law_names.nd rfl (.inl rfl) (pe_ix (ix_listK K) (pe_lc (own := [("_law_one", 5)]) (by rfl) sc__law_names.nd (pi_listK K (pe_lst (pa_cons pe_str (pa_cons pe_str (pa_cons pe_str (pa_cons pe_str (pa_cons pe_str (pa_cons pe_str (pa_cons pe_str (pa_cons pe_str pa_nil)))))))))) (blkOk_by (N := N__law_names) (sc := defScope s__law_names) (by decide +kernel)) (fun _ _ _ _ _ => (pg_name (i := 5) sc__law_names.nd rfl (by first | exact Or.inl rfl | exact Or.inr rfl))) (fun _ _ _ _ _ => (pts_one (pt_cmpR (op_notIn_seqK K) (pv 5) (pv 2) (by with_unfolding_all rfl)))) (fun _ _ _ _ _ => (pv 5))) pe_int (fun _ _ => rfl)))) pss_nil)
        (pss_one (ps_expr (pe_bmK K PySem.F.plainAttrs_list PySem.F.slot_list_append PySem.F.type_list_append mt_append (pv 2) (pa_cons (pv 4) pa_nil)))))))
        (pss_one (ps_ret (pv 2))))), ?_⟩
    walk_at "rd"
    refine ⟨Nat.zero_le _, fun l nl => ?_⟩
    walk_at "rd"
    refine ⟨by omega, by omega, ?_⟩
    refine forN_range (fun i σ H4 => ∃ (ns : List Str) (y1 y2 : Option V), σ = [some (.ref p), some (.int m), some (.ref l), y1, y2, none] ∧ ns.length = i ∧ ns.Nodup ∧ (∀ n ∈ ns, NameOk n) ∧ H4 l = some (.lst (ns.map V.str)) ∧ PileAt H4 p ∧ But p H H4)
      ⟨[], none, none, rfl, rfl, List.nodup_nil, fun _ z => (nomatch z), upd_same, hp.same (same_new nl), .of (same_new nl)⟩ (fun i σ H4 hi hP => ?_) (fun σ H4 hP => ?_)
    · obtain ⟨ns, y1, y2, rfl, hlen, hnd, hok, hl, hp4, b4⟩ := hP
      walk_at "rd"
      refine ⟨p, rfl, hp4, fun w H5 hw hp5 b5 => ?_⟩
      have npl : l ≠ p := (hp.ne nl).symm
      have hl5 : H5 l = some (.lst (ns.map V.str)) := b5 _ _ npl hl
      walk_at "rd"
      refine ⟨fun σ' H' => ∃ nm : Str, σ' = [some (.ref p), some (.int m), some (.ref l), some (.int (0 + (i : Nat))), some (.str nm), none] ∧ NameOk nm ∧ nm ∉ ns ∧ Same H5 H', ?_, ?_⟩
      · walk_at "rd"
        refine r_in (sqL hl5) rfl (flat_strs ns) ?_
        rw [inV_strs]
        walk_at "rd"
        refine r_dec (fun e => ?_) (fun e => ?_)
        · walk_at "rd"
          refine ⟨by show 8 ≤ sizeLine; decide, fun l8 n8 => ?_⟩
          refine ⟨l8, rfl, ⟨_, sqL upd_same⟩, fun D nD => ?_⟩
          have h8 : (upd H5 l8 (.lst (eightS.map V.str))) l8 = some (.lst (eightS.map V.str)) := upd_same
          refine lc_list (K := K) (a := l8) (xs := eightS.map V.str) (LcI (upd H5 l8 (.lst (eightS.map V.str))) D fun i acc _ => acc = ((eightS.take i).filter fun n => decide (n ∉ ns)).map V.str) (LcI.zero nD rfl) (fun i H _ h => h.1.seq (sqL h8)) (fun i x H hx hP => ?_) (fun H hP => ?_)
          · obtain ⟨s6, acc, hD, hal, rfl⟩ := hP
            rw [List.getElem?_map] at hx
            obtain ⟨n, hn, rfl⟩ := Option.map_eq_some_iff.mp hx
            have hi : i < 8 := (List.getElem?_eq_some_iff.mp hn).1
            have hl6 : H l = some (.lst (ns.map V.str)) := s6 _ _ ((same_new n8) _ _ hl5)
            walk_at "rd"
            refine ⟨rfl, ?_⟩
            walk_at "rd"
            refine r_notIn (sqL hl6) rfl (flat_strs ns) ?_
            rw [inV_strs]
            walk_at "rd"
            refine r_ndec (fun e => ?_) (fun e => ?_)
            · walk_at "rd"
              refine LcI.keep nD s6 hD hal (by omega) (Same.refl _) ?_
              rw [take_snoc hn, List.filter_append, List.map_append]
              simp [e]
            · refine LcI.skip s6 hD hal (Same.refl _) ?_
              rw [take_snoc hn, List.filter_append, List.map_append]
              simp [e]
          · obtain ⟨s6, acc, hD, hal, rfl⟩ := hP
            obtain ⟨x, hx, hxn⟩ := not_all_in eightS ns eight_nd (by show ns.length < 8; omega)
            have hf : x ∈ (eightS.take (eightS.map V.str).length).filter fun n => decide (n ∉ ns) := List.mem_filter.mpr ⟨by simpa using hx, by simpa using hxn⟩
            generalize hfl : (eightS.take (eightS.map V.str).length).filter (fun n => decide (n ∉ ns)) = fl at hf hD
            cases fl with
            | nil => cases hf
            | cons y r =>
              have hy : y ∈ (eightS.take (eightS.map V.str).length).filter fun n => decide (n ∉ ns) := by rw [hfl]; exact List.mem_cons_self
              have hy2 := List.mem_filter.mp hy
              walk_at "rd"
              refine r_ixL (sqL hD) (v := .str y) (atI_nat (j := 0) rfl) ?_
              walk_at "rd"
              exact ⟨eight_ok y (List.mem_of_mem_take hy2.1), by simpa using hy2.2, (same_new n8).trans s6⟩
        · walk_at "rd"
          exact ⟨hw, e, Same.refl _⟩
      · rintro σ' H' ⟨nm, rfl, hn, hnn, s5⟩
        walk_at "rd"
        have hl6 := s5 _ _ hl5
        refine ⟨.inl ⟨rfl, _, sqL hl6⟩, ?_⟩
        walk_at "rd"
        refine ⟨l, _, nm |> V.str, rfl, rfl, hl6, ?_, ?_⟩
        · rw [List.length_map]; exact small1000 (by omega)
        · refine ⟨ns ++ [nm], _, _, rfl, by rw [List.length_append]; show ns.length + 1 = i + 1; omega, ?_, fun n hx => ?_, ?_, (hp5.same s5).but (fun b o nb e => by rw [upd_ne nb]; exact e) npl.symm, ?_⟩
          · rw [List.nodup_append]
            refine ⟨hnd, List.nodup_cons.mpr ⟨List.not_mem_nil, List.nodup_nil⟩, fun a ha b hb => ?_⟩
            rw [List.mem_singleton.mp hb]
            exact fun e => hnn (e ▸ ha)
          · rcases List.mem_append.mp hx with z | z
            · exact hok n z
            · rw [List.mem_singleton.mp z]; exact hn
          · rw [upd_same, List.map_append]; rfl
          · intro b o nb e
            have nbl : b ≠ l := ne_of_none e nl
            rw [upd_ne nbl]
            exact s5 _ _ (b5 _ _ nb (b4 _ _ nb e))
    · obtain ⟨ns, y1, y2, rfl, hlen, hnd, hok, hl, hp4, b4⟩ := hP
      walk_at "rd"
      exact q l ns H4 (by omega) hnd hok nl hl hp4 b4
end
end Pf

namespace Pf
open PySem PySem.Spec PyProof.Rows L2
local macro_rules | `(tactic| walk_at "rd") => `(tactic| (repeat' (first
  | with_reducible refine r_seq ?_ | with_reducible refine r_asg ?_ | with_reducible refine r_ret ?_ | with_reducible refine r_retN ?_ | with_reducible refine r_drop ?_ | with_reducible refine r_if ?_
  | with_reducible refine r_op ?_ | (with_reducible show tVar _ _ _ _; refine r_var rfl ?_) | with_reducible refine r_c ?_ | with_reducible refine r_I0 ?_ | (with_reducible refine r_I ?c ?_; (case c => first | (show (0 : Int) < _; first | decide | assumption | omega) | exact cmul_r ⟨by decide, by decide⟩ | exact cmul_l ⟨by decide, by decide⟩ | exact cmul_r (by first | assumption | constructor <;> omega) | (unfold CDiv; constructor <;> decide) | (unfold CPow; refine ⟨?_, ?_, ?_⟩ <;> decide))) | with_reducible refine r_name ?_ | (with_reducible show rIxL _ _ _ _ _; refine r_ixL (sqL (by assumption)) rfl ?_) | (with_reducible show rIxT _ _ _ _ _; refine r_ixT (by assumption) rfl ?_) | (with_reducible show rSetL _ _ _ _ _; refine r_setL (by assumption) rfl ?_) | with_reducible refine r_test ?_ | with_reducible refine r_tB ?_ | with_reducible refine r_bl ?_
  | with_reducible refine r_not ?_ | with_reducible refine r_and ?_ | with_reducible refine r_or ?_ | with_reducible refine r_andV ?_ | with_reducible refine r_orV ?_ | with_reducible refine r_notV ?_ | with_reducible refine r_ifE ?_
  | with_reducible refine r_cons ?_ | with_reducible refine r_nil ?_ | with_reducible refine r_cb ?_ | with_reducible refine r_call ?_ | with_reducible refine r_lst ?_ | with_reducible refine r_tup ?_ | with_reducible refine r_bm ?_ | with_reducible refine r_bm0 ?_
  | with_reducible refine r_un ?_ | with_reducible refine r_U ?_ | with_reducible refine r_eqI ?_ | with_reducible refine r_eqS ?_ | with_reducible refine r_neI ?_ | with_reducible refine r_neS ?_ | with_reducible refine r_sub ?_ | with_reducible refine r_gcons ?_ | with_reducible refine r_gnil ?_
  | with_reducible refine r_chain ?_ | with_reducible refine r_get2 ?_ | with_reducible refine r_iList ?_ | with_reducible refine r_iStr ?_ | with_reducible refine r_iTup ?_ | with_reducible refine r_iRev ?_ | with_reducible refine r_iItems ?_ | with_reducible refine r_rng ?_ | with_reducible refine r_inS ?_ | with_reducible refine r_bI ?_ | with_reducible refine r_abs ?_ | with_reducible refine r_sl ?_ | with_reducible refine r_next ?_ | with_reducible refine r_yes ?_
  | (with_reducible show rLen _ _ _ _; first | refine r_lenK (sqL (by assumption)) ?_ | refine r_lenK (by assumption) ?_ | refine r_lenTK (by assumption) ?_)
  | (with_reducible show tFor _ _ _ _ _ _; unfold tFor) | (with_reducible show tLc _ _ _ _ _ _ _ _; unfold tLc) | (with_reducible show tWhile _ _ _ _ _; unfold tWhile)
  | (with_reducible refine ⟨_, rfl, ?_⟩) | (with_reducible refine ⟨_, _, rfl, rfl, ?_⟩) | (with_reducible refine Or.inr ⟨_, rfl, ?_⟩) | (refine ⟨_, _, rfl, Or.inl (by assumption), ?_⟩; skip) | (refine ⟨_, _, rfl, Or.inr (by assumption), ?_⟩; skip)
  | (with_reducible refine iteNT ?_) | (with_reducible refine iteNF ?_) | (with_reducible refine iteT ?_) | (with_reducible refine iteF ?_)
  | (dsimp only [Bool.not_true, Bool.not_false, List.cons_append, List.nil_append]))))

local macro_rules | `(tactic| walk_at "st") => `(tactic| first | exact Same.refl _ | assumption | (refine Same.trans (by assumption) ?_; walk_at "st"))
local macro_rules | `(tactic| walk_at "ok") => `(tactic| first | assumption | exact up_tm (by assumption) (by walk_at "st") | exact up_sqT (by assumption) (by walk_at "st") | exact up_get (by assumption) (by walk_at "st") | exact up_getL (by assumption) (by walk_at "st") | exact up_getT (by assumption) (by walk_at "st") | exact up_sqL (by assumption) (by walk_at "st") | exact up_tms (by assumption) (by walk_at "st") | exact up_tnD (by assumption) (by walk_at "st") | exact up_tn (by assumption) (by walk_at "st") | exact ⟨_, up_getL (by assumption) (by walk_at "st")⟩ | exact ⟨_, up_sqL (by assumption) (by walk_at "st")⟩)

def sp_order (K : PySem.W.Frag) : Sp := fun vs H Q _ => ∃ (α : Type) (enc : α → PyData) (R : Hp → V → α → Prop) (p c : Addr) (xs : List V) (ns : List α), vs = [.ref p, .ref c] ∧ PileAt H p ∧ SqL K H c xs ∧ xs.length ≤ 40 ∧ Paired (R H) xs ns ∧
  (∀ H v a, R H v a → Dp K H v (enc a)) ∧ (∀ H H' v a, Tups H H' → R H v a → R H' v a) ∧ (∀ a ∈ ns, (enc a).canLay0 = true ∧ (enc a).depth ≤ 10) ∧
  ∀ (l : Addr) (ys : List V) (bs : List α) (H' : Hp), bs.Perm ns → Paired (R H') ys bs → H l = none → H' l = some (.lst ys) → PileAt H' p → But p H H' → Q (.ref l) H'
theorem shaped_any {α : Type} {enc : α → PyData} {l : List α} (h : ∀ a ∈ l, (enc a).canLay0 = true ∧ (enc a).depth ≤ 10) : SeqAt.shaped (.list (l.map enc)) = true :=
  shaped_iff.mpr ⟨canAll enc fun a ha => (h a ha).1, Nat.le_trans (Nat.succ_le_succ (depAll enc fun a ha => (h a ha).2)) (by decide)⟩
theorem pd_erase {α β : Type} {R : α → β → Prop} : ∀ {xs : List α} {ys : List β} (k : Nat), Paired R xs ys → Paired R (xs.eraseIdx k) (ys.eraseIdx k)
  | _, _, _, .nil => .nil
  | _, _, 0, .cons _ t => t
  | _, _, k + 1, .cons r t => .cons r (pd_erase k t)
section
variable {P : Program} {w : World} {K : PySem.W.Frag} {mg : Str → Option Value} {base : Heap} {a : Ad}
theorem G__law_order (T : Txt K mg a) : FnOk P w K mg base CX0 3 a.f__law_order a.d__law_order ["_law_pile_here", "_law_some"] (sp_order K) := by
  refine T.F__law_order.ok sc__law_order (fun vs H Q E h => ?_) (fun cdv A outer s H vs Q E hr h => ?_)
  · obtain ⟨_, _, _, p, c, xs, ns, rfl, _⟩ := h
    rfl
  · obtain ⟨α, enc, R, p, c, xs, ns, rfl, hp, hc, hl, hR, hD, hS, hok, q⟩ := h
    refine ⟨_, (pss_cons (ps_set (i := 2) sc__law_order.nd rfl (.inl rfl) (pe_callTy (call_list_ofK K) (by rfl) T.n_list (by decide +kernel) (pa_cons (pv 1) pa_nil)))
        (pss_cons (ps_set (i := 3) sc__law_order.nd rfl (.inl rfl) (pe_lst pa_nil))
        (pss_cons (ps_while PassesOwn.never (pt_cmpR (op_neDK K hr.units) (pv 2) (pe_lst pa_nil) (nomark _)) (pss_one (ps_expr (pe_bmK K PySem.F.plainAttrs_list PySem.F.slot_list_append PySem.F.type_list_append mt_append (pv 3) (pa_cons (pe_bmK K PySem.F.plainAttrs_list PySem.F.slot_list_pop PySem.F.type_list_pop mt_popAt (pv 2) (pa_cons (pe_call (G__law_take (K := K) T) (hr.mono (by decide)) (by rfl) T.g__law_take T.F__law_take.kp T.b__law_take .nil pass0 (pa_cons (pv 0) (pa_cons (pe_callB (call_len_seqK K) (by rfl) T.n_len PySem.boot_len (pa_cons (pv 2) pa_nil)) pa_nil))) pa_nil)) pa_nil)))))
        (pss_one (ps_ret (pv 3)))))), ?_⟩
    walk_at "rd"
    intro l1 n1
    have s1 := same_new (o := .lst xs) n1
    have h1 : (upd H l1 (.lst xs)) l1 = some (.lst xs) := upd_same
    generalize upd H l1 (.lst xs) = H1 at s1 h1 ⊢
    walk_at "rd"
    refine ⟨Nat.zero_le _, fun l2 n2 => ?_⟩
    have s2 := same_new (o := .lst []) n2
    have h2 : (upd H1 l2 (.lst [])) l2 = some (.lst []) := upd_same
    generalize upd H1 l2 (.lst []) = H2 at s2 h2 ⊢
    walk_at "rd"
    refine whileN (fun σ HA => ∃ (vl vf : List V) (ls fs : List α), σ = [some (.ref p), some (.ref c), some (.ref l1), some (.ref l2)] ∧ HA l1 = some (.lst vl) ∧ HA l2 = some (.lst vf) ∧ Paired (R HA) vl ls ∧ Paired (R HA) vf fs ∧ (fs ++ ls).Perm ns ∧ PileAt HA p ∧ But p H HA) (fun _ HA => lenAt l1 HA)
      ⟨xs, [], ns, [], rfl, s2 _ _ h1, h2, pd_mono (fun _ _ r => hS _ _ _ _ (Tups.of (s1.trans s2)) r) hR, .nil, List.Perm.refl _, (hp.same s1).same s2, But.of (s1.trans s2)⟩ (fun σ HA hP => ?_)
    obtain ⟨vl, vf, ls, fs, rfl, hA1, hA2, hvl, hvf, hperm, hpA, bA⟩ := hP
    have nl2 : H l2 = none := s1.free n2
    have n12 : l1 ≠ l2 := ne_of_none h1 n2
    have np1 : l1 ≠ p := (hp.ne n1).symm
    have np2 : l2 ≠ p := (hp.ne nl2).symm
    have hlx := pd_len hR
    have hlen : fs.length + ls.length = ns.length := by rw [← List.length_append]; exact hperm.length_eq
    have lvl := pd_len hvl
    have lvf := pd_len hvf
    walk_at "rd"
    refine ⟨Nat.zero_le _, fun l3 n3 => ?_⟩
    have s3 := same_new (o := .lst []) n3
    have h3 : (upd HA l3 (.lst [])) l3 = some (.lst []) := upd_same
    generalize upd HA l3 (.lst []) = HB at s3 h3 ⊢
    have hB1 := s3 _ _ hA1
    have hB2 := s3 _ _ hA2
    have vlB := pd_mono (fun _ _ r => hS _ _ _ _ (Tups.of s3) r) hvl
    have vfB := pd_mono (fun _ _ r => hS _ _ _ _ (Tups.of s3) r) hvf
    have okl : ∀ n ∈ ls, (enc n).canLay0 = true ∧ (enc n).depth ≤ 10 := fun n hn => hok n (hperm.mem_iff.mp (List.mem_append_right _ hn))
    refine r_neD (.lst (sqL hB1) (all_of (pd_map enc (pd_mono (fun _ _ r => hD _ _ _ r) vlB)))) (.lst (sqL h3) .nil) (shaped_any okl) (by decide) ?_
    have hpB := hpA.same s3
    cases ls with
    | nil =>
      rw [show PyData.eqv (.list (([] : List α).map enc)) (.list []) = true from SeqAt.eqv_refl _ (by rfl)]
      walk_at "rd"
      rw [List.append_nil] at hperm
      exact q l2 vf fs HB hperm vfB nl2 hB2 hpB (but_same bA s3)
    | cons n0 lr =>
      rw [show PyData.eqv (.list ((n0 :: lr).map enc)) (.list []) = false from eqv_nil_cons _ _]
      walk_at "rd"
      refine ⟨fun σ' H' => (∃ (vl vf : List V) (ls fs : List α), σ' = [some (.ref p), some (.ref c), some (.ref l1), some (.ref l2)] ∧ H' l1 = some (.lst vl) ∧ H' l2 = some (.lst vf) ∧ Paired (R H') vl ls ∧ Paired (R H') vf fs ∧ (fs ++ ls).Perm ns ∧ PileAt H' p ∧ But p H H') ∧ lenAt l1 H' < lenAt l1 HA, fun σ' H' h => ⟨_, h.2, rfl, h.1⟩, ?_⟩
      walk_at "rd"
      refine ⟨.inl ⟨rfl, _, sqL hB2⟩, ?_⟩
      walk_at "rd"
      refine ⟨.inl ⟨rfl, _, sqL hB1⟩, ?_⟩
      have q1 : SqL K HB l1 vl := sqL hB1
      walk_at "rd"
      have ll2 : (n0 :: lr).length = lr.length + 1 := rfl
      refine ⟨p, _, rfl, hpB, by omega, by omega, fun r HC r0 r1 hpC bC => ?_⟩
      obtain ⟨v, ev⟩ := at_memV (l := vl) r0 r1
      obtain ⟨k, hk, hv, hkl, hlo, hhi⟩ := atI_get ev.1
      obtain ⟨n, hn, hvn⟩ := pd_get' vlB hv
      have hC1 := bC _ _ np1 hB1
      have hC2 := bC _ _ np2 hB2
      have tC := hpB.tups bC
      have vlC := pd_mono (fun _ _ r => hS _ _ _ _ tC r) vlB
      have vfC := pd_mono (fun _ _ r => hS _ _ _ _ tC r) vfB
      have hvC := hS _ _ _ _ tC hvn
      refine ⟨l1, _, r, k, _, rfl, rfl, hC1, by omega, by omega, hk, hv, ?_⟩
      have hD1 : (upd HC l1 (.lst (vl.eraseIdx k))) l1 = some (.lst (vl.eraseIdx k)) := upd_same
      have bD := but_mut (o := .lst (vl.eraseIdx k)) (show But p H HC from fun b o nb e => bC _ _ nb (but_same bA s3 b o nb e)) n1
      have hD2 : (upd HC l1 (.lst (vl.eraseIdx k))) l2 = some (.lst vf) := by rw [upd_ne n12.symm]; exact hC2
      have hpD : PileAt (upd HC l1 (.lst (vl.eraseIdx k))) p := hpC.but (fun b o nb e => by rw [upd_ne nb]; exact e) np1.symm
      have tD : Tups HC (upd HC l1 (.lst (vl.eraseIdx k))) := tups_mut hC1
      have vlD := pd_mono (fun _ _ r => hS _ _ _ _ tD r) (pd_erase k vlC)
      have vfD := pd_mono (fun _ _ r => hS _ _ _ _ tD r) vfC
      have hvD := hS _ _ _ _ tD hvC
      generalize upd HC l1 (.lst (vl.eraseIdx k)) = HD at hD1 hD2 bD hpD vlD vfD hvD ⊢
      walk_at "rd"
      refine ⟨l2, _, _, rfl, rfl, hD2, small1000 (by omega), ?_⟩
      have hE1 : (upd HD l2 (.lst (vf ++ [v]))) l1 = some (.lst (vl.eraseIdx k)) := by rw [upd_ne n12]; exact hD1
      have tE : Tups HD (upd HD l2 (.lst (vf ++ [v]))) := tups_mut hD2
      refine ⟨⟨_, _, (n0 :: lr).eraseIdx k, fs ++ [n], rfl, hE1, upd_same, pd_mono (fun _ _ r => hS _ _ _ _ tE r) vlD, pd_snoc (pd_mono (fun _ _ r => hS _ _ _ _ tE r) vfD) (hS _ _ _ _ tE hvD), ?_, hpD.but (fun b o nb e => by rw [upd_ne nb]; exact e) np2.symm, but_mut bD nl2⟩, ?_⟩
      · rw [List.append_assoc]
        exact ((erase_perm hn).append_left fs).trans hperm
      · rw [lenAt_eq hE1, lenAt_eq hA1, List.length_eraseIdx]
        rw [if_pos hkl]
        omega
end
end Pf

namespace Pf
open PySem PySem.Spec PyProof.Rows L2
local macro_rules | `(tactic| walk_at "rd") => `(tactic| (repeat' (first
  | with_reducible refine r_seq ?_ | with_reducible refine r_asg ?_ | with_reducible refine r_ret ?_ | with_reducible refine r_retN ?_ | with_reducible refine r_drop ?_ | with_reducible refine r_if ?_
  | with_reducible refine r_op ?_ | (with_reducible show tVar _ _ _ _; refine r_var rfl ?_) | with_reducible refine r_c ?_ | with_reducible refine r_I0 ?_ | (with_reducible refine r_I ?c ?_; (case c => first | (show (0 : Int) < _; first | decide | assumption | omega) | exact cmul_r ⟨by decide, by decide⟩ | exact cmul_l ⟨by decide, by decide⟩ | exact cmul_r (by first | assumption | constructor <;> omega) | (unfold CDiv; constructor <;> decide) | (unfold CPow; refine ⟨?_, ?_, ?_⟩ <;> decide))) | with_reducible refine r_name ?_ | (with_reducible show rIxL _ _ _ _ _; refine r_ixL (sqL (by assumption)) rfl ?_) | (with_reducible show rIxT _ _ _ _ _; refine r_ixT (by assumption) rfl ?_) | (with_reducible show rSetL _ _ _ _ _; refine r_setL (by assumption) rfl ?_) | with_reducible refine r_test ?_ | with_reducible refine r_tB ?_ | with_reducible refine r_bl ?_
  | with_reducible refine r_not ?_ | with_reducible refine r_and ?_ | with_reducible refine r_or ?_ | with_reducible refine r_andV ?_ | with_reducible refine r_orV ?_ | with_reducible refine r_notV ?_ | with_reducible refine r_ifE ?_
  | with_reducible refine r_cons ?_ | with_reducible refine r_nil ?_ | with_reducible refine r_cb ?_ | with_reducible refine r_call ?_ | with_reducible refine r_lst ?_ | with_reducible refine r_tup ?_ | with_reducible refine r_bm ?_ | with_reducible refine r_bm0 ?_
  | with_reducible refine r_un ?_ | with_reducible refine r_U ?_ | with_reducible refine r_eqI ?_ | with_reducible refine r_eqS ?_ | with_reducible refine r_neI ?_ | with_reducible refine r_neS ?_ | with_reducible refine r_sub ?_ | with_reducible refine r_gcons ?_ | with_reducible refine r_gnil ?_
  | with_reducible refine r_chain ?_ | with_reducible refine r_get2 ?_ | with_reducible refine r_iList ?_ | with_reducible refine r_iStr ?_ | with_reducible refine r_iTup ?_ | with_reducible refine r_iRev ?_ | with_reducible refine r_iItems ?_ | with_reducible refine r_rng ?_ | with_reducible refine r_inS ?_ | with_reducible refine r_bI ?_ | with_reducible refine r_abs ?_ | with_reducible refine r_sl ?_ | with_reducible refine r_next ?_ | with_reducible refine r_yes ?_
  | (with_reducible show rLen _ _ _ _; first | refine r_lenK (sqL (by assumption)) ?_ | refine r_lenK (by assumption) ?_ | refine r_lenTK (by assumption) ?_)
  | (with_reducible show tFor _ _ _ _ _ _; unfold tFor) | (with_reducible show tLc _ _ _ _ _ _ _ _; unfold tLc) | (with_reducible show tWhile _ _ _ _ _; unfold tWhile)
  | (with_reducible refine ⟨_, rfl, ?_⟩) | (with_reducible refine ⟨_, _, rfl, rfl, ?_⟩) | (with_reducible refine Or.inr ⟨_, rfl, ?_⟩) | (refine ⟨_, _, rfl, Or.inl (by assumption), ?_⟩; skip) | (refine ⟨_, _, rfl, Or.inr (by assumption), ?_⟩; skip)
  | (with_reducible refine iteNT ?_) | (with_reducible refine iteNF ?_) | (with_reducible refine iteT ?_) | (with_reducible refine iteF ?_)
  | (dsimp only [Bool.not_true, Bool.not_false, List.cons_append, List.nil_append]))))

local macro_rules | `(tactic| walk_at "st") => `(tactic| first | exact Same.refl _ | assumption | (refine Same.trans (by assumption) ?_; walk_at "st"))
local macro_rules | `(tactic| walk_at "ok") => `(tactic| first | assumption | exact up_tm (by assumption) (by walk_at "st") | exact up_sqT (by assumption) (by walk_at "st") | exact up_get (by assumption) (by walk_at "st") | exact up_getL (by assumption) (by walk_at "st") | exact up_getT (by assumption) (by walk_at "st") | exact up_sqL (by assumption) (by walk_at "st") | exact up_tms (by assumption) (by walk_at "st") | exact up_tnD (by assumption) (by walk_at "st") | exact up_tn (by assumption) (by walk_at "st") | exact ⟨_, up_getL (by assumption) (by walk_at "st")⟩ | exact ⟨_, up_sqL (by assumption) (by walk_at "st")⟩)

def sp_lturn (K : PySem.W.Frag) : Sp := fun vs H Q _ => ∃ (p c : Addr) (ns : List Str), vs = [.ref p, .ref c] ∧ PileAt H p ∧ H c = some (.lst (ns.map V.str)) ∧ c ≠ p ∧ 1 ≤ ns.length ∧ ns.length ≤ 40 ∧ ns.Nodup ∧ (∀ n ∈ ns, NameOk n) ∧
  ∀ (v : V) (t : List PS2) (H' : Hp), TnD K H' v t → IsTurn t → Among t ns → PileAt H' p → But p H H' → Q v H'
theorem strs_pd : ∀ ns : List Str, Paired (fun (v : V) (n : Str) => v = .str n) (ns.map V.str) ns
  | [] => .nil
  | n :: r => .cons rfl (strs_pd r)
theorem strs_of : ∀ {vs : List V} {ns : List Str}, Paired (fun (v : V) (n : Str) => v = .str n) vs ns → vs = ns.map V.str
  | _, _, .nil => rfl
  | _, _, .cons e t => by rw [e, strs_of t]; rfl
section
variable {P : Program} {w : World} {K : PySem.W.Frag} {mg : Str → Option Value} {base : Heap} {a : Ad}
theorem r_par {σ : L2.St} {H : Hp} {D : Ends} {ta : TA} {i j : Nat} (h : ta σ H fun vs H1 => ∃ v w, vs = [v, w] ∧ D.nx ((σ.set i (some v)).set j (some w)) H1) : tPar i j ta D σ H := h
theorem r_zip {σ : L2.St} {H : Hp} {K : PySem.W.Frag} {ta : TA} {R : It → Hp → Prop} (h : ta σ H fun vs H1 => ∃ a b xs ys, vs = [V.ref a, V.ref b] ∧ SqL K H1 a xs ∧ SqL K H1 b ys ∧ R (Itz K a b) H1) : iZip K ta σ H R := h
theorem ixN_lt {n i : Nat} (h : i < n) : ixN n (i : Int) = some i := by
  unfold ixN
  rw [if_pos (by omega), if_pos (by omega)]
  rfl
theorem G__law_turn (T : Txt K mg a) : FnOk P w K mg base CX0 4 a.f__law_turn a.d__law_turn ["_law_pile_here", "_law_names_here"] (sp_lturn K) := by
  refine T.F__law_turn.ok sc__law_turn (fun vs H Q E h => ?_) (fun cdv A outer s H vs Q E hr h => ?_)
  · obtain ⟨p, c, ns, rfl, _⟩ := h
    rfl
  · obtain ⟨p, c, ns, rfl, hp, hc, ncp, hl1, hl, hnd, hok, q⟩ := h
    refine ⟨_, (pss_cons (ps_set (i := 2) sc__law_turn.nd rfl (.inl rfl) (pe_call (G__law_take (K := K) T) (hr.mono (by decide)) (by rfl) T.g__law_take T.F__law_take.kp T.b__law_take .nil pass0 (pa_cons (pv 0) (pa_cons pe_int pa_nil))))
        (pss_cons (ps_set (i := 3) sc__law_turn.nd rfl (.inl rfl) (pe_callTy (call_list_ofK K) (by rfl) T.n_list (by decide +kernel) (pa_cons (pv 1) pa_nil)))
        (C8.pss_cut (ps_if (pt_cmpR op_eq (pv 2) pe_int (nomark _)) (pss_cons (ps_par (i := 4) (j := 5) (by rfl) sc__law_turn.nd rfl rfl (by decide) rfl rfl (pa_cons (pe_call (G__law_take (K := K) T) (hr.mono (by decide)) (by rfl) T.g__law_take T.F__law_take.kp T.b__law_take .nil pass0 (pa_cons (pv 0) (pa_cons (pe_callB (call_len_seqK K) (by rfl) T.n_len PySem.boot_len (pa_cons (pv 1) pa_nil)) pa_nil))) (pa_cons (pe_call (G__law_take (K := K) T) (hr.mono (by decide)) (by rfl) T.g__law_take T.F__law_take.kp T.b__law_take .nil pass0 (pa_cons (pv 0) (pa_cons (pe_callB (call_len_seqK K) (by rfl) T.n_len PySem.boot_len (pa_cons (pv 1) pa_nil)) pa_nil))) pa_nil)) (by rfl))
        (pss_cons (ps_set (i := 6) sc__law_turn.nd rfl (.inl rfl) (pe_ix (ix_listK K) (pv 3) (pv 4) (fun _ _ => rfl)))
        (pss_cons (ps_asg (pe_ix (ix_listK K) (pv 3) (pv 5) (fun _ _ => rfl)) (pg_sub (pv 3) (pv 4) set_list))
        (pss_one (ps_asg (pv 6) (pg_sub (pv 3) (pv 5) set_list)))))) pss_nil)
        (C8.pss_cut (ps_if (pt_cmpR op_eq (pv 2) pe_int (nomark _)) (pss_one (ps_set (i := 3) sc__law_turn.nd rfl (.inl rfl) (pe_call (G__law_order (K := K) T) (hr.mono (by decide)) (by rfl) T.g__law_order T.F__law_order.kp T.b__law_order .nil pass0 (pa_cons (pv 0) (pa_cons (pv 1) pa_nil))))) pss_nil)
        (pss_one (ps_ret (pe_callTy (call_tupleFK K) (by rfl) T.n_tuple (by decide +kernel) (pa_cons (pe_callB (cr_sortedGK K (enc := eP) hr.units) (by rfl) T.n_sorted (by decide +kernel) (pa_cons (pe_lc (own := [("_law_name_here", 7), ("_law_to_here", 8)]) (by rfl) sc__law_turn.nd (pi_zip (by rfl) T.n_zip (pa_cons (pv 1) (pa_cons (pv 3) pa_nil))) (blkOk_by (N := N__law_turn) (sc := defScope s__law_turn) (by decide +kernel)) (fun _ _ _ _ _ => (pg_tupK K (n := 2) rfl (pgs_cons (pg_name (i := 7) sc__law_turn.nd rfl (by first | exact Or.inl rfl | exact Or.inr rfl)) (pgs_cons (pg_name (i := 8) sc__law_turn.nd rfl (by first | exact Or.inl rfl | exact Or.inr rfl)) pgs_nil)))) (fun _ _ _ _ _ => (pts_one (pt_cmpR op_ne (pv 7) (pv 8) (nomark _)))) (fun _ _ _ _ _ => (pe_tup (pa_cons (pv 7) (pa_cons (pv 8) pa_nil))))) pa_nil)) pa_nil)))))))), ?_⟩
    walk_at "rd"
    refine ⟨p, 3, rfl, hp, by decide, by decide, fun kd H1 k0 k1 hp1 b1 => ?_⟩
    have hc1 := b1 _ _ ncp hc
    have qc1 : SqL K H1 c (ns.map V.str) := sqL hc1
    walk_at "rd"
    intro l nl
    have s2 := same_new (o := .lst (ns.map V.str)) nl
    have h2 : (upd H1 l (.lst (ns.map V.str))) l = some (.lst (ns.map V.str)) := upd_same
    have hp2 := hp1.same s2
    have b2 : But p H (upd H1 l (.lst (ns.map V.str))) := b1.new nl
    generalize upd H1 l (.lst (ns.map V.str)) = H2 at s2 h2 hp2 b2 ⊢
    have nlp : l ≠ p := (hp1.ne nl).symm
    have n0l : H l = none := by
      cases hh : H l with
      | none => rfl
      | some o => exact absurd (b1 _ _ nlp hh) (by rw [nl]; exact fun z => nomatch z)
    have hc2 := b2 _ _ ncp hc
    walk_at "rd"
    refine ⟨fun σ' H' => ∃ y4 y5 y6 : Option V, ∃ ys : List Str, σ' = [some (.ref p), some (.ref c), some (.int kd), some (.ref l), y4, y5, y6, none, none] ∧ H' l = some (.lst (ys.map V.str)) ∧ ys.Perm ns ∧ PileAt H' p ∧ But p H H', ?_, ?_⟩
    · have qc2 : SqL K H2 c (ns.map V.str) := sqL hc2
      have ln : (ns.map V.str).length = ns.length := List.length_map ..
      walk_at "rd"
      refine r_dec (fun e => ?_) (fun e => ?_)
      · walk_at "rd"
        refine r_par ?_
        walk_at "rd"
        refine ⟨p, _, rfl, hp2, by omega, by omega, fun r1 H3 r10 r11 hp3 b3 => ?_⟩
        have qc3 : SqL K H3 c (ns.map V.str) := sqL (b3 _ _ ncp hc2)
        walk_at "rd"
        refine ⟨p, _, rfl, hp3, by omega, by omega, fun r2 H4 r20 r21 hp4 b4 => ?_⟩
        have h4 := b4 _ _ nlp (b3 _ _ nlp h2)
        have b04 := (b2.trans b3).trans b4
        obtain ⟨i, rfl⟩ := Int.eq_ofNat_of_zero_le r10
        obtain ⟨j, rfl⟩ := Int.eq_ofNat_of_zero_le r20
        have hi : i < ns.length := by omega
        have hj : j < ns.length := by omega
        have hi' : i < (ns.map V.str).length := by omega
        have hj' : j < (ns.map V.str).length := by omega
        walk_at "rd"
        refine ⟨_, _, rfl, ?_⟩
        walk_at "rd"
        refine r_ixL (sqL h4) (atI_nat (j := i) (v := V.str ns[i]) (by rw [List.getElem?_map, List.getElem?_eq_getElem hi]; rfl)) ?_
        walk_at "rd"
        refine r_ixL (sqL h4) (atI_nat (j := j) (v := V.str ns[j]) (by rw [List.getElem?_map, List.getElem?_eq_getElem hj]; rfl)) ?_
        walk_at "rd"
        refine r_setL h4 (ixN_lt hi') ?_
        have h5 : (upd H4 l (.lst ((ns.map V.str).set i (.str ns[j])))) l = some (.lst ((ns.map V.str).set i (.str ns[j]))) := upd_same
        have b5 := but_mut (o := .lst ((ns.map V.str).set i (.str ns[j]))) b04 n0l
        have hp5 : PileAt (upd H4 l (.lst ((ns.map V.str).set i (.str ns[j])))) p := hp4.but (fun b o nb e => by rw [upd_ne nb]; exact e) nlp.symm
        generalize upd H4 l (.lst ((ns.map V.str).set i (.str ns[j]))) = H5 at h5 b5 hp5 ⊢
        walk_at "rd"
        refine r_setL h5 (ixN_lt (by rw [List.length_set]; exact hj')) ?_
        walk_at "rd"
        refine ⟨_, _, _, (ns.set i ns[j]).set j ns[i], rfl, ?_, List.set_set_perm hi hj, hp5.but (fun b o nb e => by rw [upd_ne nb]; exact e) nlp.symm, but_mut b5 n0l⟩
        rw [List.map_set, List.map_set]
        exact upd_same
      · walk_at "rd"
        exact ⟨_, _, _, ns, rfl, h2, List.Perm.refl _, hp2, b2⟩
    · rintro σ' H3 ⟨y4, y5, y6, ys, rfl, h3, py, hp3, b3⟩
      walk_at "rd"
      refine ⟨fun σ' H' => ∃ y4 y5 y6 : Option V, ∃ l, ∃ ys : List Str, σ' = [some (.ref p), some (.ref c), some (.int kd), some (.ref l), y4, y5, y6, none, none] ∧ H' l = some (.lst (ys.map V.str)) ∧ ys.Perm ns ∧ PileAt H' p ∧ But p H H', ?_, ?_⟩
      · walk_at "rd"
        refine r_dec (fun e => ?_) (fun e => ?_)
        · walk_at "rd"
          refine ⟨Str, .str, fun _ v n => v = .str n, p, c, ns.map V.str, ns, rfl, hp3, sqL (b3 _ _ ncp hc), by rw [List.length_map]; exact hl, strs_pd ns, fun _ _ _ e => by rw [e]; exact .str _, fun _ _ _ _ _ e => e, fun n hn => ⟨(hok n hn).sok, by show 0 ≤ 10; decide⟩, fun l5 vs5 ys5 H5 py5 pv5 n5 h5 hp5 b5 => ?_⟩
          rw [strs_of pv5] at h5
          walk_at "rd"
          exact ⟨_, _, _, l5, ys5, rfl, h5, py5, hp5, b3.trans b5⟩
        · walk_at "rd"
          exact ⟨_, _, _, l, ys, rfl, h3, py, hp3, b3⟩
      · clear h3 py hp3 b3 nlp n0l h2 nl
        rintro σ' H3 ⟨y4, y5, y6, l, ys, rfl, h3, py, hp3, b3⟩
        have hc3 := b3 _ _ ncp hc
        walk_at "rd"
        have hlen : ns.length = ys.length := py.length_eq.symm
        have hf := zip_fst hlen
        have hs := zip_snd hlen
        refine r_zip ?_
        walk_at "rd"
        refine ⟨c, l, _, _, rfl, sqL hc3, sqL h3, fun D nD => ?_⟩
        refine lcN (J := Itz K c l) (n := ns.length) (LcI H3 D fun i acc H => Prs K H acc (((ns.zip ys).take i).filter fun p => decide (p.1 ≠ p.2))) (LcI.zero nD .nil) (fun i H hi hP => ?_) (fun H hP => ?_) (fun i x H4 H5 hi hP hy => ?_) (fun H4 hP => ?_)
        · exact ⟨_, _, .str ns[i], .str (ys[i]'(by omega)), sqL (hP.1 _ _ hc3), sqL (hP.1 _ _ h3), by rw [List.getElem?_map, List.getElem?_eq_getElem hi]; rfl, by rw [List.getElem?_map, List.getElem?_eq_getElem (by omega)]; rfl⟩
        · exact ⟨_, _, sqL (hP.1 _ _ hc3), sqL (hP.1 _ _ h3), .inl (by rw [List.length_map]; exact Nat.le_refl _)⟩
        · obtain ⟨s4, acc, hD, hal, hacc⟩ := hP
          obtain ⟨t1, x1, y1, rfl, nt1, rfl, hx1, hy1⟩ := hy
          have hiy : i < ys.length := by omega
          have ex := hx1 _ (sqL (s4 _ _ hc3))
          have ey := hy1 _ (sqL (s4 _ _ h3))
          rw [List.getElem?_map, List.getElem?_eq_getElem hi] at ex
          rw [List.getElem?_map, List.getElem?_eq_getElem hiy] at ey
          cases ex
          cases ey
          have hz : (ns.zip ys)[i]? = some (ns[i], ys[i]) := by
            rw [List.getElem?_zip_eq_some]
            exact ⟨List.getElem?_eq_getElem hi, List.getElem?_eq_getElem hiy⟩
          have s5 := same_new (o := .tup [.str ns[i], .str ys[i]]) nt1
          have h5 : (upd H4 t1 (.tup [.str ns[i], .str ys[i]])) t1 = some (.tup [.str ns[i], .str ys[i]]) := upd_same
          generalize upd H4 t1 (.tup [.str ns[i], .str ys[i]]) = H5 at s5 h5 ⊢
          refine r_gtup (sqT h5) rfl ?_
          walk_at "rd"
          refine ⟨rfl, ?_⟩
          walk_at "rd"
          refine r_ndec (fun e => ?_) (fun e => ?_)
          · walk_at "rd"
            refine ⟨by show 2 ≤ sizeLine; decide, fun t2 nt2 => ?_⟩
            have s6 := same_new (o := .tup [.str ns[i], .str ys[i]]) nt2
            have h6 : (upd H5 t2 (.tup [.str ns[i], .str ys[i]])) t2 = some (.tup [.str ns[i], .str ys[i]]) := upd_same
            generalize upd H5 t2 (.tup [.str ns[i], .str ys[i]]) = H6 at s6 h6 ⊢
            refine LcI.keep nD s4 hD hal (by omega) (s5.trans s6) ?_
            rw [take_snoc hz, List.filter_append, show [(ns[i], ys[i])].filter (fun p : PS2 => decide (p.1 ≠ p.2)) = [(ns[i], ys[i])] by simp [e]]
            have hD6 := (s5.trans s6) _ _ hD
            exact pd_snoc (Prs.stay (Prs.stay hacc (Tups.of (s5.trans s6))) (tups_mut hD6)) (Pr.stay ⟨t2, rfl, sqT h6⟩ (tups_mut hD6))
          · refine LcI.skip s4 hD hal s5 ?_
            rw [take_snoc hz, List.filter_append, show [(ns[i], ys[i])].filter (fun p : PS2 => decide (p.1 ≠ p.2)) = [] by simp [e], List.append_nil]
            exact Prs.stay hacc (Tups.of s5)
        · obtain ⟨s4, acc, hD, hal, hacc⟩ := hP
          rw [List.take_of_length_le (by rw [List.length_zip]; omega)] at hacc
          walk_at "rd"
          have hD4 := hD
          refine ⟨D, acc, _, Pr K H4, rfl, sqL hD4, hacc, fun x b h => h.dp, alike_P _, sortable_P _, fun b _ => Nat.le_trans (dep_P b) (by decide), fun zs l6 pzs n6 => ?_⟩
          walk_at "rd"
          refine r_tupF (sqL upd_same) fun l7 o n7 ho => ?_
          have s7 : Same H4 (upd (upd H4 l6 (.lst zs)) l7 (.frz o (.tup zs))) := (same_new n6).trans (same_new n7)
          have s37 := s4.trans s7
          refine q _ (riseM (ns.zip ys)) _ ⟨l7, o, zs, rfl, upd_same, ho, Prs.stay pzs (Tups.of s7)⟩ (riseM_turn (by rw [hf]; exact hnd) (by rw [hf, hs]; exact py) (by rw [hf]; exact hok) (by rw [List.length_zip]; omega)) (riseM_among hf (by rw [hs]; exact py)) (hp3.same s37) (but_same b3 s37)
end
end Pf

/-! enumerate of a tuple; extend by a tuple without attributes; tuple(list) told so -/
namespace Pf
open PySem PySem.Spec PyProof.Rows L2 PySem.AutoSeq1
theorem enum_newT (q : Addr) (vs : Array Value) (k : Nat) (dc : Option Addr) (sv : Array (Option Value)) :
    Meets (Builtin.«enumerate.__new__» ⟨[.type "enumerate", .ref q], []⟩) (fun _ R s => s.heap.get? q = some ({ cls := .type "tuple", dict := dc, data := .seq vs k, slots := sv } : Obj) ∧
      R (.ok (.ret (.ref (s.heap.push ({ cls := .type "tuple_iterator", data := .fields #[.ref q, .int 0 0] } : Obj)).objs.size)))
        { s with heap := (s.heap.push ({ cls := .type "tuple_iterator", data := .fields #[.ref q, .int 0 0] } : Obj)).push ({ cls := .type "enumerate", data := .fields #[.none, .bool false, .ref s.heap.objs.size, rawInt 0, .none, .none] } : Obj) }) :=
  .of_wp fun prog w A R s hh => by
    obtain ⟨hp, g, dd, tt, os⟩ := s
    obtain ⟨hq, hr⟩ := hh
    have sube := sub_enumerate
    have ht : Heap.IsTuple (Shared.heap ⟨hp, g, dd, tt, os⟩) q vs := ⟨_, hq, rfl, k, rfl⟩
    wp_walk using wpAny_loadPart' hq
    refine wpAny_stack_any fun _ => wpAny_pure ?_
    split
    · rename_i cc _ _ _ _ _
      cases (cc == Value.type "enumerate") <;> (wp_walk using wpAny_loadPart' hq, wpAny_pyIter_tuple ht; exact ⟨_, rfl, hr⟩)
    · wp_walk using wpAny_loadPart' hq, wpAny_pyIter_tuple ht; exact ⟨_, rfl, hr⟩
section
variable {prog : Program} {w : World} {A : Around} {E : Value → Shared → Prop} {s : Shared}
theorem call_enumT {q : Addr} {vs : Array Value} {Q : Value → Shared → Prop} (ht : s.heap.IsTuple q vs)
    (hQ : ∀ h1, IsEnum h1 (s.heap.objs.size + 1) s.heap.objs.size 0 .none → h1.IsTupleIter s.heap.objs.size q 0 →
      (∀ b o, s.heap.get? b = some o → h1.get? b = some o) → Q (.ref (s.heap.objs.size + 1)) { s with heap := h1 }) :
    wpAny (model prog w) A (call (.type "enumerate") [.ref q]) Q E s := by
  obtain ⟨⟨cc, dc, da, sv⟩, hq, hcc, k, hda⟩ := ht
  have hcc : cc = .type "tuple" := hcc
  have hda : da = .seq vs k := hda
  subst hcc hda
  refine callType_new PySem.F.called_enumerate (by decide) (PySem.F.typeCall_enumerate_1 _) (PySem.F.newCall_enumerate_1 _) (fun ob => PySem.F.args_object_init_2 ob _) PySem.F.entry_enumerate_new (enum_newT q vs k dc sv) ⟨hq, ?_⟩
  have size1 : (s.heap.push ({ cls := .type "tuple_iterator", data := .fields #[.ref q, .int 0 0] } : Obj)).objs.size = s.heap.objs.size + 1 := Heap.size_push ..
  show _ ∧ _
  rw [size1]
  have en : IsEnum ((s.heap.push ({ cls := .type "tuple_iterator", data := .fields #[.ref q, .int 0 0] } : Obj)).push ({ cls := .type "enumerate", data := .fields #[.none, .bool false, .ref s.heap.objs.size, rawInt 0, .none, .none] } : Obj)) (s.heap.objs.size + 1) s.heap.objs.size 0 .none := by
    rw [← size1]
    exact Heap.get?_push_size _ rfl
  exact ⟨⟨_, en, rfl⟩, hQ _ en ⟨_, Heap.get?_push_of_some _ (Heap.get?_push_size _ rfl), rfl, rfl⟩ fun b o x => Heap.get?_push_of_some _ (Heap.get?_push_of_some _ x)⟩
theorem enum_endT {e j q : Addr} {i : Nat} {vs : Array Value} {old : Value} {Q : Option Value → Shared → Prop} (calm : A.handled = none)
    (en : IsEnum s.heap e j i old) (ti : s.heap.IsTupleIter j q i) (tu : s.heap.IsTuple q vs) (out : vs[i]? = none) (hQ : ∀ h1, Heap.ExtBut j s.heap h1 → Q none { s with heap := h1 }) :
    wpAny (model prog w) A (pyNext (.ref e)) Q E s := by
  have ty : s.TypeIs (.ref e) "enumerate" := ⟨_, en, rfl⟩
  have A1 : A.in1.handled = none := calm
  unfold pyNext
  refine wpAny_bind (wpAny_attempt (wpAny_callSpecial?_slot (name := Str.ofString "__next__") ty PySem.F.slot_enumerate_next (wpAny_call_entry PySem.F.slot_enumerate_next ty PySem.F.entry_enumerate_next ?_ (PySem.F.args_enumerate_next_1 _))))
  show wpAny _ _ (field (.ref e) 2 >>= _) _ _ s
  refine wpAny_bind (wpAny_field en rfl (x := Value.ref j) rfl (wpAny_bind (wpAny_nextOf_tuple_end A1 ti tu out fun h1 x ext isx => ?_)))
  obtain ⟨ob, hob, cob⟩ := isx
  exact wpAny_bind (wpAny_isInstance (T := "StopIteration") (b := true) ⟨ob, hob, cob⟩ isSubtype_stop (wpAny_pure (hQ _ ext)))
end
/-- the tuple at a, each item in a new pair with its number -/
def IteT (K : PySem.W.Frag) (a : Addr) : It :=
  ⟨fun i H => ∃ (xs : List V) (x : V), SqT K H a xs ∧ xs[i]? = some x,
   fun i H v H' => ∃ T x, v = .ref T ∧ H T = none ∧ H' = upd H T (.tup [.int (i : Nat), x]) ∧ ∀ zs, SqT K H a zs → zs[i]? = some x,
   fun i H => ∃ xs : List V, SqT K H a xs ∧ xs.length ≤ i⟩
theorem turn_enumT {P : Program} {w : World} {K : PySem.W.Frag} {elts : List Expr} {kk : Nat} {tpos : Pos} (a e j : Addr) :
    Turn P w K (.Tuple elts kk tpos) (IteT K a) [e, j] e (fun i h => (∃ old, IsEnum h e j ((i : Nat) : Int) old) ∧ h.IsTupleIter j a i ∧ e ≠ j ∧ a ≠ j ∧ a ≠ e) where
  mem := by simp
  obj := fun i h st b hb => by
    obtain ⟨⟨old, he⟩, ⟨o, ho, hc, hd⟩, _⟩ := st
    have e1 : b = e ∨ b = j := by simpa using hb
    rcases e1 with z | z
    · rw [z]; exact ⟨_, he, fun _ q => nomatch q⟩
    · rw [z]; exact ⟨o, ho, fun _ q => by rw [hd] at q; cases q⟩
  keep := fun i h h' st k => by
    obtain ⟨⟨old, he⟩, hi, r⟩ := st
    exact ⟨⟨old, k e (by simp) _ he⟩, hi.at fun o q => k j (by simp) o q, r⟩
  item := by
    intro X hP hw hK hc i pins s σ H E I hf st hg
    subst hP hw hK
    obtain ⟨⟨old, he⟩, hit, nej, naj, nae⟩ := st
    obtain ⟨xs, x, hq, hx⟩ := hg
    obtain ⟨its, rv, p, hz⟩ := I.tuple hq
    obtain ⟨u, hu, ru⟩ := rv.get hx
    have hel : e < s.heap.objs.size := Heap.lt_size he
    have hjl : j < s.heap.objs.size := by obtain ⟨_, q, _⟩ := hit; exact Heap.lt_size q
    have hi : i < its.toArray.size := by
      have := (List.getElem?_eq_some_iff.mp hu).1
      rw [List.size_toArray]; exact this
    have hd : X.A.in1.handled = none := I.ok.hd hc
    refine wpAny_pyNext_enum_itemD (Draws.tuple (A := X.A.in1) hd j a naj its.toArray) he ⟨hit, p⟩ hi nej (by simp [nej, nae.symm]) fun y h' tk hy ho hst hT hsz hk => ?_
    have ey : y = u := by
      have h1 : its.toArray[i]? = some y := hy
      rw [List.getElem?_toArray, hu] at h1
      exact (Option.some.inj h1).symm
    subst ey
    refine ⟨_, rfl, wpAny_letOwnedTupleGo_enum (s := { s with heap := h', toks := tk + 1 }) ho fun h2 he2 sb => ?_⟩
    have hT2 : h2.get? s.heap.objs.size = some ({ cls := .type "tuple", data := .seq #[.int i tk, y] } : Obj) := (sb.2 _ (Nat.ne_of_gt hel)).trans hT
    have new : ObjOk X.prog X.w (upd H s.heap.objs.size (.tup [.int (i : Nat), x])) h2 s.heap.objs.size (.tup [.int (i : Nat), x]) :=
      ⟨by show 2 ≤ sizeLine; decide, [.int i tk, y], .cons ⟨_, rfl⟩ (.cons ru .nil), ⟨_, hT2, rfl, _, rfl⟩⟩
    have I1 : Inv X pins σ (upd H s.heap.objs.size (.tup [.int (i : Nat), x])) { s with heap := h2, toks := tk + 1 } :=
      I.turnedNew (ch := [e, j]) (fun b ob hb q => (sb.2 b (fun z => hb (by simp [z]))).trans (hk b ob (fun z => hb (by simp [z])) (fun z => hb (by simp [z])) q)) hf (Nat.le_refl _) new
    refine ⟨.ref s.heap.objs.size, _, I1, rfl, ⟨_, x, rfl, I.hok.fresh (Nat.le_refl _), rfl, fun zs hy => by rw [I.tuple_inj hy hq]; exact hx⟩, ⟨⟨y, ?_⟩, hst.1.at fun o q => (sb.2 j nej.symm).trans q, nej, naj, nae⟩, fun b hb => ?_⟩
    · have e1 : ((i + 1 : Nat) : Int) = (i : Int) + 1 := by omega
      rw [e1]; exact he2
    · have hb' : b < s.heap.objs.size := by
        have e1 : b = e ∨ b = j := by simpa using hb
        rcases e1 with z | z
        · rw [z]; exact hel
        · rw [z]; exact hjl
      rw [upd_ne (Nat.ne_of_lt hb')]
      exact (hf b hb).1
  done := by
    intro X hP hw hK hc i pins s σ H E I hf st hg
    subst hP hw hK
    obtain ⟨⟨old, he⟩, hit, nej, naj, nae⟩ := st
    obtain ⟨xs, hq, hx⟩ := hg
    obtain ⟨its, rv, p, hz⟩ := I.tuple hq
    have hl := rv.length
    have out : its.toArray[i]? = none := by
      rw [List.getElem?_toArray, List.getElem?_eq_none_iff]
      omega
    obtain ⟨f0, f1, f2, f3, f4, f5⟩ := hf j (by simp)
    exact enum_endT (I.ok.hd hc) he hit p out fun h1 eb => ⟨rfl, I.turned (t' := s.toks) (fun b o hb q => eb b o hb q) f0 f1 f3 f4 f5⟩
  self := fun A i s Q E st h => let ⟨⟨_, he⟩, _⟩ := st; wpAny_pyIter_enum he h
def iEnumT (K : PySem.W.Frag) (ta : TA) : TI := fun σ H R => ta σ H fun vs H1 => ∃ a xs, vs = [.ref a] ∧ SqT K H1 a xs ∧ R (IteT K a) H1
theorem pi_enumT {X : Cx} (K : PySem.W.Frag) {x0 : Expr} {ta : TA} {p pos tpos : Pos} {elts : List Expr} {kk : Nat} (hg : Gl X "enumerate") (hm : X.mg "enumerate" = none) (ha : PA X [x0] ta) (eK : X.K = K := by rfl) (hs : starEach [x0] X.env = [(false, eval x0 X.env)] := by rfl) :
    PI X (.Tuple elts kk tpos) (.Call (.Name "enumerate" p) [x0] [] pos) (iEnumT K ta) := by
  subst eK
  refine ⟨fun pins s σ H R I h => ?_⟩
  refine Call_ (ld_blt I hg hm PyProof.Rows.boot_enumerate (PyProof.Rows.callWith_type1 (thn (ha.run pos pins s σ H _ I h) fun us s1 ⟨vs, H1, I1, r1, q1⟩ => ?_) hs rfl))
  obtain ⟨a, xs, ev, hq, q⟩ := q1
  subst ev
  cases r1 with
  | cons r rr =>
    cases rr
    cases r
    obtain ⟨its, rv, tu, hz⟩ := I1.tuple hq
    have al : a < s1.heap.objs.size := by obtain ⟨_, e1, _⟩ := tu; exact Heap.lt_size e1
    refine call_enumT tu fun h1 en ti kept => wpAny_pyIter_enum en ?_
    have I2 : Inv X pins σ H1 { s1 with heap := h1 } := I1.kept (t' := s1.toks) kept
    refine ⟨s1.heap.objs.size + 1, [s1.heap.objs.size + 1, s1.heap.objs.size], _, _, H1, rfl, I2, turn_enumT a (s1.heap.objs.size + 1) s1.heap.objs.size, ⟨⟨.none, en⟩, ti, Nat.succ_ne_self _, Nat.ne_of_lt al, Nat.ne_of_lt (Nat.lt_succ_of_lt al)⟩, fun b hb => ?_, q⟩
    have e1 : b = s1.heap.objs.size + 1 ∨ b = s1.heap.objs.size := by simpa using hb
    have le : s1.heap.objs.size ≤ b := by
      rcases e1 with z | z <;> rw [z] <;> omega
    exact I1.fpOk le (I1.hok.fresh le)
/-- tuple(list), told to be a plain object -/
def rTupG (K : PySem.W.Frag) : List V → Hp → VK → Prop := fun xs H Q => ∃ p ys, xs = [.ref p] ∧ SqL K H p ys ∧ ∀ l o, H l = none → o.dict = none → o.slots = #[] → Q (.ref l) (upd H l (.frz o (.tup ys)))
/-- list.extend by such a tuple -/
def rExtendT : V → List V → Hp → VK → Prop := fun x vs H Q => ∃ l q o xs zs, x = .ref l ∧ vs = [.ref q] ∧ H l = some (.lst xs) ∧ H q = some (.frz o (.tup zs)) ∧ o.dict = none ∧ o.slots = #[] ∧ xs.length + zs.length ≤ sizeLine ∧ Q .non (upd H l (.lst (xs ++ zs)))
section
variable {X : Cx}
theorem call_tupleG : CallR X (.type "tuple") (rTupG X.K) := by
  intro pins s σ H vs us Q I r ⟨p, ys, ev, hq, q⟩
  subst ev
  obtain ⟨u, rfl, rx⟩ := vals1 r
  cases rx
  obtain ⟨its, r', pl, hz⟩ := I.list hq
  refine call_tuple_list pl.isList (fun h1 kp => ?_) (by simp only [List.size_toArray, ← r'.length] <;> omega)
  have I1 : Inv X pins σ H { s with heap := h1 } := I.kept (t' := s.toks) kp
  refine ⟨.ref h1.objs.size, _, I1.laid (t' := s.toks) (fun b o e => Heap.get?_push_of_some _ e) (Nat.le_refl _) (o := .frz ({ cls := .type "tuple", data := .seq its.toArray } : Obj) (.tup ys)) ⟨Heap.get?_push_size _ rfl, hz, its, r', IsTup.new _ _⟩, rfl, q _ _ (I1.hok.fresh (Nat.le_refl _)) rfl rfl⟩
theorem call_tupleGK (K : PySem.W.Frag) (e : X.K = K := by rfl) : CallR X (.type "tuple") (rTupG K) := e ▸ call_tupleG
theorem mt_extendT : MtM X "list.extend" rExtendT := by
  intro pins s σ H x vs v us Q I rx rv ⟨l, b, o, xs, zs, ex, ev, hH, hB, hd, hsl, hz, q⟩
  subst ex ev
  cases rx
  obtain ⟨u, rfl, ru⟩ := rv.one
  cases ru
  obtain ⟨z, its, n, r, hl, e⟩ := I.lstM hH
  obtain ⟨hao, hz2, its2, r2, ht⟩ := I.hok b _ hB
  obtain ⟨o2, ho2, hc2, n2, hd2⟩ := ht
  rw [hao] at ho2
  cases ho2
  obtain ⟨oc, od, oa, os⟩ := o
  have hd : od = none := hd
  have hsl : os = #[] := hsl
  have hc2 : oc = .type "tuple" := hc2
  have hd2 : oa = .seq its2.toArray n2 := hd2
  subst hd hsl hc2 hd2
  have l2 : zs.length = its2.length := r2.length
  have fits : its.toArray.size + its2.toArray.size ≤ sizeLine := by rw [List.size_toArray, List.size_toArray]; omega
  have short : ¬ (!its.toArray.isEmpty && Builtin.List.listTooLong (its.toArray.size + its2.toArray.size)) = true := by
    rw [notLongL fits, Bool.and_false]
    exact Bool.false_ne_true
  refine call_meets PySem.F.slot_list_extend ⟨_, e, rfl⟩ PySem.F.entry_list_extend (PySem.F.args_list_extend_2 _ _) (list_extend_list_tuple_0 l its.toArray n b its2.toArray n2 short (by rw [List.size_toArray]; omega) (by omega)) ⟨e, hao, ?_⟩
  refine ⟨.non, _, I.lset (its' := its ++ its2) hH e (by simp) (r.append r2) (by rw [List.length_append]; omega), rfl, q⟩
end
end Pf

/-! own rule: list.extend by a tuple of which only the items are known -/
namespace Pf
open PySem PySem.Spec PyProof.Rows L2 PySem.AutoSeq1
theorem extend_any {l b : Addr} {items items2 : Array Value} {n n2 : Nat} {od : Option Addr} {os2 : Array (Option Value)} (long : ¬(!items.isEmpty && Builtin.List.listTooLong (items.size + items2.size)) = true) (few : items.size ≤ sizeLine) (both : items.size + items2.size ≤ sizeLine + 1) :
    Meets (Builtin.«list.extend» ⟨[.ref l, .ref b], []⟩) (fun _ R s => s.heap.get? l = some { cls := .type "list", data := .seq items n } ∧ s.heap.get? b = some { cls := .type "tuple", dict := od, data := .seq items2 n2, slots := os2 } ∧
      R (.ok (.ret Value.none)) { s with heap := s.heap.update l (Obj.mapSeq fun x => x ++ items2), toks := s.toks }) := by
  refine .of_wp fun prog w A R s h => ?_
  obtain ⟨hp, g, d, tk, os⟩ := s
  obtain ⟨hl, hb, h⟩ := h
  have f1 := idx_int
  have f2 := AutoSeq1.sub_tuple_tuple
  have f3 := AutoSeq1.sub_list_list
  have f4 := AutoSeq1.sub_tuple_list
  have f5 := AutoSeq1.sub_list_tuple
  have z : (items ++ items2).size ≤ sizeLine + 1 := by
    rw [Array.size_append]
    exact both
  wp_walk using (wpAny_updateSeq hl rfl (hz := few) (_hz' := z)), wpAny_loadPart' hl, wpAny_loadPart' hb
  exact ⟨_, rfl, h⟩
/-- list.extend by a tuple -/
def rExtendA (K : PySem.W.Frag) : V → List V → Hp → VK → Prop := fun x vs H Q => ∃ l q xs zs, x = .ref l ∧ vs = [.ref q] ∧ H l = some (.lst xs) ∧ SqT K H q zs ∧ xs.length + zs.length ≤ sizeLine ∧ Q .non (upd H l (.lst (xs ++ zs)))
section
variable {X : Cx}
theorem mt_extendA : MtM X "list.extend" (rExtendA X.K) := by
  intro pins s σ H x vs v us Q I rx rv ⟨l, b, xs, zs, ex, ev, hH, hB, hz, q⟩
  subst ex ev
  cases rx
  obtain ⟨u, rfl, ru⟩ := rv.one
  cases ru
  obtain ⟨z, its, n, r, hl, e⟩ := I.lstM hH
  obtain ⟨its2, r2, ht, hz2⟩ := I.tuple hB
  obtain ⟨ob, ho, hc, n2, hd⟩ := ht
  obtain ⟨oc, od, oa, os⟩ := ob
  have hc : oc = .type "tuple" := hc
  have hd : oa = .seq its2.toArray n2 := hd
  subst hc hd
  have l2 : zs.length = its2.length := r2.length
  have fits : its.toArray.size + its2.toArray.size ≤ sizeLine := by rw [List.size_toArray, List.size_toArray]; omega
  have short : ¬ (!its.toArray.isEmpty && Builtin.List.listTooLong (its.toArray.size + its2.toArray.size)) = true := by
    rw [notLongL fits, Bool.and_false]
    exact Bool.false_ne_true
  refine call_meets PySem.F.slot_list_extend ⟨_, e, rfl⟩ PySem.F.entry_list_extend (PySem.F.args_list_extend_2 _ _) (extend_any short (by rw [List.size_toArray]; omega) (by omega)) ⟨e, ho, ?_⟩
  refine ⟨.non, _, I.lset (its' := its ++ its2) hH e (by simp) (r.append r2) (by rw [List.length_append]; omega), rfl, q⟩
theorem mt_extendAK (K : PySem.W.Frag) (e : X.K = K := by rfl) : MtM X "list.extend" (rExtendA K) := e ▸ mt_extendA
end
end Pf

/-! own rule: {**a, **b} -/
namespace Pf
open PySem PySem.Spec PyProof.Rows L2
section
variable {prog : Program} {w : World} {KK : Type} [DecidableEq KK] {knd : KeyKind prog w KK} {A : Around} {E : Value → Shared → Prop} {s : Shared}
theorem dictPut_known {D : Addr} {old : List (KK × Value)} {kk : KK} {ky x : Value} {R : Unit → Shared → Prop} (is : knd.is kk ky = true) (dOf : s.heap.DictOf knd D old) (room : old.length ≤ sizeLine)
    (next : ∀ g, g.DictOf knd D (stored old kk x) → Heap.SameBut D s.heap g → R () { s with heap := g }) : wpAny (model prog w) A (dictPut D (knd.hash kk) ky x) R E s := by
  obtain ⟨ob, ents, age, isO, exa, dat, kys, prs, ndp⟩ := dOf
  have room2 : ents.size ≤ sizeLine := by
    have := prs.length
    rw [Array.length_toList] at this
    omega
  unfold dictPut
  refine wpAny_bind (wpAny_dictFind_of is isO dat kys ?_)
  have place : (ents.findIdx? fun n => knd.is kk n.key) = old.findIdx? fun p => decide (p.1 = kk) := by
    rw [← prs.findIdx kk]
    cases ents
    simp
  rcases f : ents.findIdx? (fun n => knd.is kk n.key) with _ | at0
  · rw [f]
    have out : kk ∉ old.map (·.1) := not_mem_of_findIdx_none (place ▸ f)
    have none0 : ¬ (old.any fun p => decide (p.1 = kk)) = true := fun z => by
      obtain ⟨p, hp, e⟩ := List.any_eq_true.mp z
      exact out (List.mem_map.mpr ⟨p, hp, of_decide_eq_true e⟩)
    have grown := prs.append is (knd.hash kk) x
    refine wpAny_updateDictKeys (f := fun l => l.push ⟨knd.hash kk, ky, x⟩) (hz := room2) (hf := by simp) isO dat (next _ ⟨_, _, age + 1, Heap.get?_update_self _ isO (Obj.isFreed_of_dict (Obj.data_mapDictKeys dat _)), exa.mapDictKeys _, Obj.data_mapDictKeys dat _, kys.push is _, ?_, ?_⟩ (Heap.SameBut.update ..))
    · rw [stored, if_neg none0]
      cases ents
      simpa using grown
    · rw [stored, if_neg none0, List.map_append, List.map_cons, List.map_nil]
      exact List.nodup_append.mpr ⟨ndp, List.pairwise_singleton _ _, fun u hu v hv e => out (by rw [List.mem_singleton.mp hv] at e; subst e; exact hu)⟩
  · rw [f]
    have some0 := any_of_findIdx_some (place ▸ f)
    have there : (ents.toList.findIdx? fun n => knd.is kk n.key) = some at0 := by
      rw [← f]
      cases ents
      simp
    have changed := prs.modify ndp there x
    refine wpAny_updateDict (f := fun l => l.modify at0 fun n => { n with val := x }) (hz := by simp) isO dat (next _ ⟨_, _, age, Heap.get?_update_self _ isO (Obj.isFreed_of_dict (Obj.data_mapDict dat _)), exa.mapDict _, Obj.data_mapDict dat _, kys.modify _ _, ?_, ?_⟩ (Heap.SameBut.update ..))
    · rw [stored, if_pos some0]
      cases ents
      simpa using changed
    · rw [stored, if_pos some0, keys_map_store]
      exact ndp
theorem mergeInto {D O : Addr} {old more : List (KK × Value)} {R : Unit → Shared → Prop} (ne : D ≠ O) (notS : (O == sysModules) = false) (dOf : s.heap.DictOf knd D old) (oOf : s.heap.DictOf knd O more)
    (flat : ∀ kk v, knd.is kk v = true → ∀ b, v ≠ .ref b) (room : old.length + more.length ≤ sizeLine) (next : ∀ g, g.DictOf knd D (merged old more) → Heap.SameBut D s.heap g → R () { s with heap := g }) :
    wpAny (model prog w) A (mergeMapping D (.ref O) false) R E s := by
  obtain ⟨oO, eO, pO, isO, exO, datO, kysO, prsO, ndO⟩ := id oOf
  obtain ⟨oD, eD, pD, isD, exD, datD, kysD, prsD, ndD⟩ := id dOf
  have tyO := oOf.typeIs (s := s)
  unfold mergeMapping
  refine wpAny_bind (wpAny_isInstance tyO isSubtype_dict_dict ?_)
  rw [if_pos rfl]
  refine wpAny_bind (wpAny_specialOf tyO F.slot_dict_iter.lookup ?_)
  refine wpAny_bind (wpAny_pure ?_)
  simp only [beq_self_eq_true]
  have lenO : more.length = eO.size := by rw [← prsO.length, Array.length_toList]
  have turns : wpAny (model prog w) A (do
      let all ← dictEntries O
      let age ← dictEpoch O
      forIn (List.range all.size) PUnit.unit fun i (_ : PUnit) => (do
          let now ← dictEntries O
          match now[i]? with
            | some n => do
              holding [n.key, n.val] (dictPut D n.hash n.key n.val)
              let age2 ← dictEpoch O
              if (age2 != age) = true then do
                  (unsupported "dict.changed-during-merge" : Sem PUnit)
                  pure (ForInStep.yield PUnit.unit)
                else pure (ForInStep.yield PUnit.unit)
            | _ => do
              (unsupported "dict.changed-during-merge" : Sem PUnit)
              pure (ForInStep.yield PUnit.unit) : Sem (ForInStep PUnit))
      pure ()) R E s := by
    refine wpAny_bind (wpAny_dictEntries isO datO (wpAny_bind (wpAny_dictEpoch isO datO (wpAny_bind ?_))))
    refine wpAny_forIn_list _ (fun left _ t => ∃ g i, t = { s with heap := g } ∧ left = (List.range eO.size).drop i ∧ i ≤ eO.size ∧ g.DictOf knd D (merged old (more.take i)) ∧ g.get? O = some oO ∧ Heap.SameBut D s.heap g) _ ?_ ?_ _ _
      ⟨s.heap, 0, rfl, rfl, Nat.zero_le _, dOf, isO, Heap.SameBut.refl _ _⟩
    · rintro x left u t ⟨g, i, rfl, el, hi, gOf, gO, gs⟩
      have lt : i < eO.size := Nat.lt_of_not_le fun z => by
        rw [List.drop_of_length_le (by rw [List.length_range]; exact z)] at el
        exact nomatch el
      rw [List.drop_eq_getElem_cons (by rw [List.length_range]; exact lt)] at el
      injection el with e1 e2
      rw [List.getElem_range] at e1
      subst e1
      refine wpAny_bind (wpAny_dictEntries gO datO ?_)
      rw [Array.getElem?_eq_getElem lt]
      have lm : x < more.length := lenO ▸ lt
      have hm := List.getElem?_eq_getElem lm
      generalize more[x] = p at hm
      obtain ⟨isk, ev⟩ := prsO.get? (e := eO[x]) (by simp [lt]) (show more[x]? = some (p.1, p.2) from hm)
      obtain ⟨k2, isk2, eh⟩ := kysO eO[x] (Array.getElem_mem lt)
      obtain rfl : k2 = p.1 := knd.inj _ _ _ isk2 isk
      have small := merged_length_le old (more.take x)
      rw [List.length_take] at small
      show wpAny _ _ (holding [eO[x].key, eO[x].val] (dictPut D eO[x].hash eO[x].key eO[x].val) >>= _) _ _ _
      rw [eh, ev]
      refine wpAny_bind (wpAny_holding (dictPut_known isk gOf (by omega) fun g2 gOf2 gs2 => ?_))
      have gO2 : g2.get? O = some oO := (gs2.2 O (Ne.symm ne)).trans gO
      refine wpAny_bind (wpAny_dictEpoch gO2 datO ?_)
      rw [if_neg (by simp)]
      refine wpAny_pure ⟨g2, x + 1, rfl, e2, lt, ?_, gO2, gs.trans gs2⟩
      rw [merged_take_succ old more x p hm]
      exact gOf2
    · rintro u t ⟨g, i, rfl, el, hi, gOf, gO, gs⟩
      have all : eO.size ≤ i := Nat.le_of_not_lt fun z => by
        rw [List.drop_eq_getElem_cons (by rw [List.length_range]; exact z)] at el
        exact nomatch el
      rw [List.take_of_length_le (by omega)] at gOf
      exact wpAny_pure (next g gOf gs)
  rw [if_neg (by rw [notS]; exact Bool.false_ne_true)]
  refine wpAny_bind (wpAny_dictEntries isD datD ?_)
  simp only [Bool.false_eq_true, if_false]
  split
  · refine wpAny_bind (wpAny_dictEntries isO datO (wpAny_bind ?_))
    refine PySem.MeetsSeq2.wpAny_forIn_array _ (fun l _ t => t = s ∧ ∀ n ∈ l, n ∈ eO.toList) _ ?_ ?_ _ _ ⟨rfl, fun _ h => h⟩
    · rintro n l u t ⟨rfl, sub⟩
      have hn := sub n List.mem_cons_self
      obtain ⟨k2, isk2, _⟩ := kysO n (by simpa using hn)
      have nr := flat _ _ isk2
      split
      · exact absurd (by assumption) (nr _)
      · exact wpAny_pure ⟨rfl, fun m h => sub m (List.mem_cons_of_mem _ h)⟩
    · rintro u t ⟨rfl, _⟩
      exact turns
  · exact turns
end
/-- {**a, **b}: two dicts whose keys are texts and whole numbers -/
def tStar2 (ta tb : TE) : TE := fun σ H Q => ∀ p, H p = none → ta σ (upd H p (.dK [])) fun x H1 => ∃ a kvs, x = .ref a ∧ a ≠ p ∧ Rd H1 a (.dK kvs) ∧ H1 p = some (.dK []) ∧ kvs.length ≤ 1000 ∧
  tb σ (upd H1 p (.dK (mergeK [] kvs))) fun y H2 => ∃ b kws, y = .ref b ∧ b ≠ p ∧ Rd H2 b (.dK kws) ∧ H2 p = some (.dK (mergeK [] kvs)) ∧ kws.length ≤ 1000 ∧ Q (.ref p) (upd H2 p (.dK (mergeK (mergeK [] kvs) kws)))
section
variable {X : Cx} {pos : Pos} {ea eb : Expr} {ta tb : TE} {pins : List (Addr × Obj)} {σ : L2.St} {H : Hp} {s : Shared} {A : Around} {E : Value → Shared → Prop}
theorem mergeAt {p a : Addr} {old kvs : List (Key × V)} {R : Unit → Shared → Prop} (I : Inv X pins σ H s) (hp : H p = some (.dK old)) (ha : Rd H a (.dK kvs)) (ne : a ≠ p) (room : old.length + kvs.length ≤ sizeLine)
    (next : ∀ s2, Inv X pins σ (upd H p (.dK (mergeK old kvs))) s2 → R () s2) : wpAny (model X.prog X.w) A (mergeMapping p (.ref a) false) R E s := by
  obtain ⟨z1, nS1, vs1, rel1, dOf1⟩ := dk_of I.hok hp
  obtain ⟨z2, nS2, vs2, rel2, dOf2⟩ := dk_rd I.hok ha
  refine mergeInto (knd := mixKind X.prog X.w) ne.symm nS2 dOf1 dOf2 (fun kk v is b e => ?_) (by rw [← rel1.length, ← rel2.length]; exact room) fun g gOf gs => next _ ?_
  · subst e
    rcases keyIs_shape is with ⟨_, _, _, e⟩ | ⟨_, _, _, e⟩ <;> exact nomatch e
  · have small := length_mergeK kvs old
    exact d_write (t' := s.toks) I (by rw [hp]; trivial) gs (let ⟨q, _, _, hq, _⟩ := gOf; ⟨q, hq⟩) (dk_new (by omega) nS1 (KV.merge rel2 rel1) gOf)
theorem pe_star2 (ha : PE X ea ta) (hb : PE X eb tb) : PE X (.Dict [none, none] [ea, eb] pos) (tStar2 ta tb) := by
  refine ⟨fun pins s σ H Q I q => ?_⟩
  have fr := I.hok.fresh (Nat.le_refl s.heap.objs.size)
  have I1 := I.laid (a := s.heap.objs.size) (o := .dK []) (h' := s.heap.push { cls := .type "dict", data := .dict #[] }) (t' := s.toks) (fun _ _ e => Heap.get?_push_of_some _ e) (Nat.le_refl _) (dk_empty s.heap I.big)
  rw [arm_eval_Dict]
  refine wpAny_bind (wpAny_standAt ?_)
  show wpAny _ _ (dictDisplay [(none, do let x ← eval ea X.env; standAt pos; pure x), (none, do let x ← eval eb X.env; standAt pos; pure x)]) _ _ _
  unfold dictDisplay
  simp only [List.forIn_cons, List.forIn_nil, List.isEmpty_nil, if_true, pure_bind, bind_assoc]
  refine wpAny_bind (wpAny_alloc ?_)
  refine wpAny_bind (wpAny_holding (wpAny_bind (thn (ha.run pins _ σ _ _ I1 (q _ fr)) fun u s2 ⟨x, H2, I2, rx, a, kvs, ex, nea, hra, hp2, small, q2⟩ => wpAny_bind (wpAny_standAt (wpAny_pure ?_)))))
  subst ex
  obtain rfl : u = Value.ref a := rx
  refine wpAny_bind (wpAny_onRaise (wpAny_tryCatch (wpAny_onRaise (wpAny_holding (mergeAt I2 hp2 hra nea (by rw [sizeLine_eq, List.length_nil]; omega) fun s3 I3 => ?_)))))
  refine wpAny_bind (wpAny_holding (wpAny_bind (thn (hb.run pins _ σ _ _ I3 q2) fun u2 s4 ⟨y, H4, I4, ry, b, kws, ey, neb, hrb, hp4, small2, q4⟩ => wpAny_bind (wpAny_standAt (wpAny_pure ?_)))))
  subst ey
  obtain rfl : u2 = Value.ref b := ry
  have lm := length_mergeK kvs []
  rw [List.length_nil] at lm
  refine wpAny_bind (wpAny_onRaise (wpAny_tryCatch (wpAny_onRaise (wpAny_holding (mergeAt I4 hp4 hrb neb (by rw [sizeLine_eq]; omega) fun s5 I5 => ?_)))))
  exact wpAny_pure ⟨.ref s.heap.objs.size, _, I5, rfl, q4⟩
/-- (..): a new tuple, known as an object without attributes -/
def tTupF (t : TA) : TE := fun σ H Q => t σ H fun xs H1 => xs.length ≤ sizeLine ∧ ∀ q o, H1 q = none → o.dict = none → Q (.ref q) (upd H1 q (.frz o (.tup xs)))
theorem pe_tupF {X : Cx} {es : List Expr} {x1} {pos : Pos} {t : TA} (ha : PA X es t) : PE X (.Tuple es x1 pos) (tTupF t) := by
  refine ⟨fun pins s σ H Q I w => ?_⟩
  refine wpAny_Tuple_spliced (thn (ha.run pos pins s σ H _ I w) fun vals s2 ⟨xs, H2, I2, rel, few, nx⟩ => ⟨by rw [← rel.length]; exact few, ?_⟩)
  have fr := I2.hok.fresh (Nat.le_refl s2.heap.objs.size)
  have I3 := I2.laid (t' := s2.toks) (a := s2.heap.objs.size) (o := .frz { cls := .type "tuple", data := .seq vals.toArray } (.tup xs)) (h' := s2.heap.push { cls := .type "tuple", data := .seq vals.toArray }) (fun _ _ e => Heap.get?_push_of_some _ e) (Nat.le_refl _) ⟨Heap.get?_push_size _ rfl, few, vals, rel, IsTup.new _ _⟩
  exact ⟨.ref s2.heap.objs.size, _, I3, rfl, nx _ _ fr rfl⟩
theorem r_tupFr {t : TA} {σ : L2.St} {H : Hp} {Q : VK} (h : t σ H fun xs H1 => xs.length ≤ sizeLine ∧ ∀ q o, H1 q = none → o.dict = none → Q (.ref q) (upd H1 q (.frz o (.tup xs)))) : tTupF t σ H Q := h
theorem r_star2 {ta tb : TE} {σ : L2.St} {H : Hp} {Q : VK} (h : ∀ p, H p = none → ta σ (upd H p (.dK [])) fun x H1 => ∃ a kvs, x = .ref a ∧ a ≠ p ∧ Rd H1 a (.dK kvs) ∧ H1 p = some (.dK []) ∧ kvs.length ≤ 1000 ∧
    tb σ (upd H1 p (.dK (mergeK [] kvs))) fun y H2 => ∃ b kws, y = .ref b ∧ b ≠ p ∧ Rd H2 b (.dK kws) ∧ H2 p = some (.dK (mergeK [] kvs)) ∧ kws.length ≤ 1000 ∧ Q (.ref p) (upd H2 p (.dK (mergeK (mergeK [] kvs) kws)))) : tStar2 ta tb σ H Q := h
end
end Pf

/-! own rule: t[i:j] of a tuple, which may be the whole of it -/
namespace Pf
open PySem PySem.Spec PyProof.Rows L2
def Whole (n : Nat) (lo hi : Option Int) : Prop := HT.sIx n 0 lo = 0 ∧ HT.sIx n n hi = n
instance (n : Nat) (lo hi : Option Int) : Decidable (Whole n lo hi) := inferInstanceAs (Decidable (_ ∧ _))
section
variable {prog : Program} {w : World} {A : Around} {E : Value → Shared → Prop} {s : Shared}
theorem sliceWhole {t sl : Addr} {items : Array Value} {vl vu : Value} {lo hi : Option Int} {Q : Value → Shared → Prop} (isT : IsTup s.heap t items) (isS : s.heap.IsSliceOf sl vl vu .none) (pl : IsPart vl lo) (pu : IsPart vu hi)
    (wh : Whole items.size lo hi) (next : Q (.ref t) s) : wpAny (model prog w) A (getItem (.ref t) (.ref sl)) Q E s := by
  obtain ⟨ob, atS, clsS, datS⟩ := id isS
  have tyS : s.TypeIs (.ref sl) "slice" := ⟨ob, atS, clsS⟩
  unfold getItem
  try with_reducible refine wpAny_holding ?_
  first | refine wpAny_bind (wpAny_pure ?_) | skip
  refine wpAny_bind (wpAny_sequenceKey isT.typeIs (by decide) ?_)
  refine wpAny_bind (wpAny_callSpecial?_slot (name := Str.ofString "__getitem__") isT.typeIs PyProof.Rows.slot_tuple_getitem
    (wpAny_call_entry PyProof.Rows.slot_tuple_getitem isT.typeIs PyProof.Rows.entry_tuple_getitem ?_ (PyProof.Rows.args_tuple_getitem _ _)))
  refine (show wpAny _ _ (Builtin.Tuple.tupleItemsOf (.ref t) >>= _) _ _ s from wpAny_bind (tupleItemsOf_ isT (wpAny_bind (wpAny_typeOf tyS ?_))))
  rw [if_pos (by decide)]
  refine wpAny_bind (HT.sliceApplied_gen isS pl pu ?_)
  have yes : (((HT.sIx items.size 0 lo : Nat) : Int) == 0 && (1 : Int) == 1 && (HT.sIx items.size items.size hi - HT.sIx items.size 0 lo) == items.size) = true := by
    rw [wh.1, wh.2]
    simp
  show wpAny _ _ (if (((HT.sIx items.size 0 lo : Nat) : Int) == 0 && (1 : Int) == 1 && (HT.sIx items.size items.size hi - HT.sIx items.size 0 lo) == items.size) = true then _ else _) _ _ s
  rw [if_pos yes]
  refine (show wpAny _ _ (Builtin.Tuple.tupleIsExact (.ref t) >>= _) _ _ s from wpAny_bind (m := Builtin.Tuple.tupleIsExact (.ref t)) ?_)
  unfold Builtin.Tuple.tupleIsExact
  refine wpAny_bind (wpAny_typeOf isT.typeIs (wpAny_pure ?_))
  exact wpAny_bind (wpAny_rule (wpAny_pure ⟨_, rfl, wpAny_pure next⟩))
end
def rSlW (K : PySem.W.Frag) : V → Option Int → Option Int → Hp → VK → Prop := fun x lo hi H Q => ∃ a xs, x = .ref a ∧ SqT K H a xs ∧ (Whole xs.length lo hi → Q (.ref a) H) ∧ (¬ Whole xs.length lo hi → ∀ p, H p = none → Q (.ref p) (upd H p (.tup (cutV xs lo hi))))
theorem sl_tupW {X : Cx} : SlR X (rSlW X.K) := by
  intro pins s σ H x v vl vu lo hi sl Q I rx hs pl pu h
  obtain ⟨a, xs, ex, hx, q1, q2⟩ := h
  by_cases wh : Whole xs.length lo hi
  · subst ex
    cases rx
    obtain ⟨its, r, ht, hz⟩ := I.tuple hx
    have ln : its.toArray.size = xs.length := by rw [List.size_toArray]; exact r.length.symm
    refine ⟨"tuple", _, PyProof.Rows.slot_tuple_getitem.lookup, ht.typeIs, ?_⟩
    exact sliceWhole ht hs pl pu (by rw [ln]; exact wh) ⟨.ref a, H, I.tok _, rfl, q1 wh⟩
  · exact sl_tup pins s σ H x v vl vu lo hi sl Q I rx hs pl pu ⟨a, xs, ex, hx, wh, q2 wh⟩
theorem sl_tupWK {X : Cx} (K : PySem.W.Frag) (e : X.K = K := by rfl) : SlR X (rSlW K) := e ▸ sl_tupW
end Pf

namespace Pf
open PySem PySem.Spec PyProof.Rows L2
local macro_rules | `(tactic| walk_at "rd") => `(tactic| (repeat' (first
  | with_reducible refine r_seq ?_ | with_reducible refine r_asg ?_ | with_reducible refine r_ret ?_ | with_reducible refine r_retN ?_ | with_reducible refine r_drop ?_ | with_reducible refine r_if ?_
  | with_reducible refine r_op ?_ | (with_reducible show tVar _ _ _ _; refine r_var rfl ?_) | with_reducible refine r_c ?_ | with_reducible refine r_I0 ?_ | (with_reducible refine r_I ?c ?_; (case c => first | (show (0 : Int) < _; first | decide | assumption | omega) | exact cmul_r ⟨by decide, by decide⟩ | exact cmul_l ⟨by decide, by decide⟩ | exact cmul_r (by first | assumption | constructor <;> omega) | (unfold CDiv; constructor <;> decide) | (unfold CPow; refine ⟨?_, ?_, ?_⟩ <;> decide))) | with_reducible refine r_name ?_ | (with_reducible show rIxL _ _ _ _ _; refine r_ixL (sqL (by assumption)) rfl ?_) | (with_reducible show rIxT _ _ _ _ _; refine r_ixT (by assumption) rfl ?_) | (with_reducible show rSetL _ _ _ _ _; refine r_setL (by assumption) rfl ?_) | with_reducible refine r_test ?_ | with_reducible refine r_tB ?_ | with_reducible refine r_bl ?_
  | with_reducible refine r_not ?_ | with_reducible refine r_and ?_ | with_reducible refine r_or ?_ | with_reducible refine r_andV ?_ | with_reducible refine r_orV ?_ | with_reducible refine r_notV ?_ | with_reducible refine r_ifE ?_
  | with_reducible refine r_cons ?_ | with_reducible refine r_nil ?_ | with_reducible refine r_cb ?_ | with_reducible refine r_call ?_ | with_reducible refine r_lst ?_ | with_reducible refine r_tup ?_ | with_reducible refine r_bm ?_ | with_reducible refine r_bm0 ?_
  | with_reducible refine r_un ?_ | with_reducible refine r_U ?_ | with_reducible refine r_eqI ?_ | with_reducible refine r_eqS ?_ | with_reducible refine r_neI ?_ | with_reducible refine r_neS ?_ | with_reducible refine r_sub ?_ | with_reducible refine r_gcons ?_ | with_reducible refine r_gnil ?_
  | with_reducible refine r_chain ?_ | with_reducible refine r_get2 ?_ | with_reducible refine r_iList ?_ | with_reducible refine r_iStr ?_ | with_reducible refine r_iTup ?_ | with_reducible refine r_iRev ?_ | with_reducible refine r_iItems ?_ | with_reducible refine r_rng ?_ | with_reducible refine r_inS ?_ | with_reducible refine r_bI ?_ | with_reducible refine r_abs ?_ | with_reducible refine r_sl ?_ | with_reducible refine r_next ?_ | with_reducible refine r_yes ?_
  | (with_reducible show rLen _ _ _ _; first | refine r_lenK (sqL (by assumption)) ?_ | refine r_lenK (by assumption) ?_ | refine r_lenTK (by assumption) ?_)
  | (with_reducible show tFor _ _ _ _ _ _; unfold tFor) | (with_reducible show tLc _ _ _ _ _ _ _ _; unfold tLc) | (with_reducible show tWhile _ _ _ _ _; unfold tWhile)
  | (with_reducible refine ⟨_, rfl, ?_⟩) | (with_reducible refine ⟨_, _, rfl, rfl, ?_⟩) | (with_reducible refine Or.inr ⟨_, rfl, ?_⟩) | (refine ⟨_, _, rfl, Or.inl (by assumption), ?_⟩; skip) | (refine ⟨_, _, rfl, Or.inr (by assumption), ?_⟩; skip)
  | (with_reducible refine iteNT ?_) | (with_reducible refine iteNF ?_) | (with_reducible refine iteT ?_) | (with_reducible refine iteF ?_)
  | (dsimp only [Bool.not_true, Bool.not_false, List.cons_append, List.nil_append]))))

local macro_rules | `(tactic| walk_at "st") => `(tactic| first | exact Same.refl _ | assumption | (refine Same.trans (by assumption) ?_; walk_at "st"))
local macro_rules | `(tactic| walk_at "ok") => `(tactic| first | assumption | exact up_tm (by assumption) (by walk_at "st") | exact up_sqT (by assumption) (by walk_at "st") | exact up_get (by assumption) (by walk_at "st") | exact up_getL (by assumption) (by walk_at "st") | exact up_getT (by assumption) (by walk_at "st") | exact up_sqL (by assumption) (by walk_at "st") | exact up_tms (by assumption) (by walk_at "st") | exact up_tnD (by assumption) (by walk_at "st") | exact up_tn (by assumption) (by walk_at "st") | exact ⟨_, up_getL (by assumption) (by walk_at "st")⟩ | exact ⟨_, up_sqL (by assumption) (by walk_at "st")⟩)

def sp_is_hole (K : PySem.W.Frag) : Sp := fun vs H Q _ => ∃ x : V, vs = [x] ∧ ((∃ w : Str, x = .str w ∧ w.length ≤ sizeLine ∧ ∀ H', Same H H' → Q (.bl (wordB greatS w)) H') ∨ (NoStr K H x ∧ Q (.bl false) H))
def sp_is_part (K : PySem.W.Frag) : Sp := fun vs H Q _ => ∃ (x : V) (T : Tm), vs = [x] ∧ TmV K H x T ∧ ∀ H', Same H H' → Q (.bl (!T.isBad)) H'
def sp_within (K : PySem.W.Frag) : Sp := fun vs H Q _ => ∃ (x : V) (T : Tm), vs = [x] ∧ TmV K H x T ∧ T.isBad = false ∧ ∀ q xs H', Same H H' → SqT K H' q xs → TmsV K H' xs T.kids → Q (.ref q) H'
theorem sizeH {w : Str} (h : HoleOk w) : w.length ≤ sizeLine := by
  have := h.len
  rw [sizeLine_eq]; omega
theorem r_nopart {σ : L2.St} {H : Hp} {Q : Option Int → Hp → Prop} (h : Q none H) : tNoPart σ H Q := h
theorem r_part {σ : L2.St} {H : Hp} {t : TE} {Q : Option Int → Hp → Prop} (h : t σ H fun x H1 => ∃ i, x = .int i ∧ Q (some i) H1) : tPart t σ H Q := h
theorem in23 {n : Nat} (h2 : n ≠ 2) (h3 : n ≠ 3) : inV (V.int n) [V.int 2, V.int 3] = false := by
  have a : eqV (V.int 2) (V.int n) = false := by simp [eqV]; omega
  have b : eqV (V.int 3) (V.int n) = false := by simp [eqV]; omega
  simp [inV, a, b]
abbrev wN : Str := Str.ofString "name"
abbrev wH : Str := Str.ofString "hole"
abbrev wT : Str := Str.ofString "shut"
abbrev wS : Str := Str.ofString "sign"
theorem ne_ns : ¬ wN = wS := by decide +kernel
theorem ne_nt : ¬ wN = wT := by decide +kernel
theorem ne_nh : ¬ wN = wH := by decide +kernel
theorem ne_hs : ¬ wH = wS := by decide +kernel
theorem ne_ht : ¬ wH = wT := by decide +kernel
theorem ne_hn : ¬ wH = wN := by decide +kernel
theorem ne_ts : ¬ wT = wS := by decide +kernel
theorem ne_th : ¬ wT = wH := by decide +kernel
theorem ne_tn : ¬ wT = wN := by decide +kernel
theorem ne_sh : ¬ wS = wH := by decide +kernel
theorem ne_sn : ¬ wS = wN := by decide +kernel
theorem ne_st : ¬ wS = wT := by decide +kernel
theorem r_no {p : Prop} [Decidable p] {A B : Prop} (n : ¬ p) (h : B) : if decide p = true then A else B := by rw [decide_eq_false n]; exact h
theorem r_yes' {p : Prop} [Decidable p] {A B : Prop} (n : p) (h : A) : if decide p = true then A else B := by rw [decide_eq_true n]; exact h
theorem r_cutW {K : PySem.W.Frag} {H : Hp} {q : Addr} {xs : List V} {lo hi : Option Int} {Q : VK} (h : SqT K H q xs) (fin : ∀ tq HW, Same H HW → SqT K HW tq (cutV xs lo hi) → Q (.ref tq) HW) : rSlW K (.ref q) lo hi H Q := by
  refine ⟨q, xs, rfl, h, fun wh => fin q H (Same.refl _) ?_, fun _ p np => fin p _ (same_new np) (sqT upd_same)⟩
  have : cutV xs lo hi = xs := by
    unfold cutV
    rw [wh.1, wh.2]
    simp
  rw [this]
  exact h
section
variable {P : Program} {w : World} {K : PySem.W.Frag} {mg : Str → Option Value} {base : Heap} {a : Ad}
theorem G_is_hole (T : Txt K mg a) : FnOk P w K mg base CX0 2 a.f_is_hole a.d_is_hole ["thing"] (sp_is_hole K) := by
  refine T.F_is_hole.ok sc_is_hole (fun vs H Q E h => ?_) (fun cdv A outer s H vs Q E hr h => ?_)
  · obtain ⟨x, rfl, _⟩ := h
    rfl
  · obtain ⟨x, rfl, q⟩ := h
    refine ⟨_, (pss_one (ps_ret (pe_call (G_is_word (K := K) T) (hr.mono (by decide)) (by rfl) T.g_is_word T.F_is_word.kp T.b_is_word .nil pass0 (pa_cons (pv 0) (pa_cons (pe_glob (v := .str ("ABCDEFGHIJKLMNOPQRSTUVWXYZ" : Str)) (by rfl) T.c_GREAT_LETTERS ⟨_, rfl⟩) pa_nil))))), ?_⟩
    walk_at "rd"
    exact ⟨x, greatS, rfl, by decide +kernel, q⟩
theorem G_within (T : Txt K mg a) : FnOk P w K mg base CX0 1 a.f_within a.d_within ["part"] (sp_within K) := by
  refine T.F_within.ok sc_within (fun vs H Q E h => ?_) (fun cdv A outer s H vs Q E hr h => ?_)
  · obtain ⟨x, T, rfl, _⟩ := h
    rfl
  · obtain ⟨x, T, rfl, hx, g, q⟩ := h
    refine ⟨_, (pss_cons (ps_if (pt_cmpR op_eq (pe_ix (ix_tupK K) (pv 0) pe_int (fun _ _ => rfl)) pe_str (nomark _)) (pss_one (ps_ret (pe_ix (ix_tupK K) (pv 0) pe_int (fun _ _ => rfl)))) pss_nil)
        (pss_cons (ps_if (pt_cmpR op_eq (pe_ix (ix_tupK K) (pv 0) pe_int (fun _ _ => rfl)) pe_str (nomark _)) (pss_one (ps_ret (pe_slice (sl_tupWK K) (pv 0) (po_some (pe_un un_neg pe_int)) po_none))) pss_nil)
        (pss_one (ps_ret (pe_tupF pa_nil))))), ?_⟩
    have none_in : ∀ (t : Addr) (o : Obj) , H t = none → o.dict = none → T.kids = [] → Q (.ref t) (upd H t (.frz o (.tup []))) := fun t o nt ho e => q t [] _ (same_new nt) (.inl (.inr ⟨o, upd_same⟩)) (by rw [e]; exact .nil)
    cases hx with
    | name h a =>
      walk_at "rd"
      refine r_no ne_ns ?_
      walk_at "rd"
      refine r_no ne_nt ?_
      walk_at "rd"
      refine r_tupFr ?_
      walk_at "rd"
      exact ⟨Nat.zero_le _, fun t o nt ho => none_in t o nt ho rfl⟩
    | hole h d it ho =>
      walk_at "rd"
      refine r_no ne_hs ?_
      walk_at "rd"
      refine r_no ne_ht ?_
      walk_at "rd"
      refine r_tupFr ?_
      walk_at "rd"
      exact ⟨Nat.zero_le _, fun t o nt ho => none_in t o nt ho rfl⟩
    | @shut q0 n y b h a s =>
      walk_at "rd"
      refine r_no ne_ts ?_
      walk_at "rd"
      refine r_yes' rfl ?_
      walk_at "rd"
      refine r_part ?_
      walk_at "rd"
      refine r_nopart ?_
      refine r_cutW h fun tq HW sW hq => ?_
      exact q tq [y] HW sW hq (.cons (s.stay (.of sW)) .nil)
    | @sign q0 z n xs ps h a hz s =>
      walk_at "rd"
      refine r_yes' rfl ?_
      walk_at "rd"
      exact q z xs H (Same.refl _) hz s
    | bad h => exact nomatch g
theorem G_is_part (T : Txt K mg a) : FnOk P w K mg base CX0 5 a.f_is_part a.d_is_part ["thing"] (sp_is_part K) := by
  refine T.F_is_part.ok sc_is_part (fun vs H Q E h => ?_) (fun cdv A outer s H vs Q E hr h => ?_)
  · obtain ⟨x, T, rfl, _⟩ := h
    rfl
  · obtain ⟨x, U, rfl, hx, q⟩ := h
    refine ⟨_, (pss_cons (ps_if ((pw_or (pt_not (pt_val (pe_callB (call_isiK' K) (by rfl) T.n_isinstance (by decide +kernel) (pa_cons (pv 0) (pa_cons (pe_bltn (v := .ty "tuple") (by rfl) T.n_tuple (by decide +kernel) rfl) pa_nil))))) (pw_or1 (pt_cmpR (op_notIn_seqK K) (pe_callB (call_len_seqK K) (by rfl) T.n_len PySem.boot_len (pa_cons (pv 0) pa_nil)) (pe_tup (pa_cons pe_int (pa_cons pe_int pa_nil))) (by with_unfolding_all rfl))))).pt (pss_one (ps_ret pe_bl)) pss_nil)
        (pss_cons (ps_if (pt_cmpR op_eq (pe_callB (call_len_seqK K) (by rfl) T.n_len PySem.boot_len (pa_cons (pv 0) pa_nil)) pe_int (nomark _)) (pss_one (ps_ret (pe_and (pe_cmpR op_eq (pe_ix (ix_tupK K) (pv 0) pe_int (fun _ _ => rfl)) pe_str (nomark _)) (pe_one (pe_call (G_is_name (K := K) T) (hr.mono (by decide)) (by rfl) T.g_is_name T.F_is_name.kp T.b_is_name .nil pass0 (pa_cons (pe_ix (ix_tupK K) (pv 0) pe_int (fun _ _ => rfl)) pa_nil)))))) pss_nil)
        (pss_cons (ps_if (pt_cmpR op_eq (pe_ix (ix_tupK K) (pv 0) pe_int (fun _ _ => rfl)) pe_str (nomark _)) (pss_one (ps_ret (pe_and (pe_call (G_is_turn (K := K) T) (hr.mono (by decide)) (by rfl) T.g_is_turn T.F_is_turn.kp T.b_is_turn .nil pass0 (pa_cons (pe_ix (ix_tupK K) (pv 0) pe_int (fun _ _ => rfl)) pa_nil)) (pe_one (pe_call (G_is_hole (K := K) T) (hr.mono (by decide)) (by rfl) T.g_is_hole T.F_is_hole.kp T.b_is_hole .nil pass0 (pa_cons (pe_ix (ix_tupK K) (pv 0) pe_int (fun _ _ => rfl)) pa_nil)))))) pss_nil)
        (pss_cons (ps_if (pt_cmpR op_eq (pe_ix (ix_tupK K) (pv 0) pe_int (fun _ _ => rfl)) pe_str (nomark _)) (pss_one (ps_ret (pe_and (pe_call (G_is_name (K := K) T) (hr.mono (by decide)) (by rfl) T.g_is_name T.F_is_name.kp T.b_is_name .nil pass0 (pa_cons (pe_ix (ix_tupK K) (pv 0) pe_int (fun _ _ => rfl)) pa_nil)) (pe_one (pe_callB (call_isiK' K) (by rfl) T.n_isinstance (by decide +kernel) (pa_cons (pe_ix (ix_tupK K) (pv 0) pe_int (fun _ _ => rfl)) (pa_cons (pe_bltn (v := .ty "tuple") (by rfl) T.n_tuple (by decide +kernel) rfl) pa_nil))))))) pss_nil)
        (pss_one (ps_ret (pe_and (pe_cmpR op_eq (pe_ix (ix_tupK K) (pv 0) pe_int (fun _ _ => rfl)) pe_str (nomark _)) (pe_one (pe_call (G_is_name (K := K) T) (hr.mono (by decide)) (by rfl) T.g_is_name T.F_is_name.kp T.b_is_name .nil pass0 (pa_cons (pe_ix (ix_tupK K) (pv 0) pe_int (fun _ _ => rfl)) pa_nil)))))))))), ?_⟩
    cases hx with
    | @name q0 n h a =>
      walk_at "rd"
      refine r_isi (ty_tup h) (b := true) rfl ?_
      walk_at "rd"
      refine ⟨by show 2 ≤ sizeLine; decide, fun tt ntt => ?_⟩
      have s1 := same_new (o := .tup [.int 2, .int 3]) ntt
      refine ⟨tt, _, rfl, .inr (sqT upd_same), rfl, rfl, ?_⟩
      rw [if_pos rfl, show inV (V.int _) [V.int 2, V.int 3] = true from rfl]
      generalize upd H tt (.tup [.int 2, .int 3]) = H1 at s1 ⊢
      have h1 := (Tups.of s1).sq h
      walk_at "rd"
      refine r_yes' rfl ?_
      walk_at "rd"
      refine r_yes' rfl ?_
      walk_at "rd"
      exact askN (.name a) fun H2 s2 => q H2 (s1.trans s2)
    | @hole q0 y t X h d it ho =>
      walk_at "rd"
      refine r_isi (ty_tup h) (b := true) rfl ?_
      walk_at "rd"
      refine ⟨by show 2 ≤ sizeLine; decide, fun tt ntt => ?_⟩
      have s1 := same_new (o := .tup [.int 2, .int 3]) ntt
      refine ⟨tt, _, rfl, .inr (sqT upd_same), rfl, rfl, ?_⟩
      rw [if_pos rfl, show inV (V.int _) [V.int 2, V.int 3] = true from rfl]
      generalize upd H tt (.tup [.int 2, .int 3]) = H1 at s1 ⊢
      have h1 := (Tups.of s1).sq h
      walk_at "rd"
      refine r_no (by show ¬ ((3 : Int) = 2); decide) ?_
      walk_at "rd"
      refine r_yes' rfl ?_
      walk_at "rd"
      refine ⟨y, some t, rfl, (d.stay (.of s1)).tg it, fun H2 s2 => ?_⟩
      have h2 := (Tups.of s2).sq h1
      rw [turnB_yes it]
      walk_at "rd"
      refine ⟨.str X, rfl, .inl ⟨X, rfl, sizeH ho, fun H3 s3 => ?_⟩⟩
      rw [wordB_iff.mpr ho]
      exact q H3 (s1.trans (s2.trans s3))
    | @shut q0 n y b h a s =>
      walk_at "rd"
      refine r_isi (ty_tup h) (b := true) rfl ?_
      walk_at "rd"
      refine ⟨by show 2 ≤ sizeLine; decide, fun tt ntt => ?_⟩
      have s1 := same_new (o := .tup [.int 2, .int 3]) ntt
      refine ⟨tt, _, rfl, .inr (sqT upd_same), rfl, rfl, ?_⟩
      rw [if_pos rfl, show inV (V.int _) [V.int 2, V.int 3] = true from rfl]
      generalize upd H tt (.tup [.int 2, .int 3]) = H1 at s1 ⊢
      have h1 := (Tups.of s1).sq h
      walk_at "rd"
      refine r_no (by show ¬ ((3 : Int) = 2); decide) ?_
      walk_at "rd"
      refine r_no ne_th ?_
      walk_at "rd"
      refine r_no ne_ts ?_
      walk_at "rd"
      refine r_yes' rfl ?_
      walk_at "rd"
      exact askN (.name a) fun H2 s2 => q H2 (s1.trans s2)
    | @sign q0 z n xs ps h a hz s =>
      walk_at "rd"
      refine r_isi (ty_tup h) (b := true) rfl ?_
      walk_at "rd"
      refine ⟨by show 2 ≤ sizeLine; decide, fun tt ntt => ?_⟩
      have s1 := same_new (o := .tup [.int 2, .int 3]) ntt
      refine ⟨tt, _, rfl, .inr (sqT upd_same), rfl, rfl, ?_⟩
      rw [if_pos rfl, show inV (V.int _) [V.int 2, V.int 3] = true from rfl]
      generalize upd H tt (.tup [.int 2, .int 3]) = H1 at s1 ⊢
      have h1 := (Tups.of s1).sq h
      walk_at "rd"
      refine r_no (by show ¬ ((3 : Int) = 2); decide) ?_
      walk_at "rd"
      refine r_no ne_sh ?_
      walk_at "rd"
      refine r_yes' rfl ?_
      walk_at "rd"
      refine askN (.name a) fun H2 s2 => ?_
      have h2 := (Tups.of s2).sq h1
      walk_at "rd"
      refine r_isi (ty_tup ((Tups.of (s1.trans s2)).sq hz)) (b := true) rfl ?_
      exact q H2 (s1.trans s2)
    | bad h =>
      rcases h with ⟨t, ty, kt⟩ | ⟨q0, xs, rfl, h, n2, n3⟩
      · walk_at "rd"
        refine r_isi ty kt ?_
        walk_at "rd"
        exact q H (Same.refl _)
      · walk_at "rd"
        refine r_isi (ty_tup h) (b := true) rfl ?_
        walk_at "rd"
        refine ⟨by show 2 ≤ sizeLine; decide, fun tt ntt => ?_⟩
        have s1 := same_new (o := .tup [.int 2, .int 3]) ntt
        refine ⟨tt, _, rfl, .inr (sqT upd_same), rfl, rfl, ?_⟩
        rw [if_pos rfl, in23 n2 n3]
        walk_at "rd"
        exact q _ s1
theorem tms_snoc {K : PySem.W.Frag} {H : Hp} {ws : List V} {Ts : List Tm} (h : TmsV K H ws Ts) : (ws = [] ∧ Ts = []) ∨ ∃ ws1 v Ts1 T, ws = ws1 ++ [v] ∧ Ts = Ts1 ++ [T] ∧ TmsV K H ws1 Ts1 ∧ TmV K H v T := by
  have p := h.pd
  clear h
  induction p with
  | nil => exact .inl ⟨rfl, rfl⟩
  | @cons x T xs Ts r t ih =>
    rcases ih with ⟨rfl, rfl⟩ | ⟨ws1, v, Ts1, U, rfl, rfl, h1, hv⟩
    · exact .inr ⟨[], x, [], T, rfl, rfl, .nil, r⟩
    · exact .inr ⟨x :: ws1, v, T :: Ts1, U, rfl, rfl, .cons r h1, hv⟩
theorem tms_app {K : PySem.W.Frag} {H : Hp} : ∀ {xs ys : List V} {Ts Us : List Tm}, TmsV K H xs Ts → TmsV K H ys Us → TmsV K H (xs ++ ys) (Ts ++ Us)
  | _, _, _, _, .nil, u => u
  | _, _, _, _, .cons h t, u => .cons h (tms_app t u)
theorem tms_len {K : PySem.W.Frag} {H : Hp} : ∀ {xs : List V} {Ts : List Tm}, TmsV K H xs Ts → xs.length = Ts.length
  | _, _, .nil => rfl
  | _, _, .cons _ t => by rw [List.length_cons, List.length_cons, tms_len t]
def sp_is_term (K : PySem.W.Frag) : Sp := fun vs H Q _ => ∃ (x : V) (T : Tm), vs = [x] ∧ TmV K H x T ∧ T.size ≤ 1000 ∧ ∀ H', Same H H' → Q (.bl T.good) H'
theorem G_is_term (T : Txt K mg a) : FnOk P w K mg base CX0 6 a.f_is_term a.d_is_term ["thing"] (sp_is_term K) := by
  refine T.F_is_term.ok sc_is_term (fun vs H Q E h => ?_) (fun cdv A outer s H vs Q E hr h => ?_)
  · obtain ⟨x, T, rfl, _⟩ := h
    rfl
  · obtain ⟨x, U, rfl, hx, hz, q⟩ := h
    refine ⟨_, (pss_cons (ps_set (i := 1) sc_is_term.nd rfl (.inl rfl) (pe_lst (pa_cons (pv 0) pa_nil)))
        (pss_cons (ps_while PassesOwn.never (pt_truth (pv 1) (fun _ => rfl)) (pss_cons (ps_set (i := 2) sc_is_term.nd rfl (.inl rfl) (pe_bm0K K PySem.F.plainAttrs_list PySem.F.slot_list_pop PySem.F.type_list_pop mt_pop (pv 1)))
        (pss_cons (ps_if (pt_not (pt_val (pe_call (G_is_part (K := K) T) (hr.mono (by decide)) (by rfl) T.g_is_part T.F_is_part.kp T.b_is_part .nil pass0 (pa_cons (pv 2) pa_nil)))) (pss_one (ps_ret pe_bl)) pss_nil)
        (pss_one (ps_expr (pe_bmK K PySem.F.plainAttrs_list PySem.F.slot_list_extend PySem.F.type_list_extend (mt_extendAK K) (pv 1) (pa_cons (pe_call (G_within (K := K) T) (hr.mono (by decide)) (by rfl) T.g_within T.F_within.kp T.b_within .nil pass0 (pa_cons (pv 2) pa_nil)) pa_nil)))))))
        (pss_one (ps_ret pe_bl)))), ?_⟩
    walk_at "rd"
    refine ⟨by show 1 ≤ sizeLine; decide, fun l nl => ?_⟩
    have s1 := same_new (o := .lst [x]) nl
    have h1 := upd_same (H := H) (a := l) (o := .lst [x])
    have x1 := hx.stay (.of s1)
    generalize upd H l (.lst [x]) = H1 at s1 h1 x1 ⊢
    walk_at "rd"
    refine ⟨fun m σ H2 => ∃ (ws : List V) (Ts : List Tm) (y : Option V), σ = [some x, some (.ref l), y] ∧ Same H H2 ∧ H2 l = some (.lst ws) ∧ TmsV K H2 ws Ts ∧ U.good = Tm.goods Ts ∧ Tm.sizes Ts ≤ 1000 ∧ m = Tm.sizes Ts,
      ⟨U.size, [x], [U], none, rfl, s1, h1, .cons x1 .nil, by show U.good = (U.good && true); rw [Bool.and_true], hz, rfl⟩, ?_⟩
    rintro m σ H2 ⟨ws, Ts, y, rfl, s2, h2, hT, eg, hz2, rfl⟩
    have nlH : H l = none := nl
    walk_at "rd"
    refine ⟨!ws.isEmpty, .inl ⟨ws, sqL h2, rfl⟩, ?_⟩
    rcases tms_snoc hT with ⟨rfl, rfl⟩ | ⟨ws1, v, Ts1, U1, rfl, rfl, hT1, hv⟩
    · walk_at "rd"
      rw [show U.good = true from eg] at q
      exact q _ s2
    · rw [show (!(ws1 ++ [v]).isEmpty) = true by cases ws1 <;> rfl, if_pos rfl]
      refine ⟨fun σ' H' => ∃ (ws : List V) (Ts : List Tm) (y : Option V), σ' = [some x, some (.ref l), y] ∧ Same H H' ∧ H' l = some (.lst ws) ∧ TmsV K H' ws Ts ∧ U.good = Tm.goods Ts ∧ Tm.sizes Ts < Tm.sizes (Ts1 ++ [U1]), ?_, ?_⟩
      · rintro σ' H' ⟨ws, Ts, y, rfl, s', h', hT', e', lt⟩
        exact ⟨_, lt, ws, Ts, y, rfl, s', h', hT', e', by omega, rfl⟩
      walk_at "rd"
      refine ⟨.inl ⟨rfl, _, sqL h2⟩, ?_⟩
      refine ⟨l, ws1 ++ [v], v, rfl, rfl, h2, by simp, ?_⟩
      rw [List.dropLast_concat]
      have sy : Stay K H2 (upd H2 l (.lst ws1)) := Stay.at (K := K) (fun b o n e => by rw [upd_ne n]; exact e) h2 upd_same
      have s3 : Same H (upd H2 l (.lst ws1)) := Pf.Same.mut s2 nlH
      have h3 := upd_same (H := H2) (a := l) (o := .lst ws1)
      replace hT1 := hT1.stay sy
      replace hv := hv.stay sy
      clear hT h2 s2 sy
      generalize upd H2 l (.lst ws1) = H3 at s3 h3 hT1 hv ⊢
      rw [Tm.goods_app] at eg
      rw [Tm.sizes_app] at hz2
      have e1 : Tm.sizes [U1] = U1.size := rfl
      have e2 : Tm.goods [U1] = U1.good := by show (U1.good && true) = _; rw [Bool.and_true]
      rw [e1, Tm.size_kids U1] at hz2
      rw [e2, Tm.good_kids U1] at eg
      walk_at "rd"
      refine ⟨v, U1, rfl, hv, fun H4 s4 => ?_⟩
      cases eb : U1.isBad with
      | true =>
        refine ⟨_, rfl, ?_⟩
        rw [show (!!true) = true from rfl, if_pos rfl]
        walk_at "rd"
        rw [eb, Bool.not_true, Bool.false_and, Bool.and_false] at eg
        rw [eg] at q
        exact q _ (s3.trans s4)
      | false =>
        refine ⟨_, rfl, ?_⟩
        rw [show (!!false) = false from rfl, if_neg Bool.false_ne_true]
        walk_at "rd"
        have h4 := s4 _ _ h3
        refine ⟨.inl ⟨rfl, _, sqL h4⟩, ?_⟩
        walk_at "rd"
        refine ⟨v, U1, rfl, hv.stay (.of s4), eb, fun qk xs H5 s5 hk hkT => ?_⟩
        have h5 := s5 _ _ h4
        have hT5 := hT1.stay (.of (s4.trans s5))
        have n1 := tms_len hT5
        have n2 := tms_len hkT
        have n3 := Tm.sizes_len Ts1
        have n4 := Tm.sizes_len U1.kids
        refine ⟨l, qk, ws1, xs, rfl, rfl, h5, hk, by rw [sizeLine_eq]; omega, ?_⟩
        have sy : Stay K H5 (upd H5 l (.lst (ws1 ++ xs))) := Stay.at (K := K) (fun b o n e => by rw [upd_ne n]; exact e) h5 upd_same
        refine ⟨ws1 ++ xs, Ts1 ++ U1.kids, _, rfl, Pf.Same.mut (s3.trans (s4.trans s5)) nlH, upd_same, (tms_app hT5 hkT).stay sy, ?_, ?_⟩
        · rw [eg, eb, Tm.goods_app]; rfl
        · rw [Tm.sizes_app, Tm.sizes_app, e1, Tm.size_kids U1]; omega
def sp_chk (K : PySem.W.Frag) (C : Addr) : Sp := fun vs H Q E => ∃ (x : V) (T : Tm), vs = [x] ∧ TmV K H x T ∧ T.size ≤ 1000 ∧ (T.good = true → ∀ H', Same H H' → Q .non H') ∧ (T.good = false → ∀ H', Same H H' → E (.ref C) none H')
theorem G_check_term (T : Txt K mg a) : FnOk P w K mg base (L2.CX P w) 7 a.f_check_term a.d_check_term ["thing"] (sp_chk K a.f_NoTerm) := by
  refine T.F_check_term.okX sc_check_term (fun vs H Q E h => ?_) (fun cdv A outer s H vs Q E hr h => ?_)
  · obtain ⟨x, T, rfl, _⟩ := h
    rfl
  · obtain ⟨x, U, rfl, hx, hz, q1, q2⟩ := h
    refine ⟨_, (pss_one (ps_if (pt_not (pt_val (pe_call (G_is_term (K := K) T) (hr.mono (by decide)) (by rfl) T.g_is_term T.F_is_term.kp T.b_is_term .nil pass0 (pa_cons (pv 0) pa_nil)))) (pss_one (ps_raise rfl (takes_of rfl rfl rfl rfl) (pmk_own PySem.F.excBase_ValueError T.x_NoTerm T.g_NoTerm T.k_NoTerm (raises_own T.r_NoTerm T.y_NoTerm) rfl))) pss_nil)), ?_⟩
    walk_at "rd"
    refine ⟨x, U, rfl, hx, hz, fun H1 s1 => ?_⟩
    cases e : U.good with
    | true =>
      walk_at "rd"
      exact q1 e H1 s1
    | false =>
      walk_at "rd"
      exact q2 e H1 s1
end
end Pf

/-! own rule: xs[::k], k one or minus one -/
namespace Pf
open PySem PySem.Spec PyProof.Rows L2
theorem pickOne (items : Array Value) : slicePick items none none (some 1) = items := by
  have b : sliceBounds none none (some 1) items.size = (0, (items.size : Int), 1) := by simp [sliceBounds]
  have r : sliceRange 0 (items.size : Int) 1 = List.range items.size := by
    simp [sliceRange]
    cases items.size <;> simp
  unfold slicePick
  rw [b]
  show ((sliceRange 0 (items.size : Int) 1).filterMap (items[·]?)).toArray = items
  rw [r, PySem.W.krv_all]
/-- xs[::k] -/
def tStep (K : PySem.W.Frag) (te ts : TE) : TE := fun σ H Q => te σ H fun x H1 => ∃ a xs, x = .ref a ∧ SqL K H1 a xs ∧ tPart ts σ H1 fun o H2 => ∃ k : Int, o = some k ∧ SqL K H2 a xs ∧ (k = 1 ∨ k = -1) ∧ ∀ p, H2 p = none → Q (.ref p) (upd H2 p (.lst (if k = 1 then xs else xs.reverse)))
section
variable {X : Cx}
theorem pe_step {e st : Expr} {te ts : TE} {p2 pos : Pos} (he : PE X e te) (hst : PE X st ts) : PE X (.Subscript e (.Slice none none (some st) p2) pos) (tStep X.K te ts) := by
  refine ⟨fun pins s σ H Q I w => ?_⟩
  refine Subscript_ (thn (he.run pins s σ H _ I w) fun v s1 ⟨x, H1, I1, r1, a, xs, ex, hx, q⟩ => ?_)
  subst ex
  cases r1
  have step : PO X (some st) (tPart ts) := po_some hst
  refine wpAny_Slice (thn (po_none.run pins s1 σ H1 (fun o H2 => o = none ∧ H2 = H1) I1 ⟨rfl, rfl⟩) fun vl s2 ⟨l, H2, I2, pl, el, e2⟩ => ?_)
  subst el e2
  refine thn (po_none.run pins s2 σ H2 (fun o H3 => o = none ∧ H3 = H2) I2 ⟨rfl, rfl⟩) fun vu s3 ⟨u, H3, I3, pu, eu, e3⟩ => ?_
  subst eu e3
  refine thn (step.run pins s3 σ H3 _ I3 q) fun vs s4 ⟨o, H4, I4, ps, k, eo, hx4, one, q4⟩ => ?_
  subst eo
  have I5 : Inv X pins σ H4 { s4 with heap := s4.heap.push { cls := .type "slice", data := .fields #[vl, vu, vs] } } := I4.kept (t' := s4.toks) fun b ob z => Heap.get?_push_of_some _ z
  obtain ⟨its, r, ht, hz⟩ := I5.list hx4
  have ln := r.length
  have pick : (slicePick its.toArray none none (some k)).toList = if k = 1 then its else its.reverse := by
    rcases one with e | e
    · rw [e, pickOne, if_pos rfl]
    · rw [e, PySem.W.krv_pick, if_neg (by decide)]
  show wpAny (model X.prog X.w) X.A (subscriptTail e (.Slice none none (some st) p2) (.ref a) (.ref s4.heap.objs.size)) (EP X pins σ Q) X.xe { s4 with heap := s4.heap.push { cls := .type "slice", data := .fields #[vl, vu, vs] } }
  refine tail_any (ops := [.ref a, .ref s4.heap.objs.size]) ht.isList.typeIs (PySem.slot_list_getitem.lookup) ?_ (by with_unfolding_all rfl)
  refine wpAny_getItem_list_slice ht.isList (Heap.IsSliceOf.new _ vl vu vs) pl pu ps (by rcases one with e | e <;> rw [e] <;> decide) ?_ (by rw [List.size_toArray]; omega)
  have vals : Vals (if k = 1 then xs else xs.reverse) (slicePick its.toArray none none (some k)).toList := by
    rw [pick]
    rcases one with e | e
    · rw [if_pos e, if_pos e]; exact r
    · have n1 : ¬ k = 1 := by omega
      rw [if_neg n1, if_neg n1]; exact r.reverse
  refine ⟨.ref _, _, I5.laid (t' := s4.toks) (o := .lst (if k = 1 then xs else xs.reverse)) (fun b ob z => Heap.get?_push_of_some _ z) (Nat.le_refl _) ?_, rfl, q4 _ (I5.hok.fresh (Nat.le_refl _))⟩
  exact ⟨by split; exact hz; rw [List.length_reverse]; exact hz, _, 0, vals, Heap.get?_push_size _ rfl⟩
theorem pe_stepK (K : PySem.W.Frag) {e st : Expr} {te ts : TE} {p2 pos : Pos} (he : PE X e te) (hst : PE X st ts) (eK : X.K = K := by rfl) : PE X (.Subscript e (.Slice none none (some st) p2) pos) (tStep K te ts) := eK ▸ pe_step he hst
end
theorem r_step {K : PySem.W.Frag} {te ts : TE} {σ : L2.St} {H : Hp} {Q : VK} (h : te σ H fun x H1 => ∃ a xs, x = .ref a ∧ SqL K H1 a xs ∧ ts σ H1 fun y H2 => ∃ i : Int, y = .int i ∧ ∃ k : Int, some i = some k ∧ SqL K H2 a xs ∧ (k = 1 ∨ k = -1) ∧ ∀ p, H2 p = none → Q (.ref p) (upd H2 p (.lst (if k = 1 then xs else xs.reverse)))) : tStep K te ts σ H Q := h
end Pf

/-! own rule: t[::-1] of a tuple -/
namespace Pf
open PySem PySem.Spec PyProof.Rows L2
theorem backAdjust (n : Nat) : Builtin.Slice.sliceAdjust none none (-1) (n : Int) = ((n : Int) - 1, -1) := rfl
theorem backPlaces (n : Nat) : Builtin.Slice.slicePlaces ((n : Int) - 1) (-1) (-1) = n := by
  unfold Builtin.Slice.slicePlaces
  rw [if_neg (by decide)]
  by_cases h : n = 0
  · subst h; rfl
  · rw [if_pos (by omega)]
    have : ((n : Int) - 1 - -1 - 1) / (- -1) + 1 = n := by
      rw [show (- -1 : Int) = 1 from rfl, Int.ediv_one]
      omega
    rw [this]
    exact Int.toNat_natCast n
theorem fm_map {α β : Type} {f : α → Option β} {g : α → β} : ∀ {l : List α}, (∀ k ∈ l, f k = some (g k)) → l.filterMap f = l.map g
  | [], _ => rfl
  | k :: r, h => by
    rw [List.filterMap_cons_some (h k List.mem_cons_self), List.map_cons, fm_map fun x hx => h x (List.mem_cons_of_mem _ hx)]
theorem backItems (xs : Array Value) : ((List.range xs.size).filterMap fun (k : Nat) => xs[((xs.size : Int) - 1 + (k : Int) * -1).toNat]?) = xs.toList.reverse := by
  have e : ∀ k ∈ List.range xs.size, xs[((xs.size : Int) - 1 + (k : Int) * -1).toNat]? = some (xs.toList.reverse.getD k .none) := fun k hk => by
    have hk := List.mem_range.mp hk
    have z : ((xs.size : Int) - 1 + (k : Int) * -1).toNat = xs.size - 1 - k := by omega
    have lt : xs.size - 1 - k < xs.size := by omega
    rw [z, Array.getElem?_eq_getElem lt, List.getD_eq_getElem?_getD, List.getElem?_reverse (by rw [Array.length_toList]; exact hk), Array.length_toList, Array.getElem?_toList, Array.getElem?_eq_getElem lt]
    rfl
  rw [fm_map e]
  refine List.ext_getElem? fun i => ?_
  rw [List.getElem?_map]
  by_cases h : i < xs.size
  · rw [List.getElem?_range h, List.getElem?_eq_getElem (by rw [List.length_reverse, Array.length_toList]; exact h)]
    show some (xs.toList.reverse.getD i Value.none) = _
    rw [List.getD_eq_getElem?_getD, List.getElem?_eq_getElem (by rw [List.length_reverse, Array.length_toList]; exact h)]
    rfl
  · rw [List.getElem?_eq_none (by rw [List.length_range]; omega), List.getElem?_eq_none (by rw [List.length_reverse, Array.length_toList]; omega)]
    rfl
section
variable {prog : Program} {w : World} {A : Around} {E : Value → Shared → Prop} {s : Shared}
theorem backApplied {sl : Addr} {vl vu vs : Value} {n : Nat} {Q : Int × Int × Nat → Shared → Prop} (hs : s.heap.IsSliceOf sl vl vu vs) (pl : IsPart vl none) (pu : IsPart vu none) (ps : IsPart vs (some (-1)))
    (h : Q ((n : Int) - 1, -1, n) s) : wpAny (model prog w) A (Builtin.Slice.sliceApplied (.ref sl) (pure (n : Int))) Q E s := by
  obtain ⟨os, at0, c0, d0⟩ := id hs
  unfold Builtin.Slice.sliceApplied Builtin.Slice.sliceFields
  refine wpAny_bind (wpAny_bind (wpAny_field at0 d0 (x := vl) rfl (wpAny_bind (wpAny_field at0 d0 (x := vu) rfl ?_))))
  refine wpAny_bind (wpAny_field at0 d0 (x := vs) rfl (wpAny_pure ?_))
  refine wpAny_bind (HT.slicePart_ ps ?_)
  show wpAny _ _ (if ((-1 : Int) == 0) = true then _ else _) _ _ s
  rw [if_neg (by decide)]
  refine wpAny_bind (HT.slicePart_ pl (wpAny_bind (HT.slicePart_ pu ?_)))
  refine wpAny_bind (wpAny_pure ?_)
  show wpAny _ _ (match Builtin.Slice.sliceAdjust none none (-1) (n : Int) with | (lo, hi) => pure (lo, (-1 : Int), Builtin.Slice.slicePlaces lo hi (-1))) _ _ s
  rw [backAdjust n]
  show wpAny _ _ (pure ((n : Int) - 1, (-1 : Int), Builtin.Slice.slicePlaces ((n : Int) - 1) (-1) (-1))) _ _ s
  rw [backPlaces]
  exact wpAny_pure h
theorem backTuple {t sl : Addr} {items : Array Value} {vl vu vs : Value} {Q : Value → Shared → Prop} (isT : IsTup s.heap t items) (isS : s.heap.IsSliceOf sl vl vu vs) (pl : IsPart vl none) (pu : IsPart vu none) (ps : IsPart vs (some (-1)))
    (few : items.size ≤ sizeLine) (next : Q (.ref s.heap.objs.size) { s with heap := s.heap.push { cls := .type "tuple", data := .seq items.toList.reverse.toArray } }) : wpAny (model prog w) A (getItem (.ref t) (.ref sl)) Q E s := by
  obtain ⟨ob, atS, clsS, datS⟩ := id isS
  have tyS : s.TypeIs (.ref sl) "slice" := ⟨ob, atS, clsS⟩
  unfold getItem
  try with_reducible refine wpAny_holding ?_
  first | refine wpAny_bind (wpAny_pure ?_) | skip
  refine wpAny_bind (wpAny_sequenceKey isT.typeIs (by decide) ?_)
  refine wpAny_bind (wpAny_callSpecial?_slot (name := Str.ofString "__getitem__") isT.typeIs PyProof.Rows.slot_tuple_getitem ?_)
  refine wpAny_call_entry PyProof.Rows.slot_tuple_getitem isT.typeIs PyProof.Rows.entry_tuple_getitem ?_ (PyProof.Rows.args_tuple_getitem _ _)
  refine (show wpAny _ _ (Builtin.Tuple.tupleItemsOf (.ref t) >>= _) _ _ s from wpAny_bind (tupleItemsOf_ isT (wpAny_bind (wpAny_typeOf tyS ?_))))
  rw [if_pos (by decide)]
  refine wpAny_bind (backApplied isS pl pu ps ?_)
  show wpAny _ _ (if ((((items.size : Int) - 1) == 0 && (-1 : Int) == 1 && items.size == items.size) = true) then _ else _) _ _ s
  rw [if_neg (by simp)]
  rw [backItems]
  exact wpAny_bind (m := Builtin.Tuple.tupleExact _) (wpAny_newObj_type (wpAny_pure ⟨_, rfl, wpAny_pure next⟩) (by show items.toList.reverse.toArray.size ≤ sizeLine; simpa using few))
end
/-- t[::-1] of a tuple -/
def tBack (K : PySem.W.Frag) (te ts : TE) : TE := fun σ H Q => te σ H fun x H1 => ∃ a xs, x = .ref a ∧ SqT K H1 a xs ∧ tPart ts σ H1 fun o H2 => o = some (-1) ∧ SqT K H2 a xs ∧ ∀ p, H2 p = none → Q (.ref p) (upd H2 p (.tup xs.reverse))
section
variable {X : Cx}
theorem pe_back {e st : Expr} {te ts : TE} {p2 pos : Pos} (he : PE X e te) (hst : PE X st ts) : PE X (.Subscript e (.Slice none none (some st) p2) pos) (tBack X.K te ts) := by
  refine ⟨fun pins s σ H Q I w => ?_⟩
  refine Subscript_ (thn (he.run pins s σ H _ I w) fun v s1 ⟨x, H1, I1, r1, a, xs, ex, hx, q⟩ => ?_)
  subst ex
  cases r1
  have step : PO X (some st) (tPart ts) := po_some hst
  have nothing : PO X none (fun _ H Q => Q none H) := po_none
  refine wpAny_Slice (thn (nothing.run pins s1 σ H1 (fun o H2 => o = none ∧ H2 = H1) I1 ⟨rfl, rfl⟩) fun vl s2 ⟨l, H2, I2, pl, el, e2⟩ => ?_)
  subst el e2
  refine thn (nothing.run pins s2 σ H2 (fun o H3 => o = none ∧ H3 = H2) I2 ⟨rfl, rfl⟩) fun vu s3 ⟨u, H3, I3, pu, eu, e3⟩ => ?_
  subst eu e3
  refine thn (step.run pins s3 σ H3 _ I3 q) fun vs s4 ⟨o, H4, I4, ps, eo, hx4, q4⟩ => ?_
  subst eo
  have I5 : Inv X pins σ H4 { s4 with heap := s4.heap.push { cls := .type "slice", data := .fields #[vl, vu, vs] } } := I4.kept (t' := s4.toks) fun b ob z => Heap.get?_push_of_some _ z
  obtain ⟨its, r, ht, hz⟩ := I5.tuple hx4
  have ln := r.length
  show wpAny (model X.prog X.w) X.A (subscriptTail e (.Slice none none (some st) p2) (.ref a) (.ref s4.heap.objs.size)) (EP X pins σ Q) X.xe { s4 with heap := s4.heap.push { cls := .type "slice", data := .fields #[vl, vu, vs] } }
  refine tail_any (ops := [.ref a, .ref s4.heap.objs.size]) ht.typeIs (PyProof.Rows.slot_tuple_getitem.lookup) ?_ (by with_unfolding_all rfl)
  refine backTuple ht (Heap.IsSliceOf.new _ vl vu vs) pl pu ps (by rw [List.size_toArray]; omega) ?_
  refine ⟨.ref _, _, I5.laid (t' := s4.toks) (o := .tup xs.reverse) (fun b ob z => Heap.get?_push_of_some _ z) (Nat.le_refl _) ?_, rfl, q4 _ (I5.hok.fresh (Nat.le_refl _))⟩
  exact ⟨by rw [List.length_reverse]; omega, _, r.reverse, IsTup.new _ _⟩
theorem pe_backK (K : PySem.W.Frag) {e st : Expr} {te ts : TE} {p2 pos : Pos} (he : PE X e te) (hst : PE X st ts) (eK : X.K = K := by rfl) : PE X (.Subscript e (.Slice none none (some st) p2) pos) (tBack K te ts) := eK ▸ pe_back he hst
end
theorem r_back {K : PySem.W.Frag} {te ts : TE} {σ : L2.St} {H : Hp} {Q : VK} (h : te σ H fun x H1 => ∃ a xs, x = .ref a ∧ SqT K H1 a xs ∧ ts σ H1 fun y H2 => ∃ i : Int, y = .int i ∧ some i = some (-1) ∧ SqT K H2 a xs ∧ ∀ p, H2 p = none → Q (.ref p) (upd H2 p (.tup xs.reverse))) : tBack K te ts σ H Q := h
theorem op_catAK {X : Cx} (K : PySem.W.Frag) (e : X.K = K := by rfl) : OpR X (binaryOp .Add) (rCatA K) := e ▸ op_catA
theorem r_catA {K : PySem.W.Frag} {H : Hp} {a b : Addr} {xs ys : List V} {Q : VK} (ha : SqT K H a xs) (hb : SqT K H b ys) (few : xs.length + ys.length ≤ sizeLine) (fin : ∀ q H', Same H H' → SqT K H' q (xs ++ ys) → Q (.ref q) H') : rCatA K (.ref a) (.ref b) H Q := by
  refine ⟨a, b, xs, ys, rfl, rfl, ha, hb, few, fun e => fin b H (Same.refl _) (by rw [e]; exact hb), fun _ e => fin a H (Same.refl _) (by rw [e, List.append_nil]; exact ha), fun _ _ p np => fin p _ (same_new np) (sqT upd_same)⟩
end Pf

namespace Pf
open PySem PySem.Spec PyProof.Rows L2
local macro_rules | `(tactic| walk_at "rd") => `(tactic| (repeat' (first
  | with_reducible refine r_seq ?_ | with_reducible refine r_asg ?_ | with_reducible refine r_ret ?_ | with_reducible refine r_retN ?_ | with_reducible refine r_drop ?_ | with_reducible refine r_if ?_
  | with_reducible refine r_op ?_ | (with_reducible show tVar _ _ _ _; refine r_var rfl ?_) | with_reducible refine r_c ?_ | with_reducible refine r_I0 ?_ | (with_reducible refine r_I ?c ?_; (case c => first | (show (0 : Int) < _; first | decide | assumption | omega) | exact cmul_r ⟨by decide, by decide⟩ | exact cmul_l ⟨by decide, by decide⟩ | exact cmul_r (by first | assumption | constructor <;> omega) | (unfold CDiv; constructor <;> decide) | (unfold CPow; refine ⟨?_, ?_, ?_⟩ <;> decide))) | with_reducible refine r_name ?_ | (with_reducible show rIxL _ _ _ _ _; refine r_ixL (sqL (by assumption)) rfl ?_) | (with_reducible show rIxT _ _ _ _ _; refine r_ixT (by assumption) rfl ?_) | (with_reducible show rSetL _ _ _ _ _; refine r_setL (by assumption) rfl ?_) | with_reducible refine r_test ?_ | with_reducible refine r_tB ?_ | with_reducible refine r_bl ?_
  | with_reducible refine r_not ?_ | with_reducible refine r_and ?_ | with_reducible refine r_or ?_ | with_reducible refine r_andV ?_ | with_reducible refine r_orV ?_ | with_reducible refine r_notV ?_ | with_reducible refine r_ifE ?_
  | with_reducible refine r_cons ?_ | with_reducible refine r_nil ?_ | with_reducible refine r_cb ?_ | with_reducible refine r_call ?_ | with_reducible refine r_lst ?_ | with_reducible refine r_tup ?_ | with_reducible refine r_bm ?_ | with_reducible refine r_bm0 ?_
  | with_reducible refine r_un ?_ | with_reducible refine r_U ?_ | with_reducible refine r_eqI ?_ | with_reducible refine r_eqS ?_ | with_reducible refine r_neI ?_ | with_reducible refine r_neS ?_ | with_reducible refine r_sub ?_ | with_reducible refine r_gcons ?_ | with_reducible refine r_gnil ?_
  | with_reducible refine r_chain ?_ | with_reducible refine r_get2 ?_ | with_reducible refine r_iList ?_ | with_reducible refine r_iStr ?_ | with_reducible refine r_iTup ?_ | with_reducible refine r_iRev ?_ | with_reducible refine r_iItems ?_ | with_reducible refine r_rng ?_ | with_reducible refine r_inS ?_ | with_reducible refine r_bI ?_ | with_reducible refine r_abs ?_ | with_reducible refine r_sl ?_ | with_reducible refine r_next ?_ | with_reducible refine r_yes ?_
  | (with_reducible show rLen _ _ _ _; first | refine r_lenK (sqL (by assumption)) ?_ | refine r_lenK (by assumption) ?_ | refine r_lenTK (by assumption) ?_)
  | (with_reducible show tFor _ _ _ _ _ _; unfold tFor) | (with_reducible show tLc _ _ _ _ _ _ _ _; unfold tLc) | (with_reducible show tWhile _ _ _ _ _; unfold tWhile)
  | (with_reducible refine ⟨_, rfl, ?_⟩) | (with_reducible refine ⟨_, _, rfl, rfl, ?_⟩) | (with_reducible refine Or.inr ⟨_, rfl, ?_⟩) | (refine ⟨_, _, rfl, Or.inl (by assumption), ?_⟩; skip) | (refine ⟨_, _, rfl, Or.inr (by assumption), ?_⟩; skip)
  | (with_reducible refine iteNT ?_) | (with_reducible refine iteNF ?_) | (with_reducible refine iteT ?_) | (with_reducible refine iteF ?_)
  | (dsimp only [Bool.not_true, Bool.not_false, List.cons_append, List.nil_append]))))

local macro_rules | `(tactic| walk_at "st") => `(tactic| first | exact Same.refl _ | assumption | (refine Same.trans (by assumption) ?_; walk_at "st"))
local macro_rules | `(tactic| walk_at "ok") => `(tactic| first | assumption | exact up_tm (by assumption) (by walk_at "st") | exact up_sqT (by assumption) (by walk_at "st") | exact up_get (by assumption) (by walk_at "st") | exact up_getL (by assumption) (by walk_at "st") | exact up_getT (by assumption) (by walk_at "st") | exact up_sqL (by assumption) (by walk_at "st") | exact up_tms (by assumption) (by walk_at "st") | exact up_tnD (by assumption) (by walk_at "st") | exact up_tn (by assumption) (by walk_at "st") | exact ⟨_, up_getL (by assumption) (by walk_at "st")⟩ | exact ⟨_, up_sqL (by assumption) (by walk_at "st")⟩)

/-- a part beside a tuple of at most k things -/
def RowV (K : PySem.W.Frag) (k : Nat) (H : Hp) (y : V) (U : Tm) : Prop := ∃ q x z zs, y = .ref q ∧ SqT K H q [x, .ref z] ∧ TmV K H x U ∧ SqT K H z zs ∧ zs.length ≤ k
theorem RowV.stay {K : PySem.W.Frag} {k k2 : Nat} {H H' : Hp} {y : V} {U : Tm} (h : RowV K k H y U) (s : Stay K H H') (le : k ≤ k2) : RowV K k2 H' y U := by
  obtain ⟨q, x, z, zs, e, a, b, c, d⟩ := h
  exact ⟨q, x, z, zs, e, s.tups.sq a, b.stay s, s.tups.sq c, Nat.le_trans d le⟩
abbrev Rows (K : PySem.W.Frag) (k : Nat) (H : Hp) : List V → List Tm → Prop := Paired (RowV K k H)
theorem Rows.stay {K : PySem.W.Frag} {k k2 : Nat} {H H' : Hp} {ys : List V} {Us : List Tm} (h : Rows K k H ys Us) (s : Stay K H H') (le : k ≤ k2) : Rows K k2 H' ys Us := pd_mono (fun _ _ r => r.stay s le) h
def sp_rows (K : PySem.W.Frag) : Sp := fun vs H Q _ => ∃ (x : V) (T : Tm), vs = [x] ∧ TmV K H x T ∧ T.good = true ∧ T.size ≤ 1000 ∧ ∀ l ys H', Same H H' → H l = none → H' l = some (.lst ys) → Rows K 1000 H' ys T.pre → Q (.ref l) H'
theorem r_callX {sp : Sp} {E : L2.St → XK} {t : TA} {σ : L2.St} {H : Hp} {Q : VK} (h : t σ H fun vs H1 => sp vs H1 Q (E σ)) : tCallS sp E t σ H Q := h
theorem pd_snoc' {α β : Type} {R : α → β → Prop} {xs : List α} {ys : List β} (h : Paired R xs ys) : (xs = [] ∧ ys = []) ∨ ∃ xs1 x ys1 y, xs = xs1 ++ [x] ∧ ys = ys1 ++ [y] ∧ Paired R xs1 ys1 ∧ R x y := by
  induction h with
  | nil => exact .inl ⟨rfl, rfl⟩
  | @cons x y xs ys r t ih =>
    rcases ih with ⟨rfl, rfl⟩ | ⟨xs1, v, ys1, u, rfl, rfl, h1, hv⟩
    · exact .inr ⟨[], x, [], y, rfl, rfl, .nil, r⟩
    · exact .inr ⟨x :: xs1, v, y :: ys1, u, rfl, rfl, .cons r h1, hv⟩
theorem pd_rev {α β : Type} {R : α → β → Prop} : ∀ {xs : List α} {ys : List β}, Paired R xs ys → Paired R xs.reverse ys.reverse
  | _, _, .nil => .nil
  | _, _, .cons r t => by
    rw [List.reverse_cons, List.reverse_cons]
    exact pd_snoc (pd_rev t) r
theorem Tm.goods_rev : ∀ {l : List Tm}, Tm.goods l.reverse = Tm.goods l
  | [] => rfl
  | p :: r => by
    rw [List.reverse_cons, Tm.goods_app, Tm.goods_rev]
    show (Tm.goods r && (p.good && true)) = (p.good && Tm.goods r)
    rw [Bool.and_true, Bool.and_comm]
def headW : Tm → Str
  | .name _ => wN
  | .hole _ _ => wH
  | .shut _ _ => wT
  | .sign _ _ => wS
  | .bad => wN
theorem TmV.head {K : PySem.W.Frag} {H : Hp} {x : V} {T : Tm} (h : TmV K H x T) (g : T.isBad = false) : ∃ q rest, x = .ref q ∧ SqT K H q (.str (headW T) :: rest) := by
  cases h with
  | name h a => exact ⟨_, _, rfl, h⟩
  | hole h d it ho => exact ⟨_, _, rfl, h⟩
  | shut h a s => exact ⟨_, _, rfl, h⟩
  | sign h a hz s => exact ⟨_, _, rfl, h⟩
  | bad h => exact nomatch g
section
variable {P : Program} {w : World} {K : PySem.W.Frag} {mg : Str → Option Value} {base : Heap} {a : Ad}
theorem G_rows_of (T : Txt K mg a) : FnOk P w K mg base CX0 2 a.f_rows_of a.d_rows_of ["term"] (sp_rows K) := by
  refine T.F_rows_of.ok sc_rows_of (fun vs H Q E h => ?_) (fun cdv A outer s H vs Q E hr h => ?_)
  · obtain ⟨x, T, rfl, _⟩ := h
    rfl
  · obtain ⟨x, U, rfl, hx, g, hz, q⟩ := h
    refine ⟨_, (pss_cons (ps_set (i := 1) sc_rows_of.nd rfl (.inl rfl) (pe_lst pa_nil))
        (pss_cons (ps_set (i := 2) sc_rows_of.nd rfl (.inl rfl) (pe_lst (pa_cons (pe_tup (pa_cons (pv 0) (pa_cons (pe_tupF pa_nil) pa_nil))) pa_nil)))
        (pss_cons (ps_while PassesOwn.never (pt_truth (pv 2) (fun _ => rfl)) (pss_cons (ps_asg (pe_bm0K K PySem.F.plainAttrs_list PySem.F.slot_list_pop PySem.F.type_list_pop mt_pop (pv 2)) (pg_tupK K (n := 2) rfl (pgs_cons (pg_name (i := 3) sc_rows_of.nd rfl (by first | exact Or.inl rfl | exact Or.inr rfl)) (pgs_cons (pg_name (i := 4) sc_rows_of.nd rfl (by first | exact Or.inl rfl | exact Or.inr rfl)) pgs_nil))))
        (C8.pss_cut (ps_set (i := 5) sc_rows_of.nd rfl (.inr rfl) (pe_ifExp (pt_cmpR op_eq (pe_ix (ix_tupK K) (pv 3) pe_int (fun _ _ => rfl)) pe_str (nomark _)) (pe_op (op_catAK K) (pv 4) (pe_tup (pa_cons (pe_callB (call_len_seqK K) (by rfl) T.n_len PySem.boot_len (pa_cons (pv 1) pa_nil)) pa_nil))) (pv 4)))
        (pss_cons (ps_expr (pe_bmK K PySem.F.plainAttrs_list PySem.F.slot_list_append PySem.F.type_list_append mt_append (pv 1) (pa_cons (pe_tup (pa_cons (pv 3) (pa_cons (pv 4) pa_nil))) pa_nil)))
        (pss_one (ps_expr (pe_bmK K PySem.F.plainAttrs_list PySem.F.slot_list_extend PySem.F.type_list_extend mt_extend (pv 2) (pa_cons (pe_lc (own := [("inner", 6)]) (by rfl) sc_rows_of.nd (pi_tupK K (pe_backK K (pe_call (G_within (K := K) T) (hr.mono (by decide)) (by rfl) T.g_within T.F_within.kp T.b_within .nil pass0 (pa_cons (pv 3) pa_nil)) (pe_un un_neg pe_int))) (blkOk_by (N := N_rows_of) (sc := defScope s_rows_of) (by decide +kernel)) (fun _ _ _ _ _ => (pg_name (i := 6) sc_rows_of.nd rfl (by first | exact Or.inl rfl | exact Or.inr rfl))) (fun _ _ _ _ _ => pts_nil) (fun _ _ _ _ _ => (pe_tup (pa_cons (pv 6) (pa_cons (pv 5) pa_nil))))) pa_nil))))))))
        (pss_one (ps_ret (pv 1)))))), ?_⟩
    walk_at "rd"
    refine ⟨Nat.zero_le _, fun lr nr => ?_⟩
    have s1 := same_new (o := .lst []) nr
    have h1 := upd_same (H := H) (a := lr) (o := .lst [])
    generalize upd H lr (.lst []) = H1 at s1 h1 ⊢
    walk_at "rd"
    refine r_tupFr ?_
    walk_at "rd"
    refine ⟨Nat.zero_le _, fun t0 o0 nt0 _ => ?_⟩
    have s2 := same_new (o := .frz o0 (.tup [])) nt0
    have h2 := upd_same (H := H1) (a := t0) (o := .frz o0 (.tup []))
    generalize upd H1 t0 (.frz o0 (.tup [])) = H2 at s2 h2 ⊢
    walk_at "rd"
    refine ⟨by show 2 ≤ sizeLine; decide, fun t1 nt1 => ?_⟩
    have s3 := same_new (o := .tup [x, .ref t0]) nt1
    have h3 := upd_same (H := H2) (a := t1) (o := .tup [x, .ref t0])
    generalize upd H2 t1 (.tup [x, .ref t0]) = H3 at s3 h3 ⊢
    walk_at "rd"
    refine ⟨by show 1 ≤ sizeLine; decide, fun lw nw => ?_⟩
    have s4 := same_new (o := .lst [.ref t1]) nw
    have h4 := upd_same (H := H3) (a := lw) (o := .lst [.ref t1])
    generalize upd H3 lw (.lst [.ref t1]) = H4 at s4 h4 ⊢
    have s14 := s1.trans (s2.trans (s3.trans s4))
    have hw : H lw = none := (s1.trans (s2.trans s3)).free nw
    have hr4 := s4 _ _ (s3 _ _ (s2 _ _ h1))
    have ne : lr ≠ lw := ne_of_none (s3 _ _ (s2 _ _ h1)) nw
    walk_at "rd"
    refine ⟨fun m σ H2 => ∃ (us ws : List V) (Us Ws : List Tm) (y3 y4 y5 y6 : Option V), σ = [some x, some (.ref lr), some (.ref lw), y3, y4, y5, y6] ∧ Same H H2 ∧ H2 lr = some (.lst us) ∧ H2 lw = some (.lst ws) ∧ Rows K us.length H2 us Us ∧ Rows K us.length H2 ws Ws ∧
        Us ++ Tm.pres Ws.reverse = U.pre ∧ Tm.goods Ws = true ∧ m = Tm.sizes Ws,
      ⟨U.size, [], [.ref t1], [], [U], none, none, none, none, rfl, s14, hr4, h4, .nil, .cons ⟨t1, x, t0, [], rfl, sqT (s4 _ _ h3), hx.stay (.of s14), .inl (.inr ⟨_, s4 _ _ (s3 _ _ h2)⟩), Nat.zero_le _⟩ .nil, by simp [Tm.pres], by simp [Tm.goods, g], rfl⟩, ?_⟩
    clear hr4 s14 s1 s2 s3 s4 h1 h2 h3 h4 nt0 nt1 nw
    rintro m σ H2 ⟨us, ws, Us, Ws, y3, y4, y5, y6, rfl, s2, hr2, hw2, hU, hW, ep, gw, rfl⟩
    walk_at "rd"
    refine ⟨!ws.isEmpty, .inl ⟨ws, sqL hw2, rfl⟩, ?_⟩
    have lU := pd_len hU
    have tot : us.length + Tm.sizes Ws = U.size := by
      rw [← Tm.len_pre U, ← ep, List.length_append, Tm.len_pres, Tm.sizes_rev, lU]
    rcases pd_snoc' hW with ⟨rfl, rfl⟩ | ⟨ws1, v, Ws1, U1, rfl, rfl, hW1, hv⟩
    · rw [show (!([] : List V).isEmpty) = false from rfl, if_neg Bool.false_ne_true]
      walk_at "rd"
      rw [show Tm.pres ([] : List Tm).reverse = [] from rfl, List.append_nil] at ep
      rw [ep] at hU
      exact q lr us _ s2 nr hr2 (hU.stay .refl (by omega))
    · rw [show (!(ws1 ++ [v]).isEmpty) = true by cases ws1 <;> rfl, if_pos rfl]
      refine ⟨fun σ' H' => ∃ (us ws : List V) (Us Ws : List Tm) (y3 y4 y5 y6 : Option V), σ' = [some x, some (.ref lr), some (.ref lw), y3, y4, y5, y6] ∧ Same H H' ∧ H' lr = some (.lst us) ∧ H' lw = some (.lst ws) ∧ Rows K us.length H' us Us ∧ Rows K us.length H' ws Ws ∧
        Us ++ Tm.pres Ws.reverse = U.pre ∧ Tm.goods Ws = true ∧ Tm.sizes Ws < Tm.sizes (Ws1 ++ [U1]), ?_, ?_⟩
      · rintro σ' H' ⟨us, ws, Us, Ws, y3, y4, y5, y6, rfl, a1, a2, a3, a4, a5, a6, a7, lt⟩
        exact ⟨_, lt, us, ws, Us, Ws, y3, y4, y5, y6, rfl, a1, a2, a3, a4, a5, a6, a7, rfl⟩
      walk_at "rd"
      refine ⟨.inl ⟨rfl, _, sqL hw2⟩, ?_⟩
      refine ⟨lw, ws1 ++ [v], v, rfl, rfl, hw2, by simp, ?_⟩
      rw [List.dropLast_concat]
      have sy : Stay K H2 (upd H2 lw (.lst ws1)) := Stay.at (K := K) (fun b o n e => by rw [upd_ne n]; exact e) hw2 upd_same
      have s3 : Same H (upd H2 lw (.lst ws1)) := Pf.Same.mut s2 hw
      have hw3 := upd_same (H := H2) (a := lw) (o := .lst ws1)
      have hr3 : (upd H2 lw (.lst ws1)) lr = some (.lst us) := by rw [upd_ne ne]; exact hr2
      replace hU := hU.stay sy (Nat.le_refl _)
      replace hW1 := Rows.stay hW1 sy (Nat.le_refl _)
      replace hv := hv.stay sy (Nat.le_refl _)
      clear hW hw2 s2 sy hr2
      generalize upd H2 lw (.lst ws1) = H3 at s3 hw3 hr3 hU hW1 hv ⊢
      obtain ⟨qv, xv, zv, zs, rfl, hqv, hxv, hzv, lz⟩ := hv
      walk_at "rd"
      refine ⟨qv, _, rfl, hqv, rfl, ?_⟩
      rw [Tm.goods_app] at gw
      have gW1 := (Tm.and2 gw).1
      have gU1 : U1.good = true := by
        have := (Tm.and2 gw).2
        rw [show Tm.goods [U1] = U1.good by show (U1.good && true) = _; rw [Bool.and_true]] at this
        exact this
      have gK : U1.isBad = false ∧ Tm.goods U1.kids = true := by
        rw [Tm.good_kids] at gU1
        have := Tm.and2 gU1
        refine ⟨?_, this.2⟩
        have := this.1
        revert this
        cases U1.isBad <;> simp
      have hb := gK.1
      obtain ⟨q0, rest, rfl, h0⟩ := hxv.head hb
      walk_at "rd"
      refine ⟨fun σ' H' => ∃ (zl : Addr) (zs2 : List V) (y6 : Option V), σ' = [some x, some (.ref lr), some (.ref lw), some (.ref q0), some (.ref zv), some (.ref zl), y6] ∧ Same H3 H' ∧ SqT K H' zl zs2 ∧ zs2.length ≤ us.length + 1, ?_, ?_⟩
      · walk_at "rd"
        refine r_ixT h0 (atI_nat (j := 0) rfl) ?_
        walk_at "rd"
        refine r_dec (fun e => ?_) (fun _ => ?_)
        · have ql : SqL K H3 lr us := sqL hr3
          walk_at "rd"
          refine ⟨by show 1 ≤ sizeLine; decide, fun tn ntn => ?_⟩
          have s4 := same_new (o := .tup [.int us.length]) ntn
          refine r_catA ((Tups.of s4).sq hzv) (sqT upd_same) (by rw [sizeLine_eq]; show zs.length + 1 ≤ _; omega) fun zl H5 s5 hzl => ?_
          walk_at "rd"
          exact ⟨_, _, _, rfl, s4.trans s5, hzl, by rw [List.length_append]; show zs.length + 1 ≤ _; omega⟩
        · walk_at "rd"
          exact ⟨_, _, _, rfl, Same.refl _, hzv, by omega⟩
      · rintro σ' H4 ⟨zl, zs2, y6', rfl, s4, hzl, lz2⟩
        have hr4 := s4 _ _ hr3
        have hw4 := s4 _ _ hw3
        replace hU := hU.stay (.of s4) (Nat.le_refl _)
        replace hW1 := Rows.stay hW1 (.of s4) (Nat.le_refl _)
        replace hxv := hxv.stay (.of s4)
        replace hzv := (Tups.of s4).sq hzv
        replace s3 := s3.trans s4
        clear s4 hr3 hw3 h0 hqv
        walk_at "rd"
        refine ⟨.inl ⟨rfl, _, sqL hr4⟩, ?_⟩
        walk_at "rd"
        refine ⟨by show 2 ≤ sizeLine; decide, fun tn ntn => ?_⟩
        have s5 := same_new (o := .tup [.ref q0, .ref zv]) ntn
        have h5 := upd_same (H := H4) (a := tn) (o := .tup [.ref q0, .ref zv])
        have hr5 := s5 _ _ hr4
        have hw5 := s5 _ _ hw4
        replace hU := hU.stay (.of s5) (Nat.le_refl _)
        replace hW1 := Rows.stay hW1 (.of s5) (Nat.le_refl _)
        replace hxv := hxv.stay (.of s5)
        replace hzv := (Tups.of s5).sq hzv
        replace hzl := (Tups.of s5).sq hzl
        replace s3 := s3.trans s5
        generalize upd H4 tn (.tup [.ref q0, .ref zv]) = H5 at s3 h5 hr5 hw5 hU hW1 hxv hzv hzl ⊢
        clear s5 hr4 hw4 ntn
        walk_at "rd"
        refine ⟨lr, us, _, rfl, rfl, hr5, by rw [sizeLine_eq]; omega, ?_⟩
        have sy : Stay K H5 (upd H5 lr (.lst (us ++ [.ref tn]))) := Stay.at (K := K) (fun b o n e => by rw [upd_ne n]; exact e) hr5 upd_same
        have rowN : RowV K (us.length + 1) (upd H5 lr (.lst (us ++ [.ref tn]))) (.ref tn) U1 := ⟨tn, .ref q0, zv, zs, rfl, sy.tups.sq (sqT h5), hxv.stay sy, sy.tups.sq hzv, by omega⟩
        have hU6 := pd_snoc (hU.stay sy (Nat.le_succ _)) rowN
        have hW6 := Rows.stay hW1 sy (Nat.le_succ us.length)
        have hx6 := hxv.stay sy
        have hzl6 := sy.tups.sq hzl
        have s6 : Same H (upd H5 lr (.lst (us ++ [.ref tn]))) := Pf.Same.mut s3 nr
        have hr6 := upd_same (H := H5) (a := lr) (o := .lst (us ++ [.ref tn]))
        have hw6 : (upd H5 lr (.lst (us ++ [.ref tn]))) lw = some (.lst ws1) := by rw [upd_ne ne.symm]; exact hw5
        generalize upd H5 lr (.lst (us ++ [.ref tn])) = H6 at s6 hr6 hw6 hU6 hW6 hx6 hzl6 ⊢
        clear sy rowN hr5 hw5 hU hW1 hxv hzv hzl h5 s3
        walk_at "rd"
        refine ⟨.inl ⟨rfl, _, sqL hw6⟩, ?_⟩
        walk_at "rd"
        refine r_back ?_
        walk_at "rd"
        refine ⟨.ref q0, U1, rfl, hx6, hb, fun qk xs H7 s7 hk hkT => ?_⟩
        refine ⟨qk, xs, rfl, hk, ?_⟩
        walk_at "rd"
        refine ⟨rfl, hk, fun tb ntb => ?_⟩
        have s8 := same_new (o := .tup xs.reverse) ntb
        have h8 := upd_same (H := H7) (a := tb) (o := .tup xs.reverse)
        have hk8 := pd_rev (hkT.stay (.of s8)).pd
        generalize upd H7 tb (.tup xs.reverse) = H8 at s8 h8 hk8 ⊢
        have s78 := s7.trans s8
        have hr8 := s78 _ _ hr6
        have hw8 := s78 _ _ hw6
        replace hU6 := Rows.stay hU6 (.of s78) (Nat.le_refl _)
        replace hW6 := Rows.stay hW6 (.of s78) (Nat.le_refl _)
        replace hzl6 := (Tups.of s78).sq hzl6
        replace s6 := s6.trans s78
        have lk := tms_len hkT
        have n4 := Tm.sizes_len U1.kids
        have n5 := Tm.size_kids U1
        rw [Tm.sizes_app, show Tm.sizes [U1] = U1.size from rfl] at tot
        clear s7 s8 s78 hr6 hw6 hk hkT hx6
        refine ⟨tb, rfl, ⟨_, sqT h8⟩, fun D nD => ?_⟩
        refine lc_tup (K := K) (a := tb) (xs := xs.reverse) (LcI H8 D fun i acc H => Rows K (us.length + 1) H acc (U1.kids.reverse.take i)) (LcI.zero nD .nil) (fun i H9 _ hP => (Tups.of hP.1).sq (sqT h8)) (fun i x2 H9 hx2 hP => ?_) (fun H9 hP => ?_)
        · obtain ⟨s9, acc, hD, hal, m⟩ := hP
          obtain ⟨U2, hU2, hr2⟩ := pd_get' hk8 hx2
          have hi := (List.getElem?_eq_some_iff.mp hx2).1
          rw [List.length_reverse] at hi
          walk_at "rd"
          refine ⟨rfl, ?_⟩
          walk_at "rd"
          refine ⟨by show 2 ≤ sizeLine; decide, fun tz ntz => ?_⟩
          have sz := same_new (o := .tup [x2, .ref zl]) ntz
          refine LcI.keep nD s9 hD hal (by omega) sz ?_
          have hDz := sz _ _ hD
          have st : Stay K _ _ := Stay.at (K := K) (fun b o n e => by rw [upd_ne n]; exact e) hDz (upd_same (o := .lst (acc ++ [.ref tz])))
          have nzD : tz ≠ D := (ne_of_none hD ntz).symm
          rw [take_snoc hU2]
          refine pd_snoc (Rows.stay m ((Stay.of sz).trans st) (Nat.le_refl _)) ?_
          exact ⟨tz, x2, zl, zs2, rfl, sqT (by rw [upd_ne nzD]; exact upd_same), (hr2.stay (.of (s9.trans sz))).stay st, st.tups.sq ((Tups.of (s9.trans sz)).sq hzl6), lz2⟩
        · obtain ⟨s9, acc, hD, hal, m⟩ := hP
          rw [List.take_of_length_le (by rw [List.length_reverse, List.length_reverse, lk]; exact Nat.le_refl _)] at m
          have lm := pd_len m
          rw [List.length_reverse] at lm
          have lW := pd_len hW6
          have n6 := Tm.sizes_len Ws1
          walk_at "rd"
          have hw9 := s9 _ _ hw8
          have hr9 := s9 _ _ hr8
          refine ⟨lw, D, ws1, acc, rfl, rfl, hw9, hD, by rw [sizeLine_eq]; omega, ?_⟩
          have sy : Stay K H9 (upd H9 lw (.lst (ws1 ++ acc))) := Stay.at (K := K) (fun b o n e => by rw [upd_ne n]; exact e) hw9 upd_same
          have sall := (Stay.of s9).trans sy
          refine ⟨us ++ [.ref tn], ws1 ++ acc, Us ++ [U1], Ws1 ++ U1.kids.reverse, _, _, _, _, rfl, Pf.Same.mut (s6.trans s9) hw, by rw [upd_ne ne]; exact hr9, upd_same, ?_, ?_, ?_, ?_, ?_⟩
          · exact Rows.stay hU6 sall (by rw [List.length_append]; exact Nat.le_refl _)
          · exact pd_app (Rows.stay hW6 sall (by rw [List.length_append]; exact Nat.le_refl _)) (Rows.stay m sy (by rw [List.length_append]; exact Nat.le_refl _))
          · rw [← ep, List.reverse_append, List.reverse_reverse, List.reverse_append, Tm.pres_app, Tm.pres_app, List.append_assoc]
            congr 1
            rw [← List.append_assoc]
            congr 1
            show [U1] ++ Tm.pres U1.kids = U1.pre ++ []
            rw [List.append_nil, Tm.pre_kids]
            rfl
          · rw [Tm.goods_app, gW1, Bool.true_and]
            exact Tm.goods_rev.trans gK.2
          · rw [Tm.sizes_app, Tm.sizes_app, Tm.sizes_rev, show Tm.sizes [U1] = U1.size from rfl]
            omega
end
end Pf

namespace Pf
open PySem PySem.Spec PyProof.Rows L2
local macro_rules | `(tactic| walk_at "rd") => `(tactic| (repeat' (first
  | with_reducible refine r_seq ?_ | with_reducible refine r_asg ?_ | with_reducible refine r_ret ?_ | with_reducible refine r_retN ?_ | with_reducible refine r_drop ?_ | with_reducible refine r_if ?_
  | with_reducible refine r_op ?_ | (with_reducible show tVar _ _ _ _; refine r_var rfl ?_) | with_reducible refine r_c ?_ | with_reducible refine r_I0 ?_ | (with_reducible refine r_I ?c ?_; (case c => first | (show (0 : Int) < _; first | decide | assumption | omega) | exact cmul_r ⟨by decide, by decide⟩ | exact cmul_l ⟨by decide, by decide⟩ | exact cmul_r (by first | assumption | constructor <;> omega) | (unfold CDiv; constructor <;> decide) | (unfold CPow; refine ⟨?_, ?_, ?_⟩ <;> decide))) | with_reducible refine r_name ?_ | (with_reducible show rIxL _ _ _ _ _; refine r_ixL (sqL (by assumption)) rfl ?_) | (with_reducible show rIxT _ _ _ _ _; refine r_ixT (by assumption) rfl ?_) | (with_reducible show rSetL _ _ _ _ _; refine r_setL (by assumption) rfl ?_) | with_reducible refine r_test ?_ | with_reducible refine r_tB ?_ | with_reducible refine r_bl ?_
  | with_reducible refine r_not ?_ | with_reducible refine r_and ?_ | with_reducible refine r_or ?_ | with_reducible refine r_andV ?_ | with_reducible refine r_orV ?_ | with_reducible refine r_notV ?_ | with_reducible refine r_ifE ?_
  | with_reducible refine r_cons ?_ | with_reducible refine r_nil ?_ | with_reducible refine r_cb ?_ | with_reducible refine r_call ?_ | with_reducible refine r_lst ?_ | with_reducible refine r_tup ?_ | with_reducible refine r_bm ?_ | with_reducible refine r_bm0 ?_
  | with_reducible refine r_un ?_ | with_reducible refine r_U ?_ | with_reducible refine r_eqI ?_ | with_reducible refine r_eqS ?_ | with_reducible refine r_neI ?_ | with_reducible refine r_neS ?_ | with_reducible refine r_sub ?_ | with_reducible refine r_gcons ?_ | with_reducible refine r_gnil ?_
  | with_reducible refine r_chain ?_ | with_reducible refine r_get2 ?_ | with_reducible refine r_iList ?_ | with_reducible refine r_iStr ?_ | with_reducible refine r_iTup ?_ | with_reducible refine r_iRev ?_ | with_reducible refine r_iItems ?_ | with_reducible refine r_rng ?_ | with_reducible refine r_inS ?_ | with_reducible refine r_bI ?_ | with_reducible refine r_abs ?_ | with_reducible refine r_sl ?_ | with_reducible refine r_next ?_ | with_reducible refine r_yes ?_
  | (with_reducible show rLen _ _ _ _; first | refine r_lenK (sqL (by assumption)) ?_ | refine r_lenK (by assumption) ?_ | refine r_lenTK (by assumption) ?_)
  | (with_reducible show tFor _ _ _ _ _ _; unfold tFor) | (with_reducible show tLc _ _ _ _ _ _ _ _; unfold tLc) | (with_reducible show tWhile _ _ _ _ _; unfold tWhile)
  | (with_reducible refine ⟨_, rfl, ?_⟩) | (with_reducible refine ⟨_, _, rfl, rfl, ?_⟩) | (with_reducible refine Or.inr ⟨_, rfl, ?_⟩) | (refine ⟨_, _, rfl, Or.inl (by assumption), ?_⟩; skip) | (refine ⟨_, _, rfl, Or.inr (by assumption), ?_⟩; skip)
  | (with_reducible refine iteNT ?_) | (with_reducible refine iteNF ?_) | (with_reducible refine iteT ?_) | (with_reducible refine iteF ?_)
  | (dsimp only [Bool.not_true, Bool.not_false, List.cons_append, List.nil_append]))))

local macro_rules | `(tactic| walk_at "st") => `(tactic| first | exact Same.refl _ | assumption | (refine Same.trans (by assumption) ?_; walk_at "st"))
local macro_rules | `(tactic| walk_at "ok") => `(tactic| first | assumption | exact up_tm (by assumption) (by walk_at "st") | exact up_sqT (by assumption) (by walk_at "st") | exact up_get (by assumption) (by walk_at "st") | exact up_getL (by assumption) (by walk_at "st") | exact up_getT (by assumption) (by walk_at "st") | exact up_sqL (by assumption) (by walk_at "st") | exact up_tms (by assumption) (by walk_at "st") | exact up_tnD (by assumption) (by walk_at "st") | exact up_tn (by assumption) (by walk_at "st") | exact ⟨_, up_getL (by assumption) (by walk_at "st")⟩ | exact ⟨_, up_sqL (by assumption) (by walk_at "st")⟩)

def plI (p : List Nat) : List V := p.map fun n => V.int (n : Nat)
def PlV (K : PySem.W.Frag) (H : Hp) (x : V) (p : List Nat) : Prop := ∃ q, x = .ref q ∧ SqT K H q (plI p)
theorem PlV.stay {K : PySem.W.Frag} {H H' : Hp} {x : V} {p : List Nat} (h : PlV K H x p) (s : Tups H H') : PlV K H' x p := by
  obtain ⟨q, e, h⟩ := h
  exact ⟨q, e, s.sq h⟩
abbrev Pls (K : PySem.W.Frag) (H : Hp) : List V → List (List Nat) → Prop := Paired (PlV K H)
theorem Pls.stay {K : PySem.W.Frag} {H H' : Hp} {xs : List V} {ps : List (List Nat)} (h : Pls K H xs ps) (s : Tups H H') : Pls K H' xs ps := pd_mono (fun _ _ r => r.stay s) h
/-- a place beside a part -/
def WtV (K : PySem.W.Frag) (k : Nat) (H : Hp) (y : V) (u : List Nat × Tm) : Prop := ∃ q z x, y = .ref q ∧ SqT K H q [.ref z, x] ∧ SqT K H z (plI u.1) ∧ TmV K H x u.2 ∧ u.1.length ≤ k
theorem WtV.stay {K : PySem.W.Frag} {k k2 : Nat} {H H' : Hp} {y : V} {u : List Nat × Tm} (h : WtV K k H y u) (s : Stay K H H') (le : k ≤ k2) : WtV K k2 H' y u := by
  obtain ⟨q, z, x, e, a, b, c, d⟩ := h
  exact ⟨q, z, x, e, s.tups.sq a, s.tups.sq b, c.stay s, Nat.le_trans d le⟩
abbrev Wts (K : PySem.W.Frag) (k : Nat) (H : Hp) : List V → List (List Nat × Tm) → Prop := Paired (WtV K k H)
theorem Wts.stay {K : PySem.W.Frag} {k k2 : Nat} {H H' : Hp} {ys : List V} {Us : List (List Nat × Tm)} (h : Wts K k H ys Us) (s : Stay K H H') (le : k ≤ k2) : Wts K k2 H' ys Us := pd_mono (fun _ _ r => r.stay s le) h
/-- the parts right in one, each with its place, that one standing at p -/
def kidsAt (p : List Nat) : Nat → List Tm → List (List Nat × Tm)
  | _, [] => []
  | i, k :: r => (p ++ [i], k) :: kidsAt p (i + 1) r
def flatP (l : List (List Nat × Tm)) : List (List Nat) := l.flatMap fun w => w.2.plc.map fun q => w.1 ++ q.1
theorem flatP_app (a b : List (List Nat × Tm)) : flatP (a ++ b) = flatP a ++ flatP b := List.flatMap_append
theorem flat_kids (p : List Nat) : ∀ (i : Nat) (l : List Tm), flatP (kidsAt p i l) = (Tm.plcs i l).map fun q => p ++ q.1
  | _, [] => rfl
  | i, k :: r => by
    show (k.plc.map fun q => (p ++ [i]) ++ q.1) ++ flatP (kidsAt p (i + 1) r) = ((k.plc.map fun q => (i :: q.1, q.2)) ++ Tm.plcs (i + 1) r).map fun q => p ++ q.1
    rw [flat_kids p (i + 1) r, List.map_append, List.map_map]
    congr 1
    refine List.map_congr_left fun q _ => ?_
    show (p ++ [i]) ++ q.1 = p ++ (i :: q.1)
    rw [List.append_assoc]
    rfl
theorem flat_one (p : List Nat) (T : Tm) : flatP [(p, T)] = p :: flatP (kidsAt p 0 T.kids) := by
  rw [flat_kids]
  show (T.plc.map fun q => p ++ q.1) ++ [] = _
  rw [List.append_nil, Tm.plc_kids, List.map_cons, List.append_nil]
theorem kidsAt_get (p : List Nat) : ∀ (j : Nat) (l : List Tm) (i : Nat) (T : Tm), l[i]? = some T → (kidsAt p j l)[i]? = some (p ++ [j + i], T)
  | _, [], _, _, h => by simp at h
  | j, k :: r, 0, T, h => by simp at h; subst h; rfl
  | j, k :: r, i + 1, T, h => by
    have h : r[i]? = some T := by simpa using h
    show (kidsAt p (j + 1) r)[i]? = _
    rw [kidsAt_get p (j + 1) r i T h, show j + 1 + i = j + (i + 1) by omega]
theorem kidsAt_len (p : List Nat) : ∀ (j : Nat) (l : List Tm), (kidsAt p j l).length = l.length
  | _, [] => rfl
  | j, k :: r => by show (kidsAt p (j + 1) r).length + 1 = r.length + 1; rw [kidsAt_len]
theorem kidsAt_snd (p : List Nat) : ∀ (j : Nat) (l : List Tm), (kidsAt p j l).map (·.2) = l
  | _, [] => rfl
  | j, k :: r => by show k :: (kidsAt p (j + 1) r).map (·.2) = k :: r; rw [kidsAt_snd]
def sp_parts (K : PySem.W.Frag) : Sp := fun vs H Q _ => ∃ (x : V) (T : Tm), vs = [x] ∧ TmV K H x T ∧ T.good = true ∧ T.size ≤ 1000 ∧ ∀ l xs H', Same H H' → H l = none → H' l = some (.lst xs) → TmsV K H' xs T.pre → Q (.ref l) H'
def sp_places (K : PySem.W.Frag) : Sp := fun vs H Q _ => ∃ (x : V) (T : Tm), vs = [x] ∧ TmV K H x T ∧ T.good = true ∧ T.size ≤ 1000 ∧ ∀ l xs H', Same H H' → H l = none → H' l = some (.lst xs) → Pls K H' xs (T.plc.map (·.1)) → Q (.ref l) H'
section
variable {P : Program} {w : World} {K : PySem.W.Frag} {mg : Str → Option Value} {base : Heap} {a : Ad}
theorem G_parts_in (T : Txt K mg a) : FnOk P w K mg base CX0 3 a.f_parts_in a.d_parts_in ["term"] (sp_parts K) := by
  refine T.F_parts_in.ok sc_parts_in (fun vs H Q E h => ?_) (fun cdv A outer s H vs Q E hr h => ?_)
  · obtain ⟨x, T, rfl, _⟩ := h
    rfl
  · obtain ⟨x, U, rfl, hx, g, hz, q⟩ := h
    refine ⟨_, (pss_one (ps_ret (pe_lc (own := [("part", 1), ("_", 2)]) (by rfl) sc_parts_in.nd (pi_listK K (pe_call (G_rows_of (K := K) T) (hr.mono (by decide)) (by rfl) T.g_rows_of T.F_rows_of.kp T.b_rows_of .nil pass0 (pa_cons (pv 0) pa_nil))) (blkOk_by (N := N_parts_in) (sc := defScope s_parts_in) (by decide +kernel)) (fun _ _ _ _ _ => (pg_tupK K (n := 2) rfl (pgs_cons (pg_name (i := 1) sc_parts_in.nd rfl (by first | exact Or.inl rfl | exact Or.inr rfl)) (pgs_cons (pg_name (i := 2) sc_parts_in.nd rfl (by first | exact Or.inl rfl | exact Or.inr rfl)) pgs_nil)))) (fun _ _ _ _ _ => pts_nil) (fun _ _ _ _ _ => (pv 1))))), ?_⟩
    walk_at "rd"
    refine ⟨x, U, rfl, hx, g, hz, fun lr ys H1 s1 nr hr1 hY => ?_⟩
    walk_at "rd"
    refine ⟨⟨_, sqL hr1⟩, fun D nD => ?_⟩
    have lY := pd_len hY
    rw [Tm.len_pre] at lY
    refine lc_list (K := K) (a := lr) (xs := ys) (LcI H1 D fun i acc H => TmsV K H acc (U.pre.take i)) (LcI.zero nD .nil) (fun i H2 _ hP => sqL (hP.1 _ _ hr1)) (fun i x2 H2 hx2 hP => ?_) (fun H2 hP => ?_)
    · obtain ⟨s2, acc, hD, hal, m⟩ := hP
      obtain ⟨U2, hU2, q0, x0, z0, zs, rfl, h0, hx0, hz0, lz⟩ := pd_get' hY hx2
      have hi := (List.getElem?_eq_some_iff.mp hx2).1
      walk_at "rd"
      refine ⟨q0, _, rfl, (Tups.of s2).sq h0, rfl, ?_⟩
      walk_at "rd"
      refine ⟨rfl, ?_⟩
      walk_at "rd"
      refine LcI.keep nD s2 hD hal (by omega) (Same.refl _) ?_
      have st : Stay K _ _ := Stay.at (K := K) (fun b o n e => by rw [upd_ne n]; exact e) hD (upd_same (o := .lst (acc ++ [x0])))
      rw [take_snoc hU2]
      exact tms_app (m.stay st) (.cons ((hx0.stay (.of s2)).stay st) .nil)
    · obtain ⟨s2, acc, hD, hal, m⟩ := hP
      rw [List.take_of_length_le (by rw [lY, Tm.len_pre]; exact Nat.le_refl _)] at m
      exact q D acc H2 (s1.trans s2) (s1.free nD) hD m
theorem G_parts_of (T : Txt K mg a) : FnOk P w K mg base (L2.CX P w) 8 a.f_parts_of a.d_parts_of ["term"] (fun vs H Q E => ∃ (x : V) (T : Tm), vs = [x] ∧ TmV K H x T ∧ T.good = true ∧ T.size ≤ 1000 ∧ ∀ H', Same H H' → Q (.int T.size) H') := by
  refine T.F_parts_of.okX sc_parts_of (fun vs H Q E h => ?_) (fun cdv A outer s H vs Q E hr h => ?_)
  · obtain ⟨x, T, rfl, _⟩ := h
    rfl
  · obtain ⟨x, U, rfl, hx, g, hz, q⟩ := h
    refine ⟨_, (pss_cons (ps_expr (pe_call (G_check_term (K := K) T) (hr.mono (by decide)) (by rfl) T.g_check_term T.F_check_term.kp T.b_check_term .nil (passes_call (takes_of rfl rfl rfl rfl) fun _ _ _ _ h => h) (pa_cons (pv 0) pa_nil)))
        (pss_one (ps_ret (pe_callB (call_len_seqK K) (by rfl) T.n_len PySem.boot_len (pa_cons (pe_call (G_parts_in (K := K) T) (hr.mono (by decide)) (by rfl) T.g_parts_in T.F_parts_in.kp T.b_parts_in .nil pass0 (pa_cons (pv 0) pa_nil)) pa_nil))))), ?_⟩
    walk_at "rd"
    refine ⟨x, U, rfl, hx, hz, fun _ H1 s1 => ?_, fun z => by rw [g] at z; exact nomatch z⟩
    walk_at "rd"
    refine ⟨x, U, rfl, hx.stay (.of s1), g, hz, fun l xs H2 s2 nl hl hT => ?_⟩
    have ql : SqL K H2 l xs := sqL hl
    walk_at "rd"
    rw [tms_len hT, Tm.len_pre]
    exact q H2 (s1.trans s2)
end
end Pf

namespace Pf
open PySem PySem.Spec PyProof.Rows L2
local macro_rules | `(tactic| walk_at "rd") => `(tactic| (repeat' (first
  | with_reducible refine r_seq ?_ | with_reducible refine r_asg ?_ | with_reducible refine r_ret ?_ | with_reducible refine r_retN ?_ | with_reducible refine r_drop ?_ | with_reducible refine r_if ?_
  | with_reducible refine r_op ?_ | (with_reducible show tVar _ _ _ _; refine r_var rfl ?_) | with_reducible refine r_c ?_ | with_reducible refine r_I0 ?_ | (with_reducible refine r_I ?c ?_; (case c => first | (show (0 : Int) < _; first | decide | assumption | omega) | exact cmul_r ⟨by decide, by decide⟩ | exact cmul_l ⟨by decide, by decide⟩ | exact cmul_r (by first | assumption | constructor <;> omega) | (unfold CDiv; constructor <;> decide) | (unfold CPow; refine ⟨?_, ?_, ?_⟩ <;> decide))) | with_reducible refine r_name ?_ | (with_reducible show rIxL _ _ _ _ _; refine r_ixL (sqL (by assumption)) rfl ?_) | (with_reducible show rIxT _ _ _ _ _; refine r_ixT (by assumption) rfl ?_) | (with_reducible show rSetL _ _ _ _ _; refine r_setL (by assumption) rfl ?_) | with_reducible refine r_test ?_ | with_reducible refine r_tB ?_ | with_reducible refine r_bl ?_
  | with_reducible refine r_not ?_ | with_reducible refine r_and ?_ | with_reducible refine r_or ?_ | with_reducible refine r_andV ?_ | with_reducible refine r_orV ?_ | with_reducible refine r_notV ?_ | with_reducible refine r_ifE ?_
  | with_reducible refine r_cons ?_ | with_reducible refine r_nil ?_ | with_reducible refine r_cb ?_ | with_reducible refine r_call ?_ | with_reducible refine r_lst ?_ | with_reducible refine r_tup ?_ | with_reducible refine r_bm ?_ | with_reducible refine r_bm0 ?_
  | with_reducible refine r_un ?_ | with_reducible refine r_U ?_ | with_reducible refine r_eqI ?_ | with_reducible refine r_eqS ?_ | with_reducible refine r_neI ?_ | with_reducible refine r_neS ?_ | with_reducible refine r_sub ?_ | with_reducible refine r_gcons ?_ | with_reducible refine r_gnil ?_
  | with_reducible refine r_chain ?_ | with_reducible refine r_get2 ?_ | with_reducible refine r_iList ?_ | with_reducible refine r_iStr ?_ | with_reducible refine r_iTup ?_ | with_reducible refine r_iRev ?_ | with_reducible refine r_iItems ?_ | with_reducible refine r_rng ?_ | with_reducible refine r_inS ?_ | with_reducible refine r_bI ?_ | with_reducible refine r_abs ?_ | with_reducible refine r_sl ?_ | with_reducible refine r_next ?_ | with_reducible refine r_yes ?_
  | (with_reducible show rLen _ _ _ _; first | refine r_lenK (sqL (by assumption)) ?_ | refine r_lenK (by assumption) ?_ | refine r_lenTK (by assumption) ?_)
  | (with_reducible show tFor _ _ _ _ _ _; unfold tFor) | (with_reducible show tLc _ _ _ _ _ _ _ _; unfold tLc) | (with_reducible show tWhile _ _ _ _ _; unfold tWhile)
  | (with_reducible refine ⟨_, rfl, ?_⟩) | (with_reducible refine ⟨_, _, rfl, rfl, ?_⟩) | (with_reducible refine Or.inr ⟨_, rfl, ?_⟩) | (refine ⟨_, _, rfl, Or.inl (by assumption), ?_⟩; skip) | (refine ⟨_, _, rfl, Or.inr (by assumption), ?_⟩; skip)
  | (with_reducible refine iteNT ?_) | (with_reducible refine iteNF ?_) | (with_reducible refine iteT ?_) | (with_reducible refine iteF ?_)
  | (dsimp only [Bool.not_true, Bool.not_false, List.cons_append, List.nil_append]))))

local macro_rules | `(tactic| walk_at "st") => `(tactic| first | exact Same.refl _ | assumption | (refine Same.trans (by assumption) ?_; walk_at "st"))
local macro_rules | `(tactic| walk_at "ok") => `(tactic| first | assumption | exact up_tm (by assumption) (by walk_at "st") | exact up_sqT (by assumption) (by walk_at "st") | exact up_get (by assumption) (by walk_at "st") | exact up_getL (by assumption) (by walk_at "st") | exact up_getT (by assumption) (by walk_at "st") | exact up_sqL (by assumption) (by walk_at "st") | exact up_tms (by assumption) (by walk_at "st") | exact up_tnD (by assumption) (by walk_at "st") | exact up_tn (by assumption) (by walk_at "st") | exact ⟨_, up_getL (by assumption) (by walk_at "st")⟩ | exact ⟨_, up_sqL (by assumption) (by walk_at "st")⟩)

theorem r_enumT {σ : L2.St} {H : Hp} {K : PySem.W.Frag} {ta : TA} {R : It → Hp → Prop} (h : ta σ H fun vs H1 => ∃ a xs, vs = [V.ref a] ∧ SqT K H1 a xs ∧ R (IteT K a) H1) : iEnumT K ta σ H R := h
section
variable {P : Program} {w : World} {K : PySem.W.Frag} {mg : Str → Option Value} {base : Heap} {a : Ad}
theorem G_places_in (T : Txt K mg a) : FnOk P w K mg base CX0 2 a.f_places_in a.d_places_in ["term"] (sp_places K) := by
  refine T.F_places_in.ok sc_places_in (fun vs H Q E h => ?_) (fun cdv A outer s H vs Q E hr h => ?_)
  · obtain ⟨x, T, rfl, _⟩ := h
    rfl
  · obtain ⟨x, U, rfl, hx, g, hz, q⟩ := h
    refine ⟨_, (pss_cons (ps_set (i := 1) sc_places_in.nd rfl (.inl rfl) (pe_lst pa_nil))
        (pss_cons (ps_set (i := 2) sc_places_in.nd rfl (.inl rfl) (pe_lst (pa_cons (pe_tup (pa_cons (pe_tupF pa_nil) (pa_cons (pv 0) pa_nil))) pa_nil)))
        (pss_cons (ps_while PassesOwn.never (pt_truth (pv 2) (fun _ => rfl)) (pss_cons (ps_asg (pe_bm0K K PySem.F.plainAttrs_list PySem.F.slot_list_pop PySem.F.type_list_pop mt_pop (pv 2)) (pg_tupK K (n := 2) rfl (pgs_cons (pg_name (i := 3) sc_places_in.nd rfl (by first | exact Or.inl rfl | exact Or.inr rfl)) (pgs_cons (pg_name (i := 4) sc_places_in.nd rfl (by first | exact Or.inl rfl | exact Or.inr rfl)) pgs_nil))))
        (pss_cons (ps_expr (pe_bmK K PySem.F.plainAttrs_list PySem.F.slot_list_append PySem.F.type_list_append mt_append (pv 1) (pa_cons (pv 3) pa_nil)))
        (pss_one (ps_expr (pe_bmK K PySem.F.plainAttrs_list PySem.F.slot_list_extend PySem.F.type_list_extend mt_extend (pv 2) (pa_cons (pe_stepK K (pe_lc (own := [("at", 5), ("inner", 6)]) (by rfl) sc_places_in.nd (pi_enumT K (by rfl) T.n_enumerate (pa_cons (pe_call (G_within (K := K) T) (hr.mono (by decide)) (by rfl) T.g_within T.F_within.kp T.b_within .nil pass0 (pa_cons (pv 4) pa_nil)) pa_nil)) (blkOk_by (N := N_places_in) (sc := defScope s_places_in) (by decide +kernel)) (fun _ _ _ _ _ => (pg_tupK K (n := 2) rfl (pgs_cons (pg_name (i := 5) sc_places_in.nd rfl (by first | exact Or.inl rfl | exact Or.inr rfl)) (pgs_cons (pg_name (i := 6) sc_places_in.nd rfl (by first | exact Or.inl rfl | exact Or.inr rfl)) pgs_nil)))) (fun _ _ _ _ _ => pts_nil) (fun _ _ _ _ _ => (pe_tup (pa_cons (pe_op (op_catAK K) (pv 3) (pe_tup (pa_cons (pv 5) pa_nil))) (pa_cons (pv 6) pa_nil))))) (pe_un un_neg pe_int)) pa_nil)))))))
        (pss_one (ps_ret (pv 1)))))), ?_⟩
    walk_at "rd"
    refine ⟨Nat.zero_le _, fun lr nr => ?_⟩
    have s1 := same_new (o := .lst []) nr
    have h1 := upd_same (H := H) (a := lr) (o := .lst [])
    generalize upd H lr (.lst []) = H1 at s1 h1 ⊢
    walk_at "rd"
    refine r_tupFr ?_
    walk_at "rd"
    refine ⟨Nat.zero_le _, fun t0 o0 nt0 _ => ?_⟩
    have s2 := same_new (o := .frz o0 (.tup [])) nt0
    have h2 := upd_same (H := H1) (a := t0) (o := .frz o0 (.tup []))
    generalize upd H1 t0 (.frz o0 (.tup [])) = H2 at s2 h2 ⊢
    walk_at "rd"
    refine ⟨by show 2 ≤ sizeLine; decide, fun t1 nt1 => ?_⟩
    have s3 := same_new (o := .tup [.ref t0, x]) nt1
    have h3 := upd_same (H := H2) (a := t1) (o := .tup [.ref t0, x])
    generalize upd H2 t1 (.tup [.ref t0, x]) = H3 at s3 h3 ⊢
    walk_at "rd"
    refine ⟨by show 1 ≤ sizeLine; decide, fun lw nw => ?_⟩
    have s4 := same_new (o := .lst [.ref t1]) nw
    have h4 := upd_same (H := H3) (a := lw) (o := .lst [.ref t1])
    generalize upd H3 lw (.lst [.ref t1]) = H4 at s4 h4 ⊢
    have s14 := s1.trans (s2.trans (s3.trans s4))
    have hw : H lw = none := (s1.trans (s2.trans s3)).free nw
    have hr4 := s4 _ _ (s3 _ _ (s2 _ _ h1))
    have ne : lr ≠ lw := ne_of_none (s3 _ _ (s2 _ _ h1)) nw
    walk_at "rd"
    refine ⟨fun m σ H2 => ∃ (us ws : List V) (Us : List (List Nat)) (Ws : List (List Nat × Tm)) (y3 y4 y5 y6 : Option V), σ = [some x, some (.ref lr), some (.ref lw), y3, y4, y5, y6] ∧ Same H H2 ∧ H2 lr = some (.lst us) ∧ H2 lw = some (.lst ws) ∧ Pls K H2 us Us ∧ Wts K us.length H2 ws Ws ∧
        Us ++ flatP Ws.reverse = U.plc.map (·.1) ∧ Tm.goods (Ws.map (·.2)) = true ∧ us.length + Tm.sizes (Ws.map (·.2)) = U.size ∧ m = Tm.sizes (Ws.map (·.2)),
      ⟨U.size, [], [.ref t1], [], [([], U)], none, none, none, none, rfl, s14, hr4, h4, .nil, .cons ⟨t1, t0, x, rfl, sqT (s4 _ _ h3), .inl (.inr ⟨_, s4 _ _ (s3 _ _ h2)⟩), hx.stay (.of s14), Nat.zero_le _⟩ .nil, by simp [flatP], by simp [Tm.goods, g], by simp [Tm.sizes], by simp [Tm.sizes]⟩, ?_⟩
    clear hr4 s14 s1 s2 s3 s4 h1 h2 h3 h4 nt0 nt1 nw
    rintro m σ H2 ⟨us, ws, Us, Ws, y3, y4, y5, y6, rfl, s2, hr2, hw2, hU, hW, ep, gw, tot, rfl⟩
    walk_at "rd"
    refine ⟨!ws.isEmpty, .inl ⟨ws, sqL hw2, rfl⟩, ?_⟩
    have lU := pd_len hU
    rcases pd_snoc' hW with ⟨rfl, rfl⟩ | ⟨ws1, v, Ws1, ⟨p0, U1⟩, rfl, rfl, hW1, hv⟩
    · rw [show (!([] : List V).isEmpty) = false from rfl, if_neg Bool.false_ne_true]
      walk_at "rd"
      rw [show flatP ([] : List (List Nat × Tm)).reverse = [] from rfl, List.append_nil] at ep
      rw [ep] at hU
      exact q lr us _ s2 nr hr2 hU
    · rw [show (!(ws1 ++ [v]).isEmpty) = true by cases ws1 <;> rfl, if_pos rfl]
      refine ⟨fun σ' H' => ∃ (us ws : List V) (Us : List (List Nat)) (Ws : List (List Nat × Tm)) (y3 y4 y5 y6 : Option V), σ' = [some x, some (.ref lr), some (.ref lw), y3, y4, y5, y6] ∧ Same H H' ∧ H' lr = some (.lst us) ∧ H' lw = some (.lst ws) ∧ Pls K H' us Us ∧ Wts K us.length H' ws Ws ∧
        Us ++ flatP Ws.reverse = U.plc.map (·.1) ∧ Tm.goods (Ws.map (·.2)) = true ∧ us.length + Tm.sizes (Ws.map (·.2)) = U.size ∧ Tm.sizes (Ws.map (·.2)) < Tm.sizes ((Ws1 ++ [(p0, U1)]).map (·.2)), ?_, ?_⟩
      · rintro σ' H' ⟨us, ws, Us, Ws, y3, y4, y5, y6, rfl, a1, a2, a3, a4, a5, a6, a7, a8, lt⟩
        exact ⟨_, lt, us, ws, Us, Ws, y3, y4, y5, y6, rfl, a1, a2, a3, a4, a5, a6, a7, a8, rfl⟩
      rw [List.map_append, Tm.goods_app] at gw
      have gW1 := (Tm.and2 gw).1
      have gU1 : U1.good = true := by
        have := (Tm.and2 gw).2
        rw [show Tm.goods ([(p0, U1)].map (·.2)) = U1.good by show (U1.good && true) = _; rw [Bool.and_true]] at this
        exact this
      have gK : U1.isBad = false ∧ Tm.goods U1.kids = true := by
        rw [Tm.good_kids] at gU1
        have := Tm.and2 gU1
        refine ⟨?_, this.2⟩
        have := this.1
        revert this
        cases U1.isBad <;> simp
      have hb := gK.1
      rw [List.map_append, Tm.sizes_app, show Tm.sizes ([(p0, U1)].map (·.2)) = U1.size from rfl] at tot
      walk_at "rd"
      refine ⟨.inl ⟨rfl, _, sqL hw2⟩, ?_⟩
      refine ⟨lw, ws1 ++ [v], v, rfl, rfl, hw2, by simp, ?_⟩
      rw [List.dropLast_concat]
      have sy : Stay K H2 (upd H2 lw (.lst ws1)) := Stay.at (K := K) (fun b o n e => by rw [upd_ne n]; exact e) hw2 upd_same
      have s3 : Same H (upd H2 lw (.lst ws1)) := Pf.Same.mut s2 hw
      have hw3 := upd_same (H := H2) (a := lw) (o := .lst ws1)
      have hr3 : (upd H2 lw (.lst ws1)) lr = some (.lst us) := by rw [upd_ne ne]; exact hr2
      replace hU := Pls.stay hU sy.tups
      replace hW1 := Wts.stay hW1 sy (Nat.le_refl _)
      replace hv := WtV.stay hv sy (Nat.le_refl _)
      clear hW hw2 s2 sy hr2
      generalize upd H2 lw (.lst ws1) = H3 at s3 hw3 hr3 hU hW1 hv ⊢
      obtain ⟨qv, zv, xv, rfl, hqv, hzv, hxv, lz⟩ := hv
      walk_at "rd"
      refine ⟨qv, _, rfl, hqv, rfl, ?_⟩
      walk_at "rd"
      refine ⟨.inl ⟨rfl, _, sqL hr3⟩, ?_⟩
      walk_at "rd"
      refine ⟨lr, us, _, rfl, rfl, hr3, by rw [sizeLine_eq]; omega, ?_⟩
      have sy : Stay K H3 (upd H3 lr (.lst (us ++ [.ref zv]))) := Stay.at (K := K) (fun b o n e => by rw [upd_ne n]; exact e) hr3 upd_same
      have hU6 := pd_snoc (Pls.stay hU sy.tups) (y := p0) ⟨zv, rfl, sy.tups.sq hzv⟩
      have hW6 := Wts.stay hW1 sy (Nat.le_succ us.length)
      have hx6 := hxv.stay sy
      have hz6 := sy.tups.sq hzv
      have s6 : Same H (upd H3 lr (.lst (us ++ [.ref zv]))) := Pf.Same.mut s3 nr
      have hr6 := upd_same (H := H3) (a := lr) (o := .lst (us ++ [.ref zv]))
      have hw6 : (upd H3 lr (.lst (us ++ [.ref zv]))) lw = some (.lst ws1) := by rw [upd_ne ne.symm]; exact hw3
      generalize upd H3 lr (.lst (us ++ [.ref zv])) = H6 at s6 hr6 hw6 hU6 hW6 hx6 hz6 ⊢
      clear sy hr3 hw3 hU hW1 hxv hzv hqv s3
      walk_at "rd"
      refine ⟨.inl ⟨rfl, _, sqL hw6⟩, ?_⟩
      walk_at "rd"
      refine r_step ?_
      refine r_enumT ?_
      walk_at "rd"
      refine ⟨xv, U1, rfl, hx6, hb, fun qk xs H7 s7 hk hkT => ?_⟩
      walk_at "rd"
      refine ⟨qk, xs, rfl, hk, fun D nD => ?_⟩
      have hr7 := s7 _ _ hr6
      have hw7 := s7 _ _ hw6
      replace hU6 := Pls.stay hU6 (Tups.of s7)
      replace hW6 := Wts.stay hW6 (.of s7) (Nat.le_refl _)
      replace hz6 := (Tups.of s7).sq hz6
      replace s6 := s6.trans s7
      have lk := tms_len hkT
      have n4 := Tm.sizes_len U1.kids
      have n5 := Tm.size_kids U1
      clear s7 hr6 hw6 hx6
      refine lcN (J := IteT K qk) (n := xs.length) (LcI H7 D fun i acc H => Wts K (us.length + 1) H acc ((kidsAt p0 0 U1.kids).take i)) (LcI.zero nD .nil) (fun i H9 hi hP => ⟨xs, xs[i], (Tups.of hP.1).sq hk, List.getElem?_eq_getElem hi⟩) (fun H9 hP => ⟨xs, (Tups.of hP.1).sq hk, Nat.le_refl _⟩) (fun i x1 H9 H10 hi hP hyl => ?_) (fun H9 hP => ?_)
      · obtain ⟨s9, acc, hD, hal, m⟩ := hP
        obtain ⟨te, x2, rfl, nte, rfl, hx2⟩ := hyl
        replace hx2 := hx2 xs ((Tups.of s9).sq hk)
        obtain ⟨U2, hU2, hr2⟩ := pd_get' hkT.pd hx2
        have s10 := same_new (o := .tup [.int (i : Nat), x2]) nte
        have h10 := upd_same (H := H9) (a := te) (o := .tup [.int (i : Nat), x2])
        replace m := Wts.stay m (.of s10) (Nat.le_refl _)
        have hD10 := s10 _ _ hD
        have nteD : te ≠ D := (ne_of_none hD nte).symm
        generalize upd H9 te (.tup [.int (i : Nat), x2]) = H10 at s10 h10 m hD10 ⊢
        have s910 := s9.trans s10
        refine ⟨te, _, rfl, sqT h10, rfl, ?_⟩
        walk_at "rd"
        refine ⟨rfl, ?_⟩
        walk_at "rd"
        refine ⟨by show 1 ≤ sizeLine; decide, fun tn ntn => ?_⟩
        have s11 := same_new (o := .tup [.int (i : Nat)]) ntn
        refine r_catA ((Tups.of (s910.trans s11)).sq hz6) (sqT upd_same) (by show (plI p0).length + 1 ≤ _; rw [show (plI p0).length = p0.length from List.length_map ..]; rw [sizeLine_eq]; show p0.length + 1 ≤ _; have := lz; show p0.length + 1 ≤ _; have e : p0.length ≤ us.length := lz; omega) fun zl H12 s12 hzl => ?_
        walk_at "rd"
        refine ⟨by show 2 ≤ sizeLine; decide, fun tz ntz => ?_⟩
        have s13 := same_new (o := .tup [.ref zl, x2]) ntz
        have s9z := s10.trans (s11.trans (s12.trans s13))
        refine LcI.keep nD s9 hD hal (by omega) s9z ?_
        have hDz := s9z _ _ hD
        have st : Stay K _ _ := Stay.at (K := K) (fun b o n e => by rw [upd_ne n]; exact e) hDz (upd_same (o := .lst (acc ++ [.ref tz])))
        have nzD : tz ≠ D := by
          have hD12 : H12 D = some (.lst acc) := s12 _ _ (s11 _ _ hD10)
          exact (ne_of_none hD12 ntz).symm
        have eK := kidsAt_get p0 0 U1.kids i U2 hU2
        rw [Nat.zero_add] at eK
        rw [take_snoc eK]
        refine pd_snoc (Wts.stay m ((Stay.of (s11.trans (s12.trans s13))).trans st) (Nat.le_refl _)) ?_
        refine ⟨tz, zl, x2, rfl, sqT (by rw [upd_ne nzD]; exact upd_same), st.tups.sq ((Tups.of s13).sq ?_), (hr2.stay (.of (s9.trans s9z))).stay st, ?_⟩
        · rw [show plI (p0 ++ [i]) = plI p0 ++ [.int (i : Nat)] by unfold plI; rw [List.map_append]; rfl]
          exact hzl
        · show (p0 ++ [i]).length ≤ us.length + 1
          rw [List.length_append]
          have e : p0.length ≤ us.length := lz
          show p0.length + 1 ≤ _
          omega
      · obtain ⟨s9, acc, hD, hal, m⟩ := hP
        rw [List.take_of_length_le (by rw [kidsAt_len, lk]; exact Nat.le_refl _)] at m
        have lm := pd_len m
        rw [kidsAt_len] at lm
        have lW := pd_len hW6
        have n6 := Tm.sizes_len (Ws1.map (·.2))
        rw [List.length_map] at n6
        refine ⟨D, acc, rfl, sqL hD, ?_⟩
        walk_at "rd"
        refine ⟨sqL hD, .inr rfl, fun pr npr => ?_⟩
        rw [if_neg (by decide)]
        have s10 := same_new (o := .lst acc.reverse) npr
        have h10 := upd_same (H := H9) (a := pr) (o := .lst acc.reverse)
        have m10 := pd_rev (Wts.stay m (.of s10) (Nat.le_refl _))
        generalize upd H9 pr (.lst acc.reverse) = H10 at s10 h10 m10 ⊢
        have s910 := s9.trans s10
        have hw9 := s910 _ _ hw7
        have hr9 := s910 _ _ hr7
        walk_at "rd"
        refine ⟨lw, pr, ws1, acc.reverse, rfl, rfl, hw9, h10, by rw [List.length_reverse, sizeLine_eq]; omega, ?_⟩
        have sy : Stay K H10 (upd H10 lw (.lst (ws1 ++ acc.reverse))) := Stay.at (K := K) (fun b o n e => by rw [upd_ne n]; exact e) hw9 upd_same
        have sall := (Stay.of s910).trans sy
        refine ⟨us ++ [.ref zv], ws1 ++ acc.reverse, Us ++ [p0], Ws1 ++ (kidsAt p0 0 U1.kids).reverse, _, _, _, _, rfl, Pf.Same.mut (s6.trans s910) hw, by rw [upd_ne ne]; exact hr9, upd_same, ?_, ?_, ?_, ?_, ?_, ?_⟩
        · exact Pls.stay hU6 sall.tups
        · exact pd_app (Wts.stay hW6 sall (by rw [List.length_append]; exact Nat.le_refl _)) (Wts.stay m10 sy (by rw [List.length_append]; exact Nat.le_refl _))
        · rw [← ep, List.reverse_append, List.reverse_reverse, List.reverse_append, flatP_app, flatP_app, List.append_assoc]
          congr 1
          rw [← List.append_assoc]
          congr 1
          exact (flat_one p0 U1).symm
        · rw [List.map_append, Tm.goods_app, gW1, Bool.true_and, List.map_reverse, kidsAt_snd]
          exact Tm.goods_rev.trans gK.2
        · rw [List.map_append, Tm.sizes_app, List.map_reverse, kidsAt_snd, Tm.sizes_rev, List.length_append]
          show us.length + 1 + _ = _
          omega
        · rw [List.map_append, List.map_append, Tm.sizes_app, Tm.sizes_app, List.map_reverse, kidsAt_snd, Tm.sizes_rev, show Tm.sizes ([(p0, U1)].map (·.2)) = U1.size from rfl]
          omega
theorem G_places_of (T : Txt K mg a) : FnOk P w K mg base (L2.CX P w) 8 a.f_places_of a.d_places_of ["term"] (sp_places K) := by
  refine T.F_places_of.okX sc_places_of (fun vs H Q E h => ?_) (fun cdv A outer s H vs Q E hr h => ?_)
  · obtain ⟨x, T, rfl, _⟩ := h
    rfl
  · obtain ⟨x, U, rfl, hx, g, hz, q⟩ := h
    refine ⟨_, (pss_cons (ps_expr (pe_call (G_check_term (K := K) T) (hr.mono (by decide)) (by rfl) T.g_check_term T.F_check_term.kp T.b_check_term .nil (passes_call (takes_of rfl rfl rfl rfl) fun _ _ _ _ h => h) (pa_cons (pv 0) pa_nil)))
        (pss_one (ps_ret (pe_call (G_places_in (K := K) T) (hr.mono (by decide)) (by rfl) T.g_places_in T.F_places_in.kp T.b_places_in .nil pass0 (pa_cons (pv 0) pa_nil))))), ?_⟩
    walk_at "rd"
    refine ⟨x, U, rfl, hx, hz, fun _ H1 s1 => ?_, fun z => by rw [g] at z; exact nomatch z⟩
    walk_at "rd"
    refine ⟨x, U, rfl, hx.stay (.of s1), g, hz, fun l xs H2 s2 nl hl hT => ?_⟩
    exact q l xs H2 (s1.trans s2) (s1.free nl) hl hT
end
end Pf

namespace Pf
open PySem PySem.Spec PyProof.Rows L2
local macro_rules | `(tactic| walk_at "rd") => `(tactic| (repeat' (first
  | with_reducible refine r_seq ?_ | with_reducible refine r_asg ?_ | with_reducible refine r_ret ?_ | with_reducible refine r_retN ?_ | with_reducible refine r_drop ?_ | with_reducible refine r_if ?_
  | with_reducible refine r_op ?_ | (with_reducible show tVar _ _ _ _; refine r_var rfl ?_) | with_reducible refine r_c ?_ | with_reducible refine r_I0 ?_ | (with_reducible refine r_I ?c ?_; (case c => first | (show (0 : Int) < _; first | decide | assumption | omega) | exact cmul_r ⟨by decide, by decide⟩ | exact cmul_l ⟨by decide, by decide⟩ | exact cmul_r (by first | assumption | constructor <;> omega) | (unfold CDiv; constructor <;> decide) | (unfold CPow; refine ⟨?_, ?_, ?_⟩ <;> decide))) | with_reducible refine r_name ?_ | (with_reducible show rIxL _ _ _ _ _; refine r_ixL (sqL (by assumption)) rfl ?_) | (with_reducible show rIxT _ _ _ _ _; refine r_ixT (by assumption) rfl ?_) | (with_reducible show rSetL _ _ _ _ _; refine r_setL (by assumption) rfl ?_) | with_reducible refine r_test ?_ | with_reducible refine r_tB ?_ | with_reducible refine r_bl ?_
  | with_reducible refine r_not ?_ | with_reducible refine r_and ?_ | with_reducible refine r_or ?_ | with_reducible refine r_andV ?_ | with_reducible refine r_orV ?_ | with_reducible refine r_notV ?_ | with_reducible refine r_ifE ?_
  | with_reducible refine r_cons ?_ | with_reducible refine r_nil ?_ | with_reducible refine r_cb ?_ | with_reducible refine r_call ?_ | with_reducible refine r_lst ?_ | with_reducible refine r_tup ?_ | with_reducible refine r_bm ?_ | with_reducible refine r_bm0 ?_
  | with_reducible refine r_un ?_ | with_reducible refine r_U ?_ | with_reducible refine r_eqI ?_ | with_reducible refine r_eqS ?_ | with_reducible refine r_neI ?_ | with_reducible refine r_neS ?_ | with_reducible refine r_sub ?_ | with_reducible refine r_gcons ?_ | with_reducible refine r_gnil ?_
  | with_reducible refine r_chain ?_ | with_reducible refine r_get2 ?_ | with_reducible refine r_iList ?_ | with_reducible refine r_iStr ?_ | with_reducible refine r_iTup ?_ | with_reducible refine r_iRev ?_ | with_reducible refine r_iItems ?_ | with_reducible refine r_rng ?_ | with_reducible refine r_inS ?_ | with_reducible refine r_bI ?_ | with_reducible refine r_abs ?_ | with_reducible refine r_sl ?_ | with_reducible refine r_next ?_ | with_reducible refine r_yes ?_
  | (with_reducible show rLen _ _ _ _; first | refine r_lenK (sqL (by assumption)) ?_ | refine r_lenK (by assumption) ?_ | refine r_lenTK (by assumption) ?_)
  | (with_reducible show tFor _ _ _ _ _ _; unfold tFor) | (with_reducible show tLc _ _ _ _ _ _ _ _; unfold tLc) | (with_reducible show tWhile _ _ _ _ _; unfold tWhile)
  | (with_reducible refine ⟨_, rfl, ?_⟩) | (with_reducible refine ⟨_, _, rfl, rfl, ?_⟩) | (with_reducible refine Or.inr ⟨_, rfl, ?_⟩) | (refine ⟨_, _, rfl, Or.inl (by assumption), ?_⟩; skip) | (refine ⟨_, _, rfl, Or.inr (by assumption), ?_⟩; skip)
  | (with_reducible refine iteNT ?_) | (with_reducible refine iteNF ?_) | (with_reducible refine iteT ?_) | (with_reducible refine iteF ?_)
  | (dsimp only [Bool.not_true, Bool.not_false, List.cons_append, List.nil_append]))))

local macro_rules | `(tactic| walk_at "st") => `(tactic| first | exact Same.refl _ | assumption | (refine Same.trans (by assumption) ?_; walk_at "st"))
local macro_rules | `(tactic| walk_at "ok") => `(tactic| first | assumption | exact up_tm (by assumption) (by walk_at "st") | exact up_sqT (by assumption) (by walk_at "st") | exact up_get (by assumption) (by walk_at "st") | exact up_getL (by assumption) (by walk_at "st") | exact up_getT (by assumption) (by walk_at "st") | exact up_sqL (by assumption) (by walk_at "st") | exact up_tms (by assumption) (by walk_at "st") | exact up_tnD (by assumption) (by walk_at "st") | exact up_tn (by assumption) (by walk_at "st") | exact ⟨_, up_getL (by assumption) (by walk_at "st")⟩ | exact ⟨_, up_sqL (by assumption) (by walk_at "st")⟩)

def sp_holes : Sp := fun vs H Q _ => ∃ (p : Addr) (m : Int), vs = [.ref p, .int m] ∧ PileAt H p ∧ 0 ≤ m ∧ m ≤ 6 ∧ ∀ (l : Addr) (ns : List Str) (H' : Hp), (ns.length : Int) = m → (∀ n ∈ ns, HoleOk n) → H l = none → H' l = some (.lst (ns.map V.str)) → PileAt H' p → But p H H' → Q (.ref l) H'
abbrev sixS : List Str := ["X", "Y", "Z", "X1", "Y1", "Z1"]
theorem six_nd : sixS.Nodup := by decide +kernel
theorem six_ok : ∀ n ∈ sixS, HoleOk n := by
  intro n hn
  refine wordB_iff.mp ?_
  revert n hn
  decide +kernel
section
variable {P : Program} {w : World} {K : PySem.W.Frag} {mg : Str → Option Value} {base : Heap} {a : Ad}
theorem G__law_holes (T : Txt K mg a) : FnOk P w K mg base CX0 3 a.f__law_holes a.d__law_holes ["_law_pile_here", "_law_many"] sp_holes := by
  refine T.F__law_holes.ok sc__law_holes (fun vs H Q E h => ?_) (fun cdv A outer s H vs Q E hr h => ?_)
  · obtain ⟨p, m, rfl, _⟩ := h
    rfl
  · obtain ⟨p, m, rfl, hp, m0, m8, q⟩ := h
    refine ⟨_, (pss_cons (ps_set (i := 2) sc__law_holes.nd rfl (.inl rfl) pe_str)
        (pss_cons (ps_set (i := 3) sc__law_holes.nd rfl (.inr rfl) (pe_lst pa_nil))
        (pss_cons (ps_for PassesOwn.never rfl (pi_range1 (by rfl) T.n_range (pa_cons (pv 1) pa_nil)) (pg_name (i := 4) sc__law_holes.nd rfl (by first | exact Or.inl rfl | exact Or.inr rfl)) (pss_cons (ps_set (i := 5) sc__law_holes.nd rfl (.inl rfl) (pe_ix ix_str (pv 2) (pe_call (G__law_take (K := K) T) (hr.mono (by decide)) (by rfl) T.g__law_take T.F__law_take.kp T.b__law_take .nil pass0 (pa_cons (pv 0) (pa_cons pe_int pa_nil))) (fun _ _ => rfl)))
        (C8.pss_cut (ps_if (pt_cmpR op_eq (pe_call (G__law_take (K := K) T) (hr.mono (by decide)) (by rfl) T.g__law_take T.F__law_take.kp T.b__law_take .nil pass0 (pa_cons (pv 0) (pa_cons pe_int pa_nil))) pe_int (nomark _)) (pss_one (ps_for PassesOwn.never rfl (pi_range1 (by rfl) T.n_range (pa_cons (pe_call (G__law_take (K := K) T) (hr.mono (by decide)) (by rfl) T.g__law_take T.F__law_take.kp T.b__law_take .nil pass0 (pa_cons (pv 0) (pa_cons pe_int pa_nil))) pa_nil)) (pg_name (i := 6) sc__law_holes.nd rfl (by first | exact Or.inl rfl | exact Or.inr rfl)) (pss_one (ps_set (i := 5) sc__law_holes.nd rfl (.inl rfl) (pe_op op_add_str (pv 5) (pe_ix ix_str (pe_op op_add_str (pv 2) pe_str) (pe_call (G__law_take (K := K) T) (hr.mono (by decide)) (by rfl) T.g__law_take T.F__law_take.kp T.b__law_take .nil pass0 (pa_cons (pv 0) (pa_cons pe_int pa_nil))) (fun _ _ => rfl))))))) pss_nil)
        (C8.pss_cut (ps_if (pt_cmpR (op_in_seqK K) (pv 5) (pv 3) (by with_unfolding_all rfl)) (pss_one (ps_set (i := 5) sc__law_holes.nd rfl (.inl rfl) (pe_ix (ix_listK K) (pe_lc (own := [("_law_one", 7)]) (by rfl) sc__law_holes.nd (pi_listK K (pe_lst (pa_cons pe_str (pa_cons pe_str (pa_cons pe_str (pa_cons pe_str (pa_cons pe_str (pa_cons pe_str pa_nil)))))))) (blkOk_by (N := N__law_holes) (sc := defScope s__law_holes) (by decide +kernel)) (fun _ _ _ _ _ => (pg_name (i := 7) sc__law_holes.nd rfl (by first | exact Or.inl rfl | exact Or.inr rfl))) (fun _ _ _ _ _ => (pts_one (pt_cmpR (op_notIn_seqK K) (pv 7) (pv 3) (by with_unfolding_all rfl)))) (fun _ _ _ _ _ => (pv 7))) pe_int (fun _ _ => rfl)))) pss_nil)
        (pss_one (ps_expr (pe_bmK K PySem.F.plainAttrs_list PySem.F.slot_list_append PySem.F.type_list_append mt_append (pv 3) (pa_cons (pv 5) pa_nil))))))))
        (pss_one (ps_ret (pv 3)))))), ?_⟩
    walk_at "rd"
    refine ⟨Nat.zero_le _, fun l nl => ?_⟩
    walk_at "rd"
    refine ⟨by omega, by omega, ?_⟩
    refine forN_range (fun i σ H4 => ∃ (ns : List Str) (y1 y2 y3 : Option V), σ = [some (.ref p), some (.int m), some (.str greatS), some (.ref l), y1, y2, y3, none] ∧ ns.length = i ∧ (∀ n ∈ ns, HoleOk n) ∧ H4 l = some (.lst (ns.map V.str)) ∧ PileAt H4 p ∧ But p H H4)
      ⟨[], none, none, none, rfl, rfl, fun _ z => (nomatch z), upd_same, hp.same (same_new nl), .of (same_new nl)⟩ (fun i σ H4 hi hP => ?_) (fun σ H4 hP => ?_)
    · obtain ⟨ns, y1, y2, y3, rfl, hlen, hok, hl, hp4, b4⟩ := hP
      have npl : l ≠ p := (hp.ne nl).symm
      walk_at "rd"
      refine ⟨p, 26, rfl, hp4, by decide, by decide, fun r H5 r0 r1 hp5 b5 => ?_⟩
      obtain ⟨c, ec, hc⟩ := at_mem (l := greatS.cps.toList) (i := r) r0 (by
        have e : greatS.cps.toList.length = 26 := by decide +kernel
        omega)
      refine r_ixS (z := greatS) (by decide +kernel) ec ?_
      walk_at "rd"
      refine ⟨fun σ' H' => ∃ (nm : Str) (y3 : Option V), σ' = [some (.ref p), some (.int m), some (.str greatS), some (.ref l), some (.int (0 + (i : Nat))), some (.str nm), y3, none] ∧ HoleOk nm ∧ PileAt H' p ∧ But p H5 H', ?_, ?_⟩
      · walk_at "rd"
        refine ⟨p, 3, rfl, hp5, by decide, by decide, fun r3 H6 r30 r31 hp6 b6 => ?_⟩
        walk_at "rd"
        refine r_dec (fun e => ?_) (fun _ => ?_)
        · walk_at "rd"
          refine ⟨p, 8, rfl, hp6, by decide, by decide, fun k H7 k0 k1 hp7 b7 => ?_⟩
          walk_at "rd"
          refine ⟨by omega, by omega, ?_⟩
          refine forN_range (fun i2 σ H8 => ∃ (nm : Str) (y3 : Option V), σ = [some (.ref p), some (.int m), some (.str greatS), some (.ref l), some (.int (0 + (i : Nat))), some (.str nm), y3, none] ∧ HoleOk nm ∧ nm.length = 1 + i2 ∧ PileAt H8 p ∧ But p H5 H8) ⟨_, y3, rfl, WordOk.one hc, rfl, hp7, b6.trans b7⟩ (fun i2 σ H8 hi2 hP => ?_) (fun σ H8 hP => ?_)
          · obtain ⟨nm, y3, rfl, hn, hnl, hp8, b8⟩ := hP
            walk_at "rd"
            refine ⟨by show 26 + 10 ≤ sizeLine; decide, ?_⟩
            walk_at "rd"
            refine ⟨p, 36, rfl, hp8, by decide, by decide, fun r9 H9 r90 r91 hp9 b9 => ?_⟩
            obtain ⟨c2, ec2, hc2⟩ := at_mem (l := (greatS ++ figS).cps.toList) (i := r9) r90 (by
              have e : (greatS ++ figS).cps.toList.length = 36 := by decide +kernel
              omega)
            refine r_ixS (z := greatS ++ figS) (by decide +kernel) ec2 ?_
            have hz : nm.length + (⟨#[c2]⟩ : Str).length ≤ sizeLine := by
              show nm.length + 1 ≤ sizeLine
              rw [sizeLine_eq]; omega
            refine ⟨_, _, rfl, rfl, hz, ?_⟩
            walk_at "rd"
            refine ⟨_, some (.int (0 + (i2 : Nat))), rfl, hn.more (by omega) hc2, ?_, hp9, b8.trans b9⟩
            rw [len_cps, app_cps, List.length_append, ← len_cps]
            show nm.length + 1 = 1 + (i2 + 1)
            omega
          · obtain ⟨nm, y3, rfl, hn, hnl, hp8, b8⟩ := hP
            walk_at "rd"
            exact ⟨nm, y3, rfl, hn, hp8, b8⟩
        · walk_at "rd"
          exact ⟨_, y3, rfl, WordOk.one hc, hp6, b6⟩
      · rintro σ' H6 ⟨nm0, y3', rfl, hw, hp6, b6⟩
        replace b6 := b5.trans b6
        have hl5 : H6 l = some (.lst (ns.map V.str)) := b6 _ _ npl hl
        walk_at "rd"
        refine ⟨fun σ' H' => ∃ nm : Str, σ' = [some (.ref p), some (.int m), some (.str greatS), some (.ref l), some (.int (0 + (i : Nat))), some (.str nm), y3', none] ∧ HoleOk nm ∧ Same H6 H', ?_, ?_⟩
        · walk_at "rd"
          refine r_in (sqL hl5) rfl (flat_strs ns) ?_
          rw [inV_strs]
          walk_at "rd"
          refine r_dec (fun e => ?_) (fun e => ?_)
          · walk_at "rd"
            refine ⟨by show 6 ≤ sizeLine; decide, fun l8 n8 => ?_⟩
            refine ⟨l8, rfl, ⟨_, sqL upd_same⟩, fun D nD => ?_⟩
            have h8 : (upd H6 l8 (.lst (sixS.map V.str))) l8 = some (.lst (sixS.map V.str)) := upd_same
            refine lc_list (K := K) (a := l8) (xs := sixS.map V.str) (LcI (upd H6 l8 (.lst (sixS.map V.str))) D fun i acc _ => acc = ((sixS.take i).filter fun n => decide (n ∉ ns)).map V.str) (LcI.zero nD rfl) (fun i H _ h => h.1.seq (sqL h8)) (fun i x H hx hP => ?_) (fun H hP => ?_)
            · obtain ⟨s6, acc, hD, hal, rfl⟩ := hP
              rw [List.getElem?_map] at hx
              obtain ⟨n, hn, rfl⟩ := Option.map_eq_some_iff.mp hx
              have hi : i < 6 := (List.getElem?_eq_some_iff.mp hn).1
              have hl6 : H l = some (.lst (ns.map V.str)) := s6 _ _ ((same_new n8) _ _ hl5)
              walk_at "rd"
              refine ⟨rfl, ?_⟩
              walk_at "rd"
              refine r_notIn (sqL hl6) rfl (flat_strs ns) ?_
              rw [inV_strs]
              walk_at "rd"
              refine r_ndec (fun e => ?_) (fun e => ?_)
              · walk_at "rd"
                refine LcI.keep nD s6 hD hal (by omega) (Same.refl _) ?_
                rw [take_snoc hn, List.filter_append, List.map_append]
                simp [e]
              · refine LcI.skip s6 hD hal (Same.refl _) ?_
                rw [take_snoc hn, List.filter_append, List.map_append]
                simp [e]
            · obtain ⟨s6, acc, hD, hal, rfl⟩ := hP
              obtain ⟨x, hx, hxn⟩ := not_all_in sixS ns six_nd (by show ns.length < 6; omega)
              have hf : x ∈ (sixS.take (sixS.map V.str).length).filter fun n => decide (n ∉ ns) := List.mem_filter.mpr ⟨by simpa using hx, by simpa using hxn⟩
              generalize hfl : (sixS.take (sixS.map V.str).length).filter (fun n => decide (n ∉ ns)) = fl at hf hD
              cases fl with
              | nil => cases hf
              | cons y r =>
                have hy : y ∈ (sixS.take (sixS.map V.str).length).filter fun n => decide (n ∉ ns) := by rw [hfl]; exact List.mem_cons_self
                have hy2 := List.mem_filter.mp hy
                walk_at "rd"
                refine r_ixL (sqL hD) (v := .str y) (atI_nat (j := 0) rfl) ?_
                walk_at "rd"
                exact ⟨six_ok y (List.mem_of_mem_take hy2.1), (same_new n8).trans s6⟩
          · walk_at "rd"
            exact ⟨hw, Same.refl _⟩
        · rintro σ' H' ⟨nm, rfl, hn, s5⟩
          walk_at "rd"
          have hl6 := s5 _ _ hl5
          refine ⟨.inl ⟨rfl, _, sqL hl6⟩, ?_⟩
          walk_at "rd"
          refine ⟨l, _, nm |> V.str, rfl, rfl, hl6, ?_, ?_⟩
          · rw [List.length_map]; exact small1000 (by omega)
          · refine ⟨ns ++ [nm], _, _, _, rfl, by rw [List.length_append]; show ns.length + 1 = i + 1; omega, fun n hx => ?_, ?_, (hp6.same s5).but (fun b o nb e => by rw [upd_ne nb]; exact e) npl.symm, ?_⟩
            · rcases List.mem_append.mp hx with z | z
              · exact hok n z
              · rw [List.mem_singleton.mp z]; exact hn
            · rw [upd_same, List.map_append]; rfl
            · intro b o nb e
              have nbl : b ≠ l := ne_of_none e nl
              rw [upd_ne nbl]
              exact s5 _ _ (b6 _ _ nb (b4 _ _ nb e))
    · obtain ⟨ns, y1, y2, y3, rfl, hlen, hok, hl, hp4, b4⟩ := hP
      walk_at "rd"
      exact q l ns H4 (by omega) hok nl hl hp4 b4
end
end Pf

/-! terms whose holes' turns move some names only; terms led by a turn -/
namespace Pf
open PySem PySem.Spec PyProof.Rows L2
namespace Tm
mutual
/-- the turns of its holes move these names only -/
def hin (ns : List Str) : Tm → Prop
  | .hole t _ => Among t ns
  | .shut _ b => hin ns b
  | .sign _ ps => hins ns ps
  | _ => True
def hins (ns : List Str) : List Tm → Prop
  | [] => True
  | p :: r => hin ns p ∧ hins ns r
end
theorem hins_app {ns : List Str} : ∀ {a b : List Tm}, hins ns a → hins ns b → hins ns (a ++ b)
  | [], b, _, h => h
  | p :: r, b, g, h => ⟨g.1, hins_app g.2 h⟩
theorem hins_mem {ns : List Str} : ∀ {l : List Tm}, hins ns l → ∀ T ∈ l, hin ns T
  | p :: r, h, T, m => by
    rcases List.mem_cons.mp m with rfl | m
    · exact h.1
    · exact hins_mem h.2 T m
theorem hin_kids {ns : List Str} {T : Tm} (h : hin ns T) : hins ns T.kids := by
  cases T with
  | shut n b => exact ⟨h, trivial⟩
  | sign n ps => exact h
  | _ => trivial
mutual
theorem hin_pre {ns : List Str} {T : Tm} : hin ns T → ∀ W ∈ T.pre, hin ns W := fun h W m => by
  cases T with
  | name n => cases List.mem_singleton.mp m; exact h
  | hole t X => cases List.mem_singleton.mp m; exact h
  | bad => cases List.mem_singleton.mp m; exact h
  | shut n b =>
    rcases List.mem_cons.mp m with rfl | m
    · exact h
    · exact hin_pre (T := b) h W m
  | sign n ps =>
    rcases List.mem_cons.mp m with rfl | m
    · exact h
    · exact hins_pres (Ts := ps) h W m
theorem hins_pres {ns : List Str} {Ts : List Tm} : hins ns Ts → ∀ W ∈ pres Ts, hin ns W := fun h W m => by
  cases Ts with
  | nil => exact nomatch m
  | cons p r =>
    rcases List.mem_append.mp m with m | m
    · exact hin_pre h.1 W m
    · exact hins_pres h.2 W m
end
end Tm
theorem among_small {t : List PS2} {ns : List Str} (it : IsTurn t) (a : Among t ns) : t.length ≤ ns.length := by
  rw [← List.length_map (f := fun q : PS2 => q.1)]
  rcases Nat.lt_or_ge ns.length (t.map fun q : PS2 => q.1).length with lt | ge
  · have p := perm_of_sub it.nd (m := ns) (fun k hk => by
      obtain ⟨q, hq, rfl⟩ := List.mem_map.mp hk
      exact (a q hq).1) (Nat.le_of_lt lt)
    have := p.length_eq
    omega
  · exact ge
/-- first the one, then the other -/
noncomputable def jn (t u : List PS2) : List PS2 := by
  classical
  exact if h : ∃ r, IsTurn r ∧ ∀ n, look r n = look u (look t n) then h.choose else []
theorem jn_eq {t u r : List PS2} (ir : IsTurn r) (h : ∀ n, look r n = look u (look t n)) : jn t u = r := by
  classical
  have e : ∃ r, IsTurn r ∧ ∀ n, look r n = look u (look t n) := ⟨r, ir, h⟩
  unfold jn
  rw [dif_pos e]
  exact IsTurn.ext e.choose_spec.1 ir fun n => by rw [e.choose_spec.2, h]
namespace Tm
mutual
/-- led by a turn -/
noncomputable def led (u : List PS2) : Tm → Tm
  | .name n => .name (look u n)
  | .hole t X => .hole (jn t u) X
  | .shut n b => .shut (look u n) (led u b)
  | .sign n ps => .sign n (leds u ps)
  | .bad => .bad
noncomputable def leds (u : List PS2) : List Tm → List Tm
  | [] => []
  | p :: r => led u p :: leds u r
end
theorem leds_map (u : List PS2) : ∀ l : List Tm, leds u l = l.map (led u)
  | [] => rfl
  | p :: r => congrArg (led u p :: ·) (leds_map u r)
theorem kids_led (u : List PS2) (T : Tm) : (led u T).kids = T.kids.map (led u) := by
  cases T with
  | sign n ps => exact leds_map u ps
  | _ => rfl
mutual
theorem size_led (u : List PS2) : ∀ T : Tm, (led u T).size = T.size
  | .name _ => rfl
  | .hole _ _ => rfl
  | .shut _ b => congrArg (1 + ·) (size_led u b)
  | .sign _ ps => congrArg (1 + ·) (sizes_led u ps)
  | .bad => rfl
theorem sizes_led (u : List PS2) : ∀ l : List Tm, sizes (leds u l) = sizes l
  | [] => rfl
  | p :: r => by
    show size (led u p) + sizes (leds u r) = size p + sizes r
    rw [size_led u p, sizes_led u r]
end
mutual
theorem dep_led (u : List PS2) : ∀ T : Tm, (led u T).dep = T.dep
  | .name _ => rfl
  | .hole _ _ => rfl
  | .shut _ b => congrArg (1 + ·) (dep_led u b)
  | .sign _ ps => congrArg (1 + ·) (deps_led u ps)
  | .bad => rfl
theorem deps_led (u : List PS2) : ∀ l : List Tm, deps (leds u l) = deps l
  | [] => rfl
  | p :: r => by
    show max (dep (led u p)) (deps (leds u r)) = max (dep p) (deps r)
    rw [dep_led u p, deps_led u r]
end
mutual
theorem good_led (u : List PS2) : ∀ T : Tm, (led u T).good = T.good
  | .name _ => rfl
  | .hole _ _ => rfl
  | .shut _ b => good_led u b
  | .sign _ ps => goods_led u ps
  | .bad => rfl
theorem goods_led (u : List PS2) : ∀ l : List Tm, goods (leds u l) = goods l
  | [] => rfl
  | p :: r => by
    show (good (led u p) && goods (leds u r)) = (good p && goods r)
    rw [good_led u p, goods_led u r]
end
end Tm
end Pf

namespace Pf
open PySem PySem.Spec PyProof.Rows L2
local macro_rules | `(tactic| walk_at "rd") => `(tactic| (repeat' (first
  | with_reducible refine r_seq ?_ | with_reducible refine r_asg ?_ | with_reducible refine r_ret ?_ | with_reducible refine r_retN ?_ | with_reducible refine r_drop ?_ | with_reducible refine r_if ?_
  | with_reducible refine r_op ?_ | (with_reducible show tVar _ _ _ _; refine r_var rfl ?_) | with_reducible refine r_c ?_ | with_reducible refine r_I0 ?_ | (with_reducible refine r_I ?c ?_; (case c => first | (show (0 : Int) < _; first | decide | assumption | omega) | exact cmul_r ⟨by decide, by decide⟩ | exact cmul_l ⟨by decide, by decide⟩ | exact cmul_r (by first | assumption | constructor <;> omega) | (unfold CDiv; constructor <;> decide) | (unfold CPow; refine ⟨?_, ?_, ?_⟩ <;> decide))) | with_reducible refine r_name ?_ | (with_reducible show rIxL _ _ _ _ _; refine r_ixL (sqL (by assumption)) rfl ?_) | (with_reducible show rIxT _ _ _ _ _; refine r_ixT (by assumption) rfl ?_) | (with_reducible show rSetL _ _ _ _ _; refine r_setL (by assumption) rfl ?_) | with_reducible refine r_test ?_ | with_reducible refine r_tB ?_ | with_reducible refine r_bl ?_
  | with_reducible refine r_not ?_ | with_reducible refine r_and ?_ | with_reducible refine r_or ?_ | with_reducible refine r_andV ?_ | with_reducible refine r_orV ?_ | with_reducible refine r_notV ?_ | with_reducible refine r_ifE ?_
  | with_reducible refine r_cons ?_ | with_reducible refine r_nil ?_ | with_reducible refine r_cb ?_ | with_reducible refine r_call ?_ | with_reducible refine r_lst ?_ | with_reducible refine r_tup ?_ | with_reducible refine r_bm ?_ | with_reducible refine r_bm0 ?_
  | with_reducible refine r_un ?_ | with_reducible refine r_U ?_ | with_reducible refine r_eqI ?_ | with_reducible refine r_eqS ?_ | with_reducible refine r_neI ?_ | with_reducible refine r_neS ?_ | with_reducible refine r_sub ?_ | with_reducible refine r_gcons ?_ | with_reducible refine r_gnil ?_
  | with_reducible refine r_chain ?_ | with_reducible refine r_get2 ?_ | with_reducible refine r_iList ?_ | with_reducible refine r_iStr ?_ | with_reducible refine r_iTup ?_ | with_reducible refine r_iRev ?_ | with_reducible refine r_iItems ?_ | with_reducible refine r_rng ?_ | with_reducible refine r_inS ?_ | with_reducible refine r_bI ?_ | with_reducible refine r_abs ?_ | with_reducible refine r_sl ?_ | with_reducible refine r_next ?_ | with_reducible refine r_yes ?_
  | (with_reducible show rLen _ _ _ _; first | refine r_lenK (sqL (by assumption)) ?_ | refine r_lenK (by assumption) ?_ | refine r_lenTK (by assumption) ?_)
  | (with_reducible show tFor _ _ _ _ _ _; unfold tFor) | (with_reducible show tLc _ _ _ _ _ _ _ _; unfold tLc) | (with_reducible show tWhile _ _ _ _ _; unfold tWhile)
  | (with_reducible refine ⟨_, rfl, ?_⟩) | (with_reducible refine ⟨_, _, rfl, rfl, ?_⟩) | (with_reducible refine Or.inr ⟨_, rfl, ?_⟩) | (refine ⟨_, _, rfl, Or.inl (by assumption), ?_⟩; skip) | (refine ⟨_, _, rfl, Or.inr (by assumption), ?_⟩; skip)
  | (with_reducible refine iteNT ?_) | (with_reducible refine iteNF ?_) | (with_reducible refine iteT ?_) | (with_reducible refine iteF ?_)
  | (dsimp only [Bool.not_true, Bool.not_false, List.cons_append, List.nil_append]))))

local macro_rules | `(tactic| walk_at "st") => `(tactic| first | exact Same.refl _ | assumption | (refine Same.trans (by assumption) ?_; walk_at "st"))
local macro_rules | `(tactic| walk_at "ok") => `(tactic| first | assumption | exact up_tm (by assumption) (by walk_at "st") | exact up_sqT (by assumption) (by walk_at "st") | exact up_get (by assumption) (by walk_at "st") | exact up_getL (by assumption) (by walk_at "st") | exact up_getT (by assumption) (by walk_at "st") | exact up_sqL (by assumption) (by walk_at "st") | exact up_tms (by assumption) (by walk_at "st") | exact up_tnD (by assumption) (by walk_at "st") | exact up_tn (by assumption) (by walk_at "st") | exact ⟨_, up_getL (by assumption) (by walk_at "st")⟩ | exact ⟨_, up_sqL (by assumption) (by walk_at "st")⟩)

def But2 (p q : Addr) (H H' : Hp) : Prop := ∀ b o, b ≠ p → b ≠ q → H b = some o → H' b = some o
theorem But2.trans {p q : Addr} {H H1 H2 : Hp} (a : But2 p q H H1) (b : But2 p q H1 H2) : But2 p q H H2 := fun c o n m e => b c o n m (a c o n m e)
theorem But2.of {p q : Addr} {H H' : Hp} (a : But p H H') : But2 p q H H' := fun b o n _ e => a b o n e
theorem But2.same {p q : Addr} {H H' : Hp} (a : Same H H') : But2 p q H H' := fun b o _ _ e => a b o e
theorem stay2 {K : PySem.W.Frag} {p q : Addr} {H H' : Hp} {xs ys zs us : List V} (b : But2 p q H H') (ne : p ≠ q) (hp : H p = some (.lst xs)) (hp' : H' p = some (.lst ys)) (hq : H q = some (.lst zs)) (hq' : H' q = some (.lst us)) : Stay K H H' := by
  have s1 : Stay K H (upd H p (.lst ys)) := Stay.at (K := K) (fun b o n e => by rw [upd_ne n]; exact e) hp upd_same
  refine s1.trans (Stay.at (K := K) (p := q) (fun c o n e => ?_) (by rw [upd_ne ne.symm]; exact hq) hq')
  by_cases z : c = p
  · rw [z, upd_same] at e
    cases e
    rw [z]; exact hp'
  · rw [upd_ne z] at e
    exact b c o z n e
def bnd : Nat → Nat
  | 0 => 1
  | n + 1 => 1 + 3 * bnd n
/-- parts of terms that are drawn -/
structure Drawn2 (p ln lh : Addr) (ns hs : List Str) (H : Hp) : Prop where
  pile : PileAt H p
  nam : H ln = some (.lst (ns.map V.str))
  hol : H lh = some (.lst (hs.map V.str))
  n1 : ln ≠ p
  n2 : lh ≠ p
  n3 : ln ≠ lh
  l1 : 1 ≤ ns.length
  l2 : ns.length ≤ 40
  nd : ns.Nodup
  ok : ∀ n ∈ ns, NameOk n
  l3 : hs.length ≤ 100
  ho : ∀ h ∈ hs, HoleOk h
theorem Drawn2.but {p ln lh : Addr} {ns hs : List Str} {H H' : Hp} (d : Drawn2 p ln lh ns hs H) (b : But p H H') (hp : PileAt H' p) : Drawn2 p ln lh ns hs H' :=
  ⟨hp, b _ _ d.n1 d.nam, b _ _ d.n2 d.hol, d.n1, d.n2, d.n3, d.l1, d.l2, d.nd, d.ok, d.l3, d.ho⟩
theorem Drawn2.same {p ln lh : Addr} {ns hs : List Str} {H H' : Hp} (d : Drawn2 p ln lh ns hs H) (s : Same H H') : Drawn2 p ln lh ns hs H' := d.but (.of s) (d.pile.same s)
theorem Drawn2.stay {K : PySem.W.Frag} {p ln lh : Addr} {ns hs hs' : List Str} {H H' : Hp} (d : Drawn2 p ln lh ns hs H) (d' : Drawn2 p ln lh ns hs' H') (b : But2 p lh H H') : Stay K H H' := by
  obtain ⟨_, _, _, e, _⟩ := d.pile
  obtain ⟨_, _, _, e', _⟩ := d'.pile
  exact stay2 b d.n2.symm e e' d.hol d'.hol
theorem Drawn2.pop {p ln lh : Addr} {ns hs : List Str} {H : Hp} (d : Drawn2 p ln lh ns hs H) (k : Nat) : Drawn2 p ln lh ns (hs.eraseIdx k) (upd H lh (.lst ((hs.eraseIdx k).map V.str))) := by
  have le : (hs.eraseIdx k).length ≤ hs.length := by rw [List.length_eraseIdx]; split <;> omega
  refine ⟨d.pile.but (fun b o nb e => by rw [upd_ne nb]; exact e) d.n2.symm, by rw [upd_ne d.n3]; exact d.nam, upd_same, d.n1, d.n2, d.n3, d.l1, d.l2, d.nd, d.ok, Nat.le_trans le d.l3, fun h hh => d.ho h (List.mem_of_mem_eraseIdx hh)⟩
theorem Drawn2.other {p ln lh D : Addr} {ns hs : List Str} {H : Hp} {o : HO} (d : Drawn2 p ln lh ns hs H) (n1 : D ≠ p) (n2 : D ≠ ln) (n3 : D ≠ lh) : Drawn2 p ln lh ns hs (upd H D o) :=
  ⟨d.pile.but (fun b o nb e => by rw [upd_ne nb]; exact e) n1.symm, by rw [upd_ne n2.symm]; exact d.nam, by rw [upd_ne n3.symm]; exact d.hol, d.n1, d.n2, d.n3, d.l1, d.l2, d.nd, d.ok, d.l3, d.ho⟩
theorem deps_app : ∀ (a b : List Tm), Tm.deps (a ++ b) = max (Tm.deps a) (Tm.deps b)
  | [], b => by simp [Tm.deps]
  | p :: r, b => by
    show max p.dep (Tm.deps (r ++ b)) = max (max p.dep (Tm.deps r)) (Tm.deps b)
    rw [deps_app r b]
    omega
/-- one name of those, drawn -/
theorem Drawn2.one {p ln lh : Addr} {ns hs : List Str} {H : Hp} (d : Drawn2 p ln lh ns hs H) {r : Int} (r0 : 0 ≤ r) (r1 : r < ns.length) : ∃ n, atI (ns.map V.str) r = some (V.str n) ∧ NameOk n := by
  obtain ⟨c, ec, hc⟩ := at_memV (l := ns.map V.str) r0 (by rw [List.length_map]; exact r1)
  obtain ⟨n, hn, rfl⟩ := List.mem_map.mp hc
  exact ⟨n, ec, d.ok n hn⟩
def sp_sign : Sp := fun vs H Q _ => ∃ (p ln lh : Addr) (ns hs : List Str), vs = [.ref p, .ref ln] ∧ Drawn2 p ln lh ns hs H ∧ ∀ n H', NameOk n → Drawn2 p ln lh ns hs H' → But p H H' → Q (.str n) H'
def sp_term (K : PySem.W.Frag) (m : Nat) : Sp := fun vs H Q _ => ∃ (p ln lh : Addr) (ns hs : List Str) (d : Nat), vs = [.ref p, .ref ln, .ref lh, .int (d : Nat)] ∧ d < m ∧ d ≤ 3 ∧ Drawn2 p ln lh ns hs H ∧
  ∀ v T H' hs', TmV K H' v T → (T.good = true ∧ T.hin ns) → T.size ≤ bnd d → T.dep ≤ d + 1 → Drawn2 p ln lh ns hs' H' → But2 p lh H H' → Q v H'
theorem okF : NameOk (Str.ofString "f") := wordB_iff.mp (by decide +kernel)
theorem okG : NameOk (Str.ofString "g") := wordB_iff.mp (by decide +kernel)
theorem okH : NameOk (Str.ofString "h") := wordB_iff.mp (by decide +kernel)
section
variable {P : Program} {w : World} {K : PySem.W.Frag} {mg : Str → Option Value} {base : Heap} {a : Ad}
theorem G__law_sign (T : Txt K mg a) : FnOk P w K mg base CX0 3 a.f__law_sign a.d__law_sign ["_law_pile_here", "_law_names_here"] sp_sign := by
  refine T.F__law_sign.ok sc__law_sign (fun vs H Q E h => ?_) (fun cdv A outer s H vs Q E hr h => ?_)
  · obtain ⟨p, ln, lh, ns, hs, rfl, _⟩ := h
    rfl
  · obtain ⟨p, ln, lh, ns, hs, rfl, d, q⟩ := h
    refine ⟨_, (pss_one (ps_ret (pe_ix (ix_listK K) (pe_lst (pa_cons pe_str (pa_cons pe_str (pa_cons pe_str (pa_cons (pe_ix (ix_listK K) (pv 1) pe_int (fun _ _ => rfl)) pa_nil))))) (pe_call (G__law_take (K := K) T) (hr.mono (by decide)) (by rfl) T.g__law_take T.F__law_take.kp T.b__law_take .nil pass0 (pa_cons (pv 0) (pa_cons pe_int pa_nil))) (fun _ _ => rfl)))), ?_⟩
    walk_at "rd"
    obtain ⟨n0, e0, ok0⟩ := d.one (r := 0) (by decide) (by have := d.l1; omega)
    refine r_ixL (sqL d.nam) e0 ?_
    walk_at "rd"
    refine ⟨by show 4 ≤ sizeLine; decide, fun lk nlk => ?_⟩
    have sK := same_new (o := .lst [.str (Str.ofString "f"), .str (Str.ofString "g"), .str (Str.ofString "h"), .str n0]) nlk
    have hlk := upd_same (H := H) (a := lk) (o := .lst [.str (Str.ofString "f"), .str (Str.ofString "g"), .str (Str.ofString "h"), .str n0])
    have dK := d.same sK
    have nplk : lk ≠ p := (d.pile.ne nlk).symm
    generalize upd H lk (.lst [.str (Str.ofString "f"), .str (Str.ofString "g"), .str (Str.ofString "h"), .str n0]) = HK at sK hlk dK ⊢
    walk_at "rd"
    refine ⟨p, 4, rfl, dK.pile, by decide, by decide, fun r HL r0 r1 hpL bL => ?_⟩
    have dL := dK.but bL hpL
    obtain ⟨n, en, okn⟩ : ∃ n, atI [V.str (Str.ofString "f"), .str (Str.ofString "g"), .str (Str.ofString "h"), .str n0] r = some (.str n) ∧ NameOk n := by
      have : r = 0 ∨ r = 1 ∨ r = 2 ∨ r = 3 := by omega
      rcases this with e | e | e | e
      · exact ⟨_, by rw [e]; rfl, okF⟩
      · exact ⟨_, by rw [e]; rfl, okG⟩
      · exact ⟨_, by rw [e]; rfl, okH⟩
      · exact ⟨_, by rw [e]; rfl, ok0⟩
    refine r_ixL (sqL (bL _ _ nplk hlk)) en ?_
    exact q n HL okn dL ((But.of sK).trans bL)
theorem rec_law_term (T : Txt K mg a) : ∀ m : Nat, FnOk P w K mg base CX0 (4 + m) a.f__law_term a.d__law_term ["_law_pile_here", "_law_names_here", "_law_some", "_law_depth"] (sp_term K m)
  | 0 => by
    refine T.F__law_term.ok sc__law_term (fun vs H Q E h => ?_) (fun cdv A outer s H vs Q E hr h => ?_)
    · obtain ⟨p, ln, lh, ns, hs, d, rfl, lt, _⟩ := h
      exact absurd lt (Nat.not_lt_zero _)
    · obtain ⟨p, ln, lh, ns, hs, d, rfl, lt, _⟩ := h
      exact absurd lt (Nat.not_lt_zero _)
  | m + 1 => by
    have IH := rec_law_term T m
    refine T.F__law_term.ok sc__law_term (fun vs H Q E h => ?_) (fun cdv A outer s H vs Q E hr h => ?_)
    · obtain ⟨p, ln, lh, ns, hs, d, rfl, _⟩ := h
      rfl
    · obtain ⟨p, ln, lh, ns, hs, d, rfl, lt, d3, dr, q⟩ := h
      replace hr : Room (4 + m) _ := hr
      refine ⟨_, (pss_cons (ps_set (i := 4) sc__law_term.nd rfl (.inl rfl) (pe_call (G__law_take (K := K) T) (hr.mono (by omega)) (by rfl) T.g__law_take T.F__law_take.kp T.b__law_take .nil pass0 (pa_cons (pv 0) (pa_cons pe_int pa_nil))))
        (C8.pss_cut (ps_set (i := 5) sc__law_term.nd rfl (.inl rfl) (pe_or (pe_cmpR op_eq (pv 3) pe_int (nomark _)) (pe_one (pe_cmpR op_eq (pv 4) pe_int (nomark _)))))
        (C8.pss_cut (ps_if ((pw_and (pt_val (pv 5)) (pw_and (pt_cmpR (op_neDK K hr.units) (pv 2) (pe_lst pa_nil) (nomark _)) (pw_and1 (pt_cmpR op_gt (pe_call (G__law_take (K := K) T) (hr.mono (by omega)) (by rfl) T.g__law_take T.F__law_take.kp T.b__law_take .nil pass0 (pa_cons (pv 0) (pa_cons pe_int pa_nil))) pe_int (nomark _)))))).pt (pss_one (ps_ret (pe_tup (pa_cons pe_str (pa_cons (pe_call (G__law_turn (K := K) T) (hr.mono (by omega)) (by rfl) T.g__law_turn T.F__law_turn.kp T.b__law_turn .nil pass0 (pa_cons (pv 0) (pa_cons (pv 1) pa_nil))) (pa_cons (pe_bmK K PySem.F.plainAttrs_list PySem.F.slot_list_pop PySem.F.type_list_pop mt_popAt (pv 2) (pa_cons (pe_call (G__law_take (K := K) T) (hr.mono (by omega)) (by rfl) T.g__law_take T.F__law_take.kp T.b__law_take .nil pass0 (pa_cons (pv 0) (pa_cons (pe_callB (call_len_seqK K) (by rfl) T.n_len PySem.boot_len (pa_cons (pv 2) pa_nil)) pa_nil))) pa_nil)) pa_nil)))))) pss_nil)
        (pss_cons (ps_if (pt_val (pv 5)) (pss_one (ps_ret (pe_tup (pa_cons pe_str (pa_cons (pe_ix (ix_listK K) (pv 1) (pe_call (G__law_take (K := K) T) (hr.mono (by omega)) (by rfl) T.g__law_take T.F__law_take.kp T.b__law_take .nil pass0 (pa_cons (pv 0) (pa_cons (pe_callB (call_len_seqK K) (by rfl) T.n_len PySem.boot_len (pa_cons (pv 1) pa_nil)) pa_nil))) (fun _ _ => rfl)) pa_nil))))) pss_nil)
        (pss_cons (ps_if (pt_cmpR op_lt (pv 4) pe_int (nomark _)) (pss_one (ps_ret (pe_tup (pa_cons pe_str (pa_cons (pe_ix (ix_listK K) (pv 1) (pe_call (G__law_take (K := K) T) (hr.mono (by omega)) (by rfl) T.g__law_take T.F__law_take.kp T.b__law_take .nil pass0 (pa_cons (pv 0) (pa_cons (pe_callB (call_len_seqK K) (by rfl) T.n_len PySem.boot_len (pa_cons (pv 1) pa_nil)) pa_nil))) (fun _ _ => rfl)) (pa_cons (pe_call IH (hr.mono (by omega)) (by rfl) T.g__law_term T.F__law_term.kp T.b__law_term .nil pass0 (pa_cons (pv 0) (pa_cons (pv 1) (pa_cons (pv 2) (pa_cons (pe_op op_sub (pv 3) pe_int) pa_nil))))) pa_nil)))))) pss_nil)
        (pss_cons (ps_set (i := 6) sc__law_term.nd rfl (.inl rfl) (pe_ix (ix_listK K) (pe_lst (pa_cons pe_int (pa_cons pe_int (pa_cons pe_int (pa_cons pe_int (pa_cons pe_int (pa_cons pe_int pa_nil))))))) (pe_call (G__law_take (K := K) T) (hr.mono (by omega)) (by rfl) T.g__law_take T.F__law_take.kp T.b__law_take .nil pass0 (pa_cons (pv 0) (pa_cons pe_int pa_nil))) (fun _ _ => rfl)))
        (pss_cons (ps_setLc (i := 7) (own := [("_law_k", 8)]) (by rfl) sc__law_term.nd rfl rfl (sw_true rfl rfl rfl (by decide +kernel)) (pi_range1 (by rfl) T.n_range (pa_cons (pv 6) pa_nil)) (blkOk_by (N := N__law_term) (sc := defScope s__law_term) (by decide +kernel)) (fun _ _ _ _ _ => (pg_name (i := 8) sc__law_term.nd rfl (by first | exact Or.inl rfl | exact Or.inr rfl))) (fun _ _ _ _ _ => pts_nil) (fun _ _ _ _ _ => (pe_call IH (hr.mono (by omega)) (by rfl) T.g__law_term T.F__law_term.kp T.b__law_term .nil pass0 (pa_cons (pv 0) (pa_cons (pv 1) (pa_cons (pv 2) (pa_cons (pe_op op_sub (pv 3) pe_int) pa_nil)))))))
        (pss_one (ps_ret (pe_tup (pa_cons pe_str (pa_cons (pe_call (G__law_sign (K := K) T) (hr.mono (by omega)) (by rfl) T.g__law_sign T.F__law_sign.kp T.b__law_sign .nil pass0 (pa_cons (pv 0) (pa_cons (pv 1) pa_nil))) (pa_cons (pe_callTy (call_tupleFK K) (by rfl) T.n_tuple (by decide +kernel) (pa_cons (pv 7) pa_nil)) pa_nil))))))))))))), ?_⟩
      walk_at "rd"
      refine ⟨p, 10, rfl, dr.pile, by decide, by decide, fun kd H1 k0 k1 hp1 b1 => ?_⟩
      have d1 := dr.but b1 hp1
      walk_at "rd"
      refine ⟨fun σ' H' => ∃ leaf : Bool, σ' = [some (.ref p), some (.ref ln), some (.ref lh), some (.int (d : Nat)), some (.int kd), some (.bl leaf), none, none, none] ∧ H' = H1 ∧ (leaf = false → 1 ≤ d), ?_, ?_⟩
      · walk_at "rd"
        refine r_dec (fun e => ?_) (fun e => ?_)
        · walk_at "rd"
          exact ⟨rfl, fun z => nomatch z⟩
        · walk_at "rd"
          exact ⟨rfl, fun _ => by omega⟩
      rintro σ' H' ⟨leaf, rfl, rfl, hleaf⟩
      walk_at "rd"
      refine ⟨fun σ' H' => ∃ hs', σ' = [some (.ref p), some (.ref ln), some (.ref lh), some (.int (d : Nat)), some (.int kd), some (.bl leaf), none, none, none] ∧ Drawn2 p ln lh ns hs' H' ∧ But2 p lh H H', ?_, ?_⟩
      · walk_at "rd"
        cases leaf with
        | false =>
          walk_at "rd"
          exact ⟨hs, rfl, d1, .of b1⟩
        | true =>
          walk_at "rd"
          refine ⟨Nat.zero_le _, fun l0 nl0 => ?_⟩
          have s2 := same_new (o := .lst []) nl0
          have d2 := d1.same s2
          have b2 : But p H (upd H' l0 (.lst [])) := b1.trans (.of s2)
          refine r_neD (.lst (sqL d2.hol) (dps_str hs)) (.lst (sqL upd_same) .nil) (shaped_LS fun n hn => (dr.ho n hn).sok) (by decide) ?_
          rw [show PyData.list [] = PyData.list (([] : List Str).map .str) from rfl, eqv_LS]
          generalize upd H' l0 (.lst []) = H2 at d2 b2 ⊢
          walk_at "rd"
          refine r_ndec (fun e => ?_) (fun e => ?_)
          · walk_at "rd"
            refine ⟨p, 3, rfl, d2.pile, by decide, by decide, fun r3 H3 r30 r31 hp3 b3 => ?_⟩
            have d3' := d2.but b3 hp3
            walk_at "rd"
            refine r_dec (fun e3 => ?_) (fun _ => ?_)
            · walk_at "rd"
              refine ⟨p, ln, ns, rfl, d3'.pile, d3'.nam, d3'.n1, d3'.l1, d3'.l2, d3'.nd, d3'.ok, fun vt t H4 ht it am hp4 b4 => ?_⟩
              have d4 := d3'.but b4 hp4
              walk_at "rd"
              refine ⟨.inl ⟨rfl, _, sqL d4.hol⟩, ?_⟩
              have ql : SqL K H4 lh (hs.map V.str) := sqL d4.hol
              have lm : (hs.map V.str).length = hs.length := List.length_map ..
              have L3 := dr.l3
              have pos : 1 ≤ hs.length := by
                cases hs with
                | nil => exact absurd rfl e
                | cons _ _ => exact Nat.succ_le_succ (Nat.zero_le _)
              walk_at "rd"
              refine ⟨p, _, rfl, d4.pile, by omega, by omega, fun r HC r0 r1 hpC bC => ?_⟩
              have d5 := d4.but bC hpC
              obtain ⟨v, ev⟩ := at_memV (l := hs.map V.str) r0 r1
              obtain ⟨k, hk, hv, hkl, hlo, hhi⟩ := atI_get ev.1
              rw [List.getElem?_map] at hv
              obtain ⟨X, hX, rfl⟩ := Option.map_eq_some_iff.mp hv
              refine ⟨lh, _, r, k, .str X, rfl, rfl, d5.hol, by omega, by omega, hk, by rw [List.getElem?_map, hX]; rfl, ?_⟩
              rw [erase_map]
              have d6 := d5.pop k
              have s6 : Stay K HC (upd HC lh (.lst ((hs.eraseIdx k).map V.str))) := Stay.at (K := K) (fun b o n e => by rw [upd_ne n]; exact e) d5.hol upd_same
              have b6 : But2 p lh HC (upd HC lh (.lst ((hs.eraseIdx k).map V.str))) := fun b o _ n e => by rw [upd_ne n]; exact e
              obtain ⟨_, _, _, e4, _⟩ := id d4.pile
              obtain ⟨_, _, _, e5, _⟩ := id d5.pile
              have ht6 := (ht.stay (.at bC e4 e5)).stay s6
              generalize upd HC lh (.lst ((hs.eraseIdx k).map V.str)) = H6 at d6 s6 b6 ht6 ⊢
              refine ⟨by show 3 ≤ sizeLine; decide, fun t0 nt0 => ?_⟩
              have s7 := same_new (o := .tup [.str (Str.ofString "hole"), vt, .str X]) nt0
              exact q _ (.hole t X) _ _ (.hole (sqT upd_same) (ht6.stay (.of s7)) it (dr.ho X (List.mem_of_getElem? hX))) ⟨rfl, am⟩ (by cases d <;> simp [Tm.size, bnd]) (by show 1 ≤ d + 1; omega) (d6.same s7)
                (((((But2.of (b2.trans b3)).trans (.of b4)).trans (.of bC)).trans b6).trans (.same s7))
            · walk_at "rd"
              exact ⟨hs, rfl, d3', .of (b2.trans b3)⟩
          · walk_at "rd"
            exact ⟨hs, rfl, d2, .of b2⟩
      rintro σ' H2 ⟨hs2, rfl, d2, b2⟩
      have ql2 : SqL K H2 ln (ns.map V.str) := sqL d2.nam
      have lm : (ns.map V.str).length = ns.length := List.length_map ..
      have L1 := d2.l1
      have L2' := d2.l2
      walk_at "rd"
      cases leaf with
      | true =>
        walk_at "rd"
        refine ⟨p, _, rfl, d2.pile, by omega, by omega, fun r H3 r0 r1 hp3 b3 => ?_⟩
        have d3' := d2.but b3 hp3
        obtain ⟨n, en, okn⟩ := d3'.one r0 (by omega)
        refine r_ixL (sqL d3'.nam) en ?_
        walk_at "rd"
        refine ⟨by show 2 ≤ sizeLine; decide, fun t0 nt0 => ?_⟩
        have s4 := same_new (o := .tup [.str (Str.ofString "name"), .str n]) nt0
        exact q _ (.name n) _ hs2 (.name (sqT upd_same) okn) ⟨rfl, trivial⟩ (by cases d <;> simp [Tm.size, bnd]) (by show 1 ≤ d + 1; omega) (d3'.same s4) ((b2.trans (.of b3)).trans (.same s4))
      | false =>
        obtain ⟨d', rfl⟩ : ∃ d', d = d' + 1 := ⟨d - 1, by have := hleaf rfl; omega⟩
        have ed : (((d' + 1 : Nat) : Int) - 1) = ((d' : Nat) : Int) := by omega
        have eb : bnd (d' + 1) = 1 + 3 * bnd d' := rfl
        walk_at "rd"
        refine r_dec (fun e4 => ?_) (fun _ => ?_)
        · walk_at "rd"
          refine ⟨p, _, rfl, d2.pile, by omega, by omega, fun r H3 r0 r1 hp3 b3 => ?_⟩
          have d3' := d2.but b3 hp3
          obtain ⟨n, en, okn⟩ := d3'.one r0 (by omega)
          refine r_ixL (sqL d3'.nam) en ?_
          walk_at "rd"
          rw [ed]
          refine ⟨p, ln, lh, ns, hs2, d', rfl, by omega, by omega, d3', fun v T4 H4 hs4 hT gT zT dT d4 b4 => ?_⟩
          walk_at "rd"
          refine ⟨by show 3 ≤ sizeLine; decide, fun t0 nt0 => ?_⟩
          have s5 := same_new (o := .tup [.str (Str.ofString "shut"), .str n, v]) nt0
          exact q _ (.shut n T4) _ hs4 (.shut (sqT upd_same) okn (hT.stay (.of s5))) gT (by show 1 + T4.size ≤ _; omega) (by show 1 + T4.dep ≤ _; omega) (d4.same s5) (((b2.trans (.of b3)).trans b4).trans (.same s5))
        · walk_at "rd"
          refine ⟨by show 6 ≤ sizeLine; decide, fun lk nlk => ?_⟩
          have sK := same_new (o := .lst [.int 0, .int 1, .int 2, .int 2, .int 3, .int 3]) nlk
          have hlk := upd_same (H := H2) (a := lk) (o := .lst [.int 0, .int 1, .int 2, .int 2, .int 3, .int 3])
          have dK := d2.same sK
          have nplk : lk ≠ p := (d2.pile.ne nlk).symm
          generalize upd H2 lk (.lst [.int 0, .int 1, .int 2, .int 2, .int 3, .int 3]) = HK at sK hlk dK ⊢
          walk_at "rd"
          refine ⟨p, 6, rfl, dK.pile, by decide, by decide, fun r HL r0 r1 hpL bL => ?_⟩
          have dL := dK.but bL hpL
          obtain ⟨k, ek, hk⟩ : ∃ k : Nat, atI [V.int 0, .int 1, .int 2, .int 2, .int 3, .int 3] r = some (.int (k : Nat)) ∧ k ≤ 3 := by
            have : r = 0 ∨ r = 1 ∨ r = 2 ∨ r = 3 ∨ r = 4 ∨ r = 5 := by omega
            rcases this with e | e | e | e | e | e
            · exact ⟨0, by rw [e]; rfl, by decide⟩
            · exact ⟨1, by rw [e]; rfl, by decide⟩
            · exact ⟨2, by rw [e]; rfl, by decide⟩
            · exact ⟨2, by rw [e]; rfl, by decide⟩
            · exact ⟨3, by rw [e]; rfl, by decide⟩
            · exact ⟨3, by rw [e]; rfl, by decide⟩
          refine r_ixL (sqL (bL _ _ nplk hlk)) ek ?_
          have bKL : But2 p lh H HL := (b2.trans (.same sK)).trans (.of bL)
          walk_at "rd"
          refine ⟨by omega, by omega, fun D nD => ?_⟩
          rw [Int.toNat_natCast]
          have nDp : D ≠ p := (dL.pile.ne nD).symm
          have nDh : D ≠ lh := fun e => by rw [e, dL.hol] at nD; cases nD
          have nDn : D ≠ ln := fun e => by rw [e, dL.nam] at nD; cases nD
          refine lc_range (fun i H => ∃ acc Ts hs', H D = some (.lst acc) ∧ acc.length = i ∧ TmsV K H acc Ts ∧ (Tm.goods Ts = true ∧ Tm.hins ns Ts) ∧ Tm.sizes Ts ≤ i * bnd d' ∧ Tm.deps Ts ≤ d' + 1 ∧ Drawn2 p ln lh ns hs' H ∧ But2 p lh HL H) ⟨[], [], hs2, upd_same, rfl, .nil, ⟨rfl, trivial⟩, Nat.zero_le _, Nat.zero_le _, dL.same (same_new nD), .same (same_new nD)⟩ (fun i H5 hi hP => ?_) (fun H5 hP => ?_)
          · obtain ⟨acc, Ts, hs5, hD, hal, hTs, gTs, zTs, dTs, d5, b5⟩ := hP
            walk_at "rd"
            refine ⟨rfl, ?_⟩
            walk_at "rd"
            rw [ed]
            refine ⟨p, ln, lh, ns, hs5, d', rfl, by omega, by omega, d5, fun v T6 H6 hs6 hT gT zT dT d6 b6 => ?_⟩
            have hD6 := b6 _ _ nDp nDh hD
            have st := (d5.stay (K := K) d6 b6)
            have st2 : Stay K H6 (upd H6 D (.lst (acc ++ [v]))) := Stay.at (K := K) (fun b o n e => by rw [upd_ne n]; exact e) hD6 upd_same
            refine ⟨acc, hD6, small1000 (by omega), acc ++ [v], Ts ++ [T6], hs6, upd_same, by rw [List.length_append]; show acc.length + 1 = _; omega, tms_app (hTs.stay (st.trans st2)) (.cons (hT.stay st2) .nil), ?_, ?_, ?_, d6.other nDp nDn nDh, ?_⟩
            · refine ⟨?_, Tm.hins_app gTs.2 ⟨gT.2, trivial⟩⟩
              rw [Tm.goods_app, gTs.1]
              show (true && (T6.good && true)) = true
              rw [gT.1]; rfl
            · rw [Tm.sizes_app, Nat.succ_mul]
              show Tm.sizes Ts + T6.size ≤ _
              omega
            · rw [deps_app]
              show max (Tm.deps Ts) (max T6.dep 0) ≤ _
              omega
            · intro b o n1 n2 e
              have nb : b ≠ D := ne_of_none e nD
              rw [upd_ne nb]
              exact b6 _ _ n1 n2 (b5 _ _ n1 n2 e)
          · obtain ⟨acc, Ts, hs5, hD, hal, hTs, gTs, zTs, dTs, d5, b5⟩ := hP
            walk_at "rd"
            refine ⟨p, ln, lh, ns, hs5, rfl, d5, fun n H6 okn d6 b6 => ?_⟩
            have hD6 := b6 _ _ nDp hD
            have st := (d5.stay (K := K) d6 (.of b6))
            walk_at "rd"
            refine r_tupF (sqL hD6) fun tz oz ntz _ => ?_
            have s7 := same_new (o := .frz oz (.tup acc)) ntz
            have h7 := upd_same (H := H6) (a := tz) (o := .frz oz (.tup acc))
            generalize upd H6 tz (.frz oz (.tup acc)) = H7 at s7 h7 ⊢
            walk_at "rd"
            refine ⟨by show 3 ≤ sizeLine; decide, fun t0 nt0 => ?_⟩
            have s8 := same_new (o := .tup [.str (Str.ofString "sign"), .str n, .ref tz]) nt0
            have s78 := s7.trans s8
            have z3 : k * bnd d' ≤ 3 * bnd d' := Nat.mul_le_mul_right _ hk
            exact q _ (.sign n Ts) _ hs5 (.sign (sqT upd_same) okn ((Tups.of s8).sq (.inl (.inr ⟨_, h7⟩))) (hTs.stay (st.trans (.of s78)))) gTs (by show 1 + Tm.sizes Ts ≤ _; omega) (by show 1 + Tm.deps Ts ≤ _; omega) (d6.same s78) (((bKL.trans b5).trans (.of b6)).trans (.same s78))
end
end Pf

namespace Pf
open PySem PySem.Spec PyProof.Rows L2
local macro_rules | `(tactic| walk_at "rd") => `(tactic| (repeat' (first
  | with_reducible refine r_seq ?_ | with_reducible refine r_asg ?_ | with_reducible refine r_ret ?_ | with_reducible refine r_retN ?_ | with_reducible refine r_drop ?_ | with_reducible refine r_if ?_
  | with_reducible refine r_op ?_ | (with_reducible show tVar _ _ _ _; refine r_var rfl ?_) | with_reducible refine r_c ?_ | with_reducible refine r_I0 ?_ | (with_reducible refine r_I ?c ?_; (case c => first | (show (0 : Int) < _; first | decide | assumption | omega) | exact cmul_r ⟨by decide, by decide⟩ | exact cmul_l ⟨by decide, by decide⟩ | exact cmul_r (by first | assumption | constructor <;> omega) | (unfold CDiv; constructor <;> decide) | (unfold CPow; refine ⟨?_, ?_, ?_⟩ <;> decide))) | with_reducible refine r_name ?_ | (with_reducible show rIxL _ _ _ _ _; refine r_ixL (sqL (by assumption)) rfl ?_) | (with_reducible show rIxT _ _ _ _ _; refine r_ixT (by assumption) rfl ?_) | (with_reducible show rSetL _ _ _ _ _; refine r_setL (by assumption) rfl ?_) | with_reducible refine r_test ?_ | with_reducible refine r_tB ?_ | with_reducible refine r_bl ?_
  | with_reducible refine r_not ?_ | with_reducible refine r_and ?_ | with_reducible refine r_or ?_ | with_reducible refine r_andV ?_ | with_reducible refine r_orV ?_ | with_reducible refine r_notV ?_ | with_reducible refine r_ifE ?_
  | with_reducible refine r_cons ?_ | with_reducible refine r_nil ?_ | with_reducible refine r_cb ?_ | with_reducible refine r_call ?_ | with_reducible refine r_lst ?_ | with_reducible refine r_tup ?_ | with_reducible refine r_bm ?_ | with_reducible refine r_bm0 ?_
  | with_reducible refine r_un ?_ | with_reducible refine r_U ?_ | with_reducible refine r_eqI ?_ | with_reducible refine r_eqS ?_ | with_reducible refine r_neI ?_ | with_reducible refine r_neS ?_ | with_reducible refine r_sub ?_ | with_reducible refine r_gcons ?_ | with_reducible refine r_gnil ?_
  | with_reducible refine r_chain ?_ | with_reducible refine r_get2 ?_ | with_reducible refine r_iList ?_ | with_reducible refine r_iStr ?_ | with_reducible refine r_iTup ?_ | with_reducible refine r_iRev ?_ | with_reducible refine r_iItems ?_ | with_reducible refine r_rng ?_ | with_reducible refine r_inS ?_ | with_reducible refine r_bI ?_ | with_reducible refine r_abs ?_ | with_reducible refine r_sl ?_ | with_reducible refine r_next ?_ | with_reducible refine r_yes ?_
  | (with_reducible show rLen _ _ _ _; first | refine r_lenK (sqL (by assumption)) ?_ | refine r_lenK (by assumption) ?_ | refine r_lenTK (by assumption) ?_)
  | (with_reducible show tFor _ _ _ _ _ _; unfold tFor) | (with_reducible show tLc _ _ _ _ _ _ _ _; unfold tLc) | (with_reducible show tWhile _ _ _ _ _; unfold tWhile)
  | (with_reducible refine ⟨_, rfl, ?_⟩) | (with_reducible refine ⟨_, _, rfl, rfl, ?_⟩) | (with_reducible refine Or.inr ⟨_, rfl, ?_⟩) | (refine ⟨_, _, rfl, Or.inl (by assumption), ?_⟩; skip) | (refine ⟨_, _, rfl, Or.inr (by assumption), ?_⟩; skip)
  | (with_reducible refine iteNT ?_) | (with_reducible refine iteNF ?_) | (with_reducible refine iteT ?_) | (with_reducible refine iteF ?_)
  | (dsimp only [Bool.not_true, Bool.not_false, List.cons_append, List.nil_append]))))

local macro_rules | `(tactic| walk_at "st") => `(tactic| first | exact Same.refl _ | assumption | (refine Same.trans (by assumption) ?_; walk_at "st"))
local macro_rules | `(tactic| walk_at "ok") => `(tactic| first | assumption | exact up_tm (by assumption) (by walk_at "st") | exact up_sqT (by assumption) (by walk_at "st") | exact up_get (by assumption) (by walk_at "st") | exact up_getL (by assumption) (by walk_at "st") | exact up_getT (by assumption) (by walk_at "st") | exact up_sqL (by assumption) (by walk_at "st") | exact up_tms (by assumption) (by walk_at "st") | exact up_tnD (by assumption) (by walk_at "st") | exact up_tn (by assumption) (by walk_at "st") | exact ⟨_, up_getL (by assumption) (by walk_at "st")⟩ | exact ⟨_, up_sqL (by assumption) (by walk_at "st")⟩)

def sp_any (K : PySem.W.Frag) : Sp := fun vs H Q _ => ∃ (p ln lh : Addr) (ns hs : List Str), vs = [.ref p, .ref ln, .ref lh] ∧ Drawn2 p ln lh ns hs H ∧
  ∀ v T H' hs', TmV K H' v T → (T.good = true ∧ T.hin ns) → T.size ≤ 60 → T.dep ≤ 13 → Drawn2 p ln lh ns hs' H' → But2 p lh H H' → Q v H'
section
variable {P : Program} {w : World} {K : PySem.W.Frag} {mg : Str → Option Value} {base : Heap} {a : Ad}
theorem G__law_term (T : Txt K mg a) : FnOk P w K mg base CX0 8 a.f__law_term a.d__law_term ["_law_pile_here", "_law_names_here", "_law_some", "_law_depth"] (sp_term K 4) := rec_law_term T 4
theorem G__law_any (T : Txt K mg a) : FnOk P w K mg base CX0 9 a.f__law_any a.d__law_any ["_law_pile_here", "_law_names_here", "_law_some"] (sp_any K) := by
  refine T.F__law_any.ok sc__law_any (fun vs H Q E h => ?_) (fun cdv A outer s H vs Q E hr h => ?_)
  · obtain ⟨p, ln, lh, ns, hs, rfl, _⟩ := h
    rfl
  · obtain ⟨p, ln, lh, ns, hs, rfl, d0, q⟩ := h
    refine ⟨_, (pss_cons (ps_set (i := 3) sc__law_any.nd rfl (.inl rfl) (pe_call (G__law_take (K := K) T) (hr.mono (by decide)) (by rfl) T.g__law_take T.F__law_take.kp T.b__law_take .nil pass0 (pa_cons (pv 0) (pa_cons pe_int pa_nil))))
        (pss_cons (ps_if (pt_cmpR op_eq (pv 3) pe_int (nomark _)) (pss_cons (ps_set (i := 4) sc__law_any.nd rfl (.inl rfl) (pe_call (G__law_term (K := K) T) (hr.mono (by decide)) (by rfl) T.g__law_term T.F__law_term.kp T.b__law_term .nil pass0 (pa_cons (pv 0) (pa_cons (pv 1) (pa_cons (pv 2) (pa_cons pe_int pa_nil))))))
        (pss_cons (ps_for PassesOwn.never rfl (pi_range1 (by rfl) T.n_range (pa_cons (pe_op op_add pe_int (pe_call (G__law_take (K := K) T) (hr.mono (by decide)) (by rfl) T.g__law_take T.F__law_take.kp T.b__law_take .nil pass0 (pa_cons (pv 0) (pa_cons pe_int pa_nil)))) pa_nil)) (pg_name (i := 5) sc__law_any.nd rfl (by first | exact Or.inl rfl | exact Or.inr rfl)) (pss_one (ps_if (pt_cmpR op_eq (pe_call (G__law_take (K := K) T) (hr.mono (by decide)) (by rfl) T.g__law_take T.F__law_take.kp T.b__law_take .nil pass0 (pa_cons (pv 0) (pa_cons pe_int pa_nil))) pe_int (nomark _)) (pss_one (ps_set (i := 4) sc__law_any.nd rfl (.inl rfl) (pe_tup (pa_cons pe_str (pa_cons (pe_call (G__law_sign (K := K) T) (hr.mono (by decide)) (by rfl) T.g__law_sign T.F__law_sign.kp T.b__law_sign .nil pass0 (pa_cons (pv 0) (pa_cons (pv 1) pa_nil))) (pa_cons (pe_tup (pa_cons (pv 4) pa_nil)) pa_nil)))))) (pss_one (ps_set (i := 4) sc__law_any.nd rfl (.inl rfl) (pe_tup (pa_cons pe_str (pa_cons (pe_ix (ix_listK K) (pv 1) (pe_call (G__law_take (K := K) T) (hr.mono (by decide)) (by rfl) T.g__law_take T.F__law_take.kp T.b__law_take .nil pass0 (pa_cons (pv 0) (pa_cons (pe_callB (call_len_seqK K) (by rfl) T.n_len PySem.boot_len (pa_cons (pv 1) pa_nil)) pa_nil))) (fun _ _ => rfl)) (pa_cons (pv 4) pa_nil)))))))))
        (pss_one (ps_ret (pv 4))))) pss_nil)
        (pss_cons (ps_if (pt_cmpR op_eq (pv 3) pe_int (nomark _)) (pss_cons (ps_setLc (i := 6) (own := [("_law_k", 5)]) (by rfl) sc__law_any.nd rfl rfl (sw_true rfl rfl rfl (by decide +kernel)) (pi_range1 (by rfl) T.n_range (pa_cons (pe_call (G__law_take (K := K) T) (hr.mono (by decide)) (by rfl) T.g__law_take T.F__law_take.kp T.b__law_take .nil pass0 (pa_cons (pv 0) (pa_cons pe_int pa_nil))) pa_nil)) (blkOk_by (N := N__law_any) (sc := defScope s__law_any) (by decide +kernel)) (fun _ _ _ _ _ => (pg_name (i := 5) sc__law_any.nd rfl (by first | exact Or.inl rfl | exact Or.inr rfl))) (fun _ _ _ _ _ => pts_nil) (fun _ _ _ _ _ => (pe_call (G__law_term (K := K) T) (hr.mono (by decide)) (by rfl) T.g__law_term T.F__law_term.kp T.b__law_term .nil pass0 (pa_cons (pv 0) (pa_cons (pv 1) (pa_cons (pv 2) (pa_cons pe_int pa_nil)))))))
        (pss_one (ps_ret (pe_tup (pa_cons pe_str (pa_cons (pe_call (G__law_sign (K := K) T) (hr.mono (by decide)) (by rfl) T.g__law_sign T.F__law_sign.kp T.b__law_sign .nil pass0 (pa_cons (pv 0) (pa_cons (pv 1) pa_nil))) (pa_cons (pe_callTy (call_tupleFK K) (by rfl) T.n_tuple (by decide +kernel) (pa_cons (pv 6) pa_nil)) pa_nil))))))) pss_nil)
        (pss_one (ps_ret (pe_call (G__law_term (K := K) T) (hr.mono (by decide)) (by rfl) T.g__law_term T.F__law_term.kp T.b__law_term .nil pass0 (pa_cons (pv 0) (pa_cons (pv 1) (pa_cons (pv 2) (pa_cons pe_int pa_nil)))))))))), ?_⟩
    walk_at "rd"
    refine ⟨p, 5, rfl, d0.pile, by decide, by decide, fun kd H1 k0 k1 hp1 b1 => ?_⟩
    have d1 := d0.but b1 hp1
    walk_at "rd"
    refine r_dec (fun e => ?_) (fun _ => ?_)
    · walk_at "rd"
      refine ⟨p, ln, lh, ns, hs, 2, rfl, by decide, by decide, d1, fun v T2 H2 hs2 hT gT zT dT d2 b2 => ?_⟩
      walk_at "rd"
      refine ⟨p, 9, rfl, d2.pile, by decide, by decide, fun k H3 k0 k1 hp3 b3 => ?_⟩
      have d3 := d2.but b3 hp3
      walk_at "rd"
      refine ⟨by omega, by omega, ?_⟩
      have zz : bnd 2 = 13 := rfl
      refine forN_range (fun i σ H4 => ∃ (v : V) (T2 : Tm) (hs2 : List Str) (y5 y6 : Option V), σ = [some (.ref p), some (.ref ln), some (.ref lh), some (.int kd), some v, y5, y6] ∧ TmV K H4 v T2 ∧ (T2.good = true ∧ T2.hin ns) ∧ T2.size ≤ 13 + i ∧ T2.dep ≤ 3 + i ∧ Drawn2 p ln lh ns hs2 H4 ∧ But2 p lh H H4)
        ⟨v, T2, hs2, none, none, rfl, hT.stay (d2.stay d3 (.of b3)), gT, by omega, by omega, d3, ((But2.of b1).trans b2).trans (.of b3)⟩ (fun i σ H4 hi hP => ?_) (fun σ H4 hP => ?_)
      · obtain ⟨v, T2, hs2, y5, y6, rfl, hT, gT, zT, dT, d4, b4⟩ := hP
        have ql : SqL K H4 ln (ns.map V.str) := sqL d4.nam
        have lm : (ns.map V.str).length = ns.length := List.length_map ..
        have L1 := d4.l1
        have L2' := d4.l2
        walk_at "rd"
        refine ⟨p, 3, rfl, d4.pile, by decide, by decide, fun r H5 r0 r1 hp5 b5 => ?_⟩
        have d5 := d4.but b5 hp5
        have s5 := d4.stay (K := K) d5 (.of b5)
        have ql5 : SqL K H5 ln (ns.map V.str) := sqL d5.nam
        walk_at "rd"
        refine r_dec (fun e => ?_) (fun _ => ?_)
        · walk_at "rd"
          refine ⟨p, ln, lh, ns, hs2, rfl, d5, fun n H6 okn d6 b6 => ?_⟩
          have s6 := d5.stay (K := K) d6 (.of b6)
          walk_at "rd"
          refine ⟨by show 1 ≤ sizeLine; decide, fun tz ntz => ?_⟩
          have s7 := same_new (o := .tup [v]) ntz
          have h7 := upd_same (H := H6) (a := tz) (o := .tup [v])
          generalize upd H6 tz (.tup [v]) = H7 at s7 h7 ⊢
          walk_at "rd"
          refine ⟨by show 3 ≤ sizeLine; decide, fun t0 nt0 => ?_⟩
          have s8 := same_new (o := .tup [.str (Str.ofString "sign"), .str n, .ref tz]) nt0
          have s78 := s7.trans s8
          exact ⟨_, .sign n [T2], hs2, some (.int (0 + (i : Nat))), y6, rfl, .sign (sqT upd_same) okn ((Tups.of s8).sq (sqT h7)) (.cons (hT.stay ((s5.trans s6).trans (.of s78))) .nil), ⟨by show (T2.good && true) = true; rw [gT.1]; rfl, gT.2, trivial⟩, by show 1 + (T2.size + 0) ≤ _; omega, by show 1 + max T2.dep 0 ≤ _; omega, d6.same s78, ((b4.trans (.of b5)).trans (.of b6)).trans (.same s78)⟩
        · walk_at "rd"
          refine ⟨p, _, rfl, d5.pile, by omega, by omega, fun r2 H6 r20 r21 hp6 b6 => ?_⟩
          have d6 := d5.but b6 hp6
          have s6 := d5.stay (K := K) d6 (.of b6)
          obtain ⟨n, en, okn⟩ := d6.one r20 (by omega)
          refine r_ixL (sqL d6.nam) en ?_
          walk_at "rd"
          refine ⟨by show 3 ≤ sizeLine; decide, fun t0 nt0 => ?_⟩
          have s8 := same_new (o := .tup [.str (Str.ofString "shut"), .str n, v]) nt0
          exact ⟨_, .shut n T2, hs2, some (.int (0 + (i : Nat))), y6, rfl, .shut (sqT upd_same) okn (hT.stay ((s5.trans s6).trans (.of s8))), gT, by show 1 + T2.size ≤ _; omega, by show 1 + T2.dep ≤ _; omega, d6.same s8, ((b4.trans (.of b5)).trans (.of b6)).trans (.same s8)⟩
      · obtain ⟨v, T2, hs2, y5, y6, rfl, hT, gT, zT, dT, d4, b4⟩ := hP
        walk_at "rd"
        exact q v T2 H4 hs2 hT gT (by omega) (by omega) d4 b4
    · walk_at "rd"
      refine r_dec (fun e => ?_) (fun _ => ?_)
      · walk_at "rd"
        refine ⟨p, 7, rfl, d1.pile, by decide, by decide, fun k HL r0 r1 hpL bL => ?_⟩
        have dL := d1.but bL hpL
        walk_at "rd"
        refine ⟨by omega, by omega, fun D nD => ?_⟩
        have nDp : D ≠ p := (dL.pile.ne nD).symm
        have nDh : D ≠ lh := fun e => by rw [e, dL.hol] at nD; cases nD
        have nDn : D ≠ ln := fun e => by rw [e, dL.nam] at nD; cases nD
        refine lc_range (fun i H => ∃ acc Ts hs', H D = some (.lst acc) ∧ acc.length = i ∧ TmsV K H acc Ts ∧ (Tm.goods Ts = true ∧ Tm.hins ns Ts) ∧ Tm.sizes Ts ≤ i * 4 ∧ Tm.deps Ts ≤ 2 ∧ Drawn2 p ln lh ns hs' H ∧ But2 p lh HL H) ⟨[], [], hs, upd_same, rfl, .nil, ⟨rfl, trivial⟩, Nat.zero_le _, Nat.zero_le _, dL.same (same_new nD), .same (same_new nD)⟩ (fun i H5 hi hP => ?_) (fun H5 hP => ?_)
        · obtain ⟨acc, Ts, hs5, hD, hal, hTs, gTs, zTs, dTs, d5, b5⟩ := hP
          walk_at "rd"
          refine ⟨rfl, ?_⟩
          walk_at "rd"
          refine ⟨p, ln, lh, ns, hs5, 1, rfl, by decide, by decide, d5, fun v T6 H6 hs6 hT gT zT dT d6 b6 => ?_⟩
          have zz : bnd 1 = 4 := rfl
          have hD6 := b6 _ _ nDp nDh hD
          have st := (d5.stay (K := K) d6 b6)
          have st2 : Stay K H6 (upd H6 D (.lst (acc ++ [v]))) := Stay.at (K := K) (fun b o n e => by rw [upd_ne n]; exact e) hD6 upd_same
          refine ⟨acc, hD6, small1000 (by omega), acc ++ [v], Ts ++ [T6], hs6, upd_same, by rw [List.length_append]; show acc.length + 1 = _; omega, tms_app (hTs.stay (st.trans st2)) (.cons (hT.stay st2) .nil), ?_, ?_, ?_, d6.other nDp nDn nDh, ?_⟩
          · refine ⟨?_, Tm.hins_app gTs.2 ⟨gT.2, trivial⟩⟩
            rw [Tm.goods_app, gTs.1]
            show (true && (T6.good && true)) = true
            rw [gT.1]; rfl
          · rw [Tm.sizes_app]
            show Tm.sizes Ts + (T6.size + 0) ≤ _
            omega
          · rw [deps_app]
            show max (Tm.deps Ts) (max T6.dep 0) ≤ _
            omega
          · intro b o n1 n2 e
            have nb : b ≠ D := ne_of_none e nD
            rw [upd_ne nb]
            exact b6 _ _ n1 n2 (b5 _ _ n1 n2 e)
        · obtain ⟨acc, Ts, hs5, hD, hal, hTs, gTs, zTs, dTs, d5, b5⟩ := hP
          walk_at "rd"
          refine ⟨p, ln, lh, ns, hs5, rfl, d5, fun n H6 okn d6 b6 => ?_⟩
          have hD6 := b6 _ _ nDp hD
          have st := (d5.stay (K := K) d6 (.of b6))
          walk_at "rd"
          refine r_tupF (sqL hD6) fun tz oz ntz _ => ?_
          have s7 := same_new (o := .frz oz (.tup acc)) ntz
          have h7 := upd_same (H := H6) (a := tz) (o := .frz oz (.tup acc))
          generalize upd H6 tz (.frz oz (.tup acc)) = H7 at s7 h7 ⊢
          walk_at "rd"
          refine ⟨by show 3 ≤ sizeLine; decide, fun t0 nt0 => ?_⟩
          have s8 := same_new (o := .tup [.str (Str.ofString "sign"), .str n, .ref tz]) nt0
          have s78 := s7.trans s8
          exact q _ (.sign n Ts) _ hs5 (.sign (sqT upd_same) okn ((Tups.of s8).sq (.inl (.inr ⟨_, h7⟩))) (hTs.stay (st.trans (.of s78)))) gTs (by show 1 + Tm.sizes Ts ≤ _; omega) (by show 1 + Tm.deps Ts ≤ _; omega) (d6.same s78) (((((But2.of b1).trans (.of bL)).trans b5).trans (.of b6)).trans (.same s78))
      · walk_at "rd"
        refine ⟨p, ln, lh, ns, hs, 3, rfl, by decide, by decide, d1, fun v T2 H2 hs2 hT gT zT dT d2 b2 => ?_⟩
        have zz : bnd 3 = 40 := rfl
        exact q v T2 H2 hs2 hT gT (by omega) (by omega) d2 ((But2.of b1).trans b2)
end
end Pf

namespace Pf
open PySem PySem.Spec PyProof.Rows L2
local macro_rules | `(tactic| walk_at "rd") => `(tactic| (repeat' (first
  | with_reducible refine r_seq ?_ | with_reducible refine r_asg ?_ | with_reducible refine r_ret ?_ | with_reducible refine r_retN ?_ | with_reducible refine r_drop ?_ | with_reducible refine r_if ?_
  | with_reducible refine r_op ?_ | (with_reducible show tVar _ _ _ _; refine r_var rfl ?_) | with_reducible refine r_c ?_ | with_reducible refine r_I0 ?_ | (with_reducible refine r_I ?c ?_; (case c => first | (show (0 : Int) < _; first | decide | assumption | omega) | exact cmul_r ⟨by decide, by decide⟩ | exact cmul_l ⟨by decide, by decide⟩ | exact cmul_r (by first | assumption | constructor <;> omega) | (unfold CDiv; constructor <;> decide) | (unfold CPow; refine ⟨?_, ?_, ?_⟩ <;> decide))) | with_reducible refine r_name ?_ | (with_reducible show rIxL _ _ _ _ _; refine r_ixL (sqL (by assumption)) rfl ?_) | (with_reducible show rIxT _ _ _ _ _; refine r_ixT (by assumption) rfl ?_) | (with_reducible show rSetL _ _ _ _ _; refine r_setL (by assumption) rfl ?_) | with_reducible refine r_test ?_ | with_reducible refine r_tB ?_ | with_reducible refine r_bl ?_
  | with_reducible refine r_not ?_ | with_reducible refine r_and ?_ | with_reducible refine r_or ?_ | with_reducible refine r_andV ?_ | with_reducible refine r_orV ?_ | with_reducible refine r_notV ?_ | with_reducible refine r_ifE ?_
  | with_reducible refine r_cons ?_ | with_reducible refine r_nil ?_ | with_reducible refine r_cb ?_ | with_reducible refine r_call ?_ | with_reducible refine r_lst ?_ | with_reducible refine r_tup ?_ | with_reducible refine r_bm ?_ | with_reducible refine r_bm0 ?_
  | with_reducible refine r_un ?_ | with_reducible refine r_U ?_ | with_reducible refine r_eqI ?_ | with_reducible refine r_eqS ?_ | with_reducible refine r_neI ?_ | with_reducible refine r_neS ?_ | with_reducible refine r_sub ?_ | with_reducible refine r_gcons ?_ | with_reducible refine r_gnil ?_
  | with_reducible refine r_chain ?_ | with_reducible refine r_get2 ?_ | with_reducible refine r_iList ?_ | with_reducible refine r_iStr ?_ | with_reducible refine r_iTup ?_ | with_reducible refine r_iRev ?_ | with_reducible refine r_iItems ?_ | with_reducible refine r_rng ?_ | with_reducible refine r_inS ?_ | with_reducible refine r_bI ?_ | with_reducible refine r_abs ?_ | with_reducible refine r_sl ?_ | with_reducible refine r_next ?_ | with_reducible refine r_yes ?_
  | (with_reducible show rLen _ _ _ _; first | refine r_lenK (sqL (by assumption)) ?_ | refine r_lenK (by assumption) ?_ | refine r_lenTK (by assumption) ?_)
  | (with_reducible show tFor _ _ _ _ _ _; unfold tFor) | (with_reducible show tLc _ _ _ _ _ _ _ _; unfold tLc) | (with_reducible show tWhile _ _ _ _ _; unfold tWhile)
  | (with_reducible refine ⟨_, rfl, ?_⟩) | (with_reducible refine ⟨_, _, rfl, rfl, ?_⟩) | (with_reducible refine Or.inr ⟨_, rfl, ?_⟩) | (refine ⟨_, _, rfl, Or.inl (by assumption), ?_⟩; skip) | (refine ⟨_, _, rfl, Or.inr (by assumption), ?_⟩; skip)
  | (with_reducible refine iteNT ?_) | (with_reducible refine iteNF ?_) | (with_reducible refine iteT ?_) | (with_reducible refine iteF ?_)
  | (dsimp only [Bool.not_true, Bool.not_false, List.cons_append, List.nil_append]))))

local macro_rules | `(tactic| walk_at "st") => `(tactic| first | exact Same.refl _ | assumption | (refine Same.trans (by assumption) ?_; walk_at "st"))
local macro_rules | `(tactic| walk_at "ok") => `(tactic| first | assumption | exact up_tm (by assumption) (by walk_at "st") | exact up_sqT (by assumption) (by walk_at "st") | exact up_get (by assumption) (by walk_at "st") | exact up_getL (by assumption) (by walk_at "st") | exact up_getT (by assumption) (by walk_at "st") | exact up_sqL (by assumption) (by walk_at "st") | exact up_tms (by assumption) (by walk_at "st") | exact up_tnD (by assumption) (by walk_at "st") | exact up_tn (by assumption) (by walk_at "st") | exact ⟨_, up_getL (by assumption) (by walk_at "st")⟩ | exact ⟨_, up_sqL (by assumption) (by walk_at "st")⟩)

def sp_in (K : PySem.W.Frag) : Sp := fun vs H Q _ => ∃ (x : V) (T : Tm), vs = [x] ∧ TmV K H x T ∧ T.isBad = false ∧ T.size ≤ 1000 ∧ ∀ l xs H', Same H H' → H l = none → H' l = some (.lst xs) → TmsV K H' xs T.kids → Q (.ref l) H'
theorem r_enum {σ : L2.St} {H : Hp} {K : PySem.W.Frag} {ta : TA} {R : It → Hp → Prop} (h : ta σ H fun vs H1 => ∃ a xs, vs = [V.ref a] ∧ SqL K H1 a xs ∧ R (Ite K a) H1) : iEnum K ta σ H R := h
def sp_all (K : PySem.W.Frag) (m : Nat) : Sp := fun vs H Q _ => ∃ (x : V) (U : Tm), vs = [x] ∧ TmV K H x U ∧ U.good = true ∧ U.dep < m ∧ U.size ≤ 1000 ∧ ∀ l ys H', Same H H' → H l = none → H' l = some (.lst ys) → Wts K m H' ys U.plc → Q (.ref l) H'
theorem plcs_app : ∀ (j : Nat) (a b : List Tm), Tm.plcs j (a ++ b) = Tm.plcs j a ++ Tm.plcs (j + a.length) b
  | j, [], b => rfl
  | j, p :: r, b => by
    show ((p.plc.map fun q => (j :: q.1, q.2)) ++ Tm.plcs (j + 1) (r ++ b)) = ((p.plc.map fun q => (j :: q.1, q.2)) ++ Tm.plcs (j + 1) r) ++ Tm.plcs (j + (r.length + 1)) b
    rw [plcs_app (j + 1) r b, List.append_assoc, show j + 1 + r.length = j + (r.length + 1) by omega]
theorem dep_kid : ∀ {l : List Tm} {T : Tm}, T ∈ l → T.dep ≤ Tm.deps l
  | p :: r, T, h => by
    show T.dep ≤ max p.dep (Tm.deps r)
    rcases List.mem_cons.mp h with e | h
    · rw [e]; omega
    · have := dep_kid h; omega
theorem dep_kids (T : Tm) : T.kids = [] ∨ T.dep = 1 + Tm.deps T.kids := by
  cases T with
  | shut n b => exact .inr (by simp [Tm.dep, Tm.kids, Tm.deps])
  | sign n ps => exact .inr (by simp [Tm.dep, Tm.kids])
  | _ => exact .inl rfl
section
variable {P : Program} {w : World} {K : PySem.W.Frag} {mg : Str → Option Value} {base : Heap} {a : Ad}
theorem G__law_in (T : Txt K mg a) : FnOk P w K mg base CX0 1 a.f__law_in a.d__law_in ["_law_term_here"] (sp_in K) := by
  refine T.F__law_in.ok sc__law_in (fun vs H Q E h => ?_) (fun cdv A outer s H vs Q E hr h => ?_)
  · obtain ⟨x, T, rfl, _⟩ := h
    rfl
  · obtain ⟨x, U, rfl, hx, g, hz, q⟩ := h
    refine ⟨_, (pss_cons (ps_if (pt_cmpR op_eq (pe_ix (ix_tupK K) (pv 0) pe_int (fun _ _ => rfl)) pe_str (nomark _)) (pss_one (ps_ret (pe_lst (pa_cons (pe_ix (ix_tupK K) (pv 0) pe_int (fun _ _ => rfl)) pa_nil)))) pss_nil)
        (pss_cons (ps_if (pt_cmpR op_eq (pe_ix (ix_tupK K) (pv 0) pe_int (fun _ _ => rfl)) pe_str (nomark _)) (pss_one (ps_ret (pe_callTy (call_list_ofK K) (by rfl) T.n_list (by decide +kernel) (pa_cons (pe_ix (ix_tupK K) (pv 0) pe_int (fun _ _ => rfl)) pa_nil)))) pss_nil)
        (pss_one (ps_ret (pe_lst pa_nil))))), ?_⟩
    cases hx with
    | name h a =>
      walk_at "rd"
      refine r_no ne_nt ?_
      walk_at "rd"
      refine r_no ne_ns ?_
      walk_at "rd"
      exact ⟨Nat.zero_le _, fun l nl => q l [] _ (same_new nl) nl upd_same .nil⟩
    | hole h d it ho =>
      walk_at "rd"
      refine r_no ne_ht ?_
      walk_at "rd"
      refine r_no ne_hs ?_
      walk_at "rd"
      exact ⟨Nat.zero_le _, fun l nl => q l [] _ (same_new nl) nl upd_same .nil⟩
    | @shut q0 n y b h a s =>
      walk_at "rd"
      refine r_yes' rfl ?_
      walk_at "rd"
      exact ⟨by show 1 ≤ sizeLine; decide, fun l nl => q l [y] _ (same_new nl) nl upd_same (.cons (s.stay (.of (same_new nl))) .nil)⟩
    | @sign q0 z n xs ps h a hz2 s =>
      walk_at "rd"
      refine r_no ne_st ?_
      walk_at "rd"
      refine r_yes' rfl ?_
      walk_at "rd"
      exact fun l nl => q l xs _ (same_new nl) nl upd_same (s.stay (.of (same_new nl)))
    | bad h => exact nomatch g
end
end Pf

namespace Pf
open PySem PySem.Spec PyProof.Rows L2
local macro_rules | `(tactic| walk_at "rd") => `(tactic| (repeat' (first
  | with_reducible refine r_seq ?_ | with_reducible refine r_asg ?_ | with_reducible refine r_ret ?_ | with_reducible refine r_retN ?_ | with_reducible refine r_drop ?_ | with_reducible refine r_if ?_
  | with_reducible refine r_op ?_ | (with_reducible show tVar _ _ _ _; refine r_var rfl ?_) | with_reducible refine r_c ?_ | with_reducible refine r_I0 ?_ | (with_reducible refine r_I ?c ?_; (case c => first | (show (0 : Int) < _; first | decide | assumption | omega) | exact cmul_r ⟨by decide, by decide⟩ | exact cmul_l ⟨by decide, by decide⟩ | exact cmul_r (by first | assumption | constructor <;> omega) | (unfold CDiv; constructor <;> decide) | (unfold CPow; refine ⟨?_, ?_, ?_⟩ <;> decide))) | with_reducible refine r_name ?_ | (with_reducible show rIxL _ _ _ _ _; refine r_ixL (sqL (by assumption)) rfl ?_) | (with_reducible show rIxT _ _ _ _ _; refine r_ixT (by assumption) rfl ?_) | (with_reducible show rSetL _ _ _ _ _; refine r_setL (by assumption) rfl ?_) | with_reducible refine r_test ?_ | with_reducible refine r_tB ?_ | with_reducible refine r_bl ?_
  | with_reducible refine r_not ?_ | with_reducible refine r_and ?_ | with_reducible refine r_or ?_ | with_reducible refine r_andV ?_ | with_reducible refine r_orV ?_ | with_reducible refine r_notV ?_ | with_reducible refine r_ifE ?_
  | with_reducible refine r_cons ?_ | with_reducible refine r_nil ?_ | with_reducible refine r_cb ?_ | with_reducible refine r_call ?_ | with_reducible refine r_lst ?_ | with_reducible refine r_tup ?_ | with_reducible refine r_bm ?_ | with_reducible refine r_bm0 ?_
  | with_reducible refine r_un ?_ | with_reducible refine r_U ?_ | with_reducible refine r_eqI ?_ | with_reducible refine r_eqS ?_ | with_reducible refine r_neI ?_ | with_reducible refine r_neS ?_ | with_reducible refine r_sub ?_ | with_reducible refine r_gcons ?_ | with_reducible refine r_gnil ?_
  | with_reducible refine r_chain ?_ | with_reducible refine r_get2 ?_ | with_reducible refine r_iList ?_ | with_reducible refine r_iStr ?_ | with_reducible refine r_iTup ?_ | with_reducible refine r_iRev ?_ | with_reducible refine r_iItems ?_ | with_reducible refine r_rng ?_ | with_reducible refine r_inS ?_ | with_reducible refine r_bI ?_ | with_reducible refine r_abs ?_ | with_reducible refine r_sl ?_ | with_reducible refine r_next ?_ | with_reducible refine r_yes ?_
  | (with_reducible show rLen _ _ _ _; first | refine r_lenK (sqL (by assumption)) ?_ | refine r_lenK (by assumption) ?_ | refine r_lenTK (by assumption) ?_)
  | (with_reducible show tFor _ _ _ _ _ _; unfold tFor) | (with_reducible show tLc _ _ _ _ _ _ _ _; unfold tLc) | (with_reducible show tWhile _ _ _ _ _; unfold tWhile)
  | (with_reducible refine ⟨_, rfl, ?_⟩) | (with_reducible refine ⟨_, _, rfl, rfl, ?_⟩) | (with_reducible refine Or.inr ⟨_, rfl, ?_⟩) | (refine ⟨_, _, rfl, Or.inl (by assumption), ?_⟩; skip) | (refine ⟨_, _, rfl, Or.inr (by assumption), ?_⟩; skip)
  | (with_reducible refine iteNT ?_) | (with_reducible refine iteNF ?_) | (with_reducible refine iteT ?_) | (with_reducible refine iteF ?_)
  | (dsimp only [Bool.not_true, Bool.not_false, List.cons_append, List.nil_append]))))

local macro_rules | `(tactic| walk_at "st") => `(tactic| first | exact Same.refl _ | assumption | (refine Same.trans (by assumption) ?_; walk_at "st"))
local macro_rules | `(tactic| walk_at "ok") => `(tactic| first | assumption | exact up_tm (by assumption) (by walk_at "st") | exact up_sqT (by assumption) (by walk_at "st") | exact up_get (by assumption) (by walk_at "st") | exact up_getL (by assumption) (by walk_at "st") | exact up_getT (by assumption) (by walk_at "st") | exact up_sqL (by assumption) (by walk_at "st") | exact up_tms (by assumption) (by walk_at "st") | exact up_tnD (by assumption) (by walk_at "st") | exact up_tn (by assumption) (by walk_at "st") | exact ⟨_, up_getL (by assumption) (by walk_at "st")⟩ | exact ⟨_, up_sqL (by assumption) (by walk_at "st")⟩)

/-- NoPlace's own __init__ -/
def sp_init (K : PySem.W.Frag) (C : Addr) : Sp := fun vs H Q _ => ∃ (e : Addr) (x : V), vs = [.ref e, x] ∧ OexC K C ∧ H e = some (exo e C none) ∧ ∀ dx, H dx = none → dx ≠ e → Q .non (upd (upd H dx (exd dx [("place", x)])) e (exo e C (some dx)))
theorem r_vei {K : PySem.W.Frag} {ta : TA} {σ : L2.St} {H : Hp} {Q : VK} (h : ta σ H fun vs H1 => ∃ (a C : Addr) (ws : List V), vs = .ref a :: ws ∧ ws.length ≤ 1000 ∧ OexC K C ∧ H1 a = some (exo a C none) ∧ Q .non H1) : tVeI K ta σ H Q := h
theorem r_ost {K : PySem.W.Frag} {f : Str} {to te : TE} {D : Ends} {σ : L2.St} {H : Hp} (h : te σ H fun y H1 => to σ H1 fun x H2 => ∃ a C : Addr, x = .ref a ∧ OexC K C ∧ PySem.W.findIn K (.ref C) f = some none ∧
  ((H2 a = some (exo a C none) ∧ ∀ dx, H2 dx = none → dx ≠ a → D.nx σ (upd (upd H2 dx (exd dx [(f, y)])) a (exo a C (some dx)))) ∨
    ∃ (dx : Addr) (fs : List (Str × V)), H2 a = some (exo a C (some dx)) ∧ H2 dx = some (exd dx fs) ∧ fs.length ≤ 900 ∧ D.nx σ (upd H2 dx (exd dx ((f, y) :: fs))))) : tOst K f to te D σ H := h
theorem r_mko {C : Addr} {sp : Sp} {dvs : List V} {ta : TA} {σ : L2.St} {H : Hp} {Q : XK} (h : ta σ H fun vs H1 => vs.length ≤ 1000 ∧ ∀ a, H1 a = none → sp (.ref a :: (vs ++ dvs)) (upd H1 a (exo a C none))
  (fun v H2 => v = .non ∧ ∃ (d : Addr) (fs : List (Str × V)), H2 a = some (exo a C (some d)) ∧ H2 d = some (exd d fs) ∧ H1 d = none ∧ Q (.ref C) (some d) (upd (del H2 a) d (.xd fs))) (fun _ _ _ => False)) : tMkO C sp dvs ta σ H Q := h
/-- the part at a place, told by whole numbers -/
def down : Tm → List Int → Option Tm
  | U, [] => some U
  | U, i :: r => if 0 ≤ i ∧ i < U.kids.length then (match U.kids[i.toNat]? with
    | some k => down k r
    | none => none) else none
theorem down_app : ∀ (p q : List Int) (U : Tm), down U (p ++ q) = (down U p).bind fun C => down C q
  | [], q, U => rfl
  | i :: p, q, U => by
    rw [List.cons_append]
    show (if 0 ≤ i ∧ i < U.kids.length then (match U.kids[i.toNat]? with
      | some k => down k (p ++ q)
      | none => none) else none) = ((if 0 ≤ i ∧ i < U.kids.length then (match U.kids[i.toNat]? with
      | some k => down k p
      | none => none) else none : Option Tm)).bind fun C => down C q
    by_cases c : 0 ≤ i ∧ i < U.kids.length
    · rw [if_pos c, if_pos c]
      cases U.kids[i.toNat]? with
      | none => rfl
      | some k => exact down_app p q k
    · rw [if_neg c, if_neg c]
      rfl
/-- the trees along a way -/
def WayV (K : PySem.W.Frag) (H : Hp) (U : Tm) (pl : List Int) (xs : List V) : Prop := ∀ (j : Nat) v, xs[j]? = some v → ∃ C, down U (pl.take j) = some C ∧ TmV K H v C
theorem WayV.stay {K : PySem.W.Frag} {H H2 : Hp} {U : Tm} {pl : List Int} {xs : List V} (h : WayV K H U pl xs) (s : Stay K H H2) : WayV K H2 U pl xs := fun j v e => by
  obtain ⟨C, c, t⟩ := h j v e
  exact ⟨C, c, t.stay s⟩
def sp_down (K : PySem.W.Frag) (N : Addr) : Sp := fun vs H Q E => ∃ (x : V) (U : Tm) (pl : List Int) (q0 : Addr), vs = [x, .ref q0] ∧ TmV K H x U ∧ U.good = true ∧ SqT K H q0 (pl.map V.int) ∧ (pl.length ≤ 1000 ∧ U.size ≤ 1000) ∧
  (∀ W, down U pl = some W → ∀ l xs y H', Same H H' → H l = none → H' l = some (.lst (xs ++ [y])) → xs.length = pl.length → TmV K H' y W → WayV K H' U pl (xs ++ [y]) → Q (.ref l) H') ∧
  (down U pl = none → ∀ d H', Same H H' → H d = none → H' d = some (.xd [("place", .ref q0)]) → E (.ref N) (some d) H')
section
variable {P : Program} {w : World} {K : PySem.W.Frag} {mg : Str → Option Value} {base : Heap} {a : Ad}
theorem G_NoPlace___init__ (T : Txt K mg a) : FnOk P w K mg base CX0 1 a.f_NoPlace___init__ a.d_NoPlace___init__ ["self", "place"] (sp_init K a.f_NoPlace) := by
  refine T.F_NoPlace___init__.ok sc_NoPlace___init__ (fun vs H Q E h => ?_) (fun cdv A outer s H vs Q E hr h => ?_)
  · obtain ⟨e, x, rfl, _⟩ := h
    rfl
  · obtain ⟨e, x, rfl, oe, he, q⟩ := h
    refine ⟨_, (pss_cons (ps_expr (pe_cinit T.cr_ShutError T.ci_ShutError (by rfl) T.g_ShutError (pa_cons (pv 0) (pa_cons pe_str pa_nil))))
        (pss_one (ps_ost (pv 0) (pv 1)))), ?_⟩
    walk_at "rd"
    refine r_vei ?_
    walk_at "rd"
    refine ⟨e, a.f_NoPlace, _, rfl, by show 1 ≤ 1000; decide, oe, he, ?_⟩
    refine r_ost ?_
    walk_at "rd"
    exact ⟨e, a.f_NoPlace, rfl, oe, T.p_NoPlace_place, .inl ⟨he, fun dx ndx ne => q dx ndx ne⟩⟩
theorem G_is_number (T : Txt K mg a) : FnOk P w K mg base CX0 1 a.f_is_number a.d_is_number ["thing"] (fun vs H Q E => ∃ i : Int, vs = [.int i] ∧ Q (.bl true) H) := by
  refine T.F_is_number.ok sc_is_number (fun vs H Q E h => ?_) (fun cdv A outer s H vs Q E hr h => ?_)
  · obtain ⟨i, rfl, _⟩ := h
    rfl
  · obtain ⟨i, rfl, q⟩ := h
    refine ⟨_, (pss_one (ps_ret (pe_and (pe_callB (call_isiK' K) (by rfl) T.n_isinstance (by decide +kernel) (pa_cons (pv 0) (pa_cons (pe_bltn (v := .ty "int") (by rfl) T.n_int (by decide +kernel) rfl) pa_nil))) (pe_one (pe_not (pe_callB (call_isiK' K) (by rfl) T.n_isinstance (by decide +kernel) (pa_cons (pv 0) (pa_cons (pe_bltn (v := .ty "bool") (by rfl) T.n_bool (by decide +kernel) rfl) pa_nil)))))))), ?_⟩
    walk_at "rd"
    refine r_isi (.base (.int i)) (b := true) rfl ?_
    walk_at "rd"
    refine r_isi (.base (.int i)) (b := false) rfl ?_
    walk_at "rd"
    exact q
theorem G_parts_down (T : Txt K mg a) : FnOk P w K mg base (L2.CX P w) 3 a.f_parts_down a.d_parts_down ["term", "place"] (sp_down K a.f_NoPlace) := by
  refine T.F_parts_down.okX sc_parts_down (fun vs H Q E h => ?_) (fun cdv A outer s H vs Q E hr h => ?_)
  · obtain ⟨x, U, pl, q0, rfl, _⟩ := h
    rfl
  · obtain ⟨x, U, pl, q0, rfl, hx, g, hq0, hl, q1, q2⟩ := h
    refine ⟨_, (pss_cons (ps_set (i := 2) sc_parts_down.nd rfl (.inl rfl) (pe_lst (pa_cons (pv 0) pa_nil)))
        (pss_cons (ps_for (passes_of rfl) rfl (pi_tupK K (pv 1)) (pg_name (i := 3) sc_parts_down.nd rfl (by first | exact Or.inl rfl | exact Or.inr rfl)) (pss_cons (ps_set (i := 4) sc_parts_down.nd rfl (.inl rfl) (pe_call (G_within (K := K) T) (hr.mono (by decide)) (by rfl) T.g_within T.F_within.kp T.b_within .nil pass0 (pa_cons (pe_ix (ix_listK K) (pv 2) (pe_un un_neg pe_int) (fun _ _ => rfl)) pa_nil)))
        (pss_cons (ps_if ((pw_or (pt_not (pt_val (pe_call (G_is_number (K := K) T) (hr.mono (by decide)) (by rfl) T.g_is_number T.F_is_number.kp T.b_is_number .nil pass0 (pa_cons (pv 3) pa_nil)))) (pw_or1 (pt_not (pt_chain op_le op_lt pe_int (pv 3) (pe_callB (call_len_seqK K) (by rfl) T.n_len PySem.boot_len (pa_cons (pv 4) pa_nil))))))).pt (pss_one (ps_raise rfl (takes_of rfl rfl rfl rfl) (pmk_oex T.x_NoPlace T.h_NoPlace___init__ T.t_NoPlace___init__ (G_NoPlace___init__ (K := K) T) (hr.mono (by decide)) T.b_NoPlace___init__ .nil pass0 (by rfl) T.g_NoPlace (pa_cons (pv 1) pa_nil)))) pss_nil)
        (pss_one (ps_expr (pe_bmK K PySem.F.plainAttrs_list PySem.F.slot_list_append PySem.F.type_list_append mt_append (pv 2) (pa_cons (pe_ix (ix_tupK K) (pv 4) (pv 3) (fun _ _ => rfl)) pa_nil)))))))
        (PSs.nox (pss_one (ps_ret (pv 2)))))), ?_⟩
    walk_at "rd"
    refine ⟨by show 1 ≤ sizeLine; decide, fun lw nw => ?_⟩
    have s1 := same_new (o := .lst [x]) nw
    have h1 := upd_same (H := H) (a := lw) (o := .lst [x])
    have x1 := hx.stay (.of s1)
    generalize upd H lw (.lst [x]) = H1 at s1 h1 x1 ⊢
    walk_at "rd"
    refine ⟨⟨_, (Tups.of s1).sq hq0⟩, ?_⟩
    refine forN_tup (K := K) (a := q0) (xs := pl.map V.int) (fun i σ H2 => ∃ (xs : List V) (v : V) (C : Tm) (y3 y4 : Option V), σ = [some x, some (.ref q0), some (.ref lw), y3, y4] ∧ Same H H2 ∧ H2 lw = some (.lst (xs ++ [v])) ∧ xs.length = i ∧ TmV K H2 v C ∧ C.good = true ∧ C.size ≤ 1000 ∧ down C (pl.drop i) = down U pl ∧ down U (pl.take i) = some C ∧ WayV K H2 U pl (xs ++ [v]))
      ⟨[], x, U, none, none, rfl, s1, h1, rfl, x1, g, hl.2, rfl, rfl, fun j v e => by
        cases j with
        | zero => cases e; exact ⟨U, rfl, x1⟩
        | succ j => cases e⟩ (fun i σ H2 _ hP => ?_) (fun i xi σ H2 hxi hP => ?_) (fun σ H2 hP => ?_)
    · obtain ⟨_, _, _, _, _, _, s2, _⟩ := hP
      exact (Tups.of s2).sq hq0
    · obtain ⟨xs, v, C, y3, y4, rfl, s2, h2, hlen, hC, gC, zC, hd, hu, hw⟩ := hP
      rw [List.getElem?_map] at hxi
      obtain ⟨n, hn, rfl⟩ := Option.map_eq_some_iff.mp hxi
      have hi := (List.getElem?_eq_some_iff.mp hn).1
      have gK : C.isBad = false ∧ Tm.goods C.kids = true := by
        rw [Tm.good_kids] at gC
        have := Tm.and2 gC
        refine ⟨?_, this.2⟩
        have := this.1
        revert this
        cases C.isBad <;> simp
      have edrop : pl.drop i = n :: pl.drop (i + 1) := by
        rw [List.drop_eq_getElem_cons hi]
        rw [List.getElem?_eq_getElem hi] at hn
        cases hn
        rfl
      walk_at "rd"
      refine r_ixL (sqL h2) (atI_last xs v) ?_
      walk_at "rd"
      refine ⟨v, C, rfl, hC, gK.1, fun qk ks H3 s3 hk hkT => ?_⟩
      have h3 := s3 _ _ h2
      have lk := tms_len hkT
      have boom : ∀ y3' y4' : Option V, down U pl = none → tMkO a.f_NoPlace (sp_init K a.f_NoPlace) [] (tCons (tVar 1) tNil) [some x, some (.ref q0), some (.ref lw), y3', y4'] H3 fun cls d H' => E cls d H' := fun y3' y4' hn => by
        refine r_mko ?_
        walk_at "rd"
        refine ⟨by show 1 ≤ 1000; decide, fun ea nea => ?_⟩
        refine ⟨ea, .ref q0, rfl, T.x_NoPlace, upd_same, fun dx ndx ne => ?_⟩
        rw [upd_ne ne] at ndx
        refine ⟨rfl, dx, [("place", .ref q0)], upd_same, by rw [upd_ne ne]; exact upd_same, ndx, ?_⟩
        refine q2 hn dx _ (fun b o e => ?_) ((s2.trans s3).free ndx) upd_same
        have e3 := s3 _ _ (s2 _ _ e)
        have nb : b ≠ ea := ne_of_none e3 nea
        have nd : b ≠ dx := ne_of_none e3 ndx
        rw [upd_ne nd, del_ne nb, upd_ne nb, upd_ne nd, upd_ne nb]
        exact e3
      rw [edrop] at hd
      walk_at "rd"
      refine r_dec (fun e0 => ?_) (fun e0 => ?_)
      · have hk3 : SqT K H3 qk ks := hk
        walk_at "rd"
        refine r_ndec (fun e1 => ?_) (fun e1 => ?_)
        · exact boom _ _ (hd ▸ by unfold down; rw [if_neg (by omega)])
        · walk_at "rd"
          obtain ⟨j, rfl⟩ := Int.eq_ofNat_of_zero_le e0
          have hj : j < C.kids.length := by omega
          obtain ⟨W, hW⟩ : ∃ W, C.kids[j]? = some W := ⟨_, List.getElem?_eq_getElem hj⟩
          obtain ⟨v2, hv2, hW2⟩ := pd_get hkT.pd hW
          refine ⟨.inl ⟨rfl, _, sqL h3⟩, ?_⟩
          walk_at "rd"
          refine r_ixT hk3 (atI_nat hv2) ?_
          walk_at "rd"
          have hlen2 : xs.length < 1000 := by omega
          refine ⟨lw, _, _, rfl, rfl, h3, small1000 (by rw [List.length_append]; show xs.length + 1 ≤ 1000; omega), ?_⟩
          have st : Stay K H3 (upd H3 lw (.lst ((xs ++ [v]) ++ [v2]))) := Stay.at (K := K) (fun b o n e => by rw [upd_ne n]; exact e) h3 upd_same
          have mem := List.mem_of_getElem? hW
          refine ⟨xs ++ [v], v2, W, _, _, rfl, Pf.Same.mut (s2.trans s3) nw, upd_same, by rw [List.length_append]; show xs.length + 1 = _; omega, hW2.stay st, Tm.goods_mem gK.2 W mem, by have := Tm.sizes_mem mem; have := Tm.size_kids C; omega, ?_, ?_, ?_⟩
          rotate_left
          · have e1 : pl.take (i + 1) = pl.take i ++ [(j : Int)] := by
              rw [List.take_add_one, hn]
              rfl
            rw [e1, down_app, hu]
            show down C [(j : Int)] = some W
            rw [show down C [(j : Int)] = (if 0 ≤ (j : Int) ∧ (j : Int) < C.kids.length then (match C.kids[(j : Int).toNat]? with
              | some k => down k []
              | none => none) else none) from rfl, if_pos ⟨e0, by omega⟩, Int.toNat_natCast, hW]
            rfl
          · intro j2 v3 e3
            rw [List.getElem?_append] at e3
            split at e3
            · exact (hw.stay ((Stay.of s3).trans st)) j2 v3 e3
            · rename_i nl
              rw [List.length_append] at nl e3
              have l1 : [v].length = 1 := rfl
              have l0 : j2 - (xs.length + [v].length) = 0 := by
                rcases Nat.eq_zero_or_pos (j2 - (xs.length + [v].length)) with z | z
                · exact z
                · rw [List.getElem?_eq_none (by show 1 ≤ _; omega)] at e3
                  cases e3
              rw [l0] at e3
              cases e3
              have ej : j2 = i + 1 := by omega
              refine ⟨W, ?_, hW2.stay st⟩
              have e1 : pl.take (i + 1) = pl.take i ++ [(j : Int)] := by
                rw [List.take_add_one, hn]
                rfl
              rw [ej, e1, down_app, hu]
              show down C [(j : Int)] = some W
              rw [show down C [(j : Int)] = (if 0 ≤ (j : Int) ∧ (j : Int) < C.kids.length then (match C.kids[(j : Int).toNat]? with
                | some k => down k []
                | none => none) else none) from rfl, if_pos ⟨e0, by omega⟩, Int.toNat_natCast, hW]
              rfl
          rw [← hd]
          show _ = down C ((j : Int) :: pl.drop (i + 1))
          rw [show down C ((j : Int) :: pl.drop (i + 1)) = (if 0 ≤ (j : Int) ∧ (j : Int) < C.kids.length then (match C.kids[(j : Int).toNat]? with
            | some k => down k (pl.drop (i + 1))
            | none => none) else none) from rfl, if_pos ⟨e0, by omega⟩, Int.toNat_natCast, hW]
      · walk_at "rd"
        exact boom _ _ (hd ▸ by unfold down; rw [if_neg (by omega)])
    · obtain ⟨xs, v, C, y3, y4, rfl, s2, h2, hlen, hC, gC, zC, hd, hu, hw⟩ := hP
      walk_at "rd"
      rw [List.drop_of_length_le (by rw [List.length_map]; exact Nat.le_refl _)] at hd
      exact q1 C hd.symm lw xs v H2 s2 nw h2 (by rw [hlen, List.length_map]) hC hw
def sp_at (K : PySem.W.Frag) (N N2 : Addr) : Sp := fun vs H Q E => ∃ (x : V) (U : Tm) (pl : List Int) (q0 : Addr), vs = [x, .ref q0] ∧ TmV K H x U ∧ SqT K H q0 (pl.map V.int) ∧ (pl.length ≤ 1000 ∧ U.size ≤ 1000) ∧
  (U.good = true → ∀ W, down U pl = some W → ∀ y H', Same H H' → TmV K H' y W → Q y H') ∧ (U.good = true → down U pl = none → ∀ d H', Same H H' → H d = none → H' d = some (.xd [("place", .ref q0)]) → E (.ref N) (some d) H') ∧
  (U.good = false → ∀ H', Same H H' → E (.ref N2) none H')
theorem G_part_at (T : Txt K mg a) : FnOk P w K mg base (L2.CX P w) 8 a.f_part_at a.d_part_at ["term", "place"] (sp_at K a.f_NoPlace a.f_NoTerm) := by
  refine T.F_part_at.okX sc_part_at (fun vs H Q E h => ?_) (fun cdv A outer s H vs Q E hr h => ?_)
  · obtain ⟨x, U, pl, q0, rfl, _⟩ := h
    rfl
  · obtain ⟨x, U, pl, q0, rfl, hx, hq0, hl, q1, q2, q3⟩ := h
    refine ⟨_, (pss_cons (ps_expr (pe_call (G_check_term (K := K) T) (hr.mono (by decide)) (by rfl) T.g_check_term T.F_check_term.kp T.b_check_term .nil (passes_call (takes_of rfl rfl rfl rfl) fun _ _ _ _ h => h) (pa_cons (pv 0) pa_nil)))
        (pss_one (ps_ret (pe_ix (ix_listK K) (pe_call (G_parts_down (K := K) T) (hr.mono (by decide)) (by rfl) T.g_parts_down T.F_parts_down.kp T.b_parts_down .nil (passes_call (takes_of rfl rfl rfl rfl) fun _ _ _ _ h => h) (pa_cons (pv 0) (pa_cons (pv 1) pa_nil))) (pe_un un_neg pe_int) (fun _ _ => rfl))))), ?_⟩
    walk_at "rd"
    refine ⟨x, U, rfl, hx, hl.2, fun g H1 s1 => ?_, fun g H1 s1 => q3 g H1 s1⟩
    walk_at "rd"
    refine ⟨x, U, pl, q0, rfl, hx.stay (.of s1), g, (Tups.of s1).sq hq0, hl, fun W hW l xs y H2 s2 nl hl2 _ hy _ => ?_, fun hn d H2 s2 nd hd => q2 g hn d H2 (s1.trans s2) (s1.free nd) hd⟩
    walk_at "rd"
    refine r_ixL (sqL hl2) (atI_last xs y) ?_
    exact q1 g W hW y H2 (s1.trans s2) hy
end
end Pf

namespace Pf
open PySem PySem.Spec PyProof.Rows L2
def intsP (p : List Nat) : List Int := p.map fun n => ((n : Nat) : Int)
theorem plcs_mem : ∀ {l : List Tm} {j : Nat} {q : List Nat × Tm}, q ∈ Tm.plcs j l ↔ ∃ i k r, l[i]? = some k ∧ r ∈ k.plc ∧ q = ((j + i) :: r.1, r.2)
  | [], j, q => by simp [Tm.plcs]
  | k :: l, j, q => by
    show q ∈ (k.plc.map fun q => (j :: q.1, q.2)) ++ Tm.plcs (j + 1) l ↔ _
    rw [List.mem_append, plcs_mem (l := l) (j := j + 1), List.mem_map]
    constructor
    · rintro (⟨r, hr, e⟩ | ⟨i, k2, r, hk, hr, e⟩)
      · exact ⟨0, k, r, rfl, hr, e.symm⟩
      · exact ⟨i + 1, k2, r, by simpa using hk, hr, by rw [e, show j + 1 + i = j + (i + 1) by omega]⟩
    · rintro ⟨i, k2, r, hk, hr, e⟩
      cases i with
      | zero =>
        simp at hk
        subst hk
        exact .inl ⟨r, hr, e.symm⟩
      | succ i => exact .inr ⟨i, k2, r, by simpa using hk, hr, by rw [e, show j + 1 + i = j + (i + 1) by omega]⟩
theorem plc_mem {U : Tm} {q : List Nat × Tm} : q ∈ U.plc ↔ q = ([], U) ∨ ∃ i k r, U.kids[i]? = some k ∧ r ∈ k.plc ∧ q = (i :: r.1, r.2) := by
  rw [Tm.plc_kids, List.mem_cons, plcs_mem]
  simp only [Nat.zero_add]
theorem down_step {U : Tm} {i : Nat} {r : List Int} : down U ((i : Int) :: r) = (match U.kids[i]? with
    | some k => down k r
    | none => none) := by
  rw [show down U ((i : Int) :: r) = (if 0 ≤ (i : Int) ∧ (i : Int) < U.kids.length then (match U.kids[(i : Int).toNat]? with
            | some k => down k r
            | none => none) else none) from rfl, Int.toNat_natCast]
  by_cases h : i < U.kids.length
  · rw [if_pos ⟨by omega, by omega⟩]
  · rw [if_neg (by omega), List.getElem?_eq_none (by omega)]
theorem down_ints : ∀ {p : List Nat} {U W : Tm}, down U (intsP p) = some W ↔ (p, W) ∈ U.plc
  | [], U, W => by
    rw [plc_mem]
    constructor
    · intro h
      have : U = W := Option.some.inj h
      exact .inl (by rw [this])
    · rintro (e | ⟨i, k, r, _, _, e⟩)
      · have : W = U := (Prod.mk.inj e).2
        rw [this]; rfl
      · cases (Prod.mk.inj e).1
  | i :: p, U, W => by
    rw [plc_mem, show intsP (i :: p) = ((i : Nat) : Int) :: intsP p from rfl, down_step]
    constructor
    · intro h
      cases hk : U.kids[i]? with
      | none => rw [hk] at h; cases h
      | some k =>
        rw [hk] at h
        exact .inr ⟨i, k, (p, W), hk, down_ints.mp h, rfl⟩
    · rintro (e | ⟨j, k, r, hk, hr, e⟩)
      · cases (Prod.mk.inj e).1
      · obtain ⟨e1, e2⟩ := Prod.mk.inj e
        cases e1
        rw [hk]
        exact down_ints.mpr (by rw [e2]; exact hr)
theorem down_nat : ∀ {g : List Int} {U W : Tm}, down U g = some W → ∃ p, g = intsP p
  | [], _, _, _ => ⟨[], rfl⟩
  | i :: g, U, W, h => by
    by_cases c : 0 ≤ i ∧ i < U.kids.length
    · obtain ⟨j, rfl⟩ := Int.eq_ofNat_of_zero_le c.1
      rw [down_step] at h
      cases hk : U.kids[j]? with
      | none => rw [hk] at h; cases h
      | some k =>
        rw [hk] at h
        obtain ⟨p, rfl⟩ := down_nat h
        exact ⟨j :: p, rfl⟩
    · rw [show down U (i :: g) = (if 0 ≤ i ∧ i < U.kids.length then (match U.kids[i.toNat]? with
            | some k => down k g
            | none => none) else none) from rfl, if_neg c] at h
      cases h
end Pf

namespace Pf
open PySem PySem.Spec PyProof.Rows L2
namespace Tm
/-- other parts in the places of its own -/
def withK : Tm → List Tm → Tm
  | .shut n _, [k] => .shut n k
  | .sign n _, ks => .sign n ks
  | T, _ => T
def put : Tm → List Nat → Tm → Tm
  | _, [], W => W
  | U, i :: r, W => match U.kids[i]? with
    | some k => U.withK (U.kids.set i (put k r W))
    | none => U
theorem kids_with {U : Tm} {ks : List Tm} (e : ks.length = U.kids.length) : (U.withK ks).kids = ks := by
  cases U with
  | name n => exact (List.eq_nil_of_length_eq_zero e).symm
  | hole t X => exact (List.eq_nil_of_length_eq_zero e).symm
  | bad => exact (List.eq_nil_of_length_eq_zero e).symm
  | sign n ps => rfl
  | shut n b =>
    match ks, e with
    | [k], _ => rfl
theorem with_kids (U : Tm) : U.withK U.kids = U := by
  cases U <;> rfl
theorem with_with {U : Tm} {ks ls : List Tm} (e : ks.length = U.kids.length) (e2 : ls.length = U.kids.length) : (U.withK ks).withK ls = U.withK ls := by
  cases U with
  | name n => rfl
  | hole t X => rfl
  | bad => rfl
  | sign n ps => rfl
  | shut n b =>
    match ks, e, ls, e2 with
    | [k], _, [l], _ => rfl
theorem bad_with {U : Tm} (ks : List Tm) : (U.withK ks).isBad = U.isBad := by
  cases U with
  | shut n b =>
    match ks with
    | [] => rfl
    | [k] => rfl
    | _ :: _ :: _ => rfl
  | _ => rfl
theorem put_at {U k : Tm} {i : Nat} {r : List Nat} {W : Tm} (h : U.kids[i]? = some k) : U.put (i :: r) W = U.withK (U.kids.set i (k.put r W)) := by
  rw [put, h]
theorem kids_put {U k : Tm} {i : Nat} {r : List Nat} {W : Tm} (h : U.kids[i]? = some k) : (U.put (i :: r) W).kids = U.kids.set i (k.put r W) := by
  rw [put_at h, kids_with (List.length_set ..)]
/-- what was put in stands there -/
theorem down_put : ∀ {p : List Nat} {U X : Tm} (W : Tm), down U (intsP p) = some X → down (U.put p W) (intsP p) = some W
  | [], U, X, W, _ => rfl
  | i :: p, U, X, W, h => by
    rw [show intsP (i :: p) = ((i : Nat) : Int) :: intsP p from rfl, down_step] at h ⊢
    cases hk : U.kids[i]? with
    | none => rw [hk] at h; cases h
    | some k =>
      rw [hk] at h
      have lt := (List.getElem?_eq_some_iff.mp hk).1
      rw [kids_put hk, List.getElem?_set_self lt]
      exact down_put W h
/-- putting the old part back -/
theorem put_back : ∀ {p : List Nat} {U X : Tm} (W : Tm), down U (intsP p) = some X → (U.put p W).put p X = U
  | [], U, X, W, h => by
    have : U = X := Option.some.inj h
    exact this.symm
  | i :: p, U, X, W, h => by
    rw [show intsP (i :: p) = ((i : Nat) : Int) :: intsP p from rfl, down_step] at h
    cases hk : U.kids[i]? with
    | none => rw [hk] at h; cases h
    | some k =>
      rw [hk] at h
      have lt := (List.getElem?_eq_some_iff.mp hk).1
      have h2 : (U.put (i :: p) W).kids[i]? = some (k.put p W) := by rw [kids_put hk, List.getElem?_set_self lt]
      rw [put_at h2, kids_put hk, put_at hk, with_with (List.length_set ..) (by rw [List.length_set, List.length_set]), List.set_set, put_back W h]
      rw [show U.kids.set i k = U.kids from ?_, with_kids]
      apply List.ext_getElem?
      intro j
      by_cases e : i = j
      · rw [← e, List.getElem?_set_self lt, hk]
      · rw [List.getElem?_set_ne e]
theorem goods_set : ∀ {l : List Tm} {i : Nat} {W : Tm}, goods l = true → W.good = true → goods (l.set i W) = true
  | [], i, W, h, _ => h
  | p :: r, 0, W, h, w => by
    show (good W && goods r) = true
    rw [w, (and2 h).2]; rfl
  | p :: r, i + 1, W, h, w => by
    show (good p && goods (r.set i W)) = true
    rw [(and2 h).1, goods_set (and2 h).2 w]; rfl
theorem good_with {U : Tm} {ks : List Tm} (g : U.good = true) (e : ks.length = U.kids.length) (h : goods ks = true) : (U.withK ks).good = true := by
  rw [good_kids] at g ⊢
  rw [kids_with e, h, bad_with, (and2 g).1]; rfl
theorem good_put : ∀ {p : List Nat} {U W : Tm}, U.good = true → W.good = true → (U.put p W).good = true
  | [], U, W, _, w => w
  | i :: p, U, W, g, w => by
    cases hk : U.kids[i]? with
    | none => rw [put, hk]; exact g
    | some k =>
      rw [put_at hk]
      have gk : goods U.kids = true := by rw [good_kids] at g; exact (and2 g).2
      exact good_with g (List.length_set ..) (goods_set gk (good_put (goods_mem gk k (List.mem_of_getElem? hk)) w))
theorem sizes_set : ∀ {l : List Tm} {i : Nat} {k : Tm} (W : Tm), l[i]? = some k → sizes (l.set i W) + k.size = sizes l + W.size
  | p :: r, 0, k, W, h => by
    cases h
    show size W + sizes r + size p = size p + sizes r + size W
    omega
  | p :: r, i + 1, k, W, h => by
    have := sizes_set (l := r) W (by simpa using h)
    show size p + sizes (r.set i W) + k.size = size p + sizes r + W.size
    omega
theorem size_put : ∀ {p : List Nat} {U X : Tm} (W : Tm), down U (intsP p) = some X → (U.put p W).size + X.size = U.size + W.size
  | [], U, X, W, h => by
    have : U = X := Option.some.inj h
    rw [this]
    show W.size + X.size = X.size + W.size
    omega
  | i :: p, U, X, W, h => by
    rw [show intsP (i :: p) = ((i : Nat) : Int) :: intsP p from rfl, down_step] at h
    cases hk : U.kids[i]? with
    | none => rw [hk] at h; cases h
    | some k =>
      rw [hk] at h
      have h1 := size_put W h
      have h2 := sizes_set (k.put p W) hk
      rw [size_kids, kids_put hk, size_kids U]
      omega
theorem deps_mem : ∀ {l : List Tm} {T : Tm}, T ∈ l → T.dep ≤ deps l
  | p :: r, T, h => by
    show T.dep ≤ max p.dep (deps r)
    rcases List.mem_cons.mp h with e | h
    · rw [e]; omega
    · have := deps_mem h; omega
theorem deps_le : ∀ {l : List Tm} {n : Nat}, (∀ T ∈ l, T.dep ≤ n) → deps l ≤ n
  | [], n, _ => Nat.zero_le _
  | p :: r, n, h => Nat.max_le.mpr ⟨h p List.mem_cons_self, deps_le fun T hT => h T (List.mem_cons_of_mem _ hT)⟩
theorem dep_kids (U : Tm) : U.dep = 1 + deps U.kids := by
  cases U with
  | shut n b => simp [dep, kids, deps]
  | _ => simp [dep, kids, deps]
theorem dep_put : ∀ {p : List Nat} {U W : Tm}, (U.put p W).dep ≤ U.dep + W.dep
  | [], U, W => by show W.dep ≤ _; omega
  | i :: p, U, W => by
    cases hk : U.kids[i]? with
    | none => rw [put, hk]; show U.dep ≤ _; omega
    | some k =>
      rw [dep_kids (U.put (i :: p) W), kids_put hk, dep_kids U]
      have : deps (U.kids.set i (k.put p W)) ≤ deps U.kids + W.dep := by
        refine deps_le fun T hT => ?_
        rcases List.mem_or_eq_of_mem_set hT with h | h
        · have := deps_mem h; omega
        · have h1 := dep_put (p := p) (U := k) (W := W)
          have h2 := deps_mem (List.mem_of_getElem? hk)
          rw [h]; omega
      omega
end Tm
/-- no place ends below nought -/
theorem down_neg (l : List Int) (U : Tm) {n : Int} (h : n < 0) : down U (l ++ [n]) = none := by
  rw [down_app]
  cases down U l with
  | none => rfl
  | some C =>
    show down C [n] = none
    rw [show down C [n] = (if 0 ≤ n ∧ n < C.kids.length then (match C.kids[n.toNat]? with
              | some k => down k []
              | none => none) else none) from rfl, if_neg (by omega)]
theorem down_len {p : List Nat} {U W : Tm} (h : down U (intsP p) = some W) : p.length < U.dep := by
  induction p generalizing U with
  | nil =>
    have := Tm.dep_kids U
    show 0 < U.dep
    omega
  | cons i p ih =>
    rw [show intsP (i :: p) = ((i : Nat) : Int) :: intsP p from rfl, down_step] at h
    cases hk : U.kids[i]? with
    | none => rw [hk] at h; cases h
    | some k =>
      rw [hk] at h
      have h1 := ih h
      have h2 := Tm.deps_mem (List.mem_of_getElem? hk)
      have h3 := Tm.dep_kids U
      show p.length + 1 < U.dep
      omega
end Pf

namespace Pf
open PySem PySem.Spec PyProof.Rows L2
local macro_rules | `(tactic| walk_at "rd") => `(tactic| (repeat' (first
  | with_reducible refine r_seq ?_ | with_reducible refine r_asg ?_ | with_reducible refine r_ret ?_ | with_reducible refine r_retN ?_ | with_reducible refine r_drop ?_ | with_reducible refine r_if ?_
  | with_reducible refine r_op ?_ | (with_reducible show tVar _ _ _ _; refine r_var rfl ?_) | with_reducible refine r_c ?_ | with_reducible refine r_I0 ?_ | (with_reducible refine r_I ?c ?_; (case c => first | (show (0 : Int) < _; first | decide | assumption | omega) | exact cmul_r ⟨by decide, by decide⟩ | exact cmul_l ⟨by decide, by decide⟩ | exact cmul_r (by first | assumption | constructor <;> omega) | (unfold CDiv; constructor <;> decide) | (unfold CPow; refine ⟨?_, ?_, ?_⟩ <;> decide))) | with_reducible refine r_name ?_ | (with_reducible show rIxL _ _ _ _ _; refine r_ixL (sqL (by assumption)) rfl ?_) | (with_reducible show rIxT _ _ _ _ _; refine r_ixT (by assumption) rfl ?_) | (with_reducible show rSetL _ _ _ _ _; refine r_setL (by assumption) rfl ?_) | with_reducible refine r_test ?_ | with_reducible refine r_tB ?_ | with_reducible refine r_bl ?_
  | with_reducible refine r_not ?_ | with_reducible refine r_and ?_ | with_reducible refine r_or ?_ | with_reducible refine r_andV ?_ | with_reducible refine r_orV ?_ | with_reducible refine r_notV ?_ | with_reducible refine r_ifE ?_
  | with_reducible refine r_cons ?_ | with_reducible refine r_nil ?_ | with_reducible refine r_cb ?_ | with_reducible refine r_call ?_ | with_reducible refine r_lst ?_ | with_reducible refine r_tup ?_ | with_reducible refine r_bm ?_ | with_reducible refine r_bm0 ?_
  | with_reducible refine r_un ?_ | with_reducible refine r_U ?_ | with_reducible refine r_eqI ?_ | with_reducible refine r_eqS ?_ | with_reducible refine r_neI ?_ | with_reducible refine r_neS ?_ | with_reducible refine r_sub ?_ | with_reducible refine r_gcons ?_ | with_reducible refine r_gnil ?_
  | with_reducible refine r_chain ?_ | with_reducible refine r_get2 ?_ | with_reducible refine r_iList ?_ | with_reducible refine r_iStr ?_ | with_reducible refine r_iTup ?_ | with_reducible refine r_iRev ?_ | with_reducible refine r_iItems ?_ | with_reducible refine r_rng ?_ | with_reducible refine r_inS ?_ | with_reducible refine r_bI ?_ | with_reducible refine r_abs ?_ | with_reducible refine r_sl ?_ | with_reducible refine r_next ?_ | with_reducible refine r_yes ?_
  | (with_reducible show rLen _ _ _ _; first | refine r_lenK (sqL (by assumption)) ?_ | refine r_lenK (by assumption) ?_ | refine r_lenTK (by assumption) ?_)
  | (with_reducible show tFor _ _ _ _ _ _; unfold tFor) | (with_reducible show tLc _ _ _ _ _ _ _ _; unfold tLc) | (with_reducible show tWhile _ _ _ _ _; unfold tWhile)
  | (with_reducible refine ⟨_, rfl, ?_⟩) | (with_reducible refine ⟨_, _, rfl, rfl, ?_⟩) | (with_reducible refine Or.inr ⟨_, rfl, ?_⟩) | (refine ⟨_, _, rfl, Or.inl (by assumption), ?_⟩; skip) | (refine ⟨_, _, rfl, Or.inr (by assumption), ?_⟩; skip)
  | (with_reducible refine iteNT ?_) | (with_reducible refine iteNF ?_) | (with_reducible refine iteT ?_) | (with_reducible refine iteF ?_)
  | (dsimp only [Bool.not_true, Bool.not_false, List.cons_append, List.nil_append]))))

local macro_rules | `(tactic| walk_at "st") => `(tactic| first | exact Same.refl _ | assumption | (refine Same.trans (by assumption) ?_; walk_at "st"))
local macro_rules | `(tactic| walk_at "ok") => `(tactic| first | assumption | exact up_tm (by assumption) (by walk_at "st") | exact up_sqT (by assumption) (by walk_at "st") | exact up_get (by assumption) (by walk_at "st") | exact up_getL (by assumption) (by walk_at "st") | exact up_getT (by assumption) (by walk_at "st") | exact up_sqL (by assumption) (by walk_at "st") | exact up_tms (by assumption) (by walk_at "st") | exact up_tnD (by assumption) (by walk_at "st") | exact up_tn (by assumption) (by walk_at "st") | exact ⟨_, up_getL (by assumption) (by walk_at "st")⟩ | exact ⟨_, up_sqL (by assumption) (by walk_at "st")⟩)

theorem tms_set {K : PySem.W.Frag} {H : Hp} {v : V} {k : Tm} (q : TmV K H v k) : ∀ {xs : List V} {ks : List Tm} {j : Nat}, TmsV K H xs ks → j < ks.length → TmsV K H ((xs.take j ++ [v]) ++ xs.drop (j + 1)) (ks.set j k)
  | _, _, 0, .cons h t, _ => .cons q t
  | _, _, j + 1, .cons h t, l => .cons h (tms_set q t (Nat.lt_of_succ_lt_succ l))
theorem down_good : ∀ {q : List Int} {U C : Tm}, down U q = some C → U.good = true → C.good = true ∧ C.size ≤ U.size
  | [], U, C, h, g => by
    have : U = C := Option.some.inj h
    rw [← this]
    exact ⟨g, Nat.le_refl _⟩
  | i :: q, U, C, h, g => by
    by_cases c : 0 ≤ i ∧ i < U.kids.length
    · rw [show down U (i :: q) = (if 0 ≤ i ∧ i < U.kids.length then (match U.kids[i.toNat]? with
            | some k => down k q
            | none => none) else none) from rfl, if_pos c] at h
      cases hk : U.kids[i.toNat]? with
      | none => rw [hk] at h; cases h
      | some k =>
        rw [hk] at h
        have m := List.mem_of_getElem? hk
        have gk : Tm.goods U.kids = true := by rw [Tm.good_kids] at g; exact (Tm.and2 g).2
        obtain ⟨h1, h2⟩ := down_good h (Tm.goods_mem gk k m)
        have := Tm.sizes_mem m
        have := Tm.size_kids U
        exact ⟨h1, by omega⟩
    · rw [show down U (i :: q) = (if 0 ≤ i ∧ i < U.kids.length then (match U.kids[i.toNat]? with
            | some k => down k q
            | none => none) else none) from rfl, if_neg c] at h
      cases h
theorem notBad {C : Tm} (g : C.good = true) : C.isBad = false := by
  rw [Tm.good_kids] at g
  have := (Tm.and2 g).1
  revert this
  cases C.isBad <;> simp
theorem int_p {p : List Nat} {j : Nat} {n : Nat} (h : p[j]? = some n) : (intsP p)[j]? = some (n : Int) := by
  unfold intsP
  rw [List.getElem?_map, h]; rfl
theorem r_tupE {K : PySem.W.Frag} {H : Hp} {t : Addr} {ys : List V} {Q : VK} (h : SqT K H t ys ∨ H t = some (.lst ys)) (q : ∀ z H2, Same H H2 → SqT K H2 z ys → Q (.ref z) H2) : rTupO K [.ref t] H Q := by
  rcases h with h | h
  · exact r_tupO h (q t H (Same.refl _) h)
  · exact ⟨t, ys, rfl, .inl ⟨sqL h, fun z nz => q z _ (same_new nz) (sqT upd_same)⟩⟩
theorem either {K : PySem.W.Frag} {H H2 : Hp} {t : Addr} {ys : List V} (h : SqT K H t ys ∨ H t = some (.lst ys)) (s : Same H H2) : SqT K H2 t ys ∨ H2 t = some (.lst ys) := h.imp (Tups.of s).sq (s _ _)
def sp_withp (K : PySem.W.Frag) : Sp := fun vs H Q _ => ∃ (x : V) (C : Tm) (t : Addr) (ys : List V) (ks : List Tm), vs = [x, .ref t] ∧ TmV K H x C ∧ C.isBad = false ∧ (SqT K H t ys ∨ H t = some (.lst ys)) ∧ TmsV K H ys ks ∧ ks.length = C.kids.length ∧ ys.length ≤ 1000 ∧
  ∀ y H', Same H H' → TmV K H' y (C.withK ks) → Q y H'
section
variable {P : Program} {w : World} {K : PySem.W.Frag} {mg : Str → Option Value} {base : Heap} {a : Ad}
theorem G_with_parts (T : Txt K mg a) : FnOk P w K mg base CX0 1 a.f_with_parts a.d_with_parts ["part", "told"] (sp_withp K) := by
  refine T.F_with_parts.ok sc_with_parts (fun vs H Q E h => ?_) (fun cdv A outer s H vs Q E hr h => ?_)
  · obtain ⟨x, C, t, ys, ks, rfl, _⟩ := h
    rfl
  · obtain ⟨x, C, t, ys, ks, rfl, hx, g, ht, hs, hk, hl, q⟩ := h
    refine ⟨_, (pss_cons (ps_if (pt_cmpR op_eq (pe_ix (ix_tupK K) (pv 0) pe_int (fun _ _ => rfl)) pe_str (nomark _)) (pss_one (ps_ret (pe_tup (pa_cons pe_str (pa_cons (pe_ix (ix_tupK K) (pv 0) pe_int (fun _ _ => rfl)) (pa_cons (pe_callTy (call_tupleOfK K) (by rfl) T.n_tuple (by decide +kernel) (pa_cons (pv 1) pa_nil)) pa_nil)))))) pss_nil)
        (pss_one (ps_ret (pe_ifExp (pt_cmpR op_eq (pe_ix (ix_tupK K) (pv 0) pe_int (fun _ _ => rfl)) pe_str (nomark _)) (pe_op (op_catAK K) (pe_slice (sl_tupWK K) (pv 0) po_none (po_some (pe_un un_neg pe_int))) (pe_callTy (call_tupleOfK K) (by rfl) T.n_tuple (by decide +kernel) (pa_cons (pv 1) pa_nil))) (pv 0))))), ?_⟩
    cases hx with
    | name h a =>
      walk_at "rd"
      refine r_no ne_ns ?_
      walk_at "rd"
      refine r_no ne_nt ?_
      walk_at "rd"
      exact q _ H (Same.refl _) (.name h a)
    | hole h d it ho =>
      walk_at "rd"
      refine r_no ne_hs ?_
      walk_at "rd"
      refine r_no ne_ht ?_
      walk_at "rd"
      exact q _ H (Same.refl _) (.hole h d it ho)
    | @shut q0 n y b h a s =>
      match ks, hk, hs with
      | [k], _, .cons hk2 .nil =>
      walk_at "rd"
      refine r_no ne_ts ?_
      walk_at "rd"
      refine r_yes' rfl ?_
      walk_at "rd"
      refine r_nopart ?_
      refine r_part ?_
      walk_at "rd"
      refine r_cutW h fun tq HW sW hq => ?_
      walk_at "rd"
      refine r_tupE (either ht sW) fun z HZ sZ hz2 => ?_
      refine r_catA (show SqT K HZ tq [.str "shut", .str n] from (Tups.of sZ).sq hq) hz2 (by show 2 + 1 ≤ sizeLine; decide) fun q2 H2 s2 h2 => ?_
      have sA := (sW.trans sZ).trans s2
      exact q _ H2 sA (.shut h2 a (hk2.stay (.of sA)))
    | @sign q0 z n xs ps h a hz s =>
      walk_at "rd"
      refine r_yes' rfl ?_
      walk_at "rd"
      refine r_tupE ht fun z2 HZ sZ hz2 => ?_
      have hq := (Tups.of sZ).sq h
      walk_at "rd"
      refine ⟨by show 3 ≤ sizeLine; decide, fun tq nq => ?_⟩
      have s1 := same_new (o := .tup [.str "sign", .str n, .ref z2]) nq
      exact q _ _ (sZ.trans s1) (.sign (sqT upd_same) a ((Tups.of s1).sq hz2) (hs.stay (.of (sZ.trans s1))))
    | bad h => exact nomatch g
/-- the part at a place put in -/
def sp_put (K : PySem.W.Frag) (N N2 : Addr) (chk : Bool) : Sp := fun vs H Q E => ∃ (x y : V) (U W : Tm) (pl : List Int) (q0 : Addr), vs = [x, .ref q0, y] ∧ TmV K H x U ∧ TmV K H y W ∧ SqT K H q0 (pl.map V.int) ∧ (pl.length ≤ 1000 ∧ U.size ≤ 1000 ∧ W.size ≤ 1000) ∧ (chk = false → U.good = true ∧ W.good = true) ∧
  (U.good = true → W.good = true → ∀ p X, pl = intsP p → down U pl = some X → ∀ v H', Same H H' → TmV K H' v (U.put p W) → Q v H') ∧
  (U.good = true → W.good = true → down U pl = none → ∀ d H', Same H H' → H d = none → H' d = some (.xd [("place", .ref q0)]) → E (.ref N) (some d) H') ∧
  ((U.good && W.good) = false → ∀ H', Same H H' → E (.ref N2) none H')
theorem G_put_down (T : Txt K mg a) : FnOk P w K mg base (L2.CX P w) 5 a.f_put_down a.d_put_down ["term", "place", "part"] (sp_put K a.f_NoPlace a.f_NoTerm false) := by
  refine T.F_put_down.okX sc_put_down (fun vs H Q E h => ?_) (fun cdv A outer s H vs Q E hr h => ?_)
  · obtain ⟨x, y, U, W, pl, q0, rfl, _⟩ := h
    rfl
  · obtain ⟨x, y, U, W, pl, q0, rfl, hx, hy, hq0, hl, ck, q1, q2, q3⟩ := h
    refine ⟨_, (pss_cons (ps_set (i := 3) sc_put_down.nd rfl (.inl rfl) (pe_call (G_parts_down (K := K) T) (hr.mono (by decide)) (by rfl) T.g_parts_down T.F_parts_down.kp T.b_parts_down .nil (passes_call (takes_of rfl rfl rfl rfl) fun _ _ _ _ h => h) (pa_cons (pv 0) (pa_cons (pv 1) pa_nil))))
        (pss_cons (ps_set (i := 4) sc_put_down.nd rfl (.inl rfl) (pv 2))
        (pss_cons (ps_for (passes_of rfl) rfl (pi_reversedK K (by rfl) T.n_reversed (pa_cons (pe_listZip K (by rfl) (by rfl) T.n_list (by rfl) T.n_zip (pa_cons (pv 1) (pa_cons (pv 3) pa_nil))) pa_nil)) (pg_tupK K (n := 2) rfl (pgs_cons (pg_name (i := 5) sc_put_down.nd rfl (by first | exact Or.inl rfl | exact Or.inr rfl)) (pgs_cons (pg_name (i := 6) sc_put_down.nd rfl (by first | exact Or.inl rfl | exact Or.inr rfl)) pgs_nil))) (pss_cons (ps_set (i := 7) sc_put_down.nd rfl (.inl rfl) (pe_call (G_within (K := K) T) (hr.mono (by decide)) (by rfl) T.g_within T.F_within.kp T.b_within .nil pass0 (pa_cons (pv 6) pa_nil)))
        (pss_one (ps_set (i := 4) sc_put_down.nd rfl (.inl rfl) (pe_call (G_with_parts (K := K) T) (hr.mono (by decide)) (by rfl) T.g_with_parts T.F_with_parts.kp T.b_with_parts .nil pass0 (pa_cons (pv 6) (pa_cons (pe_op (op_catAK K) (pe_op (op_catAK K) (pe_slice (sl_tupWK K) (pv 7) po_none (po_some (pv 5))) (pe_tup (pa_cons (pv 4) pa_nil))) (pe_slice (sl_tupWK K) (pv 7) (po_some (pe_op op_add (pv 5) pe_int)) po_none)) pa_nil)))))))
        (pss_one (ps_ret (pv 4)))))), ?_⟩
    obtain ⟨gU, gW⟩ := ck rfl
    walk_at "rd"
    refine ⟨x, U, pl, q0, rfl, hx, gU, hq0, ⟨hl.1, hl.2.1⟩, fun X hX lw xs v H1 s1 nlw hlw lxs hv hway => ?_, fun hn d H1 s1 nd hd => q2 gU gW hn d H1 s1 nd hd⟩
    obtain ⟨p, rfl⟩ := down_nat hX
    walk_at "rd"
    refine r_lzip ?_
    walk_at "rd"
    refine ⟨q0, lw, (intsP p).map V.int, xs ++ [v], rfl, (Tups.of s1).sq hq0, sqL hlw, fun H2 lp as s2' nlp nas nin hlp hpd => ?_⟩
    have s2 : Same H1 H2 := s2'
    walk_at "rd"
    refine ⟨lp, as.map V.ref, rfl, sqL hlp, ?_⟩
    have lz : as.length = p.length := by
      have e1 := pd_len hpd
      have e2 : (intsP p).length = p.length := List.length_map ..
      rw [List.length_zip, List.length_map, List.length_append, lxs, e2] at e1
      show as.length = p.length
      have e3 : [v].length = 1 := rfl
      omega
    have hp1000 : p.length ≤ 1000 := by
      have e2 : (intsP p).length = p.length := List.length_map ..
      omega
    refine forN_rev (K := K) (a := lp) (xs := as.map V.ref) (fun i σ H3 => ∃ (wv : V) (y5 y6 y7 : Option V) (C : Tm), σ = [some x, some (.ref q0), some y, some (.ref lw), some wv, y5, y6, y7] ∧ Same H2 H3 ∧ down U ((intsP p).take (p.length - i)) = some C ∧ TmV K H3 wv (C.put (p.drop (p.length - i)) W))
      ⟨y, none, none, none, X, rfl, Same.refl _, by rw [List.take_of_length_le (by unfold intsP; rw [List.length_map]; omega)]; exact hX, by rw [List.drop_of_length_le (by omega)]; exact hy.stay (.of (s1.trans s2))⟩ (fun i σ H3 _ hP => ?_) (fun i x1 σ H3 hi hx1 hP => ?_) (fun σ H3 hP => ?_)
    · obtain ⟨_, _, _, _, _, rfl, s3, _⟩ := hP
      exact sqL (s3 _ _ hlp)
    · obtain ⟨wv, y5, y6, y7, C2, rfl, s3, hd, hwv⟩ := hP
      rw [List.length_map, lz] at hi hx1
      rw [List.getElem?_map] at hx1
      obtain ⟨aj, haj, rfl⟩ := Option.map_eq_some_iff.mp hx1
      obtain ⟨pr, hpr, hat⟩ := pd_get' (pd_mono (fun _ _ h => h) hpd) haj
      obtain ⟨z1, z2⟩ := List.getElem?_zip_eq_some.mp hpr
      obtain ⟨j, hj⟩ : ∃ j, j = p.length - 1 - i := ⟨_, rfl⟩
      rw [← hj] at z1 z2
      rw [show p.length - i = j + 1 by omega] at hd hwv
      have e5 : p.length - (i + 1) = j := by omega
      rw [e5]
      have jl : j < p.length := by omega
      obtain ⟨n, hn⟩ : ∃ n, p[j]? = some n := ⟨_, List.getElem?_eq_getElem jl⟩
      rw [List.getElem?_map, int_p hn] at z1
      obtain ⟨m1, vj⟩ := pr
      obtain rfl : V.int (n : Int) = m1 := Option.some.inj z1
      obtain ⟨Cj, hdj, hCj⟩ := hway j vj z2
      have tk : (intsP p).take (j + 1) = (intsP p).take j ++ [(n : Int)] := by
        rw [List.take_add_one, int_p hn]
        rfl
      rw [tk, down_app, hdj] at hd
      have hd : down Cj ((n : Int) :: []) = some C2 := hd
      rw [down_step] at hd
      have hkn : Cj.kids[n]? = some C2 := by
        cases e : Cj.kids[n]? with
        | none => rw [e] at hd; cases hd
        | some k => rw [e] at hd; exact hd
      have nk := (List.getElem?_eq_some_iff.mp hkn).1
      obtain ⟨gCj, zCj⟩ := down_good hdj gU
      have dp : p.drop j = n :: p.drop (j + 1) := by
        rw [List.drop_eq_getElem_cons jl]
        rw [List.getElem?_eq_getElem jl] at hn
        cases hn
        rfl
      refine r_gtup (sqT (s3 _ _ hat)) rfl ?_
      walk_at "rd"
      refine ⟨vj, Cj, rfl, hCj.stay (.of (s2.trans s3)), notBad gCj, fun qk ks H4 s4 hk hkT => ?_⟩
      have lk := tms_len hkT
      have sk := Tm.size_kids Cj
      have slk := Tm.sizes_len Cj.kids
      walk_at "rd"
      refine r_nopart ?_
      refine r_part ?_
      walk_at "rd"
      refine r_cutW hk fun t1 H5 s5 h5 => ?_
      rw [cut_to ks (by omega)] at h5
      walk_at "rd"
      refine ⟨by show 1 ≤ sizeLine; decide, fun t2 n2 => ?_⟩
      have s6 := same_new (o := .tup [wv]) n2
      refine r_catA ((Tups.of s6).sq h5) (sqT upd_same) (by rw [sizeLine_eq, List.length_take]; show min n ks.length + 1 ≤ _; omega) fun t3 H7 s7 h7 => ?_
      walk_at "rd"
      refine r_part ?_
      walk_at "rd"
      refine r_nopart ?_
      refine r_cutW ((Tups.of ((s5.trans s6).trans s7)).sq hk) fun t4 H8 s8 h8 => ?_
      rw [show ((n : Int) + 1) = ((n + 1 : Nat) : Int) by omega, cut_from ks (by omega)] at h8
      refine r_catA ((Tups.of s8).sq h7) h8 (by rw [sizeLine_eq, List.length_append, List.length_take, List.length_drop]; show min n ks.length + 1 + _ ≤ _; omega) fun t5 H9 s9 h9 => ?_
      have s49 := (((s5.trans s6).trans s7).trans s8).trans s9
      have s39 := s4.trans s49
      walk_at "rd"
      refine ⟨vj, Cj, t5, _, _, rfl, hCj.stay (.of ((s2.trans s3).trans s39)), notBad gCj, .inl h9, tms_set (hwv.stay (.of s39)) (hkT.stay (.of s49)) nk, List.length_set .., ?_, fun y2 H10 s10 hy2 => ?_⟩
      · rw [List.length_append, List.length_append, List.length_take, List.length_drop]
        show min n ks.length + 1 + _ ≤ _
        omega
      · walk_at "rd"
        exact ⟨y2, _, _, _, Cj, rfl, s3.trans (s39.trans s10), hdj, by rw [dp, Tm.put_at hkn]; exact hy2⟩
    · obtain ⟨wv, y5, y6, y7, C2, rfl, s3, hd, hwv⟩ := hP
      rw [List.length_map, lz, Nat.sub_self] at hd hwv
      walk_at "rd"
      obtain rfl : U = C2 := Option.some.inj hd
      exact q1 gU gW p X rfl hX wv H3 ((s1.trans s2).trans s3) hwv
theorem G_put_at (T : Txt K mg a) : FnOk P w K mg base (L2.CX P w) 9 a.f_put_at a.d_put_at ["term", "place", "part"] (sp_put K a.f_NoPlace a.f_NoTerm true) := by
  refine T.F_put_at.okX sc_put_at (fun vs H Q E h => ?_) (fun cdv A outer s H vs Q E hr h => ?_)
  · obtain ⟨x, y, U, W, pl, q0, rfl, _⟩ := h
    rfl
  · obtain ⟨x, y, U, W, pl, q0, rfl, hx, hy, hq0, hl, _, q1, q2, q3⟩ := h
    refine ⟨_, (pss_cons (ps_expr (pe_call (G_check_term (K := K) T) (hr.mono (by decide)) (by rfl) T.g_check_term T.F_check_term.kp T.b_check_term .nil (passes_call (takes_of rfl rfl rfl rfl) fun _ _ _ _ h => h) (pa_cons (pv 0) pa_nil)))
        (pss_cons (ps_expr (pe_call (G_check_term (K := K) T) (hr.mono (by decide)) (by rfl) T.g_check_term T.F_check_term.kp T.b_check_term .nil (passes_call (takes_of rfl rfl rfl rfl) fun _ _ _ _ h => h) (pa_cons (pv 2) pa_nil)))
        (pss_one (ps_ret (pe_call (G_put_down (K := K) T) (hr.mono (by decide)) (by rfl) T.g_put_down T.F_put_down.kp T.b_put_down .nil (passes_call (takes_of rfl rfl rfl rfl) fun _ _ _ _ h => h) (pa_cons (pv 0) (pa_cons (pv 1) (pa_cons (pv 2) pa_nil)))))))), ?_⟩
    walk_at "rd"
    refine ⟨x, U, rfl, hx, hl.2.1, fun gU H1 s1 => ?_, fun g H1 s1 => q3 (by rw [g]; rfl) H1 s1⟩
    walk_at "rd"
    refine ⟨y, W, rfl, hy.stay (.of s1), hl.2.2, fun gW H2 s2 => ?_, fun g H2 s2 => q3 (by rw [g, Bool.and_false]) H2 (s1.trans s2)⟩
    walk_at "rd"
    have s12 := s1.trans s2
    refine ⟨x, y, U, W, pl, q0, rfl, hx.stay (.of s12), hy.stay (.of s12), (Tups.of s12).sq hq0, hl, fun _ => ⟨gU, gW⟩, fun _ _ p X ep hX v H3 s3 hv => ?_, fun _ _ hn d H3 s3 nd hd => ?_, fun g => ?_⟩
    · exact q1 gU gW p X ep hX v H3 (s12.trans s3) hv
    · exact q2 gU gW hn d H3 (s12.trans s3) (s12.free nd) hd
    · rw [gU, gW] at g
      cases g
end
end Pf

/-! places, levels, names and holes of trees -/
namespace Pf
open PySem PySem.Spec PyProof.Rows L2
/-- a part within a term -/
theorem plc_sub : ∀ {p : List Nat} {U W : Tm}, (p, W) ∈ U.plc → W.size ≤ U.size ∧ W.dep + p.length ≤ U.dep ∧ (U.good = true → W.good = true)
  | [], U, W, h => by
    rw [plc_mem] at h
    rcases h with e | ⟨i, k, r, _, _, e⟩
    · obtain ⟨_, rfl⟩ := Prod.mk.inj e
      exact ⟨Nat.le_refl _, Nat.le_refl _, id⟩
    · cases (Prod.mk.inj e).1
  | j :: p, U, W, h => by
    rw [plc_mem] at h
    rcases h with e | ⟨i, k, ⟨r1, r2⟩, hk, hr, e⟩
    · cases (Prod.mk.inj e).1
    · obtain ⟨e1, e2⟩ := Prod.mk.inj e
      obtain ⟨rfl, rfl⟩ := List.cons.inj e1
      have e2 : W = r2 := e2
      subst e2
      have mem := List.mem_of_getElem? hk
      obtain ⟨a1, a2, a3⟩ := plc_sub hr
      have z1 := Tm.sizes_mem mem
      have z2 := Tm.size_kids U
      have d1 := dep_kid mem
      have d2 : U.dep = 1 + Tm.deps U.kids := by
        rcases dep_kids U with e | e
        · rw [e] at mem; exact absurd mem List.not_mem_nil
        · exact e
      refine ⟨by omega, by rw [List.length_cons]; show W.dep + (p.length + 1) ≤ _; have : W.dep + p.length ≤ k.dep := a2; omega, fun g => a3 (Tm.goods_mem ?_ k mem)⟩
      rw [Tm.good_kids] at g
      exact (Tm.and2 g).2
theorem Tm.dep_pos (T : Tm) : 1 ≤ T.dep := by cases T <;> simp only [Tm.dep] <;> omega
/-- the deepest part -/
theorem deps_hit : ∀ (l : List Tm), l ≠ [] → ∃ (i : Nat) (k : Tm), l[i]? = some k ∧ k.dep = Tm.deps l
  | [p], _ => ⟨0, p, rfl, by show p.dep = max p.dep 0; omega⟩
  | p :: q :: r, _ => by
    obtain ⟨i, k, hk, e⟩ := deps_hit (q :: r) (by simp)
    show ∃ (i : Nat) (k : Tm), (p :: q :: r)[i]? = some k ∧ k.dep = max p.dep (Tm.deps (q :: r))
    by_cases c : Tm.deps (q :: r) ≤ p.dep
    · exact ⟨0, p, rfl, by omega⟩
    · exact ⟨i + 1, k, by simpa using hk, by omega⟩
theorem plc_deep : ∀ (n : Nat) (T : Tm), T.dep = n → ∃ q ∈ T.plc, q.1.length + 1 = T.dep
  | 0, T, h => absurd h (by have := T.dep_pos; omega)
  | n + 1, T, h => by
    rcases dep_kids T with e | e
    · refine ⟨([], T), by rw [plc_mem]; exact .inl rfl, ?_⟩
      have : T.dep = 1 := by cases T <;> simp_all [Tm.dep, Tm.kids, Tm.deps]
      show 0 + 1 = T.dep
      omega
    · by_cases c : T.kids = []
      · refine ⟨([], T), by rw [plc_mem]; exact .inl rfl, ?_⟩
        rw [c] at e
        show 0 + 1 = T.dep
        rw [e]; rfl
      · obtain ⟨i, k, hk, ek⟩ := deps_hit T.kids c
        obtain ⟨r, hr, er⟩ := plc_deep n k (by omega)
        exact ⟨(i :: r.1, r.2), by rw [plc_mem]; exact .inr ⟨i, k, r, hk, hr, rfl⟩, by show r.1.length + 1 + 1 = T.dep; omega⟩
theorem plc_len {T : Tm} {q : List Nat × Tm} (h : q ∈ T.plc) : q.1.length + 1 ≤ T.dep := by
  have := (plc_sub (p := q.1) (W := q.2) h).2.1
  have := q.2.dep_pos
  omega
/-- names at a part itself -/
def Tm.nmsAt : Tm → List Str
  | .name n => [n]
  | .hole t _ => t.map (·.1)
  | .shut n _ => [n]
  | _ => []
def Tm.hlsAt : Tm → List Str
  | .hole _ X => [X]
  | _ => []
def Tm.nms (T : Tm) : List Str := T.pre.flatMap Tm.nmsAt
def Tm.hls (T : Tm) : List Str := T.pre.flatMap Tm.hlsAt
theorem same_set {ys zs : List Str} (n1 : ys.Nodup) (n2 : zs.Nodup) (p1 : ys.Pairwise leS) (p2 : zs.Pairwise leS) (h : ∀ n, n ∈ ys ↔ n ∈ zs) : ys = zs := same_sorted ((List.perm_ext_iff_of_nodup n1 n2).mpr h) p1 p2
theorem flat_take1 {α β : Type} {f : α → List β} {l : List α} {i : Nat} {x : α} (h : l[i]? = some x) : (l.take (i + 1)).flatMap f = (l.take i).flatMap f ++ f x := by
  rw [take_snoc h, List.flatMap_append, List.flatMap_singleton]
theorem flat_small {α β : Type} (f : α → List β) (m : Nat) : ∀ (l : List α), (∀ x ∈ l, (f x).length ≤ m) → (l.flatMap f).length ≤ l.length * m
  | [], _ => by simp
  | x :: r, h => by
    have := flat_small f m r fun y hy => h y (List.mem_cons_of_mem _ hy)
    have := h x List.mem_cons_self
    rw [List.flatMap_cons, List.length_append, List.length_cons, Nat.add_mul]
    omega
end Pf

namespace Pf
open PySem PySem.Spec PyProof.Rows L2
local macro_rules | `(tactic| walk_at "rd") => `(tactic| (repeat' (first
  | with_reducible refine r_seq ?_ | with_reducible refine r_asg ?_ | with_reducible refine r_ret ?_ | with_reducible refine r_retN ?_ | with_reducible refine r_drop ?_ | with_reducible refine r_if ?_
  | with_reducible refine r_op ?_ | (with_reducible show tVar _ _ _ _; refine r_var rfl ?_) | with_reducible refine r_c ?_ | with_reducible refine r_I0 ?_ | (with_reducible refine r_I ?c ?_; (case c => first | (show (0 : Int) < _; first | decide | assumption | omega) | exact cmul_r ⟨by decide, by decide⟩ | exact cmul_l ⟨by decide, by decide⟩ | exact cmul_r (by first | assumption | constructor <;> omega) | (unfold CDiv; constructor <;> decide) | (unfold CPow; refine ⟨?_, ?_, ?_⟩ <;> decide))) | with_reducible refine r_name ?_ | (with_reducible show rIxL _ _ _ _ _; refine r_ixL (sqL (by assumption)) rfl ?_) | (with_reducible show rIxT _ _ _ _ _; refine r_ixT (by assumption) rfl ?_) | (with_reducible show rSetL _ _ _ _ _; refine r_setL (by assumption) rfl ?_) | with_reducible refine r_test ?_ | with_reducible refine r_tB ?_ | with_reducible refine r_bl ?_
  | with_reducible refine r_not ?_ | with_reducible refine r_and ?_ | with_reducible refine r_or ?_ | with_reducible refine r_andV ?_ | with_reducible refine r_orV ?_ | with_reducible refine r_notV ?_ | with_reducible refine r_ifE ?_
  | with_reducible refine r_cons ?_ | with_reducible refine r_nil ?_ | with_reducible refine r_cb ?_ | with_reducible refine r_call ?_ | with_reducible refine r_lst ?_ | with_reducible refine r_tup ?_ | with_reducible refine r_bm ?_ | with_reducible refine r_bm0 ?_
  | with_reducible refine r_un ?_ | with_reducible refine r_U ?_ | with_reducible refine r_eqI ?_ | with_reducible refine r_eqS ?_ | with_reducible refine r_neI ?_ | with_reducible refine r_neS ?_ | with_reducible refine r_sub ?_ | with_reducible refine r_gcons ?_ | with_reducible refine r_gnil ?_
  | with_reducible refine r_chain ?_ | with_reducible refine r_get2 ?_ | with_reducible refine r_iList ?_ | with_reducible refine r_iStr ?_ | with_reducible refine r_iTup ?_ | with_reducible refine r_iRev ?_ | with_reducible refine r_iItems ?_ | with_reducible refine r_rng ?_ | with_reducible refine r_inS ?_ | with_reducible refine r_bI ?_ | with_reducible refine r_abs ?_ | with_reducible refine r_sl ?_ | with_reducible refine r_next ?_ | with_reducible refine r_yes ?_
  | (with_reducible show rLen _ _ _ _; first | refine r_lenK (sqL (by assumption)) ?_ | refine r_lenK (by assumption) ?_ | refine r_lenTK (by assumption) ?_)
  | (with_reducible show tFor _ _ _ _ _ _; unfold tFor) | (with_reducible show tLc _ _ _ _ _ _ _ _; unfold tLc) | (with_reducible show tWhile _ _ _ _ _; unfold tWhile)
  | (with_reducible refine ⟨_, rfl, ?_⟩) | (with_reducible refine ⟨_, _, rfl, rfl, ?_⟩) | (with_reducible refine Or.inr ⟨_, rfl, ?_⟩) | (refine ⟨_, _, rfl, Or.inl (by assumption), ?_⟩; skip) | (refine ⟨_, _, rfl, Or.inr (by assumption), ?_⟩; skip)
  | (with_reducible refine iteNT ?_) | (with_reducible refine iteNF ?_) | (with_reducible refine iteT ?_) | (with_reducible refine iteF ?_)
  | (dsimp only [Bool.not_true, Bool.not_false, List.cons_append, List.nil_append]))))

local macro_rules | `(tactic| walk_at "st") => `(tactic| first | exact Same.refl _ | assumption | (refine Same.trans (by assumption) ?_; walk_at "st"))
local macro_rules | `(tactic| walk_at "ok") => `(tactic| first | assumption | exact up_tm (by assumption) (by walk_at "st") | exact up_sqT (by assumption) (by walk_at "st") | exact up_get (by assumption) (by walk_at "st") | exact up_getL (by assumption) (by walk_at "st") | exact up_getT (by assumption) (by walk_at "st") | exact up_sqL (by assumption) (by walk_at "st") | exact up_tms (by assumption) (by walk_at "st") | exact up_tnD (by assumption) (by walk_at "st") | exact up_tn (by assumption) (by walk_at "st") | exact ⟨_, up_getL (by assumption) (by walk_at "st")⟩ | exact ⟨_, up_sqL (by assumption) (by walk_at "st")⟩)

def sp_namesat (K : PySem.W.Frag) : Sp := fun vs H Q _ => ∃ (x : V) (U : Tm), vs = [x] ∧ TmV K H x U ∧ U.isBad = false ∧ ∀ l H', Same H H' → H l = none → H' l = some (.lst (U.nmsAt.map V.str)) → Q (.ref l) H'
def sp_namesin (K : PySem.W.Frag) : Sp := fun vs H Q _ => ∃ (x : V) (U : Tm), vs = [x] ∧ TmV K H x U ∧ U.good = true ∧ U.size ≤ 90 ∧
  ∀ (l : Addr) (ys : List Str) (H' : Hp), Same H H' → H l = none → H' l = some (.lst (ys.map V.str)) → ys.Nodup → ys.Pairwise leS → (∀ n, n ∈ ys ↔ n ∈ U.nms) → Q (.ref l) H'
def sp_holesin (K : PySem.W.Frag) : Sp := fun vs H Q _ => ∃ (x : V) (U : Tm), vs = [x] ∧ TmV K H x U ∧ U.good = true ∧ U.size ≤ 90 ∧
  ∀ (l : Addr) (ys : List Str) (H' : Hp), Same H H' → H l = none → H' l = some (.lst (ys.map V.str)) → ys.Nodup → ys.Pairwise leS → (∀ n, n ∈ ys ↔ n ∈ U.hls) → Q (.ref l) H'
theorem nmsAt_few {K : PySem.W.Frag} {H : Hp} {x : V} {U : Tm} (h : TmV K H x U) : U.nmsAt.length ≤ 40 := by
  cases h with
  | @hole _ _ t X h d it ho =>
    show (t.map (·.1)).length ≤ 40
    rw [List.length_map]
    exact it.small
  | name _ _ => exact (by decide : 1 ≤ 40)
  | shut _ _ _ => exact (by decide : 1 ≤ 40)
  | _ => exact Nat.zero_le _
mutual
theorem pre_tmv {K : PySem.W.Frag} {H : Hp} {x : V} {U : Tm} : TmV K H x U → ∀ W ∈ U.pre, ∃ y, TmV K H y W
  | .name h a, W, m => by cases List.mem_singleton.mp m; exact ⟨_, .name h a⟩
  | .hole h d it ho, W, m => by cases List.mem_singleton.mp m; exact ⟨_, .hole h d it ho⟩
  | .bad h, W, m => by cases List.mem_singleton.mp m; exact ⟨_, .bad h⟩
  | .shut h a s, W, m => by
    rcases List.mem_cons.mp m with rfl | m
    · exact ⟨_, .shut h a s⟩
    · exact pre_tmv s W m
  | .sign h a hz s, W, m => by
    rcases List.mem_cons.mp m with rfl | m
    · exact ⟨_, .sign h a hz s⟩
    · exact pres_tmv s W m
theorem pres_tmv {K : PySem.W.Frag} {H : Hp} {xs : List V} {Us : List Tm} : TmsV K H xs Us → ∀ W ∈ Tm.pres Us, ∃ y, TmV K H y W
  | .nil, W, m => nomatch m
  | .cons h t, W, m => by
    rcases List.mem_append.mp m with m | m
    · exact pre_tmv h W m
    · exact pres_tmv t W m
end
theorem flat_few {K : PySem.W.Frag} {H : Hp} {x : V} {U : Tm} (h : TmV K H x U) (z : U.size ≤ 90) : U.nms.length ≤ 3600 := by
  have := flat_small Tm.nmsAt 40 U.pre fun W hW => by
    obtain ⟨y, hy⟩ := pre_tmv h W hW
    exact nmsAt_few hy
  rw [Tm.len_pre] at this
  show (U.pre.flatMap Tm.nmsAt).length ≤ 3600
  omega
mutual
theorem pre_good {U : Tm} : U.good = true → ∀ W ∈ U.pre, W.isBad = false := fun g W hW => by
  cases U with
  | name n => cases List.mem_singleton.mp hW; rfl
  | hole t X => cases List.mem_singleton.mp hW; rfl
  | bad => exact nomatch g
  | shut n b =>
    rcases List.mem_cons.mp hW with rfl | hW
    · rfl
    · exact pre_good (U := b) g W hW
  | sign n ps =>
    rcases List.mem_cons.mp hW with rfl | hW
    · rfl
    · exact pres_good (Us := ps) g W hW
theorem pres_good {Us : List Tm} : Tm.goods Us = true → ∀ W ∈ Tm.pres Us, W.isBad = false := fun g W hW => by
  cases Us with
  | nil => exact nomatch hW
  | cons p r =>
    have g2 := Tm.and2 (show (p.good && Tm.goods r) = true from g)
    rcases List.mem_append.mp hW with hW | hW
    · exact pre_good g2.1 W hW
    · exact pres_good g2.2 W hW
end
theorem cons_step {ks : List Str} {k : Str} {L : List Str} (nd : ks.Nodup) (h : ∀ n, n ∈ ks ↔ n ∈ L) : (if k ∈ ks then ks else k :: ks).Nodup ∧ ∀ n, n ∈ (if k ∈ ks then ks else k :: ks) ↔ n ∈ L ++ [k] := by
  by_cases c : k ∈ ks
  · rw [if_pos c]
    refine ⟨nd, fun n => ?_⟩
    rw [List.mem_append, List.mem_singleton, ← h n]
    exact ⟨.inl, fun z => z.elim id fun e => e ▸ c⟩
  · rw [if_neg c]
    refine ⟨List.nodup_cons.mpr ⟨c, nd⟩, fun n => ?_⟩
    rw [List.mem_append, List.mem_singleton, List.mem_cons, h n]
    exact Or.comm
section
variable {P : Program} {w : World} {K : PySem.W.Frag} {mg : Str → Option Value} {base : Heap} {a : Ad}
theorem G_names_at (T : Txt K mg a) : FnOk P w K mg base CX0 1 a.f_names_at a.d_names_at ["part"] (sp_namesat K) := by
  refine T.F_names_at.ok sc_names_at (fun vs H Q E h => ?_) (fun cdv A outer s H vs Q E hr h => ?_)
  · obtain ⟨x, U, rfl, _⟩ := h
    rfl
  · obtain ⟨x, U, rfl, hx, g, q⟩ := h
    refine ⟨_, (pss_cons (ps_if (pt_cmpR op_eq (pe_ix (ix_tupK K) (pv 0) pe_int (fun _ _ => rfl)) pe_str (nomark _)) (pss_one (ps_ret (pe_lc (own := [("name", 1), ("_", 2)]) (by rfl) sc_names_at.nd (pi_tupK K (pe_ix (ix_tupK K) (pv 0) pe_int (fun _ _ => rfl))) (blkOk_by (N := N_names_at) (sc := defScope s_names_at) (by decide +kernel)) (fun _ _ _ _ _ => (pg_tupK K (n := 2) rfl (pgs_cons (pg_name (i := 1) sc_names_at.nd rfl (by first | exact Or.inl rfl | exact Or.inr rfl)) (pgs_cons (pg_name (i := 2) sc_names_at.nd rfl (by first | exact Or.inl rfl | exact Or.inr rfl)) pgs_nil)))) (fun _ _ _ _ _ => pts_nil) (fun _ _ _ _ _ => (pv 1))))) pss_nil)
        (pss_one (ps_ret (pe_ifExp (pt_cmpR op_eq (pe_ix (ix_tupK K) (pv 0) pe_int (fun _ _ => rfl)) pe_str (nomark _)) (pe_lst pa_nil) (pe_lst (pa_cons (pe_ix (ix_tupK K) (pv 0) pe_int (fun _ _ => rfl)) pa_nil)))))), ?_⟩
    cases hx with
    | @name q0 n h a =>
      walk_at "rd"
      refine r_no ne_nh ?_
      walk_at "rd"
      refine r_no ne_ns ?_
      walk_at "rd"
      exact ⟨by show 1 ≤ sizeLine; decide, fun l nl => q l _ (same_new nl) nl upd_same⟩
    | @hole q0 x t X h d it ho =>
      obtain ⟨qt, o, xs, rfl, hqt, hd, hp⟩ := d
      have sqt : SqT K H qt xs := .inl (.inr ⟨o, hqt⟩)
      have lx := pd_len hp
      have sm := it.small
      walk_at "rd"
      refine r_yes' rfl ?_
      walk_at "rd"
      refine ⟨⟨_, sqt⟩, fun D nD => ?_⟩
      refine lc_tup (K := K) (a := qt) (xs := xs) (LcI H D fun j acc _ => acc = ((t.map (·.1)).take j).map V.str) (LcI.zero nD rfl) (fun j H1 _ hP => (Tups.of hP.1).sq sqt) (fun j x1 H1 hx1 hP => ?_) (fun H1 hP => ?_)
      · obtain ⟨s1, acc3, hD3, hal3, rfl⟩ := hP
        obtain ⟨pr, hpr, hpr1⟩ := pd_get' hp hx1
        obtain ⟨t1, rfl, ht1⟩ := hpr1.stay (Tups.of s1)
        have hj := (List.getElem?_eq_some_iff.mp hx1).1
        refine r_gtup ht1 rfl ?_
        walk_at "rd"
        refine ⟨rfl, ?_⟩
        walk_at "rd"
        refine LcI.keep nD s1 hD3 hal3 (by omega) (Same.refl _) ?_
        rw [take_snoc (x := pr.1) (by rw [List.getElem?_map, hpr]; rfl), List.map_append]
        rfl
      · obtain ⟨s1, acc3, hD3, hal3, rfl⟩ := hP
        rw [List.take_of_length_le (by rw [List.length_map]; omega)] at hD3
        exact q D H1 s1 nD hD3
    | @shut q0 n y b h a s =>
      walk_at "rd"
      refine r_no ne_th ?_
      walk_at "rd"
      refine r_no ne_ts ?_
      walk_at "rd"
      exact ⟨by show 1 ≤ sizeLine; decide, fun l nl => q l _ (same_new nl) nl upd_same⟩
    | @sign q0 z n xs ps h a hz2 s =>
      walk_at "rd"
      refine r_no ne_sh ?_
      walk_at "rd"
      refine r_yes' rfl ?_
      walk_at "rd"
      exact ⟨Nat.zero_le _, fun l nl => q l _ (same_new nl) nl upd_same⟩
    | bad h => exact nomatch g
theorem G_names_in (T : Txt K mg a) : FnOk P w K mg base (L2.CX P w) 8 a.f_names_in a.d_names_in ["term"] (sp_namesin K) := by
  refine T.F_names_in.okX sc_names_in (fun vs H Q E h => ?_) (fun cdv A outer s H vs Q E hr h => ?_)
  · obtain ⟨x, U, rfl, _⟩ := h
    rfl
  · obtain ⟨x, U, rfl, hx, g, hz, q⟩ := h
    refine ⟨_, (pss_cons (ps_expr (pe_call (G_check_term (K := K) T) (hr.mono (by decide)) (by rfl) T.g_check_term T.F_check_term.kp T.b_check_term .nil (passes_call (takes_of rfl rfl rfl rfl) fun _ _ _ _ h => h) (pa_cons (pv 0) pa_nil)))
        (pss_one (ps_ret (pe_callB (crSrtSK K P w rfl hr.units) (by rfl) T.n_sorted (by decide +kernel) (pa_cons (pe_sct2K P w (own := [("part", 1), ("name", 2)]) (vs1 := [2]) (by rfl) sc_names_in.nd (pi_listK K (pe_call (G_parts_in (K := K) T) (hr.mono (by decide)) (by rfl) T.g_parts_in T.F_parts_in.kp T.b_parts_in .nil pass0 (pa_cons (pv 0) pa_nil))) (blkOk_by (N := N_names_in) (sc := defScope s_names_in) (by decide +kernel)) (by decide) (fun _ _ _ _ _ => (pg_name (i := 1) sc_names_in.nd rfl (by first | exact Or.inl rfl | exact Or.inr rfl))) (fun _ _ _ _ _ => pts_nil) (fun _ _ _ _ _ => (pi_listK K (pe_call (G_names_at (K := K) T) (hr.mono (by decide)) (by rfl) T.g_names_at T.F_names_at.kp T.b_names_at .nil pass0 (pa_cons (pv 1) pa_nil)))) (fun _ _ _ _ _ => (pg_name (i := 2) sc_names_in.nd rfl (by first | exact Or.inl rfl | exact Or.inr rfl))) (fun _ _ _ _ _ => pts_nil) (fun _ _ _ _ _ => (pv 2))) pa_nil))))), ?_⟩
    walk_at "rd"
    refine ⟨x, U, rfl, hx, by omega, fun _ H1 s1 => ?_, fun z => by rw [g] at z; exact nomatch z⟩
    walk_at "rd"
    refine r_sct2 ?_
    walk_at "rd"
    refine ⟨x, U, rfl, hx.stay (.of s1), g, by omega, fun lp xs H2 s2 np hlp hT => ?_⟩
    refine ⟨lp, rfl, ⟨_, sqL hlp⟩, fun D nD => ?_⟩
    have few9 := flat_few hx hz
    have lxs := tms_len hT
    rw [Tm.len_pre] at lxs
    have fewk : ∀ {ks : List Str} {m : Nat} {L : List Str}, ks.Nodup → (∀ n, n ∈ ks ↔ n ∈ (U.pre.take m).flatMap Tm.nmsAt ++ L) → (∀ n ∈ L, n ∈ U.nms) → ks.length < 4000 := fun {ks m L} nd mem sub => by
      have := few nd fun n hn => (by
        rcases List.mem_append.mp ((mem n).mp hn) with z | z
        · obtain ⟨W, hW, hz⟩ := List.mem_flatMap.mp z
          exact List.mem_flatMap.mpr ⟨W, List.mem_of_mem_take hW, hz⟩
        · exact sub n z : n ∈ U.nms)
      omega
    refine sct2_list (xs := xs) (fun i H3 => Same H2 H3 ∧ ∃ ks, H3 D = some (STx P w D ks) ∧ ks.Nodup ∧ ∀ n, n ∈ ks ↔ n ∈ (U.pre.take i).flatMap Tm.nmsAt) ⟨same_new nD, [], upd_same, List.nodup_nil, fun n => by simp⟩ (fun i H3 _ hP => sqL (hP.1 _ _ hlp)) (fun i x1 H3 hx1 hP => ?_) (fun H3 hP => ?_)
    · obtain ⟨s3, ks, hD, nd, mem⟩ := hP
      obtain ⟨Ui, hUi, hri⟩ := pd_get' hT.pd hx1
      have inpre := List.mem_of_getElem? hUi
      have gUi : Ui.isBad = false := pre_good g Ui inpre
      walk_at "rd"
      refine ⟨rfl, ?_⟩
      walk_at "rd"
      refine ⟨x1, Ui, rfl, hri.stay (.of s3), gUi, fun ln H4 s4 nln hln => ?_⟩
      have nlD : ln ≠ D := (ne_of_none hD nln).symm
      refine ⟨ln, rfl, ⟨_, sqL hln⟩, ?_⟩
      refine sct_in (K := K) (a := ln) (xs := Ui.nmsAt.map V.str) (fun j H5 => Same H2 H5 ∧ H5 ln = some (.lst (Ui.nmsAt.map V.str)) ∧ ∃ ks, H5 D = some (STx P w D ks) ∧ ks.Nodup ∧ ∀ n, n ∈ ks ↔ n ∈ (U.pre.take i).flatMap Tm.nmsAt ++ Ui.nmsAt.take j)
        ⟨s3.trans s4, hln, ks, s4 _ _ hD, nd, fun n => by rw [List.take_zero, List.append_nil]; exact mem n⟩ (fun j H5 _ hP => sqL hP.2.1) (fun j x2 H5 hx2 hP => ?_) (fun H5 hP => ?_)
      · obtain ⟨s5, hln5, ks5, hD5, nd5, mem5⟩ := hP
        rw [List.getElem?_map] at hx2
        obtain ⟨k, hk, rfl⟩ := Option.map_eq_some_iff.mp hx2
        walk_at "rd"
        refine ⟨rfl, ?_⟩
        walk_at "rd"
        have st := cons_step (k := k) nd5 mem5
        refine ⟨k, ks5, rfl, hD5, fewk nd5 mem5 fun n hn => List.mem_flatMap.mpr ⟨Ui, inpre, List.mem_of_mem_take hn⟩, Pf.Same.mut s5 nD, by rw [upd_ne nlD]; exact hln5, _, upd_same, st.1, fun n => ?_⟩
        rw [st.2 n, take_snoc hk, List.append_assoc]
      · obtain ⟨s5, hln5, ks5, hD5, nd5, mem5⟩ := hP
        refine ⟨s5, ks5, hD5, nd5, fun n => ?_⟩
        rw [mem5 n, flat_take1 hUi, show List.take (List.map V.str Ui.nmsAt).length Ui.nmsAt = Ui.nmsAt from List.take_of_length_le (by rw [List.length_map]; exact Nat.le_refl _)]
    · obtain ⟨s3, ks, hD, nd, mem⟩ := hP
      have few0 := fewk (L := []) nd (fun n => by rw [List.append_nil]; exact mem n) fun _ h => nomatch h
      rw [List.take_of_length_le (by rw [Tm.len_pre]; omega)] at mem
      walk_at "rd"
      refine ⟨D, ks, rfl, hD, by omega, fun ys p py sy np2 => ?_⟩
      exact q p ys _ ((s1.trans s2).trans (s3.trans (same_new np2))) ((s1.trans (s2.trans s3)).free np2) upd_same (py.nodup_iff.mpr nd) sy fun n => (py.mem_iff).trans (mem n)
theorem G_holes_within (T : Txt K mg a) : FnOk P w K mg base CX0 4 a.f_holes_within a.d_holes_within ["term"] (sp_holesin K) := by
  refine T.F_holes_within.ok sc_holes_within (fun vs H Q E h => ?_) (fun cdv A outer s H vs Q E hr h => ?_)
  · obtain ⟨x, U, rfl, _⟩ := h
    rfl
  · obtain ⟨x, U, rfl, hx, g, hz, q⟩ := h
    refine ⟨_, (pss_one (ps_ret (pe_callB (crSrtSK K P w rfl hr.units) (by rfl) T.n_sorted (by decide +kernel) (pa_cons (pe_sctK P w (own := [("part", 1)]) (by rfl) sc_holes_within.nd (pi_listK K (pe_call (G_parts_in (K := K) T) (hr.mono (by decide)) (by rfl) T.g_parts_in T.F_parts_in.kp T.b_parts_in .nil pass0 (pa_cons (pv 0) pa_nil))) (blkOk_by (N := N_holes_within) (sc := defScope s_holes_within) (by decide +kernel)) (fun _ _ _ _ _ => (pg_name (i := 1) sc_holes_within.nd rfl (by first | exact Or.inl rfl | exact Or.inr rfl))) (fun _ _ _ _ _ => (pts_one (pt_cmpR op_eq (pe_ix (ix_tupK K) (pv 1) pe_int (fun _ _ => rfl)) pe_str (nomark _)))) (fun _ _ _ _ _ => (pe_ix (ix_tupK K) (pv 1) pe_int (fun _ _ => rfl)))) pa_nil)))), ?_⟩
    walk_at "rd"
    refine r_sct ?_
    walk_at "rd"
    refine ⟨x, U, rfl, hx, g, by omega, fun lp xs H2 s2 np hlp hT => ?_⟩
    refine ⟨lp, rfl, ⟨_, sqL hlp⟩, fun D nD => ?_⟩
    have lxs := tms_len hT
    rw [Tm.len_pre] at lxs
    have fewk : ∀ {ks : List Str} {m : Nat}, ks.Nodup → (∀ n, n ∈ ks ↔ n ∈ (U.pre.take m).flatMap Tm.hlsAt) → ks.length < 4000 := fun {ks m} nd mem => by
      have h1 := few nd fun n hn => (mem n).mp hn
      have h2 := flat_small Tm.hlsAt 1 (U.pre.take m) fun W _ => by cases W <;> simp [Tm.hlsAt]
      have h3 := List.length_take_le m U.pre
      have h4 := Tm.len_pre U
      rw [List.length_take] at h2
      omega
    refine sct_list (xs := xs) (fun i H3 => Same H2 H3 ∧ ∃ ks, H3 D = some (STx P w D ks) ∧ ks.Nodup ∧ ∀ n, n ∈ ks ↔ n ∈ (U.pre.take i).flatMap Tm.hlsAt) ⟨same_new nD, [], upd_same, List.nodup_nil, fun n => by simp⟩ (fun i H3 _ hP => sqL (hP.1 _ _ hlp)) (fun i x1 H3 hx1 hP => ?_) (fun H3 hP => ?_)
    · obtain ⟨s3, ks, hD, nd, mem⟩ := hP
      obtain ⟨Ui, hUi, hri⟩ := pd_get' hT.pd hx1
      have gUi : Ui.isBad = false := pre_good g Ui (List.mem_of_getElem? hUi)
      have skip : Ui.hlsAt = [] → ∀ n, n ∈ ks ↔ n ∈ (U.pre.take (i + 1)).flatMap Tm.hlsAt := fun e n => by rw [flat_take1 hUi, e, List.append_nil]; exact mem n
      walk_at "rd"
      refine ⟨rfl, ?_⟩
      cases hri with
      | @name q0 n h a =>
        have h3 := (Tups.of s3).sq h
        walk_at "rd"
        refine r_no ne_nh ?_
        exact ⟨s3, ks, hD, nd, skip rfl⟩
      | @hole q0 x t X h d it ho =>
        have h3 := (Tups.of s3).sq h
        walk_at "rd"
        refine r_yes' rfl ?_
        walk_at "rd"
        have st := cons_step (k := X) nd mem
        refine ⟨X, ks, rfl, hD, fewk nd mem, Pf.Same.mut s3 nD, _, upd_same, st.1, fun n => ?_⟩
        rw [st.2 n, flat_take1 hUi]
        rfl
      | @shut q0 n y b h a s =>
        have h3 := (Tups.of s3).sq h
        walk_at "rd"
        refine r_no ne_th ?_
        exact ⟨s3, ks, hD, nd, skip rfl⟩
      | @sign q0 z n xs ps h a hz2 s =>
        have h3 := (Tups.of s3).sq h
        walk_at "rd"
        refine r_no ne_sh ?_
        exact ⟨s3, ks, hD, nd, skip rfl⟩
      | bad h => exact nomatch gUi
    · obtain ⟨s3, ks, hD, nd, mem⟩ := hP
      have few0 := fewk nd mem
      rw [List.take_of_length_le (by rw [Tm.len_pre]; omega)] at mem
      walk_at "rd"
      refine ⟨D, ks, rfl, hD, by omega, fun ys p py sy np2 => ?_⟩
      exact q p ys _ (s2.trans (s3.trans (same_new np2))) ((s2.trans s3).free np2) upd_same (py.nodup_iff.mpr nd) sy fun n => (py.mem_iff).trans (mem n)
theorem G_holes_in (T : Txt K mg a) : FnOk P w K mg base (L2.CX P w) 8 a.f_holes_in a.d_holes_in ["term"] (sp_holesin K) := by
  refine T.F_holes_in.okX sc_holes_in (fun vs H Q E h => ?_) (fun cdv A outer s H vs Q E hr h => ?_)
  · obtain ⟨x, U, rfl, _⟩ := h
    rfl
  · obtain ⟨x, U, rfl, hx, g, hz, q⟩ := h
    refine ⟨_, (pss_cons (ps_expr (pe_call (G_check_term (K := K) T) (hr.mono (by decide)) (by rfl) T.g_check_term T.F_check_term.kp T.b_check_term .nil (passes_call (takes_of rfl rfl rfl rfl) fun _ _ _ _ h => h) (pa_cons (pv 0) pa_nil)))
        (pss_one (ps_ret (pe_call (G_holes_within (K := K) T) (hr.mono (by decide)) (by rfl) T.g_holes_within T.F_holes_within.kp T.b_holes_within .nil pass0 (pa_cons (pv 0) pa_nil))))), ?_⟩
    walk_at "rd"
    refine ⟨x, U, rfl, hx, by omega, fun _ H1 s1 => ?_, fun z => by rw [g] at z; exact nomatch z⟩
    walk_at "rd"
    refine ⟨x, U, rfl, hx.stay (.of s1), g, hz, fun l ys H2 s2 nl hl nd sy mem => ?_⟩
    exact q l ys H2 (s1.trans s2) (s1.free nl) hl nd sy mem
end
end Pf

namespace Pf
open PySem PySem.Spec PyProof.Rows L2
local macro_rules | `(tactic| walk_at "rd") => `(tactic| (repeat' (first
  | with_reducible refine r_seq ?_ | with_reducible refine r_asg ?_ | with_reducible refine r_ret ?_ | with_reducible refine r_retN ?_ | with_reducible refine r_drop ?_ | with_reducible refine r_if ?_
  | with_reducible refine r_op ?_ | (with_reducible show tVar _ _ _ _; refine r_var rfl ?_) | with_reducible refine r_c ?_ | with_reducible refine r_I0 ?_ | (with_reducible refine r_I ?c ?_; (case c => first | (show (0 : Int) < _; first | decide | assumption | omega) | exact cmul_r ⟨by decide, by decide⟩ | exact cmul_l ⟨by decide, by decide⟩ | exact cmul_r (by first | assumption | constructor <;> omega) | (unfold CDiv; constructor <;> decide) | (unfold CPow; refine ⟨?_, ?_, ?_⟩ <;> decide))) | with_reducible refine r_name ?_ | (with_reducible show rIxL _ _ _ _ _; refine r_ixL (sqL (by assumption)) rfl ?_) | (with_reducible show rIxT _ _ _ _ _; refine r_ixT (by assumption) rfl ?_) | (with_reducible show rSetL _ _ _ _ _; refine r_setL (by assumption) rfl ?_) | with_reducible refine r_test ?_ | with_reducible refine r_tB ?_ | with_reducible refine r_bl ?_
  | with_reducible refine r_not ?_ | with_reducible refine r_and ?_ | with_reducible refine r_or ?_ | with_reducible refine r_andV ?_ | with_reducible refine r_orV ?_ | with_reducible refine r_notV ?_ | with_reducible refine r_ifE ?_
  | with_reducible refine r_cons ?_ | with_reducible refine r_nil ?_ | with_reducible refine r_cb ?_ | with_reducible refine r_call ?_ | with_reducible refine r_lst ?_ | with_reducible refine r_tup ?_ | with_reducible refine r_bm ?_ | with_reducible refine r_bm0 ?_
  | with_reducible refine r_un ?_ | with_reducible refine r_U ?_ | with_reducible refine r_eqI ?_ | with_reducible refine r_eqS ?_ | with_reducible refine r_neI ?_ | with_reducible refine r_neS ?_ | with_reducible refine r_sub ?_ | with_reducible refine r_gcons ?_ | with_reducible refine r_gnil ?_
  | with_reducible refine r_chain ?_ | with_reducible refine r_get2 ?_ | with_reducible refine r_iList ?_ | with_reducible refine r_iStr ?_ | with_reducible refine r_iTup ?_ | with_reducible refine r_iRev ?_ | with_reducible refine r_iItems ?_ | with_reducible refine r_rng ?_ | with_reducible refine r_inS ?_ | with_reducible refine r_bI ?_ | with_reducible refine r_abs ?_ | with_reducible refine r_sl ?_ | with_reducible refine r_next ?_ | with_reducible refine r_yes ?_
  | (with_reducible show rLen _ _ _ _; first | refine r_lenK (sqL (by assumption)) ?_ | refine r_lenK (by assumption) ?_ | refine r_lenTK (by assumption) ?_)
  | (with_reducible show tFor _ _ _ _ _ _; unfold tFor) | (with_reducible show tLc _ _ _ _ _ _ _ _; unfold tLc) | (with_reducible show tWhile _ _ _ _ _; unfold tWhile)
  | (with_reducible refine ⟨_, rfl, ?_⟩) | (with_reducible refine ⟨_, _, rfl, rfl, ?_⟩) | (with_reducible refine Or.inr ⟨_, rfl, ?_⟩) | (refine ⟨_, _, rfl, Or.inl (by assumption), ?_⟩; skip) | (refine ⟨_, _, rfl, Or.inr (by assumption), ?_⟩; skip)
  | (with_reducible refine iteNT ?_) | (with_reducible refine iteNF ?_) | (with_reducible refine iteT ?_) | (with_reducible refine iteF ?_)
  | (dsimp only [Bool.not_true, Bool.not_false, List.cons_append, List.nil_append]))))

local macro_rules | `(tactic| walk_at "st") => `(tactic| first | exact Same.refl _ | assumption | (refine Same.trans (by assumption) ?_; walk_at "st"))
local macro_rules | `(tactic| walk_at "ok") => `(tactic| first | assumption | exact up_tm (by assumption) (by walk_at "st") | exact up_sqT (by assumption) (by walk_at "st") | exact up_get (by assumption) (by walk_at "st") | exact up_getL (by assumption) (by walk_at "st") | exact up_getT (by assumption) (by walk_at "st") | exact up_sqL (by assumption) (by walk_at "st") | exact up_tms (by assumption) (by walk_at "st") | exact up_tnD (by assumption) (by walk_at "st") | exact up_tn (by assumption) (by walk_at "st") | exact ⟨_, up_getL (by assumption) (by walk_at "st")⟩ | exact ⟨_, up_sqL (by assumption) (by walk_at "st")⟩)

def sp_levels (K : PySem.W.Frag) (m : Nat) : Sp := fun vs H Q _ => ∃ (x : V) (U : Tm), vs = [x] ∧ TmV K H x U ∧ U.good = true ∧ U.dep < m ∧ U.size ≤ 900 ∧ ∀ H', Same H H' → Q (.int U.dep) H'
def sp_lparts (K : PySem.W.Frag) (m : Nat) : Sp := fun vs H Q _ => ∃ (x : V) (U : Tm), vs = [x] ∧ TmV K H x U ∧ U.good = true ∧ U.dep < m ∧ U.size ≤ 900 ∧ ∀ l xs H', Same H H' → H l = none → H' l = some (.lst xs) → TmsV K H' xs U.pre → Q (.ref l) H'
theorem deps_le : ∀ {l : List Tm} {T : Tm}, T ∈ l → T.dep ≤ Tm.deps l := dep_kid
theorem pres_take {l : List Tm} {i : Nat} {k : Tm} (h : l[i]? = some k) : Tm.pres (l.take (i + 1)) = Tm.pres (l.take i) ++ k.pre := by
  rw [take_snoc h, Tm.pres_app]
  show _ ++ (k.pre ++ []) = _
  rw [List.append_nil]
theorem max_deps {ks : List Tm} {m : Int} (hm : m ∈ (0 : Int) :: ks.map fun k => ((k.dep : Nat) : Int)) (hle : ∀ y ∈ (0 : Int) :: ks.map fun k => ((k.dep : Nat) : Int), y ≤ m) : m = (Tm.deps ks : Nat) := by
  have a : (Tm.deps ks : Int) ≤ m := by
    by_cases c : ks = []
    · rw [c]; exact hle 0 List.mem_cons_self
    · obtain ⟨i, k, hk, e⟩ := deps_hit ks c
      rw [← e]
      exact hle _ (List.mem_cons_of_mem _ (List.mem_map.mpr ⟨k, List.mem_of_getElem? hk, rfl⟩))
  have b : m ≤ (Tm.deps ks : Int) := by
    rcases List.mem_cons.mp hm with rfl | h
    · omega
    · obtain ⟨k, hk, rfl⟩ := List.mem_map.mp h
      have := dep_kid hk
      omega
  omega
theorem dep_eq (U : Tm) : U.dep = 1 + Tm.deps U.kids := by
  rcases dep_kids U with e | e
  · rw [e]
    cases U with
    | sign n ps =>
      have e : ps = [] := e
      rw [e]; rfl
    | shut n b => exact absurd e (by simp [Tm.kids])
    | _ => rfl
  · exact e
theorem kids_good {U : Tm} (g : U.good = true) : U.isBad = false ∧ Tm.goods U.kids = true := by
  rw [Tm.good_kids] at g
  have := Tm.and2 g
  refine ⟨?_, this.2⟩
  have := this.1
  revert this
  cases U.isBad <;> simp
section
variable {P : Program} {w : World} {K : PySem.W.Frag} {mg : Str → Option Value} {base : Heap} {a : Ad}
theorem G_levels_of (T : Txt K mg a) : FnOk P w K mg base (L2.CX P w) 8 a.f_levels_of a.d_levels_of ["term"] (sp_levels K 1000) := by
  refine T.F_levels_of.okX sc_levels_of (fun vs H Q E h => ?_) (fun cdv A outer s H vs Q E hr h => ?_)
  · obtain ⟨x, U, rfl, _⟩ := h
    rfl
  · obtain ⟨x, U, rfl, hx, g, _, hz, q⟩ := h
    refine ⟨_, (pss_cons (ps_expr (pe_call (G_check_term (K := K) T) (hr.mono (by decide)) (by rfl) T.g_check_term T.F_check_term.kp T.b_check_term .nil (passes_call (takes_of rfl rfl rfl rfl) fun _ _ _ _ h => h) (pa_cons (pv 0) pa_nil)))
        (pss_one (ps_ret (pe_op op_add pe_int (pe_callB (cr_max rfl) (by rfl) T.n_max (by decide +kernel) (pa_cons (pe_lc (own := [("place", 1)]) (by rfl) sc_levels_of.nd (pi_listK K (pe_call (G_places_in (K := K) T) (hr.mono (by decide)) (by rfl) T.g_places_in T.F_places_in.kp T.b_places_in .nil pass0 (pa_cons (pv 0) pa_nil))) (blkOk_by (N := N_levels_of) (sc := defScope s_levels_of) (by decide +kernel)) (fun _ _ _ _ _ => (pg_name (i := 1) sc_levels_of.nd rfl (by first | exact Or.inl rfl | exact Or.inr rfl))) (fun _ _ _ _ _ => pts_nil) (fun _ _ _ _ _ => (pe_callB (call_len_seqK K) (by rfl) T.n_len PySem.boot_len (pa_cons (pv 1) pa_nil)))) pa_nil)))))), ?_⟩
    walk_at "rd"
    refine ⟨x, U, rfl, hx, by omega, fun _ H1 s1 => ?_, fun z => by rw [g] at z; exact nomatch z⟩
    walk_at "rd"
    refine ⟨x, U, rfl, hx.stay (.of s1), g, by omega, fun lp xs H2 s2 np hlp hpl => ?_⟩
    walk_at "rd"
    refine ⟨⟨_, sqL hlp⟩, fun D nD => ?_⟩
    have lxs : xs.length = U.size := by rw [pd_len hpl, List.length_map, Tm.len_plc]
    refine lc_list (K := K) (a := lp) (xs := xs) (LcI H2 D fun j acc _ => acc = ((U.plc.map fun q => ((q.1.length : Nat) : Int)).take j).map V.int) (LcI.zero nD rfl) (fun j H3 _ hP => hP.1.seq (sqL hlp)) (fun j x1 H3 hx1 hP => ?_) (fun H3 hP => ?_)
    · obtain ⟨s3, acc, hD, hal, rfl⟩ := hP
      obtain ⟨p, hp, z, rfl, hz1⟩ := pd_get' hpl hx1
      have hz3 := (Tups.of s3).sq hz1
      have hj := (List.getElem?_eq_some_iff.mp hx1).1
      walk_at "rd"
      refine ⟨rfl, ?_⟩
      walk_at "rd"
      refine LcI.keep nD s3 hD hal (by omega) (Same.refl _) ?_
      rw [List.getElem?_map] at hp
      obtain ⟨u, hu, rfl⟩ := Option.map_eq_some_iff.mp hp
      rw [take_snoc (x := ((u.1.length : Nat) : Int)) (by rw [List.getElem?_map, hu]; rfl), List.map_append]
      show _ ++ [V.int ((plI u.1).length : Nat)] = _
      rw [show (plI u.1).length = u.1.length from List.length_map ..]
      rfl
    · obtain ⟨s3, acc, hD, hal, rfl⟩ := hP
      rw [List.take_of_length_le (by rw [List.length_map, Tm.len_plc]; omega)] at hD
      walk_at "rd"
      refine ⟨D, _, rfl, sqL hD, by rw [List.length_map, Tm.len_plc]; exact U.size_pos, fun m hm hle => ?_⟩
      walk_at "rd"
      have e : (1 : Int) + m = (U.dep : Nat) := by
        obtain ⟨qd, hqd, ed⟩ := plc_deep U.dep U rfl
        have h1 := hle _ (List.mem_map.mpr ⟨qd, hqd, rfl⟩)
        obtain ⟨u, hu, rfl⟩ := List.mem_map.mp hm
        have h2 := plc_len hu
        omega
      rw [e]
      exact q H3 ((s1.trans s2).trans s3)
end
end Pf

/-! a tree's parts from the last to the first: the forest that is still to be put together -/
namespace Pf
namespace Tm
def stp : List Tm → List Tm
  | [] => []
  | p :: r => p.kids ++ r
def fo (L : List Tm) : Nat → List Tm
  | 0 => L
  | j + 1 => stp (fo L j)
theorem pres_stp : ∀ M : List Tm, pres (stp M) = (pres M).drop 1
  | [] => rfl
  | p :: r => by
    show pres (p.kids ++ r) = (pre p ++ pres r).drop 1
    rw [pres_app, pre_kids p]
    rfl
theorem pres_fo (L : List Tm) : ∀ j, pres (fo L j) = (pres L).drop j
  | 0 => rfl
  | j + 1 => by
    show pres (stp (fo L j)) = _
    rw [pres_stp, pres_fo L j, List.drop_drop]
theorem fo_head {L : List Tm} {j : Nat} {U : Tm} (h : (pres L)[j]? = some U) : ∃ r, fo L j = U :: r := by
  have e := pres_fo L j
  cases q : fo L j with
  | nil =>
    rw [q] at e
    have : (pres L).drop j = [] := e.symm
    rw [List.drop_eq_nil_iff] at this
    rw [List.getElem?_eq_none this] at h
    cases h
  | cons p r =>
    rw [q] at e
    have e2 : p :: (pres p.kids ++ pres r) = (pres L).drop j := by
      rw [← e]
      show _ = pre p ++ pres r
      rw [pre_kids p]; rfl
    have : ((pres L).drop j)[0]? = some U := by rw [List.getElem?_drop]; exact h
    rw [← e2] at this
    cases this
    exact ⟨r, rfl⟩
theorem fo_end (T : Tm) : fo [T] T.size = [] := by
  have e := pres_fo [T] T.size
  rw [List.drop_of_length_le (by rw [len_pres]; show size T + 0 ≤ _; omega)] at e
  cases q : fo [T] T.size with
  | nil => rfl
  | cons p r =>
    rw [q] at e
    have : pre p ++ pres r = [] := e
    rw [pre_kids] at this
    cases this
/-- trees each with its place among all parts in order -/
def kpos : Nat → List Tm → List (Nat × Tm)
  | _, [] => []
  | j, k :: r => (j, k) :: kpos (j + k.size) r
theorem kpos_app : ∀ (a b : List Tm) (j : Nat), kpos j (a ++ b) = kpos j a ++ kpos (j + sizes a) b
  | [], b, j => rfl
  | p :: r, b, j => by
    show (j, p) :: kpos (j + p.size) (r ++ b) = ((j, p) :: kpos (j + p.size) r) ++ kpos (j + (size p + sizes r)) b
    rw [kpos_app r b, List.cons_append, Nat.add_assoc]
theorem len_kpos : ∀ (a : List Tm) (j : Nat), (kpos j a).length = a.length
  | [], j => rfl
  | p :: r, j => congrArg (· + 1) (len_kpos r _)
theorem kpos_snd : ∀ (a : List Tm) (j : Nat), (kpos j a).map (·.2) = a
  | [], j => rfl
  | p :: r, j => congrArg (p :: ·) (kpos_snd r _)
/-- the forest from place j on -/
def fos (T : Tm) (j : Nat) : List (Nat × Tm) := kpos j (fo [T] j)
theorem fos_step {T U : Tm} {j : Nat} (h : T.pre[j]? = some U) : ∃ B, fos T j = (j, U) :: B ∧ fos T (j + 1) = kpos (j + 1) U.kids ++ B := by
  obtain ⟨r, hr⟩ := fo_head (L := [T]) (j := j) (U := U) (by show (pre T ++ [])[j]? = _; rw [List.append_nil]; exact h)
  refine ⟨kpos (j + U.size) r, by unfold fos; rw [hr]; rfl, ?_⟩
  show kpos (j + 1) (stp (fo [T] j)) = _
  rw [hr]
  show kpos (j + 1) (U.kids ++ r) = _
  rw [kpos_app, size_kids U, Nat.add_assoc]
theorem fos_end (T : Tm) : fos T T.size = [] := by unfold fos; rw [fo_end]; rfl
theorem fos_0 (T : Tm) : fos T 0 = [(0, T)] := rfl
end Tm
end Pf

namespace Pf
open PySem PySem.Spec PyProof.Rows L2 LamX NdefX
local macro_rules | `(tactic| walk_at "rd") => `(tactic| (repeat' (first
  | with_reducible refine r_seq ?_ | with_reducible refine r_asg ?_ | with_reducible refine r_ret ?_ | with_reducible refine r_retN ?_ | with_reducible refine r_drop ?_ | with_reducible refine r_if ?_
  | with_reducible refine r_op ?_ | (with_reducible show tVar _ _ _ _; refine r_var rfl ?_) | with_reducible refine r_c ?_ | with_reducible refine r_I0 ?_ | (with_reducible refine r_I ?c ?_; (case c => first | (show (0 : Int) < _; first | decide | assumption | omega) | exact cmul_r ⟨by decide, by decide⟩ | exact cmul_l ⟨by decide, by decide⟩ | exact cmul_r (by first | assumption | constructor <;> omega) | (unfold CDiv; constructor <;> decide) | (unfold CPow; refine ⟨?_, ?_, ?_⟩ <;> decide))) | with_reducible refine r_name ?_ | (with_reducible show rIxL _ _ _ _ _; refine r_ixL (sqL (by assumption)) rfl ?_) | (with_reducible show rIxT _ _ _ _ _; refine r_ixT (by assumption) rfl ?_) | (with_reducible show rSetL _ _ _ _ _; refine r_setL (by assumption) rfl ?_) | with_reducible refine r_test ?_ | with_reducible refine r_tB ?_ | with_reducible refine r_bl ?_
  | with_reducible refine r_not ?_ | with_reducible refine r_and ?_ | with_reducible refine r_or ?_ | with_reducible refine r_andV ?_ | with_reducible refine r_orV ?_ | with_reducible refine r_notV ?_ | with_reducible refine r_ifE ?_
  | with_reducible refine r_cons ?_ | with_reducible refine r_nil ?_ | with_reducible refine r_cb ?_ | with_reducible refine r_call ?_ | with_reducible refine r_lst ?_ | with_reducible refine r_tup ?_ | with_reducible refine r_bm ?_ | with_reducible refine r_bm0 ?_
  | with_reducible refine r_un ?_ | with_reducible refine r_U ?_ | with_reducible refine r_eqI ?_ | with_reducible refine r_eqS ?_ | with_reducible refine r_neI ?_ | with_reducible refine r_neS ?_ | with_reducible refine r_sub ?_ | with_reducible refine r_gcons ?_ | with_reducible refine r_gnil ?_
  | with_reducible refine r_chain ?_ | with_reducible refine r_get2 ?_ | with_reducible refine r_iList ?_ | with_reducible refine r_iStr ?_ | with_reducible refine r_iTup ?_ | with_reducible refine r_iRev ?_ | with_reducible refine r_iItems ?_ | with_reducible refine r_rng ?_ | with_reducible refine r_inS ?_ | with_reducible refine r_bI ?_ | with_reducible refine r_abs ?_ | with_reducible refine r_sl ?_ | with_reducible refine r_next ?_ | with_reducible refine r_yes ?_
  | (with_reducible show rLen _ _ _ _; first | refine r_lenK (sqL (by assumption)) ?_ | refine r_lenK (by assumption) ?_ | refine r_lenTK (by assumption) ?_)
  | (with_reducible show tFor _ _ _ _ _ _; unfold tFor) | (with_reducible show tLc _ _ _ _ _ _ _ _; unfold tLc) | (with_reducible show tWhile _ _ _ _ _; unfold tWhile)
  | (with_reducible refine ⟨_, rfl, ?_⟩) | (with_reducible refine ⟨_, _, rfl, rfl, ?_⟩) | (with_reducible refine Or.inr ⟨_, rfl, ?_⟩) | (refine ⟨_, _, rfl, Or.inl (by assumption), ?_⟩; skip) | (refine ⟨_, _, rfl, Or.inr (by assumption), ?_⟩; skip)
  | (with_reducible refine iteNT ?_) | (with_reducible refine iteNF ?_) | (with_reducible refine iteT ?_) | (with_reducible refine iteF ?_)
  | (dsimp only [Bool.not_true, Bool.not_false, List.cons_append, List.nil_append]))))

local macro_rules | `(tactic| walk_at "st") => `(tactic| first | exact Same.refl _ | assumption | (refine Same.trans (by assumption) ?_; walk_at "st"))
local macro_rules | `(tactic| walk_at "ok") => `(tactic| first | assumption | exact up_tm (by assumption) (by walk_at "st") | exact up_sqT (by assumption) (by walk_at "st") | exact up_get (by assumption) (by walk_at "st") | exact up_getL (by assumption) (by walk_at "st") | exact up_getT (by assumption) (by walk_at "st") | exact up_sqL (by assumption) (by walk_at "st") | exact up_tms (by assumption) (by walk_at "st") | exact up_tnD (by assumption) (by walk_at "st") | exact up_tn (by assumption) (by walk_at "st") | exact ⟨_, up_getL (by assumption) (by walk_at "st")⟩ | exact ⟨_, up_sqL (by assumption) (by walk_at "st")⟩)

abbrev kR : Nat := 8
/-- what a function must do that puts parts together: Rr tells what belongs to a place -/
def Puts (P : Program) (w : World) (K : PySem.W.Frag) (mg : Str → Option Value) (base : Heap) (k : Nat) (H : Hp) (f : Addr) (T : Tm) (Rr : Nat → Tm → V → Hp → Prop) : Prop :=
  FnH H f ∧ ∃ sp : Sp, VOk P w K mg base k f sp ∧ ∀ (H1 : Hp) (i : Nat) (U : Tm) (tl : Addr) (ys : List V) (Q : VK) (E : XK), Same H H1 → T.pre[i]? = some U → H1 tl = some (.lst ys) → Paired (fun v q => Rr q.1 q.2 v H1) ys (Tm.kpos (i + 1) U.kids) →
    (∀ y H2, Same H1 H2 → Rr i U y H2 → Q y H2) → sp [.int i, .ref tl] H1 Q E
def sp_rebuilt (P : Program) (w : World) (K : PySem.W.Frag) (mg : Str → Option Value) (base : Heap) : Sp := fun vs H Q _ => ∃ (l f : Addr) (xs : List V) (T : Tm) (Rr : Nat → Tm → V → Hp → Prop), vs = [.ref l, .ref f] ∧ H l = some (.lst xs) ∧ TmsV K H xs T.pre ∧ T.good = true ∧ T.size ≤ 900 ∧
  (∀ i C v H1 H2, Rr i C v H1 → Stay K H1 H2 → Rr i C v H2) ∧ Puts P w K mg base kR H f T Rr ∧ ∀ y H2, Same H H2 → Rr 0 T y H2 → Q y H2
theorem fos_len (T : Tm) (j : Nat) : (T.fos j).length ≤ T.size := by
  unfold Tm.fos
  rw [Tm.len_kpos]
  have h1 := Tm.sizes_len (Tm.fo [T] j)
  rw [← Tm.len_pres, Tm.pres_fo, List.length_drop, Tm.len_pres] at h1
  have : Tm.sizes [T] = T.size := rfl
  omega
theorem r_revLen {K : PySem.W.Frag} {i : Nat} {σ : L2.St} {H : Hp} {R : It → Hp → Prop} {p : Addr} {xs : List V} (hs : σ[i]? = some (some (.ref p))) (s : SqL K H p xs) (few : xs.length ≤ 100000) (h : R (Itc ((xs.length : Int) - 1) (-1) xs.length) H) :
    iRevR (tRg1 (tCB (rLen K) (tCons (tVar i) tNil))) σ H R := by
  refine ⟨.ref p, hs, p, xs, rfl, .inl s, xs.length, rfl, by decide, by decide, by omega, by omega, ?_⟩
  have e0 : ((xs.length : Int) - 0).toNat = xs.length := by omega
  rw [e0, show (0 : Int) + ((xs.length : Nat) : Int) - 1 = (xs.length : Int) - 1 by omega]
  exact h
mutual
theorem pre_le {U : Tm} : ∀ W ∈ U.pre, W.size ≤ U.size := fun W hW => by
  cases U with
  | name n => cases List.mem_singleton.mp hW; exact Nat.le_refl _
  | hole t X => cases List.mem_singleton.mp hW; exact Nat.le_refl _
  | bad => cases List.mem_singleton.mp hW; exact Nat.le_refl _
  | shut n b =>
    rcases List.mem_cons.mp hW with rfl | hW
    · exact Nat.le_refl _
    · have := pre_le (U := b) W hW
      show _ ≤ 1 + b.size
      omega
  | sign n ps =>
    rcases List.mem_cons.mp hW with rfl | hW
    · exact Nat.le_refl _
    · have := pres_le (Us := ps) W hW
      show _ ≤ 1 + Tm.sizes ps
      omega
theorem pres_le {Us : List Tm} : ∀ W ∈ Tm.pres Us, W.size ≤ Tm.sizes Us := fun W hW => by
  cases Us with
  | nil => exact nomatch hW
  | cons p r =>
    show _ ≤ p.size + Tm.sizes r
    rcases List.mem_append.mp hW with hW | hW
    · have := pre_le (U := p) W hW; omega
    · have := pres_le (Us := r) W hW; omega
end
theorem pd_unapp {α β : Type} {R : α → β → Prop} : ∀ {ys ys2 : List β} {xs : List α}, Paired R xs (ys ++ ys2) → ∃ a b, xs = a ++ b ∧ Paired R a ys ∧ Paired R b ys2
  | [], ys2, xs, h => ⟨[], xs, rfl, .nil, h⟩
  | y :: ys, ys2, x :: xs, .cons r t => by
    obtain ⟨a, b, rfl, h1, h2⟩ := pd_unapp t
    exact ⟨x :: a, b, rfl, .cons r h1, h2⟩
section
variable {P : Program} {w : World} {K : PySem.W.Frag} {mg : Str → Option Value} {base : Heap} {a : Ad}
theorem G_rebuilt (T : Txt K mg a) : FnOk P w K mg base CX0 9 a.f_rebuilt a.d_rebuilt ["parts", "make"] (sp_rebuilt P w K mg base) := by
  refine T.F_rebuilt.ok sc_rebuilt (fun vs H Q E h => ?_) (fun cdv A outer s H vs Q E hr h => ?_)
  · obtain ⟨l, f, xs, U, Rr, rfl, _⟩ := h
    rfl
  · obtain ⟨l, f, xs, U, Rr, rfl, hl, hx, g, zU, mono, ⟨hf, sp, vo, hsp⟩, q⟩ := h
    refine ⟨_, (pss_cons (ps_set (i := 2) sc_rebuilt.nd rfl (.inr rfl) (pe_lst pa_nil))
        (pss_cons (ps_for PassesOwn.never rfl (pi_revR (by rfl) T.n_reversed (prg_1 (by rfl) T.n_range (pe_callB (call_len_seqK K) (by rfl) T.n_len PySem.boot_len (pa_cons (pv 0) pa_nil)))) (pg_name (i := 3) sc_rebuilt.nd rfl (by first | exact Or.inl rfl | exact Or.inr rfl)) (pss_cons (ps_setLc (i := 4) (own := [("_", 5)]) (by rfl) sc_rebuilt.nd rfl rfl (sw_true rfl rfl rfl (by decide +kernel)) (pi_tupK K (pe_call (G_within (K := K) T) (hr.mono (by decide)) (by rfl) T.g_within T.F_within.kp T.b_within .nil pass0 (pa_cons (pe_ix (ix_listK K) (pv 0) (pv 3) (fun _ _ => rfl)) pa_nil))) (blkOk_by (N := N_rebuilt) (sc := defScope s_rebuilt) (by decide +kernel)) (fun _ _ _ _ _ => (pg_name (i := 5) sc_rebuilt.nd rfl (by first | exact Or.inl rfl | exact Or.inr rfl))) (fun _ _ _ _ _ => pts_nil) (fun _ _ _ _ _ => (pe_bm0K K PySem.F.plainAttrs_list PySem.F.slot_list_pop PySem.F.type_list_pop mt_pop (pv 2))))
        (pss_one (ps_expr (pe_bmK K PySem.F.plainAttrs_list PySem.F.slot_list_append PySem.F.type_list_append mt_append (pv 2) (pa_cons (show PE _ _ (tCallV P w K mg base _ 1 E0 _) from pe_callV (E := E0) hr (fun _ _ _ _ _ _ _ z => z.elim) (by rfl) (by first | exact Or.inl rfl | exact Or.inr (Or.inl rfl) | exact Or.inr (Or.inr rfl)) (pa_cons (pv 3) (pa_cons (pv 4) pa_nil))) pa_nil))))))
        (pss_one (ps_ret (pe_bm0K K PySem.F.plainAttrs_list PySem.F.slot_list_pop PySem.F.type_list_pop mt_pop (pv 2)))))), ?_⟩
    walk_at "rd"
    refine ⟨Nat.zero_le _, fun ld nld => ?_⟩
    have s1 := same_new (o := .lst []) nld
    have h1 := upd_same (H := H) (a := ld) (o := .lst [])
    generalize upd H ld (.lst []) = H1 at s1 h1 ⊢
    walk_at "rd"
    have lx := tms_len hx
    rw [Tm.len_pre] at lx
    refine r_revLen (p := l) rfl (sqL (s1 _ _ hl)) (by omega) ?_
    rw [lx]
    refine forN (J := Itc (((U.size : Nat) : Int) - 1) (-1) U.size) (n := U.size) (fun i σ Hc => ∃ (ds vs : List V) (y3 y4 y5 : Option V), σ = [some (.ref l), some (.ref f), some (.ref ld), y3, y4, y5] ∧ Same H Hc ∧ Hc ld = some (.lst ds) ∧ ds = vs.reverse ∧ Paired (fun v q => Rr q.1 q.2 v Hc) vs (U.fos (U.size - i)))
      ⟨[], [], none, none, none, rfl, s1, h1, rfl, by rw [Nat.sub_zero, Tm.fos_end]; exact .nil⟩ (fun i σ Hc hi _ => hi) (fun σ Hc _ => Nat.le_refl _) (fun i x1 σ Hc Hd hi hP hyl => ?_) (fun σ Hc hP => ?_)
    · obtain ⟨ds, vs, y3, y4, y5, rfl, sC, hdC, rfl, hvs⟩ := hP
      obtain ⟨rfl, rfl⟩ := hyl
      obtain ⟨j, hj⟩ : ∃ j, j = U.size - (i + 1) := ⟨_, rfl⟩
      have ej : (((U.size : Nat) : Int) - 1) + (i : Nat) * (-1) = ((j : Nat) : Int) := by omega
      rw [ej]
      obtain ⟨C, hC⟩ : ∃ C, U.pre[j]? = some C := ⟨_, List.getElem?_eq_getElem (by rw [Tm.len_pre]; omega)⟩
      obtain ⟨B, hB1, hB2⟩ := Tm.fos_step hC
      rw [show U.size - i = j + 1 by omega, hB2] at hvs
      rw [show U.size - (i + 1) = j by omega, hB1]
      obtain ⟨v, hv, hvC⟩ := pd_get (hx.stay (.of sC)).pd hC
      have gC : C.isBad = false := pre_good g C (List.mem_of_getElem? hC)
      walk_at "rd"
      refine r_ixL (sqL (sC _ _ hl)) (atI_nat hv) ?_
      walk_at "rd"
      refine ⟨v, C, rfl, hvC, gC, fun qk ks H2 s2 hk hkT => ?_⟩
      walk_at "rd"
      refine ⟨⟨_, hk⟩, fun D nD => ?_⟩
      have lk := tms_len hkT
      obtain ⟨va, vb, rfl, hva, hvb⟩ := pd_unapp hvs
      have lva := pd_len hva
      rw [Tm.len_kpos] at lva
      have sC2 := sC.trans s2
      have hd2 := s2 _ _ hdC
      have nDH : H D = none := sC2.free nD
      have neD : ld ≠ D := ne_of_none hd2 nD
      have few : va.length ≤ 900 := by
        have := Tm.sizes_len C.kids
        have := Tm.size_kids C
        have := pre_le C (List.mem_of_getElem? hC)
        omega
      have sD : Same H2 (upd H2 D (.lst [])) := same_new nD
      refine lc_tup (K := K) (a := qk) (xs := ks) (fun k Hx => Same H Hx ∧ SqT K Hx qk ks ∧ Stay K H2 Hx ∧ Hx ld = some (.lst (va.drop k ++ vb).reverse) ∧ Hx D = some (.lst (va.take k)))
        ⟨sC2.trans sD, (Tups.of sD).sq hk, .of sD, sD _ _ hd2, upd_same⟩ (fun k Hx _ hP => hP.2.1) (fun k x1 Hx hx1 hP => ?_) (fun Hx hP => ?_)
      · obtain ⟨sx, hqx, stx, hdx, hDx⟩ := hP
        have kl := (List.getElem?_eq_some_iff.mp hx1).1
        obtain ⟨v0, hv0⟩ : ∃ v0, va[k]? = some v0 := ⟨_, List.getElem?_eq_getElem (by omega)⟩
        have ed : va.drop k = v0 :: va.drop (k + 1) := by
          rw [List.drop_eq_getElem_cons (by omega)]
          rw [List.getElem?_eq_getElem (by omega)] at hv0
          cases hv0
          rfl
        rw [ed, List.cons_append, List.reverse_cons] at hdx
        walk_at "rd"
        refine ⟨rfl, ?_⟩
        walk_at "rd"
        refine ⟨.inl ⟨rfl, _, sqL hdx⟩, ?_⟩
        refine ⟨ld, _, v0, rfl, rfl, hdx, by simp, va.take k, ?_, ?_, ?_⟩
        · rw [upd_ne neD.symm]; exact hDx
        · rw [List.length_take, sizeLine_eq]; omega
        rw [List.dropLast_concat]
        have st1 : Stay K Hx (upd Hx ld (.lst (va.drop (k + 1) ++ vb).reverse)) := Stay.at (K := K) (fun b o n e => by rw [upd_ne n]; exact e) hdx upd_same
        have hD1 : upd Hx ld (.lst (va.drop (k + 1) ++ vb).reverse) D = some (.lst (va.take k)) := by rw [upd_ne neD.symm]; exact hDx
        have st2 : Stay K (upd Hx ld (.lst (va.drop (k + 1) ++ vb).reverse)) (upd (upd Hx ld (.lst (va.drop (k + 1) ++ vb).reverse)) D (.lst (va.take k ++ [v0]))) := Stay.at (K := K) (fun b o n e => by rw [upd_ne n]; exact e) hD1 upd_same
        refine ⟨Pf.Same.mut (Pf.Same.mut sx nld) nDH, (st1.trans st2).tups.sq hqx, stx.trans (st1.trans st2), by rw [upd_ne neD]; exact upd_same, ?_⟩
        rw [take_snoc hv0]
        exact upd_same
      · obtain ⟨sx, hqx, stx, hdx, hDx⟩ := hP
        rw [List.drop_of_length_le (by omega), List.nil_append] at hdx
        rw [List.take_of_length_le (by omega)] at hDx
        walk_at "rd"
        have stC : Stay K Hd Hx := (Stay.of s2).trans stx
        refine ⟨.inl ⟨rfl, _, sqL hdx⟩, ?_⟩
        refine ⟨f, rfl, hf.same sx, ?_⟩
        walk_at "rd"
        refine ⟨hf.same sx, sp, vo, hsp Hx j C D va _ _ sx hC hDx (pd_mono (fun _ _ r => mono _ _ _ _ _ r stC) hva) fun y H4 s4 ry => ?_⟩
        walk_at "rd"
        have lvb := pd_len hvb
        have lB := fos_len U j
        rw [hB1, List.length_cons] at lB
        have hd4 := s4 _ _ hdx
        refine ⟨ld, vb.reverse, y, rfl, rfl, hd4, by rw [List.length_reverse, sizeLine_eq]; omega, ?_⟩
        have st4 : Stay K H4 (upd H4 ld (.lst (vb.reverse ++ [y]))) := Stay.at (K := K) (fun b o n e => by rw [upd_ne n]; exact e) hd4 upd_same
        exact ⟨_, y :: vb, _, _, _, rfl, Pf.Same.mut (sx.trans s4) nld, upd_same, List.reverse_cons.symm, .cons (mono _ _ _ _ _ ry st4) (pd_mono (fun _ _ r => mono _ _ _ _ _ r ((stC.trans (.of s4)).trans st4)) hvb)⟩
    · obtain ⟨ds, vs, y3, y4, y5, rfl, sC, hdC, rfl, hvs⟩ := hP
      rw [Nat.sub_self, Tm.fos_0] at hvs
      cases hvs with
      | cons r0 t =>
        cases t
        walk_at "rd"
        refine ⟨.inl ⟨rfl, _, sqL hdC⟩, ?_⟩
        refine ⟨ld, _, _, rfl, rfl, hdC, rfl, ?_⟩
        refine q _ _ (Pf.Same.mut sC nld) (mono _ _ _ _ _ r0 (Stay.at (K := K) (fun b o n e => by rw [upd_ne n]; exact e) hdC upd_same))
end
end Pf

namespace Pf
open PySem PySem.Spec PyProof.Rows L2 LamX NdefX
local macro_rules | `(tactic| walk_at "rd") => `(tactic| (repeat' (first
  | with_reducible refine r_seq ?_ | with_reducible refine r_asg ?_ | with_reducible refine r_ret ?_ | with_reducible refine r_retN ?_ | with_reducible refine r_drop ?_ | with_reducible refine r_if ?_
  | with_reducible refine r_op ?_ | (with_reducible show tVar _ _ _ _; refine r_var rfl ?_) | with_reducible refine r_c ?_ | with_reducible refine r_I0 ?_ | (with_reducible refine r_I ?c ?_; (case c => first | (show (0 : Int) < _; first | decide | assumption | omega) | exact cmul_r ⟨by decide, by decide⟩ | exact cmul_l ⟨by decide, by decide⟩ | exact cmul_r (by first | assumption | constructor <;> omega) | (unfold CDiv; constructor <;> decide) | (unfold CPow; refine ⟨?_, ?_, ?_⟩ <;> decide))) | with_reducible refine r_name ?_ | (with_reducible show rIxL _ _ _ _ _; refine r_ixL (sqL (by assumption)) rfl ?_) | (with_reducible show rIxT _ _ _ _ _; refine r_ixT (by assumption) rfl ?_) | (with_reducible show rSetL _ _ _ _ _; refine r_setL (by assumption) rfl ?_) | with_reducible refine r_test ?_ | with_reducible refine r_tB ?_ | with_reducible refine r_bl ?_
  | with_reducible refine r_not ?_ | with_reducible refine r_and ?_ | with_reducible refine r_or ?_ | with_reducible refine r_andV ?_ | with_reducible refine r_orV ?_ | with_reducible refine r_notV ?_ | with_reducible refine r_ifE ?_
  | with_reducible refine r_cons ?_ | with_reducible refine r_nil ?_ | with_reducible refine r_cb ?_ | with_reducible refine r_call ?_ | with_reducible refine r_lst ?_ | with_reducible refine r_tup ?_ | with_reducible refine r_bm ?_ | with_reducible refine r_bm0 ?_
  | with_reducible refine r_un ?_ | with_reducible refine r_U ?_ | with_reducible refine r_eqI ?_ | with_reducible refine r_eqS ?_ | with_reducible refine r_neI ?_ | with_reducible refine r_neS ?_ | with_reducible refine r_sub ?_ | with_reducible refine r_gcons ?_ | with_reducible refine r_gnil ?_
  | with_reducible refine r_chain ?_ | with_reducible refine r_get2 ?_ | with_reducible refine r_iList ?_ | with_reducible refine r_iStr ?_ | with_reducible refine r_iTup ?_ | with_reducible refine r_iRev ?_ | with_reducible refine r_iItems ?_ | with_reducible refine r_rng ?_ | with_reducible refine r_inS ?_ | with_reducible refine r_bI ?_ | with_reducible refine r_abs ?_ | with_reducible refine r_sl ?_ | with_reducible refine r_next ?_ | with_reducible refine r_yes ?_
  | (with_reducible show rLen _ _ _ _; first | refine r_lenK (sqL (by assumption)) ?_ | refine r_lenK (by assumption) ?_ | refine r_lenTK (by assumption) ?_)
  | (with_reducible show tFor _ _ _ _ _ _; unfold tFor) | (with_reducible show tLc _ _ _ _ _ _ _ _; unfold tLc) | (with_reducible show tWhile _ _ _ _ _; unfold tWhile)
  | (with_reducible refine ⟨_, rfl, ?_⟩) | (with_reducible refine ⟨_, _, rfl, rfl, ?_⟩) | (with_reducible refine Or.inr ⟨_, rfl, ?_⟩) | (refine ⟨_, _, rfl, Or.inl (by assumption), ?_⟩; skip) | (refine ⟨_, _, rfl, Or.inr (by assumption), ?_⟩; skip)
  | (with_reducible refine iteNT ?_) | (with_reducible refine iteNF ?_) | (with_reducible refine iteT ?_) | (with_reducible refine iteF ?_)
  | (dsimp only [Bool.not_true, Bool.not_false, List.cons_append, List.nil_append]))))

local macro_rules | `(tactic| walk_at "st") => `(tactic| first | exact Same.refl _ | assumption | (refine Same.trans (by assumption) ?_; walk_at "st"))
local macro_rules | `(tactic| walk_at "ok") => `(tactic| first | assumption | exact up_tm (by assumption) (by walk_at "st") | exact up_sqT (by assumption) (by walk_at "st") | exact up_get (by assumption) (by walk_at "st") | exact up_getL (by assumption) (by walk_at "st") | exact up_getT (by assumption) (by walk_at "st") | exact up_sqL (by assumption) (by walk_at "st") | exact up_tms (by assumption) (by walk_at "st") | exact up_tnD (by assumption) (by walk_at "st") | exact up_tn (by assumption) (by walk_at "st") | exact ⟨_, up_getL (by assumption) (by walk_at "st")⟩ | exact ⟨_, up_sqL (by assumption) (by walk_at "st")⟩)

/-- all stays but the tables of code objects, and these tell the same -/
structure XN (a : Ad) (H H2 : Hp) : Prop where
  ext : ExtN H H2
  old : ∀ b, H2 b = none → H b = none
  tab : TabsN (tabs a) H2
theorem XN.trans {a : Ad} {H H1 H2 : Hp} (x : XN a H H1) (y : XN a H1 H2) : XN a H H2 := ⟨x.ext.trans y.ext, fun b e => x.old b (y.old b e), y.tab⟩
theorem XN.same {a : Ad} {H H1 H2 : Hp} (x : XN a H H1) (s : Same H1 H2) : XN a H H2 := ⟨x.ext.trans (ExtN.of s), fun b e => x.old b (s.free e), x.tab.ext s⟩
theorem XN.of {a : Ad} {H H2 : Hp} (t : TabsN (tabs a) H) (s : Same H H2) : XN a H H2 := ⟨ExtN.of s, fun b e => s.free e, t.ext s⟩
theorem XN.stay {a : Ad} {K : PySem.W.Frag} {H H2 : Hp} (x : XN a H H2) : Stay K H H2 := (Ext2.ofN x.ext).stay
/-- what a function must do that changes parts -/
def Mks (P : Program) (w : World) (K : PySem.W.Frag) (mg : Str → Option Value) (base : Heap) (k : Nat) (H : Hp) (f : Addr) (T : Tm) (Rr : Tm → V → Hp → Prop) : Prop :=
  FnH H f ∧ ∃ sp : Sp, VOk P w K mg base k f sp ∧ ∀ (H1 : Hp) (C : Tm) (v : V) (tl : Addr) (ys : List V) (Q : VK) (E : XK), ExtN H H1 → C ∈ T.pre → TmV K H1 v C → H1 tl = some (.lst ys) → Paired (fun v k => Rr k v H1) ys C.kids →
    (∀ y H2, Same H1 H2 → Rr C y H2 → Q y H2) → sp [v, .ref tl] H1 Q E
def sp_changed (a : Ad) (P : Program) (w : World) (K : PySem.W.Frag) (mg : Str → Option Value) (base : Heap) : Sp := fun vs H Q _ => ∃ (x : V) (f : Addr) (T : Tm) (Rr : Tm → V → Hp → Prop), vs = [x, .ref f] ∧ TmV K H x T ∧ T.good = true ∧ T.size ≤ 900 ∧ TabsN (tabs a) H ∧
  (∀ C v H1 H2, Rr C v H1 → Stay K H1 H2 → Rr C v H2) ∧ Mks P w K mg base 7 H f T Rr ∧ ∀ y H2, XN a H H2 → Rr T y H2 → Q y H2
theorem r_callZ {cl : List (Str × Addr)} {fr : List Str} {js : List Nat} {sp : Sp} {E : XK} {t : TA} {σ : L2.St} {H : Hp} {Q : VK} (h : t σ H fun vs H1 => ∃ ws : List V, js.map (slotAt σ) = ws.map some ∧
    ∀ z, PinsOf cl fr ws z → Bare z H1 → sp vs (pinA H1 z) (fun v H2 => Pinned z H2 ∧ Q v (unpA H2 z)) E) : tCallZ cl fr js sp E t σ H Q := h
theorem r_lamV {T : List NTab} {body : Expr} {mk : Addr → NF} {σ : L2.St} {H : Hp} {Q : VK} (t0 : TabsN T H) (h : ∀ (f c2 : Addr) (H1 : Hp), ExtN H H1 → (∀ b, H1 b = none → H b = none) → TabsN T H1 → H f = none → H1 f = some (LamO f (mk c2) body) → H1 c2 = some (CodeO c2 (mk c2).qual) → Q (.ref f) H1) : tLamV T body mk σ H Q := ⟨t0, h⟩
theorem r_callV {P : Program} {w : World} {K : PySem.W.Frag} {mg : Str → Option Value} {base : Heap} {k i : Nat} {E : XK} {t : TA} {σ : L2.St} {H : Hp} {Q : VK} (h : ∃ f : Addr, σ[i]? = some (some (.ref f)) ∧ FnH H f ∧ t σ H fun vs H1 => FnH H1 f ∧ ∃ sp : Sp, VOk P w K mg base k f sp ∧ sp vs H1 Q E) : tCallV P w K mg base k i E t σ H Q := h
theorem lam_okE {P : Program} {w : World} {K : PySem.W.Frag} {mg : Str → Option Value} {base : Heap} {N ps fr : List Str} {F : NF} {body : Expr} {f : Addr} {k : Nat} {sp : Sp} {ws : List V} {z : Pz} {H0 : Hp} (_ : H0 f = some (LamO f F body))
    (S : NScope N ps fr F.scope) (pz : PinsOf F.cl fr ws z) (hb : ∀ (pm ctv : Value) (us : List Value), us.length = ps.length → bindArgs (PySem.W.kla_fn F.name F.qual F.params body F.scope F.cl pm (.ref F.c) ctv) ⟨us, []⟩ = pure (ps.zip us))
    (hbody : ∀ (A : Around) (outer : List Env) (s : Shared) (H : Hp) (vs : List V) (Q : VK) (E : XK), Room k (A.deeper (envF F f s.heap.objs.size)) → vs.length = ps.length → sp vs H Q E →
      ∃ t, PE (ncx C8.CX0 P w K mg base N F f A outer s H E) body t ∧ t (startF N vs (ws.map some)) H Q) :
    VOk P w K mg base (k + 1) f (spL f F body ps.length z sp) := lam_ok S pz hb hbody
section
variable {P : Program} {w : World} {K : PySem.W.Frag} {mg : Str → Option Value} {base : Heap} {a : Ad}
theorem G_changed (T : Txt K mg a) (B : Tbs base mg a) : FnOk P w K mg base CX0 10 a.f_changed a.d_changed ["term", "make"] (sp_changed a P w K mg base) := by
  refine T.C_changed.ok sc_changed (fun vs H Q E h => ?_) (fun A outer s H vs Q E hr h => ?_)
  · obtain ⟨x, f, U, Rr, rfl, _⟩ := h
    rfl
  · obtain ⟨x, f, U, Rr, rfl, hx, g, zU, tab, mono, ⟨hf, sp, vo, hsp⟩, q⟩ := h
    refine ⟨_, (pss_cons (ps_set (i := 2) sc_changed.nd rfl (.inr rfl) (pe_call (G_parts_in (K := K) T) (hr.mono (by decide)) (by rfl) T.g_parts_in T.F_parts_in.kp T.b_parts_in .nil pass0 (pa_cons (pv 0) pa_nil)))
        (pss_one (ps_ret (pe_callZ2 ["make", "parts"] [1, 2] (G_rebuilt (K := K) T) (hr.mono (by decide)) (by rfl) T.g_rebuilt T.F_rebuilt.kp T.b_rebuilt (by show NdefX.ndefB (defScope s_changed) _ _ = true; decide +kernel) (by rfl) (fun _ => rfl) (pa_cons (pv 2) (pa_cons (pe_lam2 (T := tabs a) (q := q_changed) ["make", "parts"] B.t_changed (by rfl) List.mem_cons_self (by rfl) (hu_changed T) (by show NdefX.ndefB (defScope s_changed) _ _ = true; decide +kernel) (by rfl)) pa_nil)))))), ?_⟩
    walk_at "rd"
    refine ⟨x, U, rfl, hx, g, by omega, fun l xs H1 s1 nl hl hxs => ?_⟩
    walk_at "rd"
    refine r_callZ ?_
    walk_at "rd"
    refine r_lamV (tab.ext s1) fun f2 c2 H3 eN nn T3 f0 f1 cc => ?_
    walk_at "rd"
    refine ⟨[.ref f, .ref l], rfl, fun z pz bz => ?_⟩
    have eN0 : ExtN H H3 := (ExtN.of s1).trans eN
    have hl3 := eN _ _ hl (fun _ z => nomatch z)
    have hx3 := hxs.stay (K := K) (Ext2.ofN eN).stay
    have sP := same_pin bz
    have back : ∀ {H5 : Hp}, Same (pinA H3 z) H5 → Same H3 (unpA H5 z) ∧ Pinned z H5 := fun s => ⟨same_unp bz s, pinned_pin.same s⟩
    refine ⟨l, f2, xs, U, fun _ C v Hx => Rr C v Hx, rfl, sP _ _ hl3, hx3.stay (.of sP), g, zU, fun i C v Ha Hb r st => mono C v Ha Hb r st, ⟨fnH_lam (sP _ _ f1), _, lam_okE (H0 := H3) f1 (N := ["at", "told", "make", "parts"]) (ps := ["at", "told"]) (fr := ["make", "parts"])
      (sp := fun vs H5 Q E => ∃ (i : Nat) (C : Tm) (tl : Addr) (ys : List V), vs = [.int i, .ref tl] ∧ U.pre[i]? = some C ∧ ExtN H H5 ∧ H5 l = some (.lst xs) ∧ TmsV K H5 xs U.pre ∧ H5 tl = some (.lst ys) ∧ Paired (fun v k => Rr k v H5) ys C.kids ∧ ∀ y H6, Same H5 H6 → Rr C y H6 → Q y H6)
      (nscope_by (by dsimp only [lamF]; decide +kernel)) pz (fun pm ctv us hl => match us, hl with | [_, _], _ => rfl) (fun A outer s H5 vs Q E hr hl5 q5 => ?_), fun H5 i C tl ys Q5 E5 s5 hC htl hys q5 => ?_⟩, fun y H5 s5 ry => ?_⟩
    · obtain ⟨i, C, tl, ys, rfl, hC, e5, hl5, hx5, htl, hys, q5⟩ := q5
      refine ⟨_, (show PE _ _ (tCallV P w K mg base _ 2 E0 _) from pe_callV (E := E0) hr (fun _ _ _ _ _ _ _ z => z.elim) (by rfl) (by first | exact Or.inl rfl | exact Or.inr (Or.inl rfl) | exact Or.inr (Or.inr rfl)) (pa_cons (pe_ix (ix_listK K) (pv 3) (pv 0) (fun _ _ => rfl)) (pa_cons (pv 1) pa_nil))), ?_⟩
      refine r_callV ⟨f, rfl, ?_, ?_⟩
      · obtain ⟨φ, e, st⟩ := hf
        exact ⟨φ, e5 _ _ e (fun _ z => nomatch z), st⟩
      walk_at "rd"
      obtain ⟨v, hv, hvC⟩ := pd_get hx5.pd hC
      refine r_ixL (sqL hl5) (atI_nat hv) ?_
      walk_at "rd"
      refine ⟨?_, sp, vo, hsp H5 C v tl ys _ _ e5 (List.mem_of_getElem? hC) hvC htl hys q5⟩
      obtain ⟨φ, e, st⟩ := hf
      exact ⟨φ, e5 _ _ e (fun _ z => nomatch z), st⟩
    · obtain ⟨b1, b2⟩ := back s5
      have x2 := ext2_unp b2
      have e5 : ExtN H (unpA H5 z) := eN0.trans (ExtN.of b1)
      refine ⟨rfl, s5 _ _ (sP _ _ f1), s5 _ _ (sP _ _ cc), b2, i, C, tl, ys, rfl, hC, e5, b1 _ _ hl3, hx3.stay (.of b1), x2.lst htl, ?_, fun y H6 s6 ry bz6 => ?_⟩
      · have := pd_map (R := fun v k => Rr k v H5) (fun q : Nat × Tm => q.2) hys
        rw [Tm.kpos_snd] at this
        exact pd_mono (fun _ _ r => mono _ _ _ _ r x2.stay) this
      · exact q5 y _ (same_repin b2 s6) (mono _ _ _ _ ry (.of (same_pin bz6)))
    · obtain ⟨b1, b2⟩ := back s5
      refine ⟨b2, q y _ ⟨eN0.trans (ExtN.of b1), fun b e => s1.free (nn b (b1.free e)), T3.ext b1⟩ (mono _ _ _ _ ry (ext2_unp b2).stay)⟩
end
end Pf

namespace Pf
open PySem PySem.Spec PyProof.Rows L2
local macro_rules | `(tactic| walk_at "rd") => `(tactic| (repeat' (first
  | with_reducible refine r_seq ?_ | with_reducible refine r_asg ?_ | with_reducible refine r_ret ?_ | with_reducible refine r_retN ?_ | with_reducible refine r_drop ?_ | with_reducible refine r_if ?_
  | with_reducible refine r_op ?_ | (with_reducible show tVar _ _ _ _; refine r_var rfl ?_) | with_reducible refine r_c ?_ | with_reducible refine r_I0 ?_ | (with_reducible refine r_I ?c ?_; (case c => first | (show (0 : Int) < _; first | decide | assumption | omega) | exact cmul_r ⟨by decide, by decide⟩ | exact cmul_l ⟨by decide, by decide⟩ | exact cmul_r (by first | assumption | constructor <;> omega) | (unfold CDiv; constructor <;> decide) | (unfold CPow; refine ⟨?_, ?_, ?_⟩ <;> decide))) | with_reducible refine r_name ?_ | (with_reducible show rIxL _ _ _ _ _; refine r_ixL (sqL (by assumption)) rfl ?_) | (with_reducible show rIxT _ _ _ _ _; refine r_ixT (by assumption) rfl ?_) | (with_reducible show rSetL _ _ _ _ _; refine r_setL (by assumption) rfl ?_) | with_reducible refine r_test ?_ | with_reducible refine r_tB ?_ | with_reducible refine r_bl ?_
  | with_reducible refine r_not ?_ | with_reducible refine r_and ?_ | with_reducible refine r_or ?_ | with_reducible refine r_andV ?_ | with_reducible refine r_orV ?_ | with_reducible refine r_notV ?_ | with_reducible refine r_ifE ?_
  | with_reducible refine r_cons ?_ | with_reducible refine r_nil ?_ | with_reducible refine r_cb ?_ | with_reducible refine r_call ?_ | with_reducible refine r_lst ?_ | with_reducible refine r_tup ?_ | with_reducible refine r_bm ?_ | with_reducible refine r_bm0 ?_
  | with_reducible refine r_un ?_ | with_reducible refine r_U ?_ | with_reducible refine r_eqI ?_ | with_reducible refine r_eqS ?_ | with_reducible refine r_neI ?_ | with_reducible refine r_neS ?_ | with_reducible refine r_sub ?_ | with_reducible refine r_gcons ?_ | with_reducible refine r_gnil ?_
  | with_reducible refine r_chain ?_ | with_reducible refine r_get2 ?_ | with_reducible refine r_iList ?_ | with_reducible refine r_iStr ?_ | with_reducible refine r_iTup ?_ | with_reducible refine r_iRev ?_ | with_reducible refine r_iItems ?_ | with_reducible refine r_rng ?_ | with_reducible refine r_inS ?_ | with_reducible refine r_bI ?_ | with_reducible refine r_abs ?_ | with_reducible refine r_sl ?_ | with_reducible refine r_next ?_ | with_reducible refine r_yes ?_
  | (with_reducible show rLen _ _ _ _; first | refine r_lenK (sqL (by assumption)) ?_ | refine r_lenK (by assumption) ?_ | refine r_lenTK (by assumption) ?_)
  | (with_reducible show tFor _ _ _ _ _ _; unfold tFor) | (with_reducible show tLc _ _ _ _ _ _ _ _; unfold tLc) | (with_reducible show tWhile _ _ _ _ _; unfold tWhile)
  | (with_reducible refine ⟨_, rfl, ?_⟩) | (with_reducible refine ⟨_, _, rfl, rfl, ?_⟩) | (with_reducible refine Or.inr ⟨_, rfl, ?_⟩) | (refine ⟨_, _, rfl, Or.inl (by assumption), ?_⟩; skip) | (refine ⟨_, _, rfl, Or.inr (by assumption), ?_⟩; skip)
  | (with_reducible refine iteNT ?_) | (with_reducible refine iteNF ?_) | (with_reducible refine iteT ?_) | (with_reducible refine iteF ?_)
  | (dsimp only [Bool.not_true, Bool.not_false, List.cons_append, List.nil_append]))))

local macro_rules | `(tactic| walk_at "st") => `(tactic| first | exact Same.refl _ | assumption | (refine Same.trans (by assumption) ?_; walk_at "st"))
local macro_rules | `(tactic| walk_at "ok") => `(tactic| first | assumption | exact up_tm (by assumption) (by walk_at "st") | exact up_sqT (by assumption) (by walk_at "st") | exact up_get (by assumption) (by walk_at "st") | exact up_getL (by assumption) (by walk_at "st") | exact up_getT (by assumption) (by walk_at "st") | exact up_sqL (by assumption) (by walk_at "st") | exact up_tms (by assumption) (by walk_at "st") | exact up_tnD (by assumption) (by walk_at "st") | exact up_tn (by assumption) (by walk_at "st") | exact ⟨_, up_getL (by assumption) (by walk_at "st")⟩ | exact ⟨_, up_sqL (by assumption) (by walk_at "st")⟩)

theorem TnD.same {K : PySem.W.Frag} {H H' : Hp} {v : V} {t : List PS2} (h : TnD K H v t) (s : Same H H') : TnD K H' v t := h.stay (.of s)
theorem TnD.but {K : PySem.W.Frag} {H H' : Hp} {v : V} {t : List PS2} {a : Addr} {ys : List V} (h : TnD K H v t) (s : But a H H') (ha : H a = some (.lst ys)) : TnD K H' v t := by
  obtain ⟨q, o, xs, e, hq, hd, hp⟩ := h
  have : q ≠ a := ne_of hq ha (fun z => nomatch z)
  exact ⟨q, o, xs, e, s _ _ this hq, hd, hp.stay (Tups.but s ha)⟩
theorem TgV.tn {K : PySem.W.Frag} {H : Hp} {x : V} {t : List PS2} (h : TgV K H x (some t)) : Tn K H x t := by
  cases h with
  | all h p _ _ _ => exact ⟨_, _, rfl, h, p⟩
theorem TgV.tnd {K : PySem.W.Frag} {H : Hp} {x : V} {t : List PS2} (h : TgV K H x (some t)) (it : IsTurn t) : TnD K H x t := by
  cases h with
  | all h p _ _ d =>
    obtain ⟨o, e, n⟩ := d it
    exact ⟨_, o, _, rfl, e, n, p⟩
def sp_chkT (K : PySem.W.Frag) (C : Addr) : Sp := fun vs H Q E => ∃ (x : V) (o : Option (List PS2)), vs = [x] ∧ TgV K H x o ∧ (turnB o = true → ∀ H', Same H H' → Q .non H') ∧ (turnB o = false → ∀ H', Same H H' → E (.ref C) none H')
section
variable {P : Program} {w : World} {K : PySem.W.Frag} {mg : Str → Option Value} {base : Heap} {a : Ad}
theorem G_check_turn (T : Txt K mg a) : FnOk P w K mg base (L2.CX P w) 5 a.f_check_turn a.d_check_turn ["thing"] (sp_chkT K a.f_NoTurn) := by
  refine T.F_check_turn.okX sc_check_turn (fun vs H Q E h => ?_) (fun cdv A outer s H vs Q E hr h => ?_)
  · obtain ⟨b, ns, rfl, _⟩ := h
    rfl
  · obtain ⟨x, o, rfl, hx, q1, q2⟩ := h
    refine ⟨_, (pss_one (ps_if (pt_not (pt_val (pe_call (G_is_turn (K := K) T) (hr.mono (by decide)) (by rfl) T.g_is_turn T.F_is_turn.kp T.b_is_turn .nil pass0 (pa_cons (pv 0) pa_nil)))) (pss_one (ps_raise rfl (takes_of rfl rfl rfl rfl) (pmk_own PySem.F.excBase_ValueError T.x_NoTurn T.g_NoTurn T.k_NoTurn (raises_own T.r_NoTurn T.y_NoTurn) rfl))) pss_nil)), ?_⟩
    walk_at "rd"
    refine ⟨x, o, rfl, hx, fun H1 s1 => ?_⟩
    cases e : turnB o with
    | true =>
      walk_at "rd"
      exact q1 e _ s1
    | false =>
      walk_at "rd"
      exact q2 e _ s1
end
end Pf

namespace Pf
open PySem PySem.Spec PyProof.Rows L2
local macro_rules | `(tactic| walk_at "rd") => `(tactic| (repeat' (first
  | with_reducible refine r_seq ?_ | with_reducible refine r_asg ?_ | with_reducible refine r_ret ?_ | with_reducible refine r_retN ?_ | with_reducible refine r_drop ?_ | with_reducible refine r_if ?_
  | with_reducible refine r_op ?_ | (with_reducible show tVar _ _ _ _; refine r_var rfl ?_) | with_reducible refine r_c ?_ | with_reducible refine r_I0 ?_ | (with_reducible refine r_I ?c ?_; (case c => first | (show (0 : Int) < _; first | decide | assumption | omega) | exact cmul_r ⟨by decide, by decide⟩ | exact cmul_l ⟨by decide, by decide⟩ | exact cmul_r (by first | assumption | constructor <;> omega) | (unfold CDiv; constructor <;> decide) | (unfold CPow; refine ⟨?_, ?_, ?_⟩ <;> decide))) | with_reducible refine r_name ?_ | (with_reducible show rIxL _ _ _ _ _; refine r_ixL (sqL (by assumption)) rfl ?_) | (with_reducible show rIxT _ _ _ _ _; refine r_ixT (by assumption) rfl ?_) | (with_reducible show rSetL _ _ _ _ _; refine r_setL (by assumption) rfl ?_) | with_reducible refine r_test ?_ | with_reducible refine r_tB ?_ | with_reducible refine r_bl ?_
  | with_reducible refine r_not ?_ | with_reducible refine r_and ?_ | with_reducible refine r_or ?_ | with_reducible refine r_andV ?_ | with_reducible refine r_orV ?_ | with_reducible refine r_notV ?_ | with_reducible refine r_ifE ?_
  | with_reducible refine r_cons ?_ | with_reducible refine r_nil ?_ | with_reducible refine r_cb ?_ | with_reducible refine r_call ?_ | with_reducible refine r_lst ?_ | with_reducible refine r_tup ?_ | with_reducible refine r_bm ?_ | with_reducible refine r_bm0 ?_
  | with_reducible refine r_un ?_ | with_reducible refine r_U ?_ | with_reducible refine r_eqI ?_ | with_reducible refine r_eqS ?_ | with_reducible refine r_neI ?_ | with_reducible refine r_neS ?_ | with_reducible refine r_sub ?_ | with_reducible refine r_gcons ?_ | with_reducible refine r_gnil ?_
  | with_reducible refine r_chain ?_ | with_reducible refine r_get2 ?_ | with_reducible refine r_iList ?_ | with_reducible refine r_iStr ?_ | with_reducible refine r_iTup ?_ | with_reducible refine r_iRev ?_ | with_reducible refine r_iItems ?_ | with_reducible refine r_rng ?_ | with_reducible refine r_inS ?_ | with_reducible refine r_bI ?_ | with_reducible refine r_abs ?_ | with_reducible refine r_sl ?_ | with_reducible refine r_next ?_ | with_reducible refine r_yes ?_
  | (with_reducible show rLen _ _ _ _; first | refine r_lenK (sqL (by assumption)) ?_ | refine r_lenK (by assumption) ?_ | refine r_lenTK (by assumption) ?_)
  | (with_reducible show tFor _ _ _ _ _ _; unfold tFor) | (with_reducible show tLc _ _ _ _ _ _ _ _; unfold tLc) | (with_reducible show tWhile _ _ _ _ _; unfold tWhile)
  | (with_reducible refine ⟨_, rfl, ?_⟩) | (with_reducible refine ⟨_, _, rfl, rfl, ?_⟩) | (with_reducible refine Or.inr ⟨_, rfl, ?_⟩) | (refine ⟨_, _, rfl, Or.inl (by assumption), ?_⟩; skip) | (refine ⟨_, _, rfl, Or.inr (by assumption), ?_⟩; skip)
  | (with_reducible refine iteNT ?_) | (with_reducible refine iteNF ?_) | (with_reducible refine iteT ?_) | (with_reducible refine iteF ?_)
  | (dsimp only [Bool.not_true, Bool.not_false, List.cons_append, List.nil_append]))))

local macro_rules | `(tactic| walk_at "st") => `(tactic| first | exact Same.refl _ | assumption | (refine Same.trans (by assumption) ?_; walk_at "st"))
local macro_rules | `(tactic| walk_at "ok") => `(tactic| first | assumption | exact up_tm (by assumption) (by walk_at "st") | exact up_sqT (by assumption) (by walk_at "st") | exact up_get (by assumption) (by walk_at "st") | exact up_getL (by assumption) (by walk_at "st") | exact up_getT (by assumption) (by walk_at "st") | exact up_sqL (by assumption) (by walk_at "st") | exact up_tms (by assumption) (by walk_at "st") | exact up_tnD (by assumption) (by walk_at "st") | exact up_tn (by assumption) (by walk_at "st") | exact ⟨_, up_getL (by assumption) (by walk_at "st")⟩ | exact ⟨_, up_sqL (by assumption) (by walk_at "st")⟩)

def sp_turn_from (K : PySem.W.Frag) : Sp := fun vs H Q _ => ∃ (d : Addr) (ms : List PS2), vs = [.ref d] ∧ H d = some (.dK (ms.map encM)) ∧ ms.length ≤ 60 ∧ ∀ v H', Same H H' → TnD K H' v (riseM ms) → Q v H'
def sp_joined (K : PySem.W.Frag) : Sp := fun vs H Q _ => ∃ (d e : Addr) (t u : List PS2), vs = [.ref d, .ref e] ∧ H d = some (.dK (t.map encM)) ∧ H e = some (.dK (u.map encM)) ∧ d ≠ e ∧ IsTurn t ∧ IsTurn u ∧ t.length + u.length ≤ 40 ∧ ∀ v ms H', Same H H' → Both t u ms → ms.length ≤ 40 → TnD K H' v (riseM ms) → Q v H'
section
variable {P : Program} {w : World} {K : PySem.W.Frag} {mg : Str → Option Value} {base : Heap} {a : Ad}
theorem G_turn_from (T : Txt K mg a) : FnOk P w K mg base CX0 1 a.f_turn_from a.d_turn_from ["moves"] (sp_turn_from K) := by
  refine T.F_turn_from.ok sc_turn_from (fun vs H Q E h => ?_) (fun cdv A outer s H vs Q E hr h => ?_)
  · obtain ⟨b, ns, rfl, _⟩ := h
    rfl
  · obtain ⟨d, ms, rfl, hd, hl, q⟩ := h
    refine ⟨_, (pss_one (ps_ret (pe_callTy (call_tupleFK K) (by rfl) T.n_tuple (by decide +kernel) (pa_cons (pe_callB (cr_sortedGK K (enc := eP) hr.units) (by rfl) T.n_sorted (by decide +kernel) (pa_cons (pe_lock (pe_lc (own := [("name", 1), ("to", 2)]) (by rfl) sc_turn_from.nd (pi_items (pv 0)) (blkOk_by (N := N_turn_from) (sc := defScope s_turn_from) (by decide +kernel)) (fun _ _ _ _ _ => (pg_tupK K (n := 2) rfl (pgs_cons (pg_name (i := 1) sc_turn_from.nd rfl (by first | exact Or.inl rfl | exact Or.inr rfl)) (pgs_cons (pg_name (i := 2) sc_turn_from.nd rfl (by first | exact Or.inl rfl | exact Or.inr rfl)) pgs_nil)))) (fun _ _ _ _ _ => (pts_one (pt_cmpR op_ne (pv 1) (pv 2) (nomark _)))) (fun _ _ _ _ _ => (pe_tup (pa_cons (pv 1) (pa_cons (pv 2) pa_nil)))))) pa_nil)) pa_nil)))), ?_⟩
    walk_at "rd"
    refine ⟨d, _, hd, trivial, fun od => ?_⟩
    have hd1 : (upd H d (.frz od (.dK (ms.map encM)))) d = some (.frz od (.dK (ms.map encM))) := upd_same
    walk_at "rd"
    refine ⟨d, od, _, rfl, hd1, fun D nD => ?_⟩
    generalize hH1 : upd H d (.frz od (.dK (ms.map encM))) = H1 at hd1 nD ⊢
    refine lcN (J := Iti d od (ms.map encM)) (n := ms.length) (LcI H1 D fun i acc H => Prs K H acc ((ms.take i).filter fun p => decide (p.1 ≠ p.2))) (LcI.zero nD .nil) (fun i H hi hP => ⟨hP.1 _ _ hd1, by rw [List.length_map]; exact hi⟩) (fun H hP => ⟨hP.1 _ _ hd1, by rw [List.length_map]; exact Nat.le_refl _⟩) (fun i x H2 H3 hi hP hy => ?_) (fun H2 hP => ?_)
    · obtain ⟨s2, acc, hD, hal, hacc⟩ := hP
      obtain ⟨T2, k, v, ekv, rfl, nT, rfl⟩ := hy
      have ep : ms[i]? = some ms[i] := List.getElem?_eq_getElem hi
      rw [List.getElem?_map, ep] at ekv
      generalize ms[i] = p at ep ekv
      cases ekv
      have s3 : Same H2 (upd H2 T2 (.tup [kV (Sum.inr p.1), V.str p.2])) := same_new nT
      refine r_gtup (sqT upd_same) rfl ?_
      walk_at "rd"
      refine ⟨rfl, ?_⟩
      walk_at "rd"
      have s3' : Same H2 (upd H2 T2 (.tup [kV (Sum.inr p.1), V.str p.2])) := s3
      generalize upd H2 T2 (.tup [kV (Sum.inr p.1), V.str p.2]) = H3 at s3' ⊢
      show rNe (.str p.1) (.str p.2) H3 _
      walk_at "rd"
      refine r_ndec (fun e => ?_) (fun e => ?_)
      · walk_at "rd"
        refine ⟨by show 2 ≤ sizeLine; decide, fun y ny => ?_⟩
        refine LcI.keep nD s2 hD hal (by omega) (s3'.trans (same_new ny)) ?_
        have hD4 : (upd H3 y (.tup [.str p.1, .str p.2])) D = some (.lst acc) := (same_new ny) _ _ (s3' _ _ hD)
        rw [take_snoc ep, List.filter_append, show [p].filter (fun p => decide (p.1 ≠ p.2)) = [p] by simp [e]]
        refine pd_snoc ((hacc.stay (Tups.of (s3'.trans (same_new ny)))).stay (tups_mut hD4)) ?_
        exact Pr.stay ⟨y, rfl, sqT upd_same⟩ (tups_mut hD4)
      · refine LcI.skip s2 hD hal s3' ?_
        rw [take_snoc ep, List.filter_append, show [p].filter (fun p => decide (p.1 ≠ p.2)) = [] by simp [e], List.append_nil]
        exact hacc.stay (Tups.of s3')
    · obtain ⟨s2, acc, hD, hal, hacc⟩ := hP
      have hd2 := s2 _ _ hd1
      have nDd : D ≠ d := by
        rintro rfl
        rw [nD] at hd1
        cases hd1
      refine ⟨hd2, ?_⟩
      have sX : Same H (upd H2 d (.dK (ms.map encM))) := fun b o e => by
        by_cases hb : b = d
        · subst hb
          rw [hd] at e
          rw [upd_same, ← e]
        · rw [upd_ne hb]
          exact s2 _ _ (by rw [← hH1, upd_ne hb]; exact e)
      have tX : Tups H2 (upd H2 d (.dK (ms.map encM))) := tups_upd hd2 (fun xs z => nomatch z) (fun ob xs z => nomatch z)
      have hDX : (upd H2 d (.dK (ms.map encM))) D = some (.lst acc) := by rw [upd_ne nDd]; exact hD
      have hX := hacc.stay tX
      generalize upd H2 d (.dK (ms.map encM)) = HX at sX tX hDX hX ⊢
      rw [List.take_of_length_le (Nat.le_refl _)] at hX
      walk_at "rd"
      refine ⟨D, acc, _, Pr K HX, rfl, sqL hDX, hX, fun x b h => h.dp, alike_P _, sortable_P _, fun b _ => Nat.le_trans (dep_P b) (by decide), fun ys p pys np => ?_⟩
      walk_at "rd"
      refine r_tupF (sqL upd_same) fun l o nl ho => ?_
      have s4 : Same HX (upd (upd HX p (.lst ys)) l (.frz o (.tup ys))) := (same_new np).trans (same_new nl)
      exact q _ _ (sX.trans s4) ⟨l, o, ys, rfl, upd_same, ho, Prs.stay pys (Tups.of s4)⟩
/-- the things of an exchange -/

theorem r_lock {σ : L2.St} {H : Hp} {D : Ends} {t : TS} (h : ∃ d u, H d = some u ∧ Mut (some u) ∧ ∀ od : Obj, t { nx := fun σ' H' => H' d = some (.frz od u) ∧ D.nx σ' (upd H' d u), rt := fun v H' => H' d = some (.frz od u) ∧ D.rt v (upd H' d u), bk := fun σ' H' => H' d = some (.frz od u) ∧ D.bk σ' (upd H' d u), ct := fun σ' H' => H' d = some (.frz od u) ∧ D.ct σ' (upd H' d u) } σ (upd H d (.frz od u))) : tLock t D σ H := h
theorem r_for {σ : L2.St} {H : Hp} {D : Ends} {wi : TI} {g : TG} {tb : TS} (h : wi σ H fun J H1 => ∃ W : Nat → Nat → L2.St → Hp → Prop, (∃ m, W 0 m σ H1) ∧ ∀ i m σ H, W i m σ H →
      (J.stop i H ∧ D.nx σ H) ∨ (J.go i H ∧ ∃ N : L2.St → Hp → Prop, (∀ σ' H', N σ' H' → ∃ m', m' < m ∧ W (i + 1) m' σ' H') ∧ ∀ x H', J.yld i H x H' → g x σ H' fun σ2 H2 => tb { nx := N, rt := D.rt, bk := D.nx, ct := N } σ2 H2)) : tFor wi g tb D σ H := h
theorem r_items {σ : L2.St} {H : Hp} {td : TE} {R : It → Hp → Prop} (h : td σ H fun x H1 => ∃ d o kvs, x = V.ref d ∧ H1 d = some (.frz o (.dK kvs)) ∧ R (Iti d o kvs) H1) : iItems td σ H R := h
/-- moves of the first turn up to the i-th put into those of the second one -/
structure JInv (t u : List PS2) (i : Nat) (ms : List PS2) : Prop where
  nd : (ms.map (·.1)).Nodup
  to : ∀ n, look ms n = if n ∈ (t.take i).map (·.1) then look u (look t n) else look u n
  keys : ∀ k ∈ ms.map (·.1), k ∈ t.map (·.1) ∨ k ∈ u.map (·.1)
theorem JInv.step {t u ms : List PS2} {i : Nat} (ht : IsTurn t) (h : JInv t u i ms) {p : PS2} (e : t[i]? = some p) : JInv t u (i + 1) (mput ms p.1 (look u p.2)) := by
  have hp := List.mem_of_getElem? e
  have hl : look t p.1 = p.2 := ((Pf.look_mem ht.nd).mp (show (p.1, p.2) ∈ t from hp)).2
  refine ⟨mput_nd _ _ h.nd, fun n => ?_, fun k hk => ?_⟩
  · rw [look_put, h.to, take_snoc e, List.map_append, List.map_cons, List.map_nil]
    by_cases c : n = p.1
    · rw [if_pos c, if_pos (List.mem_append_right _ (by rw [c]; exact List.mem_cons_self)), c, hl]
    · rw [if_neg c]
      by_cases c2 : n ∈ (t.take i).map (·.1)
      · rw [if_pos c2, if_pos (List.mem_append_left _ c2)]
      · rw [if_neg c2, if_neg]
        intro z
        rcases List.mem_append.mp z with z | z
        · exact c2 z
        · exact c (List.mem_singleton.mp z)
  · rcases mput_mem hk with z | z
    · exact .inl (by rw [z]; exact List.mem_map.mpr ⟨p, hp, rfl⟩)
    · exact h.keys k z
theorem JInv.both {t u ms : List PS2} (h : JInv t u t.length ms) : Both t u ms := by
  refine ⟨h.nd, fun n => ?_, h.keys⟩
  rw [h.to, List.take_length]
  by_cases c : n ∈ t.map (·.1)
  · rw [if_pos c]
  · rw [if_neg c, look_none c]
theorem G_joined (T : Txt K mg a) : FnOk P w K mg base CX0 2 a.f_joined a.d_joined ["first", "second"] (sp_joined K) := by
  refine T.F_joined.ok sc_joined (fun vs H Q E h => ?_) (fun cdv A outer s H vs Q E hr h => ?_)
  · obtain ⟨b, c, _, _, rfl, _⟩ := h
    rfl
  · obtain ⟨d, e, t, u, rfl, hd, he, nde, ht, hu, hsz, q⟩ := h
    refine ⟨_, (pss_cons (ps_set (i := 2) sc_joined.nd rfl (.inl rfl) (pe_callTy call_dictD (by rfl) T.n_dict (by decide +kernel) (pa_cons (pv 1) pa_nil)))
        (pss_cons (ps_lock (ps_for PassesOwn.never rfl (pi_items (pv 0)) (pg_tupK K (n := 2) rfl (pgs_cons (pg_name (i := 3) sc_joined.nd rfl (by first | exact Or.inl rfl | exact Or.inr rfl)) (pgs_cons (pg_name (i := 4) sc_joined.nd rfl (by first | exact Or.inl rfl | exact Or.inr rfl)) pgs_nil))) (pss_one (ps_asg (pe_dget2 (hu_of hr) (pv 1) (pv 4) (pv 4) ⟨by rfl, by rfl, by rfl, by rfl⟩) (pg_sub (pv 2) (pv 3) (set_dict (hu_of hr)))))))
        (pss_one (ps_ret (pe_call (G_turn_from (K := K) T) (hr.mono (by decide)) (by rfl) T.g_turn_from T.F_turn_from.kp T.b_turn_from .nil pass0 (pa_cons (pv 2) pa_nil)))))), ?_⟩
    walk_at "rd"
    intro m nm
    have s1 := same_new (o := .dK (u.map encM)) nm
    have hm : (upd H m (.dK (u.map encM))) m = some (.dK (u.map encM)) := upd_same
    have nmd : m ≠ d := (ne_of_none hd nm).symm
    have nme : m ≠ e := (ne_of_none he nm).symm
    generalize upd H m (.dK (u.map encM)) = H1 at s1 hm ⊢
    have hd1 := s1 _ _ hd
    have he1 := s1 _ _ he
    walk_at "rd"
    refine r_lock ⟨d, _, hd1, trivial, fun od => ?_⟩
    have hd2 : (upd H1 d (.frz od (.dK (t.map encM)))) d = some (.frz od (.dK (t.map encM))) := upd_same
    have he2 : (upd H1 d (.frz od (.dK (t.map encM)))) e = some (.dK (u.map encM)) := by rw [upd_ne nde.symm]; exact he1
    have hm2 : (upd H1 d (.frz od (.dK (t.map encM)))) m = some (.dK (u.map encM)) := by rw [upd_ne nmd]; exact hm
    have o2 : ∀ b o, b ≠ d → b ≠ m → H b = some o → (upd H1 d (.frz od (.dK (t.map encM)))) b = some o := fun b o n _ h => by rw [upd_ne n]; exact s1 _ _ h
    generalize upd H1 d (.frz od (.dK (t.map encM))) = H2 at hd2 he2 hm2 o2 ⊢
    refine r_for (r_items ?_)
    walk_at "rd"
    refine ⟨d, od, _, rfl, hd2, ?_⟩
    refine forN (J := Iti d od (t.map encM)) (n := t.length) (fun i σ HA => ∃ (ms : List PS2) (y3 y4 : Option V), σ = [some (.ref d), some (.ref e), some (.ref m), y3, y4] ∧ HA m = some (.dK (ms.map encM)) ∧ JInv t u i ms ∧ ms.length ≤ u.length + i ∧ HA d = some (.frz od (.dK (t.map encM))) ∧ HA e = some (.dK (u.map encM)) ∧ ∀ b o, b ≠ d → b ≠ m → H b = some o → HA b = some o)
      ⟨u, none, none, rfl, hm2, ⟨hu.nd, fun n => by rw [List.take_zero, List.map_nil, if_neg List.not_mem_nil], fun k hk => .inr hk⟩, Nat.le_refl _, hd2, he2, o2⟩ (fun i σ HA hi hP => ?_) (fun σ HA hP => ?_) (fun i x σ HA HB hi hP hy => ?_) (fun σ HA hP => ?_)
    · obtain ⟨ms, y3, y4, rfl, _, _, _, hdA, _⟩ := hP
      exact ⟨hdA, by rw [List.length_map]; exact hi⟩
    · obtain ⟨ms, y3, y4, rfl, _, _, _, hdA, _⟩ := hP
      exact ⟨hdA, by rw [List.length_map]; exact Nat.le_refl _⟩
    · obtain ⟨ms, y3, y4, rfl, hmA, hj, hml, hdA, heA, oA⟩ := hP
      obtain ⟨T2, k, v, ekv, rfl, nT, rfl⟩ := hy
      have ep : t[i]? = some t[i] := List.getElem?_eq_getElem hi
      rw [List.getElem?_map, ep] at ekv
      have hj2 := hj.step ht ep
      generalize t[i] = p at ep ekv hj2
      cases ekv
      have s3 : Same HA (upd HA T2 (.tup [kV (Sum.inr p.1), V.str p.2])) := same_new nT
      refine r_gtup (sqT upd_same) rfl ?_
      generalize upd HA T2 (.tup [kV (Sum.inr p.1), V.str p.2]) = HB at s3 ⊢
      have heB := s3 _ _ heA
      have hmB := s3 _ _ hmA
      walk_at "rd"
      refine ⟨.inl ⟨_, .inl heB⟩, ?_⟩
      show tVar 4 _ HB _
      walk_at "rd"
      refine ⟨_, DGet.k (k := Sum.inr p.2) heB, ?_⟩
      rw [valV_enc]
      walk_at "rd"
      have hl2 := mput_len ms p.1 (look u p.2)
      refine ⟨m, _, rfl, DPut.k (k := Sum.inr p.1) hmB (by rw [List.length_map]; exact small1000 (by omega)), ?_⟩
      rw [putK_enc]
      refine ⟨_, _, _, rfl, upd_same, hj2, by omega, ?_, ?_, fun b o n1 n2 h => ?_⟩
      · rw [upd_ne nmd.symm]; exact s3 _ _ hdA
      · rw [upd_ne nme.symm]; exact heB
      · rw [upd_ne n2]; exact s3 _ _ (oA b o n1 n2 h)
    · obtain ⟨ms, y3, y4, rfl, hmA, hj, hml, hdA, heA, oA⟩ := hP
      refine ⟨hdA, ?_⟩
      have sX : Same H (upd HA d (.dK (t.map encM))) := fun b o h => by
        by_cases hb : b = d
        · subst hb
          rw [hd] at h
          rw [upd_same, ← h]
        · rw [upd_ne hb]
          exact oA b o hb (ne_of_none h nm) h
      have hmX : (upd HA d (.dK (t.map encM))) m = some (.dK (ms.map encM)) := by rw [upd_ne nmd]; exact hmA
      generalize upd HA d (.dK (t.map encM)) = HX at sX hmX ⊢
      walk_at "rd"
      refine ⟨m, ms, rfl, hmX, by omega, fun v HY sY hv => ?_⟩
      exact q v ms HY (sX.trans sY) hj.both (by omega) hv
end
end Pf

namespace Pf
open PySem PySem.Spec PyProof.Rows L2
local macro_rules | `(tactic| walk_at "rd") => `(tactic| (repeat' (first
  | with_reducible refine r_seq ?_ | with_reducible refine r_asg ?_ | with_reducible refine r_ret ?_ | with_reducible refine r_retN ?_ | with_reducible refine r_drop ?_ | with_reducible refine r_if ?_
  | with_reducible refine r_op ?_ | (with_reducible show tVar _ _ _ _; refine r_var rfl ?_) | with_reducible refine r_c ?_ | with_reducible refine r_I0 ?_ | (with_reducible refine r_I ?c ?_; (case c => first | (show (0 : Int) < _; first | decide | assumption | omega) | exact cmul_r ⟨by decide, by decide⟩ | exact cmul_l ⟨by decide, by decide⟩ | exact cmul_r (by first | assumption | constructor <;> omega) | (unfold CDiv; constructor <;> decide) | (unfold CPow; refine ⟨?_, ?_, ?_⟩ <;> decide))) | with_reducible refine r_name ?_ | (with_reducible show rIxL _ _ _ _ _; refine r_ixL (sqL (by assumption)) rfl ?_) | (with_reducible show rIxT _ _ _ _ _; refine r_ixT (by assumption) rfl ?_) | (with_reducible show rSetL _ _ _ _ _; refine r_setL (by assumption) rfl ?_) | with_reducible refine r_test ?_ | with_reducible refine r_tB ?_ | with_reducible refine r_bl ?_
  | with_reducible refine r_not ?_ | with_reducible refine r_and ?_ | with_reducible refine r_or ?_ | with_reducible refine r_andV ?_ | with_reducible refine r_orV ?_ | with_reducible refine r_notV ?_ | with_reducible refine r_ifE ?_
  | with_reducible refine r_cons ?_ | with_reducible refine r_nil ?_ | with_reducible refine r_cb ?_ | with_reducible refine r_call ?_ | with_reducible refine r_lst ?_ | with_reducible refine r_tup ?_ | with_reducible refine r_bm ?_ | with_reducible refine r_bm0 ?_
  | with_reducible refine r_un ?_ | with_reducible refine r_U ?_ | with_reducible refine r_eqI ?_ | with_reducible refine r_eqS ?_ | with_reducible refine r_neI ?_ | with_reducible refine r_neS ?_ | with_reducible refine r_sub ?_ | with_reducible refine r_gcons ?_ | with_reducible refine r_gnil ?_
  | with_reducible refine r_chain ?_ | with_reducible refine r_get2 ?_ | with_reducible refine r_iList ?_ | with_reducible refine r_iStr ?_ | with_reducible refine r_iTup ?_ | with_reducible refine r_iRev ?_ | with_reducible refine r_iItems ?_ | with_reducible refine r_rng ?_ | with_reducible refine r_inS ?_ | with_reducible refine r_bI ?_ | with_reducible refine r_abs ?_ | with_reducible refine r_sl ?_ | with_reducible refine r_next ?_ | with_reducible refine r_yes ?_
  | (with_reducible show rLen _ _ _ _; first | refine r_lenK (sqL (by assumption)) ?_ | refine r_lenK (by assumption) ?_ | refine r_lenTK (by assumption) ?_)
  | (with_reducible show tFor _ _ _ _ _ _; unfold tFor) | (with_reducible show tLc _ _ _ _ _ _ _ _; unfold tLc) | (with_reducible show tWhile _ _ _ _ _; unfold tWhile)
  | (with_reducible refine ⟨_, rfl, ?_⟩) | (with_reducible refine ⟨_, _, rfl, rfl, ?_⟩) | (with_reducible refine Or.inr ⟨_, rfl, ?_⟩) | (refine ⟨_, _, rfl, Or.inl (by assumption), ?_⟩; skip) | (refine ⟨_, _, rfl, Or.inr (by assumption), ?_⟩; skip)
  | (with_reducible refine iteNT ?_) | (with_reducible refine iteNF ?_) | (with_reducible refine iteT ?_) | (with_reducible refine iteF ?_)
  | (dsimp only [Bool.not_true, Bool.not_false, List.cons_append, List.nil_append]))))

local macro_rules | `(tactic| walk_at "st") => `(tactic| first | exact Same.refl _ | assumption | (refine Same.trans (by assumption) ?_; walk_at "st"))
local macro_rules | `(tactic| walk_at "ok") => `(tactic| first | assumption | exact up_tm (by assumption) (by walk_at "st") | exact up_sqT (by assumption) (by walk_at "st") | exact up_get (by assumption) (by walk_at "st") | exact up_getL (by assumption) (by walk_at "st") | exact up_getT (by assumption) (by walk_at "st") | exact up_sqL (by assumption) (by walk_at "st") | exact up_tms (by assumption) (by walk_at "st") | exact up_tnD (by assumption) (by walk_at "st") | exact up_tn (by assumption) (by walk_at "st") | exact ⟨_, up_getL (by assumption) (by walk_at "st")⟩ | exact ⟨_, up_sqL (by assumption) (by walk_at "st")⟩)

def sp_to (K : PySem.W.Frag) : Sp := fun vs H Q _ => ∃ (x : V) (t : List PS2) (n : Str), vs = [x, .str n] ∧ Tn K H x t ∧ t.length ≤ 200 ∧ ∀ H', Same H H' → Q (.str (look t n)) H'
theorem look_first (t : List PS2) (n : Str) : atI (((t.filter fun p => decide (p.1 = n)).map fun p => V.str p.2) ++ [V.str n]) 0 = some (V.str (look t n)) := by
  refine atI_nat (j := 0) ?_
  induction t with
  | nil => rfl
  | cons p r ih =>
    rw [List.filter_cons, look_cons]
    by_cases h : p.1 = n
    · rw [decide_eq_true h, if_pos rfl, if_pos h]; rfl
    · rw [decide_eq_false h, if_neg Bool.false_ne_true, if_neg h]; exact ih
section
variable {P : Program} {w : World} {K : PySem.W.Frag} {mg : Str → Option Value} {base : Heap} {a : Ad}
theorem G__law_to (T : Txt K mg a) : FnOk P w K mg base CX0 1 a.f__law_to a.d__law_to ["_law_turn_here", "_law_name_here"] (sp_to K) := by
  refine T.F__law_to.ok sc__law_to (fun vs H Q E h => ?_) (fun cdv A outer s H vs Q E hr h => ?_)
  · obtain ⟨x, t, n, rfl, _⟩ := h
    rfl
  · obtain ⟨x, t, n, rfl, hx, hl, q⟩ := h
    refine ⟨_, (pss_one (ps_ret (pe_ix (ix_listK K) (pe_op op_cat (pe_lc (own := [("_law_one", 2), ("_law_to_here", 3)]) (by rfl) sc__law_to.nd (pi_tupK K (pv 0)) (blkOk_by (N := N__law_to) (sc := defScope s__law_to) (by decide +kernel)) (fun _ _ _ _ _ => (pg_tupK K (n := 2) rfl (pgs_cons (pg_name (i := 2) sc__law_to.nd rfl (by first | exact Or.inl rfl | exact Or.inr rfl)) (pgs_cons (pg_name (i := 3) sc__law_to.nd rfl (by first | exact Or.inl rfl | exact Or.inr rfl)) pgs_nil)))) (fun _ _ _ _ _ => (pts_one (pt_cmpR op_eq (pv 2) (pv 1) (nomark _)))) (fun _ _ _ _ _ => (pv 3))) (pe_lst (pa_cons (pv 1) pa_nil))) pe_int (fun _ _ => rfl)))), ?_⟩
    obtain ⟨b, xs, rfl, hb, hp⟩ := hx
    have hxl : xs.length = t.length := pd_len hp
    walk_at "rd"
    refine ⟨⟨_, hb⟩, fun D nD => ?_⟩
    refine lc_tup (K := K) (a := b) (xs := xs) (LcI H D fun i acc _ => acc = ((t.take i).filter fun p => decide (p.1 = n)).map fun p => V.str p.2) (LcI.zero nD rfl) (fun i H1 _ hP => (Tups.of hP.1).sq hb) (fun i x H1 hx hP => ?_) (fun H1 hP => ?_)
    · obtain ⟨s1, acc, hD, hal, rfl⟩ := hP
      obtain ⟨p, hpx, hpr⟩ := pd_get' hp hx
      obtain ⟨t1, rfl, ht1⟩ := hpr.stay (Tups.of s1)
      have hi := (List.getElem?_eq_some_iff.mp hx).1
      refine r_gtup ht1 rfl ?_
      walk_at "rd"
      refine ⟨rfl, ?_⟩
      walk_at "rd"
      refine r_dec (fun e => ?_) (fun e => ?_)
      · walk_at "rd"
        refine LcI.keep nD s1 hD hal (by omega) (Same.refl _) ?_
        rw [take_snoc hpx, List.filter_append, show [p].filter (fun p => decide (p.1 = n)) = [p] by simp [e], List.map_append]
        rfl
      · refine LcI.skip s1 hD hal (Same.refl _) ?_
        rw [take_snoc hpx, List.filter_append, show [p].filter (fun p => decide (p.1 = n)) = [] by simp [e], List.append_nil]
    · obtain ⟨s1, acc, hD, hal, rfl⟩ := hP
      rw [List.take_of_length_le (by omega)] at hD hal
      walk_at "rd"
      refine ⟨by show 1 ≤ sizeLine; decide, fun l2 n2 => ?_⟩
      have s2 := same_new (o := .lst [.str n]) n2
      have h2 : (upd H1 l2 (.lst [.str n])) l2 = some (.lst [.str n]) := upd_same
      generalize upd H1 l2 (.lst [.str n]) = H2 at s2 h2 ⊢
      refine ⟨D, l2, _, _, rfl, rfl, s2 _ _ hD, h2, Nat.le_of_lt (small1000 (by show _ + 1 ≤ 1000; omega)), fun l3 n3 => ?_⟩
      have s3 := same_new (o := .lst (((t.filter fun p => decide (p.1 = n)).map fun p => V.str p.2) ++ [V.str n])) n3
      walk_at "rd"
      refine r_ixL (sqL upd_same) (look_first t n) ?_
      exact q _ ((s1.trans s2).trans s3)
end
end Pf

namespace Pf
open PySem PySem.Spec PyProof.Rows L2 LamX NdefX
local macro_rules | `(tactic| walk_at "rd") => `(tactic| (repeat' (first
  | with_reducible refine r_seq ?_ | with_reducible refine r_asg ?_ | with_reducible refine r_ret ?_ | with_reducible refine r_retN ?_ | with_reducible refine r_drop ?_ | with_reducible refine r_if ?_
  | with_reducible refine r_op ?_ | (with_reducible show tVar _ _ _ _; refine r_var rfl ?_) | with_reducible refine r_c ?_ | with_reducible refine r_I0 ?_ | (with_reducible refine r_I ?c ?_; (case c => first | (show (0 : Int) < _; first | decide | assumption | omega) | exact cmul_r ⟨by decide, by decide⟩ | exact cmul_l ⟨by decide, by decide⟩ | exact cmul_r (by first | assumption | constructor <;> omega) | (unfold CDiv; constructor <;> decide) | (unfold CPow; refine ⟨?_, ?_, ?_⟩ <;> decide))) | with_reducible refine r_name ?_ | (with_reducible show rIxL _ _ _ _ _; refine r_ixL (sqL (by assumption)) rfl ?_) | (with_reducible show rIxT _ _ _ _ _; refine r_ixT (by assumption) rfl ?_) | (with_reducible show rSetL _ _ _ _ _; refine r_setL (by assumption) rfl ?_) | with_reducible refine r_test ?_ | with_reducible refine r_tB ?_ | with_reducible refine r_bl ?_
  | with_reducible refine r_not ?_ | with_reducible refine r_and ?_ | with_reducible refine r_or ?_ | with_reducible refine r_andV ?_ | with_reducible refine r_orV ?_ | with_reducible refine r_notV ?_ | with_reducible refine r_ifE ?_
  | with_reducible refine r_cons ?_ | with_reducible refine r_nil ?_ | with_reducible refine r_cb ?_ | with_reducible refine r_call ?_ | with_reducible refine r_lst ?_ | with_reducible refine r_tup ?_ | with_reducible refine r_bm ?_ | with_reducible refine r_bm0 ?_
  | with_reducible refine r_un ?_ | with_reducible refine r_U ?_ | with_reducible refine r_eqI ?_ | with_reducible refine r_eqS ?_ | with_reducible refine r_neI ?_ | with_reducible refine r_neS ?_ | with_reducible refine r_sub ?_ | with_reducible refine r_gcons ?_ | with_reducible refine r_gnil ?_
  | with_reducible refine r_chain ?_ | with_reducible refine r_get2 ?_ | with_reducible refine r_iList ?_ | with_reducible refine r_iStr ?_ | with_reducible refine r_iTup ?_ | with_reducible refine r_iRev ?_ | with_reducible refine r_iItems ?_ | with_reducible refine r_rng ?_ | with_reducible refine r_inS ?_ | with_reducible refine r_bI ?_ | with_reducible refine r_abs ?_ | with_reducible refine r_sl ?_ | with_reducible refine r_next ?_ | with_reducible refine r_yes ?_
  | (with_reducible show rLen _ _ _ _; first | refine r_lenK (sqL (by assumption)) ?_ | refine r_lenK (by assumption) ?_ | refine r_lenTK (by assumption) ?_)
  | (with_reducible show tFor _ _ _ _ _ _; unfold tFor) | (with_reducible show tLc _ _ _ _ _ _ _ _; unfold tLc) | (with_reducible show tWhile _ _ _ _ _; unfold tWhile)
  | (with_reducible refine ⟨_, rfl, ?_⟩) | (with_reducible refine ⟨_, _, rfl, rfl, ?_⟩) | (with_reducible refine Or.inr ⟨_, rfl, ?_⟩) | (refine ⟨_, _, rfl, Or.inl (by assumption), ?_⟩; skip) | (refine ⟨_, _, rfl, Or.inr (by assumption), ?_⟩; skip)
  | (with_reducible refine iteNT ?_) | (with_reducible refine iteNF ?_) | (with_reducible refine iteT ?_) | (with_reducible refine iteF ?_)
  | (dsimp only [Bool.not_true, Bool.not_false, List.cons_append, List.nil_append]))))

local macro_rules | `(tactic| walk_at "st") => `(tactic| first | exact Same.refl _ | assumption | (refine Same.trans (by assumption) ?_; walk_at "st"))
local macro_rules | `(tactic| walk_at "ok") => `(tactic| first | assumption | exact up_tm (by assumption) (by walk_at "st") | exact up_sqT (by assumption) (by walk_at "st") | exact up_get (by assumption) (by walk_at "st") | exact up_getL (by assumption) (by walk_at "st") | exact up_getT (by assumption) (by walk_at "st") | exact up_sqL (by assumption) (by walk_at "st") | exact up_tms (by assumption) (by walk_at "st") | exact up_tnD (by assumption) (by walk_at "st") | exact up_tn (by assumption) (by walk_at "st") | exact ⟨_, up_getL (by assumption) (by walk_at "st")⟩ | exact ⟨_, up_sqL (by assumption) (by walk_at "st")⟩)

def sp_tpart (K : PySem.W.Frag) : Sp := fun vs H Q _ => ∃ (m tl : Addr) (x : V) (C : Tm) (u : List PS2) (ns : List Str) (ys : List V), vs = [.ref m, x, .ref tl] ∧ H m = some (.dK (u.map encM)) ∧ IsTurn u ∧ Among u ns ∧ ns.length ≤ 20 ∧ TmV K H x C ∧ C.isBad = false ∧ C.hin ns ∧ C.size ≤ 900 ∧
  H tl = some (.lst ys) ∧ TmsV K H ys (C.kids.map (Tm.led u)) ∧ ∀ y H2, Same H H2 → TmV K H2 y (C.led u) → Q y H2
section
variable {P : Program} {w : World} {K : PySem.W.Frag} {mg : Str → Option Value} {base : Heap} {a : Ad}
theorem G_turned_part (T : Txt K mg a) : FnOk P w K mg base CX0 3 a.f_turned_part a.d_turned_part ["moves", "part", "told"] (sp_tpart K) := by
  refine T.F_turned_part.ok sc_turned_part (fun vs H Q E h => ?_) (fun cdv A outer s H vs Q E hr h => ?_)
  · obtain ⟨m, tl, x, C, u, ns, ys, rfl, _⟩ := h
    rfl
  · obtain ⟨m, tl, x, C, u, ns, ys, rfl, hm, iu, au, l20, hx, nb, hin, zC, htl, hys, q⟩ := h
    refine ⟨_, (pss_cons (ps_if (pt_cmpR op_eq (pe_ix (ix_tupK K) (pv 1) pe_int (fun _ _ => rfl)) pe_str (nomark _)) (pss_one (ps_ret (pe_tup (pa_cons pe_str (pa_cons (pe_dget2 (hu_of hr) (pv 0) (pe_ix (ix_tupK K) (pv 1) pe_int (fun _ _ => rfl)) (pe_ix (ix_tupK K) (pv 1) pe_int (fun _ _ => rfl)) ⟨by rfl, by rfl, by rfl, by rfl⟩) pa_nil))))) pss_nil)
        (pss_cons (ps_if (pt_cmpR op_eq (pe_ix (ix_tupK K) (pv 1) pe_int (fun _ _ => rfl)) pe_str (nomark _)) (pss_one (ps_ret (pe_tup (pa_cons pe_str (pa_cons (pe_call (G_joined (K := K) T) (hr.mono (by decide)) (by rfl) T.g_joined T.F_joined.kp T.b_joined .nil pass0 (pa_cons (pe_callTy (call_dictTK K rfl) (by rfl) T.n_dict (by decide +kernel) (pa_cons (pe_ix (ix_tupK K) (pv 1) pe_int (fun _ _ => rfl)) pa_nil)) (pa_cons (pv 0) pa_nil))) (pa_cons (pe_ix (ix_tupK K) (pv 1) pe_int (fun _ _ => rfl)) pa_nil)))))) pss_nil)
        (pss_cons (ps_if (pt_cmpR op_eq (pe_ix (ix_tupK K) (pv 1) pe_int (fun _ _ => rfl)) pe_str (nomark _)) (pss_one (ps_ret (pe_tup (pa_cons pe_str (pa_cons (pe_dget2 (hu_of hr) (pv 0) (pe_ix (ix_tupK K) (pv 1) pe_int (fun _ _ => rfl)) (pe_ix (ix_tupK K) (pv 1) pe_int (fun _ _ => rfl)) ⟨by rfl, by rfl, by rfl, by rfl⟩) (pa_cons (pe_ix (ix_listK K) (pv 2) pe_int (fun _ _ => rfl)) pa_nil)))))) pss_nil)
        (pss_one (ps_ret (pe_call (G_with_parts (K := K) T) (hr.mono (by decide)) (by rfl) T.g_with_parts T.F_with_parts.kp T.b_with_parts .nil pass0 (pa_cons (pv 1) (pa_cons (pv 2) pa_nil)))))))), ?_⟩
    have okl : ∀ {n : Str}, NameOk n → NameOk (look u n) := fun h => iu.name h
    cases hx with
    | @name q0 n h a =>
      walk_at "rd"
      refine r_yes' rfl ?_
      walk_at "rd"
      refine ⟨.inl ⟨_, .inl hm⟩, ?_⟩
      walk_at "rd"
      refine ⟨_, DGet.k (k := Sum.inr n) hm, ?_⟩
      rw [valV_enc]
      walk_at "rd"
      refine ⟨by show 2 ≤ sizeLine; decide, fun p np => ?_⟩
      exact q _ _ (same_new np) (.name (sqT upd_same) (okl a))
    | @hole q0 v t X h d it ho =>
      walk_at "rd"
      refine r_no ne_hn ?_
      walk_at "rd"
      refine r_yes' rfl ?_
      walk_at "rd"
      obtain ⟨b, o, xs, rfl, hb, ho2, hp⟩ := d
      obtain ⟨ps, rfl, hps⟩ := refs_of hp
      refine ⟨b, o, ps, t.map encM, rfl, hb, ho2, hps, fun dd nd => ?_⟩
      rw [merge_nd it.nd]
      have s3 := same_new (o := .dK (t.map encM)) nd
      have hd : (upd H dd (.dK (t.map encM))) dd = some (.dK (t.map encM)) := upd_same
      generalize upd H dd (.dK (t.map encM)) = H3 at s3 hd ⊢
      walk_at "rd"
      have a1 := among_small it hin
      have a2 := among_small iu au
      refine ⟨dd, m, t, u, rfl, hd, s3 _ _ hm, (ne_of_none hm nd).symm, it, iu, by omega, fun v ms H5 s5 hb hml hv => ?_⟩
      have ir := hb.turn it iu hml
      have h5 := (Tups.of (s3.trans s5)).sq h
      walk_at "rd"
      refine ⟨by show 3 ≤ sizeLine; decide, fun p np => ?_⟩
      have s6 := same_new (o := .tup [.str "hole", v, .str X]) np
      refine q _ _ ((s3.trans s5).trans s6) ?_
      show TmV K _ _ (.hole (jn t u) X)
      rw [jn_eq ir hb.look]
      exact .hole (sqT upd_same) (hv.stay (.of s6)) ir ho
    | @shut q0 n y b h a s =>
      walk_at "rd"
      refine r_no ne_tn ?_
      walk_at "rd"
      refine r_no ne_th ?_
      walk_at "rd"
      refine r_yes' rfl ?_
      walk_at "rd"
      refine ⟨.inl ⟨_, .inl hm⟩, ?_⟩
      walk_at "rd"
      refine ⟨_, DGet.k (k := Sum.inr n) hm, ?_⟩
      rw [valV_enc]
      walk_at "rd"
      match ys, hys with
      | [y1], .cons hy1 .nil =>
      refine r_ixL (sqL htl) (atI_nat (j := 0) rfl) ?_
      walk_at "rd"
      refine ⟨by show 3 ≤ sizeLine; decide, fun p np => ?_⟩
      have s6 := same_new (o := .tup [.str "shut", .str (look u n), y1]) np
      exact q _ _ s6 (.shut (sqT upd_same) (okl a) (hy1.stay (.of s6)))
    | @sign q0 z n xs ps h a hz s =>
      walk_at "rd"
      refine r_no ne_sn ?_
      walk_at "rd"
      refine r_no ne_sh ?_
      walk_at "rd"
      refine r_no ne_st ?_
      walk_at "rd"
      have lys := tms_len hys
      rw [List.length_map] at lys
      refine ⟨.ref q0, .sign n ps, tl, ys, _, rfl, .sign h a hz s, rfl, .inr htl, hys, List.length_map .., by (have h1 := Tm.sizes_len ps; have h2 : 1 + Tm.sizes ps ≤ 900 := zC; have h3 : (Tm.sign n ps).kids.length = ps.length := rfl; omega), fun y H2 s2 hy => ?_⟩
      walk_at "rd"
      exact q y H2 s2 (by show TmV K H2 y (.sign n (Tm.leds u ps)); rw [Tm.leds_map]; exact hy)
    | bad h => exact nomatch nb
end
end Pf

namespace Pf
open PySem PySem.Spec PyProof.Rows L2 LamX NdefX
local macro_rules | `(tactic| walk_at "rd") => `(tactic| (repeat' (first
  | with_reducible refine r_seq ?_ | with_reducible refine r_asg ?_ | with_reducible refine r_ret ?_ | with_reducible refine r_retN ?_ | with_reducible refine r_drop ?_ | with_reducible refine r_if ?_
  | with_reducible refine r_op ?_ | (with_reducible show tVar _ _ _ _; refine r_var rfl ?_) | with_reducible refine r_c ?_ | with_reducible refine r_I0 ?_ | (with_reducible refine r_I ?c ?_; (case c => first | (show (0 : Int) < _; first | decide | assumption | omega) | exact cmul_r ⟨by decide, by decide⟩ | exact cmul_l ⟨by decide, by decide⟩ | exact cmul_r (by first | assumption | constructor <;> omega) | (unfold CDiv; constructor <;> decide) | (unfold CPow; refine ⟨?_, ?_, ?_⟩ <;> decide))) | with_reducible refine r_name ?_ | (with_reducible show rIxL _ _ _ _ _; refine r_ixL (sqL (by assumption)) rfl ?_) | (with_reducible show rIxT _ _ _ _ _; refine r_ixT (by assumption) rfl ?_) | (with_reducible show rSetL _ _ _ _ _; refine r_setL (by assumption) rfl ?_) | with_reducible refine r_test ?_ | with_reducible refine r_tB ?_ | with_reducible refine r_bl ?_
  | with_reducible refine r_not ?_ | with_reducible refine r_and ?_ | with_reducible refine r_or ?_ | with_reducible refine r_andV ?_ | with_reducible refine r_orV ?_ | with_reducible refine r_notV ?_ | with_reducible refine r_ifE ?_
  | with_reducible refine r_cons ?_ | with_reducible refine r_nil ?_ | with_reducible refine r_cb ?_ | with_reducible refine r_call ?_ | with_reducible refine r_lst ?_ | with_reducible refine r_tup ?_ | with_reducible refine r_bm ?_ | with_reducible refine r_bm0 ?_
  | with_reducible refine r_un ?_ | with_reducible refine r_U ?_ | with_reducible refine r_eqI ?_ | with_reducible refine r_eqS ?_ | with_reducible refine r_neI ?_ | with_reducible refine r_neS ?_ | with_reducible refine r_sub ?_ | with_reducible refine r_gcons ?_ | with_reducible refine r_gnil ?_
  | with_reducible refine r_chain ?_ | with_reducible refine r_get2 ?_ | with_reducible refine r_iList ?_ | with_reducible refine r_iStr ?_ | with_reducible refine r_iTup ?_ | with_reducible refine r_iRev ?_ | with_reducible refine r_iItems ?_ | with_reducible refine r_rng ?_ | with_reducible refine r_inS ?_ | with_reducible refine r_bI ?_ | with_reducible refine r_abs ?_ | with_reducible refine r_sl ?_ | with_reducible refine r_next ?_ | with_reducible refine r_yes ?_
  | (with_reducible show rLen _ _ _ _; first | refine r_lenK (sqL (by assumption)) ?_ | refine r_lenK (by assumption) ?_ | refine r_lenTK (by assumption) ?_)
  | (with_reducible show tFor _ _ _ _ _ _; unfold tFor) | (with_reducible show tLc _ _ _ _ _ _ _ _; unfold tLc) | (with_reducible show tWhile _ _ _ _ _; unfold tWhile)
  | (with_reducible refine ⟨_, rfl, ?_⟩) | (with_reducible refine ⟨_, _, rfl, rfl, ?_⟩) | (with_reducible refine Or.inr ⟨_, rfl, ?_⟩) | (refine ⟨_, _, rfl, Or.inl (by assumption), ?_⟩; skip) | (refine ⟨_, _, rfl, Or.inr (by assumption), ?_⟩; skip)
  | (with_reducible refine iteNT ?_) | (with_reducible refine iteNF ?_) | (with_reducible refine iteT ?_) | (with_reducible refine iteF ?_)
  | (dsimp only [Bool.not_true, Bool.not_false, List.cons_append, List.nil_append]))))

local macro_rules | `(tactic| walk_at "st") => `(tactic| first | exact Same.refl _ | assumption | (refine Same.trans (by assumption) ?_; walk_at "st"))
local macro_rules | `(tactic| walk_at "ok") => `(tactic| first | assumption | exact up_tm (by assumption) (by walk_at "st") | exact up_sqT (by assumption) (by walk_at "st") | exact up_get (by assumption) (by walk_at "st") | exact up_getL (by assumption) (by walk_at "st") | exact up_getT (by assumption) (by walk_at "st") | exact up_sqL (by assumption) (by walk_at "st") | exact up_tms (by assumption) (by walk_at "st") | exact up_tnD (by assumption) (by walk_at "st") | exact up_tn (by assumption) (by walk_at "st") | exact ⟨_, up_getL (by assumption) (by walk_at "st")⟩ | exact ⟨_, up_sqL (by assumption) (by walk_at "st")⟩)

theorem jn_nil {t : List PS2} (it : IsTurn t) : jn t [] = t := jn_eq it fun n => rfl
mutual
theorem led_nil {K : PySem.W.Frag} {H : Hp} {x : V} {U : Tm} : TmV K H x U → U.led [] = U
  | .name _ _ => rfl
  | .hole (X := X) h d it ho => congrArg (Tm.hole · X) (jn_nil it)
  | .shut (n := n) _ _ s => congrArg (Tm.shut n ·) (led_nil s)
  | .sign (n := n) _ _ _ s => congrArg (Tm.sign n ·) (leds_nil s)
  | .bad _ => rfl
theorem leds_nil {K : PySem.W.Frag} {H : Hp} {xs : List V} {Us : List Tm} : TmsV K H xs Us → Tm.leds [] Us = Us
  | .nil => rfl
  | .cons h t => by
    show Tm.led [] _ :: Tm.leds [] _ = _
    rw [led_nil h, leds_nil t]
end
def sp_turned (a : Ad) (K : PySem.W.Frag) : Sp := fun vs H Q _ => ∃ (v x : V) (u : List PS2) (U : Tm) (ns : List Str), vs = [v, x] ∧ TnD K H v u ∧ IsTurn u ∧ Among u ns ∧ ns.length ≤ 20 ∧ TmV K H x U ∧ U.good = true ∧ U.hin ns ∧ U.size ≤ 900 ∧ TabsN (tabs a) H ∧
  ∀ y H2, XN a H H2 → TmV K H2 y (U.led u) → Q y H2
section
variable {P : Program} {w : World} {K : PySem.W.Frag} {mg : Str → Option Value} {base : Heap} {a : Ad}
theorem G_turned (T : Txt K mg a) (B : Tbs base mg a) : FnOk P w K mg base CX0 11 a.f_turned a.d_turned ["turn", "term"] (sp_turned a K) := by
  refine T.C_turned.ok sc_turned (fun vs H Q E h => ?_) (fun A outer s H vs Q E hr h => ?_)
  · obtain ⟨v, x, u, U, ns, rfl, _⟩ := h
    rfl
  · obtain ⟨v, x, u, U, ns, rfl, hv, iu, au, l20, hx, g, hin, zU, tab, q⟩ := h
    refine ⟨_, (pss_cons (ps_if (pt_not (pt_truth (pv 0) (fun _ => rfl))) (pss_one (ps_ret (pv 1))) pss_nil)
        (pss_cons (ps_set (i := 2) sc_turned.nd rfl (.inr rfl) (pe_callTy (call_dictTK K rfl) (by rfl) T.n_dict (by decide +kernel) (pa_cons (pv 0) pa_nil)))
        (pss_one (ps_ret (pe_callZ2 ["moves"] [2] (G_changed (K := K) T B) (hr.mono (by decide)) (by rfl) T.g_changed T.F_changed.kp T.b_changed (by show NdefX.ndefB (defScope s_turned) _ _ = true; decide +kernel) (by rfl) (fun _ => rfl) (pa_cons (pv 1) (pa_cons (pe_lam2 (T := tabs a) (q := q_turned) ["moves"] B.t_turned (by rfl) (List.mem_cons_of_mem _ List.mem_cons_self) (by rfl) (hu_turned T) (by show NdefX.ndefB (defScope s_turned) _ _ = true; decide +kernel) (by rfl)) pa_nil))))))), ?_⟩
    walk_at "rd"
    obtain ⟨b, o, xs, rfl, hb, ho, hp⟩ := hv
    refine ⟨!xs.isEmpty, .inr (.inl ⟨xs, .inl (.inr ⟨o, hb⟩), rfl⟩), ?_⟩
    cases xs with
    | nil =>
      cases hp
      rw [if_pos (show (!!([] : List V).isEmpty) = true from rfl)]
      walk_at "rd"
      exact q x H (XN.of tab (Same.refl _)) (by rw [led_nil hx]; exact hx)
    | cons x0 xs =>
      rw [if_neg (show ¬ ((!!(x0 :: xs).isEmpty) = true) from Bool.false_ne_true)]
      walk_at "rd"
      obtain ⟨ps, eps, hps⟩ := refs_of hp
      rw [eps] at hb
      refine ⟨b, o, ps, u.map encM, rfl, hb, ho, hps, fun dd nd => ?_⟩
      rw [merge_nd iu.nd]
      have s3 := same_new (o := .dK (u.map encM)) nd
      have hd : (upd H dd (.dK (u.map encM))) dd = some (.dK (u.map encM)) := upd_same
      generalize upd H dd (.dK (u.map encM)) = H3 at s3 hd ⊢
      walk_at "rd"
      refine r_callZ ?_
      walk_at "rd"
      refine r_lamV (tab.ext s3) fun f2 c2 H4 eN nn T4 f0 f1 cc => ?_
      walk_at "rd"
      refine ⟨[.ref dd], rfl, fun z pz bz => ?_⟩
      have eN0 : ExtN H H4 := (ExtN.of s3).trans eN
      have hd4 := eN _ _ hd (fun _ z => nomatch z)
      have hx4 := hx.stay (K := K) (Ext2.ofN eN0).stay
      have sP := same_pin bz
      have pin5 : ∀ {H5 : Hp}, ExtN (pinA H4 z) H5 → Pinned z H5 := fun e b o l => e _ _ (pin_at l) (fun _ z => nomatch z)
      have low5 : ∀ {H5 : Hp}, ExtN (pinA H4 z) H5 → ExtN H4 (unpA H5 z) := fun e b o h n => (unp_off (bz.ne h)).trans (e _ _ (sP _ _ h) n)
      refine ⟨x, f2, U, fun C y Hx => TmV K Hx y (C.led u), rfl, hx4.stay (.of sP), g, zU, T4.ext sP, fun C v Ha Hb r st => r.stay st, ⟨fnH_lam (sP _ _ f1), _, lam_okE (H0 := H4) f1 (N := ["part", "told", "moves"]) (ps := ["part", "told"]) (fr := ["moves"])
        (sp := fun vs H5 Q E => ∃ (C : Tm) (v : V) (tl : Addr) (ys : List V), vs = [v, .ref tl] ∧ TmV K H5 v C ∧ C.isBad = false ∧ C.hin ns ∧ C.size ≤ 900 ∧ H5 dd = some (.dK (u.map encM)) ∧ H5 tl = some (.lst ys) ∧ TmsV K H5 ys (C.kids.map (Tm.led u)) ∧ ∀ y H6, Same H5 H6 → TmV K H6 y (C.led u) → Q y H6)
        (nscope_by (by dsimp only [lamF]; decide +kernel)) pz (fun pm ctv us hl => match us, hl with | [_, _], _ => rfl) (fun A outer s H5 vs Q E hr hl5 q5 => ?_), fun H5 C v tl ys Q5 E5 e5 hC hvC htl hys q5 => ?_⟩, fun y H5 xn ry => ?_⟩
      · obtain ⟨C, v, tl, ys, rfl, hvC, gC, hnC, zC, hd5, htl, hys, q5⟩ := q5
        refine ⟨_, (pe_call (G_turned_part (K := K) T) (hr.mono (by decide)) (by rfl) T.g_turned_part T.F_turned_part.kp T.b_turned_part .nil pass0 (pa_cons (pv 2) (pa_cons (pv 0) (pa_cons (pv 1) pa_nil)))), ?_⟩
        walk_at "rd"
        exact ⟨dd, tl, v, C, u, ns, ys, rfl, hd5, iu, au, l20, hvC, gC, hnC, zC, htl, hys, q5⟩
      · have p5 := pin5 e5
        have x2 := ext2_unp p5
        exact ⟨rfl, e5 _ _ (sP _ _ f1) (fun _ z => nomatch z), e5 _ _ (sP _ _ cc) (fun _ z => nomatch z), p5, C, v, tl, ys, rfl, hvC.stay x2.stay, pre_good g C hC, Tm.hin_pre hin C hC, Nat.le_trans (pre_le C hC) zU, low5 e5 _ _ hd4 (fun _ z => nomatch z), x2.lst htl, (tms_of (pd_map (R := fun y k => TmV K H5 y k) (Tm.led u) hys)).stay x2.stay,
          fun y H6 s6 ry bz6 => q5 y _ (same_repin p5 s6) (ry.stay (.of (same_pin bz6)))⟩
      · have p5 := pin5 xn.ext
        refine ⟨p5, q y _ ⟨eN0.trans (low5 xn.ext), fun c e => ?_, tabs_unp p5 xn.tab⟩ (ry.stay (ext2_unp p5).stay)⟩
        refine s3.free (nn c ?_)
        cases l : z.lookup c with
        | some o => exact bz c o l
        | none =>
          have := xn.old c ((unp_off l).symm.trans e)
          exact (pin_off l).symm.trans this
end
end Pf

namespace Pf
open PySem PySem.Spec PyProof.Rows L2 LamX NdefX
local macro_rules | `(tactic| walk_at "rd") => `(tactic| (repeat' (first
  | with_reducible refine r_seq ?_ | with_reducible refine r_asg ?_ | with_reducible refine r_ret ?_ | with_reducible refine r_retN ?_ | with_reducible refine r_drop ?_ | with_reducible refine r_if ?_
  | with_reducible refine r_op ?_ | (with_reducible show tVar _ _ _ _; refine r_var rfl ?_) | with_reducible refine r_c ?_ | with_reducible refine r_I0 ?_ | (with_reducible refine r_I ?c ?_; (case c => first | (show (0 : Int) < _; first | decide | assumption | omega) | exact cmul_r ⟨by decide, by decide⟩ | exact cmul_l ⟨by decide, by decide⟩ | exact cmul_r (by first | assumption | constructor <;> omega) | (unfold CDiv; constructor <;> decide) | (unfold CPow; refine ⟨?_, ?_, ?_⟩ <;> decide))) | with_reducible refine r_name ?_ | (with_reducible show rIxL _ _ _ _ _; refine r_ixL (sqL (by assumption)) rfl ?_) | (with_reducible show rIxT _ _ _ _ _; refine r_ixT (by assumption) rfl ?_) | (with_reducible show rSetL _ _ _ _ _; refine r_setL (by assumption) rfl ?_) | with_reducible refine r_test ?_ | with_reducible refine r_tB ?_ | with_reducible refine r_bl ?_
  | with_reducible refine r_not ?_ | with_reducible refine r_and ?_ | with_reducible refine r_or ?_ | with_reducible refine r_andV ?_ | with_reducible refine r_orV ?_ | with_reducible refine r_notV ?_ | with_reducible refine r_ifE ?_
  | with_reducible refine r_cons ?_ | with_reducible refine r_nil ?_ | with_reducible refine r_cb ?_ | with_reducible refine r_call ?_ | with_reducible refine r_lst ?_ | with_reducible refine r_tup ?_ | with_reducible refine r_bm ?_ | with_reducible refine r_bm0 ?_
  | with_reducible refine r_un ?_ | with_reducible refine r_U ?_ | with_reducible refine r_eqI ?_ | with_reducible refine r_eqS ?_ | with_reducible refine r_neI ?_ | with_reducible refine r_neS ?_ | with_reducible refine r_sub ?_ | with_reducible refine r_gcons ?_ | with_reducible refine r_gnil ?_
  | with_reducible refine r_chain ?_ | with_reducible refine r_get2 ?_ | with_reducible refine r_iList ?_ | with_reducible refine r_iStr ?_ | with_reducible refine r_iTup ?_ | with_reducible refine r_iRev ?_ | with_reducible refine r_iItems ?_ | with_reducible refine r_rng ?_ | with_reducible refine r_inS ?_ | with_reducible refine r_bI ?_ | with_reducible refine r_abs ?_ | with_reducible refine r_sl ?_ | with_reducible refine r_next ?_ | with_reducible refine r_yes ?_
  | (with_reducible show rLen _ _ _ _; first | refine r_lenK (sqL (by assumption)) ?_ | refine r_lenK (by assumption) ?_ | refine r_lenTK (by assumption) ?_)
  | (with_reducible show tFor _ _ _ _ _ _; unfold tFor) | (with_reducible show tLc _ _ _ _ _ _ _ _; unfold tLc) | (with_reducible show tWhile _ _ _ _ _; unfold tWhile)
  | (with_reducible refine ⟨_, rfl, ?_⟩) | (with_reducible refine ⟨_, _, rfl, rfl, ?_⟩) | (with_reducible refine Or.inr ⟨_, rfl, ?_⟩) | (refine ⟨_, _, rfl, Or.inl (by assumption), ?_⟩; skip) | (refine ⟨_, _, rfl, Or.inr (by assumption), ?_⟩; skip)
  | (with_reducible refine iteNT ?_) | (with_reducible refine iteNF ?_) | (with_reducible refine iteT ?_) | (with_reducible refine iteF ?_)
  | (dsimp only [Bool.not_true, Bool.not_false, List.cons_append, List.nil_append]))))

local macro_rules | `(tactic| walk_at "st") => `(tactic| first | exact Same.refl _ | assumption | (refine Same.trans (by assumption) ?_; walk_at "st"))
local macro_rules | `(tactic| walk_at "ok") => `(tactic| first | assumption | exact up_tm (by assumption) (by walk_at "st") | exact up_sqT (by assumption) (by walk_at "st") | exact up_get (by assumption) (by walk_at "st") | exact up_getL (by assumption) (by walk_at "st") | exact up_getT (by assumption) (by walk_at "st") | exact up_sqL (by assumption) (by walk_at "st") | exact up_tms (by assumption) (by walk_at "st") | exact up_tnD (by assumption) (by walk_at "st") | exact up_tn (by assumption) (by walk_at "st") | exact ⟨_, up_getL (by assumption) (by walk_at "st")⟩ | exact ⟨_, up_sqL (by assumption) (by walk_at "st")⟩)

local macro_rules | `(tactic| walk_at "sy") => `(tactic| first | exact Stay.refl | assumption | (refine Stay.trans (by first | assumption | exact Stay.of (by assumption)) ?_; walk_at "sy"))
local macro_rules | `(tactic| walk_at "oy") => `(tactic| first | assumption | exact uy_tm (by assumption) (by walk_at "sy") | exact uy_sqT (by assumption) (by walk_at "sy") | exact uy_tms (by assumption) (by walk_at "sy") | exact uy_tnD (by assumption) (by walk_at "sy") | exact uy_tn (by assumption) (by walk_at "sy"))

def sp_tt (a : Ad) (K : PySem.W.Frag) (N1 N2 : Addr) : Sp := fun vs H Q E => ∃ (v x : V) (o : Option (List PS2)) (U : Tm), vs = [v, x] ∧ TgV K H v o ∧ TmV K H x U ∧ U.size ≤ 900 ∧ TabsN (tabs a) H ∧
  (∀ u, o = some u → IsTurn u → U.good = true → ∃ ns, Among u ns ∧ ns.length ≤ 20 ∧ U.hin ns ∧ ∀ y H2, XN a H H2 → TmV K H2 y (U.led u) → Q y H2) ∧
  (turnB o = false → ∀ H2, Same H H2 → E (.ref N1) none H2) ∧ (turnB o = true → U.good = false → ∀ H2, Same H H2 → E (.ref N2) none H2)
section
variable {P : Program} {w : World} {K : PySem.W.Frag} {mg : Str → Option Value} {base : Heap} {a : Ad}
theorem G_turned_term (T : Txt K mg a) (B : Tbs base mg a) : FnOk P w K mg base (L2.CX P w) 12 a.f_turned_term a.d_turned_term ["turn", "term"] (sp_tt a K a.f_NoTurn a.f_NoTerm) := by
  refine T.F_turned_term.okX sc_turned_term (fun vs H Q E h => ?_) (fun cdv A outer s H vs Q E hr h => ?_)
  · obtain ⟨v, x, o, U, rfl, _⟩ := h
    rfl
  · obtain ⟨v, x, o, U, rfl, hv, hx, zU, tab, q1, q2, q3⟩ := h
    refine ⟨_, (pss_cons (ps_expr (pe_call (G_check_turn (K := K) T) (hr.mono (by decide)) (by rfl) T.g_check_turn T.F_check_turn.kp T.b_check_turn .nil (passes_call (takes_of rfl rfl rfl rfl) fun _ _ _ _ h => h) (pa_cons (pv 0) pa_nil)))
        (pss_cons (ps_expr (pe_call (G_check_term (K := K) T) (hr.mono (by decide)) (by rfl) T.g_check_term T.F_check_term.kp T.b_check_term .nil (passes_call (takes_of rfl rfl rfl rfl) fun _ _ _ _ h => h) (pa_cons (pv 1) pa_nil)))
        (pss_one (ps_ret (pe_call (G_turned (K := K) T B) (hr.mono (by decide)) (by rfl) T.g_turned T.F_turned.kp T.b_turned .nil pass0 (pa_cons (pv 0) (pa_cons (pv 1) pa_nil))))))), ?_⟩
    walk_at "rd"
    refine ⟨v, o, rfl, hv, fun e1 H1 s1 => ?_, fun e1 H1 s1 => q2 e1 _ s1⟩
    obtain ⟨u, rfl, iu⟩ := turnB_of e1
    walk_at "rd"
    refine ⟨x, U, rfl, hx.stay (.of s1), by omega, fun g H2 s2 => ?_, fun g H2 s2 => q3 e1 g H2 (s1.trans s2)⟩
    have s12 := s1.trans s2
    obtain ⟨ns, au, l20, hin, q⟩ := q1 u rfl iu g
    walk_at "rd"
    refine ⟨v, x, u, U, ns, rfl, (hv.tnd iu).same s12, iu, au, l20, hx.stay (.of s12), g, hin, zU, tab.ext s12, fun y H3 xn hy => ?_⟩
    exact q y H3 ((XN.of tab s12).trans xn) hy
end
end Pf

namespace Pf
open PySem PySem.Spec PyProof.Rows L2
local macro_rules | `(tactic| walk_at "rd") => `(tactic| (repeat' (first
  | with_reducible refine r_seq ?_ | with_reducible refine r_asg ?_ | with_reducible refine r_ret ?_ | with_reducible refine r_retN ?_ | with_reducible refine r_drop ?_ | with_reducible refine r_if ?_
  | with_reducible refine r_op ?_ | (with_reducible show tVar _ _ _ _; refine r_var rfl ?_) | with_reducible refine r_c ?_ | with_reducible refine r_I0 ?_ | (with_reducible refine r_I ?c ?_; (case c => first | (show (0 : Int) < _; first | decide | assumption | omega) | exact cmul_r ⟨by decide, by decide⟩ | exact cmul_l ⟨by decide, by decide⟩ | exact cmul_r (by first | assumption | constructor <;> omega) | (unfold CDiv; constructor <;> decide) | (unfold CPow; refine ⟨?_, ?_, ?_⟩ <;> decide))) | with_reducible refine r_name ?_ | (with_reducible show rIxL _ _ _ _ _; refine r_ixL (sqL (by assumption)) rfl ?_) | (with_reducible show rIxT _ _ _ _ _; refine r_ixT (by assumption) rfl ?_) | (with_reducible show rSetL _ _ _ _ _; refine r_setL (by assumption) rfl ?_) | with_reducible refine r_test ?_ | with_reducible refine r_tB ?_ | with_reducible refine r_bl ?_
  | with_reducible refine r_not ?_ | with_reducible refine r_and ?_ | with_reducible refine r_or ?_ | with_reducible refine r_andV ?_ | with_reducible refine r_orV ?_ | with_reducible refine r_notV ?_ | with_reducible refine r_ifE ?_
  | with_reducible refine r_cons ?_ | with_reducible refine r_nil ?_ | with_reducible refine r_cb ?_ | with_reducible refine r_call ?_ | with_reducible refine r_lst ?_ | with_reducible refine r_tup ?_ | with_reducible refine r_bm ?_ | with_reducible refine r_bm0 ?_
  | with_reducible refine r_un ?_ | with_reducible refine r_U ?_ | with_reducible refine r_eqI ?_ | with_reducible refine r_eqS ?_ | with_reducible refine r_neI ?_ | with_reducible refine r_neS ?_ | with_reducible refine r_sub ?_ | with_reducible refine r_gcons ?_ | with_reducible refine r_gnil ?_
  | with_reducible refine r_chain ?_ | with_reducible refine r_get2 ?_ | with_reducible refine r_iList ?_ | with_reducible refine r_iStr ?_ | with_reducible refine r_iTup ?_ | with_reducible refine r_iRev ?_ | with_reducible refine r_iItems ?_ | with_reducible refine r_rng ?_ | with_reducible refine r_inS ?_ | with_reducible refine r_bI ?_ | with_reducible refine r_abs ?_ | with_reducible refine r_sl ?_ | with_reducible refine r_next ?_ | with_reducible refine r_yes ?_
  | (with_reducible show rLen _ _ _ _; first | refine r_lenK (sqL (by assumption)) ?_ | refine r_lenK (by assumption) ?_ | refine r_lenTK (by assumption) ?_)
  | (with_reducible show tFor _ _ _ _ _ _; unfold tFor) | (with_reducible show tLc _ _ _ _ _ _ _ _; unfold tLc) | (with_reducible show tWhile _ _ _ _ _; unfold tWhile)
  | (with_reducible refine ⟨_, rfl, ?_⟩) | (with_reducible refine ⟨_, _, rfl, rfl, ?_⟩) | (with_reducible refine Or.inr ⟨_, rfl, ?_⟩) | (refine ⟨_, _, rfl, Or.inl (by assumption), ?_⟩; skip) | (refine ⟨_, _, rfl, Or.inr (by assumption), ?_⟩; skip)
  | (with_reducible refine iteNT ?_) | (with_reducible refine iteNF ?_) | (with_reducible refine iteT ?_) | (with_reducible refine iteF ?_)
  | (dsimp only [Bool.not_true, Bool.not_false, List.cons_append, List.nil_append]))))

local macro_rules | `(tactic| walk_at "st") => `(tactic| first | exact Same.refl _ | assumption | (refine Same.trans (by assumption) ?_; walk_at "st"))
local macro_rules | `(tactic| walk_at "ok") => `(tactic| first | assumption | exact up_tm (by assumption) (by walk_at "st") | exact up_sqT (by assumption) (by walk_at "st") | exact up_get (by assumption) (by walk_at "st") | exact up_getL (by assumption) (by walk_at "st") | exact up_getT (by assumption) (by walk_at "st") | exact up_sqL (by assumption) (by walk_at "st") | exact up_tms (by assumption) (by walk_at "st") | exact up_tnD (by assumption) (by walk_at "st") | exact up_tn (by assumption) (by walk_at "st") | exact ⟨_, up_getL (by assumption) (by walk_at "st")⟩ | exact ⟨_, up_sqL (by assumption) (by walk_at "st")⟩)

local macro_rules | `(tactic| walk_at "sy") => `(tactic| first | exact Stay.refl | assumption | (refine Stay.trans (by first | assumption | exact Stay.of (by assumption)) ?_; walk_at "sy"))
local macro_rules | `(tactic| walk_at "oy") => `(tactic| first | assumption | exact uy_tm (by assumption) (by walk_at "sy") | exact uy_sqT (by assumption) (by walk_at "sy") | exact uy_tms (by assumption) (by walk_at "sy") | exact uy_tnD (by assumption) (by walk_at "sy") | exact uy_tn (by assumption) (by walk_at "sy"))

def sp_sums (K : PySem.W.Frag) : Sp := fun vs H Q _ => ∃ (x : V) (U : Tm) (ns : List Str), vs = [x] ∧ TmV K H x U ∧ U.good = true ∧ U.size ≤ 90 ∧ U.dep ≤ 30 ∧ U.hin ns ∧ ns.length ≤ 20 ∧ ∀ H2, Same H H2 → Q (.bl true) H2
theorem sum_sizes : ∀ l : List Tm, (l.map fun k => ((k.size : Nat) : Int)).sum = ((Tm.sizes l : Nat) : Int)
  | [] => rfl
  | p :: r => by
    rw [List.map_cons, List.sum_cons, sum_sizes r]
    show _ = ((p.size + Tm.sizes r : Nat) : Int)
    omega
theorem sub_len {ys zs : List Str} (nd : ys.Nodup) (h : ∀ n ∈ ys, n ∈ zs) : ys.length ≤ zs.length := by
  rcases Nat.lt_or_ge zs.length ys.length with lt | ge
  · have := (perm_of_sub nd h (Nat.le_of_lt lt)).length_eq
    omega
  · exact ge
theorem nms_len {K : PySem.W.Frag} {H : Hp} {x : V} {U : Tm} (h : TmV K H x U) : U.nms.length ≤ U.size * 40 := by
  have := flat_small Tm.nmsAt 40 U.pre fun W hW => by
    obtain ⟨y, hy⟩ := pre_tmv h W hW
    exact nmsAt_few hy
  rw [Tm.len_pre] at this
  exact this
theorem hls_len (U : Tm) : U.hls.length ≤ U.size * 40 := by
  have := flat_small Tm.hlsAt 40 U.pre fun W _ => by cases W <;> simp [Tm.hlsAt]
  rw [Tm.len_pre] at this
  exact this
theorem ex_take {l : List Tm} {i : Nat} {k : Tm} (h : l[i]? = some k) (f : Tm → Prop) : (∃ c ∈ l.take (i + 1), f c) ↔ (∃ c ∈ l.take i, f c) ∨ f k := by
  rw [take_snoc h]
  constructor
  · rintro ⟨c, hc, hf⟩
    rcases List.mem_append.mp hc with hc | hc
    · exact .inl ⟨c, hc, hf⟩
    · rw [List.mem_singleton.mp hc] at hf
      exact .inr hf
  · rintro (⟨c, hc, hf⟩ | hf)
    · exact ⟨c, List.mem_append_left _ hc, hf⟩
    · exact ⟨k, List.mem_append_right _ List.mem_cons_self, hf⟩
theorem r_dget {σ : L2.St} {H : Hp} {Q : VK} {td ty : TE} (h : td σ H fun x H1 => ty σ H1 fun y H2 => ∃ a v, x = .ref a ∧ DGet H2 a y (some v) ∧ Q v H2) : tDGet td ty σ H Q := h
theorem r_disp {trs : List (TE × TE)} {σ : L2.St} {H : Hp} {Q : VK} (h : ∀ p, H p = none → tPairs trs σ (upd H p (.dK [])) fun ps H2 => H2 p = some (.dK []) ∧ ∃ kvs : List (Key × V), ps = kvs.map (fun kv => (kV kv.1, kv.2)) ∧ kvs.length ≤ 15 ∧ Q (.ref p) (upd H2 p (.dK (mergeK [] kvs)))) : tDisp trs σ H Q := h
/-- a term's tuple: its word, its second thing -/
theorem tm_head {K : PySem.W.Frag} {H : Hp} {x : V} {U : Tm} (h : TmV K H x U) (g : U.isBad = false) : ∃ (q : Addr) (w : Str) (v1 : V) (rs : List V), x = .ref q ∧ SqT K H q (.str w :: v1 :: rs) ∧
    (((w = wN ∨ w = wT) ∧ ∃ n, v1 = .str n ∧ U.nmsAt = [n] ∧ U.hlsAt = []) ∨ (w = wS ∧ U.nmsAt = [] ∧ U.hlsAt = []) ∨ (w = wH ∧ ∃ t X, rs = [.str X] ∧ TnD K H v1 t ∧ t.length ≤ 40 ∧ U.nmsAt = t.map (·.1) ∧ U.hlsAt = [X] ∧ U.kids = [])) := by
  cases h with
  | @name q n h a => exact ⟨q, wN, .str n, [], rfl, h, .inl ⟨.inl rfl, n, rfl, rfl, rfl⟩⟩
  | @hole q v t X h d it ho => exact ⟨q, wH, v, [.str X], rfl, h, .inr (.inr ⟨rfl, t, X, rfl, d, it.small, rfl, rfl, rfl⟩)⟩
  | @shut q n y b h a s => exact ⟨q, wT, .str n, [y], rfl, h, .inl ⟨.inr rfl, n, rfl, rfl, rfl⟩⟩
  | @sign q z n xs ps h a hz s => exact ⟨q, wS, .str n, [.ref z], rfl, h, .inr (.inl ⟨rfl, rfl, rfl⟩)⟩
  | bad h => exact nomatch g
theorem flat_pres (f : Tm → List Str) (n : Str) : ∀ l : List Tm, n ∈ (Tm.pres l).flatMap f ↔ ∃ c ∈ l, n ∈ c.pre.flatMap f
  | [] => by simp [Tm.pres]
  | p :: r => by
    show n ∈ (p.pre ++ Tm.pres r).flatMap f ↔ _
    rw [List.flatMap_append, List.mem_append, flat_pres f n r]
    constructor
    · rintro (h | ⟨c, hc, h⟩)
      · exact ⟨p, List.mem_cons_self, h⟩
      · exact ⟨c, List.mem_cons_of_mem _ hc, h⟩
    · rintro ⟨c, hc, h⟩
      rcases List.mem_cons.mp hc with rfl | hc
      · exact .inl h
      · exact .inr ⟨c, hc, h⟩
theorem nms_kids (U : Tm) (n : Str) : n ∈ U.nms ↔ n ∈ U.nmsAt ∨ ∃ c ∈ U.kids, n ∈ c.nms := by
  unfold Tm.nms
  rw [Tm.pre_kids, List.flatMap_cons, List.mem_append, flat_pres]
theorem hls_kids (U : Tm) (n : Str) : n ∈ U.hls ↔ n ∈ U.hlsAt ∨ ∃ c ∈ U.kids, n ∈ c.hls := by
  unfold Tm.hls
  rw [Tm.pre_kids, List.flatMap_cons, List.mem_append, flat_pres]
theorem sizes_take {l : List Tm} {i : Nat} {k : Tm} (h : l[i]? = some k) : Tm.sizes (l.take (i + 1)) = Tm.sizes (l.take i) + k.size := by
  rw [take_snoc h, Tm.sizes_app]
  show _ + (k.size + 0) = _
  omega
theorem dep_all (U : Tm) : U.dep = 1 + Tm.deps U.kids := by cases U <;> simp [Tm.dep, Tm.kids, Tm.deps]
theorem deps_at : ∀ l : List Tm, Tm.deps l = 0 ∨ ∃ c ∈ l, c.dep = Tm.deps l
  | [] => .inl rfl
  | p :: r => by
    refine .inr ?_
    show ∃ c ∈ p :: r, c.dep = max p.dep (Tm.deps r)
    rcases Nat.le_total (Tm.deps r) p.dep with h | h
    · exact ⟨p, List.mem_cons_self, by omega⟩
    · rcases deps_at r with e | ⟨c, hc, e⟩
      · exact ⟨p, List.mem_cons_self, by omega⟩
      · exact ⟨c, List.mem_cons_of_mem _ hc, by omega⟩
theorem top_deps {l : List Tm} {m : Int} (hm : m ∈ (0 : Int) :: l.map fun k => ((k.dep : Nat) : Int)) (hle : ∀ y, y ∈ (0 : Int) :: (l.map fun k => ((k.dep : Nat) : Int)) → y ≤ m) : m = ((Tm.deps l : Nat) : Int) := by
  have h0 := hle 0 List.mem_cons_self
  have up : m ≤ ((Tm.deps l : Nat) : Int) := by
    rcases List.mem_cons.mp hm with e | h
    · omega
    · obtain ⟨c, hc, rfl⟩ := List.mem_map.mp h
      have := dep_kid hc
      omega
  rcases deps_at l with e | ⟨c, hc, e⟩
  · omega
  · have := hle _ (List.mem_cons_of_mem _ (List.mem_map.mpr ⟨c, hc, rfl⟩))
    omega
theorem dp_plI {K : PySem.W.Frag} {H : Hp} : ∀ pl : List Nat, DpAll K H (plI pl) (pl.map fun n => PyData.int (n : Nat))
  | [] => .nil
  | n :: r => .cons (.int _) (dp_plI r)
theorem sh_plI (pl : List Nat) : SeqAt.shaped (.tuple (pl.map fun n => PyData.int (n : Nat))) = true :=
  shaped_iff.mpr ⟨canAll (fun n => PyData.int (n : Nat)) fun _ _ => rfl, Nat.le_trans (Nat.succ_le_succ (depAll (n := 0) (fun n => PyData.int (n : Nat)) fun _ _ => Nat.le_refl 0)) (by decide)⟩
def eN (p : List Nat) : PyData := .tuple (p.map fun n => .int (n : Nat))
theorem dep_N (p : List Nat) : (eN p).depth ≤ 1 := Nat.succ_le_succ (depAll (n := 0) (fun n => PyData.int (n : Nat)) fun _ _ => Nat.le_refl 0)
theorem sh_N (ps : List (List Nat)) : SeqAt.shaped (.list (ps.map eN)) = true :=
  shaped_iff.mpr ⟨canAll eN fun p _ => (shaped_iff.mp (sh_plI p)).1, Nat.le_trans (Nat.succ_le_succ (depAll (n := 1) eN fun p _ => dep_N p)) (by decide)⟩
theorem dp_pls {K : PySem.W.Frag} {H : Hp} : ∀ {xs : List V} {ps : List (List Nat)}, Pls K H xs ps → DpAll K H xs (ps.map eN)
  | _, _, .nil => .nil
  | _, _, .cons ⟨q, e, h⟩ r => by
    subst e
    exact .cons (.tup h (dp_plI _)) (dp_pls r)
theorem nmsAt_ok {K : PySem.W.Frag} {H : Hp} {x : V} {U : Tm} (h : TmV K H x U) : ∀ n ∈ U.nmsAt, NameOk n := by
  cases h with
  | @name q n h a =>
    intro m hm
    rw [List.mem_singleton.mp hm]
    exact a
  | @hole q v t X h d it ho =>
    intro m hm
    obtain ⟨p, hp, rfl⟩ := List.mem_map.mp hm
    exact (it.ok p hp).1
  | @shut q n y b h a s =>
    intro m hm
    rw [List.mem_singleton.mp hm]
    exact a
  | sign => exact fun _ hm => nomatch hm
  | bad => exact fun _ hm => nomatch hm
theorem hlsAt_ok {K : PySem.W.Frag} {H : Hp} {x : V} {U : Tm} (h : TmV K H x U) : ∀ n ∈ U.hlsAt, HoleOk n := by
  cases h with
  | @hole q v t X h d it ho =>
    intro m hm
    rw [List.mem_singleton.mp hm]
    exact ho
  | name => exact fun _ hm => nomatch hm
  | shut => exact fun _ hm => nomatch hm
  | sign => exact fun _ hm => nomatch hm
  | bad => exact fun _ hm => nomatch hm
theorem nms_ok {K : PySem.W.Frag} {H : Hp} {x : V} {U : Tm} (h : TmV K H x U) : ∀ n ∈ U.nms, NameOk n := fun n hn => by
  obtain ⟨W, hW, hn⟩ := List.mem_flatMap.mp hn
  obtain ⟨y, hy⟩ := pre_tmv h W hW
  exact nmsAt_ok hy n hn
theorem hls_ok {K : PySem.W.Frag} {H : Hp} {x : V} {U : Tm} (h : TmV K H x U) : ∀ n ∈ U.hls, HoleOk n := fun n hn => by
  obtain ⟨W, hW, hn⟩ := List.mem_flatMap.mp hn
  obtain ⟨y, hy⟩ := pre_tmv h W hW
  exact hlsAt_ok hy n hn
theorem eq_srt {y1 ks n1s : List Str} {L : List Str} (py : y1.Perm (heap1 [] ks)) (so : y1.Pairwise leS) (nd : n1s.Nodup) (s1 : n1s.Pairwise leS) (m1 : ∀ n, n ∈ n1s ↔ n ∈ L) (mk : ∀ n, n ∈ ks ↔ n ∈ L) : y1 = n1s :=
  same_set (py.nodup_iff.mpr (heap1_nd _ _ .nil)) nd so s1 fun n => by
    rw [py.mem_iff, heap1_mem, m1, ← mk]
    simp
section
variable {P : Program} {w : World} {K : PySem.W.Frag} {mg : Str → Option Value} {base : Heap} {a : Ad}
theorem G__law_sums (T : Txt K mg a) : FnOk P w K mg base CX0 9 a.f__law_sums a.d__law_sums ["_law_term_here"] (sp_sums K) := by
  refine T.F__law_sums.ok sc__law_sums (fun vs H Q E h => ?_) (fun cdv A outer s H vs Q E hr h => ?_)
  · obtain ⟨x, U, ns, rfl, _⟩ := h
    rfl
  · obtain ⟨x, U, ns, rfl, hx, g, zU, dU, hin, few, q⟩ := h
    refine ⟨_, (pss_cons (ps_set (i := 1) sc__law_sums.nd rfl (.inl rfl) (pe_call (G__law_in (K := K) T) (hr.mono (by decide)) (by rfl) T.g__law_in T.F__law_in.kp T.b__law_in .nil pass0 (pa_cons (pv 0) pa_nil)))
        (pss_cons (ps_if (pt_cmpR op_ne (pe_call (G_parts_of (K := K) T) (hr.mono (by decide)) (by rfl) T.g_parts_of T.F_parts_of.kp T.b_parts_of .nil passL (pa_cons (pv 0) pa_nil)) (pe_op op_add pe_int (pe_callB (cr_sum rfl) (by rfl) T.n_sum (by decide +kernel) (pa_cons (pe_lc (own := [("_law_part", 4)]) (by rfl) sc__law_sums.nd (pi_listK K (pv 1)) (blkOk_by (N := N__law_sums) (sc := defScope s__law_sums) (by decide +kernel)) (fun _ _ _ _ _ => (pg_name (i := 4) sc__law_sums.nd rfl (by first | exact Or.inl rfl | exact Or.inr rfl))) (fun _ _ _ _ _ => pts_nil) (fun _ _ _ _ _ => (pe_call (G_parts_of (K := K) T) (hr.mono (by decide)) (by rfl) T.g_parts_of T.F_parts_of.kp T.b_parts_of .nil passL (pa_cons (pv 4) pa_nil)))) pa_nil))) (nomark _)) (pss_one (ps_ret pe_bl)) pss_nil)
        (pss_cons (ps_set (i := 2) sc__law_sums.nd rfl (.inl rfl) (pe_lst pa_nil))
        (pss_cons (ps_set (i := 3) sc__law_sums.nd rfl (.inl rfl) (pe_lst pa_nil))
        (pss_cons (ps_for PassesOwn.never rfl (pi_listK K (pv 1)) (pg_name (i := 4) sc__law_sums.nd rfl (by first | exact Or.inl rfl | exact Or.inr rfl)) (pss_cons (ps_set (i := 2) sc__law_sums.nd rfl (.inl rfl) (pe_op op_cat (pv 2) (pe_call (G_names_in (K := K) T) (hr.mono (by decide)) (by rfl) T.g_names_in T.F_names_in.kp T.b_names_in .nil passL (pa_cons (pv 4) pa_nil))))
        (pss_one (ps_set (i := 3) sc__law_sums.nd rfl (.inl rfl) (pe_op op_cat (pv 3) (pe_call (G_holes_in (K := K) T) (hr.mono (by decide)) (by rfl) T.g_holes_in T.F_holes_in.kp T.b_holes_in .nil passL (pa_cons (pv 4) pa_nil)))))))
        (pss_cons (ps_set (i := 5) sc__law_sums.nd rfl (.inl rfl) (pe_dget (hu_of hr) (pe_disp (pps_cons pe_str (pe_lst (pa_cons (pe_ix (ix_tupK K) (pv 0) pe_int (fun _ _ => rfl)) pa_nil)) (pps_cons pe_str (pe_lst (pa_cons (pe_ix (ix_tupK K) (pv 0) pe_int (fun _ _ => rfl)) pa_nil)) (pps_cons pe_str (pe_lst pa_nil) (pps_cons pe_str (pe_lst pa_nil) pps_nil)))) (by rfl) (by rfl) (fun z => by cases z) (by decide)) (pe_ix (ix_tupK K) (pv 0) pe_int (fun _ _ => rfl)) (fun _ _ => rfl)))
        (C8.pss_cut (ps_if (pt_cmpR op_eq (pe_ix (ix_tupK K) (pv 0) pe_int (fun _ _ => rfl)) pe_str (nomark _)) (pss_cons (ps_setLc (i := 5) (own := [("_law_one", 8), ("_law_to_here", 9)]) (by rfl) sc__law_sums.nd rfl rfl (sw_true rfl rfl rfl (by decide +kernel)) (pi_tupK K (pe_ix (ix_tupK K) (pv 0) pe_int (fun _ _ => rfl))) (blkOk_by (N := N__law_sums) (sc := defScope s__law_sums) (by decide +kernel)) (fun _ _ _ _ _ => (pg_tupK K (n := 2) rfl (pgs_cons (pg_name (i := 8) sc__law_sums.nd rfl (by first | exact Or.inl rfl | exact Or.inr rfl)) (pgs_cons (pg_name (i := 9) sc__law_sums.nd rfl (by first | exact Or.inl rfl | exact Or.inr rfl)) pgs_nil)))) (fun _ _ _ _ _ => pts_nil) (fun _ _ _ _ _ => (pv 8)))
        (pss_one (ps_set (i := 3) sc__law_sums.nd rfl (.inl rfl) (pe_lst (pa_cons (pe_ix (ix_tupK K) (pv 0) pe_int (fun _ _ => rfl)) pa_nil))))) pss_nil)
        (pss_cons (ps_if ((pw_or (pt_cmpR (op_neDK K hr.units) (pe_call (G_names_in (K := K) T) (hr.mono (by decide)) (by rfl) T.g_names_in T.F_names_in.kp T.b_names_in .nil passL (pa_cons (pv 0) pa_nil)) (pe_callB (crSrtSK K P w rfl hr.units) (by rfl) T.n_sorted (by decide +kernel) (pa_cons (pe_callTy (crSetSK K P w rfl) (by rfl) T.n_set (by decide +kernel) (pa_cons (pe_op op_cat (pv 5) (pv 2)) pa_nil)) pa_nil)) (nomark _)) (pw_or1 (pt_cmpR (op_neDK K hr.units) (pe_call (G_holes_in (K := K) T) (hr.mono (by decide)) (by rfl) T.g_holes_in T.F_holes_in.kp T.b_holes_in .nil passL (pa_cons (pv 0) pa_nil)) (pe_callB (crSrtSK K P w rfl hr.units) (by rfl) T.n_sorted (by decide +kernel) (pa_cons (pe_callTy (crSetSK K P w rfl) (by rfl) T.n_set (by decide +kernel) (pa_cons (pv 3) pa_nil)) pa_nil)) (nomark _))))).pt (pss_one (ps_ret pe_bl)) pss_nil)
        (pss_cons (ps_set (i := 6) sc__law_sums.nd rfl (.inl rfl) (pe_lst (pa_cons (pe_tupF pa_nil) pa_nil)))
        (pss_cons (ps_for PassesOwn.never rfl (pi_enum (by rfl) T.n_enumerate (pa_cons (pv 1) pa_nil)) (pg_tupK K (n := 2) rfl (pgs_cons (pg_name (i := 7) sc__law_sums.nd rfl (by first | exact Or.inl rfl | exact Or.inr rfl)) (pgs_cons (pg_name (i := 4) sc__law_sums.nd rfl (by first | exact Or.inl rfl | exact Or.inr rfl)) pgs_nil))) (pss_one (ps_set (i := 6) sc__law_sums.nd rfl (.inl rfl) (pe_op op_cat (pv 6) (pe_lc (own := [("_law_place", 10)]) (by rfl) sc__law_sums.nd (pi_listK K (pe_call (G_places_of (K := K) T) (hr.mono (by decide)) (by rfl) T.g_places_of T.F_places_of.kp T.b_places_of .nil passL (pa_cons (pv 4) pa_nil))) (blkOk_by (N := N__law_sums) (sc := defScope s__law_sums) (by decide +kernel)) (fun _ _ _ _ _ => (pg_name (i := 10) sc__law_sums.nd rfl (by first | exact Or.inl rfl | exact Or.inr rfl))) (fun _ _ _ _ _ => pts_nil) (fun _ _ _ _ _ => (pe_op (op_catAK K) (pe_tup (pa_cons (pv 7) pa_nil)) (pv 10))))))))
        (pss_cons (ps_if (pt_cmpR (op_neDK K hr.units) (pe_call (G_places_of (K := K) T) (hr.mono (by decide)) (by rfl) T.g_places_of T.F_places_of.kp T.b_places_of .nil passL (pa_cons (pv 0) pa_nil)) (pv 6) (nomark _)) (pss_one (ps_ret pe_bl)) pss_nil)
        (pss_one (ps_ret (pe_cmpR op_eq (pe_call (G_levels_of (K := K) T) (hr.mono (by decide)) (by rfl) T.g_levels_of T.F_levels_of.kp T.b_levels_of .nil passL (pa_cons (pv 0) pa_nil)) (pe_op op_add pe_int (pe_callB (cr_max rfl) (by rfl) T.n_max (by decide +kernel) (pa_cons (pe_op op_cat (pe_lst (pa_cons pe_int pa_nil)) (pe_lc (own := [("_law_part", 4)]) (by rfl) sc__law_sums.nd (pi_listK K (pv 1)) (blkOk_by (N := N__law_sums) (sc := defScope s__law_sums) (by decide +kernel)) (fun _ _ _ _ _ => (pg_name (i := 4) sc__law_sums.nd rfl (by first | exact Or.inl rfl | exact Or.inr rfl))) (fun _ _ _ _ _ => pts_nil) (fun _ _ _ _ _ => (pe_call (G_levels_of (K := K) T) (hr.mono (by decide)) (by rfl) T.g_levels_of T.F_levels_of.kp T.b_levels_of .nil passL (pa_cons (pv 4) pa_nil))))) pa_nil))) (nomark _))))))))))))))), ?_⟩
    walk_at "rd"
    have nU := Tm.size_kids U
    have gK : Tm.goods U.kids = true := by rw [Tm.good_kids] at g; exact (Tm.and2 g).2
    have hK := Tm.hin_kids hin
    have lK := Tm.sizes_len U.kids
    refine ⟨x, U, rfl, hx, notBad g, by omega, fun lk xs H1 s1 nk hk hkT => ?_⟩
    have lx := tms_len hkT
    walk_at "rd"
    refine ⟨x, U, rfl, hx.stay (.of s1), g, by omega, fun H2 s2 => ?_⟩
    walk_at "rd"
    refine ⟨⟨_, sqL (s2 _ _ hk)⟩, fun D nD => ?_⟩
    refine lc_list (K := K) (a := lk) (xs := xs) (LcI H2 D fun i acc _ => acc = (U.kids.take i).map fun k => V.int (k.size : Nat)) (LcI.zero nD rfl) (fun i H3 _ hP => hP.1.seq (sqL (s2 _ _ hk))) (fun i x1 H3 hx1 hP => ?_) (fun H3 hP => ?_)
    · obtain ⟨s3, acc, hD, hal, rfl⟩ := hP
      obtain ⟨Ui, hUi, hri⟩ := pd_get' hkT.pd hx1
      have mem := List.mem_of_getElem? hUi
      have zi := Tm.sizes_mem mem
      have hi := (List.getElem?_eq_some_iff.mp hx1).1
      walk_at "rd"
      refine ⟨rfl, ?_⟩
      walk_at "rd"
      refine ⟨x1, Ui, rfl, hri.stay (.of (s2.trans s3)), Tm.goods_mem gK Ui mem, by omega, fun H4 s4 => ?_⟩
      refine LcI.keep nD s3 hD hal (by omega) s4 ?_
      rw [take_snoc hUi, List.map_append]
      rfl
    · obtain ⟨s3, acc, hD, hal, rfl⟩ := hP
      rw [List.take_of_length_le (by omega)] at hD
      walk_at "rd"
      refine ⟨D, U.kids.map fun k => ((k.size : Nat) : Int), rfl, sqL (by rw [List.map_map]; exact hD), ?_⟩
      rw [sum_sizes]
      walk_at "rd"
      refine r_ndec (fun e => absurd (by omega) e) (fun _ => ?_)
      have s03 := (s1.trans s2).trans s3
      have hk3 := s3 _ _ (s2 _ _ hk)
      have hkT3 := hkT.stay (.of (s2.trans s3))
      have hx3 := hx.stay (.of s03)
      clear hD hal nD hk hkT s1 s2 s3
      walk_at "rd"
      refine ⟨Nat.zero_le _, fun ln0 nln0 => ?_⟩
      have s4 := same_new (o := .lst []) nln0
      have h4 := upd_same (H := H3) (a := ln0) (o := .lst [])
      generalize upd H3 ln0 (.lst []) = H4 at s4 h4 ⊢
      walk_at "rd"
      refine ⟨Nat.zero_le _, fun lh0 nlh0 => ?_⟩
      have s5 := same_new (o := .lst []) nlh0
      have h5 := upd_same (H := H4) (a := lh0) (o := .lst [])
      generalize upd H4 lh0 (.lst []) = H5 at s5 h5 ⊢
      have s35 := s4.trans s5
      walk_at "rd"
      refine ⟨⟨_, sqL (s35 _ _ hk3)⟩, ?_⟩
      have hk5 := s35 _ _ hk3
      have hkT5 := hkT3.stay (.of s35)
      have hx5 := hx3.stay (.of s35)
      have s05 := s03.trans s35
      have h45 := s5 _ _ h4
      clear hk3 hkT3 hx3 s03 s35 s4 s5 h4 nln0 nlh0
      refine forN_list (K := K) (a := lk) (xs := xs) (fun j σ HX => ∃ (ln lh : Addr) (ys zs : List Str) (y4 : Option V), σ = [some x, some (.ref lk), some (.ref ln), some (.ref lh), y4, none, none, none, none, none, none] ∧ Same H5 HX ∧ HX ln = some (.lst (ys.map V.str)) ∧ HX lh = some (.lst (zs.map V.str)) ∧
          (∀ n, n ∈ ys ↔ ∃ c ∈ U.kids.take j, n ∈ c.nms) ∧ (∀ n, n ∈ zs ↔ ∃ c ∈ U.kids.take j, n ∈ c.hls) ∧ ys.length ≤ Tm.sizes (U.kids.take j) * 40 ∧ zs.length ≤ Tm.sizes (U.kids.take j) * 40)
        ⟨ln0, lh0, [], [], none, rfl, Same.refl _, h45, h5, fun n => by simp, fun n => by simp, Nat.zero_le _, Nat.zero_le _⟩ (fun j σ HX _ hP => by
          obtain ⟨_, _, _, _, _, _, sX, _⟩ := hP
          exact sqL (sX _ _ hk5)) (fun j x1 σ HX hx1 hP => ?_) (fun σ HX hP => ?_)
      · obtain ⟨ln, lh, ys, zs, y4, rfl, sX, hln, hlh, my, mz, ly, lz⟩ := hP
        obtain ⟨Ui, hUi, hri⟩ := pd_get' hkT5.pd hx1
        have mem := List.mem_of_getElem? hUi
        have zi := Tm.sizes_mem mem
        have st := sizes_take hUi
        have zt : Tm.sizes (U.kids.take (j + 1)) ≤ Tm.sizes U.kids := by
          have := Tm.sizes_app (U.kids.take (j + 1)) (U.kids.drop (j + 1))
          rw [List.take_append_drop] at this
          omega
        have n1 := nms_len hri
        have n2 := hls_len Ui
        walk_at "rd"
        refine ⟨x1, Ui, rfl, hri.stay (.of sX), Tm.goods_mem gK Ui mem, by omega, fun l ys2 H6 s6 nl hl6 nd6 pw6 m6 => ?_⟩
        have l6 := sub_len nd6 fun n hn => (m6 n).mp hn
        walk_at "rd"
        refine ⟨ln, l, _, _, rfl, rfl, s6 _ _ hln, hl6, by rw [List.length_map, List.length_map, sizeLine_eq]; omega, fun l7 n7 => ?_⟩
        rw [← List.map_append]
        have s7 := same_new (o := .lst ((ys ++ ys2).map V.str)) n7
        have h7 := upd_same (H := H6) (a := l7) (o := .lst ((ys ++ ys2).map V.str))
        generalize upd H6 l7 (.lst ((ys ++ ys2).map V.str)) = H7 at s7 h7 ⊢
        have s67 := s6.trans s7
        walk_at "rd"
        refine ⟨x1, Ui, rfl, hri.stay (.of (sX.trans s67)), Tm.goods_mem gK Ui mem, by omega, fun l8 zs2 H8 s8 nl8 hl8 nd8 pw8 m8 => ?_⟩
        have l8' := sub_len nd8 fun n hn => (m8 n).mp hn
        walk_at "rd"
        refine ⟨lh, l8, _, _, rfl, rfl, s8 _ _ (s67 _ _ hlh), hl8, by rw [List.length_map, List.length_map, sizeLine_eq]; omega, fun l9 n9 => ?_⟩
        rw [← List.map_append]
        have s9 := same_new (o := .lst ((zs ++ zs2).map V.str)) n9
        have h9 := upd_same (H := H8) (a := l9) (o := .lst ((zs ++ zs2).map V.str))
        generalize upd H8 l9 (.lst ((zs ++ zs2).map V.str)) = H9 at s9 h9 ⊢
        have s89 := s8.trans s9
        refine ⟨l7, l9, ys ++ ys2, zs ++ zs2, _, rfl, sX.trans (s67.trans s89), s89 _ _ h7, h9, fun n => ?_, fun n => ?_, ?_, ?_⟩
        · rw [ex_take hUi (fun c => n ∈ c.nms), List.mem_append, my, m6]
        · rw [ex_take hUi (fun c => n ∈ c.hls), List.mem_append, mz, m8]
        · rw [List.length_append, st]; omega
        · rw [List.length_append, st]; omega
      · obtain ⟨ln, lh, ys, zs, y4, rfl, sX, hln, hlh, my, mz, ly, lz⟩ := hP
        rw [List.take_of_length_le (by omega)] at my mz ly lz
        have hkX := sX _ _ hk5
        have hkTX := hkT5.stay (.of sX)
        have hxX := hx5.stay (.of sX)
        have s0X := s05.trans sX
        clear hk5 hkT5 hx5 s05 sX h45 h5
        obtain ⟨qx, wd, v1, rs, rfl, hq, kind⟩ := tm_head hxX (notBad g)
        refine r_dget ?_
        refine r_disp fun pd npd => ?_
        have s1 := same_new (o := .dK []) npd
        have hpd := upd_same (H := HX) (a := pd) (o := .dK [])
        generalize upd HX pd (.dK []) = HY at s1 hpd ⊢
        have hq1 := (Tups.of s1).sq hq
        unfold tPairs
        walk_at "rd"
        refine r_ixT hq1 (atI_nat (j := 1) rfl) ?_
        walk_at "rd"
        refine ⟨by show 1 ≤ sizeLine; decide, fun la nla => ?_⟩
        have s2 := same_new (o := .lst [v1]) nla
        have hla := upd_same (H := HY) (a := la) (o := .lst [v1])
        generalize upd HY la (.lst [v1]) = HZ at s2 hla ⊢
        have hq2 := (Tups.of s2).sq hq1
        unfold tPairs
        walk_at "rd"
        refine r_ixT hq2 (atI_nat (j := 1) rfl) ?_
        walk_at "rd"
        refine ⟨by show 1 ≤ sizeLine; decide, fun lb nlb => ?_⟩
        have s3 := same_new (o := .lst [v1]) nlb
        have hlb := upd_same (H := HZ) (a := lb) (o := .lst [v1])
        generalize upd HZ lb (.lst [v1]) = HU at s3 hlb ⊢
        unfold tPairs
        walk_at "rd"
        refine ⟨Nat.zero_le _, fun lc nlc => ?_⟩
        have s4 := same_new (o := .lst []) nlc
        have hlc := upd_same (H := HU) (a := lc) (o := .lst [])
        generalize upd HU lc (.lst []) = HV at s4 hlc ⊢
        unfold tPairs
        walk_at "rd"
        refine ⟨Nat.zero_le _, fun ld nld => ?_⟩
        have s5 := same_new (o := .lst []) nld
        have hld := upd_same (H := HV) (a := ld) (o := .lst [])
        generalize upd HV ld (.lst []) = HW at s5 hld ⊢
        have s25 := s2.trans (s3.trans (s4.trans s5))
        unfold tPairs
        refine ⟨s25 _ _ hpd, [(.inr wN, .ref la), (.inr wT, .ref lb), (.inr wH, .ref lc), (.inr wS, .ref ld)], rfl, by show 4 ≤ 15; decide, ?_⟩
        have mk : mergeK [] [((Sum.inr wN : Key), V.ref la), (.inr wT, .ref lb), (.inr wH, .ref lc), (.inr wS, .ref ld)] = [(.inr wN, .ref la), (.inr wT, .ref lb), (.inr wH, .ref lc), (.inr wS, .ref ld)] := by
          have e1 : ¬ Str.ofString "name" = Str.ofString "shut" := by decide +kernel
          have e2 : ¬ Str.ofString "name" = Str.ofString "hole" := by decide +kernel
          have e3 : ¬ Str.ofString "name" = Str.ofString "sign" := by decide +kernel
          have e4 : ¬ Str.ofString "shut" = Str.ofString "hole" := by decide +kernel
          have e5 : ¬ Str.ofString "shut" = Str.ofString "sign" := by decide +kernel
          have e6 : ¬ Str.ofString "hole" = Str.ofString "sign" := by decide +kernel
          simp [mergeK, putK, wN, wT, wH, wS, e1, e2, e3, e4, e5, e6]
        rw [mk]
        have hlaW := s5 _ _ (s4 _ _ (s3 _ _ hla))
        have hlbW := s5 _ _ (s4 _ _ hlb)
        have own : ∃ (lo : Addr) (us : List V), valV [((Sum.inr wN : Key), V.ref la), (.inr wT, .ref lb), (.inr wH, .ref lc), (.inr wS, .ref ld)] (.inr wd) = some (.ref lo) ∧ HW lo = some (.lst us) ∧ (¬ wd = wH → ∃ os : List Str, us = os.map V.str ∧ os.length ≤ 1 ∧ ∀ n, n ∈ os ↔ n ∈ U.nmsAt) := by
          rcases kind with ⟨rfl | rfl, n, rfl, e1, e2⟩ | ⟨rfl, e1, e2⟩ | ⟨rfl, t, X, e0, _, _, _, e2, e3⟩
          · exact ⟨la, _, valV_pos rfl, hlaW, fun _ => ⟨[n], rfl, Nat.le_refl _, fun m => by rw [e1]⟩⟩
          · exact ⟨lb, _, by rw [valV_neg (fun e => ne_nt (Sum.inr.inj e)), valV_pos rfl], hlbW, fun _ => ⟨[n], rfl, Nat.le_refl _, fun m => by rw [e1]⟩⟩
          · exact ⟨ld, _, by rw [valV_neg (fun e => ne_ns (Sum.inr.inj e)), valV_neg (fun e => ne_ts (Sum.inr.inj e)), valV_neg (fun e => ne_hs (Sum.inr.inj e)), valV_pos rfl], hld, fun _ => ⟨[], rfl, Nat.zero_le _, fun m => by rw [e1]⟩⟩
          · exact ⟨lc, _, by rw [valV_neg (fun e => ne_nh (Sum.inr.inj e)), valV_neg (fun e => ne_th (Sum.inr.inj e)), valV_pos rfl], s5 _ _ hlc, fun e => absurd rfl e⟩
        obtain ⟨lo, us, hval, hloW, hown⟩ := own
        have hpW := s25 _ _ hpd
        have nlo : lo ≠ pd := fun e => by
          rw [e, hpW] at hloW
          cases hloW
        have sM : Same HX (upd HW pd (.dK [((Sum.inr wN : Key), V.ref la), (.inr wT, .ref lb), (.inr wH, .ref lc), (.inr wS, .ref ld)])) := Pf.Same.mut (s1.trans s25) npd
        have hpM := upd_same (H := HW) (a := pd) (o := .dK [((Sum.inr wN : Key), V.ref la), (.inr wT, .ref lb), (.inr wH, .ref lc), (.inr wS, .ref ld)])
        have hloM : upd HW pd (.dK [((Sum.inr wN : Key), V.ref la), (.inr wT, .ref lb), (.inr wH, .ref lc), (.inr wS, .ref ld)]) lo = some (.lst us) := by rw [upd_ne nlo]; exact hloW
        generalize upd HW pd (.dK [((Sum.inr wN : Key), V.ref la), (.inr wT, .ref lb), (.inr wH, .ref lc), (.inr wS, .ref ld)]) = HM at sM hpM hloM ⊢
        have hqM := (Tups.of sM).sq hq
        have hlnM := sM _ _ hln
        have hlhM := sM _ _ hlh
        have hkM := sM _ _ hkX
        have hkTM := hkTX.stay (.of sM)
        have hxM := hxX.stay (.of sM)
        have s0M := s0X.trans sM
        have kindM : ((wd = wN ∨ wd = wT) ∧ ∃ n, v1 = .str n ∧ U.nmsAt = [n] ∧ U.hlsAt = []) ∨ (wd = wS ∧ U.nmsAt = [] ∧ U.hlsAt = []) ∨ (wd = wH ∧ ∃ t X, rs = [.str X] ∧ TnD K HM v1 t ∧ t.length ≤ 40 ∧ U.nmsAt = t.map (·.1) ∧ U.hlsAt = [X] ∧ U.kids = []) := by
          rcases kind with k | k | ⟨k0, t, X, k1, k2, k3⟩
          · exact .inl k
          · exact .inr (.inl k)
          · exact .inr (.inr ⟨k0, t, X, k1, k2.stay (.of sM), k3⟩)
        clear kind mk s1 s2 s3 s4 s5 s25 hla hlb hlc hld hlaW hlbW hpd hpW npd nla nlb nlc nld hq hq1 hq2 hln hlh hkX hkTX hxX s0X hloW
        walk_at "rd"
        refine r_ixT hqM (atI_nat (j := 0) rfl) ?_
        refine ⟨pd, .ref lo, rfl, by rw [← hval]; exact DGet.k (k := .inr wd) hpM, ?_⟩
        walk_at "rd"
        refine ⟨fun σ' H' => ∃ (lo lh : Addr) (os zs : List Str), σ' = [some (.ref qx), some (.ref lk), some (.ref ln), some (.ref lh), y4, some (.ref lo), none, none, none, none, none] ∧ Same HM H' ∧ H' lo = some (.lst (os.map V.str)) ∧ H' lh = some (.lst (zs.map V.str)) ∧ (∀ n, n ∈ os ↔ n ∈ U.nmsAt) ∧ (∀ n, n ∈ zs ↔ n ∈ U.hls) ∧ os.length ≤ 40 ∧ zs.length ≤ 3600, ?_, ?_⟩
        · walk_at "rd"
          refine r_ixT hqM (atI_nat (j := 0) rfl) ?_
          walk_at "rd"
          by_cases hw : wd = wH
          · obtain ⟨t, X, rfl, d, t40, e1, e2, e3⟩ : ∃ t X, rs = [.str X] ∧ TnD K HM v1 t ∧ t.length ≤ 40 ∧ U.nmsAt = t.map (·.1) ∧ U.hlsAt = [X] ∧ U.kids = [] := by
              rcases kindM with ⟨k | k, _⟩ | ⟨k, _⟩ | ⟨_, k⟩
              · exact absurd (hw.symm.trans k) ne_hn
              · exact absurd (hw.symm.trans k) ne_ht
              · exact absurd (hw.symm.trans k) ne_hs
              · exact k
            obtain ⟨qt, o, ts, rfl, hqt, hd, hp⟩ := d
            have sqt : SqT K HM qt ts := .inl (.inr ⟨o, hqt⟩)
            have lt := pd_len hp
            refine r_yes' hw ?_
            walk_at "rd"
            refine ⟨⟨_, sqt⟩, fun D nD => ?_⟩
            refine lc_tup (K := K) (a := qt) (xs := ts) (LcI HM D fun j acc _ => acc = ((t.map (·.1)).take j).map V.str) (LcI.zero nD rfl) (fun j H1 _ hP => (Tups.of hP.1).sq sqt) (fun j x1 H1 hx1 hP => ?_) (fun H1 hP => ?_)
            · obtain ⟨s1, acc3, hD3, hal3, rfl⟩ := hP
              obtain ⟨pr, hpr, hpr1⟩ := pd_get' hp hx1
              obtain ⟨t1, rfl, ht1⟩ := hpr1.stay (Tups.of s1)
              have hj := (List.getElem?_eq_some_iff.mp hx1).1
              refine r_gtup ht1 rfl ?_
              walk_at "rd"
              refine ⟨rfl, ?_⟩
              walk_at "rd"
              refine LcI.keep nD s1 hD3 hal3 (by omega) (Same.refl _) ?_
              rw [take_snoc (x := pr.1) (by rw [List.getElem?_map, hpr]; rfl), List.map_append]
              rfl
            · obtain ⟨s1, acc3, hD3, hal3, rfl⟩ := hP
              rw [List.take_of_length_le (by rw [List.length_map]; omega)] at hD3
              have hq9 := (Tups.of s1).sq hqM
              walk_at "rd"
              refine ⟨by show 1 ≤ sizeLine; decide, fun l9 n9 => ?_⟩
              have s9 := same_new (o := .lst [V.str X]) n9
              have h9 := upd_same (H := H1) (a := l9) (o := .lst [V.str X])
              generalize upd H1 l9 (.lst [V.str X]) = H9 at s9 h9 ⊢
              walk_at "rd"
              refine ⟨D, l9, t.map (·.1), [X], rfl, s1.trans s9, s9 _ _ hD3, h9, fun n => by rw [e1], fun n => ?_, by rw [List.length_map]; exact t40, by show 1 ≤ 3600; decide⟩
              rw [hls_kids, e2, e3]
              simp
          · have e2 : U.hlsAt = [] := by
              rcases kindM with ⟨_, _, _, _, k⟩ | ⟨_, _, k⟩ | ⟨k, _⟩
              · exact k
              · exact k
              · exact absurd k hw
            obtain ⟨os, rfl, lo1, mo⟩ := hown hw
            refine r_no hw ?_
            walk_at "rd"
            refine ⟨lo, lh, os, zs, rfl, Same.refl _, hloM, hlhM, mo, fun n => ?_, by omega, by omega⟩
            rw [hls_kids, e2, mz]
            simp
        · rintro σ' H' ⟨lo', lh', os, zs', rfl, sC, hlo', hlh', mo, mz', lo40, lz'⟩
          walk_at "rd"
          have hxC := hxM.stay (.of sC)
          refine ⟨.ref qx, U, rfl, hxC, g, zU, fun l1 n1s H6 s6 nl1 hl1 nd1 so1 m1 => ?_⟩
          walk_at "rd"
          refine ⟨lo', ln, _, _, rfl, rfl, s6 _ _ hlo', s6 _ _ (sC _ _ hlnM), by rw [List.length_map, List.length_map, sizeLine_eq]; omega, fun l7 n7 => ?_⟩
          have s7 := same_new (o := .lst (os.map V.str ++ ys.map V.str)) n7
          have h7 := upd_same (H := H6) (a := l7) (o := .lst (os.map V.str ++ ys.map V.str))
          generalize upd H6 l7 (.lst (os.map V.str ++ ys.map V.str)) = H7 at s7 h7 ⊢
          rw [← List.map_append] at h7
          walk_at "rd"
          refine ⟨l7, os ++ ys, rfl, sqL h7, by rw [List.length_append]; omega, fun l8 n8 => ?_⟩
          have s8 := same_new (o := STx P w l8 (heap1 [] (os ++ ys))) n8
          walk_at "rd"
          have len8 := heap1_len (os ++ ys) []
          rw [List.length_append] at len8
          refine ⟨l8, _, rfl, upd_same, by have : ([] : List Str).length = 0 := rfl; omega, fun y1 l9 py so9 n9 => ?_⟩
          have e1 : y1 = n1s := eq_srt py so9 nd1 so1 m1 fun n => by rw [List.mem_append, mo, my, ← nms_kids]
          have ok1 : SeqAt.shaped (.list (n1s.map .str)) = true := shaped_LS fun n hn => (nms_ok hxC n ((m1 n).mp hn)).sok
          have s9 := same_new (o := .lst (y1.map V.str)) n9
          have s69 := s7.trans (s8.trans s9)
          rw [e1] at s69 ⊢
          refine r_neD (.lst (sqL (s69 _ _ hl1)) (dp_strs n1s)) (.lst (sqL upd_same) (dp_strs n1s)) ok1 ok1 ?_
          rw [SeqAt.eqv_refl _ (shaped_iff.mp ok1).1]
          walk_at "rd"
          have s9C := s6.trans s69
          generalize upd (upd H7 l8 (STx P w l8 (heap1 [] (os ++ ys)))) l9 (HO.lst (List.map V.str n1s)) = H9 at s9C ⊢
          clear s69 s9 s8 s7 h7 n7 n8 n9 len8 hl1 nl1 s6
          have hx9 := hxC.stay (.of s9C)
          refine ⟨.ref qx, U, rfl, hx9, g, zU, fun l2 n2s HA sA nl2 hl2 nd2 so2 m2 => ?_⟩
          walk_at "rd"
          have hlhA := sA _ _ (s9C _ _ hlh')
          refine ⟨lh', zs', rfl, sqL hlhA, by omega, fun l10 n10 => ?_⟩
          have s10 := same_new (o := STx P w l10 (heap1 [] zs')) n10
          walk_at "rd"
          have len10 := heap1_len zs' []
          refine ⟨l10, _, rfl, upd_same, by have : ([] : List Str).length = 0 := rfl; omega, fun y2 l11 py2 so11 n11 => ?_⟩
          have e2 : y2 = n2s := eq_srt py2 so11 nd2 so2 m2 mz'
          have ok2 : SeqAt.shaped (.list (n2s.map .str)) = true := shaped_LS fun n hn => (hls_ok hx9 n ((m2 n).mp hn)).sok
          have s11 := same_new (o := .lst (y2.map V.str)) n11
          have sA1 := s10.trans s11
          rw [e2] at sA1 ⊢
          refine r_neD (.lst (sqL (sA1 _ _ hl2)) (dp_strs n2s)) (.lst (sqL upd_same) (dp_strs n2s)) ok2 ok2 ?_
          rw [SeqAt.eqv_refl _ (shaped_iff.mp ok2).1]
          have sB := sC.trans (s9C.trans (sA.trans sA1))
          generalize upd (upd HA l10 (STx P w l10 (heap1 [] zs'))) l11 (HO.lst (List.map V.str n2s)) = HB at sB ⊢
          have hkB := sB _ _ hkM
          have hkTB := hkTM.stay (.of sB)
          have hxB := hxM.stay (.of sB)
          have s0B := s0M.trans sB
          clear sA1 s10 s11 n10 n11 len10 hl2 nl2 sA hlhA hx9 hxC s9C sC hlo' hlh' hlnM hlhM hkM hkTM hxM s0M hqM hpM hloM sM kindM
          walk_at "rd"
          refine r_tupFr ?_
          walk_at "rd"
          refine ⟨Nat.zero_le _, fun t0 o0 nt0 _ => ?_⟩
          have s1 := same_new (o := .frz o0 (.tup [])) nt0
          have h1 := upd_same (H := HB) (a := t0) (o := .frz o0 (.tup []))
          generalize upd HB t0 (.frz o0 (.tup [])) = HC at s1 h1 ⊢
          walk_at "rd"
          refine ⟨by show 1 ≤ sizeLine; decide, fun lf nf => ?_⟩
          have s2 := same_new (o := .lst [.ref t0]) nf
          have h2 := upd_same (H := HC) (a := lf) (o := .lst [.ref t0])
          generalize upd HC lf (.lst [.ref t0]) = HD at s2 h2 ⊢
          have s12 := s1.trans s2
          have w0 : PlV K HD (.ref t0) [] := ⟨t0, rfl, .inl (.inr ⟨_, s2 _ _ h1⟩)⟩
          have hkD := s12 _ _ hkB
          have hkTD := hkTB.stay (.of s12)
          have hxD := hxB.stay (.of s12)
          have s0D := s0B.trans s12
          clear hkB hkTB hxB s0B s12 s1 s2 h1 nt0 nf sB
          walk_at "rd"
          refine r_enum ?_
          walk_at "rd"
          refine ⟨lk, xs, rfl, sqL hkD, ?_⟩
          refine forN (J := Ite K lk) (n := xs.length) (fun i σ Hc => ∃ (lg : Addr) (ps : List V) (z4 y7 : Option V), σ = [some (.ref qx), some (.ref lk), some (.ref ln), some (.ref lh'), z4, some (.ref lo'), some (.ref lg), y7, none, none, none] ∧ Same HD Hc ∧ Hc lg = some (.lst ps) ∧ Pls K Hc ps ((([], U) :: Tm.plcs 0 (U.kids.take i)).map (·.1)))
            ⟨lf, [.ref t0], y4, none, rfl, Same.refl _, h2, .cons w0 .nil⟩ (fun i σ Hc hi hP => ?_) (fun σ Hc hP => ?_) (fun i x1 σ Hc Hd hi hP hyl => ?_) (fun σ Hc hP => ?_)
          · obtain ⟨lg, ps, z4, y7, _, sC, _⟩ := hP
            exact ⟨xs, xs[i], sqL (sC _ _ hkD), List.getElem?_eq_getElem hi⟩
          · obtain ⟨lg, ps, z4, y7, _, sC, _⟩ := hP
            exact ⟨xs, sqL (sC _ _ hkD), Nat.le_refl _⟩
          · obtain ⟨lg, ps, z4, y7, rfl, sC, hgC, hWC⟩ := hP
            obtain ⟨te, xi, rfl, nte, rfl, hxi⟩ := hyl
            replace hxi := hxi xs (sqL (sC _ _ hkD))
            obtain ⟨Ui, hUi, hri⟩ := pd_get' hkTD.pd hxi
            have mem := List.mem_of_getElem? hUi
            have gi := Tm.goods_mem gK Ui mem
            have zi := Tm.sizes_mem mem
            have di := dep_kid mem
            have dK : U.dep = 1 + Tm.deps U.kids := by
              rcases dep_kids U with e | e
              · rw [e] at mem; exact absurd mem List.not_mem_nil
              · exact e
            have s6 := same_new (o := .tup [.int (i : Nat), xi]) nte
            have h6 := upd_same (H := Hc) (a := te) (o := .tup [.int (i : Nat), xi])
            have hg6 := s6 _ _ hgC
            replace hWC := Pls.stay hWC (.of s6)
            replace sC := sC.trans s6
            replace hri := hri.stay (.of sC)
            generalize upd Hc te (.tup [.int (i : Nat), xi]) = H6 at h6 hg6 hWC hri sC ⊢
            clear s6 hgC nte
            refine ⟨te, _, rfl, sqT h6, rfl, ?_⟩
            walk_at "rd"
            refine ⟨xi, Ui, rfl, hri, gi, by omega, fun la as H7 s7 nla ha hA => ?_⟩
            have lA := pd_len hA
            rw [List.length_map, Tm.len_plc] at lA
            walk_at "rd"
            refine ⟨⟨_, sqL ha⟩, fun D nD => ?_⟩
            refine lc_list (K := K) (a := la) (xs := as) (LcI H7 D fun j acc Hx => Pls K Hx acc (((Ui.plc.map (·.1)).take j).map fun p => i :: p)) (LcI.zero nD .nil) (fun j H1 _ hP => hP.1.seq (sqL ha)) (fun j x1 HA hx1 hP => ?_) (fun HA hP => ?_)
            · obtain ⟨sA, acc, hD, hal, hacc⟩ := hP
              obtain ⟨pj, hpj, z2, rfl, hz2⟩ := pd_get' (hA.stay (.of sA)) hx1
              have hj := (List.getElem?_eq_some_iff.mp hx1).1
              have lpi : (plI pj).length = pj.length := List.length_map ..
              have lpj : pj.length ≤ 900 := by
                obtain ⟨u, hu, e⟩ := List.mem_map.mp (List.mem_of_getElem? hpj)
                obtain ⟨pu, Wu⟩ := u
                cases e
                have := down_len (down_ints.mpr hu)
                show pu.length ≤ 900
                omega
              walk_at "rd"
              refine ⟨rfl, ?_⟩
              walk_at "rd"
              refine ⟨by show 1 ≤ sizeLine; decide, fun tn ntn => ?_⟩
              have s8 := same_new (o := .tup [.int (i : Nat)]) ntn
              walk_at "rd"
              refine r_catA (sqT upd_same) ((Tups.of s8).sq hz2) (by rw [sizeLine_eq, lpi]; show 1 + pj.length ≤ _; omega) fun zl H9 s9 hzl => ?_
              have s89 := s8.trans s9
              refine LcI.keep nD sA hD hal (by omega) s89 ?_
              rw [take_snoc hpj, List.map_append]
              have hD9 := s89 _ _ hD
              exact pd_app ((hacc.stay (.of s89)).stay (tups_mut hD9)) (.cons ⟨zl, rfl, (tups_mut hD9).sq hzl⟩ .nil)
            · obtain ⟨sA, acc, hD, hal, hacc⟩ := hP
              rw [List.take_of_length_le (by rw [List.length_map, Tm.len_plc]; omega)] at hacc
              have s7A := s7.trans sA
              have l1 := pd_len hWC
              have l2 := pd_len hacc
              have a1 := Tm.len_plcs 0 (U.kids.take i)
              have a2 : Tm.sizes (U.kids.take i) ≤ Tm.sizes U.kids := by
                have := Tm.sizes_app (U.kids.take i) (U.kids.drop i)
                rw [List.take_append_drop] at this
                omega
              rw [List.length_map, List.length_cons, a1] at l1
              rw [List.length_map, List.length_map, Tm.len_plc] at l2
              refine ⟨lg, D, ps, acc, rfl, rfl, s7A _ _ hg6, hD, by rw [sizeLine_eq]; omega, fun lm nm => ?_⟩
              have s5 := same_new (o := .lst (ps ++ acc)) nm
              have s45 := s7A.trans s5
              refine ⟨lm, ps ++ acc, _, _, rfl, sC.trans s45, upd_same, ?_⟩
              rw [take_snoc hUi, plcs_app, List.length_take]
              have e1 : min i U.kids.length = i := by omega
              rw [e1, Nat.zero_add, ← List.cons_append, List.map_append]
              refine pd_app (hWC.stay (.of s45)) ?_
              rw [show Tm.plcs i [Ui] = Ui.plc.map fun q => (i :: q.1, q.2) from List.append_nil _, List.map_map]
              have := hacc.stay (Tups.of s5)
              rw [List.map_map] at this
              exact this
          · obtain ⟨lg, ps, z4, y7, rfl, sC, hgC, hWC⟩ := hP
            rw [List.take_of_length_le (by omega), ← Tm.plc_kids] at hWC
            have hkC := sC _ _ hkD
            have hkTC := hkTD.stay (.of sC)
            have hxC := hxD.stay (.of sC)
            have s0C := s0D.trans sC
            clear hkD hkTD hxD s0D
            walk_at "rd"
            refine ⟨.ref qx, U, rfl, hxC, g, by omega, fun l3 qs HE sE n3 h3 hE => ?_⟩
            walk_at "rd"
            refine r_neD (.lst (sqL h3) (dp_pls hE)) (.lst (sqL (sE _ _ hgC)) (dp_pls (Pls.stay hWC (.of sE)))) (sh_N _) (sh_N _) ?_
            rw [SeqAt.eqv_refl _ (shaped_iff.mp (sh_N _)).1]
            have hkE := sE _ _ hkC
            have hkTE := hkTC.stay (.of sE)
            have hxE := hxC.stay (.of sE)
            have s0E := s0C.trans sE
            walk_at "rd"
            refine ⟨.ref qx, U, rfl, hxE, g, by omega, by omega, fun HF sF => ?_⟩
            walk_at "rd"
            refine ⟨by show 1 ≤ sizeLine; decide, fun l0 n0 => ?_⟩
            have sG := same_new (o := .lst [V.int 0]) n0
            have h0 := upd_same (H := HF) (a := l0) (o := .lst [V.int 0])
            generalize upd HF l0 (.lst [V.int 0]) = HG at sG h0 ⊢
            have sFG := sF.trans sG
            have hkG := sFG _ _ hkE
            have hkTG := hkTE.stay (.of sFG)
            have s0G := s0E.trans sFG
            walk_at "rd"
            refine ⟨⟨_, sqL hkG⟩, fun D nD => ?_⟩
            refine lc_list (K := K) (a := lk) (xs := xs) (LcI HG D fun i acc _ => acc = (U.kids.take i).map fun k => V.int (k.dep : Nat)) (LcI.zero nD rfl) (fun i H3 _ hP => hP.1.seq (sqL hkG)) (fun i x1 H3 hx1 hP => ?_) (fun H3 hP => ?_)
            · obtain ⟨s3, acc, hD, hal, rfl⟩ := hP
              obtain ⟨Ui, hUi, hri⟩ := pd_get' hkTG.pd hx1
              have mem := List.mem_of_getElem? hUi
              have zi := Tm.sizes_mem mem
              have di := dep_kid mem
              have dK := dep_all U
              have hi := (List.getElem?_eq_some_iff.mp hx1).1
              walk_at "rd"
              refine ⟨rfl, ?_⟩
              walk_at "rd"
              refine ⟨x1, Ui, rfl, hri.stay (.of s3), Tm.goods_mem gK Ui mem, by omega, by omega, fun H4 s4 => ?_⟩
              refine LcI.keep nD s3 hD hal (by omega) s4 ?_
              rw [take_snoc hUi, List.map_append]
              rfl
            · obtain ⟨s3, acc, hD, hal, rfl⟩ := hP
              rw [List.take_of_length_le (by omega)] at hD
              refine ⟨l0, D, _, _, rfl, rfl, s3 _ _ h0, hD, by rw [List.length_map, sizeLine_eq]; show 1 + U.kids.length ≤ _; omega, fun l9 n9 => ?_⟩
              have s9 := same_new (o := .lst ([V.int 0] ++ U.kids.map fun k => V.int (k.dep : Nat))) n9
              walk_at "rd"
              refine ⟨l9, 0 :: U.kids.map fun k => ((k.dep : Nat) : Int), rfl, sqL (by rw [List.map_cons, List.map_map]; exact upd_same), Nat.succ_pos _, fun m hm hle => ?_⟩
              have em := top_deps hm hle
              have dK := dep_all U
              walk_at "rd"
              rw [decide_eq_true (show ((U.dep : Nat) : Int) = 1 + m by omega)]
              refine q _ (s0G.trans (s3.trans ?_))
              have e9 : V.int 0 :: (U.kids.map fun k => V.int (k.dep : Nat)) = [V.int 0] ++ U.kids.map fun k => V.int (k.dep : Nat) := rfl
              rw [e9]
              exact s9
end
end Pf

/-! facts of an earlier heap, told of a later one (for the word walk_at "ok") -/
namespace Pf
open PySem PySem.Spec PyProof.Rows L2
section
variable {K : PySem.W.Frag} {H H' : Hp}
theorem up_tm {x : V} {T : Tm} (h : TmV K H x T) (s : Same H H') : TmV K H' x T := h.stay (.of s)
theorem up_tms {xs : List V} {Ts : List Tm} (h : TmsV K H xs Ts) (s : Same H H') : TmsV K H' xs Ts := h.stay (.of s)
theorem up_sqT {q : Addr} {xs : List V} (h : SqT K H q xs) (s : Same H H') : SqT K H' q xs := (Tups.of s).sq h
theorem up_sqL {q : Addr} {xs : List V} (h : SqL K H q xs) (s : Same H H') : SqL K H' q xs := s.seq h
theorem up_get {q : Addr} {o : HO} (h : H q = some o) (s : Same H H') : H' q = some o := s _ _ h
theorem up_getL {q : Addr} {xs : List V} (h : H q = some (.lst xs)) (s : Same H H') : SqL K H' q xs := sqL (s _ _ h)
theorem up_getT {q : Addr} {xs : List V} (h : H q = some (.tup xs)) (s : Same H H') : SqT K H' q xs := sqT (s _ _ h)
theorem up_tnD {x : V} {t : List PS2} (h : TnD K H x t) (s : Same H H') : TnD K H' x t := h.stay (.of s)
theorem up_tn {x : V} {t : List PS2} (h : TnD K H x t) (s : Same H H') : Tn K H' x t := (h.stay (.of s)).tn
end
theorem cutTo (xs : List V) (k : Nat) : cutV xs none (some (k : Int)) = xs.take k := by
  unfold cutV
  rw [HT.sIx_none, HT.sIx_nat, List.drop_zero, Nat.sub_zero]
  rcases Nat.le_total k xs.length with h | h
  · rw [Nat.min_eq_left h]
  · rw [Nat.min_eq_right h, List.take_of_length_le (Nat.le_refl _), List.take_of_length_le h]
theorem cutFrom (xs : List V) (k : Nat) : cutV xs (some (k : Int)) none = xs.drop k := by
  unfold cutV
  rw [HT.sIx_none, HT.sIx_nat]
  rcases Nat.le_total k xs.length with h | h
  · rw [Nat.min_eq_left h, List.take_of_length_le (by rw [List.length_drop]; omega)]
  · rw [Nat.min_eq_right h, List.drop_of_length_le (Nat.le_refl _), List.drop_of_length_le h, List.take_nil]
theorem r_cutU {K : PySem.W.Frag} {H : Hp} {q : Addr} {xs : List V} {lo hi : Option Int} {Q : VK} (h : SqT K H q xs) (fin : ∀ tq HW, Same H HW → SqT K HW tq (cutV xs lo hi) → Q (.ref tq) HW) : rSlW K (.ref q) lo hi H Q := by
  refine ⟨q, xs, rfl, h, fun wh => fin q H (Same.refl _) ?_, fun _ p np => fin p _ (same_new np) (sqT upd_same)⟩
  have : cutV xs lo hi = xs := by
    unfold cutV
    rw [wh.1, wh.2]
    simp
  rw [this]; exact h
theorem up_strs2 : ∀ {ys : List V} {xs : List Str}, Paired (fun x b => x = V.str b) ys xs → ys = xs.map V.str
  | _, _, .nil => rfl
  | _, _, .cons e t => by rw [e, up_strs2 t]; rfl
theorem up_strs1 : ∀ xs : List Str, Paired (fun x b => x = V.str b) (xs.map V.str) xs
  | [] => .nil
  | _ :: r => .cons rfl (up_strs1 r)
/-- sorted(xs) of texts, of any number -/
theorem r_sortS {K : PySem.W.Frag} {H : Hp} {Q : VK} {a : Addr} {xs : List Str} (h : SqL K H a (xs.map V.str)) (q : ∀ (ys : List Str) p, ys.Perm xs → ys.Pairwise leS → H p = none → Q (.ref p) (upd H p (.lst (ys.map V.str)))) : rSortedG K PyData.str [.ref a] H Q :=
  ⟨a, _, xs, _, rfl, h, up_strs1 xs, fun x b e => (by rw [e]; exact .str b), alike_S xs, sortable_S xs, fun _ _ => (by show 0 ≤ 40; omega), fun ys p pd np => by
    rw [up_strs2 pd]
    exact q _ p (sort_S xs).1 (sort_S xs).2 np⟩
section
variable {K : PySem.W.Frag} {H H' : Hp}
theorem uy_tm {x : V} {T : Tm} (h : TmV K H x T) (s : Stay K H H') : TmV K H' x T := h.stay s
theorem uy_tms {xs : List V} {Ts : List Tm} (h : TmsV K H xs Ts) (s : Stay K H H') : TmsV K H' xs Ts := h.stay s
theorem uy_sqT {q : Addr} {xs : List V} (h : SqT K H q xs) (s : Stay K H H') : SqT K H' q xs := s.tups.sq h
theorem uy_tnD {x : V} {t : List PS2} (h : TnD K H x t) (s : Stay K H H') : TnD K H' x t := h.stay s
theorem uy_tn {x : V} {t : List PS2} (h : TnD K H x t) (s : Stay K H H') : Tn K H' x t := (h.stay s).tn
end
theorem seq_ext {K : PySem.W.Frag} {H H2 : Hp} {b : Addr} {xs : List V} (e : LamX.ExtN H H2) (h : SqL K H b xs) : SqL K H2 b xs := by
  rcases h with (h | ⟨o, h⟩) | h
  · exact .inl (.inl (e _ _ h (fun _ z => nomatch z)))
  · exact .inl (.inr ⟨o, e _ _ h (fun _ z => nomatch z)⟩)
  · exact .inr h
theorem LcI.keepB {H1 H H4 : Hp} {D : Addr} {Rl : Nat → List V → Hp → Prop} {i : Nat} {acc : List V} {y : V} (n : H1 D = none) (s : Same H1 H) (hD : H D = some (.lst acc)) (hl : acc.length ≤ i) (hi : i < 100000) (s4 : Same H H4) (r : Rl (i + 1) (acc ++ [y]) (upd H4 D (.lst (acc ++ [y])))) :
    ∃ acc, H4 D = some (.lst acc) ∧ acc.length < sizeLine ∧ LcI H1 D Rl (i + 1) (upd H4 D (.lst (acc ++ [y]))) :=
  ⟨acc, s4 _ _ hD, by rw [sizeLine_eq]; omega, Pf.Same.mut (s.trans s4) n, acc ++ [y], upd_same, by rw [List.length_append]; exact Nat.succ_le_succ hl, r⟩
theorem tabs_but {T : List NdefX.NTab} {H H2 : Hp} (e : ∀ b o, H b = some o → (∀ xs, o ≠ .lst xs) → H2 b = some o) (t : NdefX.TabsN T H) : NdefX.TabsN T H2 := fun q hq => by
  obtain ⟨ps, h1, h2, h3⟩ := t q hq
  refine ⟨ps, e _ _ h1 (fun _ z => nomatch z), h2, fun pos cv hc => ?_⟩
  obtain ⟨c, e1, e2⟩ := h3 pos cv hc
  exact ⟨c, e1, e _ _ e2 (fun _ z => nomatch z)⟩
end Pf

namespace Pf
open PySem PySem.Spec PyProof.Rows L2
local macro_rules | `(tactic| walk_at "rd") => `(tactic| (repeat' (first
  | with_reducible refine r_seq ?_ | with_reducible refine r_asg ?_ | with_reducible refine r_ret ?_ | with_reducible refine r_retN ?_ | with_reducible refine r_drop ?_ | with_reducible refine r_if ?_
  | with_reducible refine r_op ?_ | (with_reducible show tVar _ _ _ _; refine r_var rfl ?_) | with_reducible refine r_c ?_ | with_reducible refine r_I0 ?_ | (with_reducible refine r_I ?c ?_; (case c => first | (show (0 : Int) < _; first | decide | assumption | omega) | exact cmul_r ⟨by decide, by decide⟩ | exact cmul_l ⟨by decide, by decide⟩ | exact cmul_r (by first | assumption | constructor <;> omega) | (unfold CDiv; constructor <;> decide) | (unfold CPow; refine ⟨?_, ?_, ?_⟩ <;> decide))) | with_reducible refine r_name ?_ | (with_reducible show rIxL _ _ _ _ _; refine r_ixL (sqL (by assumption)) rfl ?_) | (with_reducible show rIxT _ _ _ _ _; refine r_ixT (by assumption) rfl ?_) | (with_reducible show rSetL _ _ _ _ _; refine r_setL (by assumption) rfl ?_) | with_reducible refine r_test ?_ | with_reducible refine r_tB ?_ | with_reducible refine r_bl ?_
  | with_reducible refine r_not ?_ | with_reducible refine r_and ?_ | with_reducible refine r_or ?_ | with_reducible refine r_andV ?_ | with_reducible refine r_orV ?_ | with_reducible refine r_notV ?_ | with_reducible refine r_ifE ?_
  | with_reducible refine r_cons ?_ | with_reducible refine r_nil ?_ | with_reducible refine r_cb ?_ | with_reducible refine r_call ?_ | with_reducible refine r_lst ?_ | with_reducible refine r_tup ?_ | with_reducible refine r_bm ?_ | with_reducible refine r_bm0 ?_
  | with_reducible refine r_un ?_ | with_reducible refine r_U ?_ | with_reducible refine r_eqI ?_ | with_reducible refine r_eqS ?_ | with_reducible refine r_neI ?_ | with_reducible refine r_neS ?_ | with_reducible refine r_sub ?_ | with_reducible refine r_gcons ?_ | with_reducible refine r_gnil ?_
  | with_reducible refine r_chain ?_ | with_reducible refine r_get2 ?_ | with_reducible refine r_iList ?_ | with_reducible refine r_iStr ?_ | with_reducible refine r_iTup ?_ | with_reducible refine r_iRev ?_ | with_reducible refine r_iItems ?_ | with_reducible refine r_rng ?_ | with_reducible refine r_inS ?_ | with_reducible refine r_bI ?_ | with_reducible refine r_abs ?_ | with_reducible refine r_sl ?_ | with_reducible refine r_next ?_ | with_reducible refine r_yes ?_
  | (with_reducible show rLen _ _ _ _; first | refine r_lenK (sqL (by assumption)) ?_ | refine r_lenK (by assumption) ?_ | refine r_lenTK (by assumption) ?_)
  | (with_reducible show tFor _ _ _ _ _ _; unfold tFor) | (with_reducible show tLc _ _ _ _ _ _ _ _; unfold tLc) | (with_reducible show tWhile _ _ _ _ _; unfold tWhile)
  | (with_reducible refine ⟨_, rfl, ?_⟩) | (with_reducible refine ⟨_, _, rfl, rfl, ?_⟩) | (with_reducible refine Or.inr ⟨_, rfl, ?_⟩) | (refine ⟨_, _, rfl, Or.inl (by assumption), ?_⟩; skip) | (refine ⟨_, _, rfl, Or.inr (by assumption), ?_⟩; skip)
  | (with_reducible refine iteNT ?_) | (with_reducible refine iteNF ?_) | (with_reducible refine iteT ?_) | (with_reducible refine iteF ?_)
  | (dsimp only [Bool.not_true, Bool.not_false, List.cons_append, List.nil_append]))))

local macro_rules | `(tactic| walk_at "st") => `(tactic| first | exact Same.refl _ | assumption | (refine Same.trans (by assumption) ?_; walk_at "st"))
local macro_rules | `(tactic| walk_at "ok") => `(tactic| first | assumption | exact up_tm (by assumption) (by walk_at "st") | exact up_sqT (by assumption) (by walk_at "st") | exact up_get (by assumption) (by walk_at "st") | exact up_getL (by assumption) (by walk_at "st") | exact up_getT (by assumption) (by walk_at "st") | exact up_sqL (by assumption) (by walk_at "st") | exact up_tms (by assumption) (by walk_at "st") | exact up_tnD (by assumption) (by walk_at "st") | exact up_tn (by assumption) (by walk_at "st") | exact ⟨_, up_getL (by assumption) (by walk_at "st")⟩ | exact ⟨_, up_sqL (by assumption) (by walk_at "st")⟩)

local macro_rules | `(tactic| walk_at "sy") => `(tactic| first | exact Stay.refl | assumption | (refine Stay.trans (by first | assumption | exact Stay.of (by assumption)) ?_; walk_at "sy"))
local macro_rules | `(tactic| walk_at "oy") => `(tactic| first | assumption | exact uy_tm (by assumption) (by walk_at "sy") | exact uy_sqT (by assumption) (by walk_at "sy") | exact uy_tms (by assumption) (by walk_at "sy") | exact uy_tnD (by assumption) (by walk_at "sy") | exact uy_tn (by assumption) (by walk_at "sy"))
local macro_rules | `(tactic| walk_at "r2") => `(tactic| (repeat' (first
  | with_reducible refine r_nopart ?_ | with_reducible refine r_part ?_
  | with_reducible refine r_seq ?_ | with_reducible refine r_asg ?_ | with_reducible refine r_ret ?_ | with_reducible refine r_retN ?_ | with_reducible refine r_drop ?_ | with_reducible refine r_if ?_
  | with_reducible refine r_op ?_ | (with_reducible show tVar _ _ _ _; refine r_var rfl ?_) | with_reducible refine r_c ?_ | with_reducible refine r_I0 ?_ | (with_reducible refine r_I ?c ?_; (case c => first | (show (0 : Int) < _; first | decide | assumption | omega) | exact cmul_r ⟨by decide, by decide⟩ | exact cmul_l ⟨by decide, by decide⟩ | exact cmul_r (by first | assumption | constructor <;> omega) | (unfold CDiv; constructor <;> decide) | (unfold CPow; refine ⟨?_, ?_, ?_⟩ <;> decide))) | with_reducible refine r_name ?_ | (with_reducible show rIxL _ _ _ _ _; refine r_ixL (sqL (by assumption)) rfl ?_) | (with_reducible show rIxT _ _ _ _ _; refine r_ixT (by assumption) rfl ?_) | (with_reducible show rSetL _ _ _ _ _; refine r_setL (by assumption) rfl ?_) | with_reducible refine r_test ?_ | with_reducible refine r_tB ?_ | with_reducible refine r_bl ?_
  | with_reducible refine r_not ?_ | with_reducible refine r_and ?_ | with_reducible refine r_or ?_ | with_reducible refine r_andV ?_ | with_reducible refine r_orV ?_ | with_reducible refine r_notV ?_ | with_reducible refine r_ifE ?_
  | with_reducible refine r_cons ?_ | with_reducible refine r_nil ?_ | with_reducible refine r_cb ?_ | with_reducible refine r_call ?_ | with_reducible refine r_lst ?_ | with_reducible refine r_tup ?_ | with_reducible refine r_bm ?_ | with_reducible refine r_bm0 ?_
  | with_reducible refine r_un ?_ | with_reducible refine r_U ?_ | with_reducible refine r_eqI ?_ | with_reducible refine r_eqS ?_ | with_reducible refine r_neI ?_ | with_reducible refine r_neS ?_ | with_reducible refine r_sub ?_ | with_reducible refine r_gcons ?_ | with_reducible refine r_gnil ?_
  | with_reducible refine r_chain ?_ | with_reducible refine r_get2 ?_ | with_reducible refine r_iList ?_ | with_reducible refine r_iStr ?_ | with_reducible refine r_iTup ?_ | with_reducible refine r_iRev ?_ | with_reducible refine r_iItems ?_ | with_reducible refine r_rng ?_ | with_reducible refine r_inS ?_ | with_reducible refine r_bI ?_ | with_reducible refine r_abs ?_ | with_reducible refine r_sl ?_ | with_reducible refine r_next ?_ | with_reducible refine r_yes ?_
  | (with_reducible show rLen _ _ _ _; first | refine r_lenK (sqL (by assumption)) ?_ | refine r_lenK (by assumption) ?_ | refine r_lenTK (by assumption) ?_)
  | (with_reducible show tFor _ _ _ _ _ _; unfold tFor) | (with_reducible show tLc _ _ _ _ _ _ _ _; unfold tLc) | (with_reducible show tWhile _ _ _ _ _; unfold tWhile)
  | (with_reducible refine ⟨_, rfl, ?_⟩) | (with_reducible refine ⟨_, _, rfl, rfl, ?_⟩) | (with_reducible refine Or.inr ⟨_, rfl, ?_⟩) | (refine ⟨_, _, rfl, Or.inl (by assumption), ?_⟩; skip) | (refine ⟨_, _, rfl, Or.inr (by assumption), ?_⟩; skip)
  | (with_reducible refine iteNT ?_) | (with_reducible refine iteNF ?_) | (with_reducible refine iteT ?_) | (with_reducible refine iteF ?_)
  | (dsimp only [Bool.not_true, Bool.not_false, List.cons_append, List.nil_append]))))

def sp_putr (K : PySem.W.Frag) : Sp := fun vs H Q _ => ∃ (x y : V) (U W V0 : Tm) (p : List Nat) (q0 : Addr), vs = [x, .ref q0, y] ∧ TmV K H x U ∧ TmV K H y W ∧ SqT K H q0 (plI p) ∧ (p, V0) ∈ U.plc ∧ U.good = true ∧ W.good = true ∧ U.size ≤ 90 ∧ W.size ≤ 90 ∧ U.dep + W.dep ≤ 30 ∧ ∀ H2, Same H H2 → Q (.bl true) H2
theorem intsP_inj : ∀ {p q : List Nat}, intsP p = intsP q → p = q
  | [], [], _ => rfl
  | [], _ :: _, h => nomatch h
  | _ :: _, [], h => nomatch h
  | n :: p, m :: q, h => by
    have h : ((n : Nat) : Int) :: intsP p = ((m : Nat) : Int) :: intsP q := h
    obtain ⟨h1, h2⟩ := List.cons.inj h
    rw [intsP_inj h2, Int.ofNat.inj h1]
theorem plI_int (p : List Nat) : plI p = (intsP p).map V.int := by
  unfold plI intsP
  rw [List.map_map]; rfl
theorem eN_ints (p : List Nat) : eN p = .tuple ((intsP p).map .int) := by
  unfold eN intsP
  rw [List.map_map]
  rfl
theorem eqv_N (p q : List Nat) : PyData.eqv (eN p) (eN q) = decide (p = q) := by
  rw [eN_ints, eN_ints, eqv_tupD PyData.int eqv_intD]
  exact decide_eq_decide.mpr ⟨intsP_inj, fun h => by rw [h]⟩
theorem eqv_Ns (ps qs : List (List Nat)) : PyData.eqv (.list (ps.map eN)) (.list (qs.map eN)) = decide (ps = qs) := eqv_lstD eN eqv_N ps qs
theorem plI_take (p : List Nat) (k : Nat) : cutV (plI p) none (some (k : Int)) = plI (p.take k) := by
  rw [cutTo]; unfold plI; rw [List.map_take]
theorem plI_drop (p : List Nat) (k : Nat) : cutV (plI p) (some (k : Int)) none = plI (p.drop k) := by
  rw [cutFrom]; unfold plI; rw [List.map_drop]
/-- the places below a place, as told from there -/
def Bl (p : List Nat) (l : List (List Nat)) : List (List Nat) := (l.filter fun e => decide (e.take p.length = p)).map fun e => e.drop p.length
theorem Bl_app (p : List Nat) (a b : List (List Nat)) : Bl p (a ++ b) = Bl p a ++ Bl p b := by
  unfold Bl
  rw [List.filter_append, List.map_append]
theorem Bl_cons (i j : Nat) (r : List Nat) : ∀ l : List (List Nat), Bl (i :: r) (l.map fun q => j :: q) = if j = i then Bl r l else []
  | [] => by
    split <;> rfl
  | q :: l => by
    have ih := Bl_cons i j r l
    unfold Bl at ih ⊢
    rw [List.map_cons, List.filter_cons, List.filter_cons]
    by_cases e : j = i
    · subst e
      rw [if_pos rfl] at ih ⊢
      by_cases t : q.take r.length = r
      · rw [if_pos (decide_eq_true (by show (j :: q).take (r.length + 1) = _; rw [List.take_succ_cons, t])), if_pos (decide_eq_true t), List.map_cons, List.map_cons, ih]
        rfl
      · rw [if_neg (fun z => t (by have := of_decide_eq_true z; rw [show (j :: r).length = r.length + 1 from rfl, List.take_succ_cons] at this; exact (List.cons.inj this).2)), if_neg (fun z => t (of_decide_eq_true z)), ih]
    · rw [if_neg e] at ih ⊢
      rw [if_neg (fun z => e (by have := of_decide_eq_true z; rw [show (i :: r).length = r.length + 1 from rfl, List.take_succ_cons] at this; exact (List.cons.inj this).1)), ih]
theorem Bl_high : ∀ (l : List Tm) (j i : Nat) (r : List Nat), i < j → Bl (i :: r) ((Tm.plcs j l).map (·.1)) = []
  | [], _, _, _, _ => rfl
  | c :: l, j, i, r, lt => by
    show Bl (i :: r) (((c.plc.map fun q => (j :: q.1, q.2)) ++ Tm.plcs (j + 1) l).map (·.1)) = []
    rw [List.map_append, Bl_app, Bl_high l (j + 1) i r (by omega), List.append_nil, List.map_map]
    show Bl (i :: r) (c.plc.map fun q => j :: q.1) = []
    rw [show (c.plc.map fun q => j :: q.1) = (c.plc.map (·.1)).map fun q => j :: q from (List.map_map ..).symm, Bl_cons, if_neg (by omega)]
theorem Bl_plcs : ∀ (l : List Tm) (j i : Nat) (k : Tm) (r : List Nat), l[i]? = some k → Bl ((j + i) :: r) ((Tm.plcs j l).map (·.1)) = Bl r (k.plc.map (·.1))
  | [], _, _, _, _, h => nomatch h
  | c :: l, j, 0, k, r, h => by
    have h : c = k := Option.some.inj h
    subst h
    show Bl (j :: r) (((c.plc.map fun q => (j :: q.1, q.2)) ++ Tm.plcs (j + 1) l).map (·.1)) = _
    rw [List.map_append, Bl_app, Bl_high l (j + 1) j r (by omega), List.append_nil, List.map_map]
    show Bl (j :: r) (c.plc.map fun q => j :: q.1) = _
    rw [show (c.plc.map fun q => j :: q.1) = (c.plc.map (·.1)).map fun q => j :: q from (List.map_map ..).symm, Bl_cons, if_pos rfl]
  | c :: l, j, i + 1, k, r, h => by
    have h : l[i]? = some k := h
    have e : j + (i + 1) = j + 1 + i := by omega
    show Bl ((j + (i + 1)) :: r) (((c.plc.map fun q => (j :: q.1, q.2)) ++ Tm.plcs (j + 1) l).map (·.1)) = _
    rw [List.map_append, Bl_app, List.map_map]
    show Bl ((j + (i + 1)) :: r) (c.plc.map fun q => j :: q.1) ++ _ = _
    rw [show (c.plc.map fun q => j :: q.1) = (c.plc.map (·.1)).map fun q => j :: q from (List.map_map ..).symm, Bl_cons, if_neg (by omega), e, Bl_plcs l (j + 1) i k r h, List.nil_append]
theorem Bl_put : ∀ {p : List Nat} {U X : Tm} (W : Tm), down U (intsP p) = some X → Bl p ((U.put p W).plc.map (·.1)) = W.plc.map (·.1)
  | [], U, X, W, _ => by
    show Bl [] (W.plc.map (·.1)) = _
    simp [Bl]
  | i :: p, U, X, W, h => by
    rw [show intsP (i :: p) = ((i : Nat) : Int) :: intsP p from rfl, down_step] at h
    cases hk : U.kids[i]? with
    | none => rw [hk] at h; cases h
    | some k =>
      rw [hk] at h
      have lt := (List.getElem?_eq_some_iff.mp hk).1
      have ih := Bl_put W h
      rw [Tm.plc_kids, Tm.kids_put hk, List.map_cons]
      have e0 : Bl (i :: p) ([] :: (Tm.plcs 0 (U.kids.set i (k.put p W))).map (·.1)) = Bl (i :: p) ((Tm.plcs 0 (U.kids.set i (k.put p W))).map (·.1)) := by
        unfold Bl
        rw [List.filter_cons, if_neg (fun z => nomatch of_decide_eq_true z)]
      have := Bl_plcs (U.kids.set i (k.put p W)) 0 i (k.put p W) p (by rw [List.getElem?_set_self lt])
      rw [Nat.zero_add] at this
      exact e0.trans (this.trans ih)
theorem down_apart : ∀ {p q : List Nat} {U X V : Tm} (W : Tm), down U (intsP p) = some X → down U (intsP q) = some V → ¬ q.take (min p.length q.length) = p.take (min p.length q.length) → down (U.put p W) (intsP q) = some V
  | [], q, U, X, V, W, _, _, n => absurd (by rw [show ([] : List Nat).length = 0 from rfl, Nat.zero_min]; rfl) n
  | i :: p, [], U, X, V, W, _, _, n => absurd (by rw [show ([] : List Nat).length = 0 from rfl, Nat.min_zero]; rfl) n
  | i :: p, j :: q, U, X, V, W, h, g, n => by
    rw [show intsP (i :: p) = ((i : Nat) : Int) :: intsP p from rfl, down_step] at h
    rw [show intsP (j :: q) = ((j : Nat) : Int) :: intsP q from rfl, down_step] at g ⊢
    cases hk : U.kids[i]? with
    | none => rw [hk] at h; cases h
    | some k =>
      rw [hk] at h
      have lt := (List.getElem?_eq_some_iff.mp hk).1
      rw [Tm.kids_put hk]
      by_cases e : i = j
      · subst e
        rw [List.getElem?_set_self lt]
        rw [hk] at g
        refine down_apart W h g fun z => n ?_
        rw [List.length_cons, List.length_cons, Nat.succ_min_succ, List.take_succ_cons, List.take_succ_cons, z]
      · rw [List.getElem?_set_ne e]
        exact g
theorem r_min2 {i j : Int} {H : Hp} {Q : VK} (h : Q (.int (if j < i then j else i)) H) : ∃ i' j', [V.int i, V.int j] = [.int i', .int j'] ∧ Q (.int (if j' < i' then j' else i')) H := ⟨i, j, rfl, h⟩
theorem min_nat (a b : Nat) : (if ((b : Nat) : Int) < (a : Nat) then ((b : Nat) : Int) else (a : Nat)) = ((min a b : Nat) : Int) := by
  split <;> omega
theorem at_ask {K : PySem.W.Frag} {N N2 : Addr} {H : Hp} {x : V} {U W : Tm} {p : List Nat} {q0 : Addr} {Q : VK} {E : XK} (hx : TmV K H x U) (g : U.good = true) (z : U.size ≤ 1000) (l : p.length ≤ 1000) (hq : SqT K H q0 (plI p)) (hd : down U (intsP p) = some W)
    (q : ∀ y H2, Same H H2 → TmV K H2 y W → Q y H2) : sp_at K N N2 [x, .ref q0] H Q E :=
  ⟨x, U, intsP p, q0, rfl, hx, by rw [← plI_int]; exact hq, ⟨by rw [show (intsP p).length = p.length from List.length_map ..]; exact l, z⟩,
    fun _ V hV => by rw [hd] at hV; cases hV; exact q, fun _ e => by (rw [hd] at e; cases e), fun e => by (rw [g] at e; cases e)⟩
section
variable {P : Program} {w : World} {K : PySem.W.Frag} {mg : Str → Option Value} {base : Heap} {a : Ad}
theorem G__law_put_right (T : Txt K mg a) : FnOk P w K mg base CX0 10 a.f__law_put_right a.d__law_put_right ["_law_term_here", "_law_place", "_law_further"] (sp_putr K) := by
  refine T.F__law_put_right.ok sc__law_put_right (fun vs H Q E h => ?_) (fun cdv A outer s H vs Q E hr h => ?_)
  · obtain ⟨x, y, U, W, V0, p, q0, rfl, _⟩ := h
    rfl
  · obtain ⟨x, y, U, W, V0, p, q0, rfl, hx, hy, hq, hp, gU, gW, zU, zW, dUW, q⟩ := h
    refine ⟨_, (pss_cons (ps_set (i := 3) sc__law_put_right.nd rfl (.inl rfl) (pe_call (G_put_at (K := K) T) (hr.mono (by decide)) (by rfl) T.g_put_at T.F_put_at.kp T.b_put_at .nil passL (pa_cons (pv 0) (pa_cons (pv 1) (pa_cons (pv 2) pa_nil)))))
        (pss_cons (ps_set (i := 4) sc__law_put_right.nd rfl (.inr rfl) (pe_callB (call_len_seqK K) (by rfl) T.n_len PySem.boot_len (pa_cons (pv 1) pa_nil)))
        (pss_cons (ps_for PassesOwn.never rfl (pi_listK K (pe_call (G_places_of (K := K) T) (hr.mono (by decide)) (by rfl) T.g_places_of T.F_places_of.kp T.b_places_of .nil passL (pa_cons (pv 0) pa_nil))) (pg_name (i := 5) sc__law_put_right.nd rfl (by first | exact Or.inl rfl | exact Or.inr rfl)) (pss_cons (ps_set (i := 6) sc__law_put_right.nd rfl (.inl rfl) (pe_callB (call_min2 rfl) (by rfl) T.n_min (by decide +kernel) (pa_cons (pv 4) (pa_cons (pe_callB (call_len_seqK K) (by rfl) T.n_len PySem.boot_len (pa_cons (pv 5) pa_nil)) pa_nil))))
        (pss_one (ps_if ((pw_and (pt_cmpR (op_neDK K hr.units) (pe_slice (sl_tupWK K) (pv 5) po_none (po_some (pv 6))) (pe_slice (sl_tupWK K) (pv 1) po_none (po_some (pv 6))) (nomark _)) (pw_and1 (pt_cmpR (op_neDK K hr.units) (pe_call (G_part_at (K := K) T) (hr.mono (by decide)) (by rfl) T.g_part_at T.F_part_at.kp T.b_part_at .nil passL (pa_cons (pv 3) (pa_cons (pv 5) pa_nil))) (pe_call (G_part_at (K := K) T) (hr.mono (by decide)) (by rfl) T.g_part_at T.F_part_at.kp T.b_part_at .nil passL (pa_cons (pv 0) (pa_cons (pv 5) pa_nil))) (nomark _))))).pt (pss_one (ps_ret pe_bl)) pss_nil))))
        (pss_cons (ps_setLc (i := 7) (own := [("_law_other", 5)]) (by rfl) sc__law_put_right.nd rfl rfl (sw_true rfl rfl rfl (by decide +kernel)) (pi_listK K (pe_call (G_places_of (K := K) T) (hr.mono (by decide)) (by rfl) T.g_places_of T.F_places_of.kp T.b_places_of .nil passL (pa_cons (pv 3) pa_nil))) (blkOk_by (N := N__law_put_right) (sc := defScope s__law_put_right) (by decide +kernel)) (fun _ _ _ _ _ => (pg_name (i := 5) sc__law_put_right.nd rfl (by first | exact Or.inl rfl | exact Or.inr rfl))) (fun _ _ _ _ _ => (pts_one (pt_cmpR (op_eqDK K hr.units) (pe_slice (sl_tupWK K) (pv 5) po_none (po_some (pv 4))) (pv 1) (nomark _)))) (fun _ _ _ _ _ => (pe_slice (sl_tupWK K) (pv 5) (po_some (pv 4)) po_none)))
        (pss_one (ps_ret (pe_and (pe_cmpR (op_eqDK K hr.units) (pv 7) (pe_call (G_places_of (K := K) T) (hr.mono (by decide)) (by rfl) T.g_places_of T.F_places_of.kp T.b_places_of .nil passL (pa_cons (pv 2) pa_nil)) (nomark _)) (pe_one (pe_cmpR (op_eqDK K hr.units) (pe_call (G_part_at (K := K) T) (hr.mono (by decide)) (by rfl) T.g_part_at T.F_part_at.kp T.b_part_at .nil passL (pa_cons (pv 3) (pa_cons (pv 1) pa_nil))) (pv 2) (nomark _)))))))))), ?_⟩
    walk_at "rd"
    have hpd := down_ints.mpr hp
    have hdl := down_len hpd
    have li : (intsP p).length = p.length := List.length_map ..
    have lI : ∀ p : List Nat, (plI p).length = p.length := fun p => List.length_map ..
    refine ⟨x, y, U, W, intsP p, q0, rfl, hx, hy, by rw [← plI_int]; exact hq, ⟨by omega, by omega, by omega⟩, (fun e => nomatch e), fun _ _ p2 X e2 hX v H1 s1 hv => ?_, fun _ _ e => ?_, fun e => ?_⟩
    · have e3 : p = p2 := intsP_inj e2
      subst e3
      have gP : (U.put p W).good = true := Tm.good_put (p := p) gU gW
      have zP := Tm.size_put W hX
      have dP := Tm.dep_put (p := p) (U := U) (W := W)
      have hq1 := (Tups.of s1).sq hq
      walk_at "r2"
      rw [lI]
      refine ⟨x, U, rfl, by walk_at "ok", gU, by omega, fun la as H2 s2 nla ha hA => ?_⟩
      walk_at "r2"
      refine ⟨⟨_, sqL ha⟩, ?_⟩
      refine forN_list (K := K) (a := la) (xs := as) (fun j σ HX => ∃ y5 y6 : Option V, σ = [some x, some (.ref q0), some y, some v, some (.int (p.length : Nat)), y5, y6, none] ∧ Same H2 HX) ⟨none, none, rfl, Same.refl _⟩ (fun j σ HX _ hP => by
          obtain ⟨_, _, _, sX⟩ := hP
          exact sqL (sX _ _ ha)) (fun j x1 σ HX hx1 hP => ?_) (fun σ HX hP => ?_)
      · obtain ⟨y5, y6, rfl, sX⟩ := hP
        obtain ⟨pj, hpj, z, rfl, hz⟩ := pd_get' (Pls.stay hA (.of sX)) hx1
        obtain ⟨⟨pu, V⟩, hu, e⟩ := List.mem_map.mp (List.mem_of_getElem? hpj)
        obtain rfl : pu = pj := e
        have hV : down U (intsP pu) = some V := down_ints.mpr hu
        have ljl := down_len hV
        have hqX : SqT K HX q0 (plI p) := by walk_at "ok"
        walk_at "r2"
        refine ⟨_, _, rfl, ?_⟩
        rw [lI, min_nat]
        generalize hm : min p.length pu.length = m
        walk_at "r2"
        refine r_cutU hz fun t1 H3 s3 h3 => ?_
        rw [plI_take] at h3
        walk_at "r2"
        refine r_cutU (q := q0) (xs := plI p) (by walk_at "ok") fun t2 H4 s4 h4 => ?_
        rw [plI_take] at h4
        refine r_neD (d := eN (pu.take m)) (e := eN (p.take m)) (.tup (by walk_at "ok") (dp_plI _)) (.tup h4 (dp_plI _)) (sh_plI _) (sh_plI _) ?_
        rw [eqv_N]
        walk_at "r2"
        refine r_ndec (fun ne => ?_) (fun _ => ?_)
        · have hV2 := down_apart W hpd hV (by rw [hm]; exact ne)
          have gV := (down_good hV gU).1
          have dV := (plc_sub hu).2.1
          walk_at "r2"
          refine at_ask (by walk_at "ok") gP (by omega) (by omega) (by walk_at "ok") hV2 fun v1 H5 s5 hv1 => ?_
          walk_at "r2"
          refine at_ask (by walk_at "ok") gU (by omega) (by omega) (by walk_at "ok") hV fun v2 H6 s6 hv2 => ?_
          have sV : SeqAt.shaped V.enc = true := hv2.shaped gV (by omega)
          refine r_neD ((up_tm hv1 s6).dp gV) (hv2.dp gV) sV sV ?_
          rw [SeqAt.eqv_refl _ (shaped_iff.mp sV).1]
          walk_at "r2"
          exact ⟨_, _, rfl, by walk_at "st"⟩
        · walk_at "r2"
          exact ⟨_, _, rfl, by walk_at "st"⟩
      · obtain ⟨y5, y6, rfl, sX⟩ := hP
        walk_at "r2"
        refine ⟨v, U.put p W, rfl, by walk_at "ok", gP, by omega, fun lb bs H3 s3 nlb hb hB => ?_⟩
        walk_at "r2"
        have lB := pd_len hB
        rw [List.length_map, Tm.len_plc] at lB
        refine ⟨⟨_, sqL hb⟩, fun D nD => ?_⟩
        refine lc_list (K := K) (a := lb) (xs := bs) (LcI H3 D fun j acc Hx => Pls K Hx acc (Bl p (((U.put p W).plc.map (·.1)).take j))) (LcI.zero nD .nil) (fun j H1 _ hP => hP.1.seq (sqL hb)) (fun j x1 HA hx1 hP => ?_) (fun HA hP => ?_)
        · obtain ⟨sA, acc, hD, hal, hacc⟩ := hP
          obtain ⟨pj, hpj, z, rfl, hz⟩ := pd_get' (Pls.stay hB (.of sA)) hx1
          have hj := (List.getElem?_eq_some_iff.mp hx1).1
          have hqA : SqT K HA q0 (plI p) := by walk_at "ok"
          walk_at "r2"
          refine ⟨rfl, ?_⟩
          walk_at "r2"
          refine r_cutU hz fun t1 H4 s4 h4 => ?_
          rw [plI_take] at h4
          walk_at "r2"
          refine r_eqD (d := eN (pj.take p.length)) (e := eN p) (.tup h4 (dp_plI _)) (.tup (by walk_at "ok") (dp_plI _)) (sh_plI _) (sh_plI _) ?_
          rw [eqv_N]
          refine ⟨_, rfl, ?_⟩
          have eT : Bl p (((U.put p W).plc.map (·.1)).take (j + 1)) = Bl p (((U.put p W).plc.map (·.1)).take j) ++ Bl p [pj] := by rw [take_snoc hpj, Bl_app]
          refine r_dec (fun yes => ?_) (fun no => ?_)
          · walk_at "r2"
            refine r_cutU (q := z) (xs := plI pj) (by walk_at "ok") fun t3 H5 s5 h5 => ?_
            rw [plI_drop] at h5
            refine LcI.keep nD sA hD hal (by omega) (s4.trans s5) ?_
            have hD5 := s5 _ _ (s4 _ _ hD)
            have eB : Bl p [pj] = [pj.drop p.length] := by
              unfold Bl
              rw [List.filter_cons, if_pos (decide_eq_true yes)]
              rfl
            rw [eT, eB]
            exact pd_app ((Pls.stay hacc (.of (s4.trans s5))).stay (tups_mut hD5)) (.cons ⟨t3, rfl, (tups_mut hD5).sq h5⟩ .nil)
          · have eB : Bl p [pj] = [] := by
              unfold Bl
              rw [List.filter_cons, if_neg (fun z => no (of_decide_eq_true z))]
              rfl
            refine LcI.skip sA hD hal s4 ?_
            rw [eT, eB, List.append_nil]
            exact Pls.stay hacc (.of s4)
        · obtain ⟨sA, acc, hD, hal, hacc⟩ := hP
          rw [List.take_of_length_le (by rw [List.length_map, Tm.len_plc]; omega), Bl_put W hpd] at hacc
          walk_at "r2"
          refine ⟨y, W, rfl, by walk_at "ok", gW, by omega, fun lc cs H4 s4 nlc hc hC => ?_⟩
          walk_at "r2"
          refine r_eqD (d := .list ((W.plc.map (·.1)).map eN)) (e := .list ((W.plc.map (·.1)).map eN)) (.lst (by walk_at "ok") (dp_pls (Pls.stay hacc (.of s4)))) (.lst (sqL hc) (dp_pls hC)) (sh_N _) (sh_N _) ?_
          rw [SeqAt.eqv_refl _ (shaped_iff.mp (sh_N _)).1]
          walk_at "r2"
          refine at_ask (U := U.put p W) (by walk_at "ok") gP (by omega) (by omega) (by walk_at "ok") (Tm.down_put W hpd) fun v3 H5 s5 hv3 => ?_
          have sW : SeqAt.shaped W.enc = true := hv3.shaped gW (by omega)
          walk_at "r2"
          have hyZ : TmV K H5 y W := up_tm hy (by walk_at "st")
          refine r_eqD (hv3.dp gW) (hyZ.dp gW) sW sW ?_
          rw [SeqAt.eqv_refl _ (shaped_iff.mp sW).1]
          walk_at "r2"
          exact q _ (by walk_at "st")
    · exact absurd (e.symm.trans hpd) (fun z => nomatch z)
    · rw [gU, gW] at e
      exact nomatch e
end
end Pf

namespace Pf
open PySem PySem.Spec PyProof.Rows L2
theorem both_tab {t u : List PS2} : Both t u ((heap1 [] (t.map (·.1) ++ u.map (·.1))).map fun k => (k, look u (look t k))) := by
  have nd := heap1_nd (t.map (·.1) ++ u.map (·.1)) [] List.nodup_nil
  have mem : ∀ k, k ∈ heap1 [] (t.map (·.1) ++ u.map (·.1)) ↔ k ∈ t.map (·.1) ∨ k ∈ u.map (·.1) := fun k => by
    rw [heap1_mem, List.mem_append]
    exact ⟨fun z => z.elim (fun z => nomatch z) id, .inr⟩
  generalize heap1 [] (t.map (·.1) ++ u.map (·.1)) = ys at nd mem
  have fs : ∀ f : Str → Str, (ys.map fun k => (k, f k)).map (·.1) = ys := fun f => by
    rw [List.map_map]
    exact List.map_id' ys
  refine ⟨by rw [fs]; exact nd, fun n => ?_, fun k hk => ?_⟩
  · have nd2 : ((ys.map fun k => (k, look u (look t k))).map (·.1)).Nodup := by rw [fs]; exact nd
    by_cases c : n ∈ ys
    · have m : (n, look u (look t n)) ∈ ys.map fun k => (k, look u (look t k)) := List.mem_map.mpr ⟨n, c, rfl⟩
      exact ((look_mem nd2).mp m).2
    · have c1 : n ∉ t.map (·.1) := fun z => c ((mem n).mpr (.inl z))
      have c2 : n ∉ u.map (·.1) := fun z => c ((mem n).mpr (.inr z))
      rw [look_none c1, look_none c2]
      exact look_none (by rw [fs]; exact c)
  · rw [fs] at hk
    exact (mem k).mp hk
theorem jn_spec {t u : List PS2} {ns : List Str} (it : IsTurn t) (iu : IsTurn u) (at_ : Among t ns) (au : Among u ns) (few : ns.length ≤ 20) : IsTurn (jn t u) ∧ (∀ n, look (jn t u) n = look u (look t n)) ∧ Among (jn t u) ns := by
  have a1 := among_small it at_
  have a2 := among_small iu au
  have B := both_tab (t := t) (u := u)
  have ln := heap1_len (t.map (·.1) ++ u.map (·.1)) []
  rw [List.length_append, List.length_map, List.length_map, List.length_nil] at ln
  have ir := B.turn it iu (by rw [List.length_map]; omega)
  have e : jn t u = riseM _ := jn_eq ir B.look
  rw [e]
  refine ⟨ir, B.look, ?_⟩
  have keys : ∀ k ∈ (riseM ((heap1 [] (t.map (·.1) ++ u.map (·.1))).map fun k => (k, look u (look t k)))).map (·.1), k ∈ ns := fun k hk => by
    have : k ∈ ((heap1 [] (t.map (·.1) ++ u.map (·.1))).map fun k => (k, look u (look t k))).map (·.1) := by
      obtain ⟨q, hq, rfl⟩ := List.mem_map.mp hk
      exact List.mem_map.mpr ⟨q, (List.mem_filter.mp ((sort_P _).1.mem_iff.mp hq)).1, rfl⟩
    rcases B.keys k this with z | z
    · obtain ⟨q, hq, rfl⟩ := List.mem_map.mp z
      exact (at_ q hq).1
    · obtain ⟨q, hq, rfl⟩ := List.mem_map.mp z
      exact (au q hq).1
  exact fun q hq => ⟨keys _ (List.mem_map.mpr ⟨q, hq, rfl⟩), keys _ (ir.perm.mem_iff.mp (List.mem_map.mpr ⟨q, hq, rfl⟩))⟩
namespace Tm
mutual
/-- holes under turns of these names -/
def wf (ns : List Str) : Tm → Prop
  | .hole t _ => IsTurn t ∧ Among t ns
  | .shut _ b => wf ns b
  | .sign _ ps => wfs ns ps
  | _ => True
def wfs (ns : List Str) : List Tm → Prop
  | [] => True
  | p :: r => wf ns p ∧ wfs ns r
end
mutual
theorem wf_hin {ns : List Str} {U : Tm} (h : wf ns U) : hin ns U := by
  cases U with
  | name n => trivial
  | bad => trivial
  | hole t X => exact h.2
  | shut n b => exact wf_hin (U := b) h
  | sign n ps => exact wfs_hins (Us := ps) h
theorem wfs_hins {ns : List Str} {Us : List Tm} (h : wfs ns Us) : hins ns Us := by
  cases Us with
  | nil => trivial
  | cons p r => exact ⟨wf_hin h.1, wfs_hins h.2⟩
end
variable {ns : List Str} {u o r : List PS2}
mutual
theorem wf_led (iu : IsTurn u) (au : Among u ns) (few : ns.length ≤ 20) {U : Tm} (h : wf ns U) : wf ns (led u U) := by
  cases U with
  | name n => trivial
  | bad => trivial
  | hole t X =>
    have := jn_spec h.1 iu h.2 au few
    exact ⟨this.1, this.2.2⟩
  | shut n b => exact wf_led (U := b) iu au few h
  | sign n ps => exact wfs_leds (Us := ps) iu au few h
theorem wfs_leds (iu : IsTurn u) (au : Among u ns) (few : ns.length ≤ 20) {Us : List Tm} (h : wfs ns Us) : wfs ns (leds u Us) := by
  cases Us with
  | nil => trivial
  | cons p r => exact ⟨wf_led iu au few h.1, wfs_leds iu au few h.2⟩
end
mutual
theorem led_led (iu : IsTurn u) (au : Among u ns) (io : IsTurn o) (ao : Among o ns) (few : ns.length ≤ 20) (e : ∀ n, look r n = look o (look u n)) {U : Tm} (h : wf ns U) : led o (led u U) = led r U := by
  cases U with
  | name n => exact congrArg Tm.name (e n).symm
  | bad => rfl
  | hole t X =>
    obtain ⟨j1, j2, j3⟩ := jn_spec h.1 iu h.2 au few
    obtain ⟨k1, k2, _⟩ := jn_spec j1 io j3 ao few
    have : jn t r = jn (jn t u) o := jn_eq k1 fun n => by rw [k2, j2, e]
    show Tm.hole (jn (jn t u) o) X = Tm.hole (jn t r) X
    rw [this]
  | shut n b =>
    show Tm.shut (look o (look u n)) (led o (led u b)) = Tm.shut (look r n) (led r b)
    rw [e, led_led iu au io ao few e (U := b) h]
  | sign n ps =>
    show Tm.sign n (leds o (leds u ps)) = Tm.sign n (leds r ps)
    rw [leds_leds iu au io ao few e (Us := ps) h]
theorem leds_leds (iu : IsTurn u) (au : Among u ns) (io : IsTurn o) (ao : Among o ns) (few : ns.length ≤ 20) (e : ∀ n, look r n = look o (look u n)) {Us : List Tm} (h : wfs ns Us) : leds o (leds u Us) = leds r Us := by
  cases Us with
  | nil => rfl
  | cons p q =>
    show led o (led u p) :: leds o (leds u q) = led r p :: leds r q
    rw [led_led iu au io ao few e h.1, leds_leds iu au io ao few e h.2]
end
mutual
theorem led_undo (iu : IsTurn u) (au : Among u ns) (few : ns.length ≤ 20) (e : ∀ n, look o (look u n) = n) {U : Tm} (h : wf ns U) : led o (led u U) = U := by
  cases U with
  | name n => exact congrArg Tm.name (e n)
  | bad => rfl
  | hole t X =>
    obtain ⟨j1, j2, j3⟩ := jn_spec h.1 iu h.2 au few
    have : jn (jn t u) o = t := jn_eq h.1 fun n => by rw [j2, e]
    show Tm.hole (jn (jn t u) o) X = Tm.hole t X
    rw [this]
  | shut n b =>
    show Tm.shut (look o (look u n)) (led o (led u b)) = Tm.shut n b
    rw [e, led_undo iu au few e (U := b) h]
  | sign n ps =>
    show Tm.sign n (leds o (leds u ps)) = Tm.sign n ps
    rw [leds_undo iu au few e (Us := ps) h]
theorem leds_undo (iu : IsTurn u) (au : Among u ns) (few : ns.length ≤ 20) (e : ∀ n, look o (look u n) = n) {Us : List Tm} (h : wfs ns Us) : leds o (leds u Us) = Us := by
  cases Us with
  | nil => rfl
  | cons p q =>
    show led o (led u p) :: leds o (leds u q) = p :: q
    rw [led_undo iu au few e h.1, leds_undo iu au few e h.2]
end
end Tm
mutual
theorem wf_of {K : PySem.W.Frag} {H : Hp} {ns : List Str} : ∀ {x : V} {U : Tm}, TmV K H x U → U.hin ns → U.wf ns
  | _, _, .name _ _, _ => trivial
  | _, _, .hole _ _ it _, a => ⟨it, a⟩
  | _, _, .shut (b := b) _ _ s, a => (show Tm.wf ns b from wf_of (U := b) s a)
  | _, _, .sign (ps := ps) _ _ _ s, a => (show Tm.wfs ns ps from wfs_of (Us := ps) s a)
  | _, _, .bad _, _ => trivial
theorem wfs_of {K : PySem.W.Frag} {H : Hp} {ns : List Str} : ∀ {xs : List V} {Us : List Tm}, TmsV K H xs Us → Tm.hins ns Us → Tm.wfs ns Us
  | _, _, .nil, _ => trivial
  | _, _, .cons h t, a => ⟨wf_of h a.1, wfs_of t a.2⟩
end
theorem undo_among {t : List PS2} {ns : List Str} (a : Among t ns) : Among (undoT t) ns := fun q hq => by
  have m : q ∈ flip t := (sort_P _).1.mem_iff.mp hq
  obtain ⟨p, hp, rfl⟩ := List.mem_map.mp m
  exact ⟨(a p hp).2, (a p hp).1⟩
end Pf

namespace Pf
open PySem PySem.Spec PyProof.Rows L2
mutual
theorem plc_led (u : List PS2) : ∀ U : Tm, (U.led u).plc = U.plc.map fun e => (e.1, e.2.led u)
  | .name _ => rfl
  | .hole _ _ => rfl
  | .bad => rfl
  | .shut n b => by
    show ([], Tm.led u (.shut n b)) :: ((b.led u).plc).map (fun q => (0 :: q.1, q.2)) = _
    rw [plc_led u b]
    show _ = ([], Tm.led u (.shut n b)) :: ((b.plc.map fun q => (0 :: q.1, q.2)).map fun e => (e.1, e.2.led u))
    rw [List.map_map, List.map_map]; rfl
  | .sign n ps => by
    show ([], Tm.led u (.sign n ps)) :: Tm.plcs 0 (Tm.leds u ps) = ([], Tm.led u (.sign n ps)) :: (Tm.plcs 0 ps).map fun e => (e.1, e.2.led u)
    rw [plcs_led u 0 ps]
theorem plcs_led (u : List PS2) : ∀ (j : Nat) (l : List Tm), Tm.plcs j (Tm.leds u l) = (Tm.plcs j l).map fun e => (e.1, e.2.led u)
  | _, [] => rfl
  | j, p :: r => by
    show ((p.led u).plc.map fun q => (j :: q.1, q.2)) ++ Tm.plcs (j + 1) (Tm.leds u r) = ((p.plc.map fun q => (j :: q.1, q.2)) ++ Tm.plcs (j + 1) r).map _
    rw [plc_led u p, plcs_led u (j + 1) r, List.map_append, List.map_map, List.map_map]; rfl
end
mutual
theorem pre_led (u : List PS2) : ∀ U : Tm, (U.led u).pre = U.pre.map (Tm.led u)
  | .name _ => rfl
  | .hole _ _ => rfl
  | .bad => rfl
  | .shut n b => congrArg (Tm.led u (.shut n b) :: ·) (pre_led u b)
  | .sign n ps => congrArg (Tm.led u (.sign n ps) :: ·) (pres_led u ps)
theorem pres_led (u : List PS2) : ∀ l : List Tm, Tm.pres (Tm.leds u l) = (Tm.pres l).map (Tm.led u)
  | [] => rfl
  | p :: r => by
    show (p.led u).pre ++ Tm.pres (Tm.leds u r) = (p.pre ++ Tm.pres r).map _
    rw [pre_led u p, pres_led u r, List.map_append]
end
theorem flat_eq {α β : Type} (f g : α → List β) : ∀ l : List α, (∀ x ∈ l, f x = g x) → l.flatMap f = l.flatMap g
  | [], _ => rfl
  | x :: l, h => by rw [List.flatMap_cons, List.flatMap_cons, h x List.mem_cons_self, flat_eq f g l fun y hy => h y (List.mem_cons_of_mem _ hy)]
theorem hls_led (u : List PS2) (U : Tm) : (U.led u).hls = U.hls := by
  unfold Tm.hls
  rw [pre_led, List.flatMap_map]
  exact flat_eq _ _ _ fun W _ => by cases W <;> rfl
theorem nms_led (u : List PS2) {U : Tm} (h : U.hls = []) : (U.led u).nms = U.nms.map (look u) := by
  unfold Tm.nms
  rw [pre_led, List.flatMap_map, List.map_flatMap]
  refine flat_eq _ _ _ fun W hW => ?_
  cases W with
  | hole t X =>
    have : X ∈ U.hls := List.mem_flatMap.mpr ⟨_, hW, List.mem_singleton.mpr rfl⟩
    rw [h] at this
    exact nomatch this
  | _ => rfl
theorem led_with (u : List PS2) {U : Tm} {ks : List Tm} (e : ks.length = U.kids.length) : (U.withK ks).led u = (U.led u).withK (ks.map (Tm.led u)) := by
  cases U with
  | name n => rfl
  | hole t X => rfl
  | bad => rfl
  | sign n ps => exact congrArg (Tm.sign n) (Tm.leds_map u ks)
  | shut n b =>
    match ks, e with
    | [k], _ => rfl
theorem led_put (u : List PS2) : ∀ {p : List Nat} {U X : Tm} (W : Tm), down U (intsP p) = some X → (U.put p W).led u = (U.led u).put p (W.led u)
  | [], _, _, _, _ => rfl
  | i :: p, U, X, W, h => by
    rw [show intsP (i :: p) = ((i : Nat) : Int) :: intsP p from rfl, down_step] at h
    cases hk : U.kids[i]? with
    | none => rw [hk] at h; cases h
    | some k =>
      rw [hk] at h
      have hk2 : (U.led u).kids[i]? = some (k.led u) := by rw [Tm.kids_led, List.getElem?_map, hk]; rfl
      rw [Tm.put_at hk, Tm.put_at hk2, led_with u (List.length_set ..), Tm.kids_led, List.map_set, led_put u W h]
theorem down_led (u : List PS2) {p : List Nat} {U X : Tm} (h : down U (intsP p) = some X) : down (U.led u) (intsP p) = some (X.led u) := by
  refine down_ints.mpr ?_
  rw [plc_led]
  exact List.mem_map.mpr ⟨(p, X), down_ints.mp h, rfl⟩
theorem hins_set {ns : List Str} : ∀ {l : List Tm} {i : Nat} {W : Tm}, Tm.hins ns l → W.hin ns → Tm.hins ns (l.set i W)
  | [], _, _, h, _ => h
  | p :: r, 0, W, h, g => ⟨g, h.2⟩
  | p :: r, i + 1, W, h, g => ⟨h.1, hins_set h.2 g⟩
theorem hin_with {ns : List Str} {U : Tm} {ks : List Tm} (h : U.hin ns) (g : Tm.hins ns ks) : (U.withK ks).hin ns := by
  cases U with
  | name n => exact h
  | hole t X => exact h
  | bad => exact h
  | sign n ps => exact g
  | shut n b =>
    match ks, g with
    | [], _ => exact h
    | [k], g => exact g.1
    | _ :: _ :: _, _ => exact h
theorem hin_put {ns : List Str} : ∀ {p : List Nat} {U W : Tm}, U.hin ns → W.hin ns → (U.put p W).hin ns
  | [], _, _, _, g => g
  | i :: p, U, W, h, g => by
    rw [Tm.put]
    cases hk : U.kids[i]? with
    | none => exact h
    | some k => exact hin_with h (hins_set (Tm.hin_kids h) (hin_put (Tm.hins_mem (Tm.hin_kids h) k (List.mem_of_getElem? hk)) g))
theorem plc_hin {ns : List Str} : ∀ {p : List Nat} {U W : Tm}, (p, W) ∈ U.plc → U.hin ns → W.hin ns
  | [], U, W, h, g => by
    rw [plc_mem] at h
    rcases h with e | ⟨i, k, r, _, _, e⟩
    · obtain ⟨_, rfl⟩ := Prod.mk.inj e
      exact g
    · cases (Prod.mk.inj e).1
  | j :: p, U, W, h, g => by
    rw [plc_mem] at h
    rcases h with e | ⟨i, k, ⟨r1, r2⟩, hk, hr, e⟩
    · cases (Prod.mk.inj e).1
    · obtain ⟨e1, e2⟩ := Prod.mk.inj e
      obtain ⟨rfl, rfl⟩ := List.cons.inj e1
      have e2 : W = r2 := e2
      subst e2
      exact plc_hin hr (Tm.hins_mem (Tm.hin_kids g) k (List.mem_of_getElem? hk))
/-- names of a led term, and led names -/
theorem due_eq {u : List PS2} (iu : IsTurn u) {n0 n1 y : List Str} {U : Tm} (h : U.hls = []) (d0 : n0.Nodup) (d1 : n1.Nodup) (s1 : n1.Pairwise leS) (m0 : ∀ n, n ∈ n0 ↔ n ∈ U.nms) (m1 : ∀ n, n ∈ n1 ↔ n ∈ (U.led u).nms) (py : y.Perm (n0.map (look u))) (sy : y.Pairwise leS) : n1 = y := by
  have dm : (n0.map (look u)).Nodup := by
    unfold List.Nodup
    rw [List.pairwise_map]
    exact d0.imp fun ne e => ne (iu.inj e)
  refine same_set d1 (py.nodup_iff.mpr dm) s1 sy fun n => ?_
  rw [m1, nms_led u h, py.mem_iff, List.mem_map, List.mem_map]
  exact ⟨fun ⟨m, hm, e⟩ => ⟨m, (m0 m).mpr hm, e⟩, fun ⟨m, hm, e⟩ => ⟨m, (m0 m).mp hm, e⟩⟩
end Pf

/-! in, not in of data, with K named -/
namespace Pf
open PySem PySem.Spec PyProof.Rows L2
theorem units65 {k : Nat} {A : Around} (r : Room k A) : A.units + 65 < cLine := by have := r.un; omega
section
variable {X : Cx} (K : PySem.W.Frag)
theorem op_inDK {k : Nat} (r : Room k X.A) (e : X.K = K := by rfl) : OpR X (compareOp .In) (rInD K) := e ▸ op_inD (units65 r)
theorem op_notInDK {k : Nat} (r : Room k X.A) (e : X.K = K := by rfl) : OpR X (compareOp .NotIn) (rNotInD K) := e ▸ op_notInD (units65 r)
end
mutual
theorem dp_same {K : PySem.W.Frag} {H H' : Hp} (s : Same H H') {v : V} {d : PyData} : Dp K H v d → Dp K H' v d
  | .non => .non
  | .bl b => .bl b
  | .int i => .int i
  | .str x => .str x
  | .lst h a => .lst (s.seq h) (dps_same s a)
  | .tup h a => .tup ((Tups.of s).sq h) (dps_same s a)
theorem dps_same {K : PySem.W.Frag} {H H' : Hp} (s : Same H H') {vs : List V} {ds : List PyData} : DpAll K H vs ds → DpAll K H' vs ds
  | .nil => .nil
  | .cons h t => .cons (dp_same s h) (dps_same s t)
end
end Pf

namespace Pf
open PySem PySem.Spec PyProof.Rows L2
local macro_rules | `(tactic| walk_at "rd") => `(tactic| (repeat' (first
  | with_reducible refine r_seq ?_ | with_reducible refine r_asg ?_ | with_reducible refine r_ret ?_ | with_reducible refine r_retN ?_ | with_reducible refine r_drop ?_ | with_reducible refine r_if ?_
  | with_reducible refine r_op ?_ | (with_reducible show tVar _ _ _ _; refine r_var rfl ?_) | with_reducible refine r_c ?_ | with_reducible refine r_I0 ?_ | (with_reducible refine r_I ?c ?_; (case c => first | (show (0 : Int) < _; first | decide | assumption | omega) | exact cmul_r ⟨by decide, by decide⟩ | exact cmul_l ⟨by decide, by decide⟩ | exact cmul_r (by first | assumption | constructor <;> omega) | (unfold CDiv; constructor <;> decide) | (unfold CPow; refine ⟨?_, ?_, ?_⟩ <;> decide))) | with_reducible refine r_name ?_ | (with_reducible show rIxL _ _ _ _ _; refine r_ixL (sqL (by assumption)) rfl ?_) | (with_reducible show rIxT _ _ _ _ _; refine r_ixT (by assumption) rfl ?_) | (with_reducible show rSetL _ _ _ _ _; refine r_setL (by assumption) rfl ?_) | with_reducible refine r_test ?_ | with_reducible refine r_tB ?_ | with_reducible refine r_bl ?_
  | with_reducible refine r_not ?_ | with_reducible refine r_and ?_ | with_reducible refine r_or ?_ | with_reducible refine r_andV ?_ | with_reducible refine r_orV ?_ | with_reducible refine r_notV ?_ | with_reducible refine r_ifE ?_
  | with_reducible refine r_cons ?_ | with_reducible refine r_nil ?_ | with_reducible refine r_cb ?_ | with_reducible refine r_call ?_ | with_reducible refine r_lst ?_ | with_reducible refine r_tup ?_ | with_reducible refine r_bm ?_ | with_reducible refine r_bm0 ?_
  | with_reducible refine r_un ?_ | with_reducible refine r_U ?_ | with_reducible refine r_eqI ?_ | with_reducible refine r_eqS ?_ | with_reducible refine r_neI ?_ | with_reducible refine r_neS ?_ | with_reducible refine r_sub ?_ | with_reducible refine r_gcons ?_ | with_reducible refine r_gnil ?_
  | with_reducible refine r_chain ?_ | with_reducible refine r_get2 ?_ | with_reducible refine r_iList ?_ | with_reducible refine r_iStr ?_ | with_reducible refine r_iTup ?_ | with_reducible refine r_iRev ?_ | with_reducible refine r_iItems ?_ | with_reducible refine r_rng ?_ | with_reducible refine r_inS ?_ | with_reducible refine r_bI ?_ | with_reducible refine r_abs ?_ | with_reducible refine r_sl ?_ | with_reducible refine r_next ?_ | with_reducible refine r_yes ?_
  | (with_reducible show rLen _ _ _ _; first | refine r_lenK (sqL (by assumption)) ?_ | refine r_lenK (by assumption) ?_ | refine r_lenTK (by assumption) ?_)
  | (with_reducible show tFor _ _ _ _ _ _; unfold tFor) | (with_reducible show tLc _ _ _ _ _ _ _ _; unfold tLc) | (with_reducible show tWhile _ _ _ _ _; unfold tWhile)
  | (with_reducible refine ⟨_, rfl, ?_⟩) | (with_reducible refine ⟨_, _, rfl, rfl, ?_⟩) | (with_reducible refine Or.inr ⟨_, rfl, ?_⟩) | (refine ⟨_, _, rfl, Or.inl (by assumption), ?_⟩; skip) | (refine ⟨_, _, rfl, Or.inr (by assumption), ?_⟩; skip)
  | (with_reducible refine iteNT ?_) | (with_reducible refine iteNF ?_) | (with_reducible refine iteT ?_) | (with_reducible refine iteF ?_)
  | (dsimp only [Bool.not_true, Bool.not_false, List.cons_append, List.nil_append]))))

local macro_rules | `(tactic| walk_at "st") => `(tactic| first | exact Same.refl _ | assumption | (refine Same.trans (by assumption) ?_; walk_at "st"))
local macro_rules | `(tactic| walk_at "ok") => `(tactic| first | assumption | exact up_tm (by assumption) (by walk_at "st") | exact up_sqT (by assumption) (by walk_at "st") | exact up_get (by assumption) (by walk_at "st") | exact up_getL (by assumption) (by walk_at "st") | exact up_getT (by assumption) (by walk_at "st") | exact up_sqL (by assumption) (by walk_at "st") | exact up_tms (by assumption) (by walk_at "st") | exact up_tnD (by assumption) (by walk_at "st") | exact up_tn (by assumption) (by walk_at "st") | exact ⟨_, up_getL (by assumption) (by walk_at "st")⟩ | exact ⟨_, up_sqL (by assumption) (by walk_at "st")⟩)

local macro_rules | `(tactic| walk_at "sy") => `(tactic| first | exact Stay.refl | assumption | (refine Stay.trans (by first | assumption | exact Stay.of (by assumption)) ?_; walk_at "sy"))
local macro_rules | `(tactic| walk_at "oy") => `(tactic| first | assumption | exact uy_tm (by assumption) (by walk_at "sy") | exact uy_sqT (by assumption) (by walk_at "sy") | exact uy_tms (by assumption) (by walk_at "sy") | exact uy_tnD (by assumption) (by walk_at "sy") | exact uy_tn (by assumption) (by walk_at "sy"))
local macro_rules | `(tactic| walk_at "r2") => `(tactic| (repeat' (first
  | with_reducible refine r_nopart ?_ | with_reducible refine r_part ?_
  | with_reducible refine r_seq ?_ | with_reducible refine r_asg ?_ | with_reducible refine r_ret ?_ | with_reducible refine r_retN ?_ | with_reducible refine r_drop ?_ | with_reducible refine r_if ?_
  | with_reducible refine r_op ?_ | (with_reducible show tVar _ _ _ _; refine r_var rfl ?_) | with_reducible refine r_c ?_ | with_reducible refine r_I0 ?_ | (with_reducible refine r_I ?c ?_; (case c => first | (show (0 : Int) < _; first | decide | assumption | omega) | exact cmul_r ⟨by decide, by decide⟩ | exact cmul_l ⟨by decide, by decide⟩ | exact cmul_r (by first | assumption | constructor <;> omega) | (unfold CDiv; constructor <;> decide) | (unfold CPow; refine ⟨?_, ?_, ?_⟩ <;> decide))) | with_reducible refine r_name ?_ | (with_reducible show rIxL _ _ _ _ _; refine r_ixL (sqL (by assumption)) rfl ?_) | (with_reducible show rIxT _ _ _ _ _; refine r_ixT (by assumption) rfl ?_) | (with_reducible show rSetL _ _ _ _ _; refine r_setL (by assumption) rfl ?_) | with_reducible refine r_test ?_ | with_reducible refine r_tB ?_ | with_reducible refine r_bl ?_
  | with_reducible refine r_not ?_ | with_reducible refine r_and ?_ | with_reducible refine r_or ?_ | with_reducible refine r_andV ?_ | with_reducible refine r_orV ?_ | with_reducible refine r_notV ?_ | with_reducible refine r_ifE ?_
  | with_reducible refine r_cons ?_ | with_reducible refine r_nil ?_ | with_reducible refine r_cb ?_ | with_reducible refine r_call ?_ | with_reducible refine r_lst ?_ | with_reducible refine r_tup ?_ | with_reducible refine r_bm ?_ | with_reducible refine r_bm0 ?_
  | with_reducible refine r_un ?_ | with_reducible refine r_U ?_ | with_reducible refine r_eqI ?_ | with_reducible refine r_eqS ?_ | with_reducible refine r_neI ?_ | with_reducible refine r_neS ?_ | with_reducible refine r_sub ?_ | with_reducible refine r_gcons ?_ | with_reducible refine r_gnil ?_
  | with_reducible refine r_chain ?_ | with_reducible refine r_get2 ?_ | with_reducible refine r_iList ?_ | with_reducible refine r_iStr ?_ | with_reducible refine r_iTup ?_ | with_reducible refine r_iRev ?_ | with_reducible refine r_iItems ?_ | with_reducible refine r_rng ?_ | with_reducible refine r_inS ?_ | with_reducible refine r_bI ?_ | with_reducible refine r_abs ?_ | with_reducible refine r_sl ?_ | with_reducible refine r_next ?_ | with_reducible refine r_yes ?_
  | (with_reducible show rLen _ _ _ _; first | refine r_lenK (sqL (by assumption)) ?_ | refine r_lenK (by assumption) ?_ | refine r_lenTK (by assumption) ?_)
  | (with_reducible show tFor _ _ _ _ _ _; unfold tFor) | (with_reducible show tLc _ _ _ _ _ _ _ _; unfold tLc) | (with_reducible show tWhile _ _ _ _ _; unfold tWhile)
  | (with_reducible refine ⟨_, rfl, ?_⟩) | (with_reducible refine ⟨_, _, rfl, rfl, ?_⟩) | (with_reducible refine Or.inr ⟨_, rfl, ?_⟩) | (refine ⟨_, _, rfl, Or.inl (by assumption), ?_⟩; skip) | (refine ⟨_, _, rfl, Or.inr (by assumption), ?_⟩; skip)
  | (with_reducible refine iteNT ?_) | (with_reducible refine iteNF ?_) | (with_reducible refine iteT ?_) | (with_reducible refine iteF ?_)
  | (dsimp only [Bool.not_true, Bool.not_false, List.cons_append, List.nil_append]))))

theorem tabs_p {T : List NdefX.NTab} {H H2 : Hp} {p : Addr} (hp : PileAt H p) (b : But p H H2) (t : NdefX.TabsN T H) : NdefX.TabsN T H2 := by
  obtain ⟨_, _, _, e, _⟩ := id hp
  exact tabs_but (fun c o h n => b c o (fun z => by rw [z, e] at h; exact n _ (Option.some.inj h).symm) h) t
theorem tt_ask {a : Ad} {K : PySem.W.Frag} {N1 N2 : Addr} {H : Hp} {v x : V} {u : List PS2} {U : Tm} {ns : List Str} {Q : VK} {E : XK} (hv : TnD K H v u) (iu : IsTurn u) (hx : TmV K H x U) (g : U.good = true) (zU : U.size ≤ 900) (tab : NdefX.TabsN (tabs a) H)
    (au : Among u ns) (few : ns.length ≤ 20) (hin : U.hin ns) (q : ∀ y H2, XN a H H2 → TmV K H2 y (U.led u) → Q y H2) : sp_tt a K N1 N2 [v, x] H Q E :=
  ⟨v, x, some u, U, rfl, hv.tg iu, hx, zU, tab, fun _ e _ _ => by cases e; exact ⟨ns, au, few, hin, q⟩, fun e => by (rw [turnB_yes iu] at e; cases e), fun _ e => by (rw [g] at e; cases e)⟩
theorem pile_ext {H H2 : Hp} {p : Addr} (e : LamX.ExtN H H2) (h : PileAt H p) : PileAt H2 p := by
  obtain ⟨d, c, n, h1, h2⟩ := h
  exact ⟨d, c, n, e _ _ h1 (fun _ z => nomatch z), h2⟩
theorem put_ask {K : PySem.W.Frag} {N N2 : Addr} {H : Hp} {x y : V} {U W X : Tm} {p : List Nat} {q0 : Addr} {Q : VK} {E : XK} (hx : TmV K H x U) (hy : TmV K H y W) (gU : U.good = true) (gW : W.good = true) (zU : U.size ≤ 1000) (zW : W.size ≤ 1000) (l : p.length ≤ 1000) (hq : SqT K H q0 (plI p)) (hd : down U (intsP p) = some X)
    (q : ∀ v H2, Same H H2 → TmV K H2 v (U.put p W) → Q v H2) : sp_put K N N2 true [x, .ref q0, y] H Q E :=
  ⟨x, y, U, W, intsP p, q0, rfl, hx, hy, by rw [← plI_int]; exact hq, ⟨by rw [show (intsP p).length = p.length from List.length_map ..]; exact l, zU, zW⟩, (fun e => nomatch e),
    fun _ _ p2 X2 e2 _ => by obtain rfl := intsP_inj e2; exact q, fun _ _ e => by (rw [hd] at e; cases e), fun e => by (rw [gU, gW] at e; cases e)⟩
section
variable {P : Program} {w : World} {K : PySem.W.Frag} {mg : Str → Option Value} {base : Heap} {a : Ad}
def sp_law (a : Ad) (K : PySem.W.Frag) : Sp := fun vs H Q _ => ∃ (b : Addr) (ns : List Int), vs = [.ref b] ∧ SqL K H b (ns.map V.int) ∧ ns.length ≤ 63 ∧ NdefX.TabsN (tabs a) H ∧ ∀ H', Q (.bl true) H'
theorem ok_law (T : Txt K mg a) (B : Tbs base mg a) : FnOk P w K mg base CX0 13 a.f_law a.d_law ["_law_script"] (sp_law a K) := by
  refine T.F_law.ok sc_law (fun vs H Q E h => ?_) (fun cdv A outer s H vs Q E hr h => ?_)
  · obtain ⟨x, t, rfl, _⟩ := h
    rfl
  · obtain ⟨b, zs, rfl, hs, hl, tab0, q⟩ := h
    refine ⟨_, (pss_cons (ps_for PassesOwn.never rfl (pi_range1 (by rfl) T.n_range (pa_cons pe_int pa_nil)) (pg_name (i := 1) sc_law.nd rfl (by first | exact Or.inl rfl | exact Or.inr rfl)) (pss_cons (ps_set (i := 2) sc_law.nd rfl (.inl rfl) (pe_call (G__law_pile (K := K) T) (hr.mono (by decide)) (by rfl) T.g__law_pile T.F__law_pile.kp T.b__law_pile .nil pass0 (pa_cons (pv 0) (pa_cons (pv 1) pa_nil))))
        (pss_cons (ps_set (i := 3) sc_law.nd rfl (.inl rfl) (pe_call (G__law_names (K := K) T) (hr.mono (by decide)) (by rfl) T.g__law_names T.F__law_names.kp T.b__law_names .nil pass0 (pa_cons (pv 2) (pa_cons (pe_op op_add pe_int (pe_call (G__law_take (K := K) T) (hr.mono (by decide)) (by rfl) T.g__law_take T.F__law_take.kp T.b__law_take .nil pass0 (pa_cons (pv 2) (pa_cons pe_int pa_nil)))) pa_nil))))
        (pss_cons (ps_set (i := 4) sc_law.nd rfl (.inl rfl) (pe_call (G__law_holes (K := K) T) (hr.mono (by decide)) (by rfl) T.g__law_holes T.F__law_holes.kp T.b__law_holes .nil pass0 (pa_cons (pv 2) (pa_cons (pe_call (G__law_take (K := K) T) (hr.mono (by decide)) (by rfl) T.g__law_take T.F__law_take.kp T.b__law_take .nil pass0 (pa_cons (pv 2) (pa_cons pe_int pa_nil))) pa_nil))))
        (pss_cons (ps_set (i := 5) sc_law.nd rfl (.inl rfl) (pe_call (G__law_any (K := K) T) (hr.mono (by decide)) (by rfl) T.g__law_any T.F__law_any.kp T.b__law_any .nil pass0 (pa_cons (pv 2) (pa_cons (pv 3) (pa_cons (pe_op op_rep (pv 4) pe_int) pa_nil)))))
        (pss_cons (ps_set (i := 6) sc_law.nd rfl (.inl rfl) (pe_call (G__law_term (K := K) T) (hr.mono (by decide)) (by rfl) T.g__law_term T.F__law_term.kp T.b__law_term .nil pass0 (pa_cons (pv 2) (pa_cons (pv 3) (pa_cons (pe_callTy (call_list_ofK K) (by rfl) T.n_list (by decide +kernel) (pa_cons (pv 4) pa_nil)) (pa_cons pe_int pa_nil))))))
        (pss_cons (ps_set (i := 7) sc_law.nd rfl (.inr rfl) (pe_call (G__law_turn (K := K) T) (hr.mono (by decide)) (by rfl) T.g__law_turn T.F__law_turn.kp T.b__law_turn .nil pass0 (pa_cons (pv 2) (pa_cons (pv 3) pa_nil))))
        (pss_cons (ps_set (i := 8) sc_law.nd rfl (.inl rfl) (pe_call (G_places_of (K := K) T) (hr.mono (by decide)) (by rfl) T.g_places_of T.F_places_of.kp T.b_places_of .nil passL (pa_cons (pv 5) pa_nil)))
        (pss_cons (ps_set (i := 9) sc_law.nd rfl (.inl rfl) (pe_call (G_turned_term (K := K) T B) (hr.mono (by decide)) (by rfl) T.g_turned_term T.F_turned_term.kp T.b_turned_term .nil passL (pa_cons (pv 7) (pa_cons (pv 5) pa_nil))))
        (pss_cons (ps_if (pt_cmpR (op_neDK K hr.units) (pe_call (G_places_of (K := K) T) (hr.mono (by decide)) (by rfl) T.g_places_of T.F_places_of.kp T.b_places_of .nil passL (pa_cons (pv 9) pa_nil)) (pv 8) (nomark _)) (pss_one (ps_ret pe_bl)) pss_nil)
        (pss_cons (ps_for PassesOwn.never rfl (pi_listK K (pv 8)) (pg_name (i := 10) sc_law.nd rfl (by first | exact Or.inl rfl | exact Or.inr rfl)) (pss_cons (ps_set (i := 11) sc_law.nd rfl (.inl rfl) (pe_call (G_part_at (K := K) T) (hr.mono (by decide)) (by rfl) T.g_part_at T.F_part_at.kp T.b_part_at .nil passL (pa_cons (pv 5) (pa_cons (pv 10) pa_nil))))
        (pss_one (ps_if ((pw_or (pt_not (pt_val (pe_call (G__law_sums (K := K) T) (hr.mono (by decide)) (by rfl) T.g__law_sums T.F__law_sums.kp T.b__law_sums .nil pass0 (pa_cons (pv 11) pa_nil)))) (pw_or1 (pt_cmpR (op_neDK K hr.units) (pe_call (G_part_at (K := K) T) (hr.mono (by decide)) (by rfl) T.g_part_at T.F_part_at.kp T.b_part_at .nil passL (pa_cons (pv 9) (pa_cons (pv 10) pa_nil))) (pe_call (G_turned_term (K := K) T B) (hr.mono (by decide)) (by rfl) T.g_turned_term T.F_turned_term.kp T.b_turned_term .nil passL (pa_cons (pv 7) (pa_cons (pv 11) pa_nil))) (nomark _))))).pt (pss_one (ps_ret pe_bl)) pss_nil))))
        (pss_cons (ps_set (i := 10) sc_law.nd rfl (.inl rfl) (pe_ix (ix_listK K) (pv 8) (pe_call (G__law_take (K := K) T) (hr.mono (by decide)) (by rfl) T.g__law_take T.F__law_take.kp T.b__law_take .nil pass0 (pa_cons (pv 2) (pa_cons (pe_callB (call_len_seqK K) (by rfl) T.n_len PySem.boot_len (pa_cons (pv 8) pa_nil)) pa_nil))) (fun _ _ => rfl)))
        (pss_cons (ps_if (pt_not (pt_val (pe_call (G__law_put_right (K := K) T) (hr.mono (by decide)) (by rfl) T.g__law_put_right T.F__law_put_right.kp T.b__law_put_right .nil pass0 (pa_cons (pv 5) (pa_cons (pv 10) (pa_cons (pv 6) pa_nil)))))) (pss_one (ps_ret pe_bl)) pss_nil)
        (pss_cons (ps_if (pt_cmpR (op_neDK K hr.units) (pe_call (G_turned_term (K := K) T B) (hr.mono (by decide)) (by rfl) T.g_turned_term T.F_turned_term.kp T.b_turned_term .nil passL (pa_cons (pv 7) (pa_cons (pe_call (G_put_at (K := K) T) (hr.mono (by decide)) (by rfl) T.g_put_at T.F_put_at.kp T.b_put_at .nil passL (pa_cons (pv 5) (pa_cons (pv 10) (pa_cons (pv 6) pa_nil)))) pa_nil))) (pe_call (G_put_at (K := K) T) (hr.mono (by decide)) (by rfl) T.g_put_at T.F_put_at.kp T.b_put_at .nil passL (pa_cons (pv 9) (pa_cons (pv 10) (pa_cons (pe_call (G_turned_term (K := K) T B) (hr.mono (by decide)) (by rfl) T.g_turned_term T.F_turned_term.kp T.b_turned_term .nil passL (pa_cons (pv 7) (pa_cons (pv 6) pa_nil))) pa_nil)))) (nomark _)) (pss_one (ps_ret pe_bl)) pss_nil)
        (pss_cons (ps_set (i := 12) sc_law.nd rfl (.inl rfl) (pe_callB (cr_sortedGK K (enc := PyData.str) hr.units) (by rfl) T.n_sorted (by decide +kernel) (pa_cons (pe_lc (own := [("_law_name_here", 13)]) (by rfl) sc_law.nd (pi_listK K (pe_call (G_names_in (K := K) T) (hr.mono (by decide)) (by rfl) T.g_names_in T.F_names_in.kp T.b_names_in .nil passL (pa_cons (pv 5) pa_nil))) (blkOk_by (N := N_law) (sc := defScope s_law) (by decide +kernel)) (fun _ _ _ _ _ => (pg_name (i := 13) sc_law.nd rfl (by first | exact Or.inl rfl | exact Or.inr rfl))) (fun _ _ _ _ _ => pts_nil) (fun _ _ _ _ _ => (pe_call (G__law_to (K := K) T) (hr.mono (by decide)) (by rfl) T.g__law_to T.F__law_to.kp T.b__law_to .nil pass0 (pa_cons (pv 7) (pa_cons (pv 13) pa_nil))))) pa_nil)))
        (pss_one (ps_if ((pw_or (pt_cmpR (op_neDK K hr.units) (pe_call (G_holes_in (K := K) T) (hr.mono (by decide)) (by rfl) T.g_holes_in T.F_holes_in.kp T.b_holes_in .nil passL (pa_cons (pv 9) pa_nil)) (pe_call (G_holes_in (K := K) T) (hr.mono (by decide)) (by rfl) T.g_holes_in T.F_holes_in.kp T.b_holes_in .nil passL (pa_cons (pv 5) pa_nil)) (nomark _)) (pw_or1 ((pw_and (pt_cmpR (op_eqDK K hr.units) (pe_call (G_holes_in (K := K) T) (hr.mono (by decide)) (by rfl) T.g_holes_in T.F_holes_in.kp T.b_holes_in .nil passL (pa_cons (pv 5) pa_nil)) (pe_lst pa_nil) (nomark _)) (pw_and1 (pt_cmpR (op_neDK K hr.units) (pe_call (G_names_in (K := K) T) (hr.mono (by decide)) (by rfl) T.g_names_in T.F_names_in.kp T.b_names_in .nil passL (pa_cons (pv 9) pa_nil)) (pv 12) (nomark _))))).pt))).pt (pss_one (ps_ret pe_bl)) pss_nil)))))))))))))))))
        (pss_one (ps_ret pe_bl))), ?_⟩
    walk_at "r2"
    refine ⟨by decide, by decide, ?_⟩
    refine forN_range (fun i σ H4 => ∃ (y1 y2 y3 y4 y5 y6 y7 y8 y9 y10 y11 y12 : Option V), σ = [some (.ref b), y1, y2, y3, y4, y5, y6, y7, y8, y9, y10, y11, y12, none] ∧ SqL K H4 b (zs.map V.int) ∧ NdefX.TabsN (tabs a) H4)
      ⟨none, none, none, none, none, none, none, none, none, none, none, none, rfl, hs, tab0⟩ (fun i σ H4 hi hP => ?_) (fun σ H4 hP => ?_)
    · obtain ⟨y1, y2, y3, y4, y5, y6, y7, y8, y9, y10, y11, y12, rfl, hs4, tab4⟩ := hP
      have hi : i < 15 := hi
      walk_at "r2"
      refine ⟨b, zs, i, by rw [Int.zero_add], hs4, fun p H5 np s5 hp5 => ?_⟩
      walk_at "r2"
      refine ⟨p, 6, rfl, hp5, by decide, by decide, fun m H6 m0 m1 hp6 b6 => ?_⟩
      walk_at "r2"
      refine ⟨p, 1 + m, rfl, hp6, by omega, by omega, fun ln ns H7 hnl hnd hok nln hln hp7 b7 => ?_⟩
      have npln : ln ≠ p := fun e => by
        obtain ⟨_, _, _, hh, _⟩ := hp6
        rw [e] at nln
        rw [nln] at hh
        cases hh
      walk_at "r2"
      refine ⟨p, 7, rfl, hp7, by decide, by decide, fun m2 H8 m20 m21 hp8 b8 => ?_⟩
      walk_at "r2"
      refine ⟨p, m2, rfl, hp8, m20, by omega, fun lh0 hs0 H9 hhl hho nlh hlh hp9 b9 => ?_⟩
      walk_at "r2"
      refine ⟨lh0, 2, _, rfl, rfl, hlh, by decide, by decide, by rw [List.length_map, sizeLine_eq]; show hs0.length * 2 ≤ _; omega, fun lh nlh2 => ?_⟩
      have e3 : (List.replicate (Int.toNat 2) (hs0.map V.str)).flatten = (hs0 ++ hs0).map V.str := by
        rw [List.map_append]
        show hs0.map V.str ++ (hs0.map V.str ++ []) = _
        rw [List.append_nil]
      rw [e3]
      have b49 : But p H4 H9 := ((((But.of s5).trans b6).trans b7).trans b8).trans b9
      have npl : p ≠ lh := hp9.ne nlh2
      have np0 : lh0 ≠ p := fun e => by
        obtain ⟨_, _, _, hh, _⟩ := hp8
        rw [e] at nlh
        rw [nlh] at hh
        cases hh
      have n0l : lh0 ≠ lh := ne_of_none hlh nlh2
      have hln9 : H9 ln = some (.lst (ns.map V.str)) := b9 _ _ npln (b8 _ _ npln hln)
      have s49 : Same H4 H9 := b49.toSame np
      have n4lh : H4 lh = none := s49.free nlh2
      have s10 := same_new (o := .lst ((hs0 ++ hs0).map V.str)) nlh2
      have d10 : Drawn2 p ln lh ns (hs0 ++ hs0) (upd H9 lh (.lst ((hs0 ++ hs0).map V.str))) := ⟨hp9.same s10, s10 _ _ hln9, upd_same, npln, npl.symm, ne_of_none hln9 nlh2, by omega, by omega, hnd, hok,
        by rw [List.length_append]; omega, fun h hh => by
          rcases List.mem_append.mp hh with hh | hh <;> exact hho h hh⟩
      have hlh10 := s10 _ _ hlh
      replace s49 := s49.trans s10
      clear hlh e3 b49
      generalize upd H9 lh (.lst ((hs0 ++ hs0).map V.str)) = H10 at s10 d10 hlh10 s49 ⊢
      walk_at "r2"
      refine ⟨p, ln, lh, ns, _, rfl, d10, fun v U H11 hs11 hT gT zT dT d11 b11 => ?_⟩
      obtain ⟨gT, hin⟩ := gT
      have s411 : Same H4 H11 := fun b o e => b11 _ _ (ne_of_none e np) (ne_of_none e n4lh) (s49 _ _ e)
      have hlh11 := b11 _ _ np0 n0l hlh10
      clear s10 hln9 d10 b11 hlh10 s49
      walk_at "r2"
      refine r_listL (sqL hlh11) fun l2 nl2 => ?_
      have s12 := same_new (o := .lst (hs0.map V.str)) nl2
      have h12 := upd_same (H := H11) (a := l2) (o := .lst (hs0.map V.str))
      have np2 : p ≠ l2 := d11.pile.ne nl2
      have d12 : Drawn2 p ln l2 ns hs0 (upd H11 l2 (.lst (hs0.map V.str))) := ⟨d11.pile.same s12, s12 _ _ d11.nam, h12, npln, np2.symm, ne_of_none d11.nam nl2, d11.l1, d11.l2, hnd, hok, by omega, hho⟩
      have n4l2 : H4 l2 = none := s411.free nl2
      have s412 : Same H4 (upd H11 l2 (.lst (hs0.map V.str))) := s411.trans s12
      have hT12 := hT.stay (.of s12)
      generalize upd H11 l2 (.lst (hs0.map V.str)) = H12 at s12 d12 hT12 s412 ⊢
      clear s12 d11 h12 hlh11 s411
      walk_at "r2"
      refine ⟨p, ln, l2, ns, hs0, 2, rfl, by decide, by decide, d12, fun vw W H13 hs13 hW gW zW dW d13 b13 => ?_⟩
      obtain ⟨gW, hinW⟩ := gW
      have zb : bnd 2 = 13 := rfl
      have hT13 := hT12.stay (d12.stay (K := K) d13 b13)
      have s413 : Same H4 H13 := fun b o e => b13 _ _ (ne_of_none e np) (ne_of_none e n4l2) (s412 _ _ e)
      clear d12 b13 hT12 hT s412
      walk_at "r2"
      have few : ns.length ≤ 20 := by omega
      refine ⟨p, ln, ns, rfl, d13.pile, d13.nam, d13.n1, d13.l1, d13.l2, d13.nd, d13.ok, fun v1 u H14 hv14 iu au hp14 b14 => ?_⟩
      have d14 := d13.but b14 hp14
      have st14 := d13.stay (K := K) d14 (.of b14)
      have s414 : Same H4 H14 := fun b o e => b14 _ _ (ne_of_none e np) (s413 _ _ e)
      have tab14 := tab4.ext s414
      have x414 : LamX.ExtN H4 H14 := .of s414
      have hT14 := hT13.stay st14
      have hW14 := hW.stay st14
      clear d13 s413 b14 hT13 hW st14 s414
      have sU : SeqAt.shaped U.enc = true := hT14.shaped gT (by omega)
      walk_at "r2"
      refine ⟨v, U, rfl, hT14, gT, by omega, fun la ys H15 s15 nla ha hA => ?_⟩
      have y15 : Stay K H14 H15 := .of s15
      have nlp := hp14.ne nla
      walk_at "r2"
      refine tt_ask (by walk_at "oy") iu (by walk_at "oy") gT (by omega) (tab14.ext s15) au few hin fun vt H16 xn16 hv16 => ?_
      have y16 := xn16.stay (K := K)
      have g1 : (U.led u).good = true := (Tm.good_led u U).trans gT
      have z1 : (U.led u).size = U.size := Tm.size_led u U
      have e1 : (U.led u).dep = U.dep := Tm.dep_led u U
      walk_at "r2"
      refine ⟨vt, U.led u, rfl, hv16, g1, by omega, fun lb zs2 H17 s17 nlb hb hB => ?_⟩
      have y17 : Stay K H16 H17 := .of s17
      have ep : (U.led u).plc.map (·.1) = U.plc.map (·.1) := by rw [plc_led, List.map_map]; rfl
      rw [ep] at hB
      have ha17 : SqL K H17 la ys := s17.seq (seq_ext xn16.ext (sqL ha))
      have hA17 : Pls K H17 ys (U.plc.map (·.1)) := Pls.stay hA (y16.trans y17).tups
      walk_at "r2"
      refine r_neD (.lst (sqL hb) (dp_pls hB)) (.lst ha17 (dp_pls hA17)) (sh_N _) (sh_N _) ?_
      rw [SeqAt.eqv_refl _ (shaped_iff.mp (sh_N _)).1]
      walk_at "r2"
      refine ⟨⟨_, ha17⟩, ?_⟩
      have x17 : XN a H14 H17 := ((XN.of tab14 s15).trans xn16).same s17
      have hT17 := hT14.stay (x17.stay (K := K))
      have hW17 := hW14.stay (x17.stay (K := K))
      have hv17 := hv14.stay (x17.stay (K := K))
      have ht17 := hv16.stay y17
      have hp17 := pile_ext x17.ext d14.pile
      have x417 := x414.trans x17.ext
      have tab17 := x17.tab
      clear x17 y15 y16 y17 hb hB ha hA hv16 xn16 s15 s17 hT14 hW14 hv14 d14 hp14 x414 tab14
      refine forN_list (K := K) (a := la) (xs := ys) (fun j σ HX => ∃ z10 z11 : Option V, σ = [some (.ref b), some (.int (0 + (i : Nat))), some (.ref p), some (.ref ln), some (.ref lh0), some v, some vw, some v1, some (.ref la), some vt, z10, z11, y12, none] ∧ XN a H17 HX) ⟨_, _, rfl, XN.of tab17 (Same.refl _)⟩ (fun j σ HX _ hP => by
          obtain ⟨_, _, _, xX⟩ := hP
          exact seq_ext xX.ext ha17) (fun j x1 σ HX hx1 hP => ?_) (fun σ HX hP => ?_)
      · obtain ⟨z10, z11, rfl, xX⟩ := hP
        have yX := xX.stay (K := K)
        obtain ⟨pj, hpj, z, rfl, hz⟩ := pd_get' (Pls.stay hA17 yX.tups) hx1
        obtain ⟨⟨pu, X⟩, hu, e⟩ := List.mem_map.mp (List.mem_of_getElem? hpj)
        obtain rfl : pu = pj := e
        have hX : down U (intsP pu) = some X := down_ints.mpr hu
        have ljl := down_len hX
        obtain ⟨p1, p2, p3⟩ := plc_sub hu
        have gX := p3 gT
        have hinX := plc_hin hu hin
        walk_at "r2"
        refine at_ask (by walk_at "oy") gT (by omega) (by omega) (by walk_at "oy") hX fun vX H18 s18 hvX => ?_
        have y18 : Stay K HX H18 := .of s18
        walk_at "r2"
        refine ⟨vX, X, ns, rfl, hvX, gX, by omega, by omega, hinX, few, fun H19 s19 => ?_⟩
        have y19 : Stay K H18 H19 := .of s19
        walk_at "r2"
        refine at_ask (U := U.led u) (by walk_at "oy") g1 (by omega) (by omega) (by walk_at "oy") (down_led u hX) fun vY H20 s20 hvY => ?_
        have y20 : Stay K H19 H20 := .of s20
        walk_at "r2"
        have x20 : XN a H17 H20 := (xX.same (s18.trans s19)).same s20
        refine tt_ask (by walk_at "oy") iu (by walk_at "oy") gX (by omega) x20.tab au few hinX fun vZ H21 xn21 hvZ => ?_
        have gXl : (X.led u).good = true := (Tm.good_led u X).trans gX
        have sX : SeqAt.shaped (X.led u).enc = true := hvZ.shaped gXl (by rw [Tm.dep_led]; omega)
        refine r_neD ((hvY.stay xn21.stay).dp gXl) (hvZ.dp gXl) sX sX ?_
        rw [SeqAt.eqv_refl _ (shaped_iff.mp sX).1]
        walk_at "r2"
        exact ⟨_, _, rfl, x20.trans xn21⟩
      · obtain ⟨z10, z11, rfl, xX⟩ := hP
        have yX := xX.stay (K := K)
        have haX := seq_ext xX.ext ha17
        have lA := pd_len hA17
        rw [List.length_map, Tm.len_plc] at lA
        have zp := Tm.size_pos U
        walk_at "r2"
        refine ⟨p, _, rfl, pile_ext xX.ext hp17, by omega, by omega, fun r H18 r0 r1 hp18 b18 => ?_⟩
        obtain ⟨_, _, _, eX, _⟩ := id (pile_ext xX.ext hp17)
        obtain ⟨_, _, _, e18, _⟩ := id hp18
        have y18 : Stay K HX H18 := .at b18 eX e18
        have ha18 : SqL K H18 la ys := But.sq b18 nlp.symm haX
        have hA18 : Pls K H18 ys (U.plc.map (·.1)) := Pls.stay hA17 (yX.trans y18).tups
        have tab18 := tabs_p (pile_ext xX.ext hp17) b18 xX.tab
        have x418 : LamX.ExtN H4 H18 := fun c o e n => b18 _ _ (ne_of_none e np) ((x417.trans xX.ext) _ _ e n)
        obtain ⟨r, rfl⟩ := Int.eq_ofNat_of_zero_le r0
        have rl : r < ys.length := by omega
        have er := List.getElem?_eq_getElem rl
        obtain ⟨pj, hpj, z, ez, hz⟩ := pd_get' hA18 er
        obtain ⟨⟨pu, X⟩, hu, e⟩ := List.mem_map.mp (List.mem_of_getElem? hpj)
        obtain rfl : pu = pj := e
        have hX : down U (intsP pu) = some X := down_ints.mpr hu
        have ljl := down_len hX
        refine r_ixL ha18 (atI_nat (j := r) er) ?_
        rw [ez]
        walk_at "r2"
        refine ⟨v, vw, U, W, X, pu, z, rfl, by walk_at "oy", by walk_at "oy", hz, hu, gT, gW, by omega, by omega, by omega, fun H19 s19 => ?_⟩
        have y19 : Stay K H18 H19 := .of s19
        walk_at "r2"
        refine put_ask (U := U) (W := W) (by walk_at "oy") (by walk_at "oy") gT gW (by omega) (by omega) (by omega) (by walk_at "oy") hX fun vp H20 s20 hvp => ?_
        have y20 : Stay K H19 H20 := .of s20
        have gP : (U.put pu W).good = true := Tm.good_put (p := pu) gT gW
        have zP := Tm.size_put W hX
        have dP := Tm.dep_put (p := pu) (U := U) (W := W)
        refine tt_ask (by walk_at "oy") iu hvp gP (by omega) ((tab18.ext s19).ext s20) au few (hin_put hin hinW) fun v3 H21 xn21 hv3 => ?_
        have y21 := xn21.stay (K := K)
        walk_at "r2"
        refine tt_ask (U := W) (by walk_at "oy") iu (by walk_at "oy") gW (by omega) xn21.tab au few hinW fun v4 H22 xn22 hv4 => ?_
        have y22 := xn22.stay (K := K)
        have gWl : (W.led u).good = true := (Tm.good_led u W).trans gW
        have zWl : (W.led u).size = W.size := Tm.size_led u W
        refine put_ask (U := U.led u) (W := W.led u) (by walk_at "oy") hv4 g1 gWl (by omega) (by omega) (by omega) (by walk_at "oy") (down_led u hX) fun v5 H23 s23 hv5 => ?_
        have y23 : Stay K H22 H23 := .of s23
        rw [← led_put u W hX] at hv5
        have gPl : ((U.put pu W).led u).good = true := (Tm.good_led u _).trans gP
        have sP : SeqAt.shaped ((U.put pu W).led u).enc = true := hv5.shaped gPl (by rw [Tm.dep_led]; omega)
        refine r_neD ((hv3.stay (y22.trans y23)).dp gPl) (hv5.dp gPl) sP sP ?_
        rw [SeqAt.eqv_refl _ (shaped_iff.mp sP).1]
        walk_at "r2"
        refine ⟨v, U, rfl, by walk_at "oy", gT, by omega, fun l0 n0 H24 s24 nl0 hl0 nd0 so0 m0 => ?_⟩
        have y24 : Stay K H23 H24 := .of s24
        have ln0 := sub_len nd0 fun n hn => (m0 n).mp hn
        have lnU := nms_len hT17
        walk_at "r2"
        refine ⟨⟨_, sqL hl0⟩, fun D nD => ?_⟩
        refine lc_list (K := K) (a := l0) (xs := n0.map V.str) (LcI H24 D fun j acc _ => acc = ((n0.take j).map (look u)).map V.str) (LcI.zero nD rfl) (fun j H1 _ hP => hP.1.seq (sqL hl0)) (fun j x1 HA hx1 hP => ?_) (fun HA hP => ?_)
        · obtain ⟨sA, acc, hD, hal, rfl⟩ := hP
          have yA : Stay K H24 HA := .of sA
          rw [List.getElem?_map] at hx1
          obtain ⟨n, hn, rfl⟩ := Option.map_eq_some_iff.mp hx1
          have hj := (List.getElem?_eq_some_iff.mp hn).1
          walk_at "r2"
          refine ⟨rfl, ?_⟩
          walk_at "r2"
          refine ⟨v1, u, n, rfl, by walk_at "oy", by have := iu.small; omega, fun HB sB => ?_⟩
          refine LcI.keepB nD sA hD hal (by omega) sB ?_
          rw [take_snoc hn, List.map_append, List.map_append]
          rfl
        · obtain ⟨sA, acc, hD, hal, rfl⟩ := hP
          have yA : Stay K H24 HA := .of sA
          rw [List.take_of_length_le (by rw [List.length_map]; exact Nat.le_refl _)] at hD
          walk_at "r2"
          refine r_sortS (sqL hD) fun y lS py sy nS => ?_
          have sS := same_new (o := .lst (y.map V.str)) nS
          have hS := upd_same (H := HA) (a := lS) (o := .lst (y.map V.str))
          generalize upd HA lS (.lst (y.map V.str)) = H25 at sS hS ⊢
          have yS : Stay K HA H25 := .of sS
          walk_at "r2"
          refine ⟨vt, U.led u, rfl, by walk_at "oy", g1, by omega, fun l1 h1s H26 s26 nl1 hl1 nd1 so1 m1 => ?_⟩
          have y26 : Stay K H25 H26 := .of s26
          walk_at "r2"
          refine ⟨v, U, rfl, by walk_at "oy", gT, by omega, fun l2 h2s H27 s27 nl2 hl2 nd2 so2 m2 => ?_⟩
          have y27 : Stay K H26 H27 := .of s27
          have eH : h1s = h2s := same_set nd1 nd2 so1 so2 fun n => by rw [m1, m2, hls_led]
          subst eH
          have shH : SeqAt.shaped (.list (h1s.map .str)) = true := shaped_LS fun n hn => (hls_ok hT17 n ((m2 n).mp hn)).sok
          refine r_neD (.lst (sqL (s27 _ _ hl1)) (dp_strs _)) (.lst (sqL hl2) (dp_strs _)) shH shH ?_
          rw [SeqAt.eqv_refl _ (shaped_iff.mp shH).1]
          walk_at "r2"
          refine ⟨v, U, rfl, by walk_at "oy", gT, by omega, fun l3 h3s H28 s28 nl3 hl3 nd3 so3 m3 => ?_⟩
          have y28 : Stay K H27 H28 := .of s28
          walk_at "r2"
          refine ⟨Nat.zero_le _, fun le nle => ?_⟩
          have s29 := same_new (o := .lst []) nle
          have sh3 : SeqAt.shaped (.list (h3s.map .str)) = true := shaped_LS fun n hn => (hls_ok hT17 n ((m3 n).mp hn)).sok
          refine r_eqD (d := .list (h3s.map .str)) (e := .list (([] : List Str).map .str)) (.lst (sqL (s29 _ _ hl3)) (dp_strs _)) (.lst (sqL upd_same) .nil) sh3 (by decide) ?_
          rw [eqv_LS]
          generalize upd H28 le (.lst []) = H29 at s29 ⊢
          have y29 : Stay K H28 H29 := .of s29
          have x422 : LamX.ExtN H4 H22 := ((x418.trans (LamX.ExtN.of (s19.trans s20))).trans xn21.ext).trans xn22.ext
          walk_at "r2"
          refine r_dec (fun e0 => ?_) (fun _ => ?_)
          · walk_at "r2"
            refine ⟨vt, U.led u, rfl, by walk_at "oy", g1, by omega, fun l4 n1 H30 s30 nl4 hl4 nd4 so4 m4 => ?_⟩
            have hU0 : U.hls = [] := List.eq_nil_iff_forall_not_mem.mpr fun n hn => by
              have := (m3 n).mpr hn
              rw [e0] at this
              exact nomatch this
            have eN := due_eq iu hU0 nd0 nd4 so4 m0 m4 py sy
            subst eN
            have sh4 : SeqAt.shaped (.list (n1.map .str)) = true := shaped_LS fun n hn => (nms_ok ht17 n ((m4 n).mp hn)).sok
            walk_at "r2"
            refine r_neD (.lst (sqL hl4) (dp_strs _)) (.lst (a := lS) (up_getL hS (by walk_at "st")) (dp_strs _)) sh4 sh4 ?_
            rw [SeqAt.eqv_refl _ (shaped_iff.mp sh4).1]
            walk_at "r2"
            have s2z : Same H22 H30 := by walk_at "st"
            exact ⟨_, _, _, _, _, _, _, _, _, _, _, _, rfl, seq_ext (x422.trans (LamX.ExtN.of s2z)) hs4, xn22.tab.ext s2z⟩
          · walk_at "r2"
            have s2z : Same H22 H29 := by walk_at "st"
            exact ⟨_, _, _, _, _, _, _, _, _, _, _, _, rfl, seq_ext (x422.trans (LamX.ExtN.of s2z)) hs4, xn22.tab.ext s2z⟩
    · obtain ⟨y1, y2, y3, y4, y5, y6, y7, y8, y9, y10, y11, y12, rfl, _⟩ := hP
      walk_at "r2"
      exact q _
end
end Pf

namespace Pf
open PySem PySem.Spec PyProof.Rows L2
theorem all_mk {l : PySem.W.OpenLaw} {w : World} {K : PySem.W.Frag} {h : Heap} {mg : Str → Option Value} {fa : Addr} (X : K.In h) (G : h.Ns mainGlobals mg) (hfa : mg "law" = some (.ref fa))
    {od0 an0 : Option Addr} {sl0 : Array (Option Value)} {f0 : Addr} {oc0 kV0 dc0 pm0 cd0 ct0 : Value}
    (a0 : PySem.W.nsIn K mainGlobals "is_word" = some (some (.ref f0))) (l0 : K.lookup f0 = some ⟨oc0, od0, .func (PySem.W.fnOf "is_word" "is_word" (defArgs s_is_word) (defBody s_is_word) (defScope s_is_word) .none kV0 dc0 pm0 an0 cd0 ct0), sl0⟩) (c0 : PySem.W.codeIn K cd0 "is_word" = true) (k0 : PySem.W.keepIn K (.ref f0) = true)
    {od1 an1 : Option Addr} {sl1 : Array (Option Value)} {f1 : Addr} {oc1 kV1 dc1 pm1 cd1 ct1 : Value}
    (a1 : PySem.W.nsIn K mainGlobals "is_name" = some (some (.ref f1))) (l1 : K.lookup f1 = some ⟨oc1, od1, .func (PySem.W.fnOf "is_name" "is_name" (defArgs s_is_name) (defBody s_is_name) (defScope s_is_name) .none kV1 dc1 pm1 an1 cd1 ct1), sl1⟩) (c1 : PySem.W.codeIn K cd1 "is_name" = true) (k1 : PySem.W.keepIn K (.ref f1) = true)
    {od2 an2 : Option Addr} {sl2 : Array (Option Value)} {f2 : Addr} {oc2 kV2 dc2 pm2 cd2 ct2 : Value}
    (a2 : PySem.W.nsIn K mainGlobals "is_hole" = some (some (.ref f2))) (l2 : K.lookup f2 = some ⟨oc2, od2, .func (PySem.W.fnOf "is_hole" "is_hole" (defArgs s_is_hole) (defBody s_is_hole) (defScope s_is_hole) .none kV2 dc2 pm2 an2 cd2 ct2), sl2⟩) (c2 : PySem.W.codeIn K cd2 "is_hole" = true) (k2 : PySem.W.keepIn K (.ref f2) = true)
    {od3 an3 : Option Addr} {sl3 : Array (Option Value)} {f3 : Addr} {oc3 kV3 dc3 pm3 cd3 ct3 : Value}
    (a3 : PySem.W.nsIn K mainGlobals "is_number" = some (some (.ref f3))) (l3 : K.lookup f3 = some ⟨oc3, od3, .func (PySem.W.fnOf "is_number" "is_number" (defArgs s_is_number) (defBody s_is_number) (defScope s_is_number) .none kV3 dc3 pm3 an3 cd3 ct3), sl3⟩) (c3 : PySem.W.codeIn K cd3 "is_number" = true) (k3 : PySem.W.keepIn K (.ref f3) = true)
    {od4 an4 : Option Addr} {sl4 : Array (Option Value)} {f4 : Addr} {oc4 kV4 dc4 pm4 cd4 ct4 : Value}
    (a4 : PySem.W.nsIn K mainGlobals "rises" = some (some (.ref f4))) (l4 : K.lookup f4 = some ⟨oc4, od4, .func (PySem.W.fnOf "rises" "rises" (defArgs s_rises) (defBody s_rises) (defScope s_rises) .none kV4 dc4 pm4 an4 cd4 ct4), sl4⟩) (c4 : PySem.W.codeIn K cd4 "rises" = true) (k4 : PySem.W.keepIn K (.ref f4) = true)
    {od5 an5 : Option Addr} {sl5 : Array (Option Value)} {f5 : Addr} {oc5 kV5 dc5 pm5 cd5 ct5 : Value}
    (a5 : PySem.W.nsIn K mainGlobals "within" = some (some (.ref f5))) (l5 : K.lookup f5 = some ⟨oc5, od5, .func (PySem.W.fnOf "within" "within" (defArgs s_within) (defBody s_within) (defScope s_within) .none kV5 dc5 pm5 an5 cd5 ct5), sl5⟩) (c5 : PySem.W.codeIn K cd5 "within" = true) (k5 : PySem.W.keepIn K (.ref f5) = true)
    {od6 an6 : Option Addr} {sl6 : Array (Option Value)} {f6 : Addr} {oc6 kV6 dc6 pm6 cd6 ct6 : Value}
    (a6 : PySem.W.nsIn K mainGlobals "with_parts" = some (some (.ref f6))) (l6 : K.lookup f6 = some ⟨oc6, od6, .func (PySem.W.fnOf "with_parts" "with_parts" (defArgs s_with_parts) (defBody s_with_parts) (defScope s_with_parts) .none kV6 dc6 pm6 an6 cd6 ct6), sl6⟩) (c6 : PySem.W.codeIn K cd6 "with_parts" = true) (k6 : PySem.W.keepIn K (.ref f6) = true)
    {od7 an7 : Option Addr} {sl7 : Array (Option Value)} {f7 : Addr} {oc7 kV7 dc7 pm7 cd7 ct7 : Value}
    (a7 : PySem.W.nsIn K mainGlobals "rows_of" = some (some (.ref f7))) (l7 : K.lookup f7 = some ⟨oc7, od7, .func (PySem.W.fnOf "rows_of" "rows_of" (defArgs s_rows_of) (defBody s_rows_of) (defScope s_rows_of) .none kV7 dc7 pm7 an7 cd7 ct7), sl7⟩) (c7 : PySem.W.codeIn K cd7 "rows_of" = true) (k7 : PySem.W.keepIn K (.ref f7) = true)
    {od8 an8 : Option Addr} {sl8 : Array (Option Value)} {f8 : Addr} {oc8 kV8 dc8 pm8 cd8 ct8 : Value}
    (a8 : PySem.W.nsIn K mainGlobals "parts_in" = some (some (.ref f8))) (l8 : K.lookup f8 = some ⟨oc8, od8, .func (PySem.W.fnOf "parts_in" "parts_in" (defArgs s_parts_in) (defBody s_parts_in) (defScope s_parts_in) .none kV8 dc8 pm8 an8 cd8 ct8), sl8⟩) (c8 : PySem.W.codeIn K cd8 "parts_in" = true) (k8 : PySem.W.keepIn K (.ref f8) = true)
    {od9 an9 : Option Addr} {sl9 : Array (Option Value)} {f9 : Addr} {oc9 kV9 dc9 pm9 cd9 ct9 : Value}
    (a9 : PySem.W.nsIn K mainGlobals "places_in" = some (some (.ref f9))) (l9 : K.lookup f9 = some ⟨oc9, od9, .func (PySem.W.fnOf "places_in" "places_in" (defArgs s_places_in) (defBody s_places_in) (defScope s_places_in) .none kV9 dc9 pm9 an9 cd9 ct9), sl9⟩) (c9 : PySem.W.codeIn K cd9 "places_in" = true) (k9 : PySem.W.keepIn K (.ref f9) = true)
    {od10 an10 : Option Addr} {sl10 : Array (Option Value)} {f10 : Addr} {oc10 kV10 dc10 pm10 cd10 ct10 : Value}
    (a10 : PySem.W.nsIn K mainGlobals "rebuilt" = some (some (.ref f10))) (l10 : K.lookup f10 = some ⟨oc10, od10, .func (PySem.W.fnOf "rebuilt" "rebuilt" (defArgs s_rebuilt) (defBody s_rebuilt) (defScope s_rebuilt) .none kV10 dc10 pm10 an10 cd10 ct10), sl10⟩) (c10 : PySem.W.codeIn K cd10 "rebuilt" = true) (k10 : PySem.W.keepIn K (.ref f10) = true)
    {od11 an11 : Option Addr} {sl11 : Array (Option Value)} {f11 : Addr} {oc11 kV11 dc11 pm11 ct11 : Value} {cc11 : Addr}
    (a11 : PySem.W.nsIn K mainGlobals "changed" = some (some (.ref f11))) (l11 : K.lookup f11 = some ⟨oc11, od11, .func (PySem.W.fnOf "changed" "changed" (defArgs s_changed) (defBody s_changed) (defScope s_changed) .none kV11 dc11 pm11 an11 (.ref cc11) ct11), sl11⟩) (c11 : PySem.W.codeIn K (.ref cc11) "changed" = true) (k11 : PySem.W.keepIn K (.ref f11) = true)
    {od12 an12 : Option Addr} {sl12 : Array (Option Value)} {f12 : Addr} {oc12 kV12 dc12 pm12 cd12 ct12 : Value}
    (a12 : PySem.W.nsIn K mainGlobals "is_move" = some (some (.ref f12))) (l12 : K.lookup f12 = some ⟨oc12, od12, .func (PySem.W.fnOf "is_move" "is_move" (defArgs s_is_move) (defBody s_is_move) (defScope s_is_move) .none kV12 dc12 pm12 an12 cd12 ct12), sl12⟩) (c12 : PySem.W.codeIn K cd12 "is_move" = true) (k12 : PySem.W.keepIn K (.ref f12) = true)
    {od13 an13 : Option Addr} {sl13 : Array (Option Value)} {f13 : Addr} {oc13 kV13 dc13 pm13 cd13 ct13 : Value}
    (a13 : PySem.W.nsIn K mainGlobals "is_turn" = some (some (.ref f13))) (l13 : K.lookup f13 = some ⟨oc13, od13, .func (PySem.W.fnOf "is_turn" "is_turn" (defArgs s_is_turn) (defBody s_is_turn) (defScope s_is_turn) .none kV13 dc13 pm13 an13 cd13 ct13), sl13⟩) (c13 : PySem.W.codeIn K cd13 "is_turn" = true) (k13 : PySem.W.keepIn K (.ref f13) = true)
    {od14 an14 : Option Addr} {sl14 : Array (Option Value)} {f14 : Addr} {oc14 kV14 dc14 pm14 cd14 ct14 : Value}
    (a14 : PySem.W.nsIn K mainGlobals "check_turn" = some (some (.ref f14))) (l14 : K.lookup f14 = some ⟨oc14, od14, .func (PySem.W.fnOf "check_turn" "check_turn" (defArgs s_check_turn) (defBody s_check_turn) (defScope s_check_turn) .none kV14 dc14 pm14 an14 cd14 ct14), sl14⟩) (c14 : PySem.W.codeIn K cd14 "check_turn" = true) (k14 : PySem.W.keepIn K (.ref f14) = true)
    {od15 an15 : Option Addr} {sl15 : Array (Option Value)} {f15 : Addr} {oc15 kV15 dc15 pm15 cd15 ct15 : Value}
    (a15 : PySem.W.nsIn K mainGlobals "turn_from" = some (some (.ref f15))) (l15 : K.lookup f15 = some ⟨oc15, od15, .func (PySem.W.fnOf "turn_from" "turn_from" (defArgs s_turn_from) (defBody s_turn_from) (defScope s_turn_from) .none kV15 dc15 pm15 an15 cd15 ct15), sl15⟩) (c15 : PySem.W.codeIn K cd15 "turn_from" = true) (k15 : PySem.W.keepIn K (.ref f15) = true)
    {od16 an16 : Option Addr} {sl16 : Array (Option Value)} {f16 : Addr} {oc16 kV16 dc16 pm16 cd16 ct16 : Value}
    (a16 : PySem.W.nsIn K mainGlobals "joined" = some (some (.ref f16))) (l16 : K.lookup f16 = some ⟨oc16, od16, .func (PySem.W.fnOf "joined" "joined" (defArgs s_joined) (defBody s_joined) (defScope s_joined) .none kV16 dc16 pm16 an16 cd16 ct16), sl16⟩) (c16 : PySem.W.codeIn K cd16 "joined" = true) (k16 : PySem.W.keepIn K (.ref f16) = true)
    {od17 an17 : Option Addr} {sl17 : Array (Option Value)} {f17 : Addr} {oc17 kV17 dc17 pm17 cd17 ct17 : Value}
    (a17 : PySem.W.nsIn K mainGlobals "is_part" = some (some (.ref f17))) (l17 : K.lookup f17 = some ⟨oc17, od17, .func (PySem.W.fnOf "is_part" "is_part" (defArgs s_is_part) (defBody s_is_part) (defScope s_is_part) .none kV17 dc17 pm17 an17 cd17 ct17), sl17⟩) (c17 : PySem.W.codeIn K cd17 "is_part" = true) (k17 : PySem.W.keepIn K (.ref f17) = true)
    {od18 an18 : Option Addr} {sl18 : Array (Option Value)} {f18 : Addr} {oc18 kV18 dc18 pm18 cd18 ct18 : Value}
    (a18 : PySem.W.nsIn K mainGlobals "is_term" = some (some (.ref f18))) (l18 : K.lookup f18 = some ⟨oc18, od18, .func (PySem.W.fnOf "is_term" "is_term" (defArgs s_is_term) (defBody s_is_term) (defScope s_is_term) .none kV18 dc18 pm18 an18 cd18 ct18), sl18⟩) (c18 : PySem.W.codeIn K cd18 "is_term" = true) (k18 : PySem.W.keepIn K (.ref f18) = true)
    {od19 an19 : Option Addr} {sl19 : Array (Option Value)} {f19 : Addr} {oc19 kV19 dc19 pm19 cd19 ct19 : Value}
    (a19 : PySem.W.nsIn K mainGlobals "check_term" = some (some (.ref f19))) (l19 : K.lookup f19 = some ⟨oc19, od19, .func (PySem.W.fnOf "check_term" "check_term" (defArgs s_check_term) (defBody s_check_term) (defScope s_check_term) .none kV19 dc19 pm19 an19 cd19 ct19), sl19⟩) (c19 : PySem.W.codeIn K cd19 "check_term" = true) (k19 : PySem.W.keepIn K (.ref f19) = true)
    {od20 an20 : Option Addr} {sl20 : Array (Option Value)} {f20 : Addr} {oc20 kV20 dc20 pm20 cd20 ct20 : Value}
    (a20 : PySem.W.nsIn K mainGlobals "parts_of" = some (some (.ref f20))) (l20 : K.lookup f20 = some ⟨oc20, od20, .func (PySem.W.fnOf "parts_of" "parts_of" (defArgs s_parts_of) (defBody s_parts_of) (defScope s_parts_of) .none kV20 dc20 pm20 an20 cd20 ct20), sl20⟩) (c20 : PySem.W.codeIn K cd20 "parts_of" = true) (k20 : PySem.W.keepIn K (.ref f20) = true)
    {od21 an21 : Option Addr} {sl21 : Array (Option Value)} {f21 : Addr} {oc21 kV21 dc21 pm21 cd21 ct21 : Value}
    (a21 : PySem.W.nsIn K mainGlobals "levels_of" = some (some (.ref f21))) (l21 : K.lookup f21 = some ⟨oc21, od21, .func (PySem.W.fnOf "levels_of" "levels_of" (defArgs s_levels_of) (defBody s_levels_of) (defScope s_levels_of) .none kV21 dc21 pm21 an21 cd21 ct21), sl21⟩) (c21 : PySem.W.codeIn K cd21 "levels_of" = true) (k21 : PySem.W.keepIn K (.ref f21) = true)
    {od22 an22 : Option Addr} {sl22 : Array (Option Value)} {f22 : Addr} {oc22 kV22 dc22 pm22 cd22 ct22 : Value}
    (a22 : PySem.W.nsIn K mainGlobals "names_at" = some (some (.ref f22))) (l22 : K.lookup f22 = some ⟨oc22, od22, .func (PySem.W.fnOf "names_at" "names_at" (defArgs s_names_at) (defBody s_names_at) (defScope s_names_at) .none kV22 dc22 pm22 an22 cd22 ct22), sl22⟩) (c22 : PySem.W.codeIn K cd22 "names_at" = true) (k22 : PySem.W.keepIn K (.ref f22) = true)
    {od23 an23 : Option Addr} {sl23 : Array (Option Value)} {f23 : Addr} {oc23 kV23 dc23 pm23 cd23 ct23 : Value}
    (a23 : PySem.W.nsIn K mainGlobals "names_in" = some (some (.ref f23))) (l23 : K.lookup f23 = some ⟨oc23, od23, .func (PySem.W.fnOf "names_in" "names_in" (defArgs s_names_in) (defBody s_names_in) (defScope s_names_in) .none kV23 dc23 pm23 an23 cd23 ct23), sl23⟩) (c23 : PySem.W.codeIn K cd23 "names_in" = true) (k23 : PySem.W.keepIn K (.ref f23) = true)
    {od24 an24 : Option Addr} {sl24 : Array (Option Value)} {f24 : Addr} {oc24 kV24 dc24 pm24 cd24 ct24 : Value}
    (a24 : PySem.W.nsIn K mainGlobals "holes_within" = some (some (.ref f24))) (l24 : K.lookup f24 = some ⟨oc24, od24, .func (PySem.W.fnOf "holes_within" "holes_within" (defArgs s_holes_within) (defBody s_holes_within) (defScope s_holes_within) .none kV24 dc24 pm24 an24 cd24 ct24), sl24⟩) (c24 : PySem.W.codeIn K cd24 "holes_within" = true) (k24 : PySem.W.keepIn K (.ref f24) = true)
    {od25 an25 : Option Addr} {sl25 : Array (Option Value)} {f25 : Addr} {oc25 kV25 dc25 pm25 cd25 ct25 : Value}
    (a25 : PySem.W.nsIn K mainGlobals "holes_in" = some (some (.ref f25))) (l25 : K.lookup f25 = some ⟨oc25, od25, .func (PySem.W.fnOf "holes_in" "holes_in" (defArgs s_holes_in) (defBody s_holes_in) (defScope s_holes_in) .none kV25 dc25 pm25 an25 cd25 ct25), sl25⟩) (c25 : PySem.W.codeIn K cd25 "holes_in" = true) (k25 : PySem.W.keepIn K (.ref f25) = true)
    {od26 an26 : Option Addr} {sl26 : Array (Option Value)} {f26 : Addr} {oc26 kV26 dc26 pm26 cd26 ct26 : Value}
    (a26 : PySem.W.nsIn K mainGlobals "places_of" = some (some (.ref f26))) (l26 : K.lookup f26 = some ⟨oc26, od26, .func (PySem.W.fnOf "places_of" "places_of" (defArgs s_places_of) (defBody s_places_of) (defScope s_places_of) .none kV26 dc26 pm26 an26 cd26 ct26), sl26⟩) (c26 : PySem.W.codeIn K cd26 "places_of" = true) (k26 : PySem.W.keepIn K (.ref f26) = true)
    {od27 an27 : Option Addr} {sl27 : Array (Option Value)} {f27 : Addr} {oc27 kV27 dc27 pm27 cd27 ct27 : Value}
    (a27 : PySem.W.nsIn K mainGlobals "parts_down" = some (some (.ref f27))) (l27 : K.lookup f27 = some ⟨oc27, od27, .func (PySem.W.fnOf "parts_down" "parts_down" (defArgs s_parts_down) (defBody s_parts_down) (defScope s_parts_down) .none kV27 dc27 pm27 an27 cd27 ct27), sl27⟩) (c27 : PySem.W.codeIn K cd27 "parts_down" = true) (k27 : PySem.W.keepIn K (.ref f27) = true)
    {od28 an28 : Option Addr} {sl28 : Array (Option Value)} {f28 : Addr} {oc28 kV28 dc28 pm28 cd28 ct28 : Value}
    (a28 : PySem.W.nsIn K mainGlobals "part_at" = some (some (.ref f28))) (l28 : K.lookup f28 = some ⟨oc28, od28, .func (PySem.W.fnOf "part_at" "part_at" (defArgs s_part_at) (defBody s_part_at) (defScope s_part_at) .none kV28 dc28 pm28 an28 cd28 ct28), sl28⟩) (c28 : PySem.W.codeIn K cd28 "part_at" = true) (k28 : PySem.W.keepIn K (.ref f28) = true)
    {od29 an29 : Option Addr} {sl29 : Array (Option Value)} {f29 : Addr} {oc29 kV29 dc29 pm29 cd29 ct29 : Value}
    (a29 : PySem.W.nsIn K mainGlobals "put_down" = some (some (.ref f29))) (l29 : K.lookup f29 = some ⟨oc29, od29, .func (PySem.W.fnOf "put_down" "put_down" (defArgs s_put_down) (defBody s_put_down) (defScope s_put_down) .none kV29 dc29 pm29 an29 cd29 ct29), sl29⟩) (c29 : PySem.W.codeIn K cd29 "put_down" = true) (k29 : PySem.W.keepIn K (.ref f29) = true)
    {od30 an30 : Option Addr} {sl30 : Array (Option Value)} {f30 : Addr} {oc30 kV30 dc30 pm30 cd30 ct30 : Value}
    (a30 : PySem.W.nsIn K mainGlobals "put_at" = some (some (.ref f30))) (l30 : K.lookup f30 = some ⟨oc30, od30, .func (PySem.W.fnOf "put_at" "put_at" (defArgs s_put_at) (defBody s_put_at) (defScope s_put_at) .none kV30 dc30 pm30 an30 cd30 ct30), sl30⟩) (c30 : PySem.W.codeIn K cd30 "put_at" = true) (k30 : PySem.W.keepIn K (.ref f30) = true)
    {od31 an31 : Option Addr} {sl31 : Array (Option Value)} {f31 : Addr} {oc31 kV31 dc31 pm31 cd31 ct31 : Value}
    (a31 : PySem.W.nsIn K mainGlobals "turned_part" = some (some (.ref f31))) (l31 : K.lookup f31 = some ⟨oc31, od31, .func (PySem.W.fnOf "turned_part" "turned_part" (defArgs s_turned_part) (defBody s_turned_part) (defScope s_turned_part) .none kV31 dc31 pm31 an31 cd31 ct31), sl31⟩) (c31 : PySem.W.codeIn K cd31 "turned_part" = true) (k31 : PySem.W.keepIn K (.ref f31) = true)
    {od32 an32 : Option Addr} {sl32 : Array (Option Value)} {f32 : Addr} {oc32 kV32 dc32 pm32 ct32 : Value} {cc32 : Addr}
    (a32 : PySem.W.nsIn K mainGlobals "turned" = some (some (.ref f32))) (l32 : K.lookup f32 = some ⟨oc32, od32, .func (PySem.W.fnOf "turned" "turned" (defArgs s_turned) (defBody s_turned) (defScope s_turned) .none kV32 dc32 pm32 an32 (.ref cc32) ct32), sl32⟩) (c32 : PySem.W.codeIn K (.ref cc32) "turned" = true) (k32 : PySem.W.keepIn K (.ref f32) = true)
    {od33 an33 : Option Addr} {sl33 : Array (Option Value)} {f33 : Addr} {oc33 kV33 dc33 pm33 cd33 ct33 : Value}
    (a33 : PySem.W.nsIn K mainGlobals "turned_term" = some (some (.ref f33))) (l33 : K.lookup f33 = some ⟨oc33, od33, .func (PySem.W.fnOf "turned_term" "turned_term" (defArgs s_turned_term) (defBody s_turned_term) (defScope s_turned_term) .none kV33 dc33 pm33 an33 cd33 ct33), sl33⟩) (c33 : PySem.W.codeIn K cd33 "turned_term" = true) (k33 : PySem.W.keepIn K (.ref f33) = true)
    {od34 an34 : Option Addr} {sl34 : Array (Option Value)} {f34 : Addr} {oc34 kV34 dc34 pm34 cd34 ct34 : Value}
    (a34 : PySem.W.nsIn K mainGlobals "_law_mixed" = some (some (.ref f34))) (l34 : K.lookup f34 = some ⟨oc34, od34, .func (PySem.W.fnOf "_law_mixed" "_law_mixed" (defArgs s__law_mixed) (defBody s__law_mixed) (defScope s__law_mixed) .none kV34 dc34 pm34 an34 cd34 ct34), sl34⟩) (c34 : PySem.W.codeIn K cd34 "_law_mixed" = true) (k34 : PySem.W.keepIn K (.ref f34) = true)
    {od35 an35 : Option Addr} {sl35 : Array (Option Value)} {f35 : Addr} {oc35 kV35 dc35 pm35 cd35 ct35 : Value}
    (a35 : PySem.W.nsIn K mainGlobals "_law_pile" = some (some (.ref f35))) (l35 : K.lookup f35 = some ⟨oc35, od35, .func (PySem.W.fnOf "_law_pile" "_law_pile" (defArgs s__law_pile) (defBody s__law_pile) (defScope s__law_pile) .none kV35 dc35 pm35 an35 cd35 ct35), sl35⟩) (c35 : PySem.W.codeIn K cd35 "_law_pile" = true) (k35 : PySem.W.keepIn K (.ref f35) = true)
    {od36 an36 : Option Addr} {sl36 : Array (Option Value)} {f36 : Addr} {oc36 kV36 dc36 pm36 cd36 ct36 : Value}
    (a36 : PySem.W.nsIn K mainGlobals "_law_take" = some (some (.ref f36))) (l36 : K.lookup f36 = some ⟨oc36, od36, .func (PySem.W.fnOf "_law_take" "_law_take" (defArgs s__law_take) (defBody s__law_take) (defScope s__law_take) .none kV36 dc36 pm36 an36 cd36 ct36), sl36⟩) (c36 : PySem.W.codeIn K cd36 "_law_take" = true) (k36 : PySem.W.keepIn K (.ref f36) = true)
    {od37 an37 : Option Addr} {sl37 : Array (Option Value)} {f37 : Addr} {oc37 kV37 dc37 pm37 cd37 ct37 : Value}
    (a37 : PySem.W.nsIn K mainGlobals "_law_name" = some (some (.ref f37))) (l37 : K.lookup f37 = some ⟨oc37, od37, .func (PySem.W.fnOf "_law_name" "_law_name" (defArgs s__law_name) (defBody s__law_name) (defScope s__law_name) .none kV37 dc37 pm37 an37 cd37 ct37), sl37⟩) (c37 : PySem.W.codeIn K cd37 "_law_name" = true) (k37 : PySem.W.keepIn K (.ref f37) = true)
    {od38 an38 : Option Addr} {sl38 : Array (Option Value)} {f38 : Addr} {oc38 kV38 dc38 pm38 cd38 ct38 : Value}
    (a38 : PySem.W.nsIn K mainGlobals "_law_names" = some (some (.ref f38))) (l38 : K.lookup f38 = some ⟨oc38, od38, .func (PySem.W.fnOf "_law_names" "_law_names" (defArgs s__law_names) (defBody s__law_names) (defScope s__law_names) .none kV38 dc38 pm38 an38 cd38 ct38), sl38⟩) (c38 : PySem.W.codeIn K cd38 "_law_names" = true) (k38 : PySem.W.keepIn K (.ref f38) = true)
    {od39 an39 : Option Addr} {sl39 : Array (Option Value)} {f39 : Addr} {oc39 kV39 dc39 pm39 cd39 ct39 : Value}
    (a39 : PySem.W.nsIn K mainGlobals "_law_order" = some (some (.ref f39))) (l39 : K.lookup f39 = some ⟨oc39, od39, .func (PySem.W.fnOf "_law_order" "_law_order" (defArgs s__law_order) (defBody s__law_order) (defScope s__law_order) .none kV39 dc39 pm39 an39 cd39 ct39), sl39⟩) (c39 : PySem.W.codeIn K cd39 "_law_order" = true) (k39 : PySem.W.keepIn K (.ref f39) = true)
    {od40 an40 : Option Addr} {sl40 : Array (Option Value)} {f40 : Addr} {oc40 kV40 dc40 pm40 cd40 ct40 : Value}
    (a40 : PySem.W.nsIn K mainGlobals "_law_turn" = some (some (.ref f40))) (l40 : K.lookup f40 = some ⟨oc40, od40, .func (PySem.W.fnOf "_law_turn" "_law_turn" (defArgs s__law_turn) (defBody s__law_turn) (defScope s__law_turn) .none kV40 dc40 pm40 an40 cd40 ct40), sl40⟩) (c40 : PySem.W.codeIn K cd40 "_law_turn" = true) (k40 : PySem.W.keepIn K (.ref f40) = true)
    {od41 an41 : Option Addr} {sl41 : Array (Option Value)} {f41 : Addr} {oc41 kV41 dc41 pm41 cd41 ct41 : Value}
    (a41 : PySem.W.nsIn K mainGlobals "_law_to" = some (some (.ref f41))) (l41 : K.lookup f41 = some ⟨oc41, od41, .func (PySem.W.fnOf "_law_to" "_law_to" (defArgs s__law_to) (defBody s__law_to) (defScope s__law_to) .none kV41 dc41 pm41 an41 cd41 ct41), sl41⟩) (c41 : PySem.W.codeIn K cd41 "_law_to" = true) (k41 : PySem.W.keepIn K (.ref f41) = true)
    {od42 an42 : Option Addr} {sl42 : Array (Option Value)} {f42 : Addr} {oc42 kV42 dc42 pm42 cd42 ct42 : Value}
    (a42 : PySem.W.nsIn K mainGlobals "_law_holes" = some (some (.ref f42))) (l42 : K.lookup f42 = some ⟨oc42, od42, .func (PySem.W.fnOf "_law_holes" "_law_holes" (defArgs s__law_holes) (defBody s__law_holes) (defScope s__law_holes) .none kV42 dc42 pm42 an42 cd42 ct42), sl42⟩) (c42 : PySem.W.codeIn K cd42 "_law_holes" = true) (k42 : PySem.W.keepIn K (.ref f42) = true)
    {od43 an43 : Option Addr} {sl43 : Array (Option Value)} {f43 : Addr} {oc43 kV43 dc43 pm43 cd43 ct43 : Value}
    (a43 : PySem.W.nsIn K mainGlobals "_law_sign" = some (some (.ref f43))) (l43 : K.lookup f43 = some ⟨oc43, od43, .func (PySem.W.fnOf "_law_sign" "_law_sign" (defArgs s__law_sign) (defBody s__law_sign) (defScope s__law_sign) .none kV43 dc43 pm43 an43 cd43 ct43), sl43⟩) (c43 : PySem.W.codeIn K cd43 "_law_sign" = true) (k43 : PySem.W.keepIn K (.ref f43) = true)
    {od44 an44 : Option Addr} {sl44 : Array (Option Value)} {f44 : Addr} {oc44 kV44 dc44 pm44 cd44 ct44 : Value}
    (a44 : PySem.W.nsIn K mainGlobals "_law_term" = some (some (.ref f44))) (l44 : K.lookup f44 = some ⟨oc44, od44, .func (PySem.W.fnOf "_law_term" "_law_term" (defArgs s__law_term) (defBody s__law_term) (defScope s__law_term) .none kV44 dc44 pm44 an44 cd44 ct44), sl44⟩) (c44 : PySem.W.codeIn K cd44 "_law_term" = true) (k44 : PySem.W.keepIn K (.ref f44) = true)
    {od45 an45 : Option Addr} {sl45 : Array (Option Value)} {f45 : Addr} {oc45 kV45 dc45 pm45 cd45 ct45 : Value}
    (a45 : PySem.W.nsIn K mainGlobals "_law_any" = some (some (.ref f45))) (l45 : K.lookup f45 = some ⟨oc45, od45, .func (PySem.W.fnOf "_law_any" "_law_any" (defArgs s__law_any) (defBody s__law_any) (defScope s__law_any) .none kV45 dc45 pm45 an45 cd45 ct45), sl45⟩) (c45 : PySem.W.codeIn K cd45 "_law_any" = true) (k45 : PySem.W.keepIn K (.ref f45) = true)
    {od46 an46 : Option Addr} {sl46 : Array (Option Value)} {f46 : Addr} {oc46 kV46 dc46 pm46 cd46 ct46 : Value}
    (a46 : PySem.W.nsIn K mainGlobals "_law_in" = some (some (.ref f46))) (l46 : K.lookup f46 = some ⟨oc46, od46, .func (PySem.W.fnOf "_law_in" "_law_in" (defArgs s__law_in) (defBody s__law_in) (defScope s__law_in) .none kV46 dc46 pm46 an46 cd46 ct46), sl46⟩) (c46 : PySem.W.codeIn K cd46 "_law_in" = true) (k46 : PySem.W.keepIn K (.ref f46) = true)
    {od47 an47 : Option Addr} {sl47 : Array (Option Value)} {f47 : Addr} {oc47 kV47 dc47 pm47 cd47 ct47 : Value}
    (a47 : PySem.W.nsIn K mainGlobals "_law_sums" = some (some (.ref f47))) (l47 : K.lookup f47 = some ⟨oc47, od47, .func (PySem.W.fnOf "_law_sums" "_law_sums" (defArgs s__law_sums) (defBody s__law_sums) (defScope s__law_sums) .none kV47 dc47 pm47 an47 cd47 ct47), sl47⟩) (c47 : PySem.W.codeIn K cd47 "_law_sums" = true) (k47 : PySem.W.keepIn K (.ref f47) = true)
    {od48 an48 : Option Addr} {sl48 : Array (Option Value)} {f48 : Addr} {oc48 kV48 dc48 pm48 cd48 ct48 : Value}
    (a48 : PySem.W.nsIn K mainGlobals "_law_put_right" = some (some (.ref f48))) (l48 : K.lookup f48 = some ⟨oc48, od48, .func (PySem.W.fnOf "_law_put_right" "_law_put_right" (defArgs s__law_put_right) (defBody s__law_put_right) (defScope s__law_put_right) .none kV48 dc48 pm48 an48 cd48 ct48), sl48⟩) (c48 : PySem.W.codeIn K cd48 "_law_put_right" = true) (k48 : PySem.W.keepIn K (.ref f48) = true)
    {od49 an49 : Option Addr} {sl49 : Array (Option Value)} {f49 : Addr} {oc49 kV49 dc49 pm49 cd49 ct49 : Value}
    (a49 : PySem.W.nsIn K mainGlobals "law" = some (some (.ref f49))) (l49 : K.lookup f49 = some ⟨oc49, od49, .func (PySem.W.fnOf "law" "law" (defArgs s_law) (defBody s_law) (defScope s_law) .none kV49 dc49 pm49 an49 cd49 ct49), sl49⟩) (c49 : PySem.W.codeIn K cd49 "law" = true) (k49 : PySem.W.keepIn K (.ref f49) = true)
    {t0 : Tok} (v0 : PySem.W.nsIn K mainGlobals "SMALL_LETTERS" = some (some (.str ("abcdefghijklmnopqrstuvwxyz" : Str) t0)))
    {t1 : Tok} (v1 : PySem.W.nsIn K mainGlobals "GREAT_LETTERS" = some (some (.str ("ABCDEFGHIJKLMNOPQRSTUVWXYZ" : Str) t1)))
    {t2 : Tok} (v2 : PySem.W.nsIn K mainGlobals "FIGURES" = some (some (.str ("0123456789" : Str) t2)))
    {t3 : Tok} (v3 : PySem.W.nsIn K mainGlobals "MOST_SIGNS" = some (some (.int 8 t3)))
    {C0 : Addr} (q0 : PySem.W.nsIn K mainGlobals "ShutError" = some (some (.ref C0))) (x0 : PySem.W.excIn K C0 [.type "ValueError", .type "Exception", .type "BaseException", .type "object"] "ValueError.__new__" = true) (p0 : PySem.W.keepIn K (.ref C0) = true) (e0 : PySem.W.subIn K (.ref C0) (.type "BaseException") = some true) (y0 : PySem.W.typeIn K (.ref C0) = some (.type "type")) (i0 : PySem.W.isClsIn K C0 = true) (s0 : PySem.W.subIn K (.ref C0) (.ref C0) = some true)
    {C1 : Addr} (q1 : PySem.W.nsIn K mainGlobals "NoTurn" = some (some (.ref C1))) (x1 : PySem.W.excIn K C1 [.type "ValueError", .type "Exception", .type "BaseException", .type "object"] "ValueError.__new__" = true) (p1 : PySem.W.keepIn K (.ref C1) = true) (e1 : PySem.W.subIn K (.ref C1) (.type "BaseException") = some true) (y1 : PySem.W.typeIn K (.ref C1) = some (.type "type")) (i1 : PySem.W.isClsIn K C1 = true) (s1 : PySem.W.subIn K (.ref C1) (.ref C1) = some true)
    {C2 : Addr} (q2 : PySem.W.nsIn K mainGlobals "NoTerm" = some (some (.ref C2))) (x2 : PySem.W.excIn K C2 [.type "ValueError", .type "Exception", .type "BaseException", .type "object"] "ValueError.__new__" = true) (p2 : PySem.W.keepIn K (.ref C2) = true) (e2 : PySem.W.subIn K (.ref C2) (.type "BaseException") = some true) (y2 : PySem.W.typeIn K (.ref C2) = some (.type "type")) (i2 : PySem.W.isClsIn K C2 = true) (s2 : PySem.W.subIn K (.ref C2) (.ref C2) = some true)
    {C3 : Addr} (q3 : PySem.W.nsIn K mainGlobals "NoPlace" = some (some (.ref C3))) (x3 : OexC K C3) (p3 : PySem.W.keepIn K (.ref C3) = true) (e3 : PySem.W.subIn K (.ref C3) (.type "BaseException") = some true) (y3 : PySem.W.typeIn K (.ref C3) = some (.type "type")) (i3 : PySem.W.isClsIn K C3 = true) (s3 : PySem.W.subIn K (.ref C3) (.ref C3) = some true)
    {od50 an50 : Option Addr} {sl50 : Array (Option Value)} {f50 : Addr} {oc50 kV50 dc50 pm50 cd50 ct50 : Value}
    (h50 : PySem.W.findIn K (.ref C3) "__init__" = some (some (.ref f50))) (l50 : K.lookup f50 = some ⟨oc50, od50, .func (PySem.W.fnOf "__init__" "NoPlace.__init__" (defArgs s_NoPlace___init__) (defBody s_NoPlace___init__) (defScope s_NoPlace___init__) .none kV50 dc50 pm50 an50 cd50 ct50), sl50⟩) (c50 : PySem.W.codeIn K cd50 "NoPlace.__init__" = true) (k50 : PySem.W.keepIn K (.ref f50) = true) (w50 : PySem.W.typeIn K (.ref f50) = some (.type "function"))
    (d3_place : PySem.W.findIn K (.ref C3) "place" = some none)
    (m0 : ClX.CRead K C0 (.type "type")) (n0 : PySem.W.findCls K (.ref C0) (.type "type") "__init__" = some (.val (.builtin "ValueError.__init__")))
    (z0 : PySem.W.nsIn K mainGlobals "abs" = some none)
    (z1 : PySem.W.nsIn K mainGlobals "all" = some none)
    (z2 : PySem.W.nsIn K mainGlobals "bool" = some none)
    (z3 : PySem.W.nsIn K mainGlobals "dict" = some none)
    (z4 : PySem.W.nsIn K mainGlobals "enumerate" = some none)
    (z5 : PySem.W.nsIn K mainGlobals "int" = some none)
    (z6 : PySem.W.nsIn K mainGlobals "isinstance" = some none)
    (z7 : PySem.W.nsIn K mainGlobals "len" = some none)
    (z8 : PySem.W.nsIn K mainGlobals "list" = some none)
    (z9 : PySem.W.nsIn K mainGlobals "max" = some none)
    (z10 : PySem.W.nsIn K mainGlobals "min" = some none)
    (z11 : PySem.W.nsIn K mainGlobals "range" = some none)
    (z12 : PySem.W.nsIn K mainGlobals "reversed" = some none)
    (z13 : PySem.W.nsIn K mainGlobals "set" = some none)
    (z14 : PySem.W.nsIn K mainGlobals "sorted" = some none)
    (z15 : PySem.W.nsIn K mainGlobals "str" = some none)
    (z16 : PySem.W.nsIn K mainGlobals "sum" = some none)
    (z17 : PySem.W.nsIn K mainGlobals "tuple" = some none)
    (z18 : PySem.W.nsIn K mainGlobals "zip" = some none)
    (tt11 : h.get? (He.tabOf K cc11) = some { cls := .none, data := .fields #[] }) (tn11 : K.lookup (He.tabOf K cc11) = none) (th11 : PySem.W.codeHdIn K cc11 (He.tabOf K cc11) = true)
    (tt32 : h.get? (He.tabOf K cc32) = some { cls := .none, data := .fields #[] }) (tn32 : K.lookup (He.tabOf K cc32) = none) (th32 : PySem.W.codeHdIn K cc32 (He.tabOf K cc32) = true)
    (tq11_32 : (He.tabOf K cc11 == He.tabOf K cc32) = false)
    : LamX.LawAtS l w K CX0 13 63 "_law_script" mg fa h := by
  have e := hfa.symm.trans (PySem.W.mg_of X G a49)
  cases e
  let a : Ad := ⟨f0, PySem.W.fnOf "is_word" "is_word" (defArgs s_is_word) (defBody s_is_word) (defScope s_is_word) .none kV0 dc0 pm0 an0 cd0 ct0, f1, PySem.W.fnOf "is_name" "is_name" (defArgs s_is_name) (defBody s_is_name) (defScope s_is_name) .none kV1 dc1 pm1 an1 cd1 ct1, f2, PySem.W.fnOf "is_hole" "is_hole" (defArgs s_is_hole) (defBody s_is_hole) (defScope s_is_hole) .none kV2 dc2 pm2 an2 cd2 ct2, f3, PySem.W.fnOf "is_number" "is_number" (defArgs s_is_number) (defBody s_is_number) (defScope s_is_number) .none kV3 dc3 pm3 an3 cd3 ct3, f4, PySem.W.fnOf "rises" "rises" (defArgs s_rises) (defBody s_rises) (defScope s_rises) .none kV4 dc4 pm4 an4 cd4 ct4, f5, PySem.W.fnOf "within" "within" (defArgs s_within) (defBody s_within) (defScope s_within) .none kV5 dc5 pm5 an5 cd5 ct5, f6, PySem.W.fnOf "with_parts" "with_parts" (defArgs s_with_parts) (defBody s_with_parts) (defScope s_with_parts) .none kV6 dc6 pm6 an6 cd6 ct6, f7, PySem.W.fnOf "rows_of" "rows_of" (defArgs s_rows_of) (defBody s_rows_of) (defScope s_rows_of) .none kV7 dc7 pm7 an7 cd7 ct7, f8, PySem.W.fnOf "parts_in" "parts_in" (defArgs s_parts_in) (defBody s_parts_in) (defScope s_parts_in) .none kV8 dc8 pm8 an8 cd8 ct8, f9, PySem.W.fnOf "places_in" "places_in" (defArgs s_places_in) (defBody s_places_in) (defScope s_places_in) .none kV9 dc9 pm9 an9 cd9 ct9, f10, PySem.W.fnOf "rebuilt" "rebuilt" (defArgs s_rebuilt) (defBody s_rebuilt) (defScope s_rebuilt) .none kV10 dc10 pm10 an10 cd10 ct10, f11, PySem.W.fnOf "changed" "changed" (defArgs s_changed) (defBody s_changed) (defScope s_changed) .none kV11 dc11 pm11 an11 (.ref cc11) ct11, f12, PySem.W.fnOf "is_move" "is_move" (defArgs s_is_move) (defBody s_is_move) (defScope s_is_move) .none kV12 dc12 pm12 an12 cd12 ct12, f13, PySem.W.fnOf "is_turn" "is_turn" (defArgs s_is_turn) (defBody s_is_turn) (defScope s_is_turn) .none kV13 dc13 pm13 an13 cd13 ct13, f14, PySem.W.fnOf "check_turn" "check_turn" (defArgs s_check_turn) (defBody s_check_turn) (defScope s_check_turn) .none kV14 dc14 pm14 an14 cd14 ct14, f15, PySem.W.fnOf "turn_from" "turn_from" (defArgs s_turn_from) (defBody s_turn_from) (defScope s_turn_from) .none kV15 dc15 pm15 an15 cd15 ct15, f16, PySem.W.fnOf "joined" "joined" (defArgs s_joined) (defBody s_joined) (defScope s_joined) .none kV16 dc16 pm16 an16 cd16 ct16, f17, PySem.W.fnOf "is_part" "is_part" (defArgs s_is_part) (defBody s_is_part) (defScope s_is_part) .none kV17 dc17 pm17 an17 cd17 ct17, f18, PySem.W.fnOf "is_term" "is_term" (defArgs s_is_term) (defBody s_is_term) (defScope s_is_term) .none kV18 dc18 pm18 an18 cd18 ct18, f19, PySem.W.fnOf "check_term" "check_term" (defArgs s_check_term) (defBody s_check_term) (defScope s_check_term) .none kV19 dc19 pm19 an19 cd19 ct19, f20, PySem.W.fnOf "parts_of" "parts_of" (defArgs s_parts_of) (defBody s_parts_of) (defScope s_parts_of) .none kV20 dc20 pm20 an20 cd20 ct20, f21, PySem.W.fnOf "levels_of" "levels_of" (defArgs s_levels_of) (defBody s_levels_of) (defScope s_levels_of) .none kV21 dc21 pm21 an21 cd21 ct21, f22, PySem.W.fnOf "names_at" "names_at" (defArgs s_names_at) (defBody s_names_at) (defScope s_names_at) .none kV22 dc22 pm22 an22 cd22 ct22, f23, PySem.W.fnOf "names_in" "names_in" (defArgs s_names_in) (defBody s_names_in) (defScope s_names_in) .none kV23 dc23 pm23 an23 cd23 ct23, f24, PySem.W.fnOf "holes_within" "holes_within" (defArgs s_holes_within) (defBody s_holes_within) (defScope s_holes_within) .none kV24 dc24 pm24 an24 cd24 ct24, f25, PySem.W.fnOf "holes_in" "holes_in" (defArgs s_holes_in) (defBody s_holes_in) (defScope s_holes_in) .none kV25 dc25 pm25 an25 cd25 ct25, f26, PySem.W.fnOf "places_of" "places_of" (defArgs s_places_of) (defBody s_places_of) (defScope s_places_of) .none kV26 dc26 pm26 an26 cd26 ct26, f27, PySem.W.fnOf "parts_down" "parts_down" (defArgs s_parts_down) (defBody s_parts_down) (defScope s_parts_down) .none kV27 dc27 pm27 an27 cd27 ct27, f28, PySem.W.fnOf "part_at" "part_at" (defArgs s_part_at) (defBody s_part_at) (defScope s_part_at) .none kV28 dc28 pm28 an28 cd28 ct28, f29, PySem.W.fnOf "put_down" "put_down" (defArgs s_put_down) (defBody s_put_down) (defScope s_put_down) .none kV29 dc29 pm29 an29 cd29 ct29, f30, PySem.W.fnOf "put_at" "put_at" (defArgs s_put_at) (defBody s_put_at) (defScope s_put_at) .none kV30 dc30 pm30 an30 cd30 ct30, f31, PySem.W.fnOf "turned_part" "turned_part" (defArgs s_turned_part) (defBody s_turned_part) (defScope s_turned_part) .none kV31 dc31 pm31 an31 cd31 ct31, f32, PySem.W.fnOf "turned" "turned" (defArgs s_turned) (defBody s_turned) (defScope s_turned) .none kV32 dc32 pm32 an32 (.ref cc32) ct32, f33, PySem.W.fnOf "turned_term" "turned_term" (defArgs s_turned_term) (defBody s_turned_term) (defScope s_turned_term) .none kV33 dc33 pm33 an33 cd33 ct33, f34, PySem.W.fnOf "_law_mixed" "_law_mixed" (defArgs s__law_mixed) (defBody s__law_mixed) (defScope s__law_mixed) .none kV34 dc34 pm34 an34 cd34 ct34, f35, PySem.W.fnOf "_law_pile" "_law_pile" (defArgs s__law_pile) (defBody s__law_pile) (defScope s__law_pile) .none kV35 dc35 pm35 an35 cd35 ct35, f36, PySem.W.fnOf "_law_take" "_law_take" (defArgs s__law_take) (defBody s__law_take) (defScope s__law_take) .none kV36 dc36 pm36 an36 cd36 ct36, f37, PySem.W.fnOf "_law_name" "_law_name" (defArgs s__law_name) (defBody s__law_name) (defScope s__law_name) .none kV37 dc37 pm37 an37 cd37 ct37, f38, PySem.W.fnOf "_law_names" "_law_names" (defArgs s__law_names) (defBody s__law_names) (defScope s__law_names) .none kV38 dc38 pm38 an38 cd38 ct38, f39, PySem.W.fnOf "_law_order" "_law_order" (defArgs s__law_order) (defBody s__law_order) (defScope s__law_order) .none kV39 dc39 pm39 an39 cd39 ct39, f40, PySem.W.fnOf "_law_turn" "_law_turn" (defArgs s__law_turn) (defBody s__law_turn) (defScope s__law_turn) .none kV40 dc40 pm40 an40 cd40 ct40, f41, PySem.W.fnOf "_law_to" "_law_to" (defArgs s__law_to) (defBody s__law_to) (defScope s__law_to) .none kV41 dc41 pm41 an41 cd41 ct41, f42, PySem.W.fnOf "_law_holes" "_law_holes" (defArgs s__law_holes) (defBody s__law_holes) (defScope s__law_holes) .none kV42 dc42 pm42 an42 cd42 ct42, f43, PySem.W.fnOf "_law_sign" "_law_sign" (defArgs s__law_sign) (defBody s__law_sign) (defScope s__law_sign) .none kV43 dc43 pm43 an43 cd43 ct43, f44, PySem.W.fnOf "_law_term" "_law_term" (defArgs s__law_term) (defBody s__law_term) (defScope s__law_term) .none kV44 dc44 pm44 an44 cd44 ct44, f45, PySem.W.fnOf "_law_any" "_law_any" (defArgs s__law_any) (defBody s__law_any) (defScope s__law_any) .none kV45 dc45 pm45 an45 cd45 ct45, f46, PySem.W.fnOf "_law_in" "_law_in" (defArgs s__law_in) (defBody s__law_in) (defScope s__law_in) .none kV46 dc46 pm46 an46 cd46 ct46, f47, PySem.W.fnOf "_law_sums" "_law_sums" (defArgs s__law_sums) (defBody s__law_sums) (defScope s__law_sums) .none kV47 dc47 pm47 an47 cd47 ct47, f48, PySem.W.fnOf "_law_put_right" "_law_put_right" (defArgs s__law_put_right) (defBody s__law_put_right) (defScope s__law_put_right) .none kV48 dc48 pm48 an48 cd48 ct48, fa, PySem.W.fnOf "law" "law" (defArgs s_law) (defBody s_law) (defScope s_law) .none kV49 dc49 pm49 an49 cd49 ct49, f50, PySem.W.fnOf "__init__" "NoPlace.__init__" (defArgs s_NoPlace___init__) (defBody s_NoPlace___init__) (defScope s_NoPlace___init__) .none kV50 dc50 pm50 an50 cd50 ct50, cc11, He.tabOf K cc11, cc32, He.tabOf K cc32, C0, C1, C2, C3, t0, t1, t2, t3⟩
  have F0 := fun_mk (st := s_is_word) l0 c0 k0
  have F1 := fun_mk (st := s_is_name) l1 c1 k1
  have F2 := fun_mk (st := s_is_hole) l2 c2 k2
  have F3 := fun_mk (st := s_is_number) l3 c3 k3
  have F4 := fun_mk (st := s_rises) l4 c4 k4
  have F5 := fun_mk (st := s_within) l5 c5 k5
  have F6 := fun_mk (st := s_with_parts) l6 c6 k6
  have F7 := fun_mk (st := s_rows_of) l7 c7 k7
  have F8 := fun_mk (st := s_parts_in) l8 c8 k8
  have F9 := fun_mk (st := s_places_in) l9 c9 k9
  have F10 := fun_mk (st := s_rebuilt) l10 c10 k10
  have F11 := fun_mk (st := s_changed) l11 c11 k11
  have F12 := fun_mk (st := s_is_move) l12 c12 k12
  have F13 := fun_mk (st := s_is_turn) l13 c13 k13
  have F14 := fun_mk (st := s_check_turn) l14 c14 k14
  have F15 := fun_mk (st := s_turn_from) l15 c15 k15
  have F16 := fun_mk (st := s_joined) l16 c16 k16
  have F17 := fun_mk (st := s_is_part) l17 c17 k17
  have F18 := fun_mk (st := s_is_term) l18 c18 k18
  have F19 := fun_mk (st := s_check_term) l19 c19 k19
  have F20 := fun_mk (st := s_parts_of) l20 c20 k20
  have F21 := fun_mk (st := s_levels_of) l21 c21 k21
  have F22 := fun_mk (st := s_names_at) l22 c22 k22
  have F23 := fun_mk (st := s_names_in) l23 c23 k23
  have F24 := fun_mk (st := s_holes_within) l24 c24 k24
  have F25 := fun_mk (st := s_holes_in) l25 c25 k25
  have F26 := fun_mk (st := s_places_of) l26 c26 k26
  have F27 := fun_mk (st := s_parts_down) l27 c27 k27
  have F28 := fun_mk (st := s_part_at) l28 c28 k28
  have F29 := fun_mk (st := s_put_down) l29 c29 k29
  have F30 := fun_mk (st := s_put_at) l30 c30 k30
  have F31 := fun_mk (st := s_turned_part) l31 c31 k31
  have F32 := fun_mk (st := s_turned) l32 c32 k32
  have F33 := fun_mk (st := s_turned_term) l33 c33 k33
  have F34 := fun_mk (st := s__law_mixed) l34 c34 k34
  have F35 := fun_mk (st := s__law_pile) l35 c35 k35
  have F36 := fun_mk (st := s__law_take) l36 c36 k36
  have F37 := fun_mk (st := s__law_name) l37 c37 k37
  have F38 := fun_mk (st := s__law_names) l38 c38 k38
  have F39 := fun_mk (st := s__law_order) l39 c39 k39
  have F40 := fun_mk (st := s__law_turn) l40 c40 k40
  have F41 := fun_mk (st := s__law_to) l41 c41 k41
  have F42 := fun_mk (st := s__law_holes) l42 c42 k42
  have F43 := fun_mk (st := s__law_sign) l43 c43 k43
  have F44 := fun_mk (st := s__law_term) l44 c44 k44
  have F45 := fun_mk (st := s__law_any) l45 c45 k45
  have F46 := fun_mk (st := s__law_in) l46 c46 k46
  have F47 := fun_mk (st := s__law_sums) l47 c47 k47
  have F48 := fun_mk (st := s__law_put_right) l48 c48 k48
  have F49 := fun_mk (st := s_law) l49 c49 k49
  have F50 := fun_mk (st := s_NoPlace___init__) l50 c50 k50
  have T : Txt K mg a := ⟨F0, PySem.W.mg_of X G a0, F0.binds (ps := ["thing", "letters"]) fun _ _ _ _ _ _ us hl => match us, hl with | [_, _], _ => rfl, F1, PySem.W.mg_of X G a1, F1.binds (ps := ["thing"]) fun _ _ _ _ _ _ us hl => match us, hl with | [_], _ => rfl, F2, PySem.W.mg_of X G a2, F2.binds (ps := ["thing"]) fun _ _ _ _ _ _ us hl => match us, hl with | [_], _ => rfl, F3, PySem.W.mg_of X G a3, F3.binds (ps := ["thing"]) fun _ _ _ _ _ _ us hl => match us, hl with | [_], _ => rfl, F4, PySem.W.mg_of X G a4, F4.binds (ps := ["things"]) fun _ _ _ _ _ _ us hl => match us, hl with | [_], _ => rfl, F5, PySem.W.mg_of X G a5, F5.binds (ps := ["part"]) fun _ _ _ _ _ _ us hl => match us, hl with | [_], _ => rfl, F6, PySem.W.mg_of X G a6, F6.binds (ps := ["part", "told"]) fun _ _ _ _ _ _ us hl => match us, hl with | [_, _], _ => rfl, F7, PySem.W.mg_of X G a7, F7.binds (ps := ["term"]) fun _ _ _ _ _ _ us hl => match us, hl with | [_], _ => rfl, F8, PySem.W.mg_of X G a8, F8.binds (ps := ["term"]) fun _ _ _ _ _ _ us hl => match us, hl with | [_], _ => rfl, F9, PySem.W.mg_of X G a9, F9.binds (ps := ["term"]) fun _ _ _ _ _ _ us hl => match us, hl with | [_], _ => rfl, F10, PySem.W.mg_of X G a10, F10.binds (ps := ["parts", "make"]) fun _ _ _ _ _ _ us hl => match us, hl with | [_, _], _ => rfl, F11, PySem.W.mg_of X G a11, F11.binds (ps := ["term", "make"]) fun _ _ _ _ _ _ us hl => match us, hl with | [_, _], _ => rfl, F12, PySem.W.mg_of X G a12, F12.binds (ps := ["thing"]) fun _ _ _ _ _ _ us hl => match us, hl with | [_], _ => rfl, F13, PySem.W.mg_of X G a13, F13.binds (ps := ["thing"]) fun _ _ _ _ _ _ us hl => match us, hl with | [_], _ => rfl, F14, PySem.W.mg_of X G a14, F14.binds (ps := ["thing"]) fun _ _ _ _ _ _ us hl => match us, hl with | [_], _ => rfl, F15, PySem.W.mg_of X G a15, F15.binds (ps := ["moves"]) fun _ _ _ _ _ _ us hl => match us, hl with | [_], _ => rfl, F16, PySem.W.mg_of X G a16, F16.binds (ps := ["first", "second"]) fun _ _ _ _ _ _ us hl => match us, hl with | [_, _], _ => rfl, F17, PySem.W.mg_of X G a17, F17.binds (ps := ["thing"]) fun _ _ _ _ _ _ us hl => match us, hl with | [_], _ => rfl, F18, PySem.W.mg_of X G a18, F18.binds (ps := ["thing"]) fun _ _ _ _ _ _ us hl => match us, hl with | [_], _ => rfl, F19, PySem.W.mg_of X G a19, F19.binds (ps := ["thing"]) fun _ _ _ _ _ _ us hl => match us, hl with | [_], _ => rfl, F20, PySem.W.mg_of X G a20, F20.binds (ps := ["term"]) fun _ _ _ _ _ _ us hl => match us, hl with | [_], _ => rfl, F21, PySem.W.mg_of X G a21, F21.binds (ps := ["term"]) fun _ _ _ _ _ _ us hl => match us, hl with | [_], _ => rfl, F22, PySem.W.mg_of X G a22, F22.binds (ps := ["part"]) fun _ _ _ _ _ _ us hl => match us, hl with | [_], _ => rfl, F23, PySem.W.mg_of X G a23, F23.binds (ps := ["term"]) fun _ _ _ _ _ _ us hl => match us, hl with | [_], _ => rfl, F24, PySem.W.mg_of X G a24, F24.binds (ps := ["term"]) fun _ _ _ _ _ _ us hl => match us, hl with | [_], _ => rfl, F25, PySem.W.mg_of X G a25, F25.binds (ps := ["term"]) fun _ _ _ _ _ _ us hl => match us, hl with | [_], _ => rfl, F26, PySem.W.mg_of X G a26, F26.binds (ps := ["term"]) fun _ _ _ _ _ _ us hl => match us, hl with | [_], _ => rfl, F27, PySem.W.mg_of X G a27, F27.binds (ps := ["term", "place"]) fun _ _ _ _ _ _ us hl => match us, hl with | [_, _], _ => rfl, F28, PySem.W.mg_of X G a28, F28.binds (ps := ["term", "place"]) fun _ _ _ _ _ _ us hl => match us, hl with | [_, _], _ => rfl, F29, PySem.W.mg_of X G a29, F29.binds (ps := ["term", "place", "part"]) fun _ _ _ _ _ _ us hl => match us, hl with | [_, _, _], _ => rfl, F30, PySem.W.mg_of X G a30, F30.binds (ps := ["term", "place", "part"]) fun _ _ _ _ _ _ us hl => match us, hl with | [_, _, _], _ => rfl, F31, PySem.W.mg_of X G a31, F31.binds (ps := ["moves", "part", "told"]) fun _ _ _ _ _ _ us hl => match us, hl with | [_, _, _], _ => rfl, F32, PySem.W.mg_of X G a32, F32.binds (ps := ["turn", "term"]) fun _ _ _ _ _ _ us hl => match us, hl with | [_, _], _ => rfl, F33, PySem.W.mg_of X G a33, F33.binds (ps := ["turn", "term"]) fun _ _ _ _ _ _ us hl => match us, hl with | [_, _], _ => rfl, F34, PySem.W.mg_of X G a34, F34.binds (ps := ["_law_cell", "_law_k"]) fun _ _ _ _ _ _ us hl => match us, hl with | [_, _], _ => rfl, F35, PySem.W.mg_of X G a35, F35.binds (ps := ["_law_script", "_law_k"]) fun _ _ _ _ _ _ us hl => match us, hl with | [_, _], _ => rfl, F36, PySem.W.mg_of X G a36, F36.binds (ps := ["_law_pile_here", "_law_many"]) fun _ _ _ _ _ _ us hl => match us, hl with | [_, _], _ => rfl, F37, PySem.W.mg_of X G a37, F37.binds (ps := ["_law_pile_here"]) fun _ _ _ _ _ _ us hl => match us, hl with | [_], _ => rfl, F38, PySem.W.mg_of X G a38, F38.binds (ps := ["_law_pile_here", "_law_many"]) fun _ _ _ _ _ _ us hl => match us, hl with | [_, _], _ => rfl, F39, PySem.W.mg_of X G a39, F39.binds (ps := ["_law_pile_here", "_law_some"]) fun _ _ _ _ _ _ us hl => match us, hl with | [_, _], _ => rfl, F40, PySem.W.mg_of X G a40, F40.binds (ps := ["_law_pile_here", "_law_names_here"]) fun _ _ _ _ _ _ us hl => match us, hl with | [_, _], _ => rfl, F41, PySem.W.mg_of X G a41, F41.binds (ps := ["_law_turn_here", "_law_name_here"]) fun _ _ _ _ _ _ us hl => match us, hl with | [_, _], _ => rfl, F42, PySem.W.mg_of X G a42, F42.binds (ps := ["_law_pile_here", "_law_many"]) fun _ _ _ _ _ _ us hl => match us, hl with | [_, _], _ => rfl, F43, PySem.W.mg_of X G a43, F43.binds (ps := ["_law_pile_here", "_law_names_here"]) fun _ _ _ _ _ _ us hl => match us, hl with | [_, _], _ => rfl, F44, PySem.W.mg_of X G a44, F44.binds (ps := ["_law_pile_here", "_law_names_here", "_law_some", "_law_depth"]) fun _ _ _ _ _ _ us hl => match us, hl with | [_, _, _, _], _ => rfl, F45, PySem.W.mg_of X G a45, F45.binds (ps := ["_law_pile_here", "_law_names_here", "_law_some"]) fun _ _ _ _ _ _ us hl => match us, hl with | [_, _, _], _ => rfl, F46, PySem.W.mg_of X G a46, F46.binds (ps := ["_law_term_here"]) fun _ _ _ _ _ _ us hl => match us, hl with | [_], _ => rfl, F47, PySem.W.mg_of X G a47, F47.binds (ps := ["_law_term_here"]) fun _ _ _ _ _ _ us hl => match us, hl with | [_], _ => rfl, F48, PySem.W.mg_of X G a48, F48.binds (ps := ["_law_term_here", "_law_place", "_law_further"]) fun _ _ _ _ _ _ us hl => match us, hl with | [_, _, _], _ => rfl, F49, PySem.W.mg_of X G a49, F49.binds (ps := ["_law_script"]) fun _ _ _ _ _ _ us hl => match us, hl with | [_], _ => rfl, PySem.W.mg_of X G v0, PySem.W.mg_of X G v1, PySem.W.mg_of X G v2, PySem.W.mg_of X G v3, PySem.W.mg_of X G q0, x0, p0, e0, y0, i0, s0, PySem.W.mg_of X G q1, x1, p1, e1, y1, i1, s1, PySem.W.mg_of X G q2, x2, p2, e2, y2, i2, s2, PySem.W.mg_of X G q3, x3, p3, e3, y3, i3, s3, F50, F50.binds (ps := ["self", "place"]) fun _ _ _ _ _ _ us hl => match us, hl with | [_, _], _ => rfl, h50, w50, d3_place, m0, n0, PySem.W.mg_none_of X G z0, PySem.W.mg_none_of X G z1, PySem.W.mg_none_of X G z2, PySem.W.mg_none_of X G z3, PySem.W.mg_none_of X G z4, PySem.W.mg_none_of X G z5, PySem.W.mg_none_of X G z6, PySem.W.mg_none_of X G z7, PySem.W.mg_none_of X G z8, PySem.W.mg_none_of X G z9, PySem.W.mg_none_of X G z10, PySem.W.mg_none_of X G z11, PySem.W.mg_none_of X G z12, PySem.W.mg_none_of X G z13, PySem.W.mg_none_of X G z14, PySem.W.mg_none_of X G z15, PySem.W.mg_none_of X G z16, PySem.W.mg_none_of X G z17, PySem.W.mg_none_of X G z18, funC_mk (st := s_changed) l11 c11, funC_mk (st := s_turned) l32 c32, beq_eq_false_iff_ne.mp tq11_32⟩
  refine ⟨PySem.W.fnOf "law" "law" (defArgs s_law) (defBody s_law) (defScope s_law) .none kV49 dc49 pm49 an49 cd49 ct49, [(cc11, He.tabOf K cc11), (cc32, He.tabOf K cc32)], sp_law a K, (fun p hp => by
    rcases List.mem_cons.mp hp with hp | hp
    · subst hp; exact tt11
    rcases List.mem_cons.mp hp with hp | hp
    · subst hp; exact tt32
    · exact absurd hp List.not_mem_nil), (fun p hp => by
    rcases List.mem_cons.mp hp with hp | hp
    · subst hp; exact tn11
    rcases List.mem_cons.mp hp with hp | hp
    · subst hp; exact tn32
    · exact absurd hp List.not_mem_nil), (fun p hp => by
    rcases List.mem_cons.mp hp with hp | hp
    · subst hp; exact PySem.W.codeHd_of_K X th11
    rcases List.mem_cons.mp hp with hp | hp
    · subst hp; exact PySem.W.codeHd_of_K X th32
    · exact absurd hp List.not_mem_nil), fun s v => .of_eq rfl, fun H b ns hl _ hH hS => ⟨b, ns, rfl, hS, hl, ?_, fun _ => rfl⟩, fun base _ _ TB => ok_law (a := a) T ⟨TB _ List.mem_cons_self, TB _ (List.mem_cons_of_mem _ List.mem_cons_self)⟩⟩
  intro p hp
  rcases List.mem_cons.mp hp with hp | hp
  · subst hp; exact NdefX.TabN.nil (hH _ List.mem_cons_self)
  rcases List.mem_cons.mp hp with hp | hp
  · subst hp; exact NdefX.TabN.nil (hH _ (List.mem_cons_of_mem _ List.mem_cons_self))
  exact absurd hp List.not_mem_nil
end Pf
open PySem PySem.W PyProof.Rows
set_option maxRecDepth 100000 in
set_option maxHeartbeats 0 in
theorem PySem.Challenge.cw_shutnames_k15_whole_terms_taken_apart_holds : PySem.Challenge.rw_shutnames_k15_whole_terms_taken_apart.Holds := by
  w_on; o_law; k_head; (case hw => w_witness2)
  k_fill
  refine LamX.walk_ofTs (l := PySem.Challenge.rw_shutnames_k15_whole_terms_taken_apart) (n := 63) (k := 13) (x := "_law_script") (CX := fun _ => L2.CX0) rfl (by decide) rfl ⟨rfl, by decide, by decide⟩ (fun w h Y => PySem.W.km_in_of Y) ?F (fun _ _ _ _ _ h => h)
  case F =>
    intro w mg fa h Y KX G hmg
    refine' Pf.all_mk KX G hmg ?a0 ?l0 ?c0 ?k0 ?a1 ?l1 ?c1 ?k1 ?a2 ?l2 ?c2 ?k2 ?a3 ?l3 ?c3 ?k3 ?a4 ?l4 ?c4 ?k4 ?a5 ?l5 ?c5 ?k5 ?a6 ?l6 ?c6 ?k6 ?a7 ?l7 ?c7 ?k7 ?a8 ?l8 ?c8 ?k8 ?a9 ?l9 ?c9 ?k9 ?a10 ?l10 ?c10 ?k10 ?a11 ?l11 ?c11 ?k11 ?a12 ?l12 ?c12 ?k12 ?a13 ?l13 ?c13 ?k13 ?a14 ?l14 ?c14 ?k14 ?a15 ?l15 ?c15 ?k15 ?a16 ?l16 ?c16 ?k16 ?a17 ?l17 ?c17 ?k17 ?a18 ?l18 ?c18 ?k18 ?a19 ?l19 ?c19 ?k19 ?a20 ?l20 ?c20 ?k20 ?a21 ?l21 ?c21 ?k21 ?a22 ?l22 ?c22 ?k22 ?a23 ?l23 ?c23 ?k23 ?a24 ?l24 ?c24 ?k24 ?a25 ?l25 ?c25 ?k25 ?a26 ?l26 ?c26 ?k26 ?a27 ?l27 ?c27 ?k27 ?a28 ?l28 ?c28 ?k28 ?a29 ?l29 ?c29 ?k29 ?a30 ?l30 ?c30 ?k30 ?a31 ?l31 ?c31 ?k31 ?a32 ?l32 ?c32 ?k32 ?a33 ?l33 ?c33 ?k33 ?a34 ?l34 ?c34 ?k34 ?a35 ?l35 ?c35 ?k35 ?a36 ?l36 ?c36 ?k36 ?a37 ?l37 ?c37 ?k37 ?a38 ?l38 ?c38 ?k38 ?a39 ?l39 ?c39 ?k39 ?a40 ?l40 ?c40 ?k40 ?a41 ?l41 ?c41 ?k41 ?a42 ?l42 ?c42 ?k42 ?a43 ?l43 ?c43 ?k43 ?a44 ?l44 ?c44 ?k44 ?a45 ?l45 ?c45 ?k45 ?a46 ?l46 ?c46 ?k46 ?a47 ?l47 ?c47 ?k47 ?a48 ?l48 ?c48 ?k48 ?a49 ?l49 ?c49 ?k49 ?v0 ?v1 ?v2 ?v3 ?q0 ?x0 ?p0 ?e0 ?y0 ?i0 ?s0 ?q1 ?x1 ?p1 ?e1 ?y1 ?i1 ?s1 ?q2 ?x2 ?p2 ?e2 ?y2 ?i2 ?s2 ?q3 ?x3 ?p3 ?e3 ?y3 ?i3 ?s3 ?h50 ?l50 ?c50 ?k50 ?w50 ?d3_place ?m0 ?n0 ?z0 ?z1 ?z2 ?z3 ?z4 ?z5 ?z6 ?z7 ?z8 ?z9 ?z10 ?z11 ?z12 ?z13 ?z14 ?z15 ?z16 ?z17 ?z18 ?tt11 ?tn11 ?th11 ?tt32 ?tn32 ?th32 ?tq11_32
    (case a0 => k_is); (case l0 => k_is); (case c0 => k_is); (case k0 => k_is); (case a1 => k_is); (case l1 => k_is); (case c1 => k_is); (case k1 => k_is)
    (case a2 => k_is); (case l2 => k_is); (case c2 => k_is); (case k2 => k_is); (case a3 => k_is); (case l3 => k_is); (case c3 => k_is); (case k3 => k_is)
    (case a4 => k_is); (case l4 => k_is); (case c4 => k_is); (case k4 => k_is); (case a5 => k_is); (case l5 => k_is); (case c5 => k_is); (case k5 => k_is)
    (case a6 => k_is); (case l6 => k_is); (case c6 => k_is); (case k6 => k_is); (case a7 => k_is); (case l7 => k_is); (case c7 => k_is); (case k7 => k_is)
    (case a8 => k_is); (case l8 => k_is); (case c8 => k_is); (case k8 => k_is); (case a9 => k_is); (case l9 => k_is); (case c9 => k_is); (case k9 => k_is)
    (case a10 => k_is); (case l10 => k_is); (case c10 => k_is); (case k10 => k_is); (case a11 => k_is); (case l11 => k_is); (case c11 => k_is); (case k11 => k_is)
    (case a12 => k_is); (case l12 => k_is); (case c12 => k_is); (case k12 => k_is); (case a13 => k_is); (case l13 => k_is); (case c13 => k_is); (case k13 => k_is)
    (case a14 => k_is); (case l14 => k_is); (case c14 => k_is); (case k14 => k_is); (case a15 => k_is); (case l15 => k_is); (case c15 => k_is); (case k15 => k_is)
    (case a16 => k_is); (case l16 => k_is); (case c16 => k_is); (case k16 => k_is); (case a17 => k_is); (case l17 => k_is); (case c17 => k_is); (case k17 => k_is)
    (case a18 => k_is); (case l18 => k_is); (case c18 => k_is); (case k18 => k_is); (case a19 => k_is); (case l19 => k_is); (case c19 => k_is); (case k19 => k_is)
    (case a20 => k_is); (case l20 => k_is); (case c20 => k_is); (case k20 => k_is); (case a21 => k_is); (case l21 => k_is); (case c21 => k_is); (case k21 => k_is)
    (case a22 => k_is); (case l22 => k_is); (case c22 => k_is); (case k22 => k_is); (case a23 => k_is); (case l23 => k_is); (case c23 => k_is); (case k23 => k_is)
    (case a24 => k_is); (case l24 => k_is); (case c24 => k_is); (case k24 => k_is); (case a25 => k_is); (case l25 => k_is); (case c25 => k_is); (case k25 => k_is)
    (case a26 => k_is); (case l26 => k_is); (case c26 => k_is); (case k26 => k_is); (case a27 => k_is); (case l27 => k_is); (case c27 => k_is); (case k27 => k_is)
    (case a28 => k_is); (case l28 => k_is); (case c28 => k_is); (case k28 => k_is); (case a29 => k_is); (case l29 => k_is); (case c29 => k_is); (case k29 => k_is)
    (case a30 => k_is); (case l30 => k_is); (case c30 => k_is); (case k30 => k_is); (case a31 => k_is); (case l31 => k_is); (case c31 => k_is); (case k31 => k_is)
    (case a32 => k_is); (case l32 => k_is); (case c32 => k_is); (case k32 => k_is); (case a33 => k_is); (case l33 => k_is); (case c33 => k_is); (case k33 => k_is)
    (case a34 => k_is); (case l34 => k_is); (case c34 => k_is); (case k34 => k_is); (case a35 => k_is); (case l35 => k_is); (case c35 => k_is); (case k35 => k_is)
    (case a36 => k_is); (case l36 => k_is); (case c36 => k_is); (case k36 => k_is); (case a37 => k_is); (case l37 => k_is); (case c37 => k_is); (case k37 => k_is)
    (case a38 => k_is); (case l38 => k_is); (case c38 => k_is); (case k38 => k_is); (case a39 => k_is); (case l39 => k_is); (case c39 => k_is); (case k39 => k_is)
    (case a40 => k_is); (case l40 => k_is); (case c40 => k_is); (case k40 => k_is); (case a41 => k_is); (case l41 => k_is); (case c41 => k_is); (case k41 => k_is)
    (case a42 => k_is); (case l42 => k_is); (case c42 => k_is); (case k42 => k_is); (case a43 => k_is); (case l43 => k_is); (case c43 => k_is); (case k43 => k_is)
    (case a44 => k_is); (case l44 => k_is); (case c44 => k_is); (case k44 => k_is); (case a45 => k_is); (case l45 => k_is); (case c45 => k_is); (case k45 => k_is)
    (case a46 => k_is); (case l46 => k_is); (case c46 => k_is); (case k46 => k_is); (case a47 => k_is); (case l47 => k_is); (case c47 => k_is); (case k47 => k_is)
    (case a48 => k_is); (case l48 => k_is); (case c48 => k_is); (case k48 => k_is); (case a49 => k_is); (case l49 => k_is); (case c49 => k_is); (case k49 => k_is)
    (case v0 => k_is); (case v1 => k_is); (case v2 => k_is); (case v3 => k_is); (case q0 => k_is); (case x0 => first | k_exc | k_is | exact ⟨Pf.oex_cls (by first | rfl | decide +kernel), by k_is, by k_is, by first | rfl | k_is, by k_is⟩); (case p0 => k_is); (case e0 => k_is)
    (case y0 => k_is); (case i0 => k_is); (case s0 => first | rfl | k_is); (case q1 => k_is); (case x1 => first | k_exc | k_is | exact ⟨Pf.oex_cls (by first | rfl | decide +kernel), by k_is, by k_is, by first | rfl | k_is, by k_is⟩); (case p1 => k_is); (case e1 => k_is); (case y1 => k_is)
    (case i1 => k_is); (case s1 => first | rfl | k_is); (case q2 => k_is); (case x2 => first | k_exc | k_is | exact ⟨Pf.oex_cls (by first | rfl | decide +kernel), by k_is, by k_is, by first | rfl | k_is, by k_is⟩); (case p2 => k_is); (case e2 => k_is); (case y2 => k_is); (case i2 => k_is)
    (case s2 => first | rfl | k_is); (case q3 => k_is); (case x3 => first | k_exc | k_is | exact ⟨Pf.oex_cls (by first | rfl | decide +kernel), by k_is, by k_is, by first | rfl | k_is, by k_is⟩); (case p3 => k_is); (case e3 => k_is); (case y3 => k_is); (case i3 => k_is); (case s3 => first | rfl | k_is)
    (case h50 => k_is); (case l50 => k_is); (case c50 => k_is); (case k50 => k_is); (case w50 => k_is); (case d3_place => k_is); (case m0 => exact ⟨by k_is, by k_is⟩); (case n0 => k_is)
    (case z0 => k_is); (case z1 => k_is); (case z2 => k_is); (case z3 => k_is); (case z4 => k_is); (case z5 => k_is); (case z6 => k_is); (case z7 => k_is)
    (case z8 => k_is); (case z9 => k_is); (case z10 => k_is); (case z11 => k_is); (case z12 => k_is); (case z13 => k_is); (case z14 => k_is); (case z15 => k_is)
    (case z16 => k_is); (case z17 => k_is); (case z18 => k_is); (case tt11 => exact PySem.W.km_tabs_of Y _ (by first | exact List.Mem.head _ | exact List.Mem.tail _ (List.Mem.head _) | exact List.Mem.tail _ (List.Mem.tail _ (List.Mem.head _)) | exact List.Mem.tail _ (List.Mem.tail _ (List.Mem.tail _ (List.Mem.head _))))); (case tn11 => first | rfl | kernel_rfl | k_is); (case th11 => first | rfl | kernel_rfl | k_is); (case tt32 => exact PySem.W.km_tabs_of Y _ (by first | exact List.Mem.head _ | exact List.Mem.tail _ (List.Mem.head _) | exact List.Mem.tail _ (List.Mem.tail _ (List.Mem.head _)) | exact List.Mem.tail _ (List.Mem.tail _ (List.Mem.tail _ (List.Mem.head _))))); (case tn32 => first | rfl | kernel_rfl | k_is)
    (case th32 => first | rfl | kernel_rfl | k_is); (case tq11_32 => first | rfl | kernel_rfl | k_is)

