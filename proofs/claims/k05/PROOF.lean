import PyProof.Rows.All
import Wide.All
import OpenK.AllK
import Wide.FinOn
import HandS.ForMost
import HandS.ForExc
import HandS.Wide
import HandS.Codes
import HandS.IsInst
import HandS.MakeKwOnly
import HandS.Style
import HandS.Flow
import HandS.Records
import HandS.FStr
import HandS.Zip
import KE.KExcInit
import KE.KExcIs
import HandS.ExcField
import HandS.ExcOwn
import HandS.CallSlots
import HandS.TryMany
import HandS.ExcIs
import HandS.Property
import HandS.RaiseMore
import HandS.Defaults
import PySem.Challenge.RW_strayfiles_k05_whole_sums_of_times
set_option Elab.async false
set_option linter.all false
set_option maxRecDepth 100000
set_option maxHeartbeats 4000000
/-! Worlds: what never changes (B) and what may (M), over the abstract heap. -/
namespace Sy
open PySem PySem.Spec PyProof.Rows L2

/-! ### growing heaps -/
def Ex (H H' : Hp) : Prop := ∀ a o, H a = some o → H' a = some o
theorem Ex.rf (H : Hp) : Ex H H := fun _ _ h => h
theorem Ex.tr {H H1 H2 : Hp} (a : Ex H H1) (b : Ex H1 H2) : Ex H H2 := fun x o h => b x o (a x o h)
theorem Ex.up {H H' : Hp} {a : Addr} {o : HO} (e : Ex H H') (h : H a = some o) : H' a = some o := e a o h
theorem Ex.new {H : Hp} {p : Addr} {o : HO} (h : H p = none) : Ex H (upd H p o) := fun a u e => by
  rw [upd_ne (ne_of_none e h)]
  exact e
theorem Ex.rd {H H' : Hp} {a : Addr} {u : HO} (e : Ex H H') (h : Rd H a u) : Rd H' a u := by
  rcases h with h | ⟨o, h⟩
  · exact Or.inl (e a _ h)
  · exact Or.inr ⟨o, e a _ h⟩
theorem Ex.sl {K : PySem.W.Frag} {H H' : Hp} {a : Addr} {xs : List V} (e : Ex H H') (h : SqL K H a xs) : SqL K H' a xs := by
  rcases h with h | h
  · exact Or.inl (e.rd h)
  · exact Or.inr h
theorem Ex.st {K : PySem.W.Frag} {H H' : Hp} {a : Addr} {xs : List V} (e : Ex H H') (h : SqT K H a xs) : SqT K H' a xs := by
  rcases h with h | h
  · exact Or.inl (e.rd h)
  · exact Or.inr h
theorem sl_of {K : PySem.W.Frag} {H : Hp} {a : Addr} {xs : List V} (h : H a = some (.lst xs)) : SqL K H a xs := Or.inl (Or.inl h)
theorem st_of {K : PySem.W.Frag} {H : Hp} {a : Addr} {xs : List V} (h : H a = some (.tup xs)) : SqT K H a xs := Or.inl (Or.inl h)
theorem sz_of {n : Nat} (h : n ≤ 100000) : n ≤ sizeLine := Nat.le_trans h (by decide)
theorem sz_lt {n : Nat} (h : n < 100000) : n < sizeLine := Nat.lt_of_lt_of_le h (by decide)

/-! ### worlds -/
/-- all of B stands in H for ever; at each place of M its thing stands now -/
structure Wd (B : Hp) (M : List (Addr × HO)) (H : Hp) : Prop where
  ex : Ex B H
  mu : ∀ q ∈ M, H q.1 = some q.2
  fr : ∀ q ∈ M, B q.1 = none
  nd : (M.map (·.1)).Nodup
section
variable {B B' H : Hp} {M : List (Addr × HO)} {p b : Addr} {o o' : HO}
theorem Wd.self (H : Hp) : Wd H [] H := ⟨Ex.rf H, (fun _ h => nomatch h), (fun _ h => nomatch h), List.nodup_nil⟩
theorem Wd.free (w : Wd B M H) (np : H p = none) : B p = none := by
  cases h : B p with
  | none => rfl
  | some o =>
    rw [w.ex p o h] at np
    cases np
theorem Wd.ne (w : Wd B M H) (np : H p = none) : ∀ q ∈ M, q.1 ≠ p := fun q hq e => by
  have h := w.mu q hq
  rw [e, np] at h
  cases h
/-- a new thing that never changes -/
theorem Wd.alloc (w : Wd B M H) (np : H p = none) (o : HO) : Wd (upd B p o) M (upd H p o) where
  ex := fun a u e => by
    by_cases h : a = p
    · rw [h, upd_same] at e ⊢
      exact e
    · rw [upd_ne h] at e ⊢
      exact w.ex a u e
  mu := fun q hq => by
    rw [upd_ne (w.ne np q hq)]
    exact w.mu q hq
  fr := fun q hq => by
    rw [upd_ne (w.ne np q hq)]
    exact w.fr q hq
  nd := w.nd
/-- a new thing that may change -/
theorem Wd.allocM (w : Wd B M H) (np : H p = none) (o : HO) : Wd B ((p, o) :: M) (upd H p o) where
  ex := fun a u e => by
    rw [upd_ne (ne_of_none (w.ex a u e) np)]
    exact w.ex a u e
  mu := fun q hq => by
    rcases List.mem_cons.mp hq with rfl | hq
    · exact upd_same
    · rw [upd_ne (w.ne np q hq)]
      exact w.mu q hq
  fr := fun q hq => by
    rcases List.mem_cons.mp hq with rfl | hq
    · exact w.free np
    · exact w.fr q hq
  nd := by
    rw [List.map_cons, List.nodup_cons]
    refine ⟨fun h => ?_, w.nd⟩
    obtain ⟨q, hq, e⟩ := List.mem_map.mp h
    exact w.ne np q hq e
theorem Wd.get (w : Wd B M H) {k : Nat} (hk : M[k]? = some (b, o)) : H b = some o := w.mu (b, o) (List.mem_of_getElem? hk)
theorem nodup_other {M : List (Addr × HO)} (nd : (M.map (·.1)).Nodup) {j k : Nat} {q r : Addr × HO} (hj : M[j]? = some q) (hk : M[k]? = some r) (e : q.1 = r.1) : j = k := by
  have h1 : (M.map (·.1))[j]? = some q.1 := by rw [List.getElem?_map, hj]; rfl
  have h2 : (M.map (·.1))[k]? = some r.1 := by rw [List.getElem?_map, hk]; rfl
  obtain ⟨l1, e1⟩ := List.getElem?_eq_some_iff.mp h1
  obtain ⟨l2, e2⟩ := List.getElem?_eq_some_iff.mp h2
  have pw := List.pairwise_iff_getElem.mp nd
  rcases Nat.lt_trichotomy j k with z | z | z
  · exact absurd (by rw [e1, e2, e]) (pw j k l1 l2 z)
  · exact z
  · exact absurd (by rw [e1, e2, e]) (pw k j l2 l1 z)
/-- one of the changing things is changed -/
theorem Wd.set (w : Wd B M H) {k : Nat} (hk : M[k]? = some (b, o)) (o' : HO) : Wd B (M.set k (b, o')) (upd H b o') where
  ex := fun a u e => by
    have hb := w.fr (b, o) (List.mem_of_getElem? hk)
    rw [upd_ne (ne_of_none e hb)]
    exact w.ex a u e
  mu := fun q hq => by
    obtain ⟨j, hj⟩ := List.mem_iff_getElem?.mp hq
    by_cases e : j = k
    · subst e
      rw [List.getElem?_set_self (List.getElem?_eq_some_iff.mp hk).1] at hj
      cases hj
      exact upd_same
    · rw [List.getElem?_set_ne (fun z => e z.symm)] at hj
      have n : q.1 ≠ b := fun z => e (nodup_other w.nd hj hk z)
      rw [upd_ne n]
      exact w.mu q (List.mem_of_getElem? hj)
  fr := fun q hq => by
    obtain ⟨j, hj⟩ := List.mem_iff_getElem?.mp hq
    by_cases e : j = k
    · subst e
      rw [List.getElem?_set_self (List.getElem?_eq_some_iff.mp hk).1] at hj
      cases hj
      exact w.fr (b, o) (List.mem_of_getElem? hk)
    · rw [List.getElem?_set_ne (fun z => e z.symm)] at hj
      exact w.fr q (List.mem_of_getElem? hj)
  nd := by
    have e : (M.set k (b, o')).map (·.1) = M.map (·.1) := by
      rw [List.map_set]
      have h1 : (M.map (·.1))[k]? = some b := by rw [List.getElem?_map, hk]; rfl
      obtain ⟨l, e1⟩ := List.getElem?_eq_some_iff.mp h1
      rw [← e1]
      exact List.set_getElem_self l
    rw [e]
    exact w.nd
/-- a changing thing changes no more -/
theorem Wd.freeze (w : Wd B ((p, o) :: M) H) : Wd (upd B p o) M H where
  ex := fun a u e => by
    by_cases h : a = p
    · rw [h, upd_same] at e
      cases e
      rw [h]
      exact w.mu (p, o) List.mem_cons_self
    · rw [upd_ne h] at e
      exact w.ex a u e
  mu := fun q hq => w.mu q (List.mem_cons_of_mem _ hq)
  fr := fun q hq => by
    have n : q.1 ≠ p := fun e => by
      have h := w.nd
      rw [List.map_cons, List.nodup_cons] at h
      exact h.1 (e ▸ List.mem_map.mpr ⟨q, hq, rfl⟩)
    rw [upd_ne n]
    exact w.fr q (List.mem_cons_of_mem _ hq)
  nd := by
    have h := w.nd
    rw [List.map_cons, List.nodup_cons] at h
    exact h.2
theorem Wd.fz (w : Wd B ((p, o) :: M) H) : Ex B (upd B p o) := Ex.new (w.fr (p, o) List.mem_cons_self)
theorem Wd.drop {q : Addr × HO} (w : Wd B (q :: M) H) : Wd B M H where
  ex := w.ex
  mu := fun q hq => w.mu q (List.mem_cons_of_mem _ hq)
  fr := fun q hq => w.fr q (List.mem_cons_of_mem _ hq)
  nd := by
    have h := w.nd
    rw [List.map_cons, List.nodup_cons] at h
    exact h.2
theorem Wd.im (w : Wd B M H) (h : B b = some o) : H b = some o := w.ex b o h
theorem Wd.less (w : Wd B' M H) (e : Ex B B') : Wd B M H where
  ex := e.tr w.ex
  mu := w.mu
  fr := fun q hq => by
    cases h : B q.1 with
    | none => rfl
    | some o =>
      have := w.fr q hq
      rw [e _ _ h] at this
      cases this
  nd := w.nd
theorem Wd.perm {M' : List (Addr × HO)} (w : Wd B M H) (h : M.Perm M') : Wd B M' H :=
  ⟨w.ex, fun q hq => w.mu q (h.mem_iff.mpr hq), fun q hq => w.fr q (h.mem_iff.mpr hq), (h.map (·.1)).nodup_iff.mp w.nd⟩
theorem perm_pull {α : Type} : ∀ {M : List α} {k : Nat} {q : α}, M[k]? = some q → M.Perm (q :: M.eraseIdx k)
  | [], _, _, h => by simp at h
  | a :: M, 0, q, h => by
    simp at h
    subst h
    exact .refl _
  | a :: M, k + 1, q, h => by
    have h' : M[k]? = some q := by simpa using h
    rw [List.eraseIdx_cons_succ]
    exact ((perm_pull h').cons a).trans (.swap q a _)
theorem perm_push {α : Type} : ∀ {M : List α} {k : Nat} {q : α} (x : α), M[k]? = some q → (M.set k x).Perm (x :: M.eraseIdx k)
  | [], _, _, _, h => by simp at h
  | a :: M, 0, q, x, h => .refl _
  | a :: M, k + 1, q, x, h => by
    have h' : M[k]? = some q := by simpa using h
    rw [List.eraseIdx_cons_succ, List.set_cons_succ]
    exact ((perm_push x h').cons a).trans (.swap x a _)
/-- the k-th changing thing is drawn to the front, and put back -/
theorem Wd.pull (w : Wd B M H) {k : Nat} (hk : M[k]? = some (b, o)) : Wd B ((b, o) :: M.eraseIdx k) H := w.perm (perm_pull hk)
theorem Wd.push {k : Nat} (w : Wd B ((b, o') :: M.eraseIdx k) H) (hk : M[k]? = some (b, o)) : Wd B (M.set k (b, o')) H := w.perm (perm_push _ hk).symm
end

/-! ### steps, from the left -/
section
variable {σ : L2.St} {H B : Hp} {M : List (Addr × HO)} {Q : VK} {D : Ends} {te ta tb tx : TE} {t u : TS} {g : TG} {v x y : V} {c c' : TT} {QB : Bool → Hp → Prop} {tA tr : TA} {QA : List V → Hp → Prop} {K : PySem.W.Frag} {xs : List V}
theorem x_seq (h : t { D with nx := u D } σ H) : tSeq t u D σ H := h
theorem x_next (h : D.nx σ H) : tNext D σ H := h
theorem x_asg (h : te σ H fun x H1 => g x σ H1 D.nx) : tAsg te g D σ H := h
theorem x_name {i : Nat} {N : L2.St → Hp → Prop} (h : N (σ.set i (some v)) H) : gName i v σ H N := h
theorem x_ret (h : te σ H D.rt) : tRet te D σ H := h
theorem x_retN (h : D.rt .non H) : tRetN D σ H := h
theorem x_drop (h : te σ H fun _ H1 => D.nx σ H1) : tDrop te D σ H := h
theorem x_ifS (h : c σ H fun b H1 => if b = true then t D σ H1 else u D σ H1) : tIfS c t u D σ H := h
theorem x_par {i j : Nat} (h : tA σ H fun vs H1 => ∃ v w, vs = [v, w] ∧ D.nx ((σ.set i (some v)).set j (some w)) H1) : tPar i j tA D σ H := h
theorem x_pr {N : V → V → Prop} {v w : V} (h : N v w) : ∃ a b, [v, w] = [a, b] ∧ N a b := ⟨v, w, rfl, h⟩
theorem x_var {i : Nat} (hi : σ[i]? = some (some v)) (h : Q v H) : tVar i σ H Q := ⟨v, hi, h⟩
theorem x_c (h : Q v H) : tC v σ H Q := h
theorem x_op {r : R2} (h : ta σ H fun x H1 => tb σ H1 fun y H2 => r x y H2 Q) : tOp r ta tb σ H Q := h
theorem x_un {r : V → Hp → VK → Prop} (h : ta σ H fun x H1 => r x H1 Q) : tUn r ta σ H Q := h
theorem x_cb {r : List V → Hp → VK → Prop} (h : tA σ H fun vs H1 => r vs H1 Q) : tCB r tA σ H Q := h
theorem x_nil (h : QA [] H) : tNil σ H QA := h
theorem x_cons (h : ta σ H fun x H1 => tr σ H1 fun xs H2 => QA (x :: xs) H2) : tCons ta tr σ H QA := h
theorem x_if (h : c σ H fun k H1 => if k = true then ta σ H1 Q else tb σ H1 Q) : tIf c ta tb σ H Q := h
theorem x_andV (h : ta σ H fun x H1 => ∃ c, x = .bl c ∧ if c = true then tb σ H1 Q else Q (.bl false) H1) : tAndV ta tb σ H Q := h
theorem x_orV (h : ta σ H fun x H1 => ∃ c, x = .bl c ∧ if c = true then Q (.bl true) H1 else tb σ H1 Q) : tOrV ta tb σ H Q := h
theorem x_notV (h : ta σ H fun x H1 => ∃ c, x = .bl c ∧ Q (.bl (!c)) H1) : tNotV ta σ H Q := h
theorem x_bl {k : Bool} {N : Bool → Prop} (h : N k) : ∃ c, V.bl k = .bl c ∧ N c := ⟨k, rfl, h⟩
theorem x_tTest (h : te σ H fun x H' => ∃ k, x = .bl k ∧ QB k H') : tTest te σ H QB := h
theorem x_tB (h : te σ H fun x H' => ∃ k, x = .bl k ∧ QB k H') : tB te σ H QB := h
theorem x_tAnd (h : c σ H fun k H1 => if k = true then c' σ H1 QB else QB false H1) : tAnd c c' σ H QB := h
theorem x_tOr (h : c σ H fun k H1 => if k = true then QB true H1 else c' σ H1 QB) : tOr c c' σ H QB := h
theorem x_tNot (h : c σ H fun k H1 => QB (!k) H1) : tNot c σ H QB := h
theorem x_call {sp : Sp} {E : XK} (h : tA σ H fun vs H1 => sp vs H1 Q E) : tCall sp [] E tA σ H Q := by
  have e : (fun vs H1 => sp vs H1 Q E) = fun vs H1 => sp (vs ++ []) H1 Q E := by
    funext vs H1
    rw [List.append_nil]
  show tA σ H fun vs H1 => sp (vs ++ []) H1 Q E
  rw [← e]
  exact h
/-- numbers -/
theorem x_I0 {f : Int → Int → V} {i j : Int} (h : Q (f i j) H) : rI0 f (.int i) (.int j) H Q := ⟨i, j, rfl, rfl, h⟩
theorem x_I {C : Int → Int → Prop} {f : Int → Int → V} {i j : Int} (hc : C i j) (h : Q (f i j) H) : rI C f (.int i) (.int j) H Q := ⟨i, j, rfl, rfl, hc, h⟩
theorem x_U {f : Int → V} {i : Int} (h : Q (f i) H) : rU f (.int i) H Q := ⟨i, rfl, h⟩
theorem x_eq (hs : scal x y = true) (h : Q (.bl (decide (x = y))) H) : rEq x y H Q := ⟨hs, h⟩
theorem x_ne (hs : scal x y = true) (h : Q (.bl (!decide (x = y))) H) : rNe x y H Q := ⟨hs, h⟩
theorem dec_ii {i j : Int} : decide (V.int i = V.int j) = decide (i = j) := by simp
theorem dec_ss {i j : Str} : decide (V.str i = V.str j) = decide (i = j) := by simp
theorem x_eqI {i j : Int} (h : Q (.bl (decide (i = j))) H) : rEq (.int i) (.int j) H Q := ⟨rfl, by rw [dec_ii]; exact h⟩
theorem x_neI {i j : Int} (h : Q (.bl (!decide (i = j))) H) : rNe (.int i) (.int j) H Q := ⟨rfl, by rw [dec_ii]; exact h⟩
theorem x_eqS {i j : Str} (h : Q (.bl (decide (i = j))) H) : rEq (.str i) (.str j) H Q := ⟨rfl, by rw [dec_ss]; exact h⟩
theorem x_neS {i j : Str} (h : Q (.bl (!decide (i = j))) H) : rNe (.str i) (.str j) H Q := ⟨rfl, by rw [dec_ss]; exact h⟩
/-- a new tuple, a new list -/
def KT (xs : List V) (H : Hp) (Q : VK) : Prop := xs.length ≤ sizeLine ∧ ∀ p, H p = none → Q (.ref p) (upd H p (.tup xs))
def KL (xs : List V) (H : Hp) (Q : VK) : Prop := xs.length ≤ sizeLine ∧ ∀ p, H p = none → Q (.ref p) (upd H p (.lst xs))
theorem x_tup (h : tA σ H fun xs H1 => KT xs H1 Q) : tTup tA σ H Q := h
theorem x_lst (h : tA σ H fun xs H1 => KL xs H1 Q) : tLst tA σ H Q := h
theorem x_kt (w : Wd B M H) (hl : Nat.ble xs.length 100000 = true) (k : ∀ p B' H', Ex B B' → B' p = some (.tup xs) → Wd B' M H' → Q (.ref p) H') : KT xs H Q :=
  ⟨sz_of (Nat.le_of_ble_eq_true hl), fun p np => k p _ _ (Ex.new (w.free np)) upd_same (w.alloc np _)⟩
theorem x_kl (w : Wd B M H) (hl : Nat.ble xs.length 100000 = true) (k : ∀ p B' H', Ex B B' → B' p = some (.lst xs) → Wd B' M H' → Q (.ref p) H') : KL xs H Q :=
  ⟨sz_of (Nat.le_of_ble_eq_true hl), fun p np => k p _ _ (Ex.new (w.free np)) upd_same (w.alloc np _)⟩
theorem x_klM (w : Wd B M H) (hl : Nat.ble xs.length 100000 = true) (k : ∀ p H', Wd B ((p, .lst xs) :: M) H' → Q (.ref p) H') : KL xs H Q :=
  ⟨sz_of (Nat.le_of_ble_eq_true hl), fun p np => k p _ (w.allocM np _)⟩
/-- lists read and written -/
theorem x_ixL {p : Addr} {i : Int} (h1 : SqL K H p xs) (h2 : atI xs i = some v) (h : Q v H) : rIxL K (.ref p) (.int i) H Q := ⟨p, xs, i, v, rfl, rfl, h1, h2, h⟩
theorem x_ixT {p : Addr} {i : Int} (h1 : SqT K H p xs) (h2 : atI xs i = some v) (h : Q v H) : rIxT K (.ref p) (.int i) H Q := ⟨p, xs, i, v, rfl, rfl, h1, h2, h⟩
theorem x_gSub {to ti : TE} {s : TSet} {N : L2.St → Hp → Prop} (h : to σ H fun o H1 => ti σ H1 fun i H2 => s o i v H2 fun H3 => N σ H3) : gSub to ti s v σ H N := h
theorem x_setL (w : Wd B M H) {l : Addr} {k j : Nat} {i : Int} {N : Hp → Prop} (hk : M[k]? = some (l, .lst xs)) (hj : ixN xs.length i = some j) (h : ∀ H', Wd B (M.set k (l, .lst (xs.set j v))) H' → N H') : rSetL (.ref l) (.int i) v H N :=
  ⟨l, xs, i, j, rfl, rfl, w.get hk, hj, h _ (w.set hk _)⟩
/-- attributes -/
def Fd (K : PySem.W.Frag) (f : Str) (x : V) (H : Hp) (Q : VK) : Prop := ∃ a C dx fs v, x = .ref a ∧ H a = some (.ins C dx fs) ∧ Cls K C ∧ NoAttr K C f ∧ fs.lookup f = some v ∧ Q v H
theorem x_fld {f : Str} (h : ta σ H fun x H1 => Fd K f x H1 Q) : tFld K ta f σ H Q := h
theorem x_fd {a C dx : Addr} {fs : List (Str × V)} {f : Str} (h1 : H a = some (.ins C dx fs)) (c : Cls K C) (n : NoAttr K C f) (l : fs.lookup f = some v) (h : Q v H) : Fd K f (.ref a) H Q := ⟨a, C, dx, fs, v, rfl, h1, c, n, l, h⟩
def Sfd (K : PySem.W.Frag) (f : Str) (x y : V) (H : Hp) (N : Hp → Prop) : Prop := ∃ a C dx fs, x = .ref a ∧ H a = some (.ins C dx fs) ∧ Cls K C ∧ NoAttr K C f ∧ fs.length < 1000 ∧ N (upd H a (.ins C dx (putF f y fs)))
theorem x_sFld {f : Str} {tv : TE} (h : tv σ H fun y H1 => ta σ H1 fun x H2 => Sfd K f x y H2 (D.nx σ)) : sFld K ta tv f D σ H := h
theorem x_sfd {a C dx : Addr} {fs : List (Str × V)} {f : Str} {N : Hp → Prop} (h1 : H a = some (.ins C dx fs)) (c : Cls K C) (n : NoAttr K C f) (l : Nat.blt fs.length 1000 = true) (h : N (upd H a (.ins C dx (putF f y fs)))) :
    Sfd K f (.ref a) y H N := ⟨a, C, dx, fs, rfl, h1, c, n, Nat.le_of_ble_eq_true l, h⟩
end

/-! ### tests -/
theorem i_t {A C : Prop} (h : A) : if true = true then A else C := iteT h
theorem i_f {A C : Prop} (h : C) : if false = true then A else C := iteF h
theorem i_nt {A C : Prop} (h : C) : if (!true) = true then A else C := iteF h
theorem i_nf {A C : Prop} (h : A) : if (!false) = true then A else C := iteT h
theorem i_d {p A C : Prop} [Decidable p] (h1 : p → A) (h2 : ¬ p → C) : if decide p = true then A else C := by
  by_cases h : p
  · rw [decide_eq_true h]; exact iteT (h1 h)
  · rw [decide_eq_false h]; exact iteF (h2 h)
theorem i_nd {p A C : Prop} [Decidable p] (h1 : ¬ p → A) (h2 : p → C) : if (!decide p) = true then A else C := by
  by_cases h : p
  · rw [decide_eq_true h]; exact iteF (h2 h)
  · rw [decide_eq_false h]; exact iteT (h1 h)
theorem i_b {b : Bool} {A C : Prop} (h1 : b = true → A) (h2 : b = false → C) : if b = true then A else C := by
  cases b with
  | true => exact iteT (h1 rfl)
  | false => exact iteF (h2 rfl)
end Sy

/-! Defs by their names, classes by theirs, own operators. -/
namespace Sy
open PySem PySem.Spec PyProof.Rows L2

/-- the def called x keeps its promise -/
structure Dn (CX : CXT) (P : Program) (w : World) (K : PySem.W.Frag) (mg : Str → Option Value) (base : Heap) (x : Str) (k : Nat) (ps : List Str) (sp : Sp) : Prop where
  ok : ∃ (f : Addr) (fd : FuncData), mg x = some (.ref f) ∧ PySem.W.keepIn K (.ref f) = true ∧ Binds K fd ps [] ∧ FnOk P w K mg base CX k f fd ps sp
/-- the method m of the class at C keeps its promise -/
structure Mt (CX : CXT) (P : Program) (w : World) (K : PySem.W.Frag) (mg : Str → Option Value) (base : Heap) (C : Addr) (m : Str) (k : Nat) (ps : List Str) (sp : Sp) : Prop where
  ok : ∃ (f : Addr) (fd : FuncData), Meth K C m f ∧ Binds K fd ps [] ∧ FnOk P w K mg base CX k f fd ps sp
/-- the class called x stands at C -/
structure Kl (K : PySem.W.Frag) (mg : Str → Option Value) (x : Str) (C : Addr) : Prop where
  ic : C8.InsC K C
  gl : mg x = some (.ref C)
  mks : PySem.W.makesIn K C = true
  kp : PySem.W.keepIn K (.ref C) = true
  sf : PySem.W.selfFirst K C = true

section
variable {X : Cx} {CX : CXT} {k j : Nat} {C : Addr} {ps : List Str} {sp : Sp} {E : XK} {x m : Str} {p pos apos : Pos} {e o : Expr} {es : List Expr} {ta : TE} {t : TA}
theorem pe_dn (D : Dn CX X.prog X.w X.K X.mg X.base x j ps sp) (hr : Room k X.A) (hj : j ≤ k) (hg : Gl X x) (hx : Passes CX X E) (ha : PA X (e :: es) t)
    (hdb : (x == ("__debug__" : Str)) = false := by decide) (he : starEach (e :: es) X.env = (false, eval e X.env) :: starEach es X.env := by rfl) (hpl : (backTo pos (starEach es X.env)).any (·.1) = false := by rfl) :
    PE X (.Call (.Name x p) (e :: es) [] pos) (tCall sp [] E t) := by
  obtain ⟨f, fd, h1, h2, h3, h4⟩ := D.ok
  exact pe_call h4 (hr.mono hj) hg h1 h2 h3 .nil hx ha hdb he hpl
theorem pe_dn0 (D : Dn CX X.prog X.w X.K X.mg X.base x j ps sp) (hr : Room k X.A) (hj : j ≤ k) (hg : Gl X x) (hx : Passes CX X E)
    (hdb : (x == ("__debug__" : Str)) = false := by decide) : PE X (.Call (.Name x p) [] [] pos) (tCall sp [] E tNil) := by
  obtain ⟨f, fd, h1, h2, h3, h4⟩ := D.ok
  exact pe_call0 h4 (hr.mono hj) hg h1 h2 h3 .nil hx hdb
/-- C(e, ..) -/
theorem pe_kl (c : Kl X.K X.mg x C) (D : Mt CX X.prog X.w X.K X.mg X.base C "__init__" j ps sp) (hr : Room k X.A) (hj : j + 1 ≤ k) (hg : Gl X x) (hx : Passes CX X E) (ha : PA X (e :: es) t)
    (hdb : (x == ("__debug__" : Str)) = false := by decide) (he : starEach (e :: es) X.env = (false, eval e X.env) :: starEach es X.env := by rfl) (hpl : (backTo pos (starEach es X.env)).any (·.1) = false := by rfl) :
    PE X (.Call (.Name x p) (e :: es) [] pos) (tMake C sp [] E t) := by
  obtain ⟨f, fd, h1, h3, h4⟩ := D.ok
  exact pe_make ⟨c.mks, h1.at_, h1.fn, c.kp⟩ h4 (hr.mono hj) hg c.gl h3 .nil hx ha hdb he hpl
/-- the callee runs, at any around that is as wide -/
theorem run_at {f : Addr} {fd : FuncData} {pins : List (Addr × Obj)} {σ : L2.St} {H : Hp} {s : Shared} {Q : VK} {us : List Value} {vs : List V} {A : Around} (hfr : A.frames = X.A.frames) (F : FnOk X.prog X.w X.K X.mg X.base CX k f fd ps sp) (hr : Room k A)
    (hb : Binds X.K fd ps []) (hx : Passes CX X E) (I : Inv X pins σ H s) (r : Vals vs us) (h : sp vs H Q E) : wpAny (model X.prog X.w) A (call (.ref f) us) (EP X pins σ Q) X.xe s := by
  have e0 : Env0 X.prog X.w X.K X.mg X.base A X.stack s H := by
    have e := I.env0
    exact ⟨by rw [hfr]; exact e.frames, e.mod, e.bs, e.bsz, e.funs, e.frf, e.hok, e.bare⟩
  have hl : us.length = ps.length := by rw [← r.length]; exact F.len _ _ _ _ h
  refine wpAny_call (codeAny_mono (F.run A X.stack s H ⟨us, []⟩ us vs Q E hr e0 (by
    have := hb s us I.kIn (by simpa using hl)
    simpa using this) r h) fun r s' hq => ?_)
  cases r with
  | error e => exact hx pins σ H s e s' I hq
  | ok fl =>
    cases fl with
    | ret u => exact I.after hq
    | next => exact False.elim hq
    | brk => exact False.elim hq
    | cont => exact False.elim hq
theorem no_ni {x : V} {u : Value} (r : RelV x u) : u ≠ .notImplemented := by
  intro e
  subst e
  cases x <;> first
    | exact nomatch r
    | (obtain ⟨_, q⟩ := r; exact nomatch q)
theorem cmpBack_of {Q : Value → Shared → Prop} {u : Value} {s' : Shared} (n : u ≠ .notImplemented) (q : Q u s') : PySem.W.CmpBack Q u s' := by
  cases u <;> first
    | exact absurd rfl n
    | exact q
/-- a op b of two instances of the class at C, by its own method -/
def rOwn (C : Addr) (sp : Sp) (E : XK) : R2 := fun x y H Q => ∃ a b dx dy fs gs, x = .ref a ∧ y = .ref b ∧ H a = some (.ins C dx fs) ∧ H b = some (.ins C dy gs) ∧ sp [x, y] H Q E
theorem op_own {op : Operator} (D : Mt CX X.prog X.w X.K X.mg X.base C m j ps sp) (c : Kl X.K X.mg x C) (hr : Room k X.A) (hj : j ≤ k) (hx : Passes CX X E) (e : PySem.dunder op.info.2 = m := by decide +kernel) : OpR X (binaryOp op) (rOwn C sp E) := by
  obtain ⟨f, fd, h1, hb, F⟩ := D.ok
  subst e
  intro pins s σ H x y v u Q I rx ry hq
  obtain ⟨a, b, dx, dy, fs, gs, rfl, rfl, ha, hb', q⟩ := hq
  cases rx
  cases ry
  obtain ⟨mA, J, _⟩ := ins_get I.hok ha
  obtain ⟨mB, J', _⟩ := ins_get I.hok hb'
  obtain ⟨od, J, _⟩ := J.look
  obtain ⟨od', J', _⟩ := J'.look
  obtain ⟨m', hF⟩ := I.fr
  have r2 : Vals [V.ref a, V.ref b] [Value.ref a, Value.ref b] := .cons rfl (.cons rfl .nil)
  refine PySem.W.binop_K hF I.ok.mod.kin J J'.type c.sf h1.at_ h1.fn (wpAny_mono (run_at rfl F (hr.mono hj) hb hx I r2 q) (fun w s' z => ?_) fun _ _ z => z)
  obtain ⟨v, H', I', r, q'⟩ := z
  exact cmpBack_of (no_ni r) ⟨v, H', I', r, q'⟩
/-- -a -/
def rOwn1 (C : Addr) (sp : Sp) (E : XK) : V → Hp → VK → Prop := fun x H Q => ∃ a dx fs, x = .ref a ∧ H a = some (.ins C dx fs) ∧ sp [x] H Q E
theorem un_own (D : Mt CX X.prog X.w X.K X.mg X.base C "__neg__" j ps sp) (hr : Room k X.A) (hj : j ≤ k) (hx : Passes CX X E) : UnR X (unaryOp .USub) (rOwn1 C sp E) := by
  obtain ⟨f, fd, h1, hb, F⟩ := D.ok
  intro pins s σ H x v Q I rx hq
  obtain ⟨a, dx, fs, rfl, ha, q⟩ := hq
  cases rx
  obtain ⟨mA, J, _⟩ := ins_get I.hok ha
  obtain ⟨od, J, _⟩ := J.look
  obtain ⟨m', hF⟩ := I.fr
  exact PySem.W.ksp_neg hF I.ok.mod.kin J h1.at_ h1.fn (run_at rfl F (hr.mono hj) hb hx I (show Vals [V.ref a] [Value.ref a] from .cons rfl .nil) q)
/-- abs(a) -/
def rOwnC (C : Addr) (sp : Sp) (E : XK) : List V → Hp → VK → Prop := fun xs H Q => ∃ a dx fs, xs = [.ref a] ∧ H a = some (.ins C dx fs) ∧ sp xs H Q E
theorem call_absO (D : Mt CX X.prog X.w X.K X.mg X.base C "__abs__" j ps sp) (hr : Room k X.A) (hj : j + 1 ≤ k) (hx : Passes CX X E) : CallR X (.builtin "abs") (rOwnC C sp E) := by
  obtain ⟨f, fd, h1, hb, F⟩ := D.ok
  intro pins s σ H xs us Q I r hq
  obtain ⟨a, dx, fs, rfl, ha, q⟩ := hq
  obtain ⟨u, rfl, ru⟩ := vals1 r
  cases ru
  obtain ⟨mA, J, _⟩ := ins_get I.hok ha
  obtain ⟨od, J, _⟩ := J.look
  refine PySem.Calls.call_function_entry PyProof.Rows.kind_abs PyProof.Rows.plain_abs PyProof.Rows.entry_abs (PyProof.Rows.args_abs _) ?_
  unfold Builtin.«abs»
  refine wpAny_bind (m := oneArg "abs" _) (wpAny_pure ?_)
  have hA : X.A.in1.frames = X.A.frames := rfl
  refine wpAny_bind (m := callSpecial? (.ref a) (Str.ofString "__abs__")) (PySem.W.special_fn I.kIn J h1.at_ (beq_iff_eq.mp h1.fn) (wpAny_mono (run_at hA F ((hr.mono hj).in1) hb hx I (show Vals [V.ref a] [Value.ref a] from .cons rfl .nil) q) (fun w s' z => ?_) fun _ _ z => z))
  exact wpAny_pure ⟨_, rfl, z⟩
end

/-! ### isinstance -/
section
variable {K : PySem.W.Frag} {H : Hp} {Q : VK} {x c : V} {t u : Value} {b : Bool} {C : Addr}
theorem x_isi (ty : TyX K H x t) (cv : ClsV c u) (k : PySem.W.kitOne K t u = some b) (h : Q (.bl b) H) : rIsi K [x, c] H Q := ⟨x, c, t, u, b, rfl, cv, ty, k, h⟩
theorem x_isi_ii {i : Int} (h : Q (.bl true) H) : rIsi K [.int i, .ty "int"] H Q := x_isi (.base (.int i)) (.ty _) (kit_ty (by decide +kernel)) h
theorem x_isi_ib {i : Int} (h : Q (.bl false) H) : rIsi K [.int i, .ty "bool"] H Q := x_isi (.base (.int i)) (.ty _) (kit_ty (by decide +kernel)) h
theorem x_isi_bi {i : Bool} (h : Q (.bl true) H) : rIsi K [.bl i, .ty "int"] H Q := x_isi (.base (.bl i)) (.ty _) (kit_ty (by decide +kernel)) h
theorem x_isi_bb {i : Bool} (h : Q (.bl true) H) : rIsi K [.bl i, .ty "bool"] H Q := x_isi (.base (.bl i)) (.ty _) (kit_ty (by decide +kernel)) h
theorem x_isi_is {i : Int} (h : Q (.bl false) H) : rIsi K [.int i, .ty "str"] H Q := x_isi (.base (.int i)) (.ty _) (kit_ty (by decide +kernel)) h
theorem x_isi_ss {i : Str} (h : Q (.bl true) H) : rIsi K [.str i, .ty "str"] H Q := x_isi (.base (.str i)) (.ty _) (kit_ty (by decide +kernel)) h
theorem x_isi_o {a dx : Addr} {fs : List (Str × V)} (ic : C8.InsC K C) (ha : H a = some (.ins C dx fs)) (h : Q (.bl true) H) : rIsi K [.ref a, .ref C] H Q :=
  x_isi (.base (.ins ha ic.cl ic.ha ic.hn ic.htk ic.hm)) (.own C) ic.me h
end
section
variable {X : Cx}
def rAbs : List V → Hp → VK → Prop := fun xs H Q => ∃ i, xs = [.int i] ∧ Q (.int (if i < 0 then -i else i)) H
theorem c_abs : CallR X (.builtin "abs") rAbs := call_abs
def rInt : List V → Hp → VK → Prop := fun xs H Q => (∃ i, xs = [.int i] ∧ Q (.int i) H) ∨ ∃ k, xs = [.bl k] ∧ Q (.int (if k then 1 else 0)) H
theorem c_int : CallR X (.type "int") rInt := call_int1
def rMx : List V → Hp → VK → Prop := fun xs H Q => ∃ i j, xs = [.int i, .int j] ∧ Q (.int (if j > i then j else i)) H
theorem c_max (hc : X.calm = true) : CallR X (.builtin "max") rMx := call_max2 hc
def rMn : List V → Hp → VK → Prop := fun xs H Q => ∃ i j, xs = [.int i, .int j] ∧ Q (.int (if j < i then j else i)) H
theorem c_min (hc : X.calm = true) : CallR X (.builtin "min") rMn := call_min2 hc
def rLn (K : PySem.W.Frag) : List V → Hp → VK → Prop := fun xs H Q => ∃ p ys, xs = [.ref p] ∧ (SqL K H p ys ∨ SqT K H p ys) ∧ Q (.int ys.length) H
theorem c_len : CallR X (.builtin "len") (rLn X.K) := call_len_seq
def rStrI : List V → Hp → VK → Prop := fun xs H Q => ∃ i, xs = [.int i] ∧ i.natAbs.log2 < 1920 ∧ Q (.str (toString i)) H
theorem c_strI : CallR X (.type "str") rStrI := call_str_int
variable {H : Hp} {Q : VK} {K : PySem.W.Frag}
theorem x_abs {i : Int} (h : Q (.int (if i < 0 then -i else i)) H) : rAbs [.int i] H Q := ⟨i, rfl, h⟩
theorem x_intI {i : Int} (h : Q (.int i) H) : rInt [.int i] H Q := .inl ⟨i, rfl, h⟩
theorem x_intB {k : Bool} (h : Q (.int (if k then 1 else 0)) H) : rInt [.bl k] H Q := .inr ⟨k, rfl, h⟩
theorem x_max {i j : Int} (h : Q (.int (if j > i then j else i)) H) : rMx [.int i, .int j] H Q := ⟨i, j, rfl, h⟩
theorem x_min {i j : Int} (h : Q (.int (if j < i then j else i)) H) : rMn [.int i, .int j] H Q := ⟨i, j, rfl, h⟩
theorem x_lenL {p : Addr} {xs : List V} (h1 : SqL K H p xs) (h : Q (.int xs.length) H) : rLn K [.ref p] H Q := ⟨p, xs, rfl, .inl h1, h⟩
theorem x_lenT {p : Addr} {xs : List V} (h1 : SqT K H p xs) (h : Q (.int xs.length) H) : rLn K [.ref p] H Q := ⟨p, xs, rfl, .inr h1, h⟩
theorem x_own2 {C a b dx dy : Addr} {fs gs : List (Str × V)} {sp : Sp} {E : XK} (ha : H a = some (.ins C dx fs)) (hb : H b = some (.ins C dy gs)) (h : sp [.ref a, .ref b] H Q E) : rOwn C sp E (.ref a) (.ref b) H Q := ⟨a, b, dx, dy, fs, gs, rfl, rfl, ha, hb, h⟩
theorem x_own1 {C a dx : Addr} {fs : List (Str × V)} {sp : Sp} {E : XK} (ha : H a = some (.ins C dx fs)) (h : sp [.ref a] H Q E) : rOwn1 C sp E (.ref a) H Q := ⟨a, dx, fs, rfl, ha, h⟩
theorem x_ownC {C a dx : Addr} {fs : List (Str × V)} {sp : Sp} {E : XK} (ha : H a = some (.ins C dx fs)) (h : sp [.ref a] H Q E) : rOwnC C sp E [.ref a] H Q := ⟨a, dx, fs, rfl, ha, h⟩
/-- C(..): the new instance, and its own dict -/
def MkI (C : Addr) (sp : Sp) (E : XK) (vs : List V) (H : Hp) (Q : VK) : Prop := ∀ x dx, H x = none → H dx = none → dx ≠ x → sp (.ref x :: vs) (upd (upd H dx (.own x)) x (.ins C dx [])) (fun v H2 => v = .non ∧ Q (.ref x) H2) E
theorem x_make {C : Addr} {σ : L2.St} {sp : Sp} {E : XK} {t : TA} (h : t σ H fun vs H1 => MkI C sp E vs H1 Q) : tMake C sp [] E t σ H Q := by
  show t σ H fun vs H1 => MkI C sp E (vs ++ []) H1 Q
  have e : (fun vs H1 => MkI C sp E vs H1 Q) = fun vs H1 => MkI C sp E (vs ++ []) H1 Q := by
    funext vs H1
    rw [List.append_nil]
  rw [← e]
  exact h
end
theorem i_dT {p A C : Prop} [Decidable p] (hp : p) (h : A) : if decide p = true then A else C := by
  rw [decide_eq_true hp]; exact iteT h
theorem i_dF {p A C : Prop} [Decidable p] (hp : ¬ p) (h : C) : if decide p = true then A else C := by
  rw [decide_eq_false hp]; exact iteF h
theorem i_ndT {p A C : Prop} [Decidable p] (hp : p) (h : C) : if (!decide p) = true then A else C := by
  rw [decide_eq_true hp]; exact iteF h
theorem i_ndF {p A C : Prop} [Decidable p] (hp : ¬ p) (h : A) : if (!decide p) = true then A else C := by
  rw [decide_eq_false hp]; exact iteT h
section
variable {B H : Hp} {M : List (Addr × HO)} {Q : VK} {K : PySem.W.Frag} {σ : L2.St} {D : Ends} {g : TG} {tb : TS} {tl : TE} {xs zs : List V}
theorem x_cat {l b : Addr} (w : Wd B M H) (h1 : H l = some (.lst xs)) (h2 : H b = some (.lst zs)) (hl : Nat.ble (xs.length + zs.length) 100000 = true) (k : ∀ p B' H', Ex B B' → B' p = some (.lst (xs ++ zs)) → Wd B' M H' → Q (.ref p) H') :
    rCat (.ref l) (.ref b) H Q := ⟨l, b, xs, zs, rfl, rfl, h1, h2, sz_of (Nat.le_of_ble_eq_true hl), fun p np => k p _ _ (Ex.new (w.free np)) upd_same (w.alloc np _)⟩
/-- for .. in a list -/
def ForL (K : PySem.W.Frag) (g : TG) (tb : TS) (D : Ends) (σ : L2.St) (x : V) (H : Hp) : Prop := ∃ a, x = .ref a ∧ (∃ xs, SqL K H a xs) ∧ ∃ W : Nat → Nat → L2.St → Hp → Prop, (∃ m, W 0 m σ H) ∧ ∀ i m σ H, W i m σ H →
  ((Itl K a).stop i H ∧ D.nx σ H) ∨ ((Itl K a).go i H ∧ ∃ N : L2.St → Hp → Prop, (∀ σ' H', N σ' H' → ∃ m', m' < m ∧ W (i + 1) m' σ' H') ∧ ∀ x H', (Itl K a).yld i H x H' → g x σ H' fun σ2 H2 => tb { D with nx := N, ct := N, bk := D.nx } σ2 H2)
theorem x_for (h : tl σ H fun x H1 => ForL K g tb D σ x H1) : tFor (iList K tl) g tb D σ H := h
theorem x_forL {a : Addr} (Pv : Nat → L2.St → Hp → Prop) (hx : SqL K H a xs) (h0 : Pv 0 σ H) (hl : ∀ i σ H, i ≤ xs.length → Pv i σ H → SqL K H a xs)
    (hs : ∀ i x σ H, xs[i]? = some x → Pv i σ H → g x σ H fun σ2 H2 => tb { D with nx := Pv (i + 1), ct := Pv (i + 1), bk := D.nx } σ2 H2) (hd : ∀ σ H, Pv xs.length σ H → D.nx σ H) : ForL K g tb D σ (.ref a) H :=
  ⟨a, rfl, ⟨xs, hx⟩, for_list (K := K) (a := a) (xs := xs) Pv h0 hl hs hd⟩
/-- for .. in range(n) -/
def ForR (g : TG) (tb : TS) (D : Ends) (σ : L2.St) (vs : List V) (H : Hp) : Prop := ∃ j : Int, vs = [.int j] ∧ -(2 ^ 62) ≤ j ∧ j < 2 ^ 62 ∧ ∃ W : Nat → Nat → L2.St → Hp → Prop, (∃ m, W 0 m σ H) ∧ ∀ i m σ H, W i m σ H →
  ((Itr 0 j.toNat).stop i H ∧ D.nx σ H) ∨ ((Itr 0 j.toNat).go i H ∧ ∃ N : L2.St → Hp → Prop, (∀ σ' H', N σ' H' → ∃ m', m' < m ∧ W (i + 1) m' σ' H') ∧ ∀ x H', (Itr 0 j.toNat).yld i H x H' → g x σ H' fun σ2 H2 => tb { D with nx := N, ct := N, bk := D.nx } σ2 H2)
theorem x_forr {ta : TA} (h : ta σ H fun vs H1 => ForR g tb D σ vs H1) : tFor (iRng1 ta) g tb D σ H := h
theorem x_forR {j : Int} (Pv : Nat → L2.St → Hp → Prop) (hj : -100000 ≤ j ∧ j ≤ 100000) (h0 : Pv 0 σ H)
    (hs : ∀ (i : Nat) σ H, (i : Int) < j → Pv i σ H → g (.int (i : Int)) σ H fun σ2 H2 => tb { D with nx := Pv (i + 1), ct := Pv (i + 1), bk := D.nx } σ2 H2) (hd : ∀ σ H, Pv j.toNat σ H → D.nx σ H) : ForR g tb D σ [.int j] H :=
  ⟨j, rfl, by omega, by omega, for_range (lo := 0) (n := j.toNat) Pv h0 (fun i σ H hi p => by
    have e : (0 : Int) + (i : Int) = (i : Int) := Int.zero_add _
    rw [e]
    exact hs i σ H (by omega) p) hd⟩
/-- a, b = t -/
theorem x_gTup {n : Nat} {t : TGs} {a : Addr} {N : L2.St → Hp → Prop} (h1 : SqT K H a xs) (hn : Nat.beq xs.length n = true) (h : t xs σ H N) : gTup K n t (.ref a) σ H N := ⟨a, xs, rfl, h1, Nat.eq_of_beq_eq_true hn, h⟩
theorem x_gCons {t : TG} {u : TGs} {v : V} {r : List V} {N : L2.St → Hp → Prop} (h : t v σ H fun σ' H' => u r σ' H' N) : gCons t u (v :: r) σ H N := ⟨v, r, rfl, h⟩
theorem x_gNil {N : L2.St → Hp → Prop} (h : N σ H) : gNil [] σ H N := ⟨rfl, h⟩
end
/-- of all of a list -/
def Alw (P : V → Prop) (xs : List V) : Prop := ∀ v ∈ xs, P v
theorem al_nil {P : V → Prop} : Alw P [] := fun _ h => nomatch h
theorem al_cons {P : V → Prop} {x : V} {xs : List V} (h : P x) (t : Alw P xs) : Alw P (x :: xs) := fun v hv => by
  rcases List.mem_cons.mp hv with rfl | hv
  · exact h
  · exact t v hv
theorem al_app {P : V → Prop} {xs ys : List V} (h : Alw P xs) (t : Alw P ys) : Alw P (xs ++ ys) := fun v hv => by
  rcases List.mem_append.mp hv with hv | hv
  · exact h v hv
  · exact t v hv
theorem x_forA {B H : Hp} {M : List (Addr × HO)} {K : PySem.W.Frag} {σ : L2.St} {D : Ends} {g : TG} {tb : TS} {xs : List V} {P : V → Prop} {a : Addr} (w : Wd B M H) (ha : B a = some (.lst xs)) (al : Alw P xs) (Pv : L2.St → Hp → Prop) (h0 : Pv σ H) (hw : ∀ σ H, Pv σ H → Ex B H)
    (hs : ∀ x σ H, P x → Pv σ H → g x σ H fun σ2 H2 => tb { D with nx := Pv, ct := Pv, bk := D.nx } σ2 H2) (hd : ∀ σ H, Pv σ H → D.nx σ H) : ForL K g tb D σ (.ref a) H :=
  x_forL (xs := xs) (fun _ => Pv) (sl_of (w.im ha)) h0 (fun _ σ H _ p => sl_of (hw σ H p a _ ha)) (fun i x σ H hx p => hs x σ H (al x (List.mem_of_getElem? hx)) p) hd
end Sy

/-! What the top has written, def by def and class by class; more rules. -/
namespace Sy
open PySem PySem.Spec PyProof.Rows L2

/-- a def of the top, as it stands in the written part -/
structure FF (K : PySem.W.Frag) (x : Str) (st : Stmt) : Prop where
  ok : ∃ (f : Addr) (oc : Value) (od : Option Addr) (kV doc pm : Value) (an : Option Addr) (cdv ct : Value) (osl : Array (Option Value)),
    PySem.W.nsIn K mainGlobals x = some (some (.ref f)) ∧ K.lookup f = some ⟨oc, od, .func (PySem.W.fnOf x x (defArgs st) (defBody st) (defScope st) .none kV doc pm an cdv ct), osl⟩ ∧ PySem.W.codeIn K cdv x = true ∧ PySem.W.keepIn K (.ref f) = true
theorem ff_mk {K : PySem.W.Frag} {x : Str} {st : Stmt} {f : Addr} {oc : Value} {od : Option Addr} {kV doc pm : Value} {an : Option Addr} {cdv ct : Value} {osl : Array (Option Value)} (a : PySem.W.nsIn K mainGlobals x = some (some (.ref f)))
    (l : K.lookup f = some ⟨oc, od, .func (PySem.W.fnOf x x (defArgs st) (defBody st) (defScope st) .none kV doc pm an cdv ct), osl⟩) (c : PySem.W.codeIn K cdv x = true) (k : PySem.W.keepIn K (.ref f) = true) : FF K x st :=
  ⟨⟨f, oc, od, kV, doc, pm, an, cdv, ct, osl, a, l, c, k⟩⟩
/-- a method -/
structure MF (K : PySem.W.Frag) (C : Addr) (m qual : Str) (st : Stmt) : Prop where
  ok : ∃ (f : Addr) (oc : Value) (od : Option Addr) (kV doc pm : Value) (an : Option Addr) (cdv ct : Value) (osl : Array (Option Value)),
    PySem.W.findIn K (.ref C) m = some (some (.ref f)) ∧ PySem.W.isFn K (.ref f) = true ∧ K.lookup f = some ⟨oc, od, .func (PySem.W.fnOf m qual (defArgs st) (defBody st) (defScope st) .none kV doc pm an cdv ct), osl⟩ ∧ PySem.W.codeIn K cdv qual = true ∧ PySem.W.keepIn K (.ref f) = true
theorem mf_mk {K : PySem.W.Frag} {C : Addr} {m qual : Str} {st : Stmt} {f : Addr} {oc : Value} {od : Option Addr} {kV doc pm : Value} {an : Option Addr} {cdv ct : Value} {osl : Array (Option Value)} (a : PySem.W.findIn K (.ref C) m = some (some (.ref f))) (i : PySem.W.isFn K (.ref f) = true)
    (l : K.lookup f = some ⟨oc, od, .func (PySem.W.fnOf m qual (defArgs st) (defBody st) (defScope st) .none kV doc pm an cdv ct), osl⟩) (c : PySem.W.codeIn K cdv qual = true) (k : PySem.W.keepIn K (.ref f) = true) : MF K C m qual st :=
  ⟨⟨f, oc, od, kV, doc, pm, an, cdv, ct, osl, a, i, l, c, k⟩⟩
/-- a class of the top -/
structure KF (K : PySem.W.Frag) (x : Str) (C : Addr) : Prop where
  a : PySem.W.nsIn K mainGlobals x = some (some (.ref C))
  pg : PySem.W.plainGet K C Str.empty = true
  hd : PySem.W.hasDictIn K C = true
  po : PySem.W.plainOver K C = true
  sa : PySem.W.findIn K (.ref C) "__setattr__" = some (some (.builtin "object.__setattr__"))
  ha : PySem.W.findIn K (.ref C) "__class__" = some (some (.builtin "object.__class__"))
  hn : PySem.W.specialIn K (.builtin "object.__class__") "__get__" = some (some (.builtin "getset_descriptor.__get__"))
  htk : PySem.W.takesIn K (.builtin "object.__class__") = some true
  hm : PySem.W.mroIn K C (.type "object") = some true
  mks : PySem.W.makesIn K C = true
  kp : PySem.W.keepIn K (.ref C) = true
  sf : PySem.W.selfFirst K C = true
section
variable {CX : CXT} {P : Program} {w : World} {K : PySem.W.Frag} {mg : Str → Option Value} {base h : Heap} {x m qual : Str} {C : Addr} {st : Stmt} {k : Nat} {ps : List Str} {sp : Sp}
theorem kit_self {K : PySem.W.Frag} {t : Value} : PySem.W.kitOne K t t = some true := by
  unfold PySem.W.kitOne
  rw [if_pos (by simp)]
theorem KF.kl (c : KF K x C) (X : K.In h) (G : h.Ns mainGlobals mg) : Kl K mg x C :=
  ⟨⟨⟨c.pg, c.hd, c.po, c.sa⟩, c.ha, c.hn, c.htk, c.hm, kit_self⟩, PySem.W.mg_of X G c.a, c.mks, c.kp, c.sf⟩
theorem dn_mk (a : FF K x st) (X : K.In h) (G : h.Ns mainGlobals mg) (hb : ∀ {f : Addr} {fd : FuncData}, Fun K x x st f fd → Binds K fd ps []) (ok : ∀ {f : Addr} {fd : FuncData}, Fun K x x st f fd → FnOk P w K mg base CX k f fd ps sp) :
    Dn CX P w K mg base x k ps sp := by
  obtain ⟨f, oc, od, kV, doc, pm, an, cdv, ct, osl, h1, h2, h3, h4⟩ := a.ok
  have F := fun_mk (st := st) h2 h3 h4
  exact ⟨⟨f, _, PySem.W.mg_of X G h1, h4, hb F, ok F⟩⟩
theorem mt_mk (a : MF K C m qual st) (hb : ∀ {f : Addr} {fd : FuncData}, Fun K m qual st f fd → Binds K fd ps []) (ok : ∀ {f : Addr} {fd : FuncData}, Fun K m qual st f fd → FnOk P w K mg base CX k f fd ps sp) :
    Mt CX P w K mg base C m k ps sp := by
  obtain ⟨f, oc, od, kV, doc, pm, an, cdv, ct, osl, h1, h2, h3, h4, h5⟩ := a.ok
  have F := fun_mk (st := st) h3 h4 h5
  exact ⟨⟨f, _, ⟨h1, h2, h5⟩, hb F, ok F⟩⟩
end
section
variable {X : Cx} {x : Str} {C : Addr} {pos : Pos}
theorem pe_kn (c : Kl X.K X.mg x C) (hg : Gl X x) (hd : (x == ("__debug__" : Str)) = false := by decide) : PE X (.Name x pos) (tC (.ref C)) := pe_glob hg c.gl rfl hd
theorem pe_tyn {n : String} (hg : Gl X x) (hm : X.mg x = none) (hv : bootBuiltins x = some (.type n)) (hn : x ≠ "__name__" := by decide) (hd : (x == ("__debug__" : Str)) = false := by decide) : PE X (.Name x pos) (tC (.ty n)) := pe_bltn hg hm hv rfl hn hd
theorem op_mulA : OpR X (binaryOp .Mult) (rI IntMulOk fun i j => .int (i * j)) := opI fun _ _ _ _ _ _ _ hc q => mul_int q hc
theorem mul_r {i j : Int} (h : -(2 ^ 64) < j ∧ j < 2 ^ 64) : IntMulOk i j := CMul.ok (.inr h)
theorem mul_l {i j : Int} (h : -(2 ^ 64) < i ∧ i < 2 ^ 64) : IntMulOk i j := CMul.ok (.inl h)
/-- a module's name, by its value -/
structure Cn (mg : Str → Option Value) (x : Str) (v : V) : Prop where
  ok : ∃ u, mg x = some u ∧ RelV v u
theorem pe_cst {v : V} (hg : Gl X x) (c : Cn X.mg x v) (hd : (x == ("__debug__" : Str)) = false := by decide) : PE X (.Name x pos) (tC v) := by
  obtain ⟨u, h, r⟩ := c.ok
  exact pe_glob hg h r hd
end
/-- a method, called with keywords too -/
structure MtK (CX : CXT) (P : Program) (w : World) (K : PySem.W.Frag) (mg : Str → Option Value) (base : Heap) (C : Addr) (m : Str) (k : Nat) (n : Nat) (ks ps : List Str) (sp : Sp) : Prop where
  ok : ∃ (f : Addr) (fd : FuncData), Meth K C m f ∧ KBn K fd ps n ks (fun us ws => us ++ ws) (fun vs zs => vs ++ zs) ∧ FnOk P w K mg base CX k f fd ps sp
section
variable {CX : CXT} {P : Program} {w : World} {K : PySem.W.Frag} {mg : Str → Option Value} {base h : Heap} {x m qual : Str} {C : Addr} {st : Stmt} {k n : Nat} {ps ks : List Str} {sp : Sp}
theorem kb_of {f : Addr} {fd : FuncData} (F : Fun K x qual st f fd) (h : ∀ (kV doc pm : Value) (an : Option Addr) (cdv ct : Value) (us ws : List Value), us.length = n → ws.length = ks.length →
    bindArgs (PySem.W.fnOf x qual (defArgs st) (defBody st) (defScope st) .none kV doc pm an cdv ct) ⟨us, ks.zip ws⟩ = pure (ps.zip (us ++ ws))) : KBn K fd ps n ks (fun us ws => us ++ ws) (fun vs zs => vs ++ zs) := by
  obtain ⟨oc, od, kV, doc, pm, an, cdv, ct, osl, rfl, lk, hcd⟩ := F.ex
  exact ⟨fun s us ws _ h1 h2 => .of_eq (h kV doc pm an cdv ct us ws h1 h2), fun r rz => r.append rz⟩
theorem mtk_mk (a : MF K C m qual st) (hb : ∀ {f : Addr} {fd : FuncData}, Fun K m qual st f fd → KBn K fd ps n ks (fun us ws => us ++ ws) (fun vs zs => vs ++ zs)) (ok : ∀ {f : Addr} {fd : FuncData}, Fun K m qual st f fd → FnOk P w K mg base CX k f fd ps sp) :
    MtK CX P w K mg base C m k n ks ps sp := by
  obtain ⟨f, oc, od, kV, doc, pm, an, cdv, ct, osl, h1, h2, h3, h4, h5⟩ := a.ok
  have F := fun_mk (st := st) h3 h4 h5
  exact ⟨⟨f, _, ⟨h1, h2, h5⟩, hb F, ok F⟩⟩
end
section
variable {X : Cx} {CX : CXT} {k j : Nat} {C : Addr} {ps ks : List Str} {sp : Sp} {E : XK} {x : Str} {p pos : Pos} {kws : List Keyword} {tk : TA}
/-- C(k = v): all parameters by keywords, in their order -/
theorem pe_klK0 (c : Kl X.K X.mg x C) (D : MtK CX X.prog X.w X.K X.mg X.base C "__init__" j 1 ks ps sp) (hr : Room k X.A) (hj : j + 1 ≤ k) (hg : Gl X x) (hx : Passes CX X E) (hkw : PK X kws tk)
    (hall : (backToKw pos (keywordEach kws X.env)).all (·.1.isSome) = true := by rfl) (hks : (backToKw pos (keywordEach kws X.env)).filterMap (·.1) = ks := by rfl) (hdb : (x == ("__debug__" : Str)) = false := by decide)
    (hpl : ((backTo pos (starEach [] X.env)).any (·.1) || (backToKw pos (keywordEach kws X.env)).any (·.1.isNone)) = false := by rfl) :
    PE X (.Call (.Name x p) [] kws pos) (tMakeK C 0 ks.length sp (fun vs zs => vs ++ zs) E tNil tk) := by
  obtain ⟨f, fd, h1, h3, h4⟩ := D.ok
  exact pe_makeK0 ⟨c.mks, h1.at_, h1.fn, c.kp⟩ h4 (hr.mono hj) hg c.gl h3 hx hkw hall hks hdb hpl
theorem x_makeK {σ : L2.St} {H : Hp} {Q : VK} {m : Nat} (h : tk σ H fun zs H1 => zs.length = m ∧ MkI C sp E zs H1 Q) : tMakeK C 0 m sp (fun vs zs => vs ++ zs) E tNil tk σ H Q := by
  have e : (fun zs H1 => zs.length = m ∧ MkI C sp E zs H1 Q) = fun zs H1 => ([] : List V).length = 0 ∧ zs.length = m ∧ ∀ x dx, H1 x = none → H1 dx = none → dx ≠ x → sp ([V.ref x] ++ zs) (upd (upd H1 dx (.own x)) x (.ins C dx [])) (fun v H2 => v = .non ∧ Q (.ref x) H2) E := by
    funext zs H1
    refine propext ⟨fun z => ⟨rfl, z⟩, fun z => z.2⟩
  show tk σ H fun zs H1 => ([] : List V).length = 0 ∧ zs.length = m ∧ ∀ x dx, H1 x = none → H1 dx = none → dx ≠ x → sp ([V.ref x] ++ zs) (upd (upd H1 dx (.own x)) x (.ins C dx [])) (fun v H2 => v = .non ∧ Q (.ref x) H2) E
  rw [← e]
  exact h
theorem x_len {n m : Nat} {p : Prop} (h : Nat.beq n m = true) (q : p) : n = m ∧ p := ⟨Nat.eq_of_beq_eq_true h, q⟩
end
end Sy

/-! Own operators beside built-in numbers; division by any number. -/
namespace Sy
open PySem PySem.Spec PyProof.Rows L2
section
variable {X : Cx}
def CDivZ (_ j : Int) : Prop := j ≠ 0 ∧ j.natAbs.log2 < 9000
theorem op_fdivZ : OpR X (binaryOp .FloorDiv) (rI CDivZ fun i j => .int (i.fdiv j)) := opI fun i j _ _ _ _ _ hc q => floordiv_int hc.1 q (.inl (PyProof.noPylong_of_log2 hc.2))
end
/-- what an own operator asks beside a built-in class T -/
structure OpT (K : PySem.W.Frag) (C : Addr) (T nm : String) : Prop where
  hr : ∃ rc, PySem.W.findIn K (.ref C) (dunderR nm) = some rc ∧ (rc = none ∨ ∃ g : Addr, rc = some (.ref g))
  h1 : ∃ fo, PySem.W.findIn K (.type T) (PySem.dunder nm) = some fo
  h2 : ∃ ro, PySem.W.findIn K (.type T) (dunderR nm) = some ro
  hu : PySem.W.subIn K (.type T) (.ref C) = some false
theorem opT_mk {K : PySem.W.Frag} {C : Addr} {T nm : String} {rc fo ro : Option Value} (hr : PySem.W.findIn K (.ref C) (dunderR nm) = some rc) (hp : rc = none ∨ ∃ g : Addr, rc = some (.ref g)) (h1 : PySem.W.findIn K (.type T) (PySem.dunder nm) = some fo)
    (h2 : PySem.W.findIn K (.type T) (dunderR nm) = some ro) (hu : PySem.W.subIn K (.type T) (.ref C) = some false) : OpT K C T nm := ⟨⟨_, hr, hp⟩, ⟨_, h1⟩, ⟨_, h2⟩, hu⟩
section
variable {X : Cx} {CX : CXT} {k j : Nat} {C : Addr} {ps : List Str} {sp : Sp} {E : XK} {x m : Str}
/-- a op i, i an int -/
def rOwnI (C : Addr) (sp : Sp) (E : XK) : R2 := fun x y H Q => ∃ a dx fs i, x = .ref a ∧ y = .int i ∧ H a = some (.ins C dx fs) ∧ sp [x, y] H Q E
theorem op_ownI {op : Operator} {nm : String} (D : Mt CX X.prog X.w X.K X.mg X.base C m j ps sp) (c : Kl X.K X.mg x C) (t : OpT X.K C "int" nm) (hr : Room k X.A) (hj : j ≤ k) (hx : Passes CX X E) (en : op.info.2 = nm := by rfl) (e : PySem.dunder nm = m := by decide +kernel) : OpR X (binaryOp op) (rOwnI C sp E) := by
  obtain ⟨f, fd, h1, hb, F⟩ := D.ok
  subst en
  subst e
  intro pins s σ H x y v u Q I rx ry hq
  obtain ⟨a, dx, fs, i, rfl, rfl, ha, q⟩ := hq
  cases rx
  obtain ⟨tk, rfl⟩ := ry
  obtain ⟨mA, J, _⟩ := ins_get I.hok ha
  obtain ⟨od, J, _⟩ := J.look
  obtain ⟨m', hF⟩ := I.fr
  obtain ⟨rc, t1, t2⟩ := t.hr
  obtain ⟨fo, t3⟩ := t.h1
  obtain ⟨ro, t4⟩ := t.h2
  have r2 : Vals [V.ref a, V.int i] [Value.ref a, Value.int i tk] := .cons rfl (.cons ⟨_, rfl⟩ .nil)
  refine PySem.W.ksp_binT hF I.ok.mod.kin J rfl c.sf h1.at_ h1.fn t1 t2 t3 t4 t.hu (wpAny_mono (run_at rfl F (hr.mono hj) hb hx I r2 q) (fun w s' z => ?_) fun _ _ z => z)
  obtain ⟨v, H', I', r, q'⟩ := z
  exact cmpBack_of (no_ni r) ⟨v, H', I', r, q'⟩
end
section
variable {prog : Program} {w : World} {A : Around} {E : Value → Shared → Prop} {s : Shared} {x : Addr} {o : Obj}
/-- int.__mul__ of what is no number -/
theorem int_mul_ni {i : Int} {t : Tok} (ho : s.heap.get? x = some o) (hd : o.data = .plain) {Q : Value → Shared → Prop} (q : Q .notImplemented s) : wpAny (model prog w) A (call (.builtin "int.__mul__") [.int i t, .ref x]) Q E s := by
  refine wpAny_call_entry PySem.F.slot_int_mul (typeIs_int s i t) PySem.F.entry_int_mul ?_ (PySem.F.args_int_mul_2 _ _)
  obtain ⟨oc, od, dt, sl⟩ := o
  simp only at hd
  subst hd
  obtain ⟨hp, g, d, tk, os⟩ := s
  wp_walk using wpAny_load ho
  exact ⟨_, rfl, q⟩
end
section
variable {prog : Program} {w : World} {A : Around} {E : Value → Shared → Prop} {s : Shared} {x C f f0 : Addr} {ox : Obj} {od : Option Obj} {K : PySem.W.Frag} {i : Int} {t : Tok}
theorem rmul_K {Q : Value → Shared → Prop} (X : K.In s.heap) (I : PySem.W.InstAt s.heap x ox C od) (hpl : ox.data = .plain) (hc : PySem.W.selfFirst K C = true) (hs : PySem.W.findIn K (.ref C) (PySem.dunder "mul") = some (some (.ref f0)))
    (hr : PySem.W.findIn K (.ref C) (dunderR "mul") = some (some (.ref f))) (hf : PySem.W.isFn K (.ref f) = true) (hu : PySem.W.subIn K (.ref C) (.type "int") = some false)
    (h : wpAny (model prog w) A (call (.ref f) [.ref x, .int i t]) (PySem.W.CmpBack Q) E s) : wpAny (model prog w) A (binaryOp .Mult (.int i t) (.ref x)) Q E s := by
  obtain ⟨cd, rest, hcd, hm⟩ := PySem.W.ksp_first hc
  have one := PySem.W.ksp_try (M := model prog w) (A := A) (E := E) (Q := Q) X I hr hf h
  have ho := I.at_
  have L1 : PySem.W.Looks (model prog w) s.heap (typeOf (.int i t)) (.type "int") := PySem.W.Looks.of_pure rfl
  have L2' : PySem.W.Looks (model prog w) s.heap (typeOf (.ref x)) (.ref C) := I.type
  have L3 : PySem.W.Looks (model prog w) s.heap (fillsNumberSlot (.type "int") "mul") true := PySem.W.Looks.of_pure PySem.F.fills_int_mul
  have L4 : PySem.W.Looks (model prog w) s.heap (fillsNumberSlot (.ref C) "mul") true := PySem.W.fills_K X hcd hm hs
  have L5 : PySem.W.Looks (model prog w) s.heap (isSubtype (.ref C) (.type "int")) false := PySem.W.looks_subIn X hu
  have L6 : PySem.W.Looks (model prog w) s.heap (numberSlotInPython (.type "int") "mul") false := PySem.W.Looks.of_pure rfl
  have hne : (Value.type "int" == Value.ref C) = false := Bool.eq_false_iff.mpr fun q => by cases beq_iff_eq.mp q
  have left : wpAny (model prog w) A (tryMethod (.int i t) (PySem.dunder "mul") (.ref x)) (fun r s' => r = none ∧ s' = s) E s := by
    unfold tryMethod
    refine wpAny_bind (wpAny_callSpecial?_slot (typeIs_int s i t) PySem.F.slot_int_mul (int_mul_ni ho hpl ?_))
    exact wpAny_pure ⟨rfl, rfl⟩
  unfold binaryOp
  refine wpAny_holding (wpAny_bind ?_)
  show wpAny (model prog w) A (binaryOp1 "mul" (.int i t) (.ref x)) _ E s
  unfold binaryOp1
  refine wpAny_bind (L1.here (wpAny_bind (L2'.here (wpAny_bind (L3.here ?_)))))
  simp only [hne, Bool.false_eq_true, if_false]
  refine wpAny_bind (L4.here ?_)
  simp only [Bool.and_self, if_true]
  refine wpAny_bind (L5.here ?_)
  simp only [Bool.false_eq_true, if_false, pure_bind, Bool.not_false, Bool.and_self, if_true]
  refine wpAny_bind (L6.here ?_)
  simp only [Bool.false_eq_true, if_false, pure_bind, if_true]
  refine wpAny_bind (wpAny_mono left (fun r s' hq => ?_) fun _ _ z => z)
  obtain ⟨rfl, rfl⟩ := hq
  simp only [pure_bind, if_false, if_true, Bool.false_eq_true]
  refine wpAny_bind (wpAny_mono one (fun r s' hq => ?_) fun _ _ z => z)
  obtain ⟨v, rfl, hq⟩ := hq
  exact wpAny_bind (wpAny_rule (wpAny_pure (wpAny_pure hq)))
end
section
variable {X : Cx} {CX : CXT} {k j : Nat} {C : Addr} {ps : List Str} {sp : Sp} {E : XK} {x : Str}
/-- i * a, i an int -/
def rOwnR (C : Addr) (sp : Sp) (E : XK) : R2 := fun y x H Q => ∃ a dx fs i, x = .ref a ∧ y = .int i ∧ H a = some (.ins C dx fs) ∧ sp [x, y] H Q E
/-- what i * a asks of the class -/
structure RmT (K : PySem.W.Frag) (C : Addr) : Prop where
  hs : ∃ f0 : Addr, PySem.W.findIn K (.ref C) (PySem.dunder "mul") = some (some (.ref f0))
  hu : PySem.W.subIn K (.ref C) (.type "int") = some false
theorem rm_mk {K : PySem.W.Frag} {C f0 : Addr} (hs : PySem.W.findIn K (.ref C) (PySem.dunder "mul") = some (some (.ref f0))) (hu : PySem.W.subIn K (.ref C) (.type "int") = some false) : RmT K C := ⟨⟨_, hs⟩, hu⟩
theorem op_rmul (D : Mt CX X.prog X.w X.K X.mg X.base C "__rmul__" j ps sp) (c : Kl X.K X.mg x C) (rm : RmT X.K C)
    (hr : Room k X.A) (hj : j ≤ k) (hx : Passes CX X E) : OpR X (binaryOp .Mult) (rOwnR C sp E) := by
  obtain ⟨f, fd, h1, hb, F⟩ := D.ok
  intro pins s σ H y x v u Q I ry rx hq
  obtain ⟨a, dx, fs, i, rfl, rfl, ha, q⟩ := hq
  cases rx
  obtain ⟨tk, rfl⟩ := ry
  obtain ⟨mA, J, _⟩ := ins_get I.hok ha
  obtain ⟨od, J, _⟩ := J.look
  have r2 : Vals [V.ref a, V.int i] [Value.ref a, Value.int i tk] := .cons rfl (.cons ⟨_, rfl⟩ .nil)
  have e : (dunderR "mul" : Str) = "__rmul__" := by decide +kernel
  obtain ⟨f0, hs⟩ := rm.hs
  have hu := rm.hu
  refine rmul_K I.kIn J rfl c.sf hs (by rw [e]; exact h1.at_) h1.fn hu (wpAny_mono (run_at rfl F (hr.mono hj) hb hx I r2 q) (fun w s' z => ?_) fun _ _ z => z)
  obtain ⟨v, H', I', r, q'⟩ := z
  exact cmpBack_of (no_ni r) ⟨v, H', I', r, q'⟩
end
section
variable {i j : Int} {a b : Nat}
theorem mul_w (ha : i.natAbs < 2 ^ a) (hb : j.natAbs < 2 ^ b) (h0 : 0 < a) (h1 : 0 < b) (h : a + b ≤ 1000000) : IntMulOk i j := CMulW.ok (wide_mul ha hb h0 h1 h)
theorem log_w (ha : i.natAbs < 2 ^ a) (h0 : 0 < a) (h : a ≤ 9000) : i.natAbs.log2 < 9000 := Nat.lt_of_lt_of_le (PySem.Flt.log2_lt_of h0 ha) h
theorem fdiv_abs (i j : Int) : (i.fdiv j).natAbs ≤ i.natAbs + 1 := by
  have h := Int.natAbs_ediv_le_natAbs i j
  rw [Int.fdiv_eq_ediv]
  split <;> omega
theorem fmod_eq (i j : Int) : i.fmod j = i - i.fdiv j * j := by rw [Int.fmod_def, Int.mul_comm]
end
section
variable {σ : L2.St} {H : Hp} {D : Ends} {tA : TA}
theorem x_par3 {i j l : Nat} (h : tA σ H fun vs H1 => ∃ u v w, vs = [u, v, w] ∧ D.nx (((σ.set i (some u)).set j (some v)).set l (some w)) H1) : tPar3 i j l tA D σ H := h
theorem x_pr3 {N : V → V → V → Prop} {u v w : V} (h : N u v w) : ∃ a b c, [u, v, w] = [a, b, c] ∧ N a b c := ⟨u, v, w, rfl, h⟩
end
end Sy

/-! Own comparisons, truth and texts; what a built-in class's == leaves to an own one. -/
namespace Sy
open PySem PySem.Spec PyProof.Rows L2
/-- the class C is none of which T's instances are -/
structure NsT (K : PySem.W.Frag) (C : Addr) (t : Value) : Prop where
  ne : (t == Value.ref C) = false
  hu : PySem.W.subIn K t (.ref C) = some false
  ci : PySem.W.isClsIn K C = true
  ti : PySem.W.typeIn K (.ref C) = some (.type "type")
theorem NsT.kit {K : PySem.W.Frag} {C : Addr} {t : Value} (n : NsT K C t) : PySem.W.kitOne K t (.ref C) = some false := by
  unfold PySem.W.kitOne
  rw [if_neg (by rw [n.ne]; simp)]
  show (if ((PySem.W.clsIn K C).isSome && PySem.W.typeIn K (.ref C) == some (.type "type")) = true then PySem.W.subIn K t (.ref C) else none) = some false
  have h : ((PySem.W.clsIn K C).isSome && PySem.W.typeIn K (.ref C) == some (.type "type")) = true := by
    rw [n.ti]
    have := n.ci
    unfold PySem.W.isClsIn at this
    rw [this]
    simp
  rw [if_pos h]
  exact n.hu
theorem NsT.first {K : PySem.W.Frag} {C : Addr} {t : Value} (n : NsT K C t) : PySem.W.notFirst K C t = true := by
  unfold PySem.W.notFirst
  rw [n.hu]
  simp
theorem first_self {K : PySem.W.Frag} {C : Addr} : PySem.W.notFirst K C (.ref C) = true := by
  unfold PySem.W.notFirst
  simp
section
variable {X : Cx} {CX : CXT} {k j : Nat} {C : Addr} {ps : List Str} {sp : Sp} {E : XK} {x m : Str}
/-- a op y, a an instance of the class at C, by its own method -/
def rCmp (K : PySem.W.Frag) (C : Addr) (sp : Sp) (E : XK) : R2 := fun x y H Q => ∃ a dx fs t, x = .ref a ∧ H a = some (.ins C dx fs) ∧ TyX K H y t ∧ PySem.W.notFirst K C t = true ∧ sp [x, y] H Q E
theorem cmp_own {op : CmpOp} {K : PySem.W.Frag} (D : Mt CX X.prog X.w K X.mg X.base C m j ps sp) (hr : Room k X.A) (hj : j ≤ k) (hx : Passes CX X E) (e : (cmpInfo op).2.1 = m := by rfl) (ho : compareOp op = richCompare op := by rfl) (eK : K = X.K := by rfl) : OpR X (compareOp op) (rCmp K C sp E) := by
  subst eK
  obtain ⟨f, fd, h1, hb, F⟩ := D.ok
  subst e
  intro pins s σ H x y v u Q I rx ry hq
  obtain ⟨a, dx, fs, t, rfl, ha, ty, nf, q⟩ := hq
  cases rx
  obtain ⟨mA, J, _⟩ := ins_get I.hok ha
  obtain ⟨od, J, _⟩ := J.look
  obtain ⟨m', hF⟩ := I.fr
  obtain ⟨P, kx, hP, _⟩ := kit_of I ry ty
  have r2 : Vals [V.ref a, y] [Value.ref a, u] := .cons rfl (.cons ry .nil)
  rw [ho]
  refine PySem.W.cmp_K hr.units0 hF I.ok.mod.kin J (kx.ty _ _ I.kIn hP) nf h1.at_ h1.fn (wpAny_mono (run_at rfl F (hr.mono hj) hb hx I r2 q) (fun w s' z => ?_) fun _ _ z => z)
  obtain ⟨v, H', I', r, q'⟩ := z
  exact cmpBack_of (no_ni r) ⟨v, H', I', r, q'⟩
/-- truth by an own method -/
def rTru (C : Addr) (sp : Sp) (E : XK) : V → Hp → (Bool → Hp → Prop) → Prop := fun x H Q => ∃ a dx fs, x = .ref a ∧ H a = some (.ins C dx fs) ∧ sp [x] H (fun v H' => ∃ b, v = .bl b ∧ Q b H') E
theorem tru_own (D : Mt CX X.prog X.w X.K X.mg X.base C "__bool__" j ps sp) (hr : Room k X.A) (hj : j ≤ k) (hx : Passes CX X E) : TruR X (rTru C sp E) := by
  obtain ⟨f, fd, h1, hb, F⟩ := D.ok
  intro pins s σ H x v Q I rx hq
  obtain ⟨a, dx, fs, rfl, ha, q⟩ := hq
  cases rx
  obtain ⟨mA, J, _⟩ := ins_get I.hok ha
  obtain ⟨od, J, _⟩ := J.look
  obtain ⟨m', hF⟩ := I.fr
  refine PySem.W.truthy_K hF I.ok.mod.kin J h1.at_ h1.fn (wpAny_mono (run_at rfl F (hr.mono hj) hb hx I (show Vals [V.ref a] [Value.ref a] from .cons rfl .nil) q) (fun w s' z => ?_) fun _ _ z => z)
  obtain ⟨v, H', I', r, b, rfl, q'⟩ := z
  cases r
  exact ⟨H', I', q'⟩
theorem pe_notR {a : Expr} {ta : TE} {pos : Pos} {r : V → Hp → (Bool → Hp → Prop) → Prop} (ha : PE X a ta) (hr : TruR X r) : PE X (.UnaryOp .Not a pos) (fun σ H Q => ta σ H fun x H1 => r x H1 fun c H2 => Q (.bl (!c)) H2) := by
  refine ⟨fun pins s σ H Q I h => ?_⟩
  refine UnaryOp_ (thn (ha.run pins s σ H _ I h) fun v s1 ⟨x, H1, I1, r1, q1⟩ => ?_)
  exact not_of (thn (hr pins s1 σ H1 x v (fun c H2 => Q (.bl (!c)) H2) I1 r1 q1) fun c s2 ⟨H2, I2, q2⟩ => ⟨.bl (!c), H2, I2, rfl, q2⟩)
/-- repr(a) -/
def rTxt (C : Addr) (sp : Sp) (E : XK) : List V → Hp → VK → Prop := fun xs H Q => ∃ a dx fs, xs = [.ref a] ∧ H a = some (.ins C dx fs) ∧ sp xs H (fun v H' => (∃ z, v = .str z) ∧ Q v H') E
theorem call_reprO (D : Mt CX X.prog X.w X.K X.mg X.base C "__repr__" j ps sp) (hr : Room k X.A) (hj : j + 1 ≤ k) (hx : Passes CX X E) : CallR X (.builtin "repr") (rTxt C sp E) := by
  obtain ⟨f, fd, h1, hb, F⟩ := D.ok
  intro pins s σ H xs us Q I r hq
  obtain ⟨a, dx, fs, rfl, ha, q⟩ := hq
  obtain ⟨u, rfl, ru⟩ := vals1 r
  cases ru
  obtain ⟨mA, J, _⟩ := ins_get I.hok ha
  obtain ⟨od, J, _⟩ := J.look
  obtain ⟨m', hF⟩ := I.fr
  have hr1 := (hr.mono hj).in1
  refine PySem.W.repr_K hr1.units0 hF I.ok.mod.kin J h1.at_ h1.fn (wpAny_mono (run_at (show X.A.in1.frames = X.A.frames from rfl) F hr1 hb hx I (show Vals [V.ref a] [Value.ref a] from .cons rfl .nil) q) (fun w s' z => ?_) fun _ _ z => z)
  obtain ⟨v, H', I', r, ⟨y, rfl⟩, q'⟩ := z
  obtain ⟨t, rfl⟩ := r
  exact ⟨.str y, H', I', ⟨t, rfl⟩, q'⟩
/-- str(a) -/
theorem call_strO (D : Mt CX X.prog X.w X.K X.mg X.base C "__str__" j ps sp) (hr : Room k X.A) (hj : j + 2 ≤ k) (hx : Passes CX X E) : CallR X (.type "str") (rTxt C sp E) := by
  obtain ⟨f, fd, h1, hb, F⟩ := D.ok
  intro pins s σ H xs us Q I r hq
  obtain ⟨a, dx, fs, rfl, ha, q⟩ := hq
  obtain ⟨u, rfl, ru⟩ := vals1 r
  cases ru
  obtain ⟨mA, J, _⟩ := ins_get I.hok ha
  obtain ⟨od, J, _⟩ := J.look
  have hr2 : Room j X.A.in1.in1 := ((hr.mono hj : Room (j + 2) X.A).in1).in1
  refine PySem.W.kso_call hr2.units0 I.kIn J h1.at_ h1.fn (wpAny_mono (run_at (show X.A.in1.in1.frames = X.A.frames from rfl) F hr2 hb hx I (show Vals [V.ref a] [Value.ref a] from .cons rfl .nil) q) (fun w s' z => ?_) fun _ _ z => z)
  obtain ⟨v, H', I', r, ⟨y, rfl⟩, q'⟩ := z
  obtain ⟨t, rfl⟩ := r
  exact ⟨.str y, H', I', ⟨t, rfl⟩, q'⟩
end
section
variable {prog : Program} {w : World} {A : Around} {E : Value → Shared → Prop} {s : Shared} {K : PySem.W.Frag} {x C f : Addr} {ox : Obj} {od : Option Obj}
/-- v == x, v of a built-in class that leaves it to the own one -/
theorem eqR_K {v : Value} {T id : String} {Q : Value → Shared → Prop} (hu : A.units < cLine) (X : K.In s.heap) (I : PySem.W.InstAt s.heap x ox C od) (hT : s.TypeIs v T) (slot : Slot T "__eq__" id)
    (hl : ∀ Q' : Value → Shared → Prop, Q' .notImplemented s → wpAny (model prog w) A (call (.builtin id) [v, .ref x]) Q' E s) (hsub : PySem.W.subIn K (.ref C) (.type T) = some false)
    (hs : PySem.W.findIn K (.ref C) "__eq__" = some (some (.ref f))) (hf : PySem.W.isFn K (.ref f) = true) (h : wpAny (model prog w) A (call (.ref f) [.ref x, v]) (PySem.W.CmpBack Q) E s) :
    wpAny (model prog w) A (richCompare .Eq v (.ref x)) Q E s := by
  have two : wpAny (model prog w) A (tryCompare (.ref x) "__eq__" v) (fun r s' => ∃ z, r = some z ∧ Q z s') E s := by
    unfold tryCompare
    refine wpAny_bind (PySem.W.ifBound_K X I hs hf (wpAny_mono h (fun z s' hv => ?_) fun _ _ e => e))
    cases z <;> first | exact hv.elim | exact wpAny_pure ⟨_, rfl, hv⟩
  have hne : (Value.type T != Value.ref C) = true := by
    have : (Value.type T == Value.ref C) = false := Bool.eq_false_iff.mpr fun q => by cases beq_iff_eq.mp q
    simp [bne, this]
  have hi : cmpInfo .Eq = ("==", ("__eq__" : Str), ("__eq__" : Str)) := rfl
  simp only [richCompare, hi, hT.oneThing_none]
  refine wpAny_holding (wpAny_bind (wpAny_cRoomFor hu ?_))
  refine wpAny_bind (wpAny_typeOf hT (wpAny_bind (I.type.here ?_)))
  simp only [hne, if_true]
  refine wpAny_bind ((PySem.W.looks_subIn X hsub).here ?_)
  simp only [Bool.false_eq_true, if_false, Bool.not_false, if_true]
  refine wpAny_bind (m := tryCompare v _ (.ref x)) (wpAny_tryCompare_declines hT slot (hl _ ⟨rfl, ?_⟩))
  simp only [pure_bind]
  refine wpAny_bind (wpAny_mono two (fun r s' hq => ?_) fun _ _ e => e)
  obtain ⟨z, rfl, hq⟩ := hq
  exact wpAny_pure hq
end
section
variable {prog : Program} {w : World} {A : Around} {E : Value → Shared → Prop} {s : Shared} {x C : Addr} {o : Obj} {od : Option Obj} {K : PySem.W.Frag}
theorem int_eq_ni {i : Int} {t : Tok} (ho : s.heap.get? x = some o) (hd : o.data = .plain) {Q : Value → Shared → Prop} (q : Q .notImplemented s) : wpAny (model prog w) A (call (.builtin "int.__eq__") [.int i t, .ref x]) Q E s := by
  refine wpAny_call_entry PySem.F.slot_int_eq (typeIs_int s i t) PySem.F.entry_int_eq ?_ (PySem.F.args_int_eq_2 _ _)
  obtain ⟨oc, od, dt, sl⟩ := o
  simp only at hd
  subst hd
  obtain ⟨hp, g, d, tk, os⟩ := s
  wp_walk using wpAny_load ho
  exact ⟨_, rfl, q⟩
theorem str_eq_ni {i : Str} {t : Tok} (ho : s.heap.get? x = some o) (hd : o.data = .plain) {Q : Value → Shared → Prop} (q : Q .notImplemented s) : wpAny (model prog w) A (call (.builtin "str.__eq__") [.str i t, .ref x]) Q E s := by
  refine wpAny_call_entry PySem.F.slot_str_eq (typeIs_str s i t) PySem.F.entry_str_eq ?_ (PySem.F.args_str_eq_2 _ _)
  obtain ⟨oc, od, dt, sl⟩ := o
  simp only at hd
  subst hd
  obtain ⟨hp, g, d, tk, os⟩ := s
  wp_walk using wpAny_load ho
  exact ⟨_, rfl, q⟩
theorem none_eq_ni {Q : Value → Shared → Prop} (q : Q .notImplemented s) : wpAny (model prog w) A (call (.builtin "NoneType.__eq__") [.none, .ref x]) Q E s := by
  refine wpAny_call_entry PySem.F.slot_NoneType_eq rfl PySem.F.entry_NoneType_eq ?_ (PySem.F.args_NoneType_eq_2 _ _)
  obtain ⟨hp, g, d, tk, os⟩ := s
  wp_walk
  exact ⟨_, rfl, q⟩
theorem list_eq_ni {l : Addr} {its : Array Value} {n : Nat} (X : K.In s.heap) (I : PySem.W.InstAt s.heap x o C od) (hsub : PySem.W.subIn K (.ref C) (.type "list") = some false) (hl : s.heap.get? l = some { cls := .type "list", data := .seq its n }) {Q : Value → Shared → Prop} (q : Q .notImplemented s) :
    wpAny (model prog w) A (call (.builtin "list.__eq__") [.ref l, .ref x]) Q E s := by
  refine wpAny_call_entry PySem.F.slot_list_eq ⟨_, hl, rfl⟩ PySem.F.entry_list_eq ?_ (PySem.F.args_list_eq_2 _ _)
  have L : PySem.W.Looks (model prog w) s.heap (isInstance (.ref x) (.type "list")) false := I.type.andThen (PySem.W.looks_subIn X hsub)
  obtain ⟨hp, g, d, tk, os⟩ := s
  wp_walk using L.here
  exact ⟨_, rfl, q⟩
end
/-! ### v == a, v a number, a text, None, a list -/
/-- the class at C stands under none of these four -/
structure EqT (K : PySem.W.Frag) (C : Addr) : Prop where
  si : PySem.W.subIn K (.ref C) (.type "int") = some false
  ss : PySem.W.subIn K (.ref C) (.type "str") = some false
  sn : PySem.W.subIn K (.ref C) (.type "NoneType") = some false
  sl : PySem.W.subIn K (.ref C) (.type "list") = some false
def PlainL (y : V) (H : Hp) : Prop := (∃ i, y = .int i) ∨ (∃ z, y = .str z) ∨ y = .non ∨ ∃ l ys, y = .ref l ∧ H l = some (.lst ys)
def rEqR (C : Addr) (sp : Sp) (E : XK) : R2 := fun y x H Q => ∃ a dx fs, x = .ref a ∧ H a = some (.ins C dx fs) ∧ PlainL y H ∧ sp [x, y] H Q E
section
variable {X : Cx} {CX : CXT} {k j : Nat} {C : Addr} {ps : List Str} {sp : Sp} {E : XK} {x m : Str}
theorem op_eqR (D : Mt CX X.prog X.w X.K X.mg X.base C "__eq__" j ps sp) (t : EqT X.K C) (hr : Room k X.A) (hj : j ≤ k) (hx : Passes CX X E) : OpR X (compareOp .Eq) (rEqR C sp E) := by
  obtain ⟨f, fd, h1, hb, F⟩ := D.ok
  intro pins s σ H y x v u Q I ry rx hq
  obtain ⟨a, dx, fs, rfl, ha, pl, q⟩ := hq
  cases rx
  obtain ⟨mA, J, _⟩ := ins_get I.hok ha
  obtain ⟨od, J, _⟩ := J.look
  have r2 : Vals [V.ref a, y] [Value.ref a, v] := .cons rfl (.cons ry .nil)
  have fin : wpAny (model X.prog X.w) X.A (call (.ref f) [.ref a, v]) (PySem.W.CmpBack (EP X pins σ Q)) X.xe s := wpAny_mono (run_at rfl F (hr.mono hj) hb hx I r2 q) (fun w s' z => by
    obtain ⟨v, H', I', r, q'⟩ := z
    exact cmpBack_of (no_ni r) ⟨v, H', I', r, q'⟩) fun _ _ z => z
  show wpAny (model X.prog X.w) X.A (richCompare .Eq v (.ref a)) _ _ _
  rcases pl with ⟨i, rfl⟩ | ⟨z, rfl⟩ | rfl | ⟨l, ys, rfl, hl⟩
  · obtain ⟨tk, rfl⟩ := ry
    exact eqR_K hr.units0 I.kIn J (typeIs_int s i tk) PySem.F.slot_int_eq (fun Q' q' => int_eq_ni J.at_ rfl q') t.si h1.at_ h1.fn fin
  · obtain ⟨tk, rfl⟩ := ry
    exact eqR_K hr.units0 I.kIn J (typeIs_str s z tk) PySem.F.slot_str_eq (fun Q' q' => str_eq_ni J.at_ rfl q') t.ss h1.at_ h1.fn fin
  · cases ry
    exact eqR_K hr.units0 I.kIn J (T := "NoneType") rfl PySem.F.slot_NoneType_eq (fun Q' q' => none_eq_ni q') t.sn h1.at_ h1.fn fin
  · cases ry
    obtain ⟨_, its, n, _, e⟩ := I.hok l _ hl
    exact eqR_K hr.units0 I.kIn J ⟨_, e, rfl⟩ PySem.F.slot_list_eq (fun Q' q' => list_eq_ni I.kIn J t.sl e q') t.sl h1.at_ h1.fn fin
end
/-! ### texts that are short -/
def Short (n : Nat) (z : Str) : Prop := z.length ≤ n
theorem short_app {a b : Nat} {x y : Str} (h : Short a x) (k : Short b y) : Short (a + b) (x ++ y) := by
  unfold Short at *
  rw [Str.length_append]
  omega
theorem short_num {i : Int} (h : i.natAbs.log2 < 1920) : Short 2000 (Str.ofString (toString i)) := by
  have e := PySem.int_text_length_le (k := 1920) (by decide) h
  unfold Short
  rw [PySem.ofString_length]
  omega
theorem short_of {z : Str} {n : Nat} (h : Nat.ble z.length n = true) : Short n z := Nat.le_of_ble_eq_true h
theorem short_fit {n : Nat} {z : Str} (h : Short n z) (k : Nat.ble n 100000 = true) : z.length ≤ sizeLine := sz_of (Nat.le_trans h (Nat.le_of_ble_eq_true k))
theorem short_fit2 {n m : Nat} {x y : Str} (h : Short n x) (h' : Short m y) (k : Nat.ble (n + m) 100000 = true) : x.length + y.length ≤ sizeLine := sz_of (by
  have := Nat.le_of_ble_eq_true k
  unfold Short at *
  omega)
section
variable {H : Hp} {Q : VK} {σ : L2.St} {te t : TE} {ts : List TE} {acc y z : Str} {QS : Str → Hp → Prop} {i : Int}
def Fmt (x : V) (H : Hp) (Q : VK) : Prop := (∃ y : Str, x = .str y ∧ y.length ≤ sizeLine ∧ Q (.str y) H) ∨ ∃ i : Int, x = .int i ∧ i.natAbs.log2 < 1920 ∧ Q (.str (toString i)) H
theorem x_fmt (h : te σ H fun x H1 => Fmt x H1 Q) : tFmt te σ H Q := h
theorem x_fmtI (hz : i.natAbs.log2 < 1920) (h : Q (.str (toString i)) H) : Fmt (.int i) H Q := .inr ⟨i, rfl, hz, h⟩
theorem x_fmtS {n : Nat} (hz : Short n y) (hn : Nat.ble n 100000 = true) (h : Q (.str y) H) : Fmt (.str y) H Q := .inl ⟨y, rfl, short_fit hz hn, h⟩
def Js (ts : List TE) (acc : Str) (σ : L2.St) (x : V) (H : Hp) (Q : Str → Hp → Prop) : Prop := ∃ y : Str, x = .str y ∧ (acc ++ y).length ≤ sizeLine ∧ tJs ts (acc ++ y) σ H Q
theorem x_js (h : t σ H fun x H1 => Js ts acc σ x H1 QS) : tJs (t :: ts) acc σ H QS := h
theorem x_jsN (h : QS acc H) : tJs [] acc σ H QS := h
theorem x_js0 {n : Nat} (hz : Short n y) (hn : Nat.ble n 100000 = true) (h : tJs ts y σ H QS) : Js ts Str.empty σ (.str y) H QS := ⟨y, rfl, by rw [Str.empty_append]; exact short_fit hz hn, by rw [Str.empty_append]; exact h⟩
theorem x_jsS {n : Nat} (hz : Short n (acc ++ y)) (hn : Nat.ble n 100000 = true) (h : tJs ts (acc ++ y) σ H QS) : Js ts acc σ (.str y) H QS := ⟨y, rfl, short_fit hz hn, h⟩
def rAddS1 : R2 := fun x y H Q => ∃ i j, x = .str i ∧ y = .str j ∧ i.length + j.length ≤ sizeLine ∧ Q (.str (i ++ j)) H
theorem op_addS {X : Cx} : OpR X (binaryOp .Add) rAddS1 := op_add_str
theorem x_addS {n m : Nat} (h1 : Short n y) (h2 : Short m z) (hn : Nat.ble (n + m) 100000 = true) (h : Q (.str (y ++ z)) H) : rAddS1 (.str y) (.str z) H Q := ⟨y, z, rfl, rfl, short_fit2 h1 h2 hn, h⟩
theorem x_strI (hz : i.natAbs.log2 < 1920) (h : Q (.str (toString i)) H) : rStrI [.int i] H Q := ⟨i, rfl, hz, h⟩
def rBoolC : List V → Hp → VK → Prop := fun xs H Q => (∃ i, xs = [.int i] ∧ Q (.bl (i != 0)) H) ∨ ∃ k, xs = [.bl k] ∧ Q (.bl k) H
theorem c_bool {X : Cx} : CallR X (.type "bool") rBoolC := call_bool1
theorem bne_dec : (i != 0) = !decide (i = 0) := by
  by_cases h : i = 0
  · subst h; rfl
  · simp [h]
theorem x_boolI (h : Q (.bl (!decide (i = 0))) H) : rBoolC [.int i] H Q := .inl ⟨i, rfl, by rw [bne_dec]; exact h⟩
theorem x_boolB {b : Bool} (h : Q (.bl b) H) : rBoolC [.bl b] H Q := .inr ⟨b, rfl, h⟩
theorem x_neB {a b : Bool} (h : Q (.bl (!decide (a = b))) H) : rNe (.bl a) (.bl b) H Q := ⟨rfl, by
  have e : decide (V.bl a = V.bl b) = decide (a = b) := by simp
  rw [e]; exact h⟩
theorem x_eqB {a b : Bool} (h : Q (.bl (decide (a = b))) H) : rEq (.bl a) (.bl b) H Q := ⟨rfl, by
  have e : decide (V.bl a = V.bl b) = decide (a = b) := by simp
  rw [e]; exact h⟩
end
/-! ### for a, b in zip(xs, ys) -/
section
variable {B H : Hp} {M : List (Addr × HO)} {K : PySem.W.Frag} {σ : L2.St} {D : Ends} {g : TG} {tb : TS} {xs ys : List V} {ta : TA}
def ForZ (K : PySem.W.Frag) (g : TG) (tb : TS) (D : Ends) (σ : L2.St) (vs : List V) (H : Hp) : Prop := ∃ a b xs ys, vs = [.ref a, .ref b] ∧ SqL K H a xs ∧ SqL K H b ys ∧ ∃ W : Nat → Nat → L2.St → Hp → Prop, (∃ m, W 0 m σ H) ∧ ∀ i m σ H, W i m σ H →
  ((Itz K a b).stop i H ∧ D.nx σ H) ∨ ((Itz K a b).go i H ∧ ∃ N : L2.St → Hp → Prop, (∀ σ' H', N σ' H' → ∃ m', m' < m ∧ W (i + 1) m' σ' H') ∧ ∀ x H', (Itz K a b).yld i H x H' → g x σ H' fun σ2 H2 => tb { D with nx := N, ct := N, bk := D.nx } σ2 H2)
theorem x_forz (h : ta σ H fun vs H1 => ForZ K g tb D σ vs H1) : tFor (iZip K ta) g tb D σ H := h
theorem x_forZ {a b : Addr} (Pv : Nat → L2.St → Hp → Prop) (hx : SqL K H a xs) (hy : SqL K H b ys) (hl : xs.length = ys.length) (h0 : Pv 0 σ H) (hq : ∀ i σ H, Pv i σ H → SqL K H a xs ∧ SqL K H b ys)
    (hs : ∀ (i : Nat) (x y : V) (T : Addr) (σ : L2.St) (H : Hp), xs[i]? = some x → ys[i]? = some y → Pv i σ H → H T = none → g (.ref T) σ (upd H T (.tup [x, y])) fun σ2 H2 => tb { D with nx := Pv (i + 1), ct := Pv (i + 1), bk := D.nx } σ2 H2)
    (hd : ∀ σ H, Pv xs.length σ H → D.nx σ H) : ForZ K g tb D σ [.ref a, .ref b] H := ⟨a, b, xs, ys, rfl, hx, hy, RZ.for_zipL hl Pv h0 hq hs hd⟩
end
/-! ### bool(a) -/
section
variable {prog : Program} {w : World} {A : Around} {E : Value → Shared → Prop} {s : Shared} {x : Addr}
theorem bool_call {P : Bool → Shared → Prop} {Q : Value → Shared → Prop} (ht : ∀ Q' : Bool → Shared → Prop, (∀ b s', P b s' → Q' b s') → wpAny (model prog w) A.in1.in1 (truthy (.ref x)) Q' E s) (h : ∀ b s', P b s' → Q (.bool b) s') :
    wpAny (model prog w) A (call (.type "bool") [.ref x]) Q E s := by
  refine PySem.callType_codes (T := "bool") (Bi := Builtin.«object.__init__») (Q₁ := fun r s₁ => ∃ b, r = .bool b ∧ P b s₁) PySem.F.called_bool (PySem.F.typeCall_bool_1 _) PySem.F.entry_object_init ?_ ?_
  · refine codeAny_of_tree ?_
    show wpAny _ A.in1.in1 (do checkBuiltinCall "bool.__new__" ⟨[.type "bool", .ref x], []⟩; again (.builtin "bool.__new__" ⟨[.type "bool", .ref x], []⟩)) _ _ s
    refine wpAny_bind (wpAny_of_eq (PySem.F.newCall_bool_1 _) (wpAny_pure ⟨plainId_quiet (by decide +kernel) _, codeAny_builtin PySem.F.entry_bool_new ?_⟩))
    rw [Around.under_plainId (by decide +kernel) _]
    unfold Builtin.«bool.__new__»
    have f1 := PySem.F.conv_sub_bool
    obtain ⟨hp, g, d, tk, os⟩ := s
    repeat (any_goals (first | assumption | (with_reducible refine ht _ (fun b s' hb => ?_)) | wp_step))
    all_goals exact ⟨_, rfl, hb⟩
  · rintro obj s₁ ⟨b, rfl, hq⟩
    refine ⟨rfl, PySem.F.args_object_init_2 _ _, PySem.object_init_meets PySem.F.called_bool.init.lookup PySem.F.called_bool.made (by decide) prog w A.in1 _ s₁ ⟨rfl, rfl, h b s₁ hq⟩⟩
end
section
variable {X : Cx} {CX : CXT} {k j : Nat} {C : Addr} {ps : List Str} {sp : Sp} {E : XK}
def rBoolO (C : Addr) (sp : Sp) (E : XK) : List V → Hp → VK → Prop := fun xs H Q => ∃ a dx fs, xs = [.ref a] ∧ H a = some (.ins C dx fs) ∧ sp xs H (fun v H' => (∃ b, v = .bl b) ∧ Q v H') E
theorem call_boolO (D : Mt CX X.prog X.w X.K X.mg X.base C "__bool__" j ps sp) (hr : Room k X.A) (hj : j + 2 ≤ k) (hx : Passes CX X E) : CallR X (.type "bool") (rBoolO C sp E) := by
  obtain ⟨f, fd, h1, hb, F⟩ := D.ok
  intro pins s σ H xs us Q I r hq
  obtain ⟨a, dx, fs, rfl, ha, q⟩ := hq
  obtain ⟨u, rfl, ru⟩ := vals1 r
  cases ru
  obtain ⟨mA, J, _⟩ := ins_get I.hok ha
  obtain ⟨od, J, _⟩ := J.look
  obtain ⟨m', hF⟩ := I.fr
  have hr2 : Room j X.A.in1.in1 := ((hr.mono hj : Room (j + 2) X.A).in1).in1
  refine bool_call (P := fun b s' => EP X pins σ Q (.bool b) s') (fun Q' hQ' => ?_) fun b s' hb => hb
  refine PySem.W.truthy_K hF I.ok.mod.kin J h1.at_ h1.fn (wpAny_mono (run_at (show X.A.in1.in1.frames = X.A.frames from rfl) F hr2 hb hx I (show Vals [V.ref a] [Value.ref a] from .cons rfl .nil) q) (fun w s' z => ?_) fun _ _ z => z)
  obtain ⟨v, H', I', r, ⟨b, rfl⟩, q'⟩ := z
  cases r
  exact hQ' b s' ⟨.bl b, H', I', rfl, q'⟩
end
end Sy

/-! Operators between instances of two own classes: by the left one's method, or by the right one's when the left one's gives NotImplemented. -/
namespace Sy
open PySem PySem.Spec PyProof.Rows L2
/-- what op asks of the classes at C and D -/
structure BinT (K : PySem.W.Frag) (C D : Addr) (nm : String) : Prop where
  hs : ∃ f : Addr, PySem.W.findIn K (.ref C) (PySem.dunder nm) = some (some (.ref f))
  hr : ∃ rc, PySem.W.findIn K (.ref C) (dunderR nm) = some rc ∧ (rc = none ∨ ∃ g : Addr, rc = some (.ref g))
  ds : ∃ f : Addr, PySem.W.findIn K (.ref D) (PySem.dunder nm) = some (some (.ref f))
  dr : ∃ rc, PySem.W.findIn K (.ref D) (dunderR nm) = some rc ∧ (rc = none ∨ ∃ g : Addr, rc = some (.ref g))
  hu : PySem.W.subIn K (.ref D) (.ref C) = some false
  ne : (Value.ref C == Value.ref D) = false
theorem binT_mk {K : PySem.W.Frag} {C D : Addr} {nm : String} {f g : Addr} {rc rd : Option Value} (hs : PySem.W.findIn K (.ref C) (PySem.dunder nm) = some (some (.ref f))) (hr : PySem.W.findIn K (.ref C) (dunderR nm) = some rc) (hp : rc = none ∨ ∃ g : Addr, rc = some (.ref g))
    (ds : PySem.W.findIn K (.ref D) (PySem.dunder nm) = some (some (.ref g))) (dr : PySem.W.findIn K (.ref D) (dunderR nm) = some rd) (dp : rd = none ∨ ∃ g : Addr, rd = some (.ref g)) (hu : PySem.W.subIn K (.ref D) (.ref C) = some false) (ne : (Value.ref C == Value.ref D) = false) : BinT K C D nm :=
  ⟨⟨_, hs⟩, ⟨_, hr, hp⟩, ⟨_, ds⟩, ⟨_, dr, dp⟩, hu, ne⟩
section
variable {prog : Program} {w : World} {A : Around} {E : Value → Shared → Prop} {s : Shared} {x y C D f g : Addr} {ox oy : Obj} {od oe : Option Obj} {K : PySem.W.Frag} {op : Operator}
/-- the first part of a op b, up to the left one's method -/
theorem binL_K {Q : Option Value → Shared → Prop} {nm : String} (X : K.In s.heap) (I : PySem.W.InstAt s.heap x ox C od) (J : PySem.W.InstAt s.heap y oy D oe) (hc : PySem.W.selfFirst K C = true) (hd : PySem.W.selfFirst K D = true) (t : BinT K C D nm) (T : Option Value → Shared → Prop)
    (left : wpAny (model prog w) A (tryMethod (.ref x) (PySem.dunder nm) (.ref y)) T E s) (h1 : ∀ v s', T (some v) s' → Q (some v) s')
    (h2 : ∀ s', T none s' → K.In s'.heap ∧ (∃ o od, PySem.W.InstAt s'.heap x o C od) ∧ (∃ o od, PySem.W.InstAt s'.heap y o D od) ∧ wpAny (model prog w) A (tryMethod (.ref y) (dunderR nm) (.ref x)) (fun r s' => ∃ v, r = some v ∧ Q (some v) s') E s') :
    wpAny (model prog w) A (binaryOp1 nm (.ref x) (.ref y)) Q E s := by
  obtain ⟨cd, rest, hcd, hm⟩ := PySem.W.ksp_first hc
  obtain ⟨cd', rest', hcd', hm'⟩ := PySem.W.ksp_first hd
  obtain ⟨⟨f1, hs⟩, ⟨rc, hr, hp⟩, ⟨f2, ds⟩, ⟨rd, dr, dp⟩, hu, hne⟩ := t
  have L1 : PySem.W.Looks (model prog w) s.heap (typeOf (.ref x)) (.ref C) := I.type
  have L2' : PySem.W.Looks (model prog w) s.heap (typeOf (.ref y)) (.ref D) := J.type
  have L3 : PySem.W.Looks (model prog w) s.heap (fillsNumberSlot (.ref C) nm) true := PySem.W.fills_K X hcd hm hs
  have L4 : PySem.W.Looks (model prog w) s.heap (fillsNumberSlot (.ref D) nm) true := PySem.W.fills_K X hcd' hm' ds
  have L5 : PySem.W.Looks (model prog w) s.heap (isSubtype (.ref D) (.ref C)) false := PySem.W.looks_subIn X hu
  have L6 : PySem.W.Looks (model prog w) s.heap (numberSlotInPython (.ref C) nm) true := PySem.W.ksp_inPy X hs hr hp
  have L7 : PySem.W.Looks (model prog w) s.heap (numberSlotInPython (.ref D) nm) true := PySem.W.ksp_inPy X ds dr dp
  have hne' : (Value.ref C == Value.ref D) = false := hne
  unfold binaryOp1
  refine wpAny_bind (L1.here (wpAny_bind (L2'.here (wpAny_bind (L3.here ?_)))))
  simp only [hne', Bool.false_eq_true, if_false]
  refine wpAny_bind (L4.here ?_)
  simp only [Bool.and_self, if_true]
  refine wpAny_bind (L5.here ?_)
  simp only [Bool.false_eq_true, if_false, pure_bind, Bool.not_false, Bool.and_self, if_true]
  refine wpAny_bind (L6.here ?_)
  simp only [Bool.false_eq_true, if_false, pure_bind, if_true]
  refine wpAny_bind (L7.here ?_)
  simp only [Bool.not_true, Bool.false_eq_true, if_false, pure_bind, if_true]
  refine wpAny_bind (wpAny_mono left (fun r s' hq => ?_) fun _ _ z => z)
  cases r with
  | some v => exact wpAny_pure (h1 v s' hq)
  | none =>
    obtain ⟨X2, ⟨_, _, I2⟩, ⟨_, _, J2⟩, right⟩ := h2 s' hq
    have M1 : PySem.W.Looks (model prog w) s'.heap (typeOf (.ref x)) (.ref C) := I2.type
    have M2 : PySem.W.Looks (model prog w) s'.heap (typeOf (.ref y)) (.ref D) := J2.type
    simp only [pure_bind]
    refine wpAny_bind (M1.here (wpAny_bind (M2.here ?_)))
    simp only [hne', Bool.false_eq_true, if_false, pure_bind, Bool.not_false, Bool.and_self, if_true]
    refine wpAny_bind (wpAny_mono right (fun r s'' hq => ?_) fun _ _ z => z)
    obtain ⟨v, rfl, hq⟩ := hq
    exact wpAny_bind (wpAny_rule (wpAny_pure hq))
/-- a op b: the left one's method has an answer -/
theorem binD_K {Q : Value → Shared → Prop} {nm : String} (X : K.In s.heap) (I : PySem.W.InstAt s.heap x ox C od) (J : PySem.W.InstAt s.heap y oy D oe) (hc : PySem.W.selfFirst K C = true) (hd : PySem.W.selfFirst K D = true) (hi : op.info.2 = nm) (t : BinT K C D nm)
    (hm : PySem.W.findIn K (.ref C) (PySem.dunder nm) = some (some (.ref f))) (hf : PySem.W.isFn K (.ref f) = true) (h : wpAny (model prog w) A (call (.ref f) [.ref x, .ref y]) (PySem.W.CmpBack Q) E s) : wpAny (model prog w) A (binaryOp op (.ref x) (.ref y)) Q E s := by
  rcases hi2 : op.info with ⟨sym, nm'⟩
  rw [hi2] at hi
  dsimp only at hi
  subst hi
  simp only [binaryOp, hi2]
  refine wpAny_holding (wpAny_bind ?_)
  refine binL_K (Q := fun r s' => wpAny (model prog w) A _ Q E s') X I J hc hd t _ (PySem.W.ksp_try (M := model prog w) (A := A) (E := E) (Q := Q) X I hm hf h) (fun v s' hq => ?_) (fun s' hq => ?_)
  · obtain ⟨_, e, hq⟩ := hq
    cases e
    exact wpAny_pure hq
  · obtain ⟨_, e, _⟩ := hq
    cases e
/-- a op b: the left one's method gives NotImplemented, the right one's has an answer -/
theorem binR_K {Q : Value → Shared → Prop} {nm : String} {R : Shared → Prop} (X : K.In s.heap) (I : PySem.W.InstAt s.heap x ox C od) (J : PySem.W.InstAt s.heap y oy D oe) (hc : PySem.W.selfFirst K C = true) (hd : PySem.W.selfFirst K D = true) (hi : op.info.2 = nm) (t : BinT K C D nm)
    (hm : PySem.W.findIn K (.ref C) (PySem.dunder nm) = some (some (.ref f))) (hf : PySem.W.isFn K (.ref f) = true) (hm2 : PySem.W.findIn K (.ref D) (dunderR nm) = some (some (.ref g))) (hf2 : PySem.W.isFn K (.ref g) = true)
    (h : wpAny (model prog w) A (call (.ref f) [.ref x, .ref y]) (fun v s' => v = .notImplemented ∧ R s') E s)
    (h2 : ∀ s', R s' → K.In s'.heap ∧ (∃ o od, PySem.W.InstAt s'.heap x o C od) ∧ (∃ o od, PySem.W.InstAt s'.heap y o D od) ∧ wpAny (model prog w) A (call (.ref g) [.ref y, .ref x]) (PySem.W.CmpBack Q) E s') : wpAny (model prog w) A (binaryOp op (.ref x) (.ref y)) Q E s := by
  rcases hi2 : op.info with ⟨sym, nm'⟩
  rw [hi2] at hi
  dsimp only at hi
  subst hi
  simp only [binaryOp, hi2]
  refine wpAny_holding (wpAny_bind ?_)
  have left : wpAny (model prog w) A (tryMethod (.ref x) (PySem.dunder nm') (.ref y)) (fun r s' => r = none ∧ R s') E s := by
    unfold tryMethod
    refine wpAny_bind (PySem.W.special_fn X I hm (beq_iff_eq.mp hf) (wpAny_mono h (fun v s' hv => ?_) fun _ _ e => e))
    obtain ⟨rfl, hr⟩ := hv
    exact wpAny_pure ⟨rfl, hr⟩
  refine binL_K (Q := fun r s' => wpAny (model prog w) A _ Q E s') X I J hc hd t _ left (fun v s' hq => ?_) (fun s' hq => ?_)
  · obtain ⟨e, _⟩ := hq
    cases e
  · obtain ⟨_, hq⟩ := hq
    obtain ⟨X2, I2, ⟨oj, odj, J2⟩, h3⟩ := h2 s' hq
    refine ⟨X2, I2, ⟨oj, odj, J2⟩, wpAny_mono (PySem.W.ksp_try (M := model prog w) (A := A) (E := E) (Q := Q) X2 J2 hm2 hf2 h3) (fun r s'' z => ?_) fun _ _ e => e⟩
    obtain ⟨v, rfl, z⟩ := z
    exact ⟨v, rfl, wpAny_pure z⟩
end
/-! ### a def whose first test leads to NotImplemented -/
section
variable {P : Program} {w : World} {K : PySem.W.Frag} {mg : Str → Option Value} {base : Heap}
abbrev Spn := List V → Hp → (Hp → Prop) → Prop
def NR (outer : List Env) (P : Program) (w : World) (H : Hp) (s : Shared) (Q : Hp → Prop) (r : Result) (s' : Shared) : Prop :=
  match r with
  | .ok (.ret u) => u = Value.notImplemented ∧ CE outer P w H s (fun _ H' => Q H') .none s'
  | .ok _ => False
  | .error e => CX0 outer H s E0 e s'
structure NiOk (P : Program) (w : World) (K : PySem.W.Frag) (mg : Str → Option Value) (base : Heap) (k : Nat) (f : Addr) (fd : FuncData) (ps : List Str) (sp : Spn) : Prop where
  len : ∀ vs H Q, sp vs H Q → vs.length = ps.length
  run : ∀ (A : Around) (outer : List Env) (s : Shared) (H : Hp) (args : Args) (us : List Value) (vs : List V) (Q : Hp → Prop), Room k A → Env0 P w K mg base A outer s H → BindsTo s fd args (ps.zip us) → Vals vs us → sp vs H Q →
    codeAny (model P w) A (.call (.ref f) args) (NR outer P w H s Q) s
theorem ni_of {x qual : Str} {st : Stmt} {f : Addr} {fd : FuncData} {N ps : List Str} {k : Nat} {sp : Spn} {c : Expr} {rest orl : List Stmt} {p1 p2 p3 : Pos} (F : Fun K x qual st f fd) (S : FnScope N ps (defScope st)) (len : ∀ vs H Q, sp vs H Q → vs.length = ps.length)
    (hm : mg "NotImplemented" = none) (hst : defBody st = .If c [.Return (some (.Name "NotImplemented" p1)) p2] orl p3 :: rest)
    (hbody : ∀ (cdv : Value) (A : Around) (outer : List Env) (s : Shared) (H : Hp) (vs : List V) (Q : Hp → Prop), Room k (A.deeper (envOfC qual (defScope st) s.heap.objs.size f cdv)) → sp vs H Q →
      Gl (cxOf CX0 P w K mg base N qual (defScope st) f cdv A outer s H E0) "NotImplemented" ∧ ∃ t, PT (cxOf CX0 P w K mg base N qual (defScope st) f cdv A outer s H E0) c t ∧ t (start N vs) H (fun b H' => b = true ∧ Q H')) :
    NiOk P w K mg base (k + 1) f fd ps sp := by
  obtain ⟨oc, od, kV, doc, pm, an, cdv, ct, osl, rfl, lk, hcd⟩ := F.ex
  refine ⟨len, fun A outer s H args us vs Q hr e0 hb r hsp => ?_⟩
  have hl := len _ _ _ hsp
  have KX : K.In s.heap := e0.mod.kin.keeps fun b o e => (e0.bs b o e).1
  have lim : s.heap.NoLimit := e0.mod.nolimit.keeps fun b o e => (e0.bs b o e).1
  have hkind : ∀ y ∈ ps.zip us, (defScope st).names.lookup y.1 = some .local ∨ ((defScope st).names.lookup y.1 = some .cell ∧ ((cellsFrom (s.heap.objs.size + 1) (defScope st).names []).lookup y.1).isSome = true) := fun ⟨n, v⟩ hy => by
    rcases S.par n (List.of_mem_zip hy).1 with q | q
    · exact .inl q
    · exact .inr ⟨q, PySem.W.cellsFrom_some _ _ _ (.inl q)⟩
  refine codeAny_call_function hr.depth (KX _ _ lk) rfl S.co S.gen rfl (PySem.W.codeRec_of KX hcd) (hb _ _ _ _ ?_)
  refine wpAny_newFunctionEnv_cells S.kind hkind fun env he s1 x => ?_
  subst he
  refine ⟨lim.keeps x.toInCall.keep, codeAny_func ?_⟩
  obtain ⟨hg, t, ht, hq⟩ := hbody cdv A outer s H vs Q (hr.deeper _) hsp
  have I : Inv (cxOf CX0 P w K mg base N qual (defScope st) f cdv A outer s H E0) [] (start N vs) H s1 := inv_start S hr.hd e0 hl r x
  rw [hst]
  refine wpAny_mono (wpAny_execs_cons (wpAny_If (thn (ht.run [] s1 (start N vs) H _ I hq) fun d s2 ⟨H2, I2, e2, q2⟩ => ?_)) : wpAny _ _ _ (fun fl s' => fl = Flow.ret .notImplemented ∧ ∃ H', Inv (cxOf CX0 P w K mg base N qual (defScope st) f cdv A outer s H E0) [] (start N vs) H' s' ∧ Q H') (cxOf CX0 P w K mg base N qual (defScope st) f cdv A outer s H E0).xe _) (fun fl s' hs => ?_) fun e s' hs => hs
  · subst e2
    refine wpAny_execs_cons (wpAny_Return_some (ld_blt I2 hg hm rfl ?_))
    exact ⟨rfl, _, I2, q2⟩
  · obtain ⟨rfl, H', J, q⟩ := hs
    exact ⟨rfl, .non, H', J.os, J.bare, J.base, J.hok, rfl, q⟩
/-- the method m of the class at C keeps such a promise -/
structure Mn (P : Program) (w : World) (K : PySem.W.Frag) (mg : Str → Option Value) (base : Heap) (C : Addr) (m : Str) (k : Nat) (ps : List Str) (sp : Spn) : Prop where
  ok : ∃ (f : Addr) (fd : FuncData), Meth K C m f ∧ Binds K fd ps [] ∧ NiOk P w K mg base k f fd ps sp
theorem mn_mk {C : Addr} {m qual : Str} {st : Stmt} {k : Nat} {ps : List Str} {sp : Spn} (a : MF K C m qual st) (hb : ∀ {f : Addr} {fd : FuncData}, Fun K m qual st f fd → Binds K fd ps []) (ok : ∀ {f : Addr} {fd : FuncData}, Fun K m qual st f fd → NiOk P w K mg base k f fd ps sp) : Mn P w K mg base C m k ps sp := by
  obtain ⟨f, oc, od, kV, doc, pm, an, cdv, ct, osl, h1, h2, h3, h4, h5⟩ := a.ok
  have F := fun_mk (st := st) h3 h4 h5
  exact ⟨⟨f, _, ⟨h1, h2, h5⟩, hb F, ok F⟩⟩
end
section
variable {X : Cx} {CX : CXT} {k j j' : Nat} {C D : Addr} {ps ps' : List Str} {sp : Sp} {spn : Spn} {E : XK} {x y m m' : Str} {nm : String}
theorem ni_at {f : Addr} {fd : FuncData} {pins : List (Addr × Obj)} {σ : L2.St} {H : Hp} {s : Shared} {Q : Hp → Prop} {us : List Value} {vs : List V} {A : Around} {Ex : Value → Shared → Prop} (hfr : A.frames = X.A.frames) (F : NiOk X.prog X.w X.K X.mg X.base k f fd ps spn) (hr : Room k A)
    (hb : Binds X.K fd ps []) (I : Inv X pins σ H s) (r : Vals vs us) (h : spn vs H Q) : wpAny (model X.prog X.w) A (call (.ref f) us) (fun v s' => v = .notImplemented ∧ ∃ H', Inv X pins σ H' s' ∧ Q H') Ex s := by
  have e0 : Env0 X.prog X.w X.K X.mg X.base A X.stack s H := by
    have e := I.env0
    exact ⟨by rw [hfr]; exact e.frames, e.mod, e.bs, e.bsz, e.funs, e.frf, e.hok, e.bare⟩
  have hl : us.length = ps.length := by rw [← r.length]; exact F.len _ _ _ h
  refine wpAny_call (codeAny_mono (F.run A X.stack s H ⟨us, []⟩ us vs Q hr e0 (by
    have := hb s us I.kIn (by simpa using hl)
    simpa using this) r h) fun r s' hq => ?_)
  cases r with
  | error e => exact False.elim hq
  | ok fl =>
    cases fl with
    | ret u =>
      obtain ⟨rfl, hq⟩ := hq
      obtain ⟨v, H', I', _, q⟩ := I.after hq
      exact ⟨rfl, H', I', q⟩
    | next => exact False.elim hq
    | brk => exact False.elim hq
    | cont => exact False.elim hq
/-- a op b, by the left one's method -/
def rOO (C D : Addr) (sp : Sp) (E : XK) : R2 := fun x y H Q => ∃ a b dx dy fs gs, x = .ref a ∧ y = .ref b ∧ H a = some (.ins C dx fs) ∧ H b = some (.ins D dy gs) ∧ sp [x, y] H Q E
theorem op_OO {op : Operator} (M : Mt CX X.prog X.w X.K X.mg X.base C m j ps sp) (c : Kl X.K X.mg x C) (d : Kl X.K X.mg y D) (t : BinT X.K C D nm) (hr : Room k X.A) (hj : j ≤ k) (hx : Passes CX X E) (e : PySem.dunder nm = m := by decide +kernel) (hi : op.info.2 = nm := by rfl) : OpR X (binaryOp op) (rOO C D sp E) := by
  obtain ⟨f, fd, h1, hb, F⟩ := M.ok
  subst e
  intro pins s σ H x y v u Q I rx ry hq
  obtain ⟨a, b, dx, dy, fs, gs, rfl, rfl, ha, hb', q⟩ := hq
  cases rx
  cases ry
  obtain ⟨mA, J, _⟩ := ins_get I.hok ha
  obtain ⟨mB, J', _⟩ := ins_get I.hok hb'
  obtain ⟨od, J, _⟩ := J.look
  obtain ⟨od', J', _⟩ := J'.look
  have r2 : Vals [V.ref a, V.ref b] [Value.ref a, Value.ref b] := .cons rfl (.cons rfl .nil)
  refine binD_K I.kIn J J' c.sf d.sf hi t h1.at_ h1.fn (wpAny_mono (run_at rfl F (hr.mono hj) hb hx I r2 q) (fun w s' z => ?_) fun _ _ z => z)
  obtain ⟨v, H', I', r, q'⟩ := z
  exact cmpBack_of (no_ni r) ⟨v, H', I', r, q'⟩
/-- a op b, by the right one's method -/
def rOR (C D : Addr) (spn : Spn) (sp : Sp) (E : XK) : R2 := fun x y H Q => ∃ a b dx dy fs gs, x = .ref a ∧ y = .ref b ∧ H a = some (.ins C dx fs) ∧ H b = some (.ins D dy gs) ∧ spn [x, y] H (fun H' => (∃ dx fs, H' a = some (.ins C dx fs)) ∧ (∃ dx fs, H' b = some (.ins D dx fs)) ∧ sp [y, x] H' Q E)
theorem op_OR {op : Operator} (N : Mn X.prog X.w X.K X.mg X.base C m j' ps' spn) (M : Mt CX X.prog X.w X.K X.mg X.base D m' j ps sp) (c : Kl X.K X.mg x C) (d : Kl X.K X.mg y D) (t : BinT X.K C D nm) (hr : Room k X.A) (hj' : j' ≤ k) (hj : j ≤ k) (hx : Passes CX X E) (e : PySem.dunder nm = m := by decide +kernel) (e' : dunderR nm = m' := by decide +kernel) (hi : op.info.2 = nm := by rfl) :
    OpR X (binaryOp op) (rOR C D spn sp E) := by
  obtain ⟨f, fd, h1, hb, F⟩ := N.ok
  obtain ⟨g, gd, h1', hb', G⟩ := M.ok
  subst e
  subst e'
  intro pins s σ H x y v u Q I rx ry hq
  obtain ⟨a, b, dx, dy, fs, gs, rfl, rfl, ha, hbb, q⟩ := hq
  cases rx
  cases ry
  obtain ⟨mA, J, _⟩ := ins_get I.hok ha
  obtain ⟨mB, J', _⟩ := ins_get I.hok hbb
  obtain ⟨od, J, _⟩ := J.look
  obtain ⟨od', J', _⟩ := J'.look
  have r2 : Vals [V.ref a, V.ref b] [Value.ref a, Value.ref b] := .cons rfl (.cons rfl .nil)
  have r3 : Vals [V.ref b, V.ref a] [Value.ref b, Value.ref a] := .cons rfl (.cons rfl .nil)
  refine binR_K I.kIn J J' c.sf d.sf hi t h1.at_ h1.fn h1'.at_ h1'.fn (ni_at rfl F (hr.mono hj') hb I r2 q) fun s' ⟨H', I', ⟨dx1, fs1, ha1⟩, ⟨dx2, fs2, hb1⟩, q'⟩ => ?_
  obtain ⟨mA2, J2, _⟩ := ins_get I'.hok ha1
  obtain ⟨mB2, J2', _⟩ := ins_get I'.hok hb1
  obtain ⟨od2, J2, _⟩ := J2.look
  obtain ⟨od2', J2', _⟩ := J2'.look
  refine ⟨I'.kIn, ⟨_, _, J2⟩, ⟨_, _, J2'⟩, wpAny_mono (run_at rfl G (hr.mono hj) hb' hx I' r3 q') (fun w s' z => ?_) fun _ _ z => z⟩
  obtain ⟨v, H', I', r, q'⟩ := z
  exact cmpBack_of (no_ni r) ⟨v, H', I', r, q'⟩
end
end Sy

/-! Lists of own objects beside lists of numbers; a place to rest in a walk. -/
namespace Sy
open PySem PySem.Spec PyProof.Rows L2
/-! ### a place to rest: what comes behind is not looked at -/
def tHold (t : TS) : TS := t
theorem ps_hold {X : Cx} {st : Stmt} {t : TS} (h : PS X st t) : PS X st (tHold t) := h
theorem x_hold {t : TS} {D : Ends} {σ : L2.St} {H : Hp} (J : L2.St → Hp → Prop) (h1 : ∀ σ H, J σ H → D.nx σ H) (h2 : ∀ N : L2.St → Hp → Prop, (∀ σ H, J σ H → N σ H) → t { D with nx := N } σ H) : tHold t D σ H := h2 D.nx h1
/-! ### places of lists -/
theorem ixN_in {n : Nat} {i : Int} (h0 : 0 ≤ i) (h1 : i < n) : ixN n i = some i.toNat := by
  unfold ixN
  rw [if_pos h0, if_pos h1]
theorem ixN_set {xs : List V} {i : Int} {j k : Nat} {v : V} (h : ixN xs.length i = some j) : ixN (xs.set k v).length i = some j := by rw [List.length_set]; exact h
theorem atI_set {xs : List V} {i : Int} {j : Nat} {v : V} (h : ixN xs.length i = some j) : atI (xs.set j v) i = some v := by
  have hj := (ixN_seq h).2.1
  unfold atI
  rw [ixN_set h]
  show (xs.set j v)[j]? = some v
  rw [List.getElem?_set_self hj]
/-! ### objects beside their numbers -/
def Tab (P : Addr → Int → Prop) (N : Nat) (xs : List V) (ns : List Int) : Prop := xs.length = ns.length ∧ ∀ (i : Nat) (x : V), xs[i]? = some x → ∃ a n, x = .ref a ∧ ns[i]? = some n ∧ P a n ∧ n.natAbs < N
theorem Tab.at {P : Addr → Int → Prop} {N m : Nat} {xs : List V} {ns : List Int} (h : Tab P N xs ns) (hl : ns.length = m) {i : Int} (h0 : 0 ≤ i) (h1 : i < m) :
    ∃ a n, atI xs i = some (.ref a) ∧ atI (ns.map V.int) i = some (.int n) ∧ P a n ∧ n.natAbs < N := by
  obtain ⟨k, rfl⟩ : ∃ k : Nat, i = k := ⟨i.toNat, by omega⟩
  have hk : k < xs.length := by rw [h.1, hl]; omega
  obtain ⟨a, n, e1, e2, e3, e4⟩ := h.2 k _ (List.getElem?_eq_getElem hk)
  refine ⟨a, n, atI_nat ?_, atI_nat ?_, e3, e4⟩
  · rw [List.getElem?_eq_getElem hk, e1]
  · rw [List.getElem?_map, e2]; rfl
theorem Tab.up {P P' : Addr → Int → Prop} {N N' : Nat} {xs : List V} {ns : List Int} (h : Tab P N xs ns) (hP : ∀ a n, P a n → P' a n) (hN : N ≤ N') : Tab P' N' xs ns :=
  ⟨h.1, fun i x hx => let ⟨a, n, e1, e2, e3, e4⟩ := h.2 i x hx; ⟨a, n, e1, e2, hP _ _ e3, Nat.lt_of_lt_of_le e4 hN⟩⟩
theorem Tab.set {P : Addr → Int → Prop} {N : Nat} {xs : List V} {ns : List Int} (h : Tab P N xs ns) {a : Addr} {n : Int} (hp : P a n) (hn : n.natAbs < N) (j : Nat) : Tab P N (xs.set j (.ref a)) (ns.set j n) := by
  refine ⟨by rw [List.length_set, List.length_set, h.1], fun i x hx => ?_⟩
  by_cases e : j = i
  · subst e
    have hj : j < xs.length := by
      have := (List.getElem?_eq_some_iff.mp hx).1
      rw [List.length_set] at this
      exact this
    rw [List.getElem?_set_self hj] at hx
    cases hx
    exact ⟨a, n, rfl, List.getElem?_set_self (by rw [← h.1]; exact hj), hp, hn⟩
  · rw [List.getElem?_set_ne e] at hx
    obtain ⟨a', n', e1, e2, e3, e4⟩ := h.2 i x hx
    exact ⟨a', n', e1, by rw [List.getElem?_set_ne e]; exact e2, e3, e4⟩
theorem Tab.app {P : Addr → Int → Prop} {N : Nat} {xs : List V} {ns : List Int} (h : Tab P N xs ns) {a : Addr} {n : Int} (hp : P a n) (hn : n.natAbs < N) : Tab P N (xs ++ [.ref a]) (ns ++ [n]) := by
  refine ⟨by rw [List.length_append, List.length_append, h.1]; rfl, fun i x hx => ?_⟩
  by_cases e : i < xs.length
  · rw [List.getElem?_append_left e] at hx
    obtain ⟨a', n', e1, e2, e3, e4⟩ := h.2 i x hx
    exact ⟨a', n', e1, by rw [List.getElem?_append_left (by rw [← h.1]; exact e)]; exact e2, e3, e4⟩
  · rw [List.getElem?_append_right (by omega)] at hx
    have hi : i - xs.length = 0 := by
      have := (List.getElem?_eq_some_iff.mp hx).1
      simp at this
      omega
    rw [hi] at hx
    cases hx
    refine ⟨a, n, rfl, ?_, hp, hn⟩
    rw [List.getElem?_append_right (by rw [← h.1]; omega), ← h.1, hi]
    rfl
theorem Tab.nil {P : Addr → Int → Prop} {N : Nat} : Tab P N [] [] := ⟨rfl, fun i x hx => by cases hx⟩
theorem map_set_int {ns : List Int} {j : Nat} {n : Int} : (ns.map V.int).set j (.int n) = (ns.set j n).map V.int := List.map_set.symm
end Sy

/-! a += b of own instances without an in-place method; comprehensions over lists that stand. -/
namespace Sy
open PySem PySem.Spec PyProof.Rows L2
section
open PySem.W
variable {prog : Program} {w : World} {A : Around} {E : Value → Shared → Prop} {s : Shared} {K : Frag} {x C f : Addr} {h₀ : Heap} {L : Addr} {m : Str → Option Value} {ox : Obj} {od : Option Obj}
/-- what a += b asks of the class -/
structure IpT (K : Frag) (C : Addr) : Prop where
  hm : (clsIn K C).map (·.mro) = some [.ref C, .type "object"]
  h1 : findIn K (.ref C) (dunderI "add") = some none
  h2 : findIn K (.type "object") (dunderI "add") = some none
theorem fills_none {h : Heap} (X : K.In h) (T : IpT K C) : Looks (model prog w) h (fillsInplaceSlot (.ref C) "add" true) false := by
  intro A Q E s k q
  obtain ⟨cd, hc, hmro⟩ : ∃ cd, clsIn K C = some cd ∧ cd.mro = [.ref C, .type "object"] := by
    have e := T.hm
    cases hh : clsIn K C with
    | none => rw [hh] at e; cases e
    | some cd => rw [hh] at e; exact ⟨cd, rfl, Option.some.inj e⟩
  have Lm : Looks (model prog w) h (mroOf (.ref C)) cd.mro := (looks_clsIn X hc).andThen (f := fun cd => pure cd.mro) .now
  have Lm' := Lm.keeps k
  obtain ⟨hh, g, d, tt, os⟩ := s
  have X' : K.In hh := X.keeps k
  have L1 : Looks (model prog w) hh (typeLookup (.ref C) (dunderI "add")) none := looks_findIn X' T.h1
  have L2 : Looks (model prog w) hh (typeLookup (.type "object") (dunderI "add")) none := looks_findIn X' T.h2
  unfold fillsInplaceSlot
  refine wpAny_bind (Lm'.at ?_)
  rw [hmro, List.anyM_cons, List.anyM_cons, List.anyM_nil]
  refine wpAny_bind (wpAny_bind (L1.at (wpAny_pure ?_)))
  refine wpAny_bind (wpAny_bind (L2.at (wpAny_pure ?_)))
  exact wpAny_pure q
theorem iop_add_K {b : Value} {Q : Value → Shared → Prop} (F : Fr h₀ L s.heap m) (X₀ : K.In h₀) (I : InstAt s.heap x ox C od) (hb : Looks (model prog w) s.heap (typeOf b) (.ref C)) (hc : selfFirst K C = true) (T : IpT K C)
    (hs : findIn K (.ref C) (PySem.dunder "add") = some (some (.ref f))) (hf : isFn K (.ref f) = true)
    (h : wpAny (model prog w) A (call (.ref f) [.ref x, b]) (PySem.W.CmpBack Q) E s) : wpAny (model prog w) A (inplaceOp .Add (.ref x) b) Q E s := by
  have X := X₀.keeps F.keep
  obtain ⟨cd, hcd, hm⟩ := any_some hc
  obtain ⟨rest, hm⟩ : ∃ rest, cd.mro = .ref C :: rest := by
    cases q : cd.mro with
    | nil => rw [q] at hm; cases hm
    | cons a r => rw [q] at hm; exact ⟨r, by rw [List.head?_cons] at hm; cases (beq_iff_eq.mp hm); rfl⟩
  unfold inplaceOp
  refine wpAny_holding (wpAny_bind (I.type.here ?_))
  refine wpAny_bind ((fills_none X T).here ?_)
  simp only [Bool.false_eq_true, if_false, pure_bind]
  refine wpAny_bind ?_
  show wpAny (model prog w) A (binaryOp1 "add" (.ref x) b) _ E s
  unfold binaryOp1
  refine wpAny_bind (I.type.here (wpAny_bind (hb.here (wpAny_bind ((fills_K X hcd hm hs).here ?_)))))
  simp only [beq_self_eq_true, if_true]
  refine wpAny_bind (wpAny_pure ?_)
  simp only [Bool.and_false, Bool.false_eq_true, if_false, Bool.false_and]
  refine wpAny_bind (wpAny_pure ?_)
  simp only [Bool.false_eq_true, if_false]
  refine wpAny_bind (m := tryMethod (.ref x) _ b) ?_
  unfold tryMethod
  refine wpAny_bind (special_fn X I hs (beq_iff_eq.mp hf) (wpAny_mono h (fun v s' hv => ?_) fun _ _ e => e))
  cases v <;> first | exact hv.elim | exact wpAny_pure (wpAny_pure (wpAny_pure hv))
end
section
variable {X : Cx} {CX : CXT} {k j : Nat} {C : Addr} {ps : List Str} {sp : Sp} {E : XK} {x : Str}
theorem ipt_mk {K : PySem.W.Frag} {C : Addr} {cd : ClassData} (hc : PySem.W.clsIn K C = some cd) (hm : cd.mro = [.ref C, .type "object"]) (h1 : PySem.W.findIn K (.ref C) (dunderI "add") = some none) (h2 : PySem.W.findIn K (.type "object") (dunderI "add") = some none) : IpT K C := ⟨by rw [hc]; exact congrArg some hm, h1, h2⟩
/-- a += b of two instances of the class at C, which has no in-place method -/
theorem ip_own (D : Mt CX X.prog X.w X.K X.mg X.base C "__add__" j ps sp) (c : Kl X.K X.mg x C) (T : IpT X.K C) (hr : Room k X.A) (hj : j ≤ k) (hx : Passes CX X E) : PIp X .Add (rOwn C sp E) := by
  obtain ⟨f, fd, h1, hb, F⟩ := D.ok
  intro pins s σ H x y v u Q I rx ry hq
  obtain ⟨a, b, dx, dy, fs, gs, rfl, rfl, ha, hb', q⟩ := hq
  cases rx
  cases ry
  obtain ⟨mA, J, _⟩ := ins_get I.hok ha
  obtain ⟨mB, J', _⟩ := ins_get I.hok hb'
  obtain ⟨od, J, _⟩ := J.look
  obtain ⟨od', J', _⟩ := J'.look
  obtain ⟨m', hF⟩ := I.fr
  have r2 : Vals [V.ref a, V.ref b] [Value.ref a, Value.ref b] := .cons rfl (.cons rfl .nil)
  have e : (PySem.dunder "add" : Str) = "__add__" := by decide +kernel
  refine iop_add_K hF I.ok.mod.kin J J'.type c.sf T (by rw [e]; exact h1.at_) h1.fn (wpAny_mono (run_at rfl F (hr.mono hj) hb hx I r2 q) (fun w s' z => ?_) fun _ _ z => z)
  obtain ⟨v, H', I', r, q'⟩ := z
  exact cmpBack_of (no_ni r) ⟨v, H', I', r, q'⟩
end
end Sy

/-! List comprehensions over worlds; methods of lists; list(..). -/
namespace Sy
open PySem PySem.Spec PyProof.Rows L2
section
variable {σ : L2.St} {H B : Hp} {M : List (Addr × HO)} {Q : VK} {K : PySem.W.Frag} {to tl te : TE} {t : TA} {tt : TT} {g : TG} {xs ys : List V} {v : V} {T : String} {r : V → List V → Hp → VK → Prop} {vs : List Nat}
theorem x_bm (h : to σ H fun x H1 => tyV K T x H1 ∧ t σ H1 fun xs H2 => r x xs H2 Q) : tBM K T r to t σ H Q := h
theorem x_bm0 (h : to σ H fun x H1 => tyV K T x H1 ∧ r x [] H1 Q) : tBM0 K T r to σ H Q := h
theorem x_tyL {p : Addr} {N : Prop} (h : SqL K H p xs) (n : N) : tyV K "list" (.ref p) H ∧ N := ⟨.inl ⟨rfl, _, h⟩, n⟩
theorem x_tyS {z : Str} {N : Prop} (n : N) : tyV K "str" (.str z) H ∧ N := ⟨rfl, n⟩
theorem x_append (w : Wd B M H) {l : Addr} {k : Nat} (hk : M[k]? = some (l, .lst xs)) (hl : xs.length < 100000) (h : ∀ H', Wd B (M.set k (l, .lst (xs ++ [v]))) H' → Q .non H') : rAppend (.ref l) [v] H Q :=
  ⟨l, xs, v, rfl, rfl, w.get hk, sz_lt hl, h _ (w.set hk _)⟩
def KN (ys : List V) (H : Hp) (Q : VK) : Prop := ∀ l, H l = none → Q (.ref l) (upd H l (.lst ys))
def rLst (K : PySem.W.Frag) : List V → Hp → VK → Prop := fun xs H Q => ∃ p ys, xs = [.ref p] ∧ (SqL K H p ys ∨ SqT K H p ys) ∧ KN ys H Q
theorem c_list {X : Cx} : CallR X (.type "list") (rLst X.K) := call_list_of
theorem x_listL {p : Addr} (h : SqL K H p xs) (k : KN xs H Q) : rLst K [.ref p] H Q := ⟨p, xs, rfl, .inl h, k⟩
theorem x_listT {p : Addr} (h : SqT K H p xs) (k : KN xs H Q) : rLst K [.ref p] H Q := ⟨p, xs, rfl, .inr h, k⟩
theorem x_kn (w : Wd B M H) (k : ∀ p B' H', Ex B B' → B' p = some (.lst xs) → Wd B' M H' → Q (.ref p) H') : KN xs H Q := fun p np => k p _ _ (Ex.new (w.free np)) upd_same (w.alloc np _)
theorem x_knM (w : Wd B M H) (k : ∀ p H', Wd B ((p, .lst xs) :: M) H' → Q (.ref p) H') : KN xs H Q := fun p np => k p _ (w.allocM np _)
/-- [.. for .. in a list] -/
def LcL (K : PySem.W.Frag) (g : TG) (tt : TT) (te : TE) (vs : List Nat) (σ : L2.St) (x : V) (H1 : Hp) (Q : VK) : Prop := ∃ a, x = .ref a ∧ (∃ xs, SqL K H1 a xs) ∧ ∀ D, H1 D = none → ∃ W : Nat → Nat → Hp → Prop, (∃ m, W 0 m (upd H1 D (.lst []))) ∧ ∀ i m H, W i m H →
  ((Itl K a).stop i H ∧ Q (.ref D) H) ∨ ((Itl K a).go i H ∧ ∃ Nx : Hp → Prop, (∀ H', Nx H' → ∃ m', m' < m ∧ W (i + 1) m' H') ∧ ∀ x H', (Itl K a).yld i H x H' → g x (wipe σ vs) H' fun σ2 H2 => wipe σ2 vs = wipe σ vs ∧ tt σ2 H2 fun b H3 =>
    if b = true then te σ2 H3 fun y H4 => ∃ acc, H4 D = some (.lst acc) ∧ acc.length < sizeLine ∧ Nx (upd H4 D (.lst (acc ++ [y]))) else Nx H3)
theorem x_lc (h : tl σ H fun x H1 => LcL K g tt te vs σ x H1 Q) : tLc (iList K tl) g tt te vs σ H Q := h
/-- what stands in the i-th turn: what is made so far is kept apart, at the head of what changes -/
def LcI (P : Nat → List V → Hp → Prop) (B : Hp) (M : List (Addr × HO)) (D : Addr) (i : Nat) (H' : Hp) : Prop := ∃ acc B', P i acc B' ∧ Ex B B' ∧ acc.length ≤ i ∧ Wd B' ((D, .lst acc) :: M) H'
theorem lc_y {P : Nat → List V → Hp → Prop} {B2 H4 : Hp} {D : Addr} {i : Nat} {acc : List V} {y : V} (w2 : Wd B2 ((D, .lst acc) :: M) H4) (e : Ex B B2) (ha : acc.length ≤ i) (hi : i < 90000) (p : P (i + 1) (acc ++ [y]) B2) :
    ∃ acc', H4 D = some (.lst acc') ∧ acc'.length < sizeLine ∧ LcI P B M D (i + 1) (upd H4 D (.lst (acc' ++ [y]))) :=
  ⟨acc, w2.mu _ List.mem_cons_self, sz_lt (by omega), acc ++ [y], B2, p, e, by rw [List.length_append]; show acc.length + 1 ≤ i + 1; omega, w2.set (k := 0) rfl _⟩
theorem lc_n {P : Nat → List V → Hp → Prop} {B2 H4 : Hp} {D : Addr} {i : Nat} {acc : List V} (w2 : Wd B2 ((D, .lst acc) :: M) H4) (e : Ex B B2) (ha : acc.length ≤ i) (p : P (i + 1) acc B2) : LcI P B M D (i + 1) H4 := ⟨acc, B2, p, e, by omega, w2⟩
/-- .. over a list that stands -/
theorem x_lcL {a : Addr} (w : Wd B M H) (hx : ∀ H', Ex B H' → (∀ q ∈ M, H' q.1 = some q.2) → SqL K H' a xs) (P : Nat → List V → Hp → Prop) (hl : xs.length ≤ 90000) (h0 : P 0 [] B)
    (hs : ∀ i x acc D B' H', xs[i]? = some x → i < 90000 → P i acc B' → Ex B B' → acc.length ≤ i → Wd B' ((D, .lst acc) :: M) H' → g x (wipe σ vs) H' fun σ2 H2 => wipe σ2 vs = wipe σ vs ∧ tt σ2 H2 fun b H3 =>
      if b = true then te σ2 H3 fun y H4 => ∃ acc', H4 D = some (.lst acc') ∧ acc'.length < sizeLine ∧ LcI P B M D (i + 1) (upd H4 D (.lst (acc' ++ [y]))) else LcI P B M D (i + 1) H3)
    (hd : ∀ acc D B' H', P xs.length acc B' → Ex B B' → Wd B' ((D, .lst acc) :: M) H' → Q (.ref D) H') : LcL K g tt te vs σ (.ref a) H Q := by
  refine ⟨a, rfl, ⟨xs, hx H w.ex w.mu⟩, fun D nD => ?_⟩
  refine lc_list (xs := xs) (LcI P B M D) ⟨[], B, h0, Ex.rf B, Nat.le_refl _, w.allocM nD _⟩ (fun i H' _ ⟨acc, B', _, e, _, w'⟩ => hx H' (e.tr w'.ex) fun q hq => w'.mu q (List.mem_cons_of_mem _ hq)) ?_ (fun H' ⟨acc, B', p, e, _, w'⟩ => hd acc D B' H' p e w')
  rintro i x H' hxi ⟨acc, B', p, e, hacc, w'⟩
  have hi : i < xs.length := (List.getElem?_eq_some_iff.mp hxi).1
  exact hs i x acc D B' H' hxi (by omega) p e hacc w'
theorem x_aug {D : Ends} {ti : TIp} {x : V} {i : Nat} (hi : σ[i]? = some (some x)) (h : te σ H fun y H1 => ti x y H1 fun z H2 => D.nx (σ.set i (some z)) H2) : tAug i te ti D σ H := ⟨x, hi, h⟩
theorem x_ip {f : Int → Int → Int} {i j : Int} (h : Q (.int (f i j)) H) : ipI f (.int i) (.int j) H Q := ⟨i, j, rfl, rfl, h⟩
theorem x_yes {H : Hp} {N : Bool → Hp → Prop} (h : N true H) : tYes σ H N := h
end
end Sy

/-! Errors of one's own over any built-in base: made, raised, asked for their class. -/
namespace Sy
open PySem PySem.Spec PyProof.Rows L2
section
open PySem.W PySem.Calls Builtin Builtin.ObjectAttr
variable {prog : Program} {w : World} {A : Around} {R : Result → Shared → Prop} {hp : Heap} {g : Array GenState} {d : Drawn} {t : Nat} {os : OsState}
theorem osaB {B : String} {bmB : List Value} {K : Frag} {name : Str} {tk : Tok} {v : Value} {x C : Addr} {fv : Array Value} {cd : ClassData} (SF : StoreFacts B bmB "object.__setattr__" "object") (X : K.In hp)
    (hx : hp.get? x = some { cls := .ref C, data := .fields fv }) (hcd : clsIn K C = some cd) (ho : excOver K C bmB = true) (hh : cd.hasDict = true) (ht : takerIn K C name = some none)
    (hq : ∀ h' tk' dx, (∀ b o, b ≠ x → hp.get? b = some o → h'.get? b = some o) → hp.objs.size ≤ dx → dx ≠ x → h'.get? x = some { cls := .ref C, dict := some dx, data := .fields fv } →
      h'.Ns1 dx (fun y => if y = name then some v else none) → R (.ok (.ret .none)) ⟨h', g, d, tk', os⟩) :
    codeAny (model prog w) A (.call (.builtin "object.__setattr__") ⟨[.ref x, .str name tk, v], []⟩) R ⟨hp, g, d, t, os⟩ := by
  have far : x ≠ hp.objs.size := Nat.ne_of_lt (Heap.lt_size hx)
  have lc : Looks (model prog w) hp (classData C) cd := looks_clsIn X hcd
  refine osa_openX SF X (ox := { cls := .ref C, data := .fields fv }) (od := none) ⟨hx, rfl, rfl, trivial⟩ ho ht fun b => ?_
  obtain ⟨nm, bs, mro, ns, qn, hd, sn, sb, ab, col, del⟩ := cd
  cases hh
  show wpAny _ _ (storeInOwnDict (.ref x) (.ref C) (.str name tk) name v b) _ _ _
  unfold storeInOwnDict ownDictForStores
  repeat (first | with_reducible refine PySem.HandSPX.store_in_new ?_ ?_ | with_reducible refine wpAny_loadPart_at hx ?_ | with_reducible refine lc.at ?_ | wp_step)
  · exact ⟨_, #[], _, (Heap.get?_update_ne _ _ _ _ far.symm).trans (Heap.get?_push_at rfl rfl), rfl, fun e he => absurd he (by simp), fun _ => rfl⟩
  · intro h' tk' n s
    have h1 := Heap.get?_push_of_some ({ cls := .type "dict", data := .dict #[] } : Obj) hx
    exact hq h' tk' hp.objs.size (fun b o hb z => (s.2 b (Nat.ne_of_lt (Heap.lt_size z))).trans ((Heap.get?_update_ne _ _ _ _ hb).trans (Heap.get?_push_of_some _ z))) (Nat.le_refl _) far.symm ((s.2 x far).trans (Heap.get?_update_self _ h1 rfl)) n
end
/-! ### what a class of errors says -/
/-- a made error: at e, of the class at C, its own dict at d holding m -/
structure MadeE (h h' : Heap) (e C d : Addr) (m : Str → Option Value) : Prop where
  keep : ∀ b o, h.get? b = some o → h'.get? b = some o
  new : h.objs.size ≤ e
  obj : ∃ oe vs, h'.get? e = some oe ∧ oe.cls = .ref C ∧ oe.dict = some d ∧ oe.data = .fields vs ∧ vs[1]? = some .none
  dbig : h.objs.size ≤ d
  dne : d ≠ e
  ns : h'.Ns1 d m
/-- the class called x, at C, whose instances keep the fields fs -/
structure ErrC (prog : Program) (w : World) (K : PySem.W.Frag) (mg : Str → Option Value) (x : Str) (C : Addr) (fs : List Str) : Prop where
  gC : mg x = some (.ref C)
  kC : PySem.W.keepIn K (.ref C) = true
  exC : PySem.W.subIn K (.ref C) (.type "BaseException") = some true
  tyC : PySem.W.typeIn K (.ref C) = some (.type "type")
  hdC : PySem.W.hasDictIn K C = true
  ga : PySem.W.findIn K (.ref C) "__getattribute__" = some (some (.builtin "BaseException.__getattribute__"))
  gg : PySem.W.findIn K (.ref C) "__getattr__" = some none
  no : ∀ f ∈ fs, PySem.W.findIn K (.ref C) f = some none
  made : ∀ {A : Around} {R : Result → Shared → Prop} {s : Shared} {us : List Value}, us.length = fs.length → K.In s.heap → s.heap.NoLimit → A.depth + 1 < recursionLimit →
    (∀ h' tk e d, MadeE s.heap h' e C d (fun y => (fs.zip us).lookup y) → R (.ok (.ret (.ref e))) { s with heap := h', toks := tk }) → codeAny (model prog w) A (.call (.ref C) ⟨us, []⟩) R s
theorem zip_rel : ∀ {fs : List Str} {vs : List V} {us : List Value}, Vals vs us → ∀ y, RelO ((fs.zip vs).lookup y) ((fs.zip us).lookup y)
  | [], _, _, _, _ => trivial
  | f :: fs, _, _, .nil, _ => trivial
  | f :: fs, _, _, .cons r rs, y => by
    rw [List.zip_cons_cons, List.zip_cons_cons, List.lookup_cons, List.lookup_cons]
    cases y == f with
    | true => exact r
    | false => exact zip_rel rs y
section
variable {X : Cx} {C : Addr} {x : Str} {fs : List Str}
/-- X(e, ..), an error -/
def tMkE (C : Addr) (fs : List Str) (ta : TA) : L2.St → Hp → XK → Prop := fun σ H Q => ta σ H fun vs H1 => vs.length = fs.length ∧ ∀ d, H1 d = none → Q (.ref C) (some d) (upd H1 d (.xd (fs.zip vs)))
theorem pmk_err {a : Expr} {as : List Expr} {ta : TA} {p pos : Pos} {k : Nat} (T : ErrC X.prog X.w X.K X.mg x C fs) (hr : Room k X.A) (hk : 1 ≤ k) (ha : PA X (a :: as) ta) (hg : Gl X x := by rfl) (hdb : (x == ("__debug__" : Str)) = false := by decide)
    (he : starEach (a :: as) X.env = (false, eval a X.env) :: starEach as X.env := by rfl) (hpl : (backTo pos (starEach as X.env)).any (·.1) = false := by rfl) :
    PMk X (.Call (.Name x p) (a :: as) [] pos) (tMkE C fs ta) := by
  intro pins s σ H Q I h
  refine wpAny_Call_Name_kw (ld_glob I hg T.gC ?_ hdb)
  refine PySem.W.callWith_K (h₀ := X.base) I.ok.mod.kin T.kC (thn (ha.run pos pins s σ H _ I h) fun us s1 ⟨vs, H1, I1, r, hl, q⟩ => ⟨I1.kIn, ?_⟩) he hpl
  show wpAny _ _ (call (.ref C) us) _ _ _
  have lim := I1.nolimit
  obtain ⟨hp, g, dr, tk, os⟩ := s1
  refine wpAny_call (T.made (r.length.symm.trans hl) I1.kIn lim (by have := hr.dp; omega) fun h' tk' e d M => ?_)
  obtain ⟨oe, fv, h1, h2, h3, h4, h5⟩ := M.obj
  obtain ⟨G, ga, gb⟩ := restrict h' fun b => decide (b ≠ e)
  have gk : ∀ b, b ≠ e → G.get? b = h'.get? b := fun b z => ga b (decide_eq_true z)
  have ge : G.get? e = none := gb e (by simp)
  have old : ∀ b o, hp.get? b = some o → G.get? b = some o := fun b o z => (gk b (Nat.ne_of_lt (Nat.lt_of_lt_of_le (Heap.lt_size z) M.new))).trans (M.keep b o z)
  have ob : ObjOk X.prog X.w (upd H1 d (.xd (fs.zip vs))) G d (.xd (fs.zip vs)) := ⟨_, M.ns.at fun o z => (gk d M.dne).trans z, fun f => zip_rel r f⟩
  have J : Inv X pins σ (upd H1 d (.xd (fs.zip vs))) ⟨G, g, dr, tk', os⟩ := I1.laid (t' := tk') old M.dbig ob
  refine ⟨e, oe, fv, ⟨G, g, dr, tk', os⟩, _, .ref C, some d, rfl, J, fun b o z => ?_, ge, h1, ⟨h2, h3⟩, h4, h5, ?_, rfl, I1.bare, raises_own T.exC T.tyC, q d (I1.hok.fresh M.dbig)⟩
  · have z' : G.get? b = some o := z
    by_cases hb : b = e
    · rw [hb, ge] at z'; cases z'
    · exact (gk b hb).symm.trans z'
  · rw [upd_ne (Ne.symm M.dne)]
    exact I1.hok.fresh M.new
def tRaiseE (C : Addr) (fs : List Str) (W : WX) (ta : TA) : TS := fun _ σ H => tMkE C fs ta σ H fun cls d H' => W cls d σ H'
theorem ps_raiseE {a : Expr} {as : List Expr} {ta : TA} {W : WX} {p pos pos2 : Pos} {k : Nat} (hc : X.calm = true) (T : ErrC X.prog X.w X.K X.mg x C fs) (hr : Room k X.A) (hk : 1 ≤ k) (tk : Takes X W) (ha : PA X (a :: as) ta) (hg : Gl X x := by rfl) (hdb : (x == ("__debug__" : Str)) = false := by decide)
    (he : starEach (a :: as) X.env = (false, eval a X.env) :: starEach as X.env := by rfl) (hpl : (backTo pos (starEach as X.env)).any (·.1) = false := by rfl) :
    PS X (.Raise (some (.Call (.Name x p) (a :: as) [] pos)) none pos2) (tRaiseE C fs W ta) := ps_raise hc tk (pmk_err T hr hk ha hg hdb he hpl)
/-- isinstance(e, c), e the error that the suite holds -/
structure IsE (K : PySem.W.Frag) (D : Addr) : Prop where
  hg : PySem.W.findIn K (.ref D) "__getattribute__" = some (some (.builtin "BaseException.__getattribute__"))
  hk : PySem.W.findIn K (.ref D) "__getattr__" = some none
  hs : PySem.W.subIn K (.ref D) (.type "BaseException") = some true
  hd : PySem.W.hasDictIn K D = true
  ha : PySem.W.findIn K (.ref D) "__class__" = some (some (.builtin "object.__class__"))
  hn : PySem.W.specialIn K (.builtin "object.__class__") "__get__" = some (some (.builtin "getset_descriptor.__get__"))
  ht : PySem.W.takesIn K (.builtin "object.__class__") = some true
  hm : PySem.W.mroIn K D (.type "object") = some true
def rIsD (K : PySem.W.Frag) (a : Addr) (cls : Value) (d : Option Addr) : List V → Hp → VK → Prop := fun xs H Q => ∃ (D : Addr) (c : V) (cv : Value) (b : Bool) (dd : Addr) (fs : List (Str × V)), cls = .ref D ∧ IsE K D ∧ xs = [.ref a, c] ∧ d = some dd ∧ H dd = some (.xd fs) ∧ ClsV c cv ∧ PySem.W.kitOne K (.ref D) cv = some b ∧ Q (.bl b) H
theorem call_isD {a : Addr} {oe : Obj} {cls : Value} {d : Option Addr} {pn : List (Addr × Obj)} (hz : Zc cls d oe) (hf : ∃ vs, oe.data = .fields vs) : CallR (X.suite a ((a, oe) :: pn)) (.builtin "isinstance") (rIsD X.K a cls d) := by
  intro pins s σ H xs us Q I r h
  obtain ⟨D, c, cv, b, dd, fs, rfl, T, rfl, rfl, ea, hcv, e, q⟩ := h
  cases r with
  | cons rx rr =>
    cases rr with
    | cons rt rr =>
      cases rr
      cases rx
      obtain ⟨hget, _⟩ := I.pin (a, oe) (List.mem_append.mpr (.inl List.mem_cons_self))
      obtain ⟨vs, hv⟩ := hf
      have hx : ObjOk X.prog X.w H s.heap dd (.xd fs) := I.hok dd _ ea
      obtain ⟨mA, hns, _⟩ := hx
      obtain ⟨od, ho, _⟩ := lookIn_ns hns
      have J : PySem.W.InstAt s.heap a oe D (some od) := ⟨hget, hz.1, by unfold PySem.W.notCls; rw [hv] <;> rfl, by rw [hz.2]; exact ho⟩
      have eu := hcv.eq rt
      subst eu
      exact PySem.W.kia_one (PySem.W.kitx_exc (by obtain ⟨cd, hc, _⟩ := PySem.W.any_some T.hd; rw [hc]; rfl) T.hg T.hk T.hs T.ha T.hn T.ht T.hm) I.kIn J e (fun z => nomatch z) fun tk => ⟨.bl b, H, I.kept (t' := tk) fun _ _ z => z, rfl, q⟩
/-- the written part says of a class D that it is (k) or is not under C -/
structure SubT (K : PySem.W.Frag) (D : Addr) (c : Value) (k : Bool) : Prop where
  kit : PySem.W.kitOne K (.ref D) c = some k
  exm : PySem.W.subIn K c (.type "BaseException") = some true → PySem.W.exmOne K (.ref D) c = some k
end
/-! ### C(e, .., k = v, ..), what is raised wished for at the caller's slots -/
section
variable {X : Cx} {CX : CXT} {k n j : Nat} {f C : Addr} {fd : FuncData} {ps ks : List Str} {sp : Sp} {x : Str} {p pos : Pos} {e : Expr} {es : List Expr} {kws : List Keyword} {t tk : TA} {g : List Value → List Value → List Value} {gV : List V → List V → List V}
def tMakeKS (C : Addr) (n m : Nat) (sp : Sp) (gV : List V → List V → List V) (E : L2.St → XK) (t tk : TA) : TE := fun σ H Q => t σ H fun vs H1 => tk σ H1 fun zs H2 => vs.length = n ∧ zs.length = m ∧
  ∀ y dy, H2 y = none → H2 dy = none → dy ≠ y → sp (gV (.ref y :: vs) zs) (upd (upd H2 dy (.own y)) y (.ins C dy [])) (fun v H3 => v = .non ∧ Q (.ref y) H3) (E σ)
theorem run_mkS {E : XK} {pins : List (Addr × Obj)} {σ : L2.St} {H : Hp} {s : Shared} {Q : VK} {us ws : List Value} {vs zs : List V} (M : Mk X.K C f) (F : FnOk X.prog X.w X.K X.mg X.base CX k f fd ps sp) (hr : Room (k + 1) X.A) (hb : KBn X.K fd ps (n + 1) ks g gV) (hx : PassesAt CX X σ E) (I : Inv X pins σ H s)
    (r : Vals vs us) (rz : Vals zs ws) (l1 : vs.length = n) (l2 : zs.length = ks.length) (h : ∀ y dy, H y = none → H dy = none → dy ≠ y → sp (gV (.ref y :: vs) zs) (upd (upd H dy (.own y)) y (.ins C dy [])) (fun v H2 => v = .non ∧ Q (.ref y) H2) E) :
    wpAny (model X.prog X.w) X.A (call (.ref C) us (ks.zip ws)) (EP X pins σ Q) X.xe s := by
  let y := s.heap.objs.size + 1
  have J := Inv.made (C := C) I
  have q := h y s.heap.objs.size (I.hok.fresh (Nat.le_succ _)) (I.hok.fresh (Nat.le_refl _)) (Nat.ne_of_lt (Nat.lt_succ_self _))
  have rs : Vals (V.ref y :: vs) (Value.ref y :: us) := .cons rfl r
  have len : (Value.ref y :: us).length = n + 1 := by rw [List.length_cons, ← r.length, l1]
  have run := F.run _ X.stack _ _ ⟨Value.ref y :: us, ks.zip ws⟩ (g (Value.ref y :: us) ws) _ _ E (hr.make C us (ks.zip ws)) (J.env0.make C us (ks.zip ws)) (hb.to _ (Value.ref y :: us) ws J.kIn len (rz.length.symm.trans l2)) (hb.rel rs rz) q
  refine wpAny_call (make_map (f := f) I.kIn M.makes M.init (beq_iff_eq.mp M.fn) (codeAny_mono run fun o s' z => ?_))
  match o, z with
  | .error u, z => exact hx pins _ _ u s' J z
  | .ok (.ret u), z =>
    obtain ⟨v, H', J', rv, rfl, z'⟩ := J.after z
    exact ⟨rv, V.ref y, H', J', rfl, z'⟩
  | .ok .next, z => exact z.elim
  | .ok .brk, z => exact z.elim
  | .ok .cont, z => exact z.elim
theorem pe_makeKS {E : L2.St → XK} (M : Mk X.K C f) (F : FnOk X.prog X.w X.K X.mg X.base CX k f fd ps sp) (hr : Room (k + 1) X.A) (hg : Gl X x) (hm : X.mg x = some (.ref C)) (hb : KBn X.K fd ps (n + 1) ks g gV) (hx : ∀ σ, PassesAt CX X σ (E σ)) (ha : PA X (e :: es) t) (hkw : PK X kws tk)
    (hall : (backToKw pos (keywordEach kws X.env)).all (·.1.isSome) = true := by rfl) (hks : (backToKw pos (keywordEach kws X.env)).filterMap (·.1) = ks := by rfl) (hdb : (x == ("__debug__" : Str)) = false := by decide)
    (he : starEach (e :: es) X.env = (false, eval e X.env) :: starEach es X.env := by rfl) (hpl : ((backTo pos (starEach (e :: es) X.env)).any (·.1) || (backToKw pos (keywordEach kws X.env)).any (·.1.isNone)) = false := by rfl) :
    PE X (.Call (.Name x p) (e :: es) kws pos) (tMakeKS C n ks.length sp gV E t tk) := by
  refine ⟨fun pins s σ H Q I h => wpAny_Call_Name_kw (ld_glob I hg hm ?_ hdb)⟩
  refine PySem.W.callWith_KW (h₀ := X.base) I.ok.mod.kin M.kp hall (thn (ha.run pos pins s σ H _ I h) fun us s1 ⟨vs, H1, I1, r, q⟩ => thn (hkw.run pos pins s1 σ H1 _ I1 q) fun ws s2 ⟨zs, H2, I2, rz, l1, l2, q2⟩ => ⟨I2.kIn, ?_⟩) hpl he
  rw [hks]
  exact run_mkS M F hr hb (hx σ) I2 r rz l1 l2 q2
/-- nothing is raised: no wish is asked -/
theorem passF {P : Program} {w : World} : Passes (L2.CX P w) X (fun _ _ _ => False) := fun _ _ _ _ _ _ _ h => by
  obtain ⟨_, _, _, _, _, _, _, _, _, _, _, _, z⟩ := h
  exact z.elim
/-- C(e, .., k = v, ..) by a class's own facts -/
theorem pe_klK (c : Kl X.K X.mg x C) {E : XK} (D : MtK CX X.prog X.w X.K X.mg X.base C "__init__" j (n + 1) ks ps sp) (hr : Room k X.A) (hj : j + 1 ≤ k) (hg : Gl X x) (hx : Passes CX X E) (ha : PA X (e :: es) t) (hkw : PK X kws tk)
    (hall : (backToKw pos (keywordEach kws X.env)).all (·.1.isSome) = true := by rfl) (hks : (backToKw pos (keywordEach kws X.env)).filterMap (·.1) = ks := by rfl) (hdb : (x == ("__debug__" : Str)) = false := by decide)
    (he : starEach (e :: es) X.env = (false, eval e X.env) :: starEach es X.env := by rfl) (hpl : ((backTo pos (starEach (e :: es) X.env)).any (·.1) || (backToKw pos (keywordEach kws X.env)).any (·.1.isNone)) = false := by rfl) :
    PE X (.Call (.Name x p) (e :: es) kws pos) (tMakeKS C n ks.length sp (fun vs zs => vs ++ zs) (fun _ => E) t tk) := by
  obtain ⟨f, fd, h1, h3, h4⟩ := D.ok
  exact pe_makeKS ⟨c.mks, h1.at_, h1.fn, c.kp⟩ h4 (hr.mono hj) hg c.gl h3 (fun σ pins H s u s' I z => hx pins σ H s u s' I z) ha hkw hall hks hdb he hpl
theorem pe_klKS (c : Kl X.K X.mg x C) {E : L2.St → XK} (D : MtK CX X.prog X.w X.K X.mg X.base C "__init__" j (n + 1) ks ps sp) (hr : Room k X.A) (hj : j + 1 ≤ k) (hg : Gl X x) (hx : ∀ σ, PassesAt CX X σ (E σ)) (ha : PA X (e :: es) t) (hkw : PK X kws tk)
    (hall : (backToKw pos (keywordEach kws X.env)).all (·.1.isSome) = true := by rfl) (hks : (backToKw pos (keywordEach kws X.env)).filterMap (·.1) = ks := by rfl) (hdb : (x == ("__debug__" : Str)) = false := by decide)
    (he : starEach (e :: es) X.env = (false, eval e X.env) :: starEach es X.env := by rfl) (hpl : ((backTo pos (starEach (e :: es) X.env)).any (·.1) || (backToKw pos (keywordEach kws X.env)).any (·.1.isNone)) = false := by rfl) :
    PE X (.Call (.Name x p) (e :: es) kws pos) (tMakeKS C n ks.length sp (fun vs zs => vs ++ zs) E t tk) := by
  obtain ⟨f, fd, h1, h3, h4⟩ := D.ok
  exact pe_makeKS ⟨c.mks, h1.at_, h1.fn, c.kp⟩ h4 (hr.mono hj) hg c.gl h3 hx ha hkw hall hks hdb he hpl
/-- what a making of C asks, with keywords -/
def MkK (C : Addr) (sp : Sp) (E : XK) (vs : List V) (H : Hp) (Q : VK) : Prop := ∀ y dy, H y = none → H dy = none → dy ≠ y → sp (.ref y :: vs) (upd (upd H dy (.own y)) y (.ins C dy [])) (fun v H2 => v = .non ∧ Q (.ref y) H2) E
theorem x_makeKS {σ : L2.St} {H : Hp} {Q : VK} {m : Nat} {E : L2.St → XK} (h : t σ H fun vs H1 => tk σ H1 fun zs H2 => vs.length = n ∧ zs.length = m ∧ MkI C sp (E σ) (vs ++ zs) H2 Q) : tMakeKS C n m sp (fun vs zs => vs ++ zs) E t tk σ H Q := h
end
end Sy

/-! An error's class whose __init__ stores one field: what its call gives. -/
namespace Sy
open PySem PySem.Spec PyProof.Rows L2
open PySem.W PySem.Calls
/-! ### the text of __init__ -/
def eA1 (f : Str) (p1 p2 : Pos) : Arguments := { posonlyargs := [], args := [{ arg := "self", annotation := none, pos := p1 }, { arg := f, annotation := none, pos := p2 }], vararg := none, kwonlyargs := [], kw_defaults := [], kwarg := none, defaults := [] }
def eB1 (f : Str) (q1 q2 q3 q4 : Pos) : List Stmt := [.Assign [.Attribute (.Name "self" q1) f q2] (.Name f q3) q4]
def eS1 (f : Str) : Scope := { kind := .function, names := [(PySem.Str.ofString "self", .local), (f, .local)], isGenerator := false, isCoroutine := false, more := [] }
/-- what is asked of the field's name -/
structure F1 (f : Str) : Prop where
  self : (f == ("self" : Str)) = false
  dbg : (f == ("__debug__" : Str)) = false
  bind : ∀ (qual : Str) (p1 p2 q1 q2 q3 q4 : Pos) (doc pm : Value) (an : Option Addr) (cdv ct : Value) (y v : Value), bindArgs (fnOf "__init__" qual (eA1 f p1 p2) (eB1 f q1 q2 q3 q4) (eS1 f) .none .none doc pm an cdv ct) ⟨[y, v], []⟩ = pure [(("self" : Str), y), (f, v)]
theorem F1.kind {f : Str} (ok : F1 f) : List.lookup f (eS1 f).names = some .local := by
  show List.lookup f [((PySem.Str.ofString "self"), NameKind.local), (f, .local)] = _
  rw [List.lookup_cons, ok.self, List.lookup_cons, beq_self_eq_true]
theorem F1.kind0 {f : Str} : List.lookup ("self" : Str) (eS1 f).names = some .local := rfl
/-- what the written part says of the class at C, over the built-in B -/
structure EcTxt (K : Frag) (mg : Str → Option Value) (x f qual : Str) (C : Addr) (newId : String) (bmB : List Value) : Prop where
  gC : mg x = some (.ref C)
  cls : ∃ nm q N bs bm sn sub ab col dd k0 k1 k2 k3 k5, K.lookup C = some (excClassObj nm q C N bs bm true sn sub ab col dd k0 k1 k2 k3 k5 newId) ∧ excTail bmB bm = true
  sa : findIn K (.ref C) "__setattr__" = some (some (.builtin "object.__setattr__"))
  ga : findIn K (.ref C) "__getattribute__" = some (some (.builtin "BaseException.__getattribute__"))
  gg : findIn K (.ref C) "__getattr__" = some none
  noF : findIn K (.ref C) f = some none
  kC : keepIn K (.ref C) = true
  exC : subIn K (.ref C) (.type "BaseException") = some true
  tyC : typeIn K (.ref C) = some (.type "type")
  hdC : hasDictIn K C = true
  fn : ∃ (fI : Addr) (oc : Value) (od : Option Addr) (doc pm : Value) (an : Option Addr) (cdv ct : Value) (osl : Array (Option Value)) (p1 p2 q1 q2 q3 q4 : Pos),
    findIn K (.ref C) "__init__" = some (some (.ref fI)) ∧ typeIn K (.ref fI) = some (.type "function") ∧
    K.lookup fI = some ⟨oc, od, .func (fnOf "__init__" qual (eA1 f p1 p2) (eB1 f q1 q2 q3 q4) (eS1 f) .none .none doc pm an cdv ct), osl⟩ ∧ codeIn K cdv qual = true
theorem one_le (v : Value) : [v].length ≤ sizeLine := by
  rw [sizeLine_eq]
  exact (by decide : 1 ≤ 16777216)
theorem ldL {M : Model} {s : Shared} {name : Str} {scope : Scope} {L a : Addr} {cd : Value} {m : Str → Option Value} {x : Str} {pos : Pos} {v : Value} {Q : Value → Shared → Prop} {A : Around} {E : Value → Shared → Prop} (hn : s.heap.Ns L m) (hv : m x = some v) (h : Q v s)
    (hk : scope.kind = .function) (hl : (envOfC name scope L a cd).kindOf x = some .local) (hd : (x == ("__debug__" : Str)) = false) :
    wpAny M A (eval (.Name x pos) (envOfC name scope L a cd)) Q E s := wpAny_Name (wpAny_loadName_local hk hl hn hv h) hd
section
variable {prog : Program} {w : World} {A : Around} {R : Result → Shared → Prop} {s : Shared} {K : Frag} {mg : Str → Option Value} {x f qual : Str} {C : Addr} {B newId initId : String} {bmB : List Value}
theorem EcTxt.over (T : EcTxt K mg x f qual C newId bmB) : excOver K C bmB = true := by
  obtain ⟨nm, q, N, bs, bm, sn, sub, ab, col, dd, k0, k1, k2, k3, k5, hC, hb⟩ := T.cls
  unfold excOver clsIn
  rw [hC]
  simp [hb]
theorem ec_init (T : EcTxt K mg x f qual C newId bmB) (SF : StoreFacts B bmB "object.__setattr__" "object") (ok : F1 f) {fI y t0 : Addr} {v : Value} (hI : findIn K (.ref C) "__init__" = some (some (.ref fI))) (X : K.In s.heap) (hlim : s.heap.NoLimit) (hx : s.heap.get? y = some (PySem.HandSPX.excO C t0)) (hroom : A.depth < recursionLimit)
    (hq : ∀ h' tk dx, (∀ b o, b ≠ y → s.heap.get? b = some o → h'.get? b = some o) → h'.get? y = some { cls := .ref C, dict := some dx, data := .fields #[.ref t0, .none, .none, .none, .bool false, .none] } → s.heap.objs.size ≤ dx → dx ≠ y →
      h'.Ns1 dx (fun z => if z = f then some v else none) → R (.ok (.ret .none)) { s with heap := h', toks := tk }) :
    codeAny (model prog w) A (.call (.ref fI) ⟨[.ref y, v], []⟩) R s := by
  obtain ⟨fI', oc, od, doc, pm, an, cdv, ct, osl, p1, p2, q1, q2, q3, q4, hI', _, ho, hcd⟩ := T.fn
  rw [hI] at hI'
  cases hI'
  obtain ⟨nm, q, N, bs, bm, sn, sub, ab, col, dd, k0, k1, k2, k3, k5, hC, hbm⟩ := T.cls
  have hcl : clsIn K C = some { name := nm, bases := bs, mro := .ref C :: bm, ns := N, qualname := q, hasDict := true, slotNames := sn, subclasses := sub, abstract := ab, collection := col, hasDel := false } := by unfold clsIn; rw [hC] <;> rfl
  have fn : (("self" : Str) == f) = false := by
    have e := ok.self
    rw [Bool.eq_false_iff] at e ⊢
    exact fun z => e (by rw [beq_iff_eq.mp z]; exact beq_self_eq_true _)
  refine Att.call_fn (binds := [("self", .ref y), (f, v)]) X hlim ho hcd hroom (BindsTo.of_eq (ok.bind ..)) (by
    show ([(("self" : Str), Value.ref y), (f, v)].all fun y => List.lookup y.fst (eS1 f).names == some NameKind.local || List.lookup y.fst (eS1 f).names == some NameKind.cell) = true
    simp [ok.kind, F1.kind0]) (fun s₁ IC => ?_) rfl rfl rfl
  obtain ⟨h₁, tk₁, rfl⟩ := IC.toInCall.same
  have k : ∀ b o, s.heap.get? b = some o → h₁.get? b = some o := IC.toInCall.keep
  have hn := IC.toInCall.ns
  have fne : ("self" : Str) ≠ f := by simpa using fn
  have kf : (envOfC qual (eS1 f) s.heap.objs.size fI cdv).kindOf f = some .local := ok.kind
  have k0 : (envOfC qual (eS1 f) s.heap.objs.size fI cdv).kindOf ("self" : Str) = some .local := rfl
  have bf : bindL (envOfC qual (eS1 f) s.heap.objs.size fI cdv).kindOf [(("self" : Str), Value.ref y), (f, v)] (fun _ => none) f = some v := by
    simp [bindL, kf]
  have b0 : bindL (envOfC qual (eS1 f) s.heap.objs.size fI cdv).kindOf [(("self" : Str), Value.ref y), (f, v)] (fun _ => none) ("self" : Str) = some (.ref y) := by
    simp [bindL, k0, kf, fne]
  have X₁ : K.In h₁ := X.keeps k
  have hy := k _ _ hx
  show wpAny _ _ (execs (eB1 f q1 q2 q3 q4) _) _ _ _
  refine wpAny_execs_cons (plainObj_wpAny_Assign_Attribute ?_)
  refine ldL hn bf (ldL hn b0 ?_ rfl k0 (by decide)) rfl kf ok.dbg
  refine set_plain X₁ (ox := PySem.HandSPX.excO C t0) (od := none) ⟨hy, rfl, rfl, trivial⟩ T.sa ?_
  refine osaB SF X₁ hy hcl T.over rfl (by unfold takerIn; rw [T.noF]; rfl) (fun h₃ tk₃ dx k₃ dn dne hy₃ hn₃ => ?_)
  have z : s.heap.objs.size < h₁.objs.size := hn.lt
  exact wpAny_execs_nil (hq h₃ tk₃ dx (fun b o hb e => k₃ b o hb (k b o e)) hy₃ (Nat.le_of_lt (Nat.lt_of_lt_of_le z dn)) dne hn₃)
theorem ec_made (T : EcTxt K mg x f qual C newId bmB) (FB : ExcBaseFacts B newId initId bmB) (SF : StoreFacts B bmB "object.__setattr__" "object") (ok : F1 f) {v : Value} (X : K.In s.heap) (hlim : s.heap.NoLimit) (hroom : A.depth + 1 < recursionLimit)
    (hq : ∀ h' tk e d, MadeE s.heap h' e C d (fun z => if z = f then some v else none) → R (.ok (.ret (.ref e))) { s with heap := h', toks := tk }) : codeAny (model prog w) A (.call (.ref C) ⟨[v], []⟩) R s := by
  obtain ⟨nm, q, N, bs, bm, sn, sub, ab, col, dd, k0, k1, k2, k3, k5, hC, hbm⟩ := T.cls
  obtain ⟨fI, oc, od, doc, pm, an, cdv, ct, osl, p1, p2, q1, q2, q3, q4, hI, tI, ho, hcd⟩ := T.fn
  obtain ⟨hp, g, dr, tk, os⟩ := s
  have k : ∀ b o, hp.get? b = some o → ((hp.push (kdv_tup [v])).push (PySem.HandSPX.excO C hp.objs.size)).get? b = some o := fun b o e => Heap.get?_push_of_some _ (Heap.get?_push_of_some _ e)
  have there : ((hp.push (kdv_tup [v])).push (PySem.HandSPX.excO C hp.objs.size)).get? (hp.objs.size + 1) = some (PySem.HandSPX.excO C hp.objs.size) := by heap_get
  refine PySem.HandSPX.call_own FB (fun Y => excTail_contains Y bm hbm) (X _ _ hC) (looks_findIn X hI) (fun self => bind_fn X self tI) (one_le v) ?_
  refine ec_init (s := ⟨(hp.push (kdv_tup [v])).push (PySem.HandSPX.excO C hp.objs.size), g, dr, tk, os⟩) T SF ok hI (X.keeps k) (hlim.keeps k) there hroom fun h' tk' dx keep obj dn dne hns => ?_
  have old : ∀ b o, hp.get? b = some o → h'.get? b = some o := fun b o e => keep b o (Nat.ne_of_lt (Nat.lt_succ_of_lt (Heap.lt_size e))) (k b o e)
  have z : hp.objs.size ≤ dx := by
    have q := dn
    simp only [Heap.size_push] at q
    omega
  exact ⟨rfl, hq h' tk' (hp.objs.size + 1) dx ⟨old, Nat.le_succ _, ⟨_, _, obj, rfl, rfl, rfl, rfl⟩, z, dne, hns⟩⟩
theorem ec_errC (T : EcTxt K mg x f qual C newId bmB) (FB : ExcBaseFacts B newId initId bmB) (SF : StoreFacts B bmB "object.__setattr__" "object") (ok : F1 f) : ErrC prog w K mg x C [f] :=
  ⟨T.gC, T.kC, T.exC, T.tyC, T.hdC, T.ga, T.gg, fun g hg => by rw [List.mem_singleton.mp hg]; exact T.noF, fun {A R s us} hl X hlim hroom hq => by
    match us, hl with
    | [v], _ =>
      refine ec_made T FB SF ok X hlim hroom fun h' tk e d M => hq h' tk e d ?_
      have e1 : (fun z => ([f].zip [v]).lookup z) = fun z => if z = f then some v else none := by
        funext z
        show List.lookup z [(f, v)] = _
        rw [List.lookup_cons]
        by_cases h : z = f
        · rw [if_pos h, h, beq_self_eq_true]
        · rw [if_neg h, show (z == f) = false by simpa using h]
          rfl
      rw [e1]
      exact M⟩
end
/-! ### the names that are used -/
theorem f1_text : F1 "text" := ⟨by decide +kernel, by decide +kernel, fun _ _ _ _ _ _ _ _ _ _ _ _ _ _ => rfl⟩
theorem f1_field : F1 "field" := ⟨by decide +kernel, by decide +kernel, fun _ _ _ _ _ _ _ _ _ _ _ _ _ _ => rfl⟩
theorem f1_at : F1 "at" := ⟨by decide +kernel, by decide +kernel, fun _ _ _ _ _ _ _ _ _ _ _ _ _ _ => rfl⟩
theorem f1_row : F1 "row" := ⟨by decide +kernel, by decide +kernel, fun _ _ _ _ _ _ _ _ _ _ _ _ _ _ => rfl⟩
theorem f1_move : F1 "move" := ⟨by decide +kernel, by decide +kernel, fun _ _ _ _ _ _ _ _ _ _ _ _ _ _ => rfl⟩
theorem f1_asks : F1 "asks" := ⟨by decide +kernel, by decide +kernel, fun _ _ _ _ _ _ _ _ _ _ _ _ _ _ => rfl⟩
theorem f1_what : F1 "what" := ⟨by decide +kernel, by decide +kernel, fun _ _ _ _ _ _ _ _ _ _ _ _ _ _ => rfl⟩
theorem f1_name : F1 "name" := ⟨by decide +kernel, by decide +kernel, fun _ _ _ _ _ _ _ _ _ _ _ _ _ _ => rfl⟩
theorem f1_content : F1 "content" := ⟨by decide +kernel, by decide +kernel, fun _ _ _ _ _ _ _ _ _ _ _ _ _ _ => rfl⟩
theorem f1_run : F1 "run" := ⟨by decide +kernel, by decide +kernel, fun _ _ _ _ _ _ _ _ _ _ _ _ _ _ => rfl⟩
theorem f1_standing : F1 "standing" := ⟨by decide +kernel, by decide +kernel, fun _ _ _ _ _ _ _ _ _ _ _ _ _ _ => rfl⟩
theorem f1_reading : F1 "reading" := ⟨by decide +kernel, by decide +kernel, fun _ _ _ _ _ _ _ _ _ _ _ _ _ _ => rfl⟩
theorem f1_index : F1 "index" := ⟨by decide +kernel, by decide +kernel, fun _ _ _ _ _ _ _ _ _ _ _ _ _ _ => rfl⟩
end Sy

/-! What the top has written of errors, tables and properties; texts in tables; fields of what changes. -/
namespace Sy
open PySem PySem.Spec PyProof.Rows L2
section
open PySem.W
/-- an error's class, as it stands in the written part -/
structure EcK (K : Frag) (x f qual : Str) (C : Addr) (newId : String) (bmB : List Value) : Prop where
  a : nsIn K mainGlobals x = some (some (.ref C))
  cls : ∃ nm q N bs bm sn sub ab col dd k0 k1 k2 k3 k5, K.lookup C = some (excClassObj nm q C N bs bm true sn sub ab col dd k0 k1 k2 k3 k5 newId) ∧ excTail bmB bm = true
  sa : findIn K (.ref C) "__setattr__" = some (some (.builtin "object.__setattr__"))
  ga : findIn K (.ref C) "__getattribute__" = some (some (.builtin "BaseException.__getattribute__"))
  gg : findIn K (.ref C) "__getattr__" = some none
  noF : findIn K (.ref C) f = some none
  kC : keepIn K (.ref C) = true
  exC : subIn K (.ref C) (.type "BaseException") = some true
  tyC : typeIn K (.ref C) = some (.type "type")
  hdC : hasDictIn K C = true
  fn : ∃ (fI : Addr) (oc : Value) (od : Option Addr) (doc pm : Value) (an : Option Addr) (cdv ct : Value) (osl : Array (Option Value)) (p1 p2 q1 q2 q3 q4 : Pos),
    findIn K (.ref C) "__init__" = some (some (.ref fI)) ∧ typeIn K (.ref fI) = some (.type "function") ∧
    K.lookup fI = some ⟨oc, od, .func (fnOf "__init__" qual (eA1 f p1 p2) (eB1 f q1 q2 q3 q4) (eS1 f) .none .none doc pm an cdv ct), osl⟩ ∧ codeIn K cdv qual = true
theorem EcK.txt {K : Frag} {mg : Str → Option Value} {h : Heap} {x f qual : Str} {C : Addr} {newId : String} {bmB : List Value} (T : EcK K x f qual C newId bmB) (X : K.In h) (G : h.Ns mainGlobals mg) : EcTxt K mg x f qual C newId bmB :=
  ⟨mg_of X G T.a, T.cls, T.sa, T.ga, T.gg, T.noF, T.kC, T.exC, T.tyC, T.hdC, T.fn⟩
theorem eck_mk {K : Frag} {x f qual : Str} {C : Addr} {newId : String} {bmB : List Value} {nm q : Str} {N : Addr} {bs bm : List Value} {sn : List Str} {sub : List Value} {ab : Bool} {col : Option Bool} {dd : Option Addr} {k0 k1 k2 k3 k5 : Option Value}
    {fI : Addr} {oc : Value} {od : Option Addr} {doc pm : Value} {an : Option Addr} {cdv ct : Value} {osl : Array (Option Value)} {p1 p2 q1 q2 q3 q4 : Pos} (a : nsIn K mainGlobals x = some (some (.ref C)))
    (l : K.lookup C = some (excClassObj nm q C N bs bm true sn sub ab col dd k0 k1 k2 k3 k5 newId)) (t : excTail bmB bm = true) (sa : findIn K (.ref C) "__setattr__" = some (some (.builtin "object.__setattr__")))
    (ga : findIn K (.ref C) "__getattribute__" = some (some (.builtin "BaseException.__getattribute__"))) (gg : findIn K (.ref C) "__getattr__" = some none) (no : findIn K (.ref C) f = some none) (kC : keepIn K (.ref C) = true) (ex : subIn K (.ref C) (.type "BaseException") = some true)
    (ty : typeIn K (.ref C) = some (.type "type")) (hd : hasDictIn K C = true) (i : findIn K (.ref C) "__init__" = some (some (.ref fI))) (ti : typeIn K (.ref fI) = some (.type "function"))
    (lf : K.lookup fI = some ⟨oc, od, .func (fnOf "__init__" qual (eA1 f p1 p2) (eB1 f q1 q2 q3 q4) (eS1 f) .none .none doc pm an cdv ct), osl⟩) (c : codeIn K cdv qual = true) : EcK K x f qual C newId bmB :=
  ⟨a, ⟨nm, q, N, bs, bm, sn, sub, ab, col, dd, k0, k1, k2, k3, k5, l, t⟩, sa, ga, gg, no, kC, ex, ty, hd, ⟨fI, oc, od, doc, pm, an, cdv, ct, osl, p1, p2, q1, q2, q3, q4, i, ti, lf, c⟩⟩
theorem EcTxt.xf {K : Frag} {mg : Str → Option Value} {x f qual : Str} {C : Addr} {newId : String} {bmB : List Value} (T : EcTxt K mg x f qual C newId bmB) : XfC K C := ⟨T.ga, T.gg, T.exC, T.hdC⟩
theorem ise_mk {K : Frag} {D : Addr} (hg : findIn K (.ref D) "__getattribute__" = some (some (.builtin "BaseException.__getattribute__"))) (hk : findIn K (.ref D) "__getattr__" = some none) (hs : subIn K (.ref D) (.type "BaseException") = some true) (hd : hasDictIn K D = true)
    (ha : findIn K (.ref D) "__class__" = some (some (.builtin "object.__class__"))) (hn : specialIn K (.builtin "object.__class__") "__get__" = some (some (.builtin "getset_descriptor.__get__"))) (ht : takesIn K (.builtin "object.__class__") = some true) (hm : mroIn K D (.type "object") = some true) : IsE K D :=
  ⟨hg, hk, hs, hd, ha, hn, ht, hm⟩
/-- D is (or is not) under the own class C, for isinstance and for an except clause -/
theorem subt_own {K : Frag} {D C : Addr} {k : Bool} (hs : subIn K (.ref D) (.ref C) = some k) (hi : isClsIn K C = true) (ht : typeIn K (.ref C) = some (.type "type")) (hd : hasDictIn K C = true) (hk : k = false → (Value.ref D == Value.ref C) = false) : SubT K D (.ref C) k := by
  refine ⟨?_, fun hb => exm_ref hb hd ht hs⟩
  unfold kitOne
  by_cases e : (Value.ref D == Value.ref C) = true
  · rw [if_pos e]
    cases k with
    | true => rfl
    | false => rw [hk rfl] at e; cases e
  · rw [if_neg e]
    show (if ((clsIn K C).isSome && typeIn K (.ref C) == some (.type "type")) = true then subIn K (.ref D) (.ref C) else none) = some k
    have hi' : (clsIn K C).isSome = true := hi
    rw [ht, hi', hs]
    rfl
theorem subt_ty {K : Frag} {D : Addr} {T : String} {k : Bool} (hs : subIn K (.ref D) (.type T) = some k) (hm : kitMeta T = true) : kitOne K (.ref D) (.type T) = some k := by
  unfold kitOne
  rw [if_neg (by simp)]
  show (if kitMeta T = true then subIn K (.ref D) (.type T) else none) = some k
  rw [if_pos hm, hs]
/-- a written table of texts -/
theorem ktup_mk {K : Frag} {a : Addr} {o : Obj} {its : Array Value} {n : Nat} {xs : List V} (l : K.lookup a = some o) (c : o.cls = .type "tuple") (d : o.data = .seq its n) (z : its.size ≤ 100000) (r : Vals xs its.toList) : ∀ H, SqT K H a xs :=
  fun _ => .inr ⟨o, its, n, l, c, d, sz_of z, r⟩
/-- a property of a class -/
structure PrF (K : Frag) (C : Addr) (f qual : Str) (st : Stmt) : Prop where
  ok : ∃ (p g : Addr) (rest : List Value) (oc : Value) (od : Option Addr) (kV doc pm : Value) (an : Option Addr) (cdv ct : Value) (osl : Array (Option Value)),
    PropOf K C f p g ∧ recIn K p "property" = some (.ref g :: rest) ∧ K.lookup g = some ⟨oc, od, .func (fnOf f qual (defArgs st) (defBody st) (defScope st) .none kV doc pm an cdv ct), osl⟩ ∧ codeIn K cdv qual = true ∧ keepIn K (.ref g) = true
theorem prf_mk {K : Frag} {C : Addr} {f qual : Str} {st : Stmt} {p g : Addr} {rest : List Value} {oc : Value} {od : Option Addr} {kV doc pm : Value} {an : Option Addr} {cdv ct : Value} {osl : Array (Option Value)} (a : findIn K (.ref C) f = some (some (.ref p)))
    (b : specialIn K (.ref p) "__get__" = some (some (.builtin "property.__get__"))) (c : takesIn K (.ref p) = some true) (d : recIn K p "property" = some (.ref g :: rest))
    (l : K.lookup g = some ⟨oc, od, .func (fnOf f qual (defArgs st) (defBody st) (defScope st) .none kV doc pm an cdv ct), osl⟩) (e : codeIn K cdv qual = true) (kp : keepIn K (.ref g) = true) : PrF K C f qual st :=
  ⟨⟨p, g, rest, oc, od, kV, doc, pm, an, cdv, ct, osl, ⟨a, b, c, rest, d⟩, d, l, e, kp⟩⟩
end
section
variable {X : Cx} {C : Addr} {x : Str} {pos : Pos}
theorem pe_en (h : X.mg x = some (.ref C)) (hg : Gl X x) (hd : (x == ("__debug__" : Str)) = false := by decide) : PE X (.Name x pos) (tC (.ref C)) := pe_glob hg h rfl hd
end
section
variable {B H : Hp} {M : List (Addr × HO)} {Q : VK} {K : PySem.W.Frag} {σ : L2.St}
/-- what is written to a field of one of the changing things -/
theorem x_sfdM {a C dx : Addr} {fs : List (Str × V)} {f : Str} {y : V} {N : Hp → Prop} {k : Nat} (w : Wd B M H) (hk : M[k]? = some (a, .ins C dx fs)) (c : Cls K C) (n : NoAttr K C f) (l : Nat.blt fs.length 1000 = true) (h : ∀ H', Wd B (M.set k (a, .ins C dx (putF f y fs))) H' → N H') :
    Sfd K f (.ref a) y H N := ⟨a, C, dx, fs, rfl, w.get hk, c, n, Nat.le_of_ble_eq_true l, h _ (w.set hk _)⟩
theorem flat_strs (xs : List Str) : (xs.map V.str).all flatV = true := by
  induction xs with
  | nil => rfl
  | cons x xs ih => exact ih
theorem eqV_str (a b : Str) : eqV (.str a) (.str b) = (a == b) := rfl
theorem inV_strs (z : Str) (xs : List Str) : inV (.str z) (xs.map V.str) = xs.contains z := by
  induction xs with
  | nil => rfl
  | cons x xs ih =>
    show (eqV (.str x) (.str z) || inV (.str z) (xs.map V.str)) = _
    rw [ih, List.contains_cons, eqV_str]
    congr 1
    exact Bool.eq_iff_iff.mpr ⟨fun h => by rw [beq_iff_eq.mp h]; exact beq_self_eq_true _, fun h => by rw [beq_iff_eq.mp h]; exact beq_self_eq_true _⟩
theorem x_inT {z : Str} {p : Addr} {xs : List Str} (h : SqT K H p (xs.map V.str)) (q : Q (.bl (xs.contains z)) H) : rIn K false (.str z) (.ref p) H Q :=
  ⟨p, xs.map V.str, rfl, .inr h, rfl, flat_strs xs, by rw [inV_strs]; exact q⟩
theorem x_inL {z : Str} {p : Addr} {xs : List Str} (h : SqL K H p (xs.map V.str)) (q : Q (.bl (xs.contains z)) H) : rIn K false (.str z) (.ref p) H Q :=
  ⟨p, xs.map V.str, rfl, .inl h, rfl, flat_strs xs, by rw [inV_strs]; exact q⟩
theorem x_ninT {z : Str} {p : Addr} {xs : List Str} (h : SqT K H p (xs.map V.str)) (q : Q (.bl (!xs.contains z)) H) : rIn K true (.str z) (.ref p) H Q :=
  ⟨p, xs.map V.str, rfl, .inr h, rfl, flat_strs xs, by rw [inV_strs]; exact q⟩
theorem x_ninL {z : Str} {p : Addr} {xs : List Str} (h : SqL K H p (xs.map V.str)) (q : Q (.bl (!xs.contains z)) H) : rIn K true (.str z) (.ref p) H Q :=
  ⟨p, xs.map V.str, rfl, .inl h, rfl, flat_strs xs, by rw [inV_strs]; exact q⟩
/-- a tuple of texts that stands behind B -/
def TupS (K : PySem.W.Frag) (B : Hp) (p : Addr) (xs : List Str) : Prop := ∀ H, Ex B H → SqT K H p (xs.map V.str)
theorem TupS.up {B' : Hp} {p : Addr} {xs : List Str} (h : TupS K B p xs) (e : Ex B B') : TupS K B' p xs := fun H z => h H (e.tr z)
theorem x_catT {a b : Addr} {xs ys : List V} (w : Wd B M H) (ha : SqT K H a xs) (hb : SqT K H b ys) (hx : xs ≠ []) (hy : ys ≠ []) (hz : Nat.ble (xs.length + ys.length) 100000 = true) (k : ∀ p B' H', Ex B B' → B' p = some (.tup (xs ++ ys)) → Wd B' M H' → Q (.ref p) H') : rCatT K (.ref a) (.ref b) H Q :=
  ⟨a, b, xs, ys, rfl, rfl, ha, hb, hx, sz_of (Nat.le_of_ble_eq_true hz), fun e => absurd e hy, fun _ p np => k p _ _ (Ex.new (w.free np)) upd_same (w.alloc np _)⟩
theorem tup_of {p : Addr} {xs : List Str} (h : B p = some (.tup (xs.map V.str))) : TupS K B p xs := fun _ e => st_of (e _ _ h)
theorem TupS.st {p : Addr} {xs : List Str} (h : TupS K B p xs) (w : Wd B M H) : SqT K H p (xs.map V.str) := h H w.ex
theorem x_raiseE {C : Addr} {fs : List Str} {W : WX} {ta : TA} {D : Ends} (h : ta σ H fun vs H1 => vs.length = fs.length ∧ ∀ d, H1 d = none → W (.ref C) (some d) σ (upd H1 d (.xd (fs.zip vs)))) : tRaiseE C fs W ta D σ H := h
theorem x_err {fs : List Str} {vs : List V} {N : Addr → Hp → Prop} (w : Wd B M H) (hl : vs.length = fs.length) (k : ∀ d B' H', Ex B B' → B' d = some (.xd (fs.zip vs)) → Wd B' M H' → N d H') : vs.length = fs.length ∧ ∀ d, H d = none → N d (upd H d (.xd (fs.zip vs))) :=
  ⟨hl, fun d nd => k d _ _ (Ex.new (w.free nd)) upd_same (w.alloc nd _)⟩
/-- s.split(t) -/
def rSpl : V → List V → Hp → VK → Prop := fun x xs H Q => ∃ a b, x = .str a ∧ xs = [.str b] ∧ (b.length == 0) = false ∧ a.length + 2 ≤ sizeLine ∧ rNewStrs (Txt.split a b) H Q
theorem mt_spl {X : Cx} : MtR X "str.split" rSpl := mt_split
theorem x_split (w : Wd B M H) {z b : Str} (hb : (b.length == 0) = false) (hl : z.length ≤ 50000) (k : ∀ p B' H', Ex B B' → B' p = some (.lst ((Txt.split z b).map V.str)) → Wd B' M H' → Q (.ref p) H') : rSpl (.str z) [.str b] H Q :=
  ⟨z, b, rfl, rfl, hb, sz_of (by omega), fun p np => k p _ _ (Ex.new (w.free np)) upd_same (w.alloc np _)⟩
end
end Sy

/-! a != b of an own instance whose class has == alone; str of a text. -/
namespace Sy
open PySem PySem.Spec PyProof.Rows L2
section
open PySem.W PySem.Calls Builtin
variable {prog : Program} {w : World} {A : Around} {E : Value → Shared → Prop} {s : Shared} {K : Frag} {x C f L : Addr} {h₀ : Heap} {m : Str → Option Value} {ox : Obj} {od : Option Obj} {b tb : Value}
/-- a builtin of the class, asked for by its name -/
theorem boundS {M : Model} {name : Str} {id : String} {B : String} {args : List Value} {Q : Option Value → Shared → Prop} (X : K.In s.heap) (I : InstAt s.heap x ox C od) (hs : findIn K (.ref C) name = some (some (.builtin id))) (S : Slot B name id)
    (h : wpAny M A (call (.builtin id) (.ref x :: args)) (fun v => Q (some v)) E s) : wpAny M A (callSpecialIfBound? (.ref x) name args) Q E s := by
  simp only [callSpecialIfBound?, bindSpecialIfBound?]
  refine wpAny_holding (wpAny_bind (wpAny_bind (wpAny_bind (I.type.here ((looks_findIn X hs).here ?_)))))
  simp only [S.bind]
  refine wpAny_bind (wpAny_askSetting (wpAny_ite ?_))
  have last : wpAny M A (call (.builtin id) ([.ref x] ++ args) >>= fun v => pure (some v)) Q E s := wpAny_bind (wpAny_mono h (fun _ _ z => wpAny_pure z) fun _ _ z => z)
  split
  · exact wpAny_bind (wpAny_pure (wpAny_pure last))
  · exact wpAny_tryCatch (wpAny_bind (wpAny_pure (wpAny_pure last)))
theorem ne_dflt {Q : Value → Shared → Prop} (hu : A.units + 1 < cLine) (F : Fr h₀ L s.heap m) (X₀ : K.In h₀) (I : InstAt s.heap x ox C od) (hb : Looks (model prog w) s.heap (typeOf b) tb) (hn : notFirst K C tb = true)
    (hne : findIn K (.ref C) "__ne__" = some (some (.builtin "object.__ne__"))) (hm : mroIn K C (.type "object") = some true) (hs : findIn K (.ref C) "__eq__" = some (some (.ref f))) (hf : isFn K (.ref f) = true)
    (h : wpAny (model prog w) A.in1 (call (.ref f) [.ref x, b]) (fun v s' => ∃ k, v = .bool k ∧ Q (.bool (!k)) s') E s) : wpAny (model prog w) A (richCompare .NotEq (.ref x) b) Q E s := by
  have X := X₀.keeps F.keep
  have one : wpAny (model prog w) A (tryCompare (.ref x) "__ne__" b) (fun r s' => ∃ v, r = some v ∧ Q v s') E s := by
    unfold tryCompare
    refine wpAny_bind (boundS X I hne PySem.F.cmp_object.ne (wpAny_call (codeAny_call_builtin PySem.F.cmp_object.ne.plain PySem.F.cmpEntry_ne ?_)))
    have sub : Looks (model prog w) s.heap (isInstance (.ref x) (.type "object")) true := I.type.andThen (looks_mroIn X hm)
    refine @check_slot (model prog w) _ _ s "object.__ne__" "object" "__ne__" (.ref x) [b] [] _ PySem.F.cmpKind_ne PySem.F.cmpSplit_ne sub (PySem.F.cmpArgs_ne _ _) ?_
    unfold Builtin.«object.__ne__»
    refine wpAny_bind (wpAny_of_eq (a := ((Value.ref x : Value), [b])) (by first | rfl | (simp only [slotArgs]; rfl)) ?_)
    refine wpAny_bind (wpAny_cRoomFor (by exact hu) ?_)
    refine wpAny_bind (ifBound_K X I hs hf (wpAny_mono h (fun v s' hv => ?_) fun _ _ e => e))
    obtain ⟨k, rfl, q⟩ := hv
    show wpAny _ _ (truthy (.bool k) >>= fun r => ret (.bool (!r))) _ _ _
    exact wpAny_bind (wpAny_truthy_bool (wpAny_pure (wpAny_pure ⟨_, rfl, q⟩)))
  unfold richCompare
  simp only [oneThing_ref]
  refine wpAny_holding (wpAny_bind (wpAny_cRoomFor (Nat.lt_of_succ_lt hu) ?_))
  refine wpAny_bind (I.type.here (wpAny_bind (hb.here ?_)))
  have last : ∀ (k : Option Value → Sem Value), (∀ v, k (some v) = pure v) → wpAny (model prog w) A (tryCompare (.ref x) "__ne__" b >>= k) Q E s := fun k hk => by
    refine wpAny_bind (wpAny_mono one (fun r s' z => ?_) fun _ _ e => e)
    obtain ⟨v, rfl, z⟩ := z
    rw [hk]
    exact wpAny_pure z
  by_cases c : (Value.ref C != tb) = true
  · have e : subIn K tb (.ref C) = some false := by
      have n := hn
      unfold notFirst at n
      have c' : (tb == Value.ref C) = false := by
        rw [Bool.eq_false_iff]
        intro z
        rw [beq_iff_eq.mp z] at c
        simp at c
      rw [c', Bool.false_or] at n
      exact beq_iff_eq.mp n
    rw [if_pos c]
    refine wpAny_bind ((looks_subIn X e).here ?_)
    rw [if_neg Bool.false_ne_true]
    exact last _ fun v => rfl
  · rw [if_neg c]
    refine wpAny_bind (wpAny_pure ?_)
    simp only [Bool.false_eq_true, if_false]
    exact last _ fun v => rfl
end
section
variable {X : Cx} {CX : CXT} {k j : Nat} {C : Addr} {ps : List Str} {sp : Sp} {E : XK} {x m : Str}
/-- what a != b asks of the class, which has no __ne__ of its own -/
structure NeT (K : PySem.W.Frag) (C : Addr) : Prop where
  hne : PySem.W.findIn K (.ref C) "__ne__" = some (some (.builtin "object.__ne__"))
  hm : PySem.W.mroIn K C (.type "object") = some true
theorem net_mk {K : PySem.W.Frag} {C : Addr} (hne : PySem.W.findIn K (.ref C) "__ne__" = some (some (.builtin "object.__ne__"))) (hm : PySem.W.mroIn K C (.type "object") = some true) : NeT K C := ⟨hne, hm⟩
/-- a != y by the class's ==, which answers by a truth value -/
def rNeD (K : PySem.W.Frag) (C : Addr) (sp : Sp) (E : XK) : R2 := fun x y H Q => ∃ a dx fs t, x = .ref a ∧ H a = some (.ins C dx fs) ∧ TyX K H y t ∧ PySem.W.notFirst K C t = true ∧ sp [x, y] H (fun v H' => ∃ b, v = .bl b ∧ Q (.bl (!b)) H') E
theorem cmp_neD {K : PySem.W.Frag} (D : Mt CX X.prog X.w K X.mg X.base C "__eq__" j ps sp) (T : NeT K C) (hr : Room k X.A) (hj : j + 1 ≤ k) (hx : Passes CX X E) (ho : compareOp .NotEq = richCompare .NotEq := by rfl) (eK : K = X.K := by rfl) : OpR X (compareOp .NotEq) (rNeD K C sp E) := by
  subst eK
  obtain ⟨f, fd, h1, hb, F⟩ := D.ok
  intro pins s σ H x y v u Q I rx ry hq
  obtain ⟨a, dx, fs, t, rfl, ha, ty, nf, q⟩ := hq
  cases rx
  obtain ⟨mA, J, _⟩ := ins_get I.hok ha
  obtain ⟨od, J, _⟩ := J.look
  obtain ⟨m', hF⟩ := I.fr
  obtain ⟨P, kx, hP, _⟩ := kit_of I ry ty
  have hA : X.A.in1.frames = X.A.frames := rfl
  rw [ho]
  refine ne_dflt (by have := hr.units; omega) hF I.ok.mod.kin J (kx.ty _ _ I.kIn hP) nf T.hne T.hm h1.at_ h1.fn (wpAny_mono (run_at hA F ((hr.mono hj).in1) hb hx I (show Vals [V.ref a, y] [Value.ref a, u] from .cons rfl (.cons ry .nil)) q) (fun w s' z => ?_) fun _ _ z => z)
  obtain ⟨v, H', I', r, b, rfl, q'⟩ := z
  cases r
  exact ⟨b, rfl, .bl (!b), H', I', rfl, q'⟩
def rStrS : List V → Hp → VK → Prop := fun xs H Q => ∃ a, xs = [.str a] ∧ Q (.str a) H
theorem c_strS : CallR X (.type "str") rStrS := SkE.call_str_str
theorem x_strS {a : Str} {H : Hp} {Q : VK} (h : Q (.str a) H) : rStrS [.str a] H Q := ⟨a, rfl, h⟩
end
/-- the property f of the class at C keeps its promise -/
structure Pt (CX : CXT) (P : Program) (w : World) (K : PySem.W.Frag) (mg : Str → Option Value) (base : Heap) (C : Addr) (f : Str) (k : Nat) (ps : List Str) (sp : Sp) : Prop where
  ok : ∃ (p g : Addr) (fd : FuncData), PropOf K C f p g ∧ Binds K fd ps [] ∧ FnOk P w K mg base CX k g fd ps sp
theorem pt_mk {CX : CXT} {P : Program} {w : World} {K : PySem.W.Frag} {mg : Str → Option Value} {base : Heap} {f qual : Str} {C : Addr} {st : Stmt} {k : Nat} {ps : List Str} {sp : Sp} (a : PrF K C f qual st) (hb : ∀ {g : Addr} {fd : FuncData}, Fun K f qual st g fd → Binds K fd ps [])
    (ok : ∀ {g : Addr} {fd : FuncData}, Fun K f qual st g fd → FnOk P w K mg base CX k g fd ps sp) : Pt CX P w K mg base C f k ps sp := by
  obtain ⟨p, g, rest, oc, od, kV, doc, pm, an, cdv, ct, osl, h1, h2, h3, h4, h5⟩ := a.ok
  have F := fun_mk (st := st) h3 h4 h5
  exact ⟨⟨p, g, _, h1, hb F, ok F⟩⟩
section
variable {X : Cx} {CX : CXT} {k j : Nat} {C : Addr} {ps : List Str} {sp : Sp} {E : XK} {x f : Str} {e : Expr} {ta : TE} {pos : Pos}
theorem pe_pt (he : PE X e ta) (c : Kl X.K X.mg x C) (D : Pt CX X.prog X.w X.K X.mg X.base C f j ps sp) (hr : Room k X.A) (hj : j + 1 ≤ k) (hx : Passes CX X.nox E) (hab : attributeBase e f X.env (eval e X.env) = eval e X.env := by rfl) : PE X (.Attribute e f pos) (tProp C sp [] E ta) := by
  obtain ⟨p, g, fd, h1, h2, h3⟩ := D.ok
  exact pe_prop he c.ic.cl h1 h3 (hr.mono hj) h2 .nil hx hab
theorem x_prop {σ : L2.St} {H : Hp} {Q : VK} (h : ta σ H fun x H1 => ∃ a dx fs, x = .ref a ∧ H1 a = some (.ins C dx fs) ∧ sp [.ref a] H1 Q E) : tProp C sp [] E ta σ H Q := h
end
end Sy

/-! Written dicts, extend, tables of texts. -/
namespace Sy
open PySem PySem.Spec PyProof.Rows L2
section
variable {B B2 H H2 : Hp} {M : List (Addr × HO)} {Q : VK} {K : PySem.W.Frag} {σ : L2.St} {trs : List (TE × TE)} {p : Addr} {ps : List (V × V)}
def DispE (p : Addr) (ps : List (V × V)) (H2 : Hp) (Q : VK) : Prop := H2 p = some (.dK []) ∧ ∃ kvs : List (Key × V), ps = kvs.map (fun kv => (kV kv.1, kv.2)) ∧ kvs.length ≤ 15 ∧ Q (.ref p) (upd H2 p (.dK (mergeK [] kvs)))
theorem x_disp (w : Wd B M H) (h : ∀ p H', Wd B ((p, .dK []) :: M) H' → tPairs trs σ H' fun ps H2 => DispE p ps H2 Q) : tDisp trs σ H Q := fun p np => h p _ (w.allocM np _)
theorem x_dispE (kvs : List (Key × V)) (w : Wd B2 ((p, .dK []) :: M) H2) (e : ps = kvs.map (fun kv => (kV kv.1, kv.2))) (hl : kvs.length ≤ 15) (k : ∀ B3 H', Ex B2 B3 → B3 p = some (.dK (mergeK [] kvs)) → Wd B3 M H' → Q (.ref p) H') : DispE p ps H2 Q := by
  have w2 := w.set (k := 0) rfl (.dK (mergeK [] kvs))
  exact ⟨w.mu _ List.mem_cons_self, kvs, e, hl, k _ _ w2.fz upd_same w2.freeze⟩
theorem x_ppc {tk tv : TE} {r : List (TE × TE)} {Q : List (V × V) → Hp → Prop} (h : tk σ H fun k H1 => tv σ H1 fun v H2 => tPairs r σ H2 fun ps H3 => Q ((k, v) :: ps) H3) : tPairs ((tk, tv) :: r) σ H Q := h
theorem x_ppn {Q : List (V × V) → Hp → Prop} (h : Q [] H) : tPairs [] σ H Q := h
def DGt (x y : V) (H : Hp) (Q : VK) : Prop := ∃ a v, x = .ref a ∧ DGet H a y (some v) ∧ Q v H
theorem x_dget {td ty : TE} (h : td σ H fun x H1 => ty σ H1 fun y H2 => DGt x y H2 Q) : tDGet td ty σ H Q := h
theorem x_dgt {d : Addr} {kvs : List (Key × V)} {k : Str} {v : V} (h : H d = some (.dK kvs)) (e : valV kvs (Sum.inr k) = some v) (q : Q v H) : DGt (.ref d) (.str k) H Q := by
  have g := DGet.k (k := Sum.inr k) h
  rw [e] at g
  exact ⟨d, v, rfl, g, q⟩
theorem x_extend (w : Wd B M H) {l b : Addr} {xs zs : List V} {k : Nat} (hk : M[k]? = some (l, .lst xs)) (hb : H b = some (.lst zs)) (hl : xs.length + zs.length ≤ 100000) (h : ∀ H', Wd B (M.set k (l, .lst (xs ++ zs))) H' → Q .non H') : rExtend (.ref l) [.ref b] H Q :=
  ⟨l, b, xs, zs, rfl, rfl, w.get hk, hb, sz_of hl, h _ (w.set hk _)⟩
theorem map_getS {xs : List Str} {i : Nat} {x : V} (h : (xs.map V.str)[i]? = some x) : ∃ z, x = .str z ∧ xs[i]? = some z := by
  rw [List.getElem?_map] at h
  cases e : xs[i]? with
  | none => rw [e] at h; cases h
  | some n => rw [e] at h; exact ⟨n, (Option.some.inj h).symm, rfl⟩
theorem take_map_succ {α β : Type} {f : α → β} {xs : List α} {i : Nat} {x : α} (h : xs[i]? = some x) : (xs.take (i + 1)).map f = (xs.take i).map f ++ [f x] := by
  rw [List.take_succ, h, List.map_append]
  rfl
end
end Sy

/-! None asked for; repr of a truth value; small tuples compared; an error caught by its class. -/
namespace Sy
open PySem PySem.Spec PyProof.Rows L2
section
variable {X : Cx}
def rIsN : R2 := fun x y H Q => y = .non ∧ Q (.bl (decide (x = .non))) H
theorem op_isNone : OpR X (compareOp .Is) rIsN := op_isN
def rNotN : R2 := fun x y H Q => y = .non ∧ Q (.bl (!decide (x = .non))) H
theorem op_notNone : OpR X (compareOp .IsNot) rNotN := op_notN
def rReprB : List V → Hp → VK → Prop := fun xs H Q => ∃ b, xs = [.bl b] ∧ Q (.str (if b = true then "True" else "False")) H
theorem c_reprB : CallR X (.builtin "repr") rReprB := by
  intro pins s σ H xs us Q I r h
  obtain ⟨b, rfl, q⟩ := h
  obtain ⟨u, rfl, ru⟩ := vals1 r
  cases ru
  exact PySem.P.repr_of_bool ⟨.str _, H, I.tok _, ⟨_, rfl⟩, q⟩
end
section
variable {H : Hp} {Q : VK} {K : PySem.W.Frag} {σ : L2.St} {z : Str} {a b : Addr} {ta : TE}
theorem x_isNs (h : Q (.bl false) H) : rIsN (.str z) .non H Q := ⟨rfl, h⟩
theorem x_isNn (h : Q (.bl true) H) : rIsN .non .non H Q := ⟨rfl, h⟩
theorem x_notNs (h : Q (.bl true) H) : rNotN (.str z) .non H Q := ⟨rfl, h⟩
theorem x_notNn (h : Q (.bl false) H) : rNotN .non .non H Q := ⟨rfl, h⟩
theorem x_reprB {k : Bool} (h : Q (.str (if k = true then "True" else "False")) H) : rReprB [.bl k] H Q := ⟨k, rfl, h⟩
theorem shT1 (h : PyData.strOk z = true) : SeqAt.shaped (.tuple [.str z]) = true := by
  have e : PyData.canLay0 (.tuple [.str z]) = true := by
    simp only [PyData.canLay0, PyData.canLayAll0, Bool.and_true]
    exact h
  unfold SeqAt.shaped
  rw [e, Bool.true_and]
  exact decide_eq_true (by show PyData.depth (.tuple [.str z]) ≤ 64; simp [PyData.depth, PyData.depthAll])
theorem x_eqT1 (hz : PyData.strOk z = true) (h1 : SqT K H a [.str z]) (h2 : SqT K H b [.str z]) (q : Q (.bl true) H) : rEqD K (.ref a) (.ref b) H Q :=
  ⟨.tuple [.str z], .tuple [.str z], .tup h1 (.cons (.str z) .nil), .tup h2 (.cons (.str z) .nil), shT1 hz, shT1 hz, by rw [SeqAt.eqv_refl _ (SeqAt.canLay_of_shaped (shT1 hz))]; exact q⟩
theorem x_neSame {x : V} (h : (∃ z, x = .str z) ∨ x = .non) (q : Q (.bl false) H) : rNe x x H Q := by
  obtain ⟨z, rfl⟩ | rfl := h
  · refine ⟨rfl, ?_⟩
    rw [decide_eq_true rfl]
    exact q
  · refine ⟨rfl, ?_⟩
    rw [decide_eq_true rfl]
    exact q
theorem x_as {c : Value} {i : Nat} {ts : Addr → Value → Option Addr → TS} {Wout : WX} {D : Ends} {cls : Value} {d : Option Addr} (e : PySem.W.exmOne K cls c = some true)
    (h : ∀ a, H a = none → ts a cls d { nx := fun σ' H' => D.nx (σ'.set i none) H', rt := D.rt, bk := fun σ' H' => D.bk (σ'.set i none) H', ct := fun σ' H' => D.ct (σ'.set i none) H' } (σ.set i (some (.ref a))) H) : WE (wAs K c i ts Wout D) σ cls d H :=
  ⟨true, e, fun _ => h, fun q => nomatch q⟩
def Xf (a : Addr) (cls : Value) (d : Option Addr) (C : Addr) (f : Str) (x : V) (H1 : Hp) (Q : VK) : Prop := x = .ref a ∧ cls = .ref C ∧ ∃ (dd : Addr) (fs : List (Str × V)) (v : V), d = some dd ∧ H1 dd = some (.xd fs) ∧ fs.lookup f = some v ∧ Q v H1
theorem x_xf {cls : Value} {d : Option Addr} {C : Addr} {f : Str} (h : ta σ H fun x H1 => Xf a cls d C f x H1 Q) : tXf a cls d C f ta σ H Q := h
theorem x_xfd {dd C : Addr} {fs : List (Str × V)} {f : Str} {v : V} (h : H dd = some (.xd fs)) (l : fs.lookup f = some v) (q : Q v H) : Xf a (.ref C) (some dd) C f (.ref a) H Q := ⟨rfl, rfl, dd, fs, v, rfl, h, l, q⟩
theorem x_isD {D dd : Addr} {fs : List (Str × V)} {c : V} {cv : Value} {k : Bool} (T : IsE K D) (h : H dd = some (.xd fs)) (hc : ClsV c cv) (e : PySem.W.kitOne K (.ref D) cv = some k) (q : Q (.bl k) H) : rIsD K a (.ref D) (some dd) [.ref a, c] H Q :=
  ⟨D, c, cv, k, dd, fs, rfl, T, rfl, rfl, h, hc, e, q⟩
end
end Sy

/-! A method whose keyword-only parameter is left out. -/
namespace Sy
open PySem PySem.Spec PyProof.Rows L2
/-- a method and the written values of its keyword-only parameters -/
structure MFD (K : PySem.W.Frag) (C : Addr) (m qual : Str) (st : Stmt) (kws : List (Str × V)) : Prop where
  ok : ∃ (f : Addr) (oc : Value) (od : Option Addr) (D : Addr) (doc pm : Value) (an : Option Addr) (cdv ct : Value) (osl : Array (Option Value)),
    PySem.W.findIn K (.ref C) m = some (some (.ref f)) ∧ PySem.W.isFn K (.ref f) = true ∧ K.lookup f = some ⟨oc, od, .func (PySem.W.fnOf m qual (defArgs st) (defBody st) (defScope st) .none (.ref D) doc pm an cdv ct), osl⟩ ∧ PySem.W.codeIn K cdv qual = true ∧ PySem.W.keepIn K (.ref f) = true ∧
    ∀ q ∈ kws, ∃ u, PySem.W.nsIn K D q.1 = some (some u) ∧ RelV q.2 u
theorem mfd_mk {K : PySem.W.Frag} {C : Addr} {m qual : Str} {st : Stmt} {x : Str} {v : V} {u : Value} {f : Addr} {oc : Value} {od : Option Addr} {D : Addr} {doc pm : Value} {an : Option Addr} {cdv ct : Value} {osl : Array (Option Value)} (a : PySem.W.findIn K (.ref C) m = some (some (.ref f))) (i : PySem.W.isFn K (.ref f) = true)
    (l : K.lookup f = some ⟨oc, od, .func (PySem.W.fnOf m qual (defArgs st) (defBody st) (defScope st) .none (.ref D) doc pm an cdv ct), osl⟩) (c : PySem.W.codeIn K cdv qual = true) (k : PySem.W.keepIn K (.ref f) = true) (n : PySem.W.nsIn K D x = some (some u)) (r : RelV v u) : MFD K C m qual st [(x, v)] :=
  ⟨⟨f, oc, od, D, doc, pm, an, cdv, ct, osl, a, i, l, c, k, fun q hq => by rw [List.mem_singleton.mp hq]; exact ⟨u, n, r⟩⟩⟩
/-- the method, its keyword-only parameters left out: they hold dvs -/
structure MtD (CX : CXT) (P : Program) (w : World) (K : PySem.W.Frag) (mg : Str → Option Value) (base : Heap) (C : Addr) (m : Str) (k : Nat) (n : Nat) (dvs : List V) (ps : List Str) (sp : Sp) : Prop where
  ok : ∃ (f : Addr) (fd : FuncData) (mv : List Value), Meth K C m f ∧ KBn K fd ps n [] (fun us _ => us ++ mv) (fun vs _ => vs ++ dvs) ∧ FnOk P w K mg base CX k f fd ps sp
theorem mtd_mk {CX : CXT} {P : Program} {w : World} {K : PySem.W.Frag} {mg : Str → Option Value} {base : Heap} {m qual : Str} {C : Addr} {st : Stmt} {k n : Nat} {x : Str} {v : V} {ps : List Str} {sp : Sp} (a : MFD K C m qual st [(x, v)])
    (hb : ∀ (D : Addr) (doc pm : Value) (an : Option Addr) (cdv ct : Value) (us mv ws : List Value), us.length = n → mv.length = 1 → ws.length = 0 → KwChain D (([x] : List Str).zip mv) (bindArgs (PySem.W.fnOf m qual (defArgs st) (defBody st) (defScope st) .none (.ref D) doc pm an cdv ct) ⟨us, ([] : List Str).zip ws⟩) (ps.zip (us ++ mv)))
    (ok : ∀ {f : Addr} {fd : FuncData}, Fun K m qual st f fd → FnOk P w K mg base CX k f fd ps sp) : MtD CX P w K mg base C m k n [v] ps sp := by
  obtain ⟨f, oc, od, D, doc, pm, an, cdv, ct, osl, h1, h2, h3, h4, h5, h6⟩ := a.ok
  have F := fun_mk (st := st) h3 h4 h5
  have FD : FunD K m qual (defArgs st) (defBody st) (defScope st) [] [(x, v)] f (PySem.W.fnOf m qual (defArgs st) (defBody st) (defScope st) .none (.ref D) doc pm an cdv ct) := ⟨⟨oc, od, .none, .ref D, doc, pm, an, cdv, ct, osl, rfl, h3, h4, .inl ⟨rfl, rfl⟩, .inr ⟨D, rfl, h6⟩⟩, h5⟩
  obtain ⟨mv, b⟩ := FD.kbinds0 (ps := ps) n [] [(x, v)] (fun vs mz _ => vs ++ mz) (by simp) (fun _ h => h) (fun r1 r2 _ => r1.append r2) hb
  exact ⟨⟨f, _, mv, ⟨h1, h2, h5⟩, b, ok F⟩⟩
section
variable {X : Cx} {CX : CXT} {k j n : Nat} {C : Addr} {ps : List Str} {dvs : List V} {sp : Sp} {x : Str} {p pos : Pos} {e : Expr} {es : List Expr} {t tk : TA}
theorem pe_klD (c : Kl X.K X.mg x C) {E : XK} (D : MtD CX X.prog X.w X.K X.mg X.base C "__init__" j (n + 1) dvs ps sp) (hr : Room k X.A) (hj : j + 1 ≤ k) (hg : Gl X x) (hx : Passes CX X E) (ha : PA X (e :: es) t) (hdb : (x == ("__debug__" : Str)) = false := by decide)
    (he : starEach (e :: es) X.env = (false, eval e X.env) :: starEach es X.env := by rfl) (hpl : ((backTo pos (starEach (e :: es) X.env)).any (·.1) || (backToKw pos (keywordEach [] X.env)).any (·.1.isNone)) = false := by rfl) :
    PE X (.Call (.Name x p) (e :: es) [] pos) (tMakeKS C n 0 sp (fun vs _ => vs ++ dvs) (fun _ => E) t tNil) := by
  obtain ⟨f, fd, mv, h1, h3, h4⟩ := D.ok
  exact pe_makeKS (ks := []) ⟨c.mks, h1.at_, h1.fn, c.kp⟩ h4 (hr.mono hj) hg c.gl h3 (fun σ pins H s u s' I z => hx pins σ H s u s' I z) ha pk_nil rfl rfl hdb he hpl
theorem x_makeKD {σ : L2.St} {H : Hp} {Q : VK} {E : XK} (h : t σ H fun vs H1 => vs.length = n ∧ MkI C sp E (vs ++ dvs) H1 Q) : tMakeKS C n 0 sp (fun vs _ => vs ++ dvs) (fun _ => E) t tNil σ H Q := by
  have e : (fun vs H1 => vs.length = n ∧ MkI C sp E (vs ++ dvs) H1 Q) = fun vs H1 => vs.length = n ∧ ([] : List V).length = 0 ∧ MkI C sp E (vs ++ dvs) H1 Q := by
    funext vs H1
    exact propext ⟨fun z => ⟨z.1, rfl, z.2⟩, fun z => ⟨z.1, z.2.2⟩⟩
  rw [e] at h
  exact h
end
section
variable {X : Cx} {K : PySem.W.Frag}
theorem op_inK (eK : K = X.K := by rfl) : OpR X (compareOp .In) (rIn K false) := by
  subst eK
  exact op_in_seq
theorem op_ninK (eK : K = X.K := by rfl) : OpR X (compareOp .NotIn) (rIn K true) := by
  subst eK
  exact op_notIn_seq
end
theorem pg_tupK {X : Cx} {K : PySem.W.Frag} {es : List Expr} {t : TGs} {k n : Nat} {pos : Pos} (hc : X.calm = true) (h : PGs X es t) (eK : K = X.K := by rfl) (hn : (assignEach es X.env).length = n := by rfl) (hst : (assignEach es X.env).findIdx? (·.1) = none := by rfl) : PG X (.Tuple es k pos) (gTup K n t) := by
  subst eK
  exact pg_tup hc h hn hst
end Sy

/-! Rows for the walk of a reading: «lk» finds what stands at a place, «s1» is one step, «sx» as many as there are. -/
local macro_rules | `(tactic| walk_at "lk") => `(tactic| first
  | assumption
  | exact Sy.Wd.get (k := 0) (by assumption) rfl
  | exact Sy.Wd.get (k := 1) (by assumption) rfl
  | exact Sy.Wd.get (k := 2) (by assumption) rfl
  | exact Sy.Wd.get (k := 3) (by assumption) rfl
  | exact Sy.Wd.get (k := 4) (by assumption) rfl
  | exact Sy.Wd.get (k := 5) (by assumption) rfl
  | exact Sy.Wd.get (k := 6) (by assumption) rfl
  | (refine' Sy.Wd.im (by assumption) ?hh; (case hh => walk_at "lk"))
  | (refine' Sy.Ex.up (by assumption) ?hh; (case hh => walk_at "lk")))
local macro_rules | `(tactic| walk_at "ex") => `(tactic| first
  | assumption
  | exact Sy.Ex.rf _
  | (refine' Sy.Ex.tr ?_ (by assumption); walk_at "ex"))
local macro_rules | `(tactic| walk_at "sl") => `(tactic| first
  | (refine' Sy.sl_of ?hh; (case hh => walk_at "lk"))
  | assumption
  | (refine' Sy.Ex.sl (Sy.Wd.ex (by assumption)) ?hh; (case hh => walk_at "sl"))
  | (refine' Sy.Ex.sl (by assumption) ?hh; (case hh => walk_at "sl")))
local macro_rules | `(tactic| walk_at "st") => `(tactic| first
  | (refine' Sy.st_of ?hh; (case hh => walk_at "lk"))
  | assumption
  | (refine' Sy.Ex.st (Sy.Wd.ex (by assumption)) ?hh; (case hh => walk_at "st"))
  | (refine' Sy.Ex.st (by assumption) ?hh; (case hh => walk_at "st")))
local macro_rules | `(tactic| walk_at "mul") => `(tactic| first
  | assumption
  | exact Sy.mul_r ⟨by decide, by decide⟩
  | exact Sy.mul_l ⟨by decide, by decide⟩
  | exact Sy.mul_r ⟨by omega, by omega⟩
  | exact Sy.mul_l ⟨by omega, by omega⟩)
local macro_rules | `(tactic| walk_at "side") => `(tactic| first
  | assumption
  | decide
  | walk_at "mul"
  | exact ⟨by assumption, by assumption⟩
  | exact ⟨by decide, by decide⟩
  | exact ⟨by decide, by decide, by decide⟩
  | omega)
local macro_rules | `(tactic| walk_at "s1") => `(tactic| first
  | with_reducible refine Sy.x_seq ?_
  | with_reducible refine Sy.x_asg ?_
  | with_reducible refine Sy.x_name ?_
  | with_reducible refine Sy.x_ret ?_
  | with_reducible refine Sy.x_ifS ?_
  | with_reducible refine Sy.x_drop ?_
  | with_reducible refine Sy.x_next ?_
  | with_reducible refine Sy.x_par ?_
  | with_reducible refine Sy.x_pr ?_
  | ((with_reducible refine' Sy.x_var ?hv ?_); (case hv => exact rfl))
  | with_reducible refine Sy.x_c ?_
  | with_reducible refine Sy.x_op ?_
  | with_reducible refine Sy.x_un ?_
  | with_reducible refine Sy.x_cb ?_
  | with_reducible refine Sy.x_nil ?_
  | with_reducible refine Sy.x_cons ?_
  | with_reducible refine Sy.x_if ?_
  | with_reducible refine Sy.x_andV ?_
  | with_reducible refine Sy.x_orV ?_
  | with_reducible refine Sy.x_notV ?_
  | with_reducible refine Sy.x_bl ?_
  | with_reducible refine Sy.x_tTest ?_
  | with_reducible refine Sy.x_tB ?_
  | with_reducible refine Sy.x_tAnd ?_
  | with_reducible refine Sy.x_tOr ?_
  | with_reducible refine Sy.x_tNot ?_
  | with_reducible refine Sy.x_call ?_
  | with_reducible refine Sy.x_I0 ?_
  | ((with_reducible refine' Sy.x_I ?hc ?_); (case hc => walk_at "side"))
  | with_reducible refine Sy.x_U ?_
  | with_reducible refine Sy.x_eqI ?_
  | with_reducible refine Sy.x_neI ?_
  | with_reducible refine Sy.x_tup ?_
  | with_reducible refine Sy.x_lst ?_
  | ((with_reducible refine' Sy.x_kt ?hw ?hl ?_); (case hw => assumption); (case hl => exact rfl); intro p' B' H' hEx hAt hWd)
  | ((with_reducible refine' Sy.x_ixL ?hp ?hx ?_); (case hp => walk_at "sl"); (case hx => first | exact rfl | assumption | exact Sy.atI_set (by assumption)))
  | ((with_reducible refine' Sy.x_ixT ?hp ?hx ?_); (case hp => walk_at "st"); (case hx => exact rfl))
  | with_reducible refine Sy.x_gSub ?_
  | ((with_reducible refine' Sy.x_setL ?hw ?hk ?hj ?_); (case hw => assumption); (case hk => first | exact (rfl : ([_] : List _)[0]? = _) | exact (show (_ :: _)[0]? = _ from rfl) | exact (show (_ :: _ :: _)[1]? = _ from rfl) | exact (show (_ :: _ :: _ :: _)[2]? = _ from rfl) | exact (show (_ :: _ :: _ :: _ :: _)[3]? = _ from rfl) | exact (show (_ :: _ :: _ :: _ :: _ :: _)[4]? = _ from rfl)); (case hj => first | assumption | exact Sy.ixN_set (by assumption) | exact rfl); intro H' hWd)
  | with_reducible refine Sy.x_fld ?_
  | ((with_reducible refine' Sy.x_fd ?h1 ?c ?n ?l ?_); (case h1 => walk_at "lk"); (case c => walk_at "cls"); (case n => walk_at "noat"); (case l => exact rfl))
  | with_reducible refine Sy.x_sFld ?_
  | ((with_reducible refine' Sy.x_sfd ?h1 ?c ?n ?l ?_); (case h1 => walk_at "lk"); (case c => walk_at "cls"); (case n => walk_at "noat"); (case l => exact rfl))
  | with_reducible refine Sy.x_make ?_
  | ((with_reducible refine' Sy.x_isi_o ?ic ?h1 ?_); (case ic => walk_at "insc"); (case h1 => walk_at "lk"))
  | with_reducible refine Sy.x_isi_ii ?_
  | with_reducible refine Sy.x_isi_ib ?_
  | with_reducible refine Sy.x_isi_bi ?_
  | with_reducible refine Sy.x_isi_bb ?_
  | with_reducible refine Sy.x_abs ?_
  | with_reducible refine Sy.x_intI ?_
  | with_reducible refine Sy.x_intB ?_
  | with_reducible refine Sy.x_max ?_
  | with_reducible refine Sy.x_min ?_
  | ((with_reducible refine' Sy.x_lenL ?hp ?_); (case hp => walk_at "sl"))
  | with_reducible refine Sy.i_t ?_
  | with_reducible refine Sy.i_f ?_
  | with_reducible refine Sy.i_nt ?_
  | with_reducible refine Sy.i_nf ?_)
local macro_rules | `(tactic| walk_at "s1") => `(tactic| first
  | with_reducible refine Sy.x_for ?_
  | with_reducible refine Sy.x_forr ?_
  | ((with_reducible refine' Sy.x_gTup ?hp ?hn ?_); (case hp => walk_at "st"); (case hn => exact rfl))
  | with_reducible refine Sy.x_gCons ?_
  | with_reducible refine Sy.x_gNil ?_
  | with_reducible refine Sy.x_par3 ?_
  | with_reducible refine Sy.x_pr3 ?_
  | with_reducible refine Sy.x_makeK ?_
  | ((with_reducible refine' Sy.x_len ?hl ?_); (case hl => exact rfl))
  | ((with_reducible refine' Sy.x_cat ?hw ?h1 ?h2 ?hl ?_); (case hw => assumption); (case h1 => walk_at "lk"); (case h2 => walk_at "lk"); (case hl => exact rfl); intro p' B' H' hEx hAt hWd)
  | ((with_reducible refine' Sy.i_dT ?he ?_); (case he => first | rfl | assumption | omega))
  | ((with_reducible refine' Sy.i_dF ?he ?_); (case he => omega))
  | ((with_reducible refine' Sy.i_ndT ?he ?_); (case he => first | rfl | assumption | omega))
  | ((with_reducible refine' Sy.i_ndF ?he ?_); (case he => omega)))
local macro_rules | `(tactic| walk_at "short") => `(tactic| first
  | assumption
  | exact Sy.short_num (by assumption)
  | exact Sy.short_of (n := 40) rfl
  | (refine' Sy.short_app ?h1 ?h2; (case h1 => walk_at "short"); (case h2 => walk_at "short")))
local macro_rules | `(tactic| walk_at "s1") => `(tactic| first
  | with_reducible refine Sy.x_fmt ?_
  | ((with_reducible refine' Sy.x_fmtI ?hz ?_); (case hz => assumption))
  | ((with_reducible refine' Sy.x_fmtS ?hz ?hn ?_); (case hz => walk_at "short"); (case hn => exact rfl))
  | with_reducible refine Sy.x_js ?_
  | with_reducible refine Sy.x_jsN ?_
  | ((with_reducible refine' Sy.x_js0 ?hz ?hn ?_); (case hz => walk_at "short"); (case hn => exact rfl))
  | ((with_reducible refine' Sy.x_jsS ?hz ?hn ?_); (case hz => walk_at "short"); (case hn => exact rfl))
  | ((with_reducible refine' Sy.x_addS ?h1 ?h2 ?hn ?_); (case h1 => walk_at "short"); (case h2 => walk_at "short"); (case hn => exact rfl))
  | ((with_reducible refine' Sy.x_strI ?hz ?_); (case hz => assumption))
  | with_reducible refine Sy.x_boolI ?_
  | with_reducible refine Sy.x_boolB ?_
  | with_reducible refine Sy.x_neB ?_
  | with_reducible refine Sy.x_eqB ?_
  | with_reducible refine Sy.x_eqS ?_
  | with_reducible refine Sy.x_neS ?_
  | with_reducible refine Sy.x_forz ?_)
local macro_rules | `(tactic| walk_at "s1") => `(tactic| first
  | with_reducible refine Sy.x_bm ?_
  | with_reducible refine Sy.x_bm0 ?_
  | ((with_reducible refine' Sy.x_tyL ?hp ?_); (case hp => walk_at "sl"))
  | with_reducible refine Sy.x_tyS ?_
  | with_reducible refine Sy.x_lc ?_
  | with_reducible refine Sy.x_yes ?_
  | ((with_reducible refine' Sy.x_aug ?hv ?_); (case hv => exact rfl))
  | with_reducible refine Sy.x_ip ?_
  | ((with_reducible refine' Sy.x_listL ?hp ?_); (case hp => walk_at "sl")))
local macro_rules | `(tactic| walk_at "tu") => `(tactic| first
  | assumption
  | (refine' Sy.TupS.up ?hh (by assumption); (case hh => walk_at "tu")))
local macro_rules | `(tactic| walk_at "s1") => `(tactic| first
  | ((with_reducible refine' Sy.x_split ?hw ?hb ?hl ?_); (case hw => assumption); (case hb => first | rfl | decide +kernel); (case hl => first | assumption | omega); intro p' B' H' hEx hAt hWd)
  | ((with_reducible refine' Sy.x_inT ?hp ?_); (case hp => walk_at "st"))
  | ((with_reducible refine' Sy.x_inL ?hp ?_); (case hp => walk_at "sl"))
  | ((with_reducible refine' Sy.x_ninT ?hp ?_); (case hp => walk_at "st"))
  | ((with_reducible refine' Sy.x_ninL ?hp ?_); (case hp => walk_at "sl"))
  | with_reducible refine Sy.x_isi_ss ?_
  | with_reducible refine Sy.x_makeKD ?_
  | with_reducible refine Sy.x_makeKS ?_
  | with_reducible refine Sy.x_raiseE ?_
  | with_reducible refine Sy.x_prop ?_
  | with_reducible refine Sy.x_isNs ?_
  | with_reducible refine Sy.x_isNn ?_
  | with_reducible refine Sy.x_notNs ?_
  | with_reducible refine Sy.x_notNn ?_
  | with_reducible refine Sy.x_reprB ?_
  | ((with_reducible refine' Sy.x_eqT1 ?hz ?h1 ?h2 ?_); (case hz => assumption); (case h1 => walk_at "st"); (case h2 => walk_at "st"))
  | with_reducible refine Sy.x_xf ?_
  | ((with_reducible refine' Sy.x_xfd ?h1 ?h2 ?_); (case h1 => walk_at "lk"); (case h2 => exact rfl))
  | ((with_reducible refine' Sy.x_disp ?hw ?_); (case hw => assumption); intro p' H' hWd)
  | with_reducible refine Sy.x_ppc ?_
  | with_reducible refine Sy.x_ppn ?_
  | with_reducible refine Sy.x_dget ?_
  | with_reducible refine Sy.x_strS ?_
  | ((with_reducible refine' Sy.x_err ?hw ?hl ?_); (case hw => assumption); (case hl => exact rfl); intro d' B' H' hEx hXd hWd))
local macro_rules | `(tactic| walk_at "s1") => `(tactic| ((with_reducible refine' Sy.x_sfdM (k := 0) ?hw ?hk ?c ?n ?l ?_); (case hw => assumption); (case hk => exact rfl); (case c => walk_at "cls"); (case n => walk_at "noat"); (case l => exact rfl); intro H' hWd))
local macro_rules | `(tactic| walk_at "sx") => `(tactic| repeat (walk_at "s1"))
/-! .. and lists that never change -/
local macro_rules | `(tactic| walk_at "si") => `(tactic| repeat (first
  | walk_at "s1"
  | ((with_reducible refine' Sy.x_kl ?hw ?hl ?_); (case hw => assumption); (case hl => exact rfl); intro p' B' H' hEx hAt hWd)
  | ((with_reducible refine' Sy.x_kn ?hw ?_); (case hw => assumption); intro p' B' H' hEx hAt hWd)))
local macro_rules | `(tactic| walk_at "al") => `(tactic| repeat' (first
  | with_reducible refine Sy.al_app ?_ ?_
  | with_reducible refine Sy.al_cons ?_ ?_
  | exact Sy.al_nil))


namespace My
open PySem PySem.Spec PyProof.Rows L2 Sy
def top (i : Nat) : Stmt := PySem.Challenge.pw_strayfiles_k05_whole_sums_of_times.main.body.getD i (.Pass ⟨0, 0, 0, 0⟩)
/-- where the classes stand -/
structure Ad where
  no : Unit := ()
  Span : Addr
  Moment : Addr
structure Txt (K : PySem.W.Frag) (mg : Str → Option Value) (Z : Ad) : Prop where
  nn : True
  c_Span : Kl K mg "Span" Z.Span
  c_Moment : Kl K mg "Moment" Z.Moment
  n_Span_ticks : NoAttr K Z.Span "ticks"
  n_Moment_at : NoAttr K Z.Moment "at"
  ns_Span_Moment : NsT K Z.Span (.ref Z.Moment)
  ns_Moment_Span : NsT K Z.Moment (.ref Z.Span)
  t_Span_mul_int : OpT K Z.Span "int" "mul"
  r_Span : RmT K Z.Span
  b_Moment_Span_add : BinT K Z.Moment Z.Span "add"
  b_Span_Moment_add : BinT K Z.Span Z.Moment "add"
  b_Moment_Span_sub : BinT K Z.Moment Z.Span "sub"
  ip_Span : IpT K Z.Span
  g_len : mg "len" = none
  g_abs : mg "abs" = none
  g_int : mg "int" = none
  g_bool : mg "bool" = none
  g_isinstance : mg "isinstance" = none
  g_NotImplemented : mg "NotImplemented" = none
  g_zip : mg "zip" = none
  g_list : mg "list" = none
  g_range : mg "range" = none
  g_min : mg "min" = none
  g_max : mg "max" = none
local macro_rules | `(tactic| walk_at "cls") => `(tactic| exact (My.Txt.c_Span (by assumption)).ic.cl)
local macro_rules | `(tactic| walk_at "insc") => `(tactic| exact (My.Txt.c_Span (by assumption)).ic)
local macro_rules | `(tactic| walk_at "cls") => `(tactic| exact (My.Txt.c_Moment (by assumption)).ic.cl)
local macro_rules | `(tactic| walk_at "insc") => `(tactic| exact (My.Txt.c_Moment (by assumption)).ic)
local macro_rules | `(tactic| walk_at "ns") => `(tactic| exact My.Txt.ns_Span_Moment (by assumption))
local macro_rules | `(tactic| walk_at "ns") => `(tactic| exact My.Txt.ns_Moment_Span (by assumption))
local macro_rules | `(tactic| walk_at "noat") => `(tactic| exact My.Txt.n_Span_ticks (by assumption))
local macro_rules | `(tactic| walk_at "noat") => `(tactic| exact My.Txt.n_Moment_at (by assumption))
/-! ### what all laws draw by -/
/-- a bag: a list of three numbers -/
abbrev bagO (d c n : Int) : HO := .lst [.int d, .int c, .int n]
def sp_bag (K : PySem.W.Frag) (Z : Ad) : Sp := fun vs H Q _ => vs.length = 2 ∧ ∃ (B : Hp) (M : List (Addr × HO)) (a : Addr) (ns : List Int) (i : Nat), vs = [.ref a, .int (i : Int)] ∧ Wd B M H ∧ SqL K B a (ns.map V.int) ∧
  ∀ (p : Addr) (d c n : Int) (H' : Hp), Wd B ((p, bagO d c n) :: M) H' → Q (.ref p) H'
def sp_take (K : PySem.W.Frag) (Z : Ad) : Sp := fun vs H Q _ => vs.length = 2 ∧ ∃ (B : Hp) (M : List (Addr × HO)) (k : Nat) (b : Addr) (d c n m : Int), vs = [.ref b, .int m] ∧ Wd B M H ∧ M[k]? = some (b, bagO d c n) ∧ 0 < m ∧ m.natAbs.log2 < 9000 ∧
  ∀ (r d' n' : Int) (H' : Hp), 0 ≤ r → r < m → Wd B (M.set k (b, bagO d' c n')) H' → Q (.int r) H'
theorem at3_0 (x y z : V) : atI [x, y, z] 0 = some x := rfl
theorem at3_1 (x y z : V) : atI [x, y, z] 1 = some y := rfl
theorem at3_2 (x y z : V) : atI [x, y, z] 2 = some z := rfl
theorem atI_ints {ns : List Int} {i : Nat} (h : i < ns.length) : atI (ns.map V.int) (i : Int) = some (.int ns[i]) := by
  refine atI_nat ?_
  rw [List.getElem?_map, List.getElem?_eq_getElem h]
  rfl
theorem u_take0 {K : PySem.W.Frag} {Z : Ad} {B H : Hp} {M : List (Addr × HO)} {b : Addr} {d c n m : Int} {Q : VK} {E : XK} (w : Wd B ((b, bagO d c n) :: M) H) (hm : 0 < m) (hm9 : m.natAbs.log2 < 9000)
    (h : ∀ (r d' n' : Int) (H' : Hp), 0 ≤ r → r < m → Wd B ((b, bagO d' c n') :: M) H' → Q (.int r) H') : sp_take K Z [.ref b, .int m] H Q E := ⟨rfl, B, _, 0, b, d, c, n, m, rfl, w, rfl, hm, hm9, h⟩
theorem u_bag {K : PySem.W.Frag} {Z : Ad} {B H : Hp} {M : List (Addr × HO)} {a : Addr} {ns : List Int} {i : Nat} {Q : VK} {E : XK} (w : Wd B M H) (hS : SqL K B a (ns.map V.int))
    (h : ∀ (p : Addr) (d c n : Int) (H' : Hp), Wd B ((p, bagO d c n) :: M) H' → Q (.ref p) H') : sp_bag K Z [.ref a, .int (i : Int)] H Q E := ⟨rfl, B, M, a, ns, i, rfl, w, hS, h⟩

/-- a number of thirty figures at the most -/
def sp_number (K : PySem.W.Frag) (Z : Ad) : Sp := fun vs H Q _ => vs.length = 1 ∧ ∃ (B : Hp) (M : List (Addr × HO)) (k : Nat) (b : Addr) (d c n : Int), vs = [.ref b] ∧ Wd B M H ∧ M[k]? = some (b, bagO d c n) ∧
  ∀ (z d' n' : Int) (H' : Hp), z.natAbs < 10 ^ 30 → Wd B (M.set k (b, bagO d' c n')) H' → Q (.int z) H'
theorem u_number0 {K : PySem.W.Frag} {Z : Ad} {B H : Hp} {M : List (Addr × HO)} {b : Addr} {d c n : Int} {Q : VK} {E : XK} (w : Wd B ((b, bagO d c n) :: M) H)
    (h : ∀ (z d' n' : Int) (H' : Hp), z.natAbs < 10 ^ 30 → Wd B ((b, bagO d' c n') :: M) H' → Q (.int z) H') : sp_number K Z [.ref b] H Q E := ⟨rfl, B, _, 0, b, d, c, n, rfl, w, rfl, h⟩
def sp_is_number (K : PySem.W.Frag) (Z : Ad) : Sp := fun vs H Q _ => vs.length = 2 ∧ ∃ (B : Hp) (M : List (Addr × HO)) (i j : Int), vs = [.int i, .int j] ∧ Wd B M H ∧ ∀ H', Wd B M H' → Q (.bl (decide (i = j))) H'
theorem u_is_number {K : PySem.W.Frag} {Z : Ad} {B H : Hp} {M : List (Addr × HO)} {i j : Int} {Q : VK} {E : XK} (w : Wd B M H) (h : ∀ H', Wd B M H' → Q (.bl (decide (i = j))) H') : sp_is_number K Z [.int i, .int j] H Q E := ⟨rfl, B, M, i, j, rfl, w, h⟩
local macro_rules | `(tactic| walk_at "s1") => `(tactic| ((with_reducible refine' My.u_is_number ?w ?_); (case w => assumption); intro H' hWd))

section
variable {P : Program} {w : World} {K : PySem.W.Frag} {mg : Str → Option Value} {base : Heap} {Z : Ad}
abbrev s_bag : Stmt := top 5
theorem sc_bag : FnScope ["_law_script", "_law_at", "_law_cell"] ["_law_script", "_law_at"] (defScope s_bag) := ⟨rfl, rfl, rfl, by decide +kernel, rfl, by decide +kernel, by decide +kernel⟩
abbrev s_take : Stmt := top 6
theorem sc_take : FnScope ["_law_bag_here", "_law_many", "_law_digit", "_law_mixed"] ["_law_bag_here", "_law_many"] (defScope s_take) := ⟨rfl, rfl, rfl, by decide +kernel, rfl, by decide +kernel, by decide +kernel⟩
theorem ok_bag {f : Addr} {fd : FuncData} (F : Fun K "_law_bag" "_law_bag" s_bag f fd) (T : Txt K mg Z) : FnOk P w K mg base CX0 1 f fd ["_law_script", "_law_at"] (sp_bag K Z) := by
  refine F.ok sc_bag (fun vs H Q E h => h.1) (fun cdv A outer s H vs Q E hr h => ?_)
  obtain ⟨_, B, M, a, ns, i, rfl, wd, hS, k⟩ := h
  refine ⟨_, (pss_cons (ps_set (i := 2) sc_bag.nd rfl (Or.inl rfl) (pe_ifExp (pt_cmpR op_lt (pv 1) (pe_callB c_len (by rfl) T.g_len (by decide +kernel) (pa_cons (pv 0) pa_nil)) (nomark _)) (pe_ix ix_list (pv 0) (pv 1) (fun _ _ => rfl)) (pv 1)))
      (pss_one (ps_ret (pe_lst (pa_cons (pe_ifExp (pt_cmpR op_ge (pe_callB c_abs (by rfl) T.g_abs (by decide +kernel) (pa_cons (pv 2) pa_nil)) (pe_op op_pow pe_int pe_int) (nomark _)) (pe_callB c_abs (by rfl) T.g_abs (by decide +kernel) (pa_cons (pv 2) pa_nil)) pe_int) (pa_cons (pe_op op_add (pe_op op_mulA (pe_callB c_abs (by rfl) T.g_abs (by decide +kernel) (pa_cons (pv 2) pa_nil)) pe_int) (pe_callTy c_int (by rfl) T.g_int (by decide +kernel) (pa_cons (pe_cmpR op_lt (pv 2) pe_int (nomark _)) pa_nil))) (pa_cons (pe_op op_add (pe_op op_mulA (pv 1) pe_int) pe_int) pa_nil))))))), ?_⟩
  walk_at "sx"
  refine i_d (fun hlt => ?_) (fun hge => ?_)
  · rw [List.length_map] at hlt
    walk_at "sx"
    refine x_ixL (Wd.ex wd |>.sl hS) (atI_ints (by omega)) ?_
    walk_at "sx"
    refine i_d (fun _ => ?_) (fun _ => ?_)
    all_goals
      walk_at "sx"
      refine x_klM wd rfl fun p H' wd' => ?_
      exact k _ _ _ _ _ wd'
  · walk_at "sx"
    refine i_d (fun _ => ?_) (fun _ => ?_)
    all_goals
      walk_at "sx"
      refine x_klM wd rfl fun p H' wd' => ?_
      exact k _ _ _ _ _ wd'
theorem ok_take {f : Addr} {fd : FuncData} (F : Fun K "_law_take" "_law_take" s_take f fd) (T : Txt K mg Z) : FnOk P w K mg base CX0 1 f fd ["_law_bag_here", "_law_many"] (sp_take K Z) := by
  refine F.ok sc_take (fun vs H Q E h => h.1) (fun cdv A outer s H vs Q E hr h => ?_)
  obtain ⟨_, B, M, j, b, d, c, n, m, rfl, wd, hj, hm, hm9, k⟩ := h
  have wd := wd.pull hj
  refine ⟨_, (pss_cons (ps_if (pt_cmpR op_gt (pe_ix ix_list (pv 0) pe_int (fun _ _ => rfl)) pe_int (nomark _))
      (pss_cons (ps_set (i := 2) sc_take.nd rfl (Or.inl rfl) (pe_op op_mod (pe_callTy c_int (by rfl) T.g_int (by decide +kernel) (pa_cons (pe_ix ix_list (pv 0) pe_int (fun _ _ => rfl)) pa_nil)) (pv 1)))
      (pss_cons (ps_asg (pe_op op_fdivW (pe_ix ix_list (pv 0) pe_int (fun _ _ => rfl)) (pv 1)) (pg_sub (pv 0) pe_int set_list))
      (pss_one (ps_ret (pv 2)))))
      pss_nil)
      (pss_cons (ps_asg (pe_op op_add (pe_ix ix_list (pv 0) pe_int (fun _ _ => rfl)) pe_int) (pg_sub (pv 0) pe_int set_list))
      (pss_cons (ps_set (i := 3) sc_take.nd rfl (Or.inl rfl) (pe_op op_mod (pe_callTy c_int (by rfl) T.g_int (by decide +kernel) (pa_cons (pe_op op_add (pe_op op_add (pe_op op_mulA (pe_ix ix_list (pv 0) pe_int (fun _ _ => rfl)) pe_int) (pe_op op_mulA (pe_ix ix_list (pv 0) pe_int (fun _ _ => rfl)) pe_int)) pe_int) pa_nil)) pe_int))
      (pss_cons (ps_set (i := 3) sc_take.nd rfl (Or.inl rfl) (pe_op op_mod (pe_callTy c_int (by rfl) T.g_int (by decide +kernel) (pa_cons (pe_op op_add (pe_op op_mulA (pv 3) (pv 3)) (pe_op op_mulA (pe_ix ix_list (pv 0) pe_int (fun _ _ => rfl)) pe_int)) pa_nil)) pe_int))
      (pss_cons (ps_set (i := 3) sc_take.nd rfl (Or.inl rfl) (pe_op op_mod (pe_callTy c_int (by rfl) T.g_int (by decide +kernel) (pa_cons (pe_op op_add (pe_op op_mulA (pv 3) pe_int) (pe_ix ix_list (pv 0) pe_int (fun _ _ => rfl))) pa_nil)) pe_int))
      (pss_one (ps_ret (pe_op op_mod (pe_callTy c_int (by rfl) T.g_int (by decide +kernel) (pa_cons (pe_op op_fdivW (pv 3) pe_int) pa_nil)) (pv 1))))))))), ?_⟩
  walk_at "sx"
  refine i_d (fun hpos => ?_) (fun hneg => ?_)
  · walk_at "sx"
    refine k _ _ _ _ (Int.emod_nonneg _ (by omega)) (Int.emod_lt_of_pos _ hm) (Wd.push (by assumption) hj)
  · walk_at "sx"
    refine k _ _ _ _ (Int.emod_nonneg _ (by omega)) (Int.emod_lt_of_pos _ hm) (Wd.push (by assumption) hj)

abbrev s_number : Stmt := top 7
theorem sc_number : FnScope ["_law_bag_here", "_law_size", "_law_number_here"] ["_law_bag_here"] (defScope s_number) := ⟨rfl, rfl, rfl, by decide +kernel, rfl, by decide +kernel, by decide +kernel⟩
abbrev s_is_number : Stmt := top 8
theorem sc_is_number : FnScope ["_law_thing", "_law_due"] ["_law_thing", "_law_due"] (defScope s_is_number) := ⟨rfl, rfl, rfl, by decide +kernel, rfl, by decide +kernel, by decide +kernel⟩
theorem ok_number {f : Addr} {fd : FuncData} (F : Fun K "_law_number" "_law_number" s_number f fd) (T : Txt K mg Z) (D_take : Dn CX0 P w K mg base "_law_take" 1 ["_law_bag_here", "_law_many"] (sp_take K Z)) : FnOk P w K mg base CX0 2 f fd ["_law_bag_here"] (sp_number K Z) := by
  refine F.ok sc_number (fun vs H Q E h => h.1) (fun cdv A outer s H vs Q E hr h => ?_)
  obtain ⟨_, B, M, k0, b, d, c, n, rfl, wd, hj, k⟩ := h
  have wd := wd.pull hj
  refine ⟨_, (pss_cons (ps_set (i := 1) sc_number.nd rfl (Or.inl rfl) (pe_ix ix_list (pe_lst (pa_cons pe_int (pa_cons pe_int (pa_cons (pe_op op_pow pe_int pe_int) (pa_cons (pe_op op_pow pe_int pe_int) pa_nil))))) (pe_dn D_take hr (by decide) rfl pass0 (pa_cons (pv 0) (pa_cons pe_int pa_nil))) (fun _ _ => rfl)))
      (pss_cons (ps_set (i := 2) sc_number.nd rfl (Or.inl rfl) (pe_dn D_take hr (by decide) rfl pass0 (pa_cons (pv 0) (pa_cons (pv 1) pa_nil))))
      (pss_one (ps_ret (pe_ifExp (pt_cmpR op_eq (pe_dn D_take hr (by decide) rfl pass0 (pa_cons (pv 0) (pa_cons pe_int pa_nil))) pe_int (nomark _)) (pv 2) (pe_un un_neg (pv 2))))))), ?_⟩
  walk_at "sx"
  refine x_kl wd rfl fun p B1 H1 e1 hp wd => ?_
  walk_at "sx"
  refine u_take0 wd (by decide) (by decide +kernel) fun r d1 n1 H2 h0 h1 wd => ?_
  obtain ⟨m, hm, hm2, hm9, ha⟩ : ∃ m : Int, 0 < m ∧ m ≤ 10 ^ 30 ∧ m.natAbs.log2 < 9000 ∧ atI [V.int 4, V.int 100, V.int (10 ^ (9 : Int).toNat), V.int (10 ^ (30 : Int).toNat)] r = some (.int m) := by
    obtain rfl | rfl | rfl | rfl : r = 0 ∨ r = 1 ∨ r = 2 ∨ r = 3 := by omega
    · exact ⟨4, by decide, by decide, by decide +kernel, rfl⟩
    · exact ⟨100, by decide, by decide, by decide +kernel, rfl⟩
    · exact ⟨10 ^ (9 : Int).toNat, by decide, by decide, by decide +kernel, rfl⟩
    · exact ⟨10 ^ (30 : Int).toNat, by decide, by decide, by decide +kernel, rfl⟩
  refine x_ixL (sl_of (wd.im hp)) ha ?_
  walk_at "sx"
  refine u_take0 wd hm hm9 fun z d2 n2 H3 hz0 hz1 wd => ?_
  walk_at "sx"
  refine u_take0 wd (by decide) (by decide +kernel) fun z2 d3 n3 H4 _ _ wd => ?_
  walk_at "sx"
  refine i_d (fun _ => ?_) (fun _ => ?_)
  · walk_at "sx"
    exact k _ _ _ _ (by omega) ((wd.less e1).push hj)
  · walk_at "sx"
    exact k _ _ _ _ (by omega) ((wd.less e1).push hj)
theorem ok_is_number {f : Addr} {fd : FuncData} (F : Fun K "_law_is_number" "_law_is_number" s_is_number f fd) (T : Txt K mg Z) : FnOk P w K mg base CX0 1 f fd ["_law_thing", "_law_due"] (sp_is_number K Z) := by
  refine F.ok sc_is_number (fun vs H Q E h => h.1) (fun cdv A outer s H vs Q E hr h => ?_)
  obtain ⟨_, B, M, i, j, rfl, wd, k⟩ := h
  refine ⟨_, (pss_one (ps_ret (pe_and (pe_callB call_isi (by rfl) T.g_isinstance (by decide +kernel) (pa_cons (pv 0) (pa_cons (pe_tyn (n := "int") rfl T.g_int (by decide +kernel)) pa_nil))) (pe_and (pe_not (pe_callB call_isi (by rfl) T.g_isinstance (by decide +kernel) (pa_cons (pv 0) (pa_cons (pe_tyn (n := "bool") rfl T.g_bool (by decide +kernel)) pa_nil)))) (pe_one (pe_cmpR op_eq (pv 0) (pv 1) (nomark _))))))), ?_⟩
  walk_at "sx"
  exact k _ wd

/-! ### spans -/
abbrev spanF (n : Int) : List (Str × V) := [("ticks", .int n)]
/-- a span of n ticks -/
def SpanAt (Z : Ad) (B : Hp) (x : Addr) (n : Int) : Prop := ∃ dx, B x = some (.ins Z.Span dx (spanF n))
def sp_Span_init (K : PySem.W.Frag) (Z : Ad) : Sp := fun vs H Q _ => vs.length = 2 ∧ ∃ (x dx : Addr) (n : Int), vs = [.ref x, .int n] ∧ H x = some (.ins Z.Span dx []) ∧ Q .non (upd H x (.ins Z.Span dx (spanF n)))
theorem u_span {K : PySem.W.Frag} {Z : Ad} {B H : Hp} {M : List (Addr × HO)} {n : Int} {Q : VK} {E : XK} (w : Wd B M H) (h : ∀ (x : Addr) (B' H' : Hp), Ex B B' → SpanAt Z B' x n → Wd B' M H' → Q (.ref x) H') :
    MkI Z.Span (sp_Span_init K Z) E [.int n] H Q := by
  intro x dx nx ndx ne
  refine ⟨rfl, x, dx, n, rfl, upd_same, rfl, ?_⟩
  rw [upd_upd]
  have w1 := w.alloc ndx (.own x)
  have nx1 : upd H dx (.own x) x = none := by rw [upd_ne (fun e => ne e.symm)]; exact nx
  refine h x _ _ ?_ ⟨dx, upd_same⟩ (w1.alloc nx1 _)
  exact (Ex.new (w.free ndx)).tr (Ex.new (w1.free nx1))
def sp_Span_bin (f : Int → Int → Int) (K : PySem.W.Frag) (Z : Ad) : Sp := fun vs H Q _ => vs.length = 2 ∧ ∃ (B : Hp) (M : List (Addr × HO)) (x y : Addr) (i j : Int), vs = [.ref x, .ref y] ∧ Wd B M H ∧ SpanAt Z B x i ∧ SpanAt Z B y j ∧
  ∀ (z : Addr) (B' H' : Hp), Ex B B' → SpanAt Z B' z (f i j) → Wd B' M H' → Q (.ref z) H'
def sp_Span_un (f : Int → Int) (K : PySem.W.Frag) (Z : Ad) : Sp := fun vs H Q _ => vs.length = 1 ∧ ∃ (B : Hp) (M : List (Addr × HO)) (x : Addr) (i : Int), vs = [.ref x] ∧ Wd B M H ∧ SpanAt Z B x i ∧
  ∀ (z : Addr) (B' H' : Hp), Ex B B' → SpanAt Z B' z (f i) → Wd B' M H' → Q (.ref z) H'
abbrev sp_Span_add := sp_Span_bin fun i j => i + j
abbrev sp_Span_sub := sp_Span_bin fun i j => i - j
abbrev sp_Span_neg := sp_Span_un fun i => -i
abbrev sp_Span_abs := sp_Span_un fun i => if i < 0 then -i else i
theorem SpanAt.up {Z : Ad} {B B' : Hp} {x : Addr} {n : Int} (h : SpanAt Z B x n) (e : Ex B B') : SpanAt Z B' x n := let ⟨d, q⟩ := h; ⟨d, e _ _ q⟩
theorem u_spanBin {f : Int → Int → Int} {K : PySem.W.Frag} {Z : Ad} {B H : Hp} {M : List (Addr × HO)} {x y : Addr} {i j : Int} {Q : VK} {E : XK} (w : Wd B M H) (hx : SpanAt Z B x i) (hy : SpanAt Z B y j)
    (h : ∀ (z : Addr) (B' H' : Hp), Ex B B' → SpanAt Z B' z (f i j) → Wd B' M H' → Q (.ref z) H') : rOwn Z.Span (sp_Span_bin f K Z) E (.ref x) (.ref y) H Q := by
  obtain ⟨dx, qx⟩ := id hx
  obtain ⟨dy, qy⟩ := id hy
  exact x_own2 (w.im qx) (w.im qy) ⟨rfl, B, M, x, y, i, j, rfl, w, hx, hy, h⟩
theorem u_spanUn {f : Int → Int} {K : PySem.W.Frag} {Z : Ad} {B H : Hp} {M : List (Addr × HO)} {x : Addr} {i : Int} {Q : VK} {E : XK} (w : Wd B M H) (hx : SpanAt Z B x i)
    (h : ∀ (z : Addr) (B' H' : Hp), Ex B B' → SpanAt Z B' z (f i) → Wd B' M H' → Q (.ref z) H') : rOwn1 Z.Span (sp_Span_un f K Z) E (.ref x) H Q := by
  obtain ⟨dx, qx⟩ := id hx
  exact x_own1 (w.im qx) ⟨rfl, B, M, x, i, rfl, w, hx, h⟩
theorem u_spanUnC {f : Int → Int} {K : PySem.W.Frag} {Z : Ad} {B H : Hp} {M : List (Addr × HO)} {x : Addr} {i : Int} {Q : VK} {E : XK} (w : Wd B M H) (hx : SpanAt Z B x i)
    (h : ∀ (z : Addr) (B' H' : Hp), Ex B B' → SpanAt Z B' z (f i) → Wd B' M H' → Q (.ref z) H') : rOwnC Z.Span (sp_Span_un f K Z) E [.ref x] H Q := by
  obtain ⟨dx, qx⟩ := id hx
  exact x_ownC (w.im qx) ⟨rfl, B, M, x, i, rfl, w, hx, h⟩
def sp_is_span (K : PySem.W.Frag) (Z : Ad) : Sp := fun vs H Q _ => vs.length = 2 ∧ ∃ (B : Hp) (M : List (Addr × HO)) (x : Addr) (i j : Int), vs = [.ref x, .int j] ∧ Wd B M H ∧ SpanAt Z B x i ∧ ∀ H', Wd B M H' → Q (.bl (decide (i = j))) H'
theorem u_is_span {K : PySem.W.Frag} {Z : Ad} {B H : Hp} {M : List (Addr × HO)} {x : Addr} {i j : Int} {Q : VK} {E : XK} (w : Wd B M H) (hx : SpanAt Z B x i) (h : ∀ H', Wd B M H' → Q (.bl (decide (i = j))) H') : sp_is_span K Z [.ref x, .int j] H Q E :=
  ⟨rfl, B, M, x, i, j, rfl, w, hx, h⟩
local macro_rules | `(tactic| walk_at "sp") => `(tactic| first
  | assumption
  | (refine' My.SpanAt.up ?hh (by assumption); (case hh => walk_at "sp")))
local macro_rules | `(tactic| walk_at "s1") => `(tactic| first
  | ((with_reducible refine' My.u_span ?w ?_); (case w => assumption); intro x' B' H' hEx hSp hWd)
  | ((with_reducible refine' My.u_spanBin ?w ?hx ?hy ?_); (case w => assumption); (case hx => walk_at "sp"); (case hy => walk_at "sp"); intro x' B' H' hEx hSp hWd)
  | ((with_reducible refine' My.u_spanUn ?w ?hx ?_); (case w => assumption); (case hx => walk_at "sp"); intro x' B' H' hEx hSp hWd)
  | ((with_reducible refine' My.u_spanUnC ?w ?hx ?_); (case w => assumption); (case hx => walk_at "sp"); intro x' B' H' hEx hSp hWd)
  | ((with_reducible refine' My.u_is_span ?w ?hx ?_); (case w => assumption); (case hx => walk_at "sp"); intro H' hWd))

abbrev s_Span_init : Stmt := inClass (top 2) 0
theorem sc_Span_init : FnScope ["self", "ticks"] ["self", "ticks"] (defScope s_Span_init) := ⟨rfl, rfl, rfl, by decide +kernel, rfl, by decide +kernel, by decide +kernel⟩
theorem ok_Span_init {f : Addr} {fd : FuncData} (F : Fun K "__init__" "Span.__init__" s_Span_init f fd) (T : Txt K mg Z) : FnOk P w K mg base CX0 1 f fd ["self", "ticks"] (sp_Span_init K Z) := by
  refine F.ok sc_Span_init (fun vs H Q E h => h.1) (fun cdv A outer s H vs Q E hr h => ?_)
  obtain ⟨_, x, dx, n, rfl, hx, k⟩ := h
  refine ⟨_, (pss_one (ps_fld (pv 0) (pv 1) rfl)), ?_⟩
  walk_at "sx"
  exact k

abbrev s_Span_neg : Stmt := inClass (top 2) 10
theorem sc_Span_neg : FnScope ["self"] ["self"] (defScope s_Span_neg) := ⟨rfl, rfl, rfl, by decide +kernel, rfl, by decide +kernel, by decide +kernel⟩
theorem ok_Span_neg {f : Addr} {fd : FuncData} (F : Fun K "__neg__" "Span.__neg__" s_Span_neg f fd) (T : Txt K mg Z) (M_Span_init : Mt CX0 P w K mg base Z.Span "__init__" 1 ["self", "ticks"] (sp_Span_init K Z)) : FnOk P w K mg base CX0 3 f fd ["self"] (sp_Span_neg K Z) := by
  refine F.ok sc_Span_neg (fun vs H Q E h => h.1) (fun cdv A outer s H vs Q E hr h => ?_)
  obtain ⟨_, B, M, x, i, rfl, wd, ⟨dx, hx⟩, k⟩ := h
  refine ⟨_, (pss_one (ps_ret (pe_kl T.c_Span M_Span_init hr (by decide) rfl pass0 (pa_cons (pe_un un_neg (pe_fld (pv 0) rfl)) pa_nil)))), ?_⟩
  walk_at "sx"
  exact k _ _ _ (by assumption) (by assumption) (by assumption)

abbrev s_Span_abs : Stmt := inClass (top 2) 11
theorem sc_Span_abs : FnScope ["self"] ["self"] (defScope s_Span_abs) := ⟨rfl, rfl, rfl, by decide +kernel, rfl, by decide +kernel, by decide +kernel⟩
theorem ok_Span_abs {f : Addr} {fd : FuncData} (F : Fun K "__abs__" "Span.__abs__" s_Span_abs f fd) (T : Txt K mg Z) (M_Span_init : Mt CX0 P w K mg base Z.Span "__init__" 1 ["self", "ticks"] (sp_Span_init K Z)) : FnOk P w K mg base CX0 3 f fd ["self"] (sp_Span_abs K Z) := by
  refine F.ok sc_Span_abs (fun vs H Q E h => h.1) (fun cdv A outer s H vs Q E hr h => ?_)
  obtain ⟨_, B, M, x, i, rfl, wd, ⟨dx, hx⟩, k⟩ := h
  refine ⟨_, (pss_one (ps_ret (pe_kl T.c_Span M_Span_init hr (by decide) rfl pass0 (pa_cons (pe_callB c_abs (by rfl) T.g_abs (by decide +kernel) (pa_cons (pe_fld (pv 0) rfl) pa_nil)) pa_nil)))), ?_⟩
  walk_at "sx"
  exact k _ _ _ (by assumption) (by assumption) (by assumption)

abbrev s_Span_add : Stmt := inClass (top 2) 12
theorem sc_Span_add : FnScope ["self", "other"] ["self", "other"] (defScope s_Span_add) := ⟨rfl, rfl, rfl, by decide +kernel, rfl, by decide +kernel, by decide +kernel⟩
theorem ok_Span_add {f : Addr} {fd : FuncData} (F : Fun K "__add__" "Span.__add__" s_Span_add f fd) (T : Txt K mg Z) (M_Span_init : Mt CX0 P w K mg base Z.Span "__init__" 1 ["self", "ticks"] (sp_Span_init K Z)) : FnOk P w K mg base CX0 3 f fd ["self", "other"] (sp_Span_add K Z) := by
  refine F.ok sc_Span_add (fun vs H Q E h => h.1) (fun cdv A outer s H vs Q E hr h => ?_)
  obtain ⟨_, B, M, x, y, i, j, rfl, wd, ⟨dx, hx⟩, ⟨dy, hy⟩, k⟩ := h
  refine ⟨_, (pss_cons (ps_if (pt_not (pt_val (pe_callB call_isi (by rfl) T.g_isinstance (by decide +kernel) (pa_cons (pv 1) (pa_cons (pe_kn T.c_Span rfl) pa_nil)))))
      (pss_one ps_never)
      pss_nil)
      (pss_one (ps_ret (pe_kl T.c_Span M_Span_init hr (by decide) rfl pass0 (pa_cons (pe_op op_add (pe_fld (pv 0) rfl) (pe_fld (pv 1) rfl)) pa_nil))))), ?_⟩
  walk_at "sx"
  exact k _ _ _ (by assumption) (by assumption) (by assumption)

abbrev s_Span_sub : Stmt := inClass (top 2) 13
theorem sc_Span_sub : FnScope ["self", "other"] ["self", "other"] (defScope s_Span_sub) := ⟨rfl, rfl, rfl, by decide +kernel, rfl, by decide +kernel, by decide +kernel⟩
theorem ok_Span_sub {f : Addr} {fd : FuncData} (F : Fun K "__sub__" "Span.__sub__" s_Span_sub f fd) (T : Txt K mg Z) (M_Span_init : Mt CX0 P w K mg base Z.Span "__init__" 1 ["self", "ticks"] (sp_Span_init K Z)) : FnOk P w K mg base CX0 3 f fd ["self", "other"] (sp_Span_sub K Z) := by
  refine F.ok sc_Span_sub (fun vs H Q E h => h.1) (fun cdv A outer s H vs Q E hr h => ?_)
  obtain ⟨_, B, M, x, y, i, j, rfl, wd, ⟨dx, hx⟩, ⟨dy, hy⟩, k⟩ := h
  refine ⟨_, (pss_cons (ps_if (pt_not (pt_val (pe_callB call_isi (by rfl) T.g_isinstance (by decide +kernel) (pa_cons (pv 1) (pa_cons (pe_kn T.c_Span rfl) pa_nil)))))
      (pss_one ps_never)
      pss_nil)
      (pss_one (ps_ret (pe_kl T.c_Span M_Span_init hr (by decide) rfl pass0 (pa_cons (pe_op op_sub (pe_fld (pv 0) rfl) (pe_fld (pv 1) rfl)) pa_nil))))), ?_⟩
  walk_at "sx"
  exact k _ _ _ (by assumption) (by assumption) (by assumption)

abbrev s_is_whole : Stmt := top 1
theorem sc_is_whole : FnScope ["thing"] ["thing"] (defScope s_is_whole) := ⟨rfl, rfl, rfl, by decide +kernel, rfl, by decide +kernel, by decide +kernel⟩
abbrev s_Span_mul : Stmt := inClass (top 2) 14
theorem sc_Span_mul : FnScope ["self", "other"] ["self", "other"] (defScope s_Span_mul) := ⟨rfl, rfl, rfl, by decide +kernel, rfl, by decide +kernel, by decide +kernel⟩
abbrev s_Span_rmul : Stmt := inClass (top 2) 15
theorem sc_Span_rmul : FnScope ["self", "other"] ["self", "other"] (defScope s_Span_rmul) := ⟨rfl, rfl, rfl, by decide +kernel, rfl, by decide +kernel, by decide +kernel⟩
def sp_is_whole (K : PySem.W.Frag) (Z : Ad) : Sp := fun vs H Q _ => vs.length = 1 ∧ ∃ n : Int, vs = [.int n] ∧ Q (.bl true) H
theorem u_is_whole {K : PySem.W.Frag} {Z : Ad} {H : Hp} {n : Int} {Q : VK} {E : XK} (h : Q (.bl true) H) : sp_is_whole K Z [.int n] H Q E := ⟨rfl, n, rfl, h⟩
local macro_rules | `(tactic| walk_at "s1") => `(tactic| with_reducible refine My.u_is_whole ?_)
theorem ok_is_whole {f : Addr} {fd : FuncData} (F : Fun K "is_whole" "is_whole" s_is_whole f fd) (T : Txt K mg Z) : FnOk P w K mg base CX0 1 f fd ["thing"] (sp_is_whole K Z) := by
  refine F.ok sc_is_whole (fun vs H Q E h => h.1) (fun cdv A outer s H vs Q E hr h => ?_)
  obtain ⟨_, n, rfl, k⟩ := h
  refine ⟨_, (pss_one (ps_ret (pe_and (pe_callB call_isi (by rfl) T.g_isinstance (by decide +kernel) (pa_cons (pv 0) (pa_cons (pe_tyn (n := "int") rfl T.g_int (by decide +kernel)) pa_nil))) (pe_one (pe_not (pe_callB call_isi (by rfl) T.g_isinstance (by decide +kernel) (pa_cons (pv 0) (pa_cons (pe_tyn (n := "bool") rfl T.g_bool (by decide +kernel)) pa_nil)))))))), ?_⟩
  walk_at "sx"
  exact k
def sp_Span_mul (K : PySem.W.Frag) (Z : Ad) : Sp := fun vs H Q _ => vs.length = 2 ∧ ∃ (B : Hp) (M : List (Addr × HO)) (x : Addr) (i n : Int), vs = [.ref x, .int n] ∧ Wd B M H ∧ SpanAt Z B x i ∧ IntMulOk i n ∧
  ∀ (z : Addr) (B' H' : Hp), Ex B B' → SpanAt Z B' z (i * n) → Wd B' M H' → Q (.ref z) H'
def sp_Span_rmul (K : PySem.W.Frag) (Z : Ad) : Sp := fun vs H Q _ => vs.length = 2 ∧ ∃ (B : Hp) (M : List (Addr × HO)) (x : Addr) (i n : Int), vs = [.ref x, .int n] ∧ Wd B M H ∧ SpanAt Z B x i ∧ IntMulOk n i ∧
  ∀ (z : Addr) (B' H' : Hp), Ex B B' → SpanAt Z B' z (n * i) → Wd B' M H' → Q (.ref z) H'
theorem u_spanMul {K : PySem.W.Frag} {Z : Ad} {B H : Hp} {M : List (Addr × HO)} {x : Addr} {i n : Int} {Q : VK} {E : XK} (w : Wd B M H) (hx : SpanAt Z B x i) (hm : IntMulOk i n)
    (h : ∀ (z : Addr) (B' H' : Hp), Ex B B' → SpanAt Z B' z (i * n) → Wd B' M H' → Q (.ref z) H') : rOwnI Z.Span (sp_Span_mul K Z) E (.ref x) (.int n) H Q := by
  obtain ⟨dx, qx⟩ := id hx
  exact ⟨x, dx, _, n, rfl, rfl, w.im qx, rfl, B, M, x, i, n, rfl, w, hx, hm, h⟩
theorem u_spanRmul {K : PySem.W.Frag} {Z : Ad} {B H : Hp} {M : List (Addr × HO)} {x : Addr} {i n : Int} {Q : VK} {E : XK} (w : Wd B M H) (hx : SpanAt Z B x i) (hm : IntMulOk n i)
    (h : ∀ (z : Addr) (B' H' : Hp), Ex B B' → SpanAt Z B' z (n * i) → Wd B' M H' → Q (.ref z) H') : rOwnR Z.Span (sp_Span_rmul K Z) E (.int n) (.ref x) H Q := by
  obtain ⟨dx, qx⟩ := id hx
  exact ⟨x, dx, _, n, rfl, rfl, w.im qx, rfl, B, M, x, i, n, rfl, w, hx, hm, h⟩
local macro_rules | `(tactic| walk_at "s1") => `(tactic| first
  | ((with_reducible refine' My.u_spanMul ?w ?hx ?hm ?_); (case w => assumption); (case hx => walk_at "sp"); (case hm => walk_at "mul"); intro x' B' H' hEx hSp hWd)
  | ((with_reducible refine' My.u_spanRmul ?w ?hx ?hm ?_); (case w => assumption); (case hx => walk_at "sp"); (case hm => walk_at "mul"); intro x' B' H' hEx hSp hWd))
theorem ok_Span_mul {f : Addr} {fd : FuncData} (F : Fun K "__mul__" "Span.__mul__" s_Span_mul f fd) (T : Txt K mg Z) (D_is_whole : Dn CX0 P w K mg base "is_whole" 1 ["thing"] (sp_is_whole K Z)) (M_Span_init : Mt CX0 P w K mg base Z.Span "__init__" 1 ["self", "ticks"] (sp_Span_init K Z)) : FnOk P w K mg base CX0 3 f fd ["self", "other"] (sp_Span_mul K Z) := by
  refine F.ok sc_Span_mul (fun vs H Q E h => h.1) (fun cdv A outer s H vs Q E hr h => ?_)
  obtain ⟨_, B, M, x, i, n, rfl, wd, ⟨dx, hx⟩, hm, k⟩ := h
  refine ⟨_, (pss_cons (ps_if (pt_not (pt_val (pe_dn D_is_whole hr (by decide) rfl pass0 (pa_cons (pv 1) pa_nil))))
      (pss_one ps_never)
      pss_nil)
      (pss_one (ps_ret (pe_kl T.c_Span M_Span_init hr (by decide) rfl pass0 (pa_cons (pe_op op_mulA (pe_fld (pv 0) rfl) (pv 1)) pa_nil))))), ?_⟩
  walk_at "sx"
  exact k _ _ _ (by assumption) (by assumption) (by assumption)
theorem ok_Span_rmul {f : Addr} {fd : FuncData} (F : Fun K "__rmul__" "Span.__rmul__" s_Span_rmul f fd) (T : Txt K mg Z) (D_is_whole : Dn CX0 P w K mg base "is_whole" 1 ["thing"] (sp_is_whole K Z)) (M_Span_init : Mt CX0 P w K mg base Z.Span "__init__" 1 ["self", "ticks"] (sp_Span_init K Z)) : FnOk P w K mg base CX0 3 f fd ["self", "other"] (sp_Span_rmul K Z) := by
  refine F.ok sc_Span_rmul (fun vs H Q E h => h.1) (fun cdv A outer s H vs Q E hr h => ?_)
  obtain ⟨_, B, M, x, i, n, rfl, wd, ⟨dx, hx⟩, hm, k⟩ := h
  refine ⟨_, (pss_cons (ps_if (pt_not (pt_val (pe_dn D_is_whole hr (by decide) rfl pass0 (pa_cons (pv 1) pa_nil))))
      (pss_one ps_never)
      pss_nil)
      (pss_one (ps_ret (pe_kl T.c_Span M_Span_init hr (by decide) rfl pass0 (pa_cons (pe_op op_mulA (pv 1) (pe_fld (pv 0) rfl)) pa_nil))))), ?_⟩
  walk_at "sx"
  exact k _ _ _ (by assumption) (by assumption) (by assumption)

abbrev s_Span_floordiv : Stmt := inClass (top 2) 16
theorem sc_Span_floordiv : FnScope ["self", "other"] ["self", "other"] (defScope s_Span_floordiv) := ⟨rfl, rfl, rfl, by decide +kernel, rfl, by decide +kernel, by decide +kernel⟩
abbrev s_Span_mod : Stmt := inClass (top 2) 17
theorem sc_Span_mod : FnScope ["self", "other"] ["self", "other"] (defScope s_Span_mod) := ⟨rfl, rfl, rfl, by decide +kernel, rfl, by decide +kernel, by decide +kernel⟩
def sp_Span_floordiv (K : PySem.W.Frag) (Z : Ad) : Sp := fun vs H Q _ => vs.length = 2 ∧ ∃ (B : Hp) (M : List (Addr × HO)) (x y : Addr) (i j : Int), vs = [.ref x, .ref y] ∧ Wd B M H ∧ SpanAt Z B x i ∧ SpanAt Z B y j ∧ (j ≠ 0 ∧ j.natAbs.log2 < 9000) ∧ Q (.int (i.fdiv j)) H
def sp_Span_mod (K : PySem.W.Frag) (Z : Ad) : Sp := fun vs H Q _ => vs.length = 2 ∧ ∃ (B : Hp) (M : List (Addr × HO)) (x y : Addr) (i j : Int), vs = [.ref x, .ref y] ∧ Wd B M H ∧ SpanAt Z B x i ∧ SpanAt Z B y j ∧ j ≠ 0 ∧
  ∀ (z : Addr) (B' H' : Hp), Ex B B' → SpanAt Z B' z (i.fmod j) → Wd B' M H' → Q (.ref z) H'
theorem u_spanFd {K : PySem.W.Frag} {Z : Ad} {B H : Hp} {M : List (Addr × HO)} {x y : Addr} {i j : Int} {Q : VK} {E : XK} (w : Wd B M H) (hx : SpanAt Z B x i) (hy : SpanAt Z B y j) (hj : j ≠ 0 ∧ j.natAbs.log2 < 9000)
    (h : Q (.int (i.fdiv j)) H) : rOwn Z.Span (sp_Span_floordiv K Z) E (.ref x) (.ref y) H Q := by
  obtain ⟨dx, qx⟩ := id hx
  obtain ⟨dy, qy⟩ := id hy
  exact x_own2 (w.im qx) (w.im qy) ⟨rfl, B, M, x, y, i, j, rfl, w, hx, hy, hj, h⟩
theorem u_spanMod {K : PySem.W.Frag} {Z : Ad} {B H : Hp} {M : List (Addr × HO)} {x y : Addr} {i j : Int} {Q : VK} {E : XK} (w : Wd B M H) (hx : SpanAt Z B x i) (hy : SpanAt Z B y j) (hj : j ≠ 0)
    (h : ∀ (z : Addr) (B' H' : Hp), Ex B B' → SpanAt Z B' z (i.fmod j) → Wd B' M H' → Q (.ref z) H') : rOwn Z.Span (sp_Span_mod K Z) E (.ref x) (.ref y) H Q := by
  obtain ⟨dx, qx⟩ := id hx
  obtain ⟨dy, qy⟩ := id hy
  exact x_own2 (w.im qx) (w.im qy) ⟨rfl, B, M, x, y, i, j, rfl, w, hx, hy, hj, h⟩
local macro_rules | `(tactic| walk_at "s1") => `(tactic| first
  | ((with_reducible refine' My.u_spanFd ?w ?hx ?hy ?hj ?_); (case w => assumption); (case hx => walk_at "sp"); (case hy => walk_at "sp"); (case hj => first | assumption | exact ⟨by assumption, by assumption⟩))
  | ((with_reducible refine' My.u_spanMod ?w ?hx ?hy ?hj ?_); (case w => assumption); (case hx => walk_at "sp"); (case hy => walk_at "sp"); (case hj => assumption); intro x' B' H' hEx hSp hWd))
theorem ok_Span_floordiv {f : Addr} {fd : FuncData} (F : Fun K "__floordiv__" "Span.__floordiv__" s_Span_floordiv f fd) (T : Txt K mg Z) : FnOk P w K mg base CX0 1 f fd ["self", "other"] (sp_Span_floordiv K Z) := by
  refine F.ok sc_Span_floordiv (fun vs H Q E h => h.1) (fun cdv A outer s H vs Q E hr h => ?_)
  obtain ⟨_, B, M, x, y, i, j, rfl, wd, ⟨dx, hx⟩, ⟨dy, hy⟩, ⟨hj, hj9⟩, k⟩ := h
  refine ⟨_, (pss_cons (ps_if (pt_not (pt_val (pe_callB call_isi (by rfl) T.g_isinstance (by decide +kernel) (pa_cons (pv 1) (pa_cons (pe_kn T.c_Span rfl) pa_nil)))))
      (pss_one ps_never)
      pss_nil)
      (pss_one (ps_ret (pe_op op_fdivZ (pe_fld (pv 0) rfl) (pe_fld (pv 1) rfl))))), ?_⟩
  walk_at "sx"
  exact k
theorem ok_Span_mod {f : Addr} {fd : FuncData} (F : Fun K "__mod__" "Span.__mod__" s_Span_mod f fd) (T : Txt K mg Z) (M_Span_init : Mt CX0 P w K mg base Z.Span "__init__" 1 ["self", "ticks"] (sp_Span_init K Z)) : FnOk P w K mg base CX0 3 f fd ["self", "other"] (sp_Span_mod K Z) := by
  refine F.ok sc_Span_mod (fun vs H Q E h => h.1) (fun cdv A outer s H vs Q E hr h => ?_)
  obtain ⟨_, B, M, x, y, i, j, rfl, wd, ⟨dx, hx⟩, ⟨dy, hy⟩, hj, k⟩ := h
  refine ⟨_, (pss_cons (ps_if (pt_not (pt_val (pe_callB call_isi (by rfl) T.g_isinstance (by decide +kernel) (pa_cons (pv 1) (pa_cons (pe_kn T.c_Span rfl) pa_nil)))))
      (pss_one ps_never)
      pss_nil)
      (pss_one (ps_ret (pe_kl T.c_Span M_Span_init hr (by decide) rfl pass0 (pa_cons (pe_op op_modN (pe_fld (pv 0) rfl) (pe_fld (pv 1) rfl)) pa_nil))))), ?_⟩
  walk_at "sx"
  exact k _ _ _ (by assumption) (by assumption) (by assumption)

abbrev s_Span_eq : Stmt := inClass (top 2) 4
theorem sc_Span_eq : FnScope ["self", "other"] ["self", "other"] (defScope s_Span_eq) := ⟨rfl, rfl, rfl, by decide +kernel, rfl, by decide +kernel, by decide +kernel⟩
abbrev s_Span_ne : Stmt := inClass (top 2) 5
theorem sc_Span_ne : FnScope ["self", "other"] ["self", "other"] (defScope s_Span_ne) := ⟨rfl, rfl, rfl, by decide +kernel, rfl, by decide +kernel, by decide +kernel⟩
abbrev s_Span_lt : Stmt := inClass (top 2) 6
theorem sc_Span_lt : FnScope ["self", "other"] ["self", "other"] (defScope s_Span_lt) := ⟨rfl, rfl, rfl, by decide +kernel, rfl, by decide +kernel, by decide +kernel⟩
abbrev s_Span_le : Stmt := inClass (top 2) 7
theorem sc_Span_le : FnScope ["self", "other"] ["self", "other"] (defScope s_Span_le) := ⟨rfl, rfl, rfl, by decide +kernel, rfl, by decide +kernel, by decide +kernel⟩
abbrev s_Span_gt : Stmt := inClass (top 2) 8
theorem sc_Span_gt : FnScope ["self", "other"] ["self", "other"] (defScope s_Span_gt) := ⟨rfl, rfl, rfl, by decide +kernel, rfl, by decide +kernel, by decide +kernel⟩
abbrev s_Span_ge : Stmt := inClass (top 2) 9
theorem sc_Span_ge : FnScope ["self", "other"] ["self", "other"] (defScope s_Span_ge) := ⟨rfl, rfl, rfl, by decide +kernel, rfl, by decide +kernel, by decide +kernel⟩
abbrev s_Span_bool : Stmt := inClass (top 2) 3
theorem sc_Span_bool : FnScope ["self"] ["self"] (defScope s_Span_bool) := ⟨rfl, rfl, rfl, by decide +kernel, rfl, by decide +kernel, by decide +kernel⟩
/-- y is a span of j ticks, or nothing of the class -/
def SpanOr (K : PySem.W.Frag) (Z : Ad) (B H : Hp) (y : V) (j : Option Int) : Prop := (∃ yx n, y = .ref yx ∧ SpanAt Z B yx n ∧ j = some n) ∨ ∃ t, TyX K H y t ∧ NsT K Z.Span t ∧ j = none
def sp_Span_eqs (f : Int → Option Int → Bool) (K : PySem.W.Frag) (Z : Ad) : Sp := fun vs H Q _ => vs.length = 2 ∧ ∃ (B : Hp) (M : List (Addr × HO)) (x : Addr) (i : Int) (y : V) (j : Option Int), vs = [.ref x, y] ∧ Wd B M H ∧ SpanAt Z B x i ∧ SpanOr K Z B H y j ∧ Q (.bl (f i j)) H
def sp_Span_ord (f : Int → Int → Bool) (K : PySem.W.Frag) (Z : Ad) : Sp := fun vs H Q _ => vs.length = 2 ∧ ∃ (B : Hp) (M : List (Addr × HO)) (x y : Addr) (i j : Int), vs = [.ref x, .ref y] ∧ Wd B M H ∧ SpanAt Z B x i ∧ SpanAt Z B y j ∧ Q (.bl (f i j)) H
abbrev sp_Span_eq := sp_Span_eqs fun i j => match j with | some j => decide (i = j) | none => false
abbrev sp_Span_ne := sp_Span_eqs fun i j => match j with | some j => !decide (i = j) | none => true
abbrev sp_Span_lt := sp_Span_ord fun i j => decide (i < j)
abbrev sp_Span_le := sp_Span_ord fun i j => decide (i ≤ j)
abbrev sp_Span_gt := sp_Span_ord fun i j => decide (j < i)
abbrev sp_Span_ge := sp_Span_ord fun i j => decide (j ≤ i)
def sp_Span_bool (K : PySem.W.Frag) (Z : Ad) : Sp := fun vs H Q _ => vs.length = 1 ∧ ∃ (B : Hp) (M : List (Addr × HO)) (x : Addr) (i : Int), vs = [.ref x] ∧ Wd B M H ∧ SpanAt Z B x i ∧ Q (.bl (!decide (i = 0))) H
theorem x_isi_no {K : PySem.W.Frag} {H : Hp} {Q : VK} {y : V} {t : Value} {C : Addr} (ty : TyX K H y t) (n : NsT K C t) (h : Q (.bl false) H) : rIsi K [y, .ref C] H Q := x_isi ty (.own C) n.kit h
theorem u_spanEqs {f : Int → Option Int → Bool} {K : PySem.W.Frag} {Z : Ad} {B H : Hp} {M : List (Addr × HO)} {x y : Addr} {i j : Int} {Q : VK} {E : XK} (T : C8.InsC K Z.Span) (w : Wd B M H) (hx : SpanAt Z B x i) (hy : SpanAt Z B y j) (h : Q (.bl (f i (some j))) H) :
    rCmp K Z.Span (sp_Span_eqs f K Z) E (.ref x) (.ref y) H Q := by
  obtain ⟨dx, qx⟩ := id hx
  obtain ⟨dy, qy⟩ := id hy
  exact ⟨x, dx, _, _, rfl, w.im qx, .base (.ins (w.im qy) T.cl T.ha T.hn T.htk T.hm), first_self, rfl, B, M, x, i, _, some j, rfl, w, hx, .inl ⟨y, j, rfl, hy, rfl⟩, h⟩
theorem u_spanEqO {f : Int → Option Int → Bool} {K : PySem.W.Frag} {Z : Ad} {B H : Hp} {M : List (Addr × HO)} {x : Addr} {y : V} {t : Value} {i : Int} {Q : VK} {E : XK} (w : Wd B M H) (hx : SpanAt Z B x i) (ty : TyX K H y t) (n : NsT K Z.Span t) (h : Q (.bl (f i none)) H) :
    rCmp K Z.Span (sp_Span_eqs f K Z) E (.ref x) y H Q := by
  obtain ⟨dx, qx⟩ := id hx
  exact ⟨x, dx, _, t, rfl, w.im qx, ty, n.first, rfl, B, M, x, i, y, none, rfl, w, hx, .inr ⟨t, ty, n, rfl⟩, h⟩
theorem u_spanOrd {f : Int → Int → Bool} {K : PySem.W.Frag} {Z : Ad} {B H : Hp} {M : List (Addr × HO)} {x y : Addr} {i j : Int} {Q : VK} {E : XK} (T : C8.InsC K Z.Span) (w : Wd B M H) (hx : SpanAt Z B x i) (hy : SpanAt Z B y j) (h : Q (.bl (f i j)) H) :
    rCmp K Z.Span (sp_Span_ord f K Z) E (.ref x) (.ref y) H Q := by
  obtain ⟨dx, qx⟩ := id hx
  obtain ⟨dy, qy⟩ := id hy
  exact ⟨x, dx, _, _, rfl, w.im qx, .base (.ins (w.im qy) T.cl T.ha T.hn T.htk T.hm), first_self, rfl, B, M, x, y, i, j, rfl, w, hx, hy, h⟩
theorem u_spanBool {K : PySem.W.Frag} {Z : Ad} {B H : Hp} {M : List (Addr × HO)} {x : Addr} {i : Int} {Q : VK} {E : XK} (w : Wd B M H) (hx : SpanAt Z B x i) (h : Q (.bl (!decide (i = 0))) H) : rBoolO Z.Span (sp_Span_bool K Z) E [.ref x] H Q := by
  obtain ⟨dx, qx⟩ := id hx
  exact ⟨x, dx, _, rfl, w.im qx, rfl, B, M, x, i, rfl, w, hx, ⟨_, rfl⟩, h⟩
theorem u_spanTru {K : PySem.W.Frag} {Z : Ad} {B H : Hp} {M : List (Addr × HO)} {x : Addr} {i : Int} {Q : Bool → Hp → Prop} {E : XK} (w : Wd B M H) (hx : SpanAt Z B x i) (h : Q (!decide (i = 0)) H) : rTru Z.Span (sp_Span_bool K Z) E (.ref x) H Q := by
  obtain ⟨dx, qx⟩ := id hx
  exact ⟨x, dx, _, rfl, w.im qx, rfl, B, M, x, i, rfl, w, hx, _, rfl, h⟩
local macro_rules | `(tactic| walk_at "s1") => `(tactic| first
  | ((with_reducible refine' My.u_spanBool ?w ?hx ?_); (case w => assumption); (case hx => walk_at "sp"))
  | ((with_reducible refine' My.u_spanTru ?w ?hx ?_); (case w => assumption); (case hx => walk_at "sp")))
local macro_rules | `(tactic| walk_at "ty") => `(tactic| first
  | assumption
  | exact .base (.int _)
  | exact .base (.str _)
  | exact .base .non
  | (refine' .base (.lst ?hl); (case hl => walk_at "lk")))
local macro_rules | `(tactic| walk_at "s1") => `(tactic| ((with_reducible refine' My.u_spanEqO ?w ?hx ?ty ?n ?_); (case w => assumption); (case hx => walk_at "sp"); (case ty => walk_at "ty"); (case n => walk_at "ns")))
local macro_rules | `(tactic| walk_at "s1") => `(tactic| first
  | ((with_reducible refine' My.u_spanEqs ?T ?w ?hx ?hy ?_); (case T => walk_at "insc"); (case w => assumption); (case hx => walk_at "sp"); (case hy => walk_at "sp"))
  | ((with_reducible refine' My.u_spanOrd ?T ?w ?hx ?hy ?_); (case T => walk_at "insc"); (case w => assumption); (case hx => walk_at "sp"); (case hy => walk_at "sp")))
theorem ok_Span_eq {f : Addr} {fd : FuncData} (F : Fun K "__eq__" "Span.__eq__" s_Span_eq f fd) (T : Txt K mg Z) : FnOk P w K mg base CX0 1 f fd ["self", "other"] (sp_Span_eq K Z) := by
  refine F.ok sc_Span_eq (fun vs H Q E h => h.1) (fun cdv A outer s H vs Q E hr h => ?_)
  obtain ⟨_, B, M, x, i, y, j, rfl, wd, ⟨dx, hx⟩, hy, k⟩ := h
  refine ⟨_, (pss_one (ps_ret (pe_and (pe_callB call_isi (by rfl) T.g_isinstance (by decide +kernel) (pa_cons (pv 1) (pa_cons (pe_kn T.c_Span rfl) pa_nil))) (pe_one (pe_cmpR op_eq (pe_fld (pv 0) rfl) (pe_fld (pv 1) rfl) (nomark _)))))), ?_⟩
  walk_at "sx"
  rcases hy with ⟨yx, n, rfl, ⟨dy, hy⟩, rfl⟩ | ⟨t, ty, n, rfl⟩
  · walk_at "sx"
    exact k
  · refine x_isi_no ty n ?_
    walk_at "sx"
    exact k
theorem ok_Span_ne {f : Addr} {fd : FuncData} (F : Fun K "__ne__" "Span.__ne__" s_Span_ne f fd) (T : Txt K mg Z) : FnOk P w K mg base CX0 1 f fd ["self", "other"] (sp_Span_ne K Z) := by
  refine F.ok sc_Span_ne (fun vs H Q E h => h.1) (fun cdv A outer s H vs Q E hr h => ?_)
  obtain ⟨_, B, M, x, i, y, j, rfl, wd, ⟨dx, hx⟩, hy, k⟩ := h
  refine ⟨_, (pss_one (ps_ret (pe_or (pe_not (pe_callB call_isi (by rfl) T.g_isinstance (by decide +kernel) (pa_cons (pv 1) (pa_cons (pe_kn T.c_Span rfl) pa_nil)))) (pe_one (pe_cmpR op_ne (pe_fld (pv 0) rfl) (pe_fld (pv 1) rfl) (nomark _)))))), ?_⟩
  walk_at "sx"
  rcases hy with ⟨yx, n, rfl, ⟨dy, hy⟩, rfl⟩ | ⟨t, ty, n, rfl⟩
  · walk_at "sx"
    exact k
  · refine x_isi_no ty n ?_
    walk_at "sx"
    exact k
theorem ok_Span_lt {f : Addr} {fd : FuncData} (F : Fun K "__lt__" "Span.__lt__" s_Span_lt f fd) (T : Txt K mg Z) : FnOk P w K mg base CX0 1 f fd ["self", "other"] (sp_Span_lt K Z) := by
  refine F.ok sc_Span_lt (fun vs H Q E h => h.1) (fun cdv A outer s H vs Q E hr h => ?_)
  obtain ⟨_, B, M, x, y, i, j, rfl, wd, ⟨dx, hx⟩, ⟨dy, hy⟩, k⟩ := h
  refine ⟨_, (pss_cons (ps_if (pt_not (pt_val (pe_callB call_isi (by rfl) T.g_isinstance (by decide +kernel) (pa_cons (pv 1) (pa_cons (pe_kn T.c_Span rfl) pa_nil)))))
      (pss_one ps_never)
      pss_nil)
      (pss_one (ps_ret (pe_cmpR op_lt (pe_fld (pv 0) rfl) (pe_fld (pv 1) rfl) (nomark _))))), ?_⟩
  walk_at "sx"
  exact k
theorem ok_Span_le {f : Addr} {fd : FuncData} (F : Fun K "__le__" "Span.__le__" s_Span_le f fd) (T : Txt K mg Z) : FnOk P w K mg base CX0 1 f fd ["self", "other"] (sp_Span_le K Z) := by
  refine F.ok sc_Span_le (fun vs H Q E h => h.1) (fun cdv A outer s H vs Q E hr h => ?_)
  obtain ⟨_, B, M, x, y, i, j, rfl, wd, ⟨dx, hx⟩, ⟨dy, hy⟩, k⟩ := h
  refine ⟨_, (pss_cons (ps_if (pt_not (pt_val (pe_callB call_isi (by rfl) T.g_isinstance (by decide +kernel) (pa_cons (pv 1) (pa_cons (pe_kn T.c_Span rfl) pa_nil)))))
      (pss_one ps_never)
      pss_nil)
      (pss_one (ps_ret (pe_cmpR op_le (pe_fld (pv 0) rfl) (pe_fld (pv 1) rfl) (nomark _))))), ?_⟩
  walk_at "sx"
  exact k
theorem ok_Span_gt {f : Addr} {fd : FuncData} (F : Fun K "__gt__" "Span.__gt__" s_Span_gt f fd) (T : Txt K mg Z) : FnOk P w K mg base CX0 1 f fd ["self", "other"] (sp_Span_gt K Z) := by
  refine F.ok sc_Span_gt (fun vs H Q E h => h.1) (fun cdv A outer s H vs Q E hr h => ?_)
  obtain ⟨_, B, M, x, y, i, j, rfl, wd, ⟨dx, hx⟩, ⟨dy, hy⟩, k⟩ := h
  refine ⟨_, (pss_cons (ps_if (pt_not (pt_val (pe_callB call_isi (by rfl) T.g_isinstance (by decide +kernel) (pa_cons (pv 1) (pa_cons (pe_kn T.c_Span rfl) pa_nil)))))
      (pss_one ps_never)
      pss_nil)
      (pss_one (ps_ret (pe_cmpR op_gt (pe_fld (pv 0) rfl) (pe_fld (pv 1) rfl) (nomark _))))), ?_⟩
  walk_at "sx"
  exact k
theorem ok_Span_ge {f : Addr} {fd : FuncData} (F : Fun K "__ge__" "Span.__ge__" s_Span_ge f fd) (T : Txt K mg Z) : FnOk P w K mg base CX0 1 f fd ["self", "other"] (sp_Span_ge K Z) := by
  refine F.ok sc_Span_ge (fun vs H Q E h => h.1) (fun cdv A outer s H vs Q E hr h => ?_)
  obtain ⟨_, B, M, x, y, i, j, rfl, wd, ⟨dx, hx⟩, ⟨dy, hy⟩, k⟩ := h
  refine ⟨_, (pss_cons (ps_if (pt_not (pt_val (pe_callB call_isi (by rfl) T.g_isinstance (by decide +kernel) (pa_cons (pv 1) (pa_cons (pe_kn T.c_Span rfl) pa_nil)))))
      (pss_one ps_never)
      pss_nil)
      (pss_one (ps_ret (pe_cmpR op_ge (pe_fld (pv 0) rfl) (pe_fld (pv 1) rfl) (nomark _))))), ?_⟩
  walk_at "sx"
  exact k
theorem ok_Span_bool {f : Addr} {fd : FuncData} (F : Fun K "__bool__" "Span.__bool__" s_Span_bool f fd) (T : Txt K mg Z) : FnOk P w K mg base CX0 1 f fd ["self"] (sp_Span_bool K Z) := by
  refine F.ok sc_Span_bool (fun vs H Q E h => h.1) (fun cdv A outer s H vs Q E hr h => ?_)
  obtain ⟨_, B, M, x, i, rfl, wd, ⟨dx, hx⟩, k⟩ := h
  refine ⟨_, (pss_one (ps_ret (pe_callTy c_bool (by rfl) T.g_bool (by decide +kernel) (pa_cons (pe_fld (pv 0) rfl) pa_nil)))), ?_⟩
  walk_at "sx"
  exact k

/-! ### moments -/
abbrev momF (n : Int) : List (Str × V) := [("at", .int n)]
def MomAt (Z : Ad) (B : Hp) (x : Addr) (n : Int) : Prop := ∃ dx, B x = some (.ins Z.Moment dx (momF n))
theorem MomAt.up {Z : Ad} {B B' : Hp} {x : Addr} {n : Int} (h : MomAt Z B x n) (e : Ex B B') : MomAt Z B' x n := let ⟨d, q⟩ := h; ⟨d, e _ _ q⟩
def sp_Moment_init (K : PySem.W.Frag) (Z : Ad) : Sp := fun vs H Q _ => vs.length = 2 ∧ ∃ (x dx : Addr) (n : Int), vs = [.ref x, .int n] ∧ H x = some (.ins Z.Moment dx []) ∧ Q .non (upd H x (.ins Z.Moment dx (momF n)))
theorem u_mom {K : PySem.W.Frag} {Z : Ad} {B H : Hp} {M : List (Addr × HO)} {n : Int} {Q : VK} {E : XK} (w : Wd B M H) (h : ∀ (x : Addr) (B' H' : Hp), Ex B B' → MomAt Z B' x n → Wd B' M H' → Q (.ref x) H') :
    MkI Z.Moment (sp_Moment_init K Z) E [.int n] H Q := by
  intro x dx nx ndx ne
  refine ⟨rfl, x, dx, n, rfl, upd_same, rfl, ?_⟩
  rw [upd_upd]
  have w1 := w.alloc ndx (.own x)
  have nx1 : upd H dx (.own x) x = none := by rw [upd_ne (fun e => ne e.symm)]; exact nx
  refine h x _ _ ?_ ⟨dx, upd_same⟩ (w1.alloc nx1 _)
  exact (Ex.new (w.free ndx)).tr (Ex.new (w1.free nx1))
local macro_rules | `(tactic| walk_at "mo") => `(tactic| first
  | assumption
  | (refine' My.MomAt.up ?hh (by assumption); (case hh => walk_at "mo")))
local macro_rules | `(tactic| walk_at "s1") => `(tactic| ((with_reducible refine' My.u_mom ?w ?_); (case w => assumption); intro x' B' H' hEx hMo hWd))
abbrev s_Moment_init : Stmt := inClass (top 3) 0
theorem sc_Moment_init : FnScope ["self", "at"] ["self", "at"] (defScope s_Moment_init) := ⟨rfl, rfl, rfl, by decide +kernel, rfl, by decide +kernel, by decide +kernel⟩
abbrev s_Moment_eq : Stmt := inClass (top 3) 3
theorem sc_Moment_eq : FnScope ["self", "other"] ["self", "other"] (defScope s_Moment_eq) := ⟨rfl, rfl, rfl, by decide +kernel, rfl, by decide +kernel, by decide +kernel⟩
theorem ok_Moment_init {f : Addr} {fd : FuncData} (F : Fun K "__init__" "Moment.__init__" s_Moment_init f fd) (T : Txt K mg Z) : FnOk P w K mg base CX0 1 f fd ["self", "at"] (sp_Moment_init K Z) := by
  refine F.ok sc_Moment_init (fun vs H Q E h => h.1) (fun cdv A outer s H vs Q E hr h => ?_)
  obtain ⟨_, x, dx, n, rfl, hx, k⟩ := h
  refine ⟨_, (pss_one (ps_fld (pv 0) (pv 1) rfl)), ?_⟩
  walk_at "sx"
  exact k
/-- y is a moment at j, or nothing of the class -/
def MomOr (K : PySem.W.Frag) (Z : Ad) (B H : Hp) (y : V) (j : Option Int) : Prop := (∃ yx n, y = .ref yx ∧ MomAt Z B yx n ∧ j = some n) ∨ ∃ t, TyX K H y t ∧ NsT K Z.Moment t ∧ j = none
def sp_Moment_eqs (f : Int → Option Int → Bool) (K : PySem.W.Frag) (Z : Ad) : Sp := fun vs H Q _ => vs.length = 2 ∧ ∃ (B : Hp) (M : List (Addr × HO)) (x : Addr) (i : Int) (y : V) (j : Option Int), vs = [.ref x, y] ∧ Wd B M H ∧ MomAt Z B x i ∧ MomOr K Z B H y j ∧ Q (.bl (f i j)) H
abbrev sp_Moment_eq := sp_Moment_eqs fun i j => match j with | some j => decide (i = j) | none => false
abbrev sp_Moment_ne := sp_Moment_eqs fun i j => match j with | some j => !decide (i = j) | none => true
theorem u_momEqs {f : Int → Option Int → Bool} {K : PySem.W.Frag} {Z : Ad} {B H : Hp} {M : List (Addr × HO)} {x y : Addr} {i j : Int} {Q : VK} {E : XK} (T : C8.InsC K Z.Moment) (w : Wd B M H) (hx : MomAt Z B x i) (hy : MomAt Z B y j) (h : Q (.bl (f i (some j))) H) :
    rCmp K Z.Moment (sp_Moment_eqs f K Z) E (.ref x) (.ref y) H Q := by
  obtain ⟨dx, qx⟩ := id hx
  obtain ⟨dy, qy⟩ := id hy
  exact ⟨x, dx, _, _, rfl, w.im qx, .base (.ins (w.im qy) T.cl T.ha T.hn T.htk T.hm), first_self, rfl, B, M, x, i, _, some j, rfl, w, hx, .inl ⟨y, j, rfl, hy, rfl⟩, h⟩
theorem u_momEqO {f : Int → Option Int → Bool} {K : PySem.W.Frag} {Z : Ad} {B H : Hp} {M : List (Addr × HO)} {x : Addr} {y : V} {t : Value} {i : Int} {Q : VK} {E : XK} (w : Wd B M H) (hx : MomAt Z B x i) (ty : TyX K H y t) (n : NsT K Z.Moment t) (h : Q (.bl (f i none)) H) :
    rCmp K Z.Moment (sp_Moment_eqs f K Z) E (.ref x) y H Q := by
  obtain ⟨dx, qx⟩ := id hx
  exact ⟨x, dx, _, t, rfl, w.im qx, ty, n.first, rfl, B, M, x, i, y, none, rfl, w, hx, .inr ⟨t, ty, n, rfl⟩, h⟩
theorem ty_span {K : PySem.W.Frag} {Z : Ad} {B H : Hp} {M : List (Addr × HO)} {x : Addr} {i : Int} (T : C8.InsC K Z.Span) (w : Wd B M H) (hx : SpanAt Z B x i) : TyX K H (.ref x) (.ref Z.Span) := by
  obtain ⟨dx, qx⟩ := hx
  exact .base (.ins (w.im qx) T.cl T.ha T.hn T.htk T.hm)
theorem ty_mom {K : PySem.W.Frag} {Z : Ad} {B H : Hp} {M : List (Addr × HO)} {x : Addr} {i : Int} (T : C8.InsC K Z.Moment) (w : Wd B M H) (hx : MomAt Z B x i) : TyX K H (.ref x) (.ref Z.Moment) := by
  obtain ⟨dx, qx⟩ := hx
  exact .base (.ins (w.im qx) T.cl T.ha T.hn T.htk T.hm)
local macro_rules | `(tactic| walk_at "ty") => `(tactic| first
  | (refine' My.ty_mom ?T ?w ?hm; (case T => walk_at "insc"); (case w => assumption); (case hm => walk_at "mo"))
  | (refine' My.ty_span ?T ?w ?hm; (case T => walk_at "insc"); (case w => assumption); (case hm => walk_at "sp")))
local macro_rules | `(tactic| walk_at "s1") => `(tactic| ((with_reducible refine' My.u_momEqO ?w ?hx ?ty ?n ?_); (case w => assumption); (case hx => walk_at "mo"); (case ty => walk_at "ty"); (case n => walk_at "ns")))
local macro_rules | `(tactic| walk_at "s1") => `(tactic| ((with_reducible refine' My.u_momEqs ?T ?w ?hx ?hy ?_); (case T => walk_at "insc"); (case w => assumption); (case hx => walk_at "mo"); (case hy => walk_at "mo")))
theorem ok_Moment_eq {f : Addr} {fd : FuncData} (F : Fun K "__eq__" "Moment.__eq__" s_Moment_eq f fd) (T : Txt K mg Z) : FnOk P w K mg base CX0 1 f fd ["self", "other"] (sp_Moment_eq K Z) := by
  refine F.ok sc_Moment_eq (fun vs H Q E h => h.1) (fun cdv A outer s H vs Q E hr h => ?_)
  obtain ⟨_, B, M, x, i, y, j, rfl, wd, ⟨dx, hx⟩, hy, k⟩ := h
  refine ⟨_, (pss_one (ps_ret (pe_and (pe_callB call_isi (by rfl) T.g_isinstance (by decide +kernel) (pa_cons (pv 1) (pa_cons (pe_kn T.c_Moment rfl) pa_nil))) (pe_one (pe_cmpR op_eq (pe_fld (pv 0) rfl) (pe_fld (pv 1) rfl) (nomark _)))))), ?_⟩
  walk_at "sx"
  rcases hy with ⟨yx, n, rfl, ⟨dy, hy⟩, rfl⟩ | ⟨t, ty, n, rfl⟩
  · walk_at "sx"
    exact k
  · refine x_isi_no ty n ?_
    walk_at "sx"
    exact k

/-- what is no span -/
def spn_Span_add (K : PySem.W.Frag) (Z : Ad) : Spn := fun vs H Q => vs.length = 2 ∧ ∃ (x : Addr) (y : V) (t : Value), vs = [.ref x, y] ∧ TyX K H y t ∧ NsT K Z.Span t ∧ Q H
theorem ni_Span_add {f : Addr} {fd : FuncData} (F : Fun K "__add__" "Span.__add__" s_Span_add f fd) (T : Txt K mg Z) : NiOk P w K mg base 1 f fd ["self", "other"] (spn_Span_add K Z) := by
  refine ni_of F sc_Span_add (fun vs H Q h => h.1) T.g_NotImplemented rfl (fun cdv A outer s H vs Q hr h => ?_)
  obtain ⟨_, x, y, t, rfl, ty, n, k⟩ := h
  refine ⟨(by rfl), _, (pt_not (pt_val (pe_callB call_isi (by rfl) T.g_isinstance (by decide +kernel) (pa_cons (pv 1) (pa_cons (pe_kn T.c_Span rfl) pa_nil))))), ?_⟩
  walk_at "sx"
  refine x_isi_no ty n ?_
  walk_at "sx"
  exact ⟨rfl, k⟩

abbrev numS (i : Int) : Str := Str.ofString (toString i)
def sp_Moment_ord (f : Int → Int → Bool) (K : PySem.W.Frag) (Z : Ad) : Sp := fun vs H Q _ => vs.length = 2 ∧ ∃ (B : Hp) (M : List (Addr × HO)) (x y : Addr) (i j : Int), vs = [.ref x, .ref y] ∧ Wd B M H ∧ MomAt Z B x i ∧ MomAt Z B y j ∧ Q (.bl (f i j)) H
abbrev sp_Moment_lt := sp_Moment_ord fun i j => decide (i < j)
abbrev sp_Moment_le := sp_Moment_ord fun i j => decide (i ≤ j)
abbrev sp_Moment_gt := sp_Moment_ord fun i j => decide (j < i)
abbrev sp_Moment_ge := sp_Moment_ord fun i j => decide (j ≤ i)
theorem u_momOrd {f : Int → Int → Bool} {K : PySem.W.Frag} {Z : Ad} {B H : Hp} {M : List (Addr × HO)} {x y : Addr} {i j : Int} {Q : VK} {E : XK} (T : C8.InsC K Z.Moment) (w : Wd B M H) (hx : MomAt Z B x i) (hy : MomAt Z B y j) (h : Q (.bl (f i j)) H) :
    rCmp K Z.Moment (sp_Moment_ord f K Z) E (.ref x) (.ref y) H Q := by
  obtain ⟨dx, qx⟩ := id hx
  obtain ⟨dy, qy⟩ := id hy
  exact ⟨x, dx, _, _, rfl, w.im qx, .base (.ins (w.im qy) T.cl T.ha T.hn T.htk T.hm), first_self, rfl, B, M, x, y, i, j, rfl, w, hx, hy, h⟩
def sp_Moment_add (K : PySem.W.Frag) (Z : Ad) : Sp := fun vs H Q _ => vs.length = 2 ∧ ∃ (B : Hp) (M : List (Addr × HO)) (x y : Addr) (i j : Int), vs = [.ref x, .ref y] ∧ Wd B M H ∧ MomAt Z B x i ∧ SpanAt Z B y j ∧
  ∀ (z : Addr) (B' H' : Hp), Ex B B' → MomAt Z B' z (i + j) → Wd B' M H' → Q (.ref z) H'
def sp_Moment_radd (K : PySem.W.Frag) (Z : Ad) : Sp := fun vs H Q _ => vs.length = 2 ∧ ∃ (B : Hp) (M : List (Addr × HO)) (x y : Addr) (i j : Int), vs = [.ref x, .ref y] ∧ Wd B M H ∧ MomAt Z B x i ∧ SpanAt Z B y j ∧
  ∀ (z : Addr) (B' H' : Hp), Ex B B' → MomAt Z B' z (j + i) → Wd B' M H' → Q (.ref z) H'
def sp_Moment_sub (K : PySem.W.Frag) (Z : Ad) : Sp := fun vs H Q _ => vs.length = 2 ∧ ∃ (B : Hp) (M : List (Addr × HO)) (x y : Addr) (i j : Int), vs = [.ref x, .ref y] ∧ Wd B M H ∧ MomAt Z B x i ∧
  ((MomAt Z B y j ∧ ∀ (z : Addr) (B' H' : Hp), Ex B B' → SpanAt Z B' z (i - j) → Wd B' M H' → Q (.ref z) H') ∨ (SpanAt Z B y j ∧ ∀ (z : Addr) (B' H' : Hp), Ex B B' → MomAt Z B' z (i - j) → Wd B' M H' → Q (.ref z) H'))
theorem u_momAdd {K : PySem.W.Frag} {Z : Ad} {B H : Hp} {M : List (Addr × HO)} {x y : Addr} {i j : Int} {Q : VK} {E : XK} (w : Wd B M H) (hx : MomAt Z B x i) (hy : SpanAt Z B y j)
    (h : ∀ (z : Addr) (B' H' : Hp), Ex B B' → MomAt Z B' z (i + j) → Wd B' M H' → Q (.ref z) H') : rOO Z.Moment Z.Span (sp_Moment_add K Z) E (.ref x) (.ref y) H Q := by
  obtain ⟨dx, qx⟩ := id hx
  obtain ⟨dy, qy⟩ := id hy
  exact ⟨x, y, dx, dy, _, _, rfl, rfl, w.im qx, w.im qy, rfl, B, M, x, y, i, j, rfl, w, hx, hy, h⟩
theorem u_momRadd {K : PySem.W.Frag} {Z : Ad} {B H : Hp} {M : List (Addr × HO)} {x y : Addr} {i j : Int} {Q : VK} {E : XK} (T : C8.InsC K Z.Moment) (n : NsT K Z.Span (.ref Z.Moment)) (w : Wd B M H) (hx : SpanAt Z B x i) (hy : MomAt Z B y j)
    (h : ∀ (z : Addr) (B' H' : Hp), Ex B B' → MomAt Z B' z (i + j) → Wd B' M H' → Q (.ref z) H') : rOR Z.Span Z.Moment (spn_Span_add K Z) (sp_Moment_radd K Z) E (.ref x) (.ref y) H Q := by
  obtain ⟨dx, qx⟩ := id hx
  obtain ⟨dy, qy⟩ := id hy
  exact ⟨x, y, dx, dy, _, _, rfl, rfl, w.im qx, w.im qy, rfl, x, _, _, rfl, ty_mom T w hy, n, ⟨_, _, w.im qx⟩, ⟨_, _, w.im qy⟩, rfl, B, M, y, x, j, i, rfl, w, hy, hx, h⟩
theorem u_momSubM {K : PySem.W.Frag} {Z : Ad} {B H : Hp} {M : List (Addr × HO)} {x y : Addr} {i j : Int} {Q : VK} {E : XK} (w : Wd B M H) (hx : MomAt Z B x i) (hy : MomAt Z B y j)
    (h : ∀ (z : Addr) (B' H' : Hp), Ex B B' → SpanAt Z B' z (i - j) → Wd B' M H' → Q (.ref z) H') : rOwn Z.Moment (sp_Moment_sub K Z) E (.ref x) (.ref y) H Q := by
  obtain ⟨dx, qx⟩ := id hx
  obtain ⟨dy, qy⟩ := id hy
  exact x_own2 (w.im qx) (w.im qy) ⟨rfl, B, M, x, y, i, j, rfl, w, hx, .inl ⟨hy, h⟩⟩
theorem u_momSubS {K : PySem.W.Frag} {Z : Ad} {B H : Hp} {M : List (Addr × HO)} {x y : Addr} {i j : Int} {Q : VK} {E : XK} (w : Wd B M H) (hx : MomAt Z B x i) (hy : SpanAt Z B y j)
    (h : ∀ (z : Addr) (B' H' : Hp), Ex B B' → MomAt Z B' z (i - j) → Wd B' M H' → Q (.ref z) H') : rOO Z.Moment Z.Span (sp_Moment_sub K Z) E (.ref x) (.ref y) H Q := by
  obtain ⟨dx, qx⟩ := id hx
  obtain ⟨dy, qy⟩ := id hy
  exact ⟨x, y, dx, dy, _, _, rfl, rfl, w.im qx, w.im qy, rfl, B, M, x, y, i, j, rfl, w, hx, .inr ⟨hy, h⟩⟩
def sp_Moment_repr (K : PySem.W.Frag) (Z : Ad) : Sp := fun vs H Q _ => vs.length = 1 ∧ ∃ (B : Hp) (M : List (Addr × HO)) (x : Addr) (i : Int), vs = [.ref x] ∧ Wd B M H ∧ MomAt Z B x i ∧ i.natAbs.log2 < 1920 ∧ Q (.str (Str.ofString "Moment(" ++ numS i ++ Str.ofString ")")) H
def sp_Moment_str (K : PySem.W.Frag) (Z : Ad) : Sp := fun vs H Q _ => vs.length = 1 ∧ ∃ (B : Hp) (M : List (Addr × HO)) (x : Addr) (i : Int), vs = [.ref x] ∧ Wd B M H ∧ MomAt Z B x i ∧ i.natAbs.log2 < 1920 ∧ Q (.str (Str.ofString "at " ++ numS i)) H
theorem u_momRepr {K : PySem.W.Frag} {Z : Ad} {B H : Hp} {M : List (Addr × HO)} {x : Addr} {i : Int} {Q : VK} {E : XK} (w : Wd B M H) (hx : MomAt Z B x i) (hi : i.natAbs.log2 < 1920) (h : Q (.str (Str.ofString "Moment(" ++ numS i ++ Str.ofString ")")) H) :
    rTxt Z.Moment (sp_Moment_repr K Z) E [.ref x] H Q := by
  obtain ⟨dx, qx⟩ := id hx
  exact ⟨x, dx, _, rfl, w.im qx, rfl, B, M, x, i, rfl, w, hx, hi, ⟨_, rfl⟩, h⟩
theorem u_momStr {K : PySem.W.Frag} {Z : Ad} {B H : Hp} {M : List (Addr × HO)} {x : Addr} {i : Int} {Q : VK} {E : XK} (w : Wd B M H) (hx : MomAt Z B x i) (hi : i.natAbs.log2 < 1920) (h : Q (.str (Str.ofString "at " ++ numS i)) H) :
    rTxt Z.Moment (sp_Moment_str K Z) E [.ref x] H Q := by
  obtain ⟨dx, qx⟩ := id hx
  exact ⟨x, dx, _, rfl, w.im qx, rfl, B, M, x, i, rfl, w, hx, hi, ⟨_, rfl⟩, h⟩
local macro_rules | `(tactic| walk_at "s1") => `(tactic| first
  | ((with_reducible refine' My.u_momOrd ?T ?w ?hx ?hy ?_); (case T => walk_at "insc"); (case w => assumption); (case hx => walk_at "mo"); (case hy => walk_at "mo"))
  | ((with_reducible refine' My.u_momAdd ?w ?hx ?hy ?_); (case w => assumption); (case hx => walk_at "mo"); (case hy => walk_at "sp"); intro x' B' H' hEx hMo hWd)
  | ((with_reducible refine' My.u_momRadd ?T ?n ?w ?hx ?hy ?_); (case T => walk_at "insc"); (case n => walk_at "ns"); (case w => assumption); (case hx => walk_at "sp"); (case hy => walk_at "mo"); intro x' B' H' hEx hMo hWd)
  | ((with_reducible refine' My.u_momSubM ?w ?hx ?hy ?_); (case w => assumption); (case hx => walk_at "mo"); (case hy => walk_at "mo"); intro x' B' H' hEx hSp hWd)
  | ((with_reducible refine' My.u_momSubS ?w ?hx ?hy ?_); (case w => assumption); (case hx => walk_at "mo"); (case hy => walk_at "sp"); intro x' B' H' hEx hMo hWd)
  | ((with_reducible refine' My.u_momRepr ?w ?hx ?hi ?_); (case w => assumption); (case hx => walk_at "mo"); (case hi => assumption))
  | ((with_reducible refine' My.u_momStr ?w ?hx ?hi ?_); (case w => assumption); (case hx => walk_at "mo"); (case hi => assumption)))
abbrev s_Moment_ne : Stmt := inClass (top 3) 4
theorem sc_Moment_ne : FnScope ["self", "other"] ["self", "other"] (defScope s_Moment_ne) := ⟨rfl, rfl, rfl, by decide +kernel, rfl, by decide +kernel, by decide +kernel⟩
abbrev s_Moment_lt : Stmt := inClass (top 3) 5
theorem sc_Moment_lt : FnScope ["self", "other"] ["self", "other"] (defScope s_Moment_lt) := ⟨rfl, rfl, rfl, by decide +kernel, rfl, by decide +kernel, by decide +kernel⟩
abbrev s_Moment_le : Stmt := inClass (top 3) 6
theorem sc_Moment_le : FnScope ["self", "other"] ["self", "other"] (defScope s_Moment_le) := ⟨rfl, rfl, rfl, by decide +kernel, rfl, by decide +kernel, by decide +kernel⟩
abbrev s_Moment_gt : Stmt := inClass (top 3) 7
theorem sc_Moment_gt : FnScope ["self", "other"] ["self", "other"] (defScope s_Moment_gt) := ⟨rfl, rfl, rfl, by decide +kernel, rfl, by decide +kernel, by decide +kernel⟩
abbrev s_Moment_ge : Stmt := inClass (top 3) 8
theorem sc_Moment_ge : FnScope ["self", "other"] ["self", "other"] (defScope s_Moment_ge) := ⟨rfl, rfl, rfl, by decide +kernel, rfl, by decide +kernel, by decide +kernel⟩
abbrev s_Moment_add : Stmt := inClass (top 3) 9
theorem sc_Moment_add : FnScope ["self", "other"] ["self", "other"] (defScope s_Moment_add) := ⟨rfl, rfl, rfl, by decide +kernel, rfl, by decide +kernel, by decide +kernel⟩
abbrev s_Moment_radd : Stmt := inClass (top 3) 10
theorem sc_Moment_radd : FnScope ["self", "other"] ["self", "other"] (defScope s_Moment_radd) := ⟨rfl, rfl, rfl, by decide +kernel, rfl, by decide +kernel, by decide +kernel⟩
abbrev s_Moment_sub : Stmt := inClass (top 3) 11
theorem sc_Moment_sub : FnScope ["self", "other"] ["self", "other"] (defScope s_Moment_sub) := ⟨rfl, rfl, rfl, by decide +kernel, rfl, by decide +kernel, by decide +kernel⟩
abbrev s_Moment_repr : Stmt := inClass (top 3) 1
theorem sc_Moment_repr : FnScope ["self"] ["self"] (defScope s_Moment_repr) := ⟨rfl, rfl, rfl, by decide +kernel, rfl, by decide +kernel, by decide +kernel⟩
abbrev s_Moment_str : Stmt := inClass (top 3) 2
theorem sc_Moment_str : FnScope ["self"] ["self"] (defScope s_Moment_str) := ⟨rfl, rfl, rfl, by decide +kernel, rfl, by decide +kernel, by decide +kernel⟩
theorem ok_Moment_ne {f : Addr} {fd : FuncData} (F : Fun K "__ne__" "Moment.__ne__" s_Moment_ne f fd) (T : Txt K mg Z) : FnOk P w K mg base CX0 1 f fd ["self", "other"] (sp_Moment_ne K Z) := by
  refine F.ok sc_Moment_ne (fun vs H Q E h => h.1) (fun cdv A outer s H vs Q E hr h => ?_)
  obtain ⟨_, B, M, x, i, y, j, rfl, wd, ⟨dx, hx⟩, hy, k⟩ := h
  refine ⟨_, (pss_one (ps_ret (pe_or (pe_not (pe_callB call_isi (by rfl) T.g_isinstance (by decide +kernel) (pa_cons (pv 1) (pa_cons (pe_kn T.c_Moment rfl) pa_nil)))) (pe_one (pe_cmpR op_ne (pe_fld (pv 0) rfl) (pe_fld (pv 1) rfl) (nomark _)))))), ?_⟩
  walk_at "sx"
  rcases hy with ⟨yx, n, rfl, ⟨dy, hy⟩, rfl⟩ | ⟨t, ty, n, rfl⟩
  · walk_at "sx"
    exact k
  · refine x_isi_no ty n ?_
    walk_at "sx"
    exact k
theorem ok_Moment_lt {f : Addr} {fd : FuncData} (F : Fun K "__lt__" "Moment.__lt__" s_Moment_lt f fd) (T : Txt K mg Z) : FnOk P w K mg base CX0 1 f fd ["self", "other"] (sp_Moment_lt K Z) := by
  refine F.ok sc_Moment_lt (fun vs H Q E h => h.1) (fun cdv A outer s H vs Q E hr h => ?_)
  obtain ⟨_, B, M, x, y, i, j, rfl, wd, ⟨dx, hx⟩, ⟨dy, hy⟩, k⟩ := h
  refine ⟨_, (pss_cons (ps_if (pt_not (pt_val (pe_callB call_isi (by rfl) T.g_isinstance (by decide +kernel) (pa_cons (pv 1) (pa_cons (pe_kn T.c_Moment rfl) pa_nil)))))
      (pss_one ps_never)
      pss_nil)
      (pss_one (ps_ret (pe_cmpR op_lt (pe_fld (pv 0) rfl) (pe_fld (pv 1) rfl) (nomark _))))), ?_⟩
  walk_at "sx"
  exact k
theorem ok_Moment_le {f : Addr} {fd : FuncData} (F : Fun K "__le__" "Moment.__le__" s_Moment_le f fd) (T : Txt K mg Z) : FnOk P w K mg base CX0 1 f fd ["self", "other"] (sp_Moment_le K Z) := by
  refine F.ok sc_Moment_le (fun vs H Q E h => h.1) (fun cdv A outer s H vs Q E hr h => ?_)
  obtain ⟨_, B, M, x, y, i, j, rfl, wd, ⟨dx, hx⟩, ⟨dy, hy⟩, k⟩ := h
  refine ⟨_, (pss_cons (ps_if (pt_not (pt_val (pe_callB call_isi (by rfl) T.g_isinstance (by decide +kernel) (pa_cons (pv 1) (pa_cons (pe_kn T.c_Moment rfl) pa_nil)))))
      (pss_one ps_never)
      pss_nil)
      (pss_one (ps_ret (pe_cmpR op_le (pe_fld (pv 0) rfl) (pe_fld (pv 1) rfl) (nomark _))))), ?_⟩
  walk_at "sx"
  exact k
theorem ok_Moment_gt {f : Addr} {fd : FuncData} (F : Fun K "__gt__" "Moment.__gt__" s_Moment_gt f fd) (T : Txt K mg Z) : FnOk P w K mg base CX0 1 f fd ["self", "other"] (sp_Moment_gt K Z) := by
  refine F.ok sc_Moment_gt (fun vs H Q E h => h.1) (fun cdv A outer s H vs Q E hr h => ?_)
  obtain ⟨_, B, M, x, y, i, j, rfl, wd, ⟨dx, hx⟩, ⟨dy, hy⟩, k⟩ := h
  refine ⟨_, (pss_cons (ps_if (pt_not (pt_val (pe_callB call_isi (by rfl) T.g_isinstance (by decide +kernel) (pa_cons (pv 1) (pa_cons (pe_kn T.c_Moment rfl) pa_nil)))))
      (pss_one ps_never)
      pss_nil)
      (pss_one (ps_ret (pe_cmpR op_gt (pe_fld (pv 0) rfl) (pe_fld (pv 1) rfl) (nomark _))))), ?_⟩
  walk_at "sx"
  exact k
theorem ok_Moment_ge {f : Addr} {fd : FuncData} (F : Fun K "__ge__" "Moment.__ge__" s_Moment_ge f fd) (T : Txt K mg Z) : FnOk P w K mg base CX0 1 f fd ["self", "other"] (sp_Moment_ge K Z) := by
  refine F.ok sc_Moment_ge (fun vs H Q E h => h.1) (fun cdv A outer s H vs Q E hr h => ?_)
  obtain ⟨_, B, M, x, y, i, j, rfl, wd, ⟨dx, hx⟩, ⟨dy, hy⟩, k⟩ := h
  refine ⟨_, (pss_cons (ps_if (pt_not (pt_val (pe_callB call_isi (by rfl) T.g_isinstance (by decide +kernel) (pa_cons (pv 1) (pa_cons (pe_kn T.c_Moment rfl) pa_nil)))))
      (pss_one ps_never)
      pss_nil)
      (pss_one (ps_ret (pe_cmpR op_ge (pe_fld (pv 0) rfl) (pe_fld (pv 1) rfl) (nomark _))))), ?_⟩
  walk_at "sx"
  exact k
theorem ok_Moment_add {f : Addr} {fd : FuncData} (F : Fun K "__add__" "Moment.__add__" s_Moment_add f fd) (T : Txt K mg Z) (M_Moment_init : Mt CX0 P w K mg base Z.Moment "__init__" 1 ["self", "at"] (sp_Moment_init K Z)) : FnOk P w K mg base CX0 3 f fd ["self", "other"] (sp_Moment_add K Z) := by
  refine F.ok sc_Moment_add (fun vs H Q E h => h.1) (fun cdv A outer s H vs Q E hr h => ?_)
  obtain ⟨_, B, M, x, y, i, j, rfl, wd, ⟨dx, hx⟩, ⟨dy, hy⟩, k⟩ := h
  refine ⟨_, (pss_cons (ps_if (pt_not (pt_val (pe_callB call_isi (by rfl) T.g_isinstance (by decide +kernel) (pa_cons (pv 1) (pa_cons (pe_kn T.c_Span rfl) pa_nil)))))
      (pss_one ps_never)
      pss_nil)
      (pss_one (ps_ret (pe_kl T.c_Moment M_Moment_init hr (by decide) rfl pass0 (pa_cons (pe_op op_add (pe_fld (pv 0) rfl) (pe_fld (pv 1) rfl)) pa_nil))))), ?_⟩
  walk_at "sx"
  exact k _ _ _ (by assumption) (by assumption) (by assumption)
theorem ok_Moment_radd {f : Addr} {fd : FuncData} (F : Fun K "__radd__" "Moment.__radd__" s_Moment_radd f fd) (T : Txt K mg Z) (M_Moment_init : Mt CX0 P w K mg base Z.Moment "__init__" 1 ["self", "at"] (sp_Moment_init K Z)) : FnOk P w K mg base CX0 3 f fd ["self", "other"] (sp_Moment_radd K Z) := by
  refine F.ok sc_Moment_radd (fun vs H Q E h => h.1) (fun cdv A outer s H vs Q E hr h => ?_)
  obtain ⟨_, B, M, x, y, i, j, rfl, wd, ⟨dx, hx⟩, ⟨dy, hy⟩, k⟩ := h
  refine ⟨_, (pss_cons (ps_if (pt_not (pt_val (pe_callB call_isi (by rfl) T.g_isinstance (by decide +kernel) (pa_cons (pv 1) (pa_cons (pe_kn T.c_Span rfl) pa_nil)))))
      (pss_one ps_never)
      pss_nil)
      (pss_one (ps_ret (pe_kl T.c_Moment M_Moment_init hr (by decide) rfl pass0 (pa_cons (pe_op op_add (pe_fld (pv 1) rfl) (pe_fld (pv 0) rfl)) pa_nil))))), ?_⟩
  walk_at "sx"
  exact k _ _ _ (by assumption) (by assumption) (by assumption)
theorem ok_Moment_sub {f : Addr} {fd : FuncData} (F : Fun K "__sub__" "Moment.__sub__" s_Moment_sub f fd) (T : Txt K mg Z) (M_Span_init : Mt CX0 P w K mg base Z.Span "__init__" 1 ["self", "ticks"] (sp_Span_init K Z)) (M_Moment_init : Mt CX0 P w K mg base Z.Moment "__init__" 1 ["self", "at"] (sp_Moment_init K Z)) : FnOk P w K mg base CX0 3 f fd ["self", "other"] (sp_Moment_sub K Z) := by
  refine F.ok sc_Moment_sub (fun vs H Q E h => h.1) (fun cdv A outer s H vs Q E hr h => ?_)
  obtain ⟨_, B, M, x, y, i, j, rfl, wd, ⟨dx, hx⟩, hq⟩ := h
  refine ⟨_, (pss_cons (ps_if (pt_val (pe_callB call_isi (by rfl) T.g_isinstance (by decide +kernel) (pa_cons (pv 1) (pa_cons (pe_kn T.c_Moment rfl) pa_nil))))
      (pss_one (ps_ret (pe_kl T.c_Span M_Span_init hr (by decide) rfl pass0 (pa_cons (pe_op op_sub (pe_fld (pv 0) rfl) (pe_fld (pv 1) rfl)) pa_nil))))
      pss_nil)
      (pss_cons (ps_if (pt_not (pt_val (pe_callB call_isi (by rfl) T.g_isinstance (by decide +kernel) (pa_cons (pv 1) (pa_cons (pe_kn T.c_Span rfl) pa_nil)))))
      (pss_one ps_never)
      pss_nil)
      (pss_one (ps_ret (pe_kl T.c_Moment M_Moment_init hr (by decide) rfl pass0 (pa_cons (pe_op op_sub (pe_fld (pv 0) rfl) (pe_fld (pv 1) rfl)) pa_nil)))))), ?_⟩
  rcases hq with ⟨⟨dy, hy⟩, k⟩ | ⟨hy, k⟩
  · walk_at "sx"
    exact k _ _ _ (by assumption) (by assumption) (by assumption)
  · walk_at "sx"
    refine x_isi_no (by walk_at "ty") (by walk_at "ns") ?_
    obtain ⟨dy, hy⟩ := hy
    walk_at "sx"
    exact k _ _ _ (by assumption) (by assumption) (by assumption)
theorem ok_Moment_repr {f : Addr} {fd : FuncData} (F : Fun K "__repr__" "Moment.__repr__" s_Moment_repr f fd) (T : Txt K mg Z) : FnOk P w K mg base CX0 1 f fd ["self"] (sp_Moment_repr K Z) := by
  refine F.ok sc_Moment_repr (fun vs H Q E h => h.1) (fun cdv A outer s H vs Q E hr h => ?_)
  obtain ⟨_, B, M, x, i, rfl, wd, ⟨dx, hx⟩, hi, k⟩ := h
  refine ⟨_, (pss_one (ps_ret (pe_joined (PJ.cons pe_str (PJ.cons (pe_fmt (pe_fld (pv 0) rfl)) (PJ.cons pe_str PJ.nil)))))), ?_⟩
  walk_at "sx"
  exact k
theorem ok_Moment_str {f : Addr} {fd : FuncData} (F : Fun K "__str__" "Moment.__str__" s_Moment_str f fd) (T : Txt K mg Z) : FnOk P w K mg base CX0 1 f fd ["self"] (sp_Moment_str K Z) := by
  refine F.ok sc_Moment_str (fun vs H Q E h => h.1) (fun cdv A outer s H vs Q E hr h => ?_)
  obtain ⟨_, B, M, x, i, rfl, wd, ⟨dx, hx⟩, hi, k⟩ := h
  refine ⟨_, (pss_one (ps_ret (pe_joined (PJ.cons pe_str (PJ.cons (pe_fmt (pe_fld (pv 0) rfl)) PJ.nil))))), ?_⟩
  walk_at "sx"
  exact k

abbrev s_is_span : Stmt := top 9
theorem sc_is_span : FnScope ["_law_thing", "_law_due"] ["_law_thing", "_law_due"] (defScope s_is_span) := ⟨rfl, rfl, rfl, by decide +kernel, rfl, by decide +kernel, by decide +kernel⟩
theorem ok_is_span {f : Addr} {fd : FuncData} (F : Fun K "_law_is_span" "_law_is_span" s_is_span f fd) (T : Txt K mg Z) (D_is_number : Dn CX0 P w K mg base "_law_is_number" 1 ["_law_thing", "_law_due"] (sp_is_number K Z)) : FnOk P w K mg base CX0 2 f fd ["_law_thing", "_law_due"] (sp_is_span K Z) := by
  refine F.ok sc_is_span (fun vs H Q E h => h.1) (fun cdv A outer s H vs Q E hr h => ?_)
  obtain ⟨_, B, M, x, i, j, rfl, wd, ⟨dx, hx⟩, k⟩ := h
  refine ⟨_, (pss_one (ps_ret (pe_and (pe_callB call_isi (by rfl) T.g_isinstance (by decide +kernel) (pa_cons (pv 0) (pa_cons (pe_kn T.c_Span rfl) pa_nil))) (pe_one (pe_dn D_is_number hr (by decide) rfl pass0 (pa_cons (pe_fld (pv 0) rfl) (pa_cons (pv 1) pa_nil))))))), ?_⟩
  walk_at "sx"
  exact k _ (by assumption)

/-! ### spans and moments in lists -/
/-- the bound behind q deeds -/
abbrev big (q : Nat) : Nat := 2 ^ (300 + 4 * q)
theorem big_s (q : Nat) : big (q + 1) = 16 * big q := by
  unfold big
  rw [show 300 + 4 * (q + 1) = 4 + (300 + 4 * q) by omega, Nat.pow_add]
theorem big_60 (q : Nat) : 10 ^ 60 < big q := Nat.lt_of_lt_of_le (by decide +kernel : 10 ^ 60 < 2 ^ 300) (Nat.pow_le_pow_right (by decide) (by omega))
theorem big_w {q : Nat} (h : q ≤ 100) {i j : Int} (hi : i.natAbs < 16 * big q) (hj : j.natAbs < 16 * big q) : IntMulOk i j := by
  have e : big (q + 1) ≤ 2 ^ 704 := Nat.pow_le_pow_right (by decide) (by omega)
  rw [big_s] at e
  exact mul_w (a := 704) (b := 704) (by omega) (by omega) (by decide) (by decide) (by decide)
theorem big_log {q : Nat} (h : q ≤ 100) {i : Int} (hi : i.natAbs < 16 * big q) : i.natAbs.log2 < 9000 := by
  have e : big (q + 1) ≤ 2 ^ 704 := Nat.pow_le_pow_right (by decide) (by omega)
  rw [big_s] at e
  exact log_w (a := 704) (by omega) (by decide) (by decide)
theorem big_w2 {q : Nat} (h : q ≤ 100) {i j : Int} (hi : i.natAbs < 17 * big q) (hj : j.natAbs < 16 * big q) : IntMulOk i j := by
  have e : big (q + 1) ≤ 2 ^ 704 := Nat.pow_le_pow_right (by decide) (by omega)
  rw [big_s] at e
  exact mul_w (a := 705) (b := 704) (by omega) (by omega) (by decide) (by decide) (by decide)
theorem fmod_le (i : Int) {j : Int} (h : j ≠ 0) : (i.fmod j).natAbs ≤ j.natAbs := by
  have h1 := Int.emod_nonneg i h
  have h2 := Int.emod_lt i h
  rw [Int.fmod_eq_emod]
  split <;> omega

abbrev s_spans_done : Stmt := top 10
theorem sc_spans_done : FnScope ["_law_bag_here", "_law_spans", "_law_ticks", "_law_a", "_law_b", "_law_c", "_law_road", "_law_factor"] ["_law_bag_here", "_law_spans", "_law_ticks"] (defScope s_spans_done) := ⟨rfl, rfl, rfl, by decide +kernel, rfl, by decide +kernel, by decide +kernel⟩
/-- the cells: the bag, the spans, their integers, and others -/
abbrev cells (b sA tA : Addr) (d c n : Int) (xs : List V) (ns : List Int) (M : List (Addr × HO)) : List (Addr × HO) := (b, bagO d c n) :: (sA, .lst xs) :: (tA, .lst (ns.map V.int)) :: M
def sp_spans_done (K : PySem.W.Frag) (Z : Ad) : Sp := fun vs H Q _ => vs.length = 3 ∧ ∃ (B : Hp) (M : List (Addr × HO)) (b sA tA : Addr) (d c n : Int) (xs : List V) (ns : List Int) (q : Nat), vs = [.ref b, .ref sA, .ref tA] ∧ Wd B (cells b sA tA d c n xs ns M) H ∧ ns.length = 3 ∧ q ≤ 100 ∧ Tab (SpanAt Z B) (big q) xs ns ∧
  ∀ (B' : Hp) (d' c' n' : Int) (xs' : List V) (ns' : List Int) (H' : Hp), Ex B B' → ns'.length = 3 → Tab (SpanAt Z B') (big (q + 1)) xs' ns' → Wd B' (cells b sA tA d' c' n' xs' ns' M) H' → Q .non H'
theorem ok_spans_done {f : Addr} {fd : FuncData} (F : Fun K "_law_spans_done" "_law_spans_done" s_spans_done f fd) (T : Txt K mg Z) (D_take : Dn CX0 P w K mg base "_law_take" 1 ["_law_bag_here", "_law_many"] (sp_take K Z)) (M_Span_add : Mt CX0 P w K mg base Z.Span "__add__" 3 ["self", "other"] (sp_Span_add K Z)) (M_Span_sub : Mt CX0 P w K mg base Z.Span "__sub__" 3 ["self", "other"] (sp_Span_sub K Z)) (M_Span_neg : Mt CX0 P w K mg base Z.Span "__neg__" 3 ["self"] (sp_Span_neg K Z)) (M_Span_abs : Mt CX0 P w K mg base Z.Span "__abs__" 3 ["self"] (sp_Span_abs K Z)) (M_Span_mul : Mt CX0 P w K mg base Z.Span "__mul__" 3 ["self", "other"] (sp_Span_mul K Z)) (M_Span_rmul : Mt CX0 P w K mg base Z.Span "__rmul__" 3 ["self", "other"] (sp_Span_rmul K Z)) (M_Span_mod : Mt CX0 P w K mg base Z.Span "__mod__" 3 ["self", "other"] (sp_Span_mod K Z)) (M_Span_init : Mt CX0 P w K mg base Z.Span "__init__" 1 ["self", "ticks"] (sp_Span_init K Z)) (M_Span_floordiv : Mt CX0 P w K mg base Z.Span "__floordiv__" 1 ["self", "other"] (sp_Span_floordiv K Z)) : FnOk P w K mg base CX0 5 f fd ["_law_bag_here", "_law_spans", "_law_ticks"] (sp_spans_done K Z) := by
  refine F.ok sc_spans_done (fun vs H Q E h => h.1) (fun cdv A outer s H vs Q E hr h => ?_)
  obtain ⟨_, B, M, b, sA, tA, d, c, n, xs, ns, q, rfl, wd, hl, hq, hT, k⟩ := h
  refine ⟨_, (pss_cons (ps_par3 (i := 3) (j := 4) (l := 5) (by rfl) sc_spans_done.nd rfl rfl rfl (by decide) (by decide) (by decide) rfl rfl rfl (pa_cons (pe_dn D_take hr (by decide) rfl pass0 (pa_cons (pv 0) (pa_cons pe_int pa_nil))) (pa_cons (pe_dn D_take hr (by decide) rfl pass0 (pa_cons (pv 0) (pa_cons pe_int pa_nil))) (pa_cons (pe_dn D_take hr (by decide) rfl pass0 (pa_cons (pv 0) (pa_cons pe_int pa_nil))) pa_nil))) (by rfl))
      (pss_cons (ps_par (i := 6) (j := 7) (by rfl) sc_spans_done.nd rfl rfl (by decide) rfl rfl (pa_cons (pe_dn D_take hr (by decide) rfl pass0 (pa_cons (pv 0) (pa_cons pe_int pa_nil))) (pa_cons (pe_op op_sub (pe_dn D_take hr (by decide) rfl pass0 (pa_cons (pv 0) (pa_cons pe_int pa_nil))) pe_int) pa_nil)) (by rfl))
      (pss_cons (ps_hold (ps_if (pt_cmpR op_eq (pv 6) pe_int (nomark _))
      (pss_one (ps_asg (pe_tup (pa_cons (pe_op (op_own M_Span_add T.c_Span hr (by decide) pass0) (pe_ix ix_list (pv 1) (pv 3) (fun _ _ => rfl)) (pe_ix ix_list (pv 1) (pv 4) (fun _ _ => rfl))) (pa_cons (pe_op op_add (pe_ix ix_list (pv 2) (pv 3) (fun _ _ => rfl)) (pe_ix ix_list (pv 2) (pv 4) (fun _ _ => rfl))) pa_nil))) (pg_tup rfl (pgs_cons (pg_sub (pv 1) (pv 5) set_list) (pgs_cons (pg_sub (pv 2) (pv 5) set_list) pgs_nil)))))
      (pss_one (ps_if (pt_cmpR op_eq (pv 6) pe_int (nomark _))
      (pss_one (ps_asg (pe_tup (pa_cons (pe_op (op_own M_Span_sub T.c_Span hr (by decide) pass0) (pe_ix ix_list (pv 1) (pv 3) (fun _ _ => rfl)) (pe_ix ix_list (pv 1) (pv 4) (fun _ _ => rfl))) (pa_cons (pe_op op_sub (pe_ix ix_list (pv 2) (pv 3) (fun _ _ => rfl)) (pe_ix ix_list (pv 2) (pv 4) (fun _ _ => rfl))) pa_nil))) (pg_tup rfl (pgs_cons (pg_sub (pv 1) (pv 5) set_list) (pgs_cons (pg_sub (pv 2) (pv 5) set_list) pgs_nil)))))
      (pss_one (ps_if (pt_cmpR op_eq (pv 6) pe_int (nomark _))
      (pss_one (ps_asg (pe_tup (pa_cons (pe_un (un_own M_Span_neg hr (by decide) pass0) (pe_ix ix_list (pv 1) (pv 3) (fun _ _ => rfl))) (pa_cons (pe_un un_neg (pe_ix ix_list (pv 2) (pv 3) (fun _ _ => rfl))) pa_nil))) (pg_tup rfl (pgs_cons (pg_sub (pv 1) (pv 5) set_list) (pgs_cons (pg_sub (pv 2) (pv 5) set_list) pgs_nil)))))
      (pss_one (ps_if (pt_cmpR op_eq (pv 6) pe_int (nomark _))
      (pss_one (ps_asg (pe_tup (pa_cons (pe_callB (call_absO M_Span_abs hr (by decide) pass0) (by rfl) T.g_abs (by decide +kernel) (pa_cons (pe_ix ix_list (pv 1) (pv 3) (fun _ _ => rfl)) pa_nil)) (pa_cons (pe_callB c_abs (by rfl) T.g_abs (by decide +kernel) (pa_cons (pe_ix ix_list (pv 2) (pv 3) (fun _ _ => rfl)) pa_nil)) pa_nil))) (pg_tup rfl (pgs_cons (pg_sub (pv 1) (pv 5) set_list) (pgs_cons (pg_sub (pv 2) (pv 5) set_list) pgs_nil)))))
      (pss_one (ps_if (pt_cmpR op_eq (pv 6) pe_int (nomark _))
      (pss_one (ps_asg (pe_tup (pa_cons (pe_op (op_ownI M_Span_mul T.c_Span T.t_Span_mul_int hr (by decide) pass0) (pe_ix ix_list (pv 1) (pv 3) (fun _ _ => rfl)) (pv 7)) (pa_cons (pe_op op_mulA (pe_ix ix_list (pv 2) (pv 3) (fun _ _ => rfl)) (pv 7)) pa_nil))) (pg_tup rfl (pgs_cons (pg_sub (pv 1) (pv 5) set_list) (pgs_cons (pg_sub (pv 2) (pv 5) set_list) pgs_nil)))))
      (pss_one (ps_if (pt_cmpR op_eq (pv 6) pe_int (nomark _))
      (pss_one (ps_asg (pe_tup (pa_cons (pe_op (op_own M_Span_add T.c_Span hr (by decide) pass0) (pe_op (op_rmul M_Span_rmul T.c_Span T.r_Span hr (by decide) pass0) (pv 7) (pe_ix ix_list (pv 1) (pv 3) (fun _ _ => rfl))) (pe_ix ix_list (pv 1) (pv 4) (fun _ _ => rfl))) (pa_cons (pe_op op_add (pe_op op_mulA (pv 7) (pe_ix ix_list (pv 2) (pv 3) (fun _ _ => rfl))) (pe_ix ix_list (pv 2) (pv 4) (fun _ _ => rfl))) pa_nil))) (pg_tup rfl (pgs_cons (pg_sub (pv 1) (pv 5) set_list) (pgs_cons (pg_sub (pv 2) (pv 5) set_list) pgs_nil)))))
      (pss_one (ps_if (PW.pt (pw_and (pt_cmpR op_ne (pe_ix ix_list (pv 2) (pv 4) (fun _ _ => rfl)) pe_int (nomark _)) (pw_and1 (pt_cmpR op_eq (pv 6) pe_int (nomark _)))))
      (pss_one (ps_asg (pe_tup (pa_cons (pe_op (op_own M_Span_mod T.c_Span hr (by decide) pass0) (pe_ix ix_list (pv 1) (pv 3) (fun _ _ => rfl)) (pe_ix ix_list (pv 1) (pv 4) (fun _ _ => rfl))) (pa_cons (pe_op op_sub (pe_ix ix_list (pv 2) (pv 3) (fun _ _ => rfl)) (pe_op op_mulA (pe_op op_fdivZ (pe_ix ix_list (pv 2) (pv 3) (fun _ _ => rfl)) (pe_ix ix_list (pv 2) (pv 4) (fun _ _ => rfl))) (pe_ix ix_list (pv 2) (pv 4) (fun _ _ => rfl)))) pa_nil))) (pg_tup rfl (pgs_cons (pg_sub (pv 1) (pv 5) set_list) (pgs_cons (pg_sub (pv 2) (pv 5) set_list) pgs_nil)))))
      (pss_one (ps_if (pt_cmpR op_ne (pe_ix ix_list (pv 2) (pv 4) (fun _ _ => rfl)) pe_int (nomark _))
      (pss_one (ps_asg (pe_tup (pa_cons (pe_kl T.c_Span M_Span_init hr (by decide) rfl pass0 (pa_cons (pe_op (op_own M_Span_floordiv T.c_Span hr (by decide) pass0) (pe_ix ix_list (pv 1) (pv 3) (fun _ _ => rfl)) (pe_ix ix_list (pv 1) (pv 4) (fun _ _ => rfl))) pa_nil)) (pa_cons (pe_op op_fdivZ (pe_ix ix_list (pv 2) (pv 3) (fun _ _ => rfl)) (pe_ix ix_list (pv 2) (pv 4) (fun _ _ => rfl))) pa_nil))) (pg_tup rfl (pgs_cons (pg_sub (pv 1) (pv 5) set_list) (pgs_cons (pg_sub (pv 2) (pv 5) set_list) pgs_nil)))))
      pss_nil))))))))))))))))
      (pss_one (ps_if (pt_cmpR op_ge (pe_callB c_abs (by rfl) T.g_abs (by decide +kernel) (pa_cons (pe_ix ix_list (pv 2) (pv 5) (fun _ _ => rfl)) pa_nil)) (pe_op op_pow pe_int pe_int) (nomark _))
      (pss_one (ps_asg (pe_tup (pa_cons (pe_op (op_own M_Span_mod T.c_Span hr (by decide) pass0) (pe_ix ix_list (pv 1) (pv 5) (fun _ _ => rfl)) (pe_kl T.c_Span M_Span_init hr (by decide) rfl pass0 (pa_cons (pe_op op_pow pe_int pe_int) pa_nil))) (pa_cons (pe_op op_sub (pe_ix ix_list (pv 2) (pv 5) (fun _ _ => rfl)) (pe_op op_mulA (pe_op op_fdivZ (pe_ix ix_list (pv 2) (pv 5) (fun _ _ => rfl)) (pe_op op_pow pe_int pe_int)) (pe_op op_pow pe_int pe_int))) pa_nil))) (pg_tup rfl (pgs_cons (pg_sub (pv 1) (pv 5) set_list) (pgs_cons (pg_sub (pv 2) (pv 5) set_list) pgs_nil)))))
      pss_nil))))), ?_⟩
  walk_at "sx"
  refine u_take0 wd (by decide) (by decide +kernel) fun a d1 n1 H1 a0 a1 wd => ?_
  walk_at "sx"
  refine u_take0 wd (by decide) (by decide +kernel) fun b' d2 n2 H2 b0 b1 wd => ?_
  walk_at "sx"
  refine u_take0 wd (by decide) (by decide +kernel) fun c' d3 n3 H3 c0 c1 wd => ?_
  walk_at "sx"
  refine u_take0 wd (by decide) (by decide +kernel) fun r d4 n4 H4 r0 r1 wd => ?_
  walk_at "sx"
  refine u_take0 wd (by decide) (by decide +kernel) fun f d5 n5 H5 f0 f1 wd => ?_
  walk_at "sx"
  obtain ⟨xa, na, hxa, hna, sa, ba⟩ := hT.at hl a0 (show a < (3 : Nat) by omega)
  obtain ⟨xb, nb, hxb, hnb, sb, bb⟩ := hT.at hl b0 (show b' < (3 : Nat) by omega)
  have hc : ixN xs.length c' = some c'.toNat := ixN_in c0 (by rw [hT.1, hl]; omega)
  have hc2 : ixN (ns.map V.int).length c' = some c'.toNat := ixN_in c0 (by rw [List.length_map, hl]; omega)
  have bs := big_s q
  have b60 := big_60 q
  obtain ⟨J, hJ⟩ : ∃ J : L2.St → Hp → Prop, J = fun σ' H' => ∃ (B' : Hp) (xs' : List V) (ns' : List Int), σ' = [some (.ref b), some (.ref sA), some (.ref tA), some (.int a), some (.int b'), some (.int c'), some (.int r), some (.int (f - 9))] ∧ Ex B B' ∧ ns'.length = 3 ∧ Tab (SpanAt Z B') (big (q + 1)) xs' ns' ∧ Wd B' (cells b sA tA d5 c n5 xs' ns' M) H' := ⟨_, rfl⟩
  have fin : ∀ (x : Addr) (v v' : Int) (B' H' : Hp), Ex B B' → SpanAt Z B' x v → v = v' → v.natAbs < 16 * big q → Wd B' ((b, bagO d5 c n5) :: (sA, .lst (xs.set c'.toNat (.ref x))) :: (tA, .lst ((ns.map V.int).set c'.toNat (.int v'))) :: M) H' →
      J [some (.ref b), some (.ref sA), some (.ref tA), some (.int a), some (.int b'), some (.int c'), some (.int r), some (.int (f - 9))] H' := by
    rintro x v _ B' H' e hx rfl hv w
    rw [map_set_int] at w
    rw [hJ]
    exact ⟨B', _, _, rfl, e, by rw [List.length_set]; exact hl, by rw [bs]; exact (hT.up (fun _ _ z => z.up e) (by omega)).set hx hv _, w⟩
  refine x_hold J ?h1 ?h2
  case h1 =>
    rw [hJ]
    rintro σ' H' ⟨B', xs', ns', rfl, e', hl', hT', wd'⟩
    obtain ⟨xc, nc, hxc, hnc, sc, bc⟩ := hT'.at hl' c0 (show c' < (3 : Nat) by omega)
    have hc' : ixN xs'.length c' = some c'.toNat := ixN_in c0 (by rw [hT'.1, hl']; omega)
    have hc2' : ixN (ns'.map V.int).length c' = some c'.toNat := ixN_in c0 (by rw [List.length_map, hl']; omega)
    have t0 : (10 : Int) ^ (50 : Int).toNat ≠ 0 := by decide
    have t9 : ((10 : Int) ^ (50 : Int).toNat).natAbs.log2 < 9000 := by decide +kernel
    have tq : IntMulOk (nc.fdiv (10 ^ (50 : Int).toNat)) (10 ^ (50 : Int).toNat) := by
      have := fdiv_abs nc (10 ^ (50 : Int).toNat)
      have h10 : ((10 : Int) ^ (50 : Int).toNat).natAbs < 16 * big q := by
        have : ((10 : Int) ^ (50 : Int).toNat).natAbs < 10 ^ 60 := by decide
        omega
      exact big_w2 hq (by omega) h10
    have hm : (nc.fmod (10 ^ (50 : Int).toNat)).natAbs < big (q + 1) := by
      have h1 := fmod_le nc t0
      have : ((10 : Int) ^ (50 : Int).toNat).natAbs < 10 ^ 60 := by decide
      omega
    walk_at "sx"
    refine i_d (fun e0 => ?_) (fun e0 => ?_)
    · walk_at "sx"
      rename_i w'
      rw [← Sy.fmod_eq, map_set_int] at w'
      refine k _ _ _ _ _ _ _ ?_ ?_ ?_ w'
      · walk_at "ex"
      · rw [List.length_set]; exact hl'
      · exact (hT'.up (fun _ _ z => by walk_at "sp") (Nat.le_refl _)).set (by walk_at "sp") hm _
    · walk_at "sx"
      exact k _ _ _ _ _ _ _ e' hl' hT' wd'
  case h2 =>
    intro N hN
    have bmul : IntMulOk na (f - 9) := big_w hq (by omega) (by omega)
    have bmul2 : IntMulOk (f - 9) na := big_w hq (by omega) (by omega)
    have bm : (na * (f - 9)).natAbs ≤ na.natAbs * 9 := by rw [Int.natAbs_mul]; exact Nat.mul_le_mul_left _ (by omega)
    have bm2 : ((f - 9) * na).natAbs ≤ na.natAbs * 9 := by rw [Int.mul_comm]; exact bm
    walk_at "sx"
    refine i_d (fun e0 => ?_) (fun e0 => ?_)
    · walk_at "sx"
      refine' hN _ _ (fin _ _ _ _ _ ?e ?s ?v ?n ?w)
      case w => assumption
      case e => walk_at "ex"
      case s => walk_at "sp"
      case v => exact rfl
      case n => omega
    walk_at "sx"
    refine i_d (fun e0 => ?_) (fun e0 => ?_)
    · walk_at "sx"
      refine' hN _ _ (fin _ _ _ _ _ ?e ?s ?v ?n ?w)
      case w => assumption
      case e => walk_at "ex"
      case s => walk_at "sp"
      case v => exact rfl
      case n => omega
    walk_at "sx"
    refine i_d (fun e0 => ?_) (fun e0 => ?_)
    · walk_at "sx"
      refine' hN _ _ (fin _ _ _ _ _ ?e ?s ?v ?n ?w)
      case w => assumption
      case e => walk_at "ex"
      case s => walk_at "sp"
      case v => exact rfl
      case n => omega
    walk_at "sx"
    refine i_d (fun e0 => ?_) (fun e0 => ?_)
    · walk_at "sx"
      refine' hN _ _ (fin _ _ _ _ _ ?e ?s ?v ?n ?w)
      case w => assumption
      case e => walk_at "ex"
      case s => walk_at "sp"
      case v => exact rfl
      case n => split <;> omega
    walk_at "sx"
    refine i_d (fun e0 => ?_) (fun e0 => ?_)
    · walk_at "sx"
      refine' hN _ _ (fin _ _ _ _ _ ?e ?s ?v ?n ?w)
      case w => assumption
      case e => walk_at "ex"
      case s => walk_at "sp"
      case v => exact rfl
      case n => omega
    walk_at "sx"
    refine i_d (fun e0 => ?_) (fun e0 => ?_)
    · walk_at "sx"
      refine' hN _ _ (fin _ _ _ _ _ ?e ?s ?v ?n ?w)
      case w => assumption
      case e => walk_at "ex"
      case s => walk_at "sp"
      case v => exact rfl
      case n => omega
    walk_at "sx"
    have same : J [some (.ref b), some (.ref sA), some (.ref tA), some (.int a), some (.int b'), some (.int c'), some (.int r), some (.int (f - 9))] H5 := by
      rw [hJ]
      exact ⟨B, xs, ns, rfl, Ex.rf B, hl, hT.up (fun _ _ z => z) (by omega), wd⟩
    refine i_nd (fun n0 => ?_) (fun n0 => ?_)
    · have n9 := big_log hq (i := nb) (by omega)
      have qm : IntMulOk (na.fdiv nb) nb := by
        have := fdiv_abs na nb
        exact big_w2 hq (by omega) (by omega)
      have qa := fdiv_abs na nb
      have qb := fmod_le na n0
      walk_at "sx"
      refine i_d (fun e0 => ?_) (fun e0 => ?_)
      · walk_at "sx"
        refine' hN _ _ (fin _ _ _ _ _ ?e ?s ?v ?n ?w)
        case w => assumption
        case e => walk_at "ex"
        case s => walk_at "sp"
        case v => exact Sy.fmod_eq _ _
        case n => omega
      · walk_at "sx"
        refine' hN _ _ (fin _ _ _ _ _ ?e ?s ?v ?n ?w)
        case w => assumption
        case e => walk_at "ex"
        case s => walk_at "sp"
        case v => exact rfl
        case n => omega
    · walk_at "sx"
      exact hN _ _ same
theorem u_spans_done {K : PySem.W.Frag} {Z : Ad} {B H : Hp} {M : List (Addr × HO)} {b sA tA : Addr} {d c n : Int} {xs : List V} {ns : List Int} {q : Nat} {Q : VK} {E : XK} (w : Wd B (cells b sA tA d c n xs ns M) H) (hl : ns.length = 3) (hq : q ≤ 100) (hT : Tab (SpanAt Z B) (big q) xs ns)
    (h : ∀ (B' : Hp) (d' c' n' : Int) (xs' : List V) (ns' : List Int) (H' : Hp), Ex B B' → ns'.length = 3 → Tab (SpanAt Z B') (big (q + 1)) xs' ns' → Wd B' (cells b sA tA d' c' n' xs' ns' M) H' → Q .non H') :
    sp_spans_done K Z [.ref b, .ref sA, .ref tA] H Q E := ⟨rfl, B, M, b, sA, tA, d, c, n, xs, ns, q, rfl, w, hl, hq, hT, h⟩
abbrev s_moments_done : Stmt := top 11
theorem sc_moments_done : FnScope ["_law_bag_here", "_law_moments", "_law_points", "_law_spans", "_law_ticks", "_law_a", "_law_m", "_law_n", "_law_road"] ["_law_bag_here", "_law_moments", "_law_points", "_law_spans", "_law_ticks"] (defScope s_moments_done) := ⟨rfl, rfl, rfl, by decide +kernel, rfl, by decide +kernel, by decide +kernel⟩
abbrev s_agree : Stmt := top 12
theorem sc_agree : FnScope ["_law_spans", "_law_ticks", "_law_moments", "_law_points", "_law_span", "_law_due", "_law_moment"] ["_law_spans", "_law_ticks", "_law_moments", "_law_points"] (defScope s_agree) := ⟨rfl, rfl, rfl, by decide +kernel, rfl, by decide +kernel, by decide +kernel⟩
abbrev cells2 (mA pA : Addr) (ms : List V) (ps : List Int) (M : List (Addr × HO)) : List (Addr × HO) := (mA, .lst ms) :: (pA, .lst (ps.map V.int)) :: M
def sp_moments_done (K : PySem.W.Frag) (Z : Ad) : Sp := fun vs H Q _ => vs.length = 5 ∧ ∃ (B : Hp) (M : List (Addr × HO)) (b sA tA mA pA : Addr) (d c n : Int) (xs : List V) (ns : List Int) (ms : List V) (ps : List Int) (q : Nat), vs = [.ref b, .ref mA, .ref pA, .ref sA, .ref tA] ∧
  Wd B (cells b sA tA d c n xs ns (cells2 mA pA ms ps M)) H ∧ ns.length = 3 ∧ ps.length = 2 ∧ q ≤ 100 ∧ Tab (SpanAt Z B) (big q) xs ns ∧ Tab (MomAt Z B) (big q) ms ps ∧
  ∀ (B' : Hp) (d' c' n' : Int) (xs' : List V) (ns' : List Int) (ms' : List V) (ps' : List Int) (H' : Hp), Ex B B' → ns'.length = 3 → ps'.length = 2 → Tab (SpanAt Z B') (big (q + 1)) xs' ns' → Tab (MomAt Z B') (big (q + 1)) ms' ps' → Wd B' (cells b sA tA d' c' n' xs' ns' (cells2 mA pA ms' ps' M)) H' → Q .non H'
theorem ok_moments_done {f : Addr} {fd : FuncData} (F : Fun K "_law_moments_done" "_law_moments_done" s_moments_done f fd) (T : Txt K mg Z) (D_take : Dn CX0 P w K mg base "_law_take" 1 ["_law_bag_here", "_law_many"] (sp_take K Z)) (M_Moment_add : Mt CX0 P w K mg base Z.Moment "__add__" 3 ["self", "other"] (sp_Moment_add K Z)) (N_Span_add : Mn P w K mg base Z.Span "__add__" 1 ["self", "other"] (spn_Span_add K Z)) (M_Moment_radd : Mt CX0 P w K mg base Z.Moment "__radd__" 3 ["self", "other"] (sp_Moment_radd K Z)) (M_Moment_sub : Mt CX0 P w K mg base Z.Moment "__sub__" 3 ["self", "other"] (sp_Moment_sub K Z)) : FnOk P w K mg base CX0 4 f fd ["_law_bag_here", "_law_moments", "_law_points", "_law_spans", "_law_ticks"] (sp_moments_done K Z) := by
  refine F.ok sc_moments_done (fun vs H Q E h => h.1) (fun cdv A outer s H vs Q E hr h => ?_)
  obtain ⟨_, B, M, b, sA, tA, mA, pA, d, c, n, xs, ns, ms, ps, q, rfl, wd, hl, hlp, hq, hT, hP, k⟩ := h
  refine ⟨_, (pss_cons (ps_par3 (i := 5) (j := 6) (l := 7) (by rfl) sc_moments_done.nd rfl rfl rfl (by decide) (by decide) (by decide) rfl rfl rfl (pa_cons (pe_dn D_take hr (by decide) rfl pass0 (pa_cons (pv 0) (pa_cons pe_int pa_nil))) (pa_cons (pe_dn D_take hr (by decide) rfl pass0 (pa_cons (pv 0) (pa_cons pe_int pa_nil))) (pa_cons (pe_dn D_take hr (by decide) rfl pass0 (pa_cons (pv 0) (pa_cons pe_int pa_nil))) pa_nil))) (by rfl))
      (pss_cons (ps_set (i := 8) sc_moments_done.nd rfl (Or.inl rfl) (pe_dn D_take hr (by decide) rfl pass0 (pa_cons (pv 0) (pa_cons pe_int pa_nil))))
      (pss_one (ps_if (pt_cmpR op_eq (pv 8) pe_int (nomark _))
      (pss_one (ps_asg (pe_tup (pa_cons (pe_op (op_OO M_Moment_add T.c_Moment T.c_Span T.b_Moment_Span_add hr (by decide) pass0) (pe_ix ix_list (pv 1) (pv 6) (fun _ _ => rfl)) (pe_ix ix_list (pv 3) (pv 5) (fun _ _ => rfl))) (pa_cons (pe_op op_add (pe_ix ix_list (pv 2) (pv 6) (fun _ _ => rfl)) (pe_ix ix_list (pv 4) (pv 5) (fun _ _ => rfl))) pa_nil))) (pg_tup rfl (pgs_cons (pg_sub (pv 1) (pv 7) set_list) (pgs_cons (pg_sub (pv 2) (pv 7) set_list) pgs_nil)))))
      (pss_one (ps_if (pt_cmpR op_eq (pv 8) pe_int (nomark _))
      (pss_one (ps_asg (pe_tup (pa_cons (pe_op (op_OR N_Span_add M_Moment_radd T.c_Span T.c_Moment T.b_Span_Moment_add hr (by decide) (by decide) pass0) (pe_ix ix_list (pv 3) (pv 5) (fun _ _ => rfl)) (pe_ix ix_list (pv 1) (pv 6) (fun _ _ => rfl))) (pa_cons (pe_op op_add (pe_ix ix_list (pv 2) (pv 6) (fun _ _ => rfl)) (pe_ix ix_list (pv 4) (pv 5) (fun _ _ => rfl))) pa_nil))) (pg_tup rfl (pgs_cons (pg_sub (pv 1) (pv 7) set_list) (pgs_cons (pg_sub (pv 2) (pv 7) set_list) pgs_nil)))))
      (pss_one (ps_if (pt_cmpR op_eq (pv 8) pe_int (nomark _))
      (pss_one (ps_asg (pe_tup (pa_cons (pe_op (op_OO M_Moment_sub T.c_Moment T.c_Span T.b_Moment_Span_sub hr (by decide) pass0) (pe_ix ix_list (pv 1) (pv 6) (fun _ _ => rfl)) (pe_ix ix_list (pv 3) (pv 5) (fun _ _ => rfl))) (pa_cons (pe_op op_sub (pe_ix ix_list (pv 2) (pv 6) (fun _ _ => rfl)) (pe_ix ix_list (pv 4) (pv 5) (fun _ _ => rfl))) pa_nil))) (pg_tup rfl (pgs_cons (pg_sub (pv 1) (pv 7) set_list) (pgs_cons (pg_sub (pv 2) (pv 7) set_list) pgs_nil)))))
      (pss_one (ps_asg (pe_tup (pa_cons (pe_op (op_own M_Moment_sub T.c_Moment hr (by decide) pass0) (pe_ix ix_list (pv 1) (pv 6) (fun _ _ => rfl)) (pe_ix ix_list (pv 1) (pv 7) (fun _ _ => rfl))) (pa_cons (pe_op op_sub (pe_ix ix_list (pv 2) (pv 6) (fun _ _ => rfl)) (pe_ix ix_list (pv 2) (pv 7) (fun _ _ => rfl))) pa_nil))) (pg_tup rfl (pgs_cons (pg_sub (pv 3) (pv 5) set_list) (pgs_cons (pg_sub (pv 4) (pv 5) set_list) pgs_nil))))))))))))), ?_⟩
  walk_at "sx"
  refine u_take0 wd (by decide) (by decide +kernel) fun a d1 n1 H1 a0 a1 wd => ?_
  walk_at "sx"
  refine u_take0 wd (by decide) (by decide +kernel) fun m d2 n2 H2 m0 m1 wd => ?_
  walk_at "sx"
  refine u_take0 wd (by decide) (by decide +kernel) fun i d3 n3 H3 i0 i1 wd => ?_
  walk_at "sx"
  refine u_take0 wd (by decide) (by decide +kernel) fun r d4 n4 H4 r0 r1 wd => ?_
  walk_at "sx"
  obtain ⟨xa, na, hxa, hna, sa, ba⟩ := hT.at hl a0 (show a < (3 : Nat) by omega)
  obtain ⟨xm, nm, hxm, hnm, sm, bm⟩ := hP.at hlp m0 (show m < (2 : Nat) by omega)
  obtain ⟨xi, ni, hxi, hni, si, bi⟩ := hP.at hlp i0 (show i < (2 : Nat) by omega)
  have hc : ixN xs.length a = some a.toNat := ixN_in a0 (by rw [hT.1, hl]; omega)
  have hc2 : ixN (ns.map V.int).length a = some a.toNat := ixN_in a0 (by rw [List.length_map, hl]; omega)
  have hd : ixN ms.length i = some i.toNat := ixN_in i0 (by rw [hP.1, hlp]; omega)
  have hd2 : ixN (ps.map V.int).length i = some i.toNat := ixN_in i0 (by rw [List.length_map, hlp]; omega)
  have bs := big_s q
  have finM : ∀ (x : Addr) (v : Int) (B' H' : Hp), Ex B B' → MomAt Z B' x v → v.natAbs < 16 * big q → Wd B' ((b, bagO d4 c n4) :: (sA, .lst xs) :: (tA, .lst (ns.map V.int)) :: (mA, .lst (ms.set i.toNat (.ref x))) :: (pA, .lst ((ps.map V.int).set i.toNat (.int v))) :: M) H' → Q .non H' := by
    intro x v B' H' e hx hv w
    rw [map_set_int] at w
    refine k B' _ _ _ _ _ _ _ H' e hl ?_ ?_ ?_ w
    · rw [List.length_set]; exact hlp
    · exact hT.up (fun _ _ z => z.up e) (by omega)
    · rw [bs]; exact (hP.up (fun _ _ z => z.up e) (by omega)).set hx hv _
  have finS : ∀ (x : Addr) (v : Int) (B' H' : Hp), Ex B B' → SpanAt Z B' x v → v.natAbs < 16 * big q → Wd B' ((b, bagO d4 c n4) :: (sA, .lst (xs.set a.toNat (.ref x))) :: (tA, .lst ((ns.map V.int).set a.toNat (.int v))) :: (mA, .lst ms) :: (pA, .lst (ps.map V.int)) :: M) H' → Q .non H' := by
    intro x v B' H' e hx hv w
    rw [map_set_int] at w
    refine k B' _ _ _ _ _ _ _ H' e ?_ hlp ?_ ?_ w
    · rw [List.length_set]; exact hl
    · rw [bs]; exact (hT.up (fun _ _ z => z.up e) (by omega)).set hx hv _
    · exact hP.up (fun _ _ z => z.up e) (by omega)
  refine i_d (fun e0 => ?_) (fun e0 => ?_)
  · walk_at "sx"
    refine' finM _ _ _ _ ?e ?s ?n ?w
    case w => assumption
    case e => walk_at "ex"
    case s => walk_at "mo"
    case n => omega
  walk_at "sx"
  refine i_d (fun e0 => ?_) (fun e0 => ?_)
  · walk_at "sx"
    refine' finM _ _ _ _ ?e ?s ?n ?w
    case w => assumption
    case e => walk_at "ex"
    case s => first | walk_at "mo" | (rw [Int.add_comm]; walk_at "mo")
    case n => omega
  walk_at "sx"
  refine i_d (fun e0 => ?_) (fun e0 => ?_)
  · walk_at "sx"
    refine' finM _ _ _ _ ?e ?s ?n ?w
    case w => assumption
    case e => walk_at "ex"
    case s => walk_at "mo"
    case n => omega
  · walk_at "sx"
    refine' finS _ _ _ _ ?e ?s ?n ?w
    case w => assumption
    case e => walk_at "ex"
    case s => walk_at "sp"
    case n => omega
theorem u_moments_done {K : PySem.W.Frag} {Z : Ad} {B H : Hp} {M : List (Addr × HO)} {b sA tA mA pA : Addr} {d c n : Int} {xs : List V} {ns : List Int} {ms : List V} {ps : List Int} {q : Nat} {Q : VK} {E : XK} (w : Wd B (cells b sA tA d c n xs ns (cells2 mA pA ms ps M)) H) (hl : ns.length = 3) (hlp : ps.length = 2) (hq : q ≤ 100)
    (hT : Tab (SpanAt Z B) (big q) xs ns) (hP : Tab (MomAt Z B) (big q) ms ps)
    (h : ∀ (B' : Hp) (d' c' n' : Int) (xs' : List V) (ns' : List Int) (ms' : List V) (ps' : List Int) (H' : Hp), Ex B B' → ns'.length = 3 → ps'.length = 2 → Tab (SpanAt Z B') (big (q + 1)) xs' ns' → Tab (MomAt Z B') (big (q + 1)) ms' ps' → Wd B' (cells b sA tA d' c' n' xs' ns' (cells2 mA pA ms' ps' M)) H' → Q .non H') :
    sp_moments_done K Z [.ref b, .ref mA, .ref pA, .ref sA, .ref tA] H Q E := ⟨rfl, B, M, b, sA, tA, mA, pA, d, c, n, xs, ns, ms, ps, q, rfl, w, hl, hlp, hq, hT, hP, h⟩
/-- a list of this stands, whatever else changes -/
def Stay (K : PySem.W.Frag) (B : Hp) (M : List (Addr × HO)) (a : Addr) (xs : List V) : Prop := ∀ B' H', Ex B B' → Wd B' M H' → SqL K H' a xs
def sp_agree (K : PySem.W.Frag) (Z : Ad) : Sp := fun vs H Q _ => vs.length = 4 ∧ ∃ (B : Hp) (M : List (Addr × HO)) (sA tA mA pA : Addr) (xs : List V) (ns : List Int) (ms : List V) (ps : List Int), vs = [.ref sA, .ref tA, .ref mA, .ref pA] ∧ Wd B M H ∧
  Stay K B M sA xs ∧ Stay K B M tA (ns.map V.int) ∧ Stay K B M mA ms ∧ Stay K B M pA (ps.map V.int) ∧ (∃ N, Tab (SpanAt Z B) N xs ns) ∧ (∃ N, Tab (MomAt Z B) N ms ps) ∧ ∀ B' H', Ex B B' → Wd B' M H' → Q (.bl true) H'
theorem _root_.Sy.Tab.pair {P : Addr → Int → Prop} {N : Nat} {xs : List V} {ns : List Int} (h : Tab P N xs ns) {i : Nat} {x y : V} (hx : xs[i]? = some x) (hy : (ns.map V.int)[i]? = some y) : ∃ a n, x = .ref a ∧ y = .int n ∧ P a n := by
  obtain ⟨a, n, e1, e2, e3, _⟩ := h.2 i x hx
  rw [List.getElem?_map, e2] at hy
  exact ⟨a, n, e1, (Option.some.inj hy).symm, e3⟩
theorem ok_agree {f : Addr} {fd : FuncData} (F : Fun K "_law_agree" "_law_agree" s_agree f fd) (T : Txt K mg Z) (D_is_span : Dn CX0 P w K mg base "_law_is_span" 2 ["_law_thing", "_law_due"] (sp_is_span K Z)) (D_is_number : Dn CX0 P w K mg base "_law_is_number" 1 ["_law_thing", "_law_due"] (sp_is_number K Z)) : FnOk P w K mg base CX0 3 f fd ["_law_spans", "_law_ticks", "_law_moments", "_law_points"] (sp_agree K Z) := by
  refine F.ok sc_agree (fun vs H Q E h => h.1) (fun cdv A outer s H vs Q E hr h => ?_)
  obtain ⟨_, B, M, sA, tA, mA, pA, xs, ns, ms, ps, rfl, wd, h1, h2, h3, h4, ⟨N1, hT⟩, ⟨N2, hP⟩, k⟩ := h
  refine ⟨_, (pss_cons (ps_for PassesOwn.never rfl (pi_zip (by rfl) T.g_zip (pa_cons (pv 0) (pa_cons (pv 1) pa_nil))) (pg_tup rfl (pgs_cons (pg_name (i := 4) sc_agree.nd rfl (Or.inl rfl)) (pgs_cons (pg_name (i := 5) sc_agree.nd rfl (Or.inl rfl)) pgs_nil)))
      (pss_one (ps_if (pt_not (pt_val (pe_dn D_is_span hr (by decide) rfl pass0 (pa_cons (pv 4) (pa_cons (pv 5) pa_nil)))))
      (pss_one (ps_ret pe_bl))
      pss_nil)))
      (pss_cons (ps_for PassesOwn.never rfl (pi_zip (by rfl) T.g_zip (pa_cons (pv 2) (pa_cons (pv 3) pa_nil))) (pg_tup rfl (pgs_cons (pg_name (i := 6) sc_agree.nd rfl (Or.inl rfl)) (pgs_cons (pg_name (i := 5) sc_agree.nd rfl (Or.inl rfl)) pgs_nil)))
      (pss_one (ps_if (PW.pt (pw_or (pt_not (pt_val (pe_callB call_isi (by rfl) T.g_isinstance (by decide +kernel) (pa_cons (pv 6) (pa_cons (pe_kn T.c_Moment rfl) pa_nil))))) (pw_or1 (pt_not (pt_val (pe_dn D_is_number hr (by decide) rfl pass0 (pa_cons (pe_fld (pv 6) rfl) (pa_cons (pv 5) pa_nil))))))))
      (pss_one (ps_ret pe_bl))
      pss_nil)))
      (pss_one (ps_ret pe_bl)))), ?_⟩
  walk_at "sx"
  refine x_forZ (xs := xs) (ys := ns.map V.int) (fun n σ' H' => ∃ (v1 v2 v3 : Option V) (B' : Hp), σ' = [some (.ref sA), some (.ref tA), some (.ref mA), some (.ref pA), v1, v2, v3] ∧ Wd B' M H' ∧ Ex B B') (h1 _ _ (Ex.rf _) wd) (h2 _ _ (Ex.rf _) wd) (by rw [List.length_map]; exact hT.1) ⟨_, _, _, _, rfl, wd, Ex.rf _⟩
    (fun n σ' H' ⟨_, _, _, B', _, w, e⟩ => ⟨h1 _ _ e w, h2 _ _ e w⟩) ?hs ?hd
  case hs =>
    rintro i x y T σ' H' hx hy ⟨v1, v2, v3, B', rfl, w, e⟩ nT
    obtain ⟨a, n, rfl, rfl, hs⟩ := hT.pair hx hy
    have w1 := w.alloc nT (.tup [V.ref a, V.int n])
    have e1 : Ex B' (upd B' T (.tup [V.ref a, V.int n])) := Ex.new (w.free nT)
    have t1 : upd B' T (.tup [V.ref a, V.int n]) T = some (.tup [V.ref a, V.int n]) := upd_same
    walk_at "sx"
    exact ⟨_, _, _, _, rfl, by assumption, e.tr e1⟩
  case hd =>
    rintro σ' H' ⟨v1, v2, v3, B', rfl, w, e⟩
    walk_at "sx"
    refine x_forZ (xs := ms) (ys := ps.map V.int) (fun n σ' H' => ∃ (v1 v2 v3 : Option V) (B' : Hp), σ' = [some (.ref sA), some (.ref tA), some (.ref mA), some (.ref pA), v1, v2, v3] ∧ Wd B' M H' ∧ Ex B B') (h3 _ _ e w) (h4 _ _ e w) (by rw [List.length_map]; exact hP.1) ⟨_, _, _, _, rfl, w, e⟩
      (fun n σ' H' ⟨_, _, _, B', _, w, e⟩ => ⟨h3 _ _ e w, h4 _ _ e w⟩) ?hs2 ?hd2
    case hs2 =>
      rintro i x y T σ' H' hx hy ⟨v1, v2, v3, B', rfl, w, e⟩ nT
      obtain ⟨a, n, rfl, rfl, dx, hs⟩ := hP.pair hx hy
      have w1 := w.alloc nT (.tup [V.ref a, V.int n])
      have e1 : Ex B' (upd B' T (.tup [V.ref a, V.int n])) := Ex.new (w.free nT)
      have t1 : upd B' T (.tup [V.ref a, V.int n]) T = some (.tup [V.ref a, V.int n]) := upd_same
      walk_at "sx"
      exact ⟨_, _, _, _, rfl, by assumption, e.tr e1⟩
    case hd2 =>
      rintro σ' H' ⟨v1, v2, v3, B', rfl, w, e⟩
      walk_at "sx"
      exact k _ _ e w
theorem u_agree {K : PySem.W.Frag} {Z : Ad} {B H : Hp} {M : List (Addr × HO)} {sA tA mA pA : Addr} {xs : List V} {ns : List Int} {ms : List V} {ps : List Int} {N1 N2 : Nat} {Q : VK} {E : XK} (w : Wd B M H)
    (h1 : Stay K B M sA xs) (h2 : Stay K B M tA (ns.map V.int)) (h3 : Stay K B M mA ms) (h4 : Stay K B M pA (ps.map V.int)) (hT : Tab (SpanAt Z B) N1 xs ns) (hP : Tab (MomAt Z B) N2 ms ps) (h : ∀ B' H', Ex B B' → Wd B' M H' → Q (.bl true) H') :
    sp_agree K Z [.ref sA, .ref tA, .ref mA, .ref pA] H Q E := ⟨rfl, B, M, sA, tA, mA, pA, xs, ns, ms, ps, rfl, w, h1, h2, h3, h4, ⟨N1, hT⟩, ⟨N2, hP⟩, h⟩
def sp_law (K : PySem.W.Frag) : Sp := fun vs H Q _ => vs.length = 1 ∧ ∃ (a : Addr) (ns : List Int), vs = [.ref a] ∧ SqL K H a (ns.map V.int) ∧ ns.length ≤ 63 ∧ ∀ H', Q (.bl true) H'

abbrev s_law : Stmt := top 13
theorem sc_law : FnScope ["_law_script", "_law_bag_here", "_law_ticks", "_law_points", "_law_spans", "_law_moments", "_law_kept", "_law_total", "_law_sum_due", "_law_before", "_law_totals", "_law_sums", "_law_place", "_law_turn", "_law_one"] ["_law_script"] (defScope s_law) := ⟨rfl, rfl, rfl, by decide +kernel, rfl, by decide +kernel, by decide +kernel⟩
theorem map_get {ns : List Int} {i : Nat} {x : V} (h : (ns.map V.int)[i]? = some x) : ∃ n, x = .int n ∧ ns[i]? = some n := by
  rw [List.getElem?_map] at h
  cases e : ns[i]? with
  | none => rw [e] at h; cases h
  | some n => rw [e] at h; exact ⟨n, (Option.some.inj h).symm, rfl⟩
/-- what stands between two turns -/
def J5 (K : PySem.W.Frag) (Z : Ad) (a tA pA sA mA kA bA toA suA : Addr) (BK : Hp) (M0 : List (Addr × HO)) (v1 v12 : Option V) (M1 : List (Addr × HO)) (q : Nat) (σ' : L2.St) (H' : Hp) : Prop :=
  ∃ (v13 v14 : Option V) (B : Hp) (xs : List V) (ns : List Int) (ms : List V) (ps : List Int) (ts : List V) (us : List Int) (x : Addr) (z : Int) (N : Nat),
    σ' = [some (.ref a), v1, some (.ref tA), some (.ref pA), some (.ref sA), some (.ref mA), some (.ref kA), some (.ref x), some (.int z), some (.ref bA), some (.ref toA), some (.ref suA), v12, v13, v14] ∧
    Wd B (M1 ++ (sA, .lst xs) :: (tA, .lst (ns.map V.int)) :: (mA, .lst ms) :: (pA, .lst (ps.map V.int)) :: (toA, .lst ts) :: (suA, .lst (us.map V.int)) :: M0) H' ∧ Ex BK B ∧ ns.length = 3 ∧ ps.length = 2 ∧
    Tab (SpanAt Z B) (big q) xs ns ∧ Tab (MomAt Z B) (big q) ms ps ∧ SpanAt Z B x z ∧ Tab (SpanAt Z B) N ts us ∧ us.length ≤ q
theorem ok_law {f : Addr} {fd : FuncData} (F : Fun K "law" "law" s_law f fd) (T : Txt K mg Z) (D_bag : Dn CX0 P w K mg base "_law_bag" 1 ["_law_script", "_law_at"] (sp_bag K Z)) (D_number : Dn CX0 P w K mg base "_law_number" 2 ["_law_bag_here"] (sp_number K Z)) (M_Span_init : Mt CX0 P w K mg base Z.Span "__init__" 1 ["self", "ticks"] (sp_Span_init K Z)) (M_Moment_init : Mt CX0 P w K mg base Z.Moment "__init__" 1 ["self", "at"] (sp_Moment_init K Z)) (D_take : Dn CX0 P w K mg base "_law_take" 1 ["_law_bag_here", "_law_many"] (sp_take K Z)) (D_spans_done : Dn CX0 P w K mg base "_law_spans_done" 5 ["_law_bag_here", "_law_spans", "_law_ticks"] (sp_spans_done K Z)) (D_moments_done : Dn CX0 P w K mg base "_law_moments_done" 4 ["_law_bag_here", "_law_moments", "_law_points", "_law_spans", "_law_ticks"] (sp_moments_done K Z)) (M_Span_add : Mt CX0 P w K mg base Z.Span "__add__" 3 ["self", "other"] (sp_Span_add K Z)) (D_is_span : Dn CX0 P w K mg base "_law_is_span" 2 ["_law_thing", "_law_due"] (sp_is_span K Z)) (D_agree : Dn CX0 P w K mg base "_law_agree" 3 ["_law_spans", "_law_ticks", "_law_moments", "_law_points"] (sp_agree K Z)) : FnOk P w K mg base CX0 6 f fd ["_law_script"] (sp_law K) := by
  refine F.ok sc_law (fun vs H Q E h => h.1) (fun cdv A outer s H vs Q E hr h => ?_)
  obtain ⟨_, a, ns0, rfl, hS, hlen, k⟩ := h
  obtain ⟨B0, wd, hS⟩ : ∃ B0, Wd B0 [] H ∧ SqL K B0 a (ns0.map V.int) := ⟨H, Wd.self H, hS⟩
  refine ⟨_, (pss_cons (ps_set (i := 1) sc_law.nd rfl (Or.inl rfl) (pe_dn D_bag hr (by decide) rfl pass0 (pa_cons (pv 0) (pa_cons pe_int pa_nil))))
      (pss_cons (ps_set (i := 2) sc_law.nd rfl (Or.inl rfl) (pe_lst (pa_cons (pe_dn D_number hr (by decide) rfl pass0 (pa_cons (pv 1) pa_nil)) (pa_cons (pe_dn D_number hr (by decide) rfl pass0 (pa_cons (pv 1) pa_nil)) (pa_cons (pe_dn D_number hr (by decide) rfl pass0 (pa_cons (pv 1) pa_nil)) pa_nil)))))
      (pss_cons (ps_set (i := 3) sc_law.nd rfl (Or.inl rfl) (pe_lst (pa_cons (pe_dn D_number hr (by decide) rfl pass0 (pa_cons (pv 1) pa_nil)) (pa_cons (pe_dn D_number hr (by decide) rfl pass0 (pa_cons (pv 1) pa_nil)) pa_nil))))
      (pss_cons (ps_par (i := 4) (j := 5) (by rfl) sc_law.nd rfl rfl (by decide) rfl rfl (pa_cons (pe_lc (own := [("_law_one", 14)]) rfl sc_law.nd (pi_list (pv 2)) (blkOk_by (own := [("_law_one", 14)]) (N := ["_law_script", "_law_bag_here", "_law_ticks", "_law_points", "_law_spans", "_law_moments", "_law_kept", "_law_total", "_law_sum_due", "_law_before", "_law_totals", "_law_sums", "_law_place", "_law_turn", "_law_one"]) (sc := defScope s_law) (by decide +kernel)) (fun _ _ _ _ _ => (pg_name (i := 14) sc_law.nd rfl (Or.inl rfl))) (fun _ _ _ _ _ => pts_nil) (fun _ _ _ _ _ => (pe_kl T.c_Span M_Span_init hr (by decide) rfl pass0 (pa_cons (pv 14) pa_nil)))) (pa_cons (pe_lc (own := [("_law_one", 14)]) rfl sc_law.nd (pi_list (pv 3)) (blkOk_by (own := [("_law_one", 14)]) (N := ["_law_script", "_law_bag_here", "_law_ticks", "_law_points", "_law_spans", "_law_moments", "_law_kept", "_law_total", "_law_sum_due", "_law_before", "_law_totals", "_law_sums", "_law_place", "_law_turn", "_law_one"]) (sc := defScope s_law) (by decide +kernel)) (fun _ _ _ _ _ => (pg_name (i := 14) sc_law.nd rfl (Or.inl rfl))) (fun _ _ _ _ _ => pts_nil) (fun _ _ _ _ _ => (pe_kl T.c_Moment M_Moment_init hr (by decide) rfl pass0 (pa_cons (pv 14) pa_nil)))) pa_nil)) (by rfl))
      (pss_cons (ps_par3 (i := 6) (j := 7) (l := 8) (by rfl) sc_law.nd rfl rfl rfl (by decide) (by decide) (by decide) rfl rfl rfl (pa_cons (pe_callTy c_list (by rfl) T.g_list (by decide +kernel) (pa_cons (pv 4) pa_nil)) (pa_cons (pe_kl T.c_Span M_Span_init hr (by decide) rfl pass0 (pa_cons pe_int pa_nil)) (pa_cons pe_int pa_nil))) (by rfl))
      (pss_cons (ps_par3 (i := 9) (j := 10) (l := 11) (by rfl) sc_law.nd rfl rfl rfl (by decide) (by decide) (by decide) rfl rfl rfl (pa_cons (pe_callTy c_list (by rfl) T.g_list (by decide +kernel) (pa_cons (pv 2) pa_nil)) (pa_cons (pe_lst pa_nil) (pa_cons (pe_lst pa_nil) pa_nil))) (by rfl))
      (pss_cons (ps_for PassesOwn.never rfl (pi_range1 (by rfl) T.g_range (pa_cons (pe_callB (c_max rfl) (by rfl) T.g_max (by decide +kernel) (pa_cons pe_int (pa_cons (pe_callB (c_min rfl) (by rfl) T.g_min (by decide +kernel) (pa_cons pe_int (pa_cons (pe_callB c_len (by rfl) T.g_len (by decide +kernel) (pa_cons (pv 0) pa_nil)) pa_nil))) pa_nil))) pa_nil)) (pg_name (i := 12) sc_law.nd rfl (Or.inl rfl))
      (pss_cons (ps_set (i := 1) sc_law.nd rfl (Or.inl rfl) (pe_dn D_bag hr (by decide) rfl pass0 (pa_cons (pv 0) (pa_cons (pv 12) pa_nil))))
      (pss_one (ps_for PassesOwn.never rfl (pi_range1 (by rfl) T.g_range (pa_cons pe_int pa_nil)) (pg_name (i := 13) sc_law.nd rfl (Or.inl rfl))
      (pss_cons (ps_hold (ps_if (pt_cmpR op_gt (pe_dn D_take hr (by decide) rfl pass0 (pa_cons (pv 1) (pa_cons pe_int pa_nil))) pe_int (nomark _))
      (pss_one (ps_expr (pe_dn D_spans_done hr (by decide) rfl pass0 (pa_cons (pv 1) (pa_cons (pv 4) (pa_cons (pv 2) pa_nil))))))
      (pss_one (ps_expr (pe_dn D_moments_done hr (by decide) rfl pass0 (pa_cons (pv 1) (pa_cons (pv 5) (pa_cons (pv 3) (pa_cons (pv 4) (pa_cons (pv 2) pa_nil))))))))))
      (pss_cons (ps_expr (pe_bm PySem.F.plainAttrs_list PySem.F.slot_list_append PySem.F.type_list_append mt_append (pv 10) (pa_cons (pv 7) pa_nil)))
      (pss_cons (ps_expr (pe_bm PySem.F.plainAttrs_list PySem.F.slot_list_append PySem.F.type_list_append mt_append (pv 11) (pa_cons (pv 8) pa_nil)))
      (pss_cons (ps_aug (i := 7) sc_law.nd rfl (Or.inl rfl) (pe_ix ix_list (pv 4) pe_int (fun _ _ => rfl)) (ip_own M_Span_add T.c_Span T.ip_Span hr (by decide) pass0))
      (pss_cons (ps_set (i := 8) sc_law.nd rfl (Or.inl rfl) (pe_op op_add (pv 8) (pe_ix ix_list (pv 2) pe_int (fun _ _ => rfl))))
      (pss_one (ps_if (PW.pt (pw_or (pt_not (pt_val (pe_dn D_agree hr (by decide) rfl pass0 (pa_cons (pv 4) (pa_cons (pv 2) (pa_cons (pv 5) (pa_cons (pv 3) pa_nil))))))) (pw_or1 (pt_not (pt_val (pe_dn D_is_span hr (by decide) rfl pass0 (pa_cons (pv 7) (pa_cons (pv 8) pa_nil))))))))
      (pss_one (ps_ret pe_bl))
      pss_nil)))))))))))
      (pss_one (ps_ret (pe_and (pe_dn D_agree hr (by decide) rfl pass0 (pa_cons (pv 6) (pa_cons (pv 9) (pa_cons (pv 5) (pa_cons (pv 3) pa_nil))))) (pe_one (pe_dn D_agree hr (by decide) rfl pass0 (pa_cons (pv 10) (pa_cons (pv 11) (pa_cons (pv 5) (pa_cons (pv 3) pa_nil)))))))))))))))), ?_⟩
  walk_at "sx"
  refine u_bag wd (i := 0) hS fun b0 d0 c0 n0 H0 wd => ?_
  walk_at "sx"
  refine u_number0 wd fun z1 d1 n1 H1 hz1 wd => ?_
  walk_at "sx"
  refine u_number0 wd fun z2 d2 n2 H2 hz2 wd => ?_
  walk_at "sx"
  refine u_number0 wd fun z3 d3 n3 H3 hz3 wd => ?_
  walk_at "sx"
  refine x_klM wd rfl fun tA H4 wd => ?_
  replace wd := wd.perm (.swap _ _ _)
  walk_at "sx"
  refine u_number0 wd fun z4 d4 n4 H5 hz4 wd => ?_
  walk_at "sx"
  refine u_number0 wd fun z5 d5 n5 H6 hz5 wd => ?_
  walk_at "sx"
  refine x_klM wd rfl fun pA H7 wd => ?_
  have b60 := big_60 0
  have al1 : ∀ n ∈ [z1, z2, z3], n.natAbs < big 0 := by
    intro n hn
    simp only [List.mem_cons, List.not_mem_nil, or_false] at hn
    omega
  have al2 : ∀ n ∈ [z4, z5], n.natAbs < big 0 := by
    intro n hn
    simp only [List.mem_cons, List.not_mem_nil, or_false] at hn
    omega
  walk_at "sx"
  refine x_lcL (xs := [.int z1, .int z2, .int z3]) wd (fun H' e mu => sl_of (mu (tA, _) (.tail _ (.tail _ (.head _))))) (fun i acc B' => Tab (SpanAt Z B') (big 0) acc ([z1, z2, z3].take i)) (show 3 ≤ 90000 by decide) Tab.nil ?hs1 ?hd1
  case hs1 =>
    intro i x acc D B' H' hxi hi hP e ha w
    obtain ⟨n, rfl, hn⟩ := map_get (ns := [z1, z2, z3]) hxi
    walk_at "sx"
    refine ⟨rfl, ?_⟩
    walk_at "sx"
    refine' lc_y ?w ?e ha hi ?hpp
    case w => assumption
    case e => walk_at "ex"
    case hpp =>
      rw [List.take_succ, hn]
      exact (hP.up (fun _ _ z => by walk_at "sp") (Nat.le_refl _)).app (by walk_at "sp") (al1 _ (List.mem_of_getElem? hn))
  case hd1 =>
    intro xs0 sA B1 H8 hT e1 wd
    walk_at "sx"
    refine x_lcL (xs := [.int z4, .int z5]) wd (fun H' e mu => sl_of (mu (pA, _) (.tail _ (.head _)))) (fun i acc B' => Tab (MomAt Z B') (big 0) acc ([z4, z5].take i)) (show 2 ≤ 90000 by decide) Tab.nil ?hs2 ?hd2
    case hs2 =>
      intro i x acc D B' H' hxi hi hP e ha w
      obtain ⟨n, rfl, hn⟩ := map_get (ns := [z4, z5]) hxi
      walk_at "sx"
      refine ⟨rfl, ?_⟩
      walk_at "sx"
      refine' lc_y ?w ?e ha hi ?hpp
      case w => assumption
      case e => walk_at "ex"
      case hpp =>
        rw [List.take_succ, hn]
        exact (hP.up (fun _ _ z => by walk_at "mo") (Nat.le_refl _)).app (by walk_at "mo") (al2 _ (List.mem_of_getElem? hn))
    case hd2 =>
      intro ms0 mA B2 H9 hP e2 wd
      walk_at "sx"
      refine x_kn wd fun kA BK HK e3 hk wd => ?_
      walk_at "sx"
      refine x_kn (by assumption) fun bA B4 H11 e5 hb wd => ?_
      walk_at "sx"
      refine x_klM wd rfl fun toA H12 wd => ?_
      walk_at "sx"
      refine x_klM wd rfl fun suA H13 wd => ?_
      walk_at "sx"
      have hT3 : Tab (SpanAt Z B1) (big 0) xs0 [z1, z2, z3] := hT
      have hP3 : Tab (MomAt Z B2) (big 0) ms0 [z4, z5] := hP
      have hS4 : SqL K B4 a (ns0.map V.int) := Ex.sl (by walk_at "ex") hS
      refine x_forR (fun i σ' H' => ∃ v1 v12 M0, J5 K Z a tA pA sA mA kA bA toA suA B4 M0 v1 v12 [] (12 * i) σ' H') (by rw [List.length_map]; split <;> split <;> omega) ?start ?turn ?fin
      case start =>
        refine ⟨_, _, [(b0, bagO _ _ _)], _, _, B4, xs0, [z1, z2, z3], ms0, [z4, z5], [], [], _, 0, 1, rfl, (((((wd.pull (k := 1) rfl).pull (k := 4) rfl).pull (k := 3) rfl).pull (k := 6) rfl).pull (k := 5) rfl), Ex.rf _, rfl, rfl, hT3.up (fun _ _ z => by walk_at "sp") (Nat.le_refl _), hP3.up (fun _ _ z => by walk_at "mo") (Nat.le_refl _), by walk_at "sp", Tab.nil, Nat.zero_le _⟩
      case turn =>
        rintro i σ' H' hi ⟨v1, v12, M0, v13, v14, B, xs, ns, ms, ps, ts, us, x, z, N, rfl, w, eB, hl, hlp, hT, hP, hx, hU, hu⟩
        walk_at "sx"
        refine u_bag w (eB.sl hS4) fun b d c n H1 w => ?_
        walk_at "sx"
        refine x_forR (fun j σ' H' => ∃ d c n, J5 K Z a tA pA sA mA kA bA toA suA B4 M0 (some (.ref b)) (some (.int i)) [(b, bagO d c n)] (12 * i + j) σ' H') (by omega) ⟨d, c, n, v13, v14, B, xs, ns, ms, ps, ts, us, x, z, N, rfl, w, eB, hl, hlp, hT, hP, hx, hU, hu⟩ ?turn2 ?fin2
        case turn2 =>
          clear hT hP hx hU hu w eB hl hlp
          rintro j σ' H' hj ⟨d, c, n, v13, v14, B, xs, ns, ms, ps, ts, us, x, z, N, rfl, w, eB, hl, hlp, hT, hP, hx, hU, hu⟩
          walk_at "sx"
          obtain ⟨J, hJ⟩ : ∃ J : L2.St → Hp → Prop, J = fun σ' H' => ∃ (d c n : Int) (B' : Hp) (xs : List V) (ns : List Int) (ms : List V) (ps : List Int),
            σ' = [some (.ref a), some (.ref b), some (.ref tA), some (.ref pA), some (.ref sA), some (.ref mA), some (.ref kA), some (.ref x), some (.int z), some (.ref bA), some (.ref toA), some (.ref suA), some (.int i), some (.int j), v14] ∧
            Wd B' ((b, bagO d c n) :: (sA, .lst xs) :: (tA, .lst (ns.map V.int)) :: (mA, .lst ms) :: (pA, .lst (ps.map V.int)) :: (toA, .lst ts) :: (suA, .lst (us.map V.int)) :: M0) H' ∧ Ex B B' ∧ ns.length = 3 ∧ ps.length = 2 ∧
            Tab (SpanAt Z B') (big (12 * i + j + 1)) xs ns ∧ Tab (MomAt Z B') (big (12 * i + j + 1)) ms ps := ⟨_, rfl⟩
          refine x_hold J ?hh1 ?hh2
          case hh1 =>
            rw [hJ]
            rintro σ' H' ⟨d, c, n, B', xs, ns, ms, ps, rfl, w', eB', hl, hlp, hT, hP⟩
            have hus : ts.length = us.length := hU.1
            obtain ⟨x0, n0, hx0, hn0, s0, b0⟩ := hT.at hl (i := 0) (by decide) (by decide)
            walk_at "sx"
            refine x_append w' (k := 5) rfl (by omega) fun H3 w' => ?_
            walk_at "sx"
            refine x_append w' (k := 6) rfl (by rw [List.length_map]; omega) fun H4 w' => ?_
            have hT2 := hT
            walk_at "sx"
            refine' u_agree ?w ?h1 ?h2 ?h3 ?h4 ?hT ?hP ?hk
            case w => assumption
            case h1 => exact fun B' H' e w => sl_of (w.get (k := 1) rfl)
            case h2 => exact fun B' H' e w => sl_of (w.get (k := 2) rfl)
            case h3 => exact fun B' H' e w => sl_of (w.get (k := 3) rfl)
            case h4 => exact fun B' H' e w => sl_of (w.get (k := 4) rfl)
            case hT => exact hT.up (fun _ _ z => by walk_at "sp") (Nat.le_refl _)
            case hP => exact hP.up (fun _ _ z => by walk_at "mo") (Nat.le_refl _)
            case hk =>
              intro B5 H5 e5 w5
              walk_at "sx"
              refine' ⟨d, c, n, _, _, B5, xs, ns, ms, ps, ts ++ [.ref x], us ++ [z], _, _, max N (z.natAbs + 1), rfl, ?hw5, ?he5, hl, hlp, hT.up (fun _ _ z => ?hs5) (Nat.le_refl _), hP.up (fun _ _ z => ?hm5) (Nat.le_refl _), ?hx5, (hU.up (fun _ _ z => ?hu5) (Nat.le_max_left _ _)).app ?hy5 (Nat.lt_of_lt_of_le (Nat.lt_succ_self _) (Nat.le_max_right _ _)), ?hz5⟩
              case hw5 =>
                rw [List.map_append]
                assumption
              case he5 => walk_at "ex"
              case hs5 => walk_at "sp"
              case hm5 => walk_at "mo"
              case hx5 => walk_at "sp"
              case hu5 => walk_at "sp"
              case hy5 => walk_at "sp"
              case hz5 => rw [List.length_append]; show us.length + 1 ≤ _; omega
          case hh2 =>
            intro N' hN'
            walk_at "sx"
            refine u_take0 w (by decide) (by decide +kernel) fun r d1 n1 H2 r0 r1 w => ?_
            walk_at "sx"
            refine i_d (fun _ => ?_) (fun _ => ?_)
            · walk_at "sx"
              refine u_spans_done w hl (q := 12 * i + j) (by omega) hT fun B' d' c' n' xs' ns' H3 e3 hl3 hT3 w3 => ?_
              refine hN' _ _ ?_
              rw [hJ]
              exact ⟨_, _, _, B', xs', ns', ms, ps, rfl, w3, e3, hl3, hlp, hT3, hP.up (fun _ _ z => z.up e3) (by rw [big_s]; omega)⟩
            · walk_at "sx"
              refine u_moments_done w hl hlp (q := 12 * i + j) (by omega) hT hP fun B' d' c' n' xs' ns' ms' ps' H3 e3 hl3 hlp3 hT3 hP3 w3 => ?_
              refine hN' _ _ ?_
              rw [hJ]
              exact ⟨_, _, _, B', xs', ns', ms', ps', rfl, w3, e3, hl3, hlp3, hT3, hP3⟩
        case fin2 =>
          rintro σ' H' ⟨d, c, n, v13, v14, B, xs, ns, ms, ps, ts, us, x, z, N, rfl, w, eB, hl, hlp, hT, hP, hx, hU, hu⟩
          exact ⟨_, _, _, v13, v14, B, xs, ns, ms, ps, ts, us, x, z, N, rfl, w.drop, eB, hl, hlp, hT, hP, hx, hU, hu⟩
      case fin =>
        rintro σ' H' ⟨v1, v12, M0, v13, v14, B, xs, ns, ms, ps, ts, us, x, z, N, rfl, w, eB, hl, hlp, hT, hP, hx, hU, hu⟩
        walk_at "sx"
        have hk4 : B4 kA = some (.lst xs0) := by walk_at "lk"
        refine' u_agree (xs := xs0) (ns := [z1, z2, z3]) w ?h1 ?h2 ?h3 ?h4 ?hT ?hP ?hk
        case h1 => exact fun B' H' e w => sl_of (w.im (e _ _ (eB _ _ hk4)))
        case h2 => exact fun B' H' e w => sl_of (w.im (e _ _ (eB _ _ hb)))
        case h3 => exact fun B' H' e w => sl_of (w.get (k := 2) rfl)
        case h4 => exact fun B' H' e w => sl_of (w.get (k := 3) rfl)
        case hT => exact hT3.up (fun _ _ z => by walk_at "sp") (Nat.le_refl _)
        case hP => exact hP
        case hk =>
          intro B5 H5 e5 w5
          walk_at "sx"
          refine' u_agree w5 ?h1 ?h2 ?h3 ?h4 ?hT ?hP ?hk
          case h1 => exact fun B' H' e w => sl_of (w.get (k := 4) rfl)
          case h2 => exact fun B' H' e w => sl_of (w.get (k := 5) rfl)
          case h3 => exact fun B' H' e w => sl_of (w.get (k := 2) rfl)
          case h4 => exact fun B' H' e w => sl_of (w.get (k := 3) rfl)
          case hT => exact hU.up (fun _ _ z => by walk_at "sp") (Nat.le_refl _)
          case hP => exact hP.up (fun _ _ z => by walk_at "mo") (Nat.le_refl _)
          case hk =>
            intro B6 H6 e6 w6
            walk_at "sx"
            exact k _

end
theorem all_mk {l : PySem.W.OpenLaw} {w : World} {K : PySem.W.Frag} {h : Heap} {mg : Str → Option Value} {fa C_Span C_Moment : Addr} (X : K.In h) (G : h.Ns mainGlobals mg) (hfa : mg "law" = some (.ref fa))
    (k_Span : KF K "Span" C_Span)
    (k_Moment : KF K "Moment" C_Moment)
    (f_bag : FF K "_law_bag" s_bag)
    (f_take : FF K "_law_take" s_take)
    (f_number : FF K "_law_number" s_number)
    (f_is_number : FF K "_law_is_number" s_is_number)
    (m_Span_init : MF K C_Span "__init__" "Span.__init__" s_Span_init)
    (m_Span_neg : MF K C_Span "__neg__" "Span.__neg__" s_Span_neg)
    (m_Span_abs : MF K C_Span "__abs__" "Span.__abs__" s_Span_abs)
    (m_Span_add : MF K C_Span "__add__" "Span.__add__" s_Span_add)
    (m_Span_sub : MF K C_Span "__sub__" "Span.__sub__" s_Span_sub)
    (f_is_whole : FF K "is_whole" s_is_whole)
    (m_Span_mul : MF K C_Span "__mul__" "Span.__mul__" s_Span_mul)
    (m_Span_rmul : MF K C_Span "__rmul__" "Span.__rmul__" s_Span_rmul)
    (m_Span_floordiv : MF K C_Span "__floordiv__" "Span.__floordiv__" s_Span_floordiv)
    (m_Span_mod : MF K C_Span "__mod__" "Span.__mod__" s_Span_mod)
    (m_Moment_init : MF K C_Moment "__init__" "Moment.__init__" s_Moment_init)
    (m_Moment_add : MF K C_Moment "__add__" "Moment.__add__" s_Moment_add)
    (m_Moment_radd : MF K C_Moment "__radd__" "Moment.__radd__" s_Moment_radd)
    (m_Moment_sub : MF K C_Moment "__sub__" "Moment.__sub__" s_Moment_sub)
    (f_is_span : FF K "_law_is_span" s_is_span)
    (f_spans_done : FF K "_law_spans_done" s_spans_done)
    (f_moments_done : FF K "_law_moments_done" s_moments_done)
    (f_agree : FF K "_law_agree" s_agree)
    (f_law : FF K "law" s_law)
    (n_Span_ticks : PySem.W.findIn K (.ref C_Span) "ticks" = some none)
    (n_Moment_at : PySem.W.findIn K (.ref C_Moment) "at" = some none)
    (ns_Span_Moment : NsT K C_Span (.ref C_Moment))
    (ns_Moment_Span : NsT K C_Moment (.ref C_Span))
    (t_Span_mul_int : OpT K C_Span "int" "mul")
    (r_Span : RmT K C_Span)
    (b_Moment_Span_add : BinT K C_Moment C_Span "add")
    (b_Span_Moment_add : BinT K C_Span C_Moment "add")
    (b_Moment_Span_sub : BinT K C_Moment C_Span "sub")
    (ip_Span : IpT K C_Span)
    (g_len : PySem.W.nsIn K mainGlobals "len" = some none)
    (g_abs : PySem.W.nsIn K mainGlobals "abs" = some none)
    (g_int : PySem.W.nsIn K mainGlobals "int" = some none)
    (g_bool : PySem.W.nsIn K mainGlobals "bool" = some none)
    (g_isinstance : PySem.W.nsIn K mainGlobals "isinstance" = some none)
    (g_NotImplemented : PySem.W.nsIn K mainGlobals "NotImplemented" = some none)
    (g_zip : PySem.W.nsIn K mainGlobals "zip" = some none)
    (g_list : PySem.W.nsIn K mainGlobals "list" = some none)
    (g_range : PySem.W.nsIn K mainGlobals "range" = some none)
    (g_min : PySem.W.nsIn K mainGlobals "min" = some none)
    (g_max : PySem.W.nsIn K mainGlobals "max" = some none)
    : ∃ fd : FuncData, (∀ (s : Shared) (v : Value), BindsTo s fd ⟨[v], []⟩ [("_law_script", v)]) ∧ ∀ base : Heap, K.In base → base.Ns mainGlobals mg → FnOk l.prog w K mg base CX0 6 fa fd ["_law_script"] (sp_law K) := by
  obtain ⟨f, oc, od, kV, doc, pm, an, cdv, ct, osl, h1, h2, h3, h4⟩ := f_law.ok
  have e := hfa.symm.trans (PySem.W.mg_of X G h1)
  cases e
  have T : Txt K mg { Span := C_Span, Moment := C_Moment } := ⟨True.intro, k_Span.kl X G, k_Moment.kl X G, n_Span_ticks, n_Moment_at, ns_Span_Moment, ns_Moment_Span, t_Span_mul_int, r_Span, b_Moment_Span_add, b_Span_Moment_add, b_Moment_Span_sub, ip_Span, PySem.W.mg_none_of X G g_len, PySem.W.mg_none_of X G g_abs, PySem.W.mg_none_of X G g_int, PySem.W.mg_none_of X G g_bool, PySem.W.mg_none_of X G g_isinstance, PySem.W.mg_none_of X G g_NotImplemented, PySem.W.mg_none_of X G g_zip, PySem.W.mg_none_of X G g_list, PySem.W.mg_none_of X G g_range, PySem.W.mg_none_of X G g_min, PySem.W.mg_none_of X G g_max⟩
  have F := fun_mk (st := s_law) h2 h3 h4
  refine ⟨PySem.W.fnOf "law" "law" (defArgs s_law) (defBody s_law) (defScope s_law) .none kV doc pm an cdv ct, fun s v => .of_eq rfl, fun base _ _ => ?_⟩
  have D_bag := dn_mk (CX := CX0) (P := l.prog) (w := w) (mg := mg) (base := base) f_bag X G (fun F => F.binds (ps := ["_law_script", "_law_at"]) fun _ _ _ _ _ _ us hl => match us, hl with | [_, _], _ => rfl) (fun F => ok_bag F T )
  have D_take := dn_mk (CX := CX0) (P := l.prog) (w := w) (mg := mg) (base := base) f_take X G (fun F => F.binds (ps := ["_law_bag_here", "_law_many"]) fun _ _ _ _ _ _ us hl => match us, hl with | [_, _], _ => rfl) (fun F => ok_take F T )
  have D_number := dn_mk (CX := CX0) (P := l.prog) (w := w) (mg := mg) (base := base) f_number X G (fun F => F.binds (ps := ["_law_bag_here"]) fun _ _ _ _ _ _ us hl => match us, hl with | [_], _ => rfl) (fun F => ok_number F T D_take)
  have D_is_number := dn_mk (CX := CX0) (P := l.prog) (w := w) (mg := mg) (base := base) f_is_number X G (fun F => F.binds (ps := ["_law_thing", "_law_due"]) fun _ _ _ _ _ _ us hl => match us, hl with | [_, _], _ => rfl) (fun F => ok_is_number F T )
  have M_Span_init := mt_mk (CX := CX0) (P := l.prog) (w := w) (mg := mg) (base := base) m_Span_init (fun F => F.binds (ps := ["self", "ticks"]) fun _ _ _ _ _ _ us hl => match us, hl with | [_, _], _ => rfl) (fun F => ok_Span_init F T )
  have M_Span_neg := mt_mk (CX := CX0) (P := l.prog) (w := w) (mg := mg) (base := base) m_Span_neg (fun F => F.binds (ps := ["self"]) fun _ _ _ _ _ _ us hl => match us, hl with | [_], _ => rfl) (fun F => ok_Span_neg F T M_Span_init)
  have M_Span_abs := mt_mk (CX := CX0) (P := l.prog) (w := w) (mg := mg) (base := base) m_Span_abs (fun F => F.binds (ps := ["self"]) fun _ _ _ _ _ _ us hl => match us, hl with | [_], _ => rfl) (fun F => ok_Span_abs F T M_Span_init)
  have M_Span_add := mt_mk (CX := CX0) (P := l.prog) (w := w) (mg := mg) (base := base) m_Span_add (fun F => F.binds (ps := ["self", "other"]) fun _ _ _ _ _ _ us hl => match us, hl with | [_, _], _ => rfl) (fun F => ok_Span_add F T M_Span_init)
  have N_Span_add := mn_mk (P := l.prog) (w := w) (mg := mg) (base := base) m_Span_add (fun F => F.binds (ps := ["self", "other"]) fun _ _ _ _ _ _ us hl => match us, hl with | [_, _], _ => rfl) (fun F => ni_Span_add F T)
  have M_Span_sub := mt_mk (CX := CX0) (P := l.prog) (w := w) (mg := mg) (base := base) m_Span_sub (fun F => F.binds (ps := ["self", "other"]) fun _ _ _ _ _ _ us hl => match us, hl with | [_, _], _ => rfl) (fun F => ok_Span_sub F T M_Span_init)
  have D_is_whole := dn_mk (CX := CX0) (P := l.prog) (w := w) (mg := mg) (base := base) f_is_whole X G (fun F => F.binds (ps := ["thing"]) fun _ _ _ _ _ _ us hl => match us, hl with | [_], _ => rfl) (fun F => ok_is_whole F T )
  have M_Span_mul := mt_mk (CX := CX0) (P := l.prog) (w := w) (mg := mg) (base := base) m_Span_mul (fun F => F.binds (ps := ["self", "other"]) fun _ _ _ _ _ _ us hl => match us, hl with | [_, _], _ => rfl) (fun F => ok_Span_mul F T D_is_whole M_Span_init)
  have M_Span_rmul := mt_mk (CX := CX0) (P := l.prog) (w := w) (mg := mg) (base := base) m_Span_rmul (fun F => F.binds (ps := ["self", "other"]) fun _ _ _ _ _ _ us hl => match us, hl with | [_, _], _ => rfl) (fun F => ok_Span_rmul F T D_is_whole M_Span_init)
  have M_Span_floordiv := mt_mk (CX := CX0) (P := l.prog) (w := w) (mg := mg) (base := base) m_Span_floordiv (fun F => F.binds (ps := ["self", "other"]) fun _ _ _ _ _ _ us hl => match us, hl with | [_, _], _ => rfl) (fun F => ok_Span_floordiv F T )
  have M_Span_mod := mt_mk (CX := CX0) (P := l.prog) (w := w) (mg := mg) (base := base) m_Span_mod (fun F => F.binds (ps := ["self", "other"]) fun _ _ _ _ _ _ us hl => match us, hl with | [_, _], _ => rfl) (fun F => ok_Span_mod F T M_Span_init)
  have M_Moment_init := mt_mk (CX := CX0) (P := l.prog) (w := w) (mg := mg) (base := base) m_Moment_init (fun F => F.binds (ps := ["self", "at"]) fun _ _ _ _ _ _ us hl => match us, hl with | [_, _], _ => rfl) (fun F => ok_Moment_init F T )
  have M_Moment_add := mt_mk (CX := CX0) (P := l.prog) (w := w) (mg := mg) (base := base) m_Moment_add (fun F => F.binds (ps := ["self", "other"]) fun _ _ _ _ _ _ us hl => match us, hl with | [_, _], _ => rfl) (fun F => ok_Moment_add F T M_Moment_init)
  have M_Moment_radd := mt_mk (CX := CX0) (P := l.prog) (w := w) (mg := mg) (base := base) m_Moment_radd (fun F => F.binds (ps := ["self", "other"]) fun _ _ _ _ _ _ us hl => match us, hl with | [_, _], _ => rfl) (fun F => ok_Moment_radd F T M_Moment_init)
  have M_Moment_sub := mt_mk (CX := CX0) (P := l.prog) (w := w) (mg := mg) (base := base) m_Moment_sub (fun F => F.binds (ps := ["self", "other"]) fun _ _ _ _ _ _ us hl => match us, hl with | [_, _], _ => rfl) (fun F => ok_Moment_sub F T M_Span_init M_Moment_init)
  have D_is_span := dn_mk (CX := CX0) (P := l.prog) (w := w) (mg := mg) (base := base) f_is_span X G (fun F => F.binds (ps := ["_law_thing", "_law_due"]) fun _ _ _ _ _ _ us hl => match us, hl with | [_, _], _ => rfl) (fun F => ok_is_span F T D_is_number)
  have D_spans_done := dn_mk (CX := CX0) (P := l.prog) (w := w) (mg := mg) (base := base) f_spans_done X G (fun F => F.binds (ps := ["_law_bag_here", "_law_spans", "_law_ticks"]) fun _ _ _ _ _ _ us hl => match us, hl with | [_, _, _], _ => rfl) (fun F => ok_spans_done F T D_take M_Span_add M_Span_sub M_Span_neg M_Span_abs M_Span_mul M_Span_rmul M_Span_mod M_Span_init M_Span_floordiv)
  have D_moments_done := dn_mk (CX := CX0) (P := l.prog) (w := w) (mg := mg) (base := base) f_moments_done X G (fun F => F.binds (ps := ["_law_bag_here", "_law_moments", "_law_points", "_law_spans", "_law_ticks"]) fun _ _ _ _ _ _ us hl => match us, hl with | [_, _, _, _, _], _ => rfl) (fun F => ok_moments_done F T D_take M_Moment_add N_Span_add M_Moment_radd M_Moment_sub)
  have D_agree := dn_mk (CX := CX0) (P := l.prog) (w := w) (mg := mg) (base := base) f_agree X G (fun F => F.binds (ps := ["_law_spans", "_law_ticks", "_law_moments", "_law_points"]) fun _ _ _ _ _ _ us hl => match us, hl with | [_, _, _, _], _ => rfl) (fun F => ok_agree F T D_is_span D_is_number)
  exact ok_law F T D_bag D_number M_Span_init M_Moment_init D_take D_spans_done D_moments_done M_Span_add D_is_span D_agree
end My

open PySem PySem.W PyProof.Rows in
set_option maxRecDepth 100000 in
set_option maxHeartbeats 0 in
theorem PySem.Challenge.cw_strayfiles_k05_whole_sums_of_times_holds : PySem.Challenge.rw_strayfiles_k05_whole_sums_of_times.Holds := by
  w_on; o_law; k_head; (case hw => w_witness2)
  k_fill
  refine L2.walk_ofK (l := PySem.Challenge.rw_strayfiles_k05_whole_sums_of_times) (n := 63) (k := 6) (CX := L2.CX0) (sp := My.sp_law) (x := "_law_script") rfl (by decide) rfl ⟨rfl, by decide, by decide⟩ (fun w h Y => PySem.W.kIn_of Y) ?F (fun K H a ns hl _ hS => ⟨rfl, a, ns, rfl, hS, hl, fun _ => rfl⟩) (fun _ _ _ _ z => z)
  case F =>
    intro w mg fa h KX G hmg
    refine' My.all_mk KX G hmg ?k_Span ?k_Moment ?f_bag ?f_take ?f_number ?f_is_number ?m_Span_init ?m_Span_neg ?m_Span_abs ?m_Span_add ?m_Span_sub ?f_is_whole ?m_Span_mul ?m_Span_rmul ?m_Span_floordiv ?m_Span_mod ?m_Moment_init ?m_Moment_add ?m_Moment_radd ?m_Moment_sub ?f_is_span ?f_spans_done ?f_moments_done ?f_agree ?f_law ?n_Span_ticks ?n_Moment_at ?ns_Span_Moment ?ns_Moment_Span ?t_Span_mul_int ?r_Span ?b_Moment_Span_add ?b_Span_Moment_add ?b_Moment_Span_sub ?ip_Span ?g_len ?g_abs ?g_int ?g_bool ?g_isinstance ?g_NotImplemented ?g_zip ?g_list ?g_range ?g_min ?g_max
    (case k_Span => refine' Sy.KF.mk ?a ?pg ?hd ?po ?sa ?ha ?hn ?htk ?hm ?mks ?kp ?sf; (case a => k_is); (case pg => k_is); (case hd => k_is); (case po => k_is); (case sa => k_is); (case ha => k_is); (case hn => k_is); (case htk => k_is); (case hm => k_is); (case mks => k_is); (case kp => k_is); (case sf => k_is))
    (case k_Moment => refine' Sy.KF.mk ?a ?pg ?hd ?po ?sa ?ha ?hn ?htk ?hm ?mks ?kp ?sf; (case a => k_is); (case pg => k_is); (case hd => k_is); (case po => k_is); (case sa => k_is); (case ha => k_is); (case hn => k_is); (case htk => k_is); (case hm => k_is); (case mks => k_is); (case kp => k_is); (case sf => k_is))
    (case f_bag => refine' Sy.ff_mk ?a ?l ?c ?k; (case a => k_is); (case l => k_is); (case c => k_is); (case k => k_is))
    (case f_take => refine' Sy.ff_mk ?a ?l ?c ?k; (case a => k_is); (case l => k_is); (case c => k_is); (case k => k_is))
    (case f_number => refine' Sy.ff_mk ?a ?l ?c ?k; (case a => k_is); (case l => k_is); (case c => k_is); (case k => k_is))
    (case f_is_number => refine' Sy.ff_mk ?a ?l ?c ?k; (case a => k_is); (case l => k_is); (case c => k_is); (case k => k_is))
    (case m_Span_init => refine' Sy.mf_mk ?a ?i ?l ?c ?k; (case a => k_is); (case i => k_is); (case l => k_is); (case c => k_is); (case k => k_is))
    (case m_Span_neg => refine' Sy.mf_mk ?a ?i ?l ?c ?k; (case a => k_is); (case i => k_is); (case l => k_is); (case c => k_is); (case k => k_is))
    (case m_Span_abs => refine' Sy.mf_mk ?a ?i ?l ?c ?k; (case a => k_is); (case i => k_is); (case l => k_is); (case c => k_is); (case k => k_is))
    (case m_Span_add => refine' Sy.mf_mk ?a ?i ?l ?c ?k; (case a => k_is); (case i => k_is); (case l => k_is); (case c => k_is); (case k => k_is))
    (case m_Span_sub => refine' Sy.mf_mk ?a ?i ?l ?c ?k; (case a => k_is); (case i => k_is); (case l => k_is); (case c => k_is); (case k => k_is))
    (case f_is_whole => refine' Sy.ff_mk ?a ?l ?c ?k; (case a => k_is); (case l => k_is); (case c => k_is); (case k => k_is))
    (case m_Span_mul => refine' Sy.mf_mk ?a ?i ?l ?c ?k; (case a => k_is); (case i => k_is); (case l => k_is); (case c => k_is); (case k => k_is))
    (case m_Span_rmul => refine' Sy.mf_mk ?a ?i ?l ?c ?k; (case a => k_is); (case i => k_is); (case l => k_is); (case c => k_is); (case k => k_is))
    (case m_Span_floordiv => refine' Sy.mf_mk ?a ?i ?l ?c ?k; (case a => k_is); (case i => k_is); (case l => k_is); (case c => k_is); (case k => k_is))
    (case m_Span_mod => refine' Sy.mf_mk ?a ?i ?l ?c ?k; (case a => k_is); (case i => k_is); (case l => k_is); (case c => k_is); (case k => k_is))
    (case m_Moment_init => refine' Sy.mf_mk ?a ?i ?l ?c ?k; (case a => k_is); (case i => k_is); (case l => k_is); (case c => k_is); (case k => k_is))
    (case m_Moment_add => refine' Sy.mf_mk ?a ?i ?l ?c ?k; (case a => k_is); (case i => k_is); (case l => k_is); (case c => k_is); (case k => k_is))
    (case m_Moment_radd => refine' Sy.mf_mk ?a ?i ?l ?c ?k; (case a => k_is); (case i => k_is); (case l => k_is); (case c => k_is); (case k => k_is))
    (case m_Moment_sub => refine' Sy.mf_mk ?a ?i ?l ?c ?k; (case a => k_is); (case i => k_is); (case l => k_is); (case c => k_is); (case k => k_is))
    (case f_is_span => refine' Sy.ff_mk ?a ?l ?c ?k; (case a => k_is); (case l => k_is); (case c => k_is); (case k => k_is))
    (case f_spans_done => refine' Sy.ff_mk ?a ?l ?c ?k; (case a => k_is); (case l => k_is); (case c => k_is); (case k => k_is))
    (case f_moments_done => refine' Sy.ff_mk ?a ?l ?c ?k; (case a => k_is); (case l => k_is); (case c => k_is); (case k => k_is))
    (case f_agree => refine' Sy.ff_mk ?a ?l ?c ?k; (case a => k_is); (case l => k_is); (case c => k_is); (case k => k_is))
    (case f_law => refine' Sy.ff_mk ?a ?l ?c ?k; (case a => k_is); (case l => k_is); (case c => k_is); (case k => k_is))
    (case n_Span_ticks => k_is)
    (case n_Moment_at => k_is)
    (case ns_Span_Moment => refine' Sy.NsT.mk ?ne ?hu ?ci ?ti; (case ne => first | rfl | decide); (case hu => k_is); (case ci => k_is); (case ti => k_is))
    (case ns_Moment_Span => refine' Sy.NsT.mk ?ne ?hu ?ci ?ti; (case ne => first | rfl | decide); (case hu => k_is); (case ci => k_is); (case ti => k_is))
    (case t_Span_mul_int => refine' Sy.opT_mk ?hr ?hp ?h1 ?h2 ?hu; (case hr => k_is); (case hp => first | exact .inl rfl | exact .inr ⟨_, rfl⟩); (case h1 => k_is); (case h2 => k_is); (case hu => k_is))
    (case r_Span => refine' Sy.rm_mk ?hs ?hu; (case hs => k_is); (case hu => k_is))
    (case b_Moment_Span_add => refine' Sy.binT_mk ?hs ?hr ?hp ?ds ?dr ?dp ?hu ?ne; (case hs => k_is); (case hr => k_is); (case hp => first | exact .inl rfl | exact .inr ⟨_, rfl⟩); (case ds => k_is); (case dr => k_is); (case dp => first | exact .inl rfl | exact .inr ⟨_, rfl⟩); (case hu => k_is); (case ne => first | rfl | decide))
    (case b_Span_Moment_add => refine' Sy.binT_mk ?hs ?hr ?hp ?ds ?dr ?dp ?hu ?ne; (case hs => k_is); (case hr => k_is); (case hp => first | exact .inl rfl | exact .inr ⟨_, rfl⟩); (case ds => k_is); (case dr => k_is); (case dp => first | exact .inl rfl | exact .inr ⟨_, rfl⟩); (case hu => k_is); (case ne => first | rfl | decide))
    (case b_Moment_Span_sub => refine' Sy.binT_mk ?hs ?hr ?hp ?ds ?dr ?dp ?hu ?ne; (case hs => k_is); (case hr => k_is); (case hp => first | exact .inl rfl | exact .inr ⟨_, rfl⟩); (case ds => k_is); (case dr => k_is); (case dp => first | exact .inl rfl | exact .inr ⟨_, rfl⟩); (case hu => k_is); (case ne => first | rfl | decide))
    (case ip_Span => refine' Sy.ipt_mk ?a ?b ?c ?d; (case a => k_is); (case b => rfl); (case c => k_is); (case d => k_is))
    (case g_len => k_is)
    (case g_abs => k_is)
    (case g_int => k_is)
    (case g_bool => k_is)
    (case g_isinstance => k_is)
    (case g_NotImplemented => k_is)
    (case g_zip => k_is)
    (case g_list => k_is)
    (case g_range => k_is)
    (case g_min => k_is)
    (case g_max => k_is)
#print axioms PySem.Challenge.cw_strayfiles_k05_whole_sums_of_times_holds
