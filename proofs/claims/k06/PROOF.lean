import PyProof.Rows.All
import Wide.All
import OpenK.AllK
import Wide.FinOn
import HandS.ForMost
import HandS.ForExc
import HandS.Wide
import HandS.Codes
import HandS.IsInst
import HandS.MakeKwOnly
import HandS.Style
import HandS.Flow
import HandS.Records
import HandS.FStr
import HandS.Zip
import KE.KExcInit
import KE.KExcIs
import HandS.ExcField
import HandS.ExcOwn
import HandS.CallSlots
import HandS.TryMany
import HandS.ExcIs
import HandS.Property
import HandS.RaiseMore
import HandS.Defaults
import PySem.Challenge.RW_strayfiles_k06_statements_made
set_option Elab.async false
set_option linter.all false
set_option maxRecDepth 100000
set_option maxHeartbeats 4000000
/-! Worlds: what never changes (B) and what may (M), over the abstract heap. -/
namespace Sy
open PySem PySem.Spec PyProof.Rows L2

/-! ### growing heaps -/
def Ex (H H' : Hp) : Prop := ∀ a o, H a = some o → H' a = some o
theorem Ex.rf (H : Hp) : Ex H H := fun _ _ h => h
theorem Ex.tr {H H1 H2 : Hp} (a : Ex H H1) (b : Ex H1 H2) : Ex H H2 := fun x o h => b x o (a x o h)
theorem Ex.up {H H' : Hp} {a : Addr} {o : HO} (e : Ex H H') (h : H a = some o) : H' a = some o := e a o h
theorem Ex.new {H : Hp} {p : Addr} {o : HO} (h : H p = none) : Ex H (upd H p o) := fun a u e => by
  rw [upd_ne (ne_of_none e h)]
  exact e
theorem Ex.rd {H H' : Hp} {a : Addr} {u : HO} (e : Ex H H') (h : Rd H a u) : Rd H' a u := by
  rcases h with h | ⟨o, h⟩
  · exact Or.inl (e a _ h)
  · exact Or.inr ⟨o, e a _ h⟩
theorem Ex.sl {K : PySem.W.Frag} {H H' : Hp} {a : Addr} {xs : List V} (e : Ex H H') (h : SqL K H a xs) : SqL K H' a xs := by
  rcases h with h | h
  · exact Or.inl (e.rd h)
  · exact Or.inr h
theorem Ex.st {K : PySem.W.Frag} {H H' : Hp} {a : Addr} {xs : List V} (e : Ex H H') (h : SqT K H a xs) : SqT K H' a xs := by
  rcases h with h | h
  · exact Or.inl (e.rd h)
  · exact Or.inr h
theorem sl_of {K : PySem.W.Frag} {H : Hp} {a : Addr} {xs : List V} (h : H a = some (.lst xs)) : SqL K H a xs := Or.inl (Or.inl h)
theorem st_of {K : PySem.W.Frag} {H : Hp} {a : Addr} {xs : List V} (h : H a = some (.tup xs)) : SqT K H a xs := Or.inl (Or.inl h)
theorem sz_of {n : Nat} (h : n ≤ 100000) : n ≤ sizeLine := Nat.le_trans h (by decide)
theorem sz_lt {n : Nat} (h : n < 100000) : n < sizeLine := Nat.lt_of_lt_of_le h (by decide)

/-! ### worlds -/
/-- all of B stands in H for ever; at each place of M its thing stands now -/
structure Wd (B : Hp) (M : List (Addr × HO)) (H : Hp) : Prop where
  ex : Ex B H
  mu : ∀ q ∈ M, H q.1 = some q.2
  fr : ∀ q ∈ M, B q.1 = none
  nd : (M.map (·.1)).Nodup
section
variable {B B' H : Hp} {M : List (Addr × HO)} {p b : Addr} {o o' : HO}
theorem Wd.self (H : Hp) : Wd H [] H := ⟨Ex.rf H, (fun _ h => nomatch h), (fun _ h => nomatch h), List.nodup_nil⟩
theorem Wd.free (w : Wd B M H) (np : H p = none) : B p = none := by
  cases h : B p with
  | none => rfl
  | some o =>
    rw [w.ex p o h] at np
    cases np
theorem Wd.ne (w : Wd B M H) (np : H p = none) : ∀ q ∈ M, q.1 ≠ p := fun q hq e => by
  have h := w.mu q hq
  rw [e, np] at h
  cases h
/-- a new thing that never changes -/
theorem Wd.alloc (w : Wd B M H) (np : H p = none) (o : HO) : Wd (upd B p o) M (upd H p o) where
  ex := fun a u e => by
    by_cases h : a = p
    · rw [h, upd_same] at e ⊢
      exact e
    · rw [upd_ne h] at e ⊢
      exact w.ex a u e
  mu := fun q hq => by
    rw [upd_ne (w.ne np q hq)]
    exact w.mu q hq
  fr := fun q hq => by
    rw [upd_ne (w.ne np q hq)]
    exact w.fr q hq
  nd := w.nd
/-- a new thing that may change -/
theorem Wd.allocM (w : Wd B M H) (np : H p = none) (o : HO) : Wd B ((p, o) :: M) (upd H p o) where
  ex := fun a u e => by
    rw [upd_ne (ne_of_none (w.ex a u e) np)]
    exact w.ex a u e
  mu := fun q hq => by
    rcases List.mem_cons.mp hq with rfl | hq
    · exact upd_same
    · rw [upd_ne (w.ne np q hq)]
      exact w.mu q hq
  fr := fun q hq => by
    rcases List.mem_cons.mp hq with rfl | hq
    · exact w.free np
    · exact w.fr q hq
  nd := by
    rw [List.map_cons, List.nodup_cons]
    refine ⟨fun h => ?_, w.nd⟩
    obtain ⟨q, hq, e⟩ := List.mem_map.mp h
    exact w.ne np q hq e
theorem Wd.get (w : Wd B M H) {k : Nat} (hk : M[k]? = some (b, o)) : H b = some o := w.mu (b, o) (List.mem_of_getElem? hk)
theorem nodup_other {M : List (Addr × HO)} (nd : (M.map (·.1)).Nodup) {j k : Nat} {q r : Addr × HO} (hj : M[j]? = some q) (hk : M[k]? = some r) (e : q.1 = r.1) : j = k := by
  have h1 : (M.map (·.1))[j]? = some q.1 := by rw [List.getElem?_map, hj]; rfl
  have h2 : (M.map (·.1))[k]? = some r.1 := by rw [List.getElem?_map, hk]; rfl
  obtain ⟨l1, e1⟩ := List.getElem?_eq_some_iff.mp h1
  obtain ⟨l2, e2⟩ := List.getElem?_eq_some_iff.mp h2
  have pw := List.pairwise_iff_getElem.mp nd
  rcases Nat.lt_trichotomy j k with z | z | z
  · exact absurd (by rw [e1, e2, e]) (pw j k l1 l2 z)
  · exact z
  · exact absurd (by rw [e1, e2, e]) (pw k j l2 l1 z)
/-- one of the changing things is changed -/
theorem Wd.set (w : Wd B M H) {k : Nat} (hk : M[k]? = some (b, o)) (o' : HO) : Wd B (M.set k (b, o')) (upd H b o') where
  ex := fun a u e => by
    have hb := w.fr (b, o) (List.mem_of_getElem? hk)
    rw [upd_ne (ne_of_none e hb)]
    exact w.ex a u e
  mu := fun q hq => by
    obtain ⟨j, hj⟩ := List.mem_iff_getElem?.mp hq
    by_cases e : j = k
    · subst e
      rw [List.getElem?_set_self (List.getElem?_eq_some_iff.mp hk).1] at hj
      cases hj
      exact upd_same
    · rw [List.getElem?_set_ne (fun z => e z.symm)] at hj
      have n : q.1 ≠ b := fun z => e (nodup_other w.nd hj hk z)
      rw [upd_ne n]
      exact w.mu q (List.mem_of_getElem? hj)
  fr := fun q hq => by
    obtain ⟨j, hj⟩ := List.mem_iff_getElem?.mp hq
    by_cases e : j = k
    · subst e
      rw [List.getElem?_set_self (List.getElem?_eq_some_iff.mp hk).1] at hj
      cases hj
      exact w.fr (b, o) (List.mem_of_getElem? hk)
    · rw [List.getElem?_set_ne (fun z => e z.symm)] at hj
      exact w.fr q (List.mem_of_getElem? hj)
  nd := by
    have e : (M.set k (b, o')).map (·.1) = M.map (·.1) := by
      rw [List.map_set]
      have h1 : (M.map (·.1))[k]? = some b := by rw [List.getElem?_map, hk]; rfl
      obtain ⟨l, e1⟩ := List.getElem?_eq_some_iff.mp h1
      rw [← e1]
      exact List.set_getElem_self l
    rw [e]
    exact w.nd
/-- a changing thing changes no more -/
theorem Wd.freeze (w : Wd B ((p, o) :: M) H) : Wd (upd B p o) M H where
  ex := fun a u e => by
    by_cases h : a = p
    · rw [h, upd_same] at e
      cases e
      rw [h]
      exact w.mu (p, o) List.mem_cons_self
    · rw [upd_ne h] at e
      exact w.ex a u e
  mu := fun q hq => w.mu q (List.mem_cons_of_mem _ hq)
  fr := fun q hq => by
    have n : q.1 ≠ p := fun e => by
      have h := w.nd
      rw [List.map_cons, List.nodup_cons] at h
      exact h.1 (e ▸ List.mem_map.mpr ⟨q, hq, rfl⟩)
    rw [upd_ne n]
    exact w.fr q (List.mem_cons_of_mem _ hq)
  nd := by
    have h := w.nd
    rw [List.map_cons, List.nodup_cons] at h
    exact h.2
theorem Wd.fz (w : Wd B ((p, o) :: M) H) : Ex B (upd B p o) := Ex.new (w.fr (p, o) List.mem_cons_self)
theorem Wd.drop {q : Addr × HO} (w : Wd B (q :: M) H) : Wd B M H where
  ex := w.ex
  mu := fun q hq => w.mu q (List.mem_cons_of_mem _ hq)
  fr := fun q hq => w.fr q (List.mem_cons_of_mem _ hq)
  nd := by
    have h := w.nd
    rw [List.map_cons, List.nodup_cons] at h
    exact h.2
theorem Wd.im (w : Wd B M H) (h : B b = some o) : H b = some o := w.ex b o h
theorem Wd.less (w : Wd B' M H) (e : Ex B B') : Wd B M H where
  ex := e.tr w.ex
  mu := w.mu
  fr := fun q hq => by
    cases h : B q.1 with
    | none => rfl
    | some o =>
      have := w.fr q hq
      rw [e _ _ h] at this
      cases this
  nd := w.nd
theorem Wd.perm {M' : List (Addr × HO)} (w : Wd B M H) (h : M.Perm M') : Wd B M' H :=
  ⟨w.ex, fun q hq => w.mu q (h.mem_iff.mpr hq), fun q hq => w.fr q (h.mem_iff.mpr hq), (h.map (·.1)).nodup_iff.mp w.nd⟩
theorem perm_pull {α : Type} : ∀ {M : List α} {k : Nat} {q : α}, M[k]? = some q → M.Perm (q :: M.eraseIdx k)
  | [], _, _, h => by simp at h
  | a :: M, 0, q, h => by
    simp at h
    subst h
    exact .refl _
  | a :: M, k + 1, q, h => by
    have h' : M[k]? = some q := by simpa using h
    rw [List.eraseIdx_cons_succ]
    exact ((perm_pull h').cons a).trans (.swap q a _)
theorem perm_push {α : Type} : ∀ {M : List α} {k : Nat} {q : α} (x : α), M[k]? = some q → (M.set k x).Perm (x :: M.eraseIdx k)
  | [], _, _, _, h => by simp at h
  | a :: M, 0, q, x, h => .refl _
  | a :: M, k + 1, q, x, h => by
    have h' : M[k]? = some q := by simpa using h
    rw [List.eraseIdx_cons_succ, List.set_cons_succ]
    exact ((perm_push x h').cons a).trans (.swap x a _)
/-- the k-th changing thing is drawn to the front, and put back -/
theorem Wd.pull (w : Wd B M H) {k : Nat} (hk : M[k]? = some (b, o)) : Wd B ((b, o) :: M.eraseIdx k) H := w.perm (perm_pull hk)
theorem Wd.push {k : Nat} (w : Wd B ((b, o') :: M.eraseIdx k) H) (hk : M[k]? = some (b, o)) : Wd B (M.set k (b, o')) H := w.perm (perm_push _ hk).symm
end

/-! ### steps, from the left -/
section
variable {σ : L2.St} {H B : Hp} {M : List (Addr × HO)} {Q : VK} {D : Ends} {te ta tb tx : TE} {t u : TS} {g : TG} {v x y : V} {c c' : TT} {QB : Bool → Hp → Prop} {tA tr : TA} {QA : List V → Hp → Prop} {K : PySem.W.Frag} {xs : List V}
theorem x_seq (h : t { D with nx := u D } σ H) : tSeq t u D σ H := h
theorem x_next (h : D.nx σ H) : tNext D σ H := h
theorem x_asg (h : te σ H fun x H1 => g x σ H1 D.nx) : tAsg te g D σ H := h
theorem x_name {i : Nat} {N : L2.St → Hp → Prop} (h : N (σ.set i (some v)) H) : gName i v σ H N := h
theorem x_ret (h : te σ H D.rt) : tRet te D σ H := h
theorem x_retN (h : D.rt .non H) : tRetN D σ H := h
theorem x_drop (h : te σ H fun _ H1 => D.nx σ H1) : tDrop te D σ H := h
theorem x_ifS (h : c σ H fun b H1 => if b = true then t D σ H1 else u D σ H1) : tIfS c t u D σ H := h
theorem x_par {i j : Nat} (h : tA σ H fun vs H1 => ∃ v w, vs = [v, w] ∧ D.nx ((σ.set i (some v)).set j (some w)) H1) : tPar i j tA D σ H := h
theorem x_pr {N : V → V → Prop} {v w : V} (h : N v w) : ∃ a b, [v, w] = [a, b] ∧ N a b := ⟨v, w, rfl, h⟩
theorem x_var {i : Nat} (hi : σ[i]? = some (some v)) (h : Q v H) : tVar i σ H Q := ⟨v, hi, h⟩
theorem x_c (h : Q v H) : tC v σ H Q := h
theorem x_op {r : R2} (h : ta σ H fun x H1 => tb σ H1 fun y H2 => r x y H2 Q) : tOp r ta tb σ H Q := h
theorem x_un {r : V → Hp → VK → Prop} (h : ta σ H fun x H1 => r x H1 Q) : tUn r ta σ H Q := h
theorem x_cb {r : List V → Hp → VK → Prop} (h : tA σ H fun vs H1 => r vs H1 Q) : tCB r tA σ H Q := h
theorem x_nil (h : QA [] H) : tNil σ H QA := h
theorem x_cons (h : ta σ H fun x H1 => tr σ H1 fun xs H2 => QA (x :: xs) H2) : tCons ta tr σ H QA := h
theorem x_if (h : c σ H fun k H1 => if k = true then ta σ H1 Q else tb σ H1 Q) : tIf c ta tb σ H Q := h
theorem x_andV (h : ta σ H fun x H1 => ∃ c, x = .bl c ∧ if c = true then tb σ H1 Q else Q (.bl false) H1) : tAndV ta tb σ H Q := h
theorem x_orV (h : ta σ H fun x H1 => ∃ c, x = .bl c ∧ if c = true then Q (.bl true) H1 else tb σ H1 Q) : tOrV ta tb σ H Q := h
theorem x_notV (h : ta σ H fun x H1 => ∃ c, x = .bl c ∧ Q (.bl (!c)) H1) : tNotV ta σ H Q := h
theorem x_bl {k : Bool} {N : Bool → Prop} (h : N k) : ∃ c, V.bl k = .bl c ∧ N c := ⟨k, rfl, h⟩
theorem x_tTest (h : te σ H fun x H' => ∃ k, x = .bl k ∧ QB k H') : tTest te σ H QB := h
theorem x_tB (h : te σ H fun x H' => ∃ k, x = .bl k ∧ QB k H') : tB te σ H QB := h
theorem x_tAnd (h : c σ H fun k H1 => if k = true then c' σ H1 QB else QB false H1) : tAnd c c' σ H QB := h
theorem x_tOr (h : c σ H fun k H1 => if k = true then QB true H1 else c' σ H1 QB) : tOr c c' σ H QB := h
theorem x_tNot (h : c σ H fun k H1 => QB (!k) H1) : tNot c σ H QB := h
theorem x_call {sp : Sp} {E : XK} (h : tA σ H fun vs H1 => sp vs H1 Q E) : tCall sp [] E tA σ H Q := by
  have e : (fun vs H1 => sp vs H1 Q E) = fun vs H1 => sp (vs ++ []) H1 Q E := by
    funext vs H1
    rw [List.append_nil]
  show tA σ H fun vs H1 => sp (vs ++ []) H1 Q E
  rw [← e]
  exact h
/-- numbers -/
theorem x_I0 {f : Int → Int → V} {i j : Int} (h : Q (f i j) H) : rI0 f (.int i) (.int j) H Q := ⟨i, j, rfl, rfl, h⟩
theorem x_I {C : Int → Int → Prop} {f : Int → Int → V} {i j : Int} (hc : C i j) (h : Q (f i j) H) : rI C f (.int i) (.int j) H Q := ⟨i, j, rfl, rfl, hc, h⟩
theorem x_U {f : Int → V} {i : Int} (h : Q (f i) H) : rU f (.int i) H Q := ⟨i, rfl, h⟩
theorem x_eq (hs : scal x y = true) (h : Q (.bl (decide (x = y))) H) : rEq x y H Q := ⟨hs, h⟩
theorem x_ne (hs : scal x y = true) (h : Q (.bl (!decide (x = y))) H) : rNe x y H Q := ⟨hs, h⟩
theorem dec_ii {i j : Int} : decide (V.int i = V.int j) = decide (i = j) := by simp
theorem dec_ss {i j : Str} : decide (V.str i = V.str j) = decide (i = j) := by simp
theorem x_eqI {i j : Int} (h : Q (.bl (decide (i = j))) H) : rEq (.int i) (.int j) H Q := ⟨rfl, by rw [dec_ii]; exact h⟩
theorem x_neI {i j : Int} (h : Q (.bl (!decide (i = j))) H) : rNe (.int i) (.int j) H Q := ⟨rfl, by rw [dec_ii]; exact h⟩
theorem x_eqS {i j : Str} (h : Q (.bl (decide (i = j))) H) : rEq (.str i) (.str j) H Q := ⟨rfl, by rw [dec_ss]; exact h⟩
theorem x_neS {i j : Str} (h : Q (.bl (!decide (i = j))) H) : rNe (.str i) (.str j) H Q := ⟨rfl, by rw [dec_ss]; exact h⟩
/-- a new tuple, a new list -/
def KT (xs : List V) (H : Hp) (Q : VK) : Prop := xs.length ≤ sizeLine ∧ ∀ p, H p = none → Q (.ref p) (upd H p (.tup xs))
def KL (xs : List V) (H : Hp) (Q : VK) : Prop := xs.length ≤ sizeLine ∧ ∀ p, H p = none → Q (.ref p) (upd H p (.lst xs))
theorem x_tup (h : tA σ H fun xs H1 => KT xs H1 Q) : tTup tA σ H Q := h
theorem x_lst (h : tA σ H fun xs H1 => KL xs H1 Q) : tLst tA σ H Q := h
theorem x_kt (w : Wd B M H) (hl : Nat.ble xs.length 100000 = true) (k : ∀ p B' H', Ex B B' → B' p = some (.tup xs) → Wd B' M H' → Q (.ref p) H') : KT xs H Q :=
  ⟨sz_of (Nat.le_of_ble_eq_true hl), fun p np => k p _ _ (Ex.new (w.free np)) upd_same (w.alloc np _)⟩
theorem x_kl (w : Wd B M H) (hl : Nat.ble xs.length 100000 = true) (k : ∀ p B' H', Ex B B' → B' p = some (.lst xs) → Wd B' M H' → Q (.ref p) H') : KL xs H Q :=
  ⟨sz_of (Nat.le_of_ble_eq_true hl), fun p np => k p _ _ (Ex.new (w.free np)) upd_same (w.alloc np _)⟩
theorem x_klM (w : Wd B M H) (hl : Nat.ble xs.length 100000 = true) (k : ∀ p H', Wd B ((p, .lst xs) :: M) H' → Q (.ref p) H') : KL xs H Q :=
  ⟨sz_of (Nat.le_of_ble_eq_true hl), fun p np => k p _ (w.allocM np _)⟩
/-- lists read and written -/
theorem x_ixL {p : Addr} {i : Int} (h1 : SqL K H p xs) (h2 : atI xs i = some v) (h : Q v H) : rIxL K (.ref p) (.int i) H Q := ⟨p, xs, i, v, rfl, rfl, h1, h2, h⟩
theorem x_ixT {p : Addr} {i : Int} (h1 : SqT K H p xs) (h2 : atI xs i = some v) (h : Q v H) : rIxT K (.ref p) (.int i) H Q := ⟨p, xs, i, v, rfl, rfl, h1, h2, h⟩
theorem x_gSub {to ti : TE} {s : TSet} {N : L2.St → Hp → Prop} (h : to σ H fun o H1 => ti σ H1 fun i H2 => s o i v H2 fun H3 => N σ H3) : gSub to ti s v σ H N := h
theorem x_setL (w : Wd B M H) {l : Addr} {k j : Nat} {i : Int} {N : Hp → Prop} (hk : M[k]? = some (l, .lst xs)) (hj : ixN xs.length i = some j) (h : ∀ H', Wd B (M.set k (l, .lst (xs.set j v))) H' → N H') : rSetL (.ref l) (.int i) v H N :=
  ⟨l, xs, i, j, rfl, rfl, w.get hk, hj, h _ (w.set hk _)⟩
/-- attributes -/
def Fd (K : PySem.W.Frag) (f : Str) (x : V) (H : Hp) (Q : VK) : Prop := ∃ a C dx fs v, x = .ref a ∧ H a = some (.ins C dx fs) ∧ Cls K C ∧ NoAttr K C f ∧ fs.lookup f = some v ∧ Q v H
theorem x_fld {f : Str} (h : ta σ H fun x H1 => Fd K f x H1 Q) : tFld K ta f σ H Q := h
theorem x_fd {a C dx : Addr} {fs : List (Str × V)} {f : Str} (h1 : H a = some (.ins C dx fs)) (c : Cls K C) (n : NoAttr K C f) (l : fs.lookup f = some v) (h : Q v H) : Fd K f (.ref a) H Q := ⟨a, C, dx, fs, v, rfl, h1, c, n, l, h⟩
def Sfd (K : PySem.W.Frag) (f : Str) (x y : V) (H : Hp) (N : Hp → Prop) : Prop := ∃ a C dx fs, x = .ref a ∧ H a = some (.ins C dx fs) ∧ Cls K C ∧ NoAttr K C f ∧ fs.length < 1000 ∧ N (upd H a (.ins C dx (putF f y fs)))
theorem x_sFld {f : Str} {tv : TE} (h : tv σ H fun y H1 => ta σ H1 fun x H2 => Sfd K f x y H2 (D.nx σ)) : sFld K ta tv f D σ H := h
theorem x_sfd {a C dx : Addr} {fs : List (Str × V)} {f : Str} {N : Hp → Prop} (h1 : H a = some (.ins C dx fs)) (c : Cls K C) (n : NoAttr K C f) (l : Nat.blt fs.length 1000 = true) (h : N (upd H a (.ins C dx (putF f y fs)))) :
    Sfd K f (.ref a) y H N := ⟨a, C, dx, fs, rfl, h1, c, n, Nat.le_of_ble_eq_true l, h⟩
end

/-! ### tests -/
theorem i_t {A C : Prop} (h : A) : if true = true then A else C := iteT h
theorem i_f {A C : Prop} (h : C) : if false = true then A else C := iteF h
theorem i_nt {A C : Prop} (h : C) : if (!true) = true then A else C := iteF h
theorem i_nf {A C : Prop} (h : A) : if (!false) = true then A else C := iteT h
theorem i_d {p A C : Prop} [Decidable p] (h1 : p → A) (h2 : ¬ p → C) : if decide p = true then A else C := by
  by_cases h : p
  · rw [decide_eq_true h]; exact iteT (h1 h)
  · rw [decide_eq_false h]; exact iteF (h2 h)
theorem i_nd {p A C : Prop} [Decidable p] (h1 : ¬ p → A) (h2 : p → C) : if (!decide p) = true then A else C := by
  by_cases h : p
  · rw [decide_eq_true h]; exact iteF (h2 h)
  · rw [decide_eq_false h]; exact iteT (h1 h)
theorem i_b {b : Bool} {A C : Prop} (h1 : b = true → A) (h2 : b = false → C) : if b = true then A else C := by
  cases b with
  | true => exact iteT (h1 rfl)
  | false => exact iteF (h2 rfl)
end Sy

/-! Defs by their names, classes by theirs, own operators. -/
namespace Sy
open PySem PySem.Spec PyProof.Rows L2

/-- the def called x keeps its promise -/
structure Dn (CX : CXT) (P : Program) (w : World) (K : PySem.W.Frag) (mg : Str → Option Value) (base : Heap) (x : Str) (k : Nat) (ps : List Str) (sp : Sp) : Prop where
  ok : ∃ (f : Addr) (fd : FuncData), mg x = some (.ref f) ∧ PySem.W.keepIn K (.ref f) = true ∧ Binds K fd ps [] ∧ FnOk P w K mg base CX k f fd ps sp
/-- the method m of the class at C keeps its promise -/
structure Mt (CX : CXT) (P : Program) (w : World) (K : PySem.W.Frag) (mg : Str → Option Value) (base : Heap) (C : Addr) (m : Str) (k : Nat) (ps : List Str) (sp : Sp) : Prop where
  ok : ∃ (f : Addr) (fd : FuncData), Meth K C m f ∧ Binds K fd ps [] ∧ FnOk P w K mg base CX k f fd ps sp
/-- the class called x stands at C -/
structure Kl (K : PySem.W.Frag) (mg : Str → Option Value) (x : Str) (C : Addr) : Prop where
  ic : C8.InsC K C
  gl : mg x = some (.ref C)
  mks : PySem.W.makesIn K C = true
  kp : PySem.W.keepIn K (.ref C) = true
  sf : PySem.W.selfFirst K C = true

section
variable {X : Cx} {CX : CXT} {k j : Nat} {C : Addr} {ps : List Str} {sp : Sp} {E : XK} {x m : Str} {p pos apos : Pos} {e o : Expr} {es : List Expr} {ta : TE} {t : TA}
theorem pe_dn (D : Dn CX X.prog X.w X.K X.mg X.base x j ps sp) (hr : Room k X.A) (hj : j ≤ k) (hg : Gl X x) (hx : Passes CX X E) (ha : PA X (e :: es) t)
    (hdb : (x == ("__debug__" : Str)) = false := by decide) (he : starEach (e :: es) X.env = (false, eval e X.env) :: starEach es X.env := by rfl) (hpl : (backTo pos (starEach es X.env)).any (·.1) = false := by rfl) :
    PE X (.Call (.Name x p) (e :: es) [] pos) (tCall sp [] E t) := by
  obtain ⟨f, fd, h1, h2, h3, h4⟩ := D.ok
  exact pe_call h4 (hr.mono hj) hg h1 h2 h3 .nil hx ha hdb he hpl
theorem pe_dn0 (D : Dn CX X.prog X.w X.K X.mg X.base x j ps sp) (hr : Room k X.A) (hj : j ≤ k) (hg : Gl X x) (hx : Passes CX X E)
    (hdb : (x == ("__debug__" : Str)) = false := by decide) : PE X (.Call (.Name x p) [] [] pos) (tCall sp [] E tNil) := by
  obtain ⟨f, fd, h1, h2, h3, h4⟩ := D.ok
  exact pe_call0 h4 (hr.mono hj) hg h1 h2 h3 .nil hx hdb
/-- C(e, ..) -/
theorem pe_kl (c : Kl X.K X.mg x C) (D : Mt CX X.prog X.w X.K X.mg X.base C "__init__" j ps sp) (hr : Room k X.A) (hj : j + 1 ≤ k) (hg : Gl X x) (hx : Passes CX X E) (ha : PA X (e :: es) t)
    (hdb : (x == ("__debug__" : Str)) = false := by decide) (he : starEach (e :: es) X.env = (false, eval e X.env) :: starEach es X.env := by rfl) (hpl : (backTo pos (starEach es X.env)).any (·.1) = false := by rfl) :
    PE X (.Call (.Name x p) (e :: es) [] pos) (tMake C sp [] E t) := by
  obtain ⟨f, fd, h1, h3, h4⟩ := D.ok
  exact pe_make ⟨c.mks, h1.at_, h1.fn, c.kp⟩ h4 (hr.mono hj) hg c.gl h3 .nil hx ha hdb he hpl
/-- the callee runs, at any around that is as wide -/
theorem run_at {f : Addr} {fd : FuncData} {pins : List (Addr × Obj)} {σ : L2.St} {H : Hp} {s : Shared} {Q : VK} {us : List Value} {vs : List V} {A : Around} (hfr : A.frames = X.A.frames) (F : FnOk X.prog X.w X.K X.mg X.base CX k f fd ps sp) (hr : Room k A)
    (hb : Binds X.K fd ps []) (hx : Passes CX X E) (I : Inv X pins σ H s) (r : Vals vs us) (h : sp vs H Q E) : wpAny (model X.prog X.w) A (call (.ref f) us) (EP X pins σ Q) X.xe s := by
  have e0 : Env0 X.prog X.w X.K X.mg X.base A X.stack s H := by
    have e := I.env0
    exact ⟨by rw [hfr]; exact e.frames, e.mod, e.bs, e.bsz, e.funs, e.frf, e.hok, e.bare⟩
  have hl : us.length = ps.length := by rw [← r.length]; exact F.len _ _ _ _ h
  refine wpAny_call (codeAny_mono (F.run A X.stack s H ⟨us, []⟩ us vs Q E hr e0 (by
    have := hb s us I.kIn (by simpa using hl)
    simpa using this) r h) fun r s' hq => ?_)
  cases r with
  | error e => exact hx pins σ H s e s' I hq
  | ok fl =>
    cases fl with
    | ret u => exact I.after hq
    | next => exact False.elim hq
    | brk => exact False.elim hq
    | cont => exact False.elim hq
theorem no_ni {x : V} {u : Value} (r : RelV x u) : u ≠ .notImplemented := by
  intro e
  subst e
  cases x <;> first
    | exact nomatch r
    | (obtain ⟨_, q⟩ := r; exact nomatch q)
theorem cmpBack_of {Q : Value → Shared → Prop} {u : Value} {s' : Shared} (n : u ≠ .notImplemented) (q : Q u s') : PySem.W.CmpBack Q u s' := by
  cases u <;> first
    | exact absurd rfl n
    | exact q
/-- a op b of two instances of the class at C, by its own method -/
def rOwn (C : Addr) (sp : Sp) (E : XK) : R2 := fun x y H Q => ∃ a b dx dy fs gs, x = .ref a ∧ y = .ref b ∧ H a = some (.ins C dx fs) ∧ H b = some (.ins C dy gs) ∧ sp [x, y] H Q E
theorem op_own {op : Operator} (D : Mt CX X.prog X.w X.K X.mg X.base C m j ps sp) (c : Kl X.K X.mg x C) (hr : Room k X.A) (hj : j ≤ k) (hx : Passes CX X E) (e : PySem.dunder op.info.2 = m := by decide +kernel) : OpR X (binaryOp op) (rOwn C sp E) := by
  obtain ⟨f, fd, h1, hb, F⟩ := D.ok
  subst e
  intro pins s σ H x y v u Q I rx ry hq
  obtain ⟨a, b, dx, dy, fs, gs, rfl, rfl, ha, hb', q⟩ := hq
  cases rx
  cases ry
  obtain ⟨mA, J, _⟩ := ins_get I.hok ha
  obtain ⟨mB, J', _⟩ := ins_get I.hok hb'
  obtain ⟨od, J, _⟩ := J.look
  obtain ⟨od', J', _⟩ := J'.look
  obtain ⟨m', hF⟩ := I.fr
  have r2 : Vals [V.ref a, V.ref b] [Value.ref a, Value.ref b] := .cons rfl (.cons rfl .nil)
  refine PySem.W.binop_K hF I.ok.mod.kin J J'.type c.sf h1.at_ h1.fn (wpAny_mono (run_at rfl F (hr.mono hj) hb hx I r2 q) (fun w s' z => ?_) fun _ _ z => z)
  obtain ⟨v, H', I', r, q'⟩ := z
  exact cmpBack_of (no_ni r) ⟨v, H', I', r, q'⟩
/-- -a -/
def rOwn1 (C : Addr) (sp : Sp) (E : XK) : V → Hp → VK → Prop := fun x H Q => ∃ a dx fs, x = .ref a ∧ H a = some (.ins C dx fs) ∧ sp [x] H Q E
theorem un_own (D : Mt CX X.prog X.w X.K X.mg X.base C "__neg__" j ps sp) (hr : Room k X.A) (hj : j ≤ k) (hx : Passes CX X E) : UnR X (unaryOp .USub) (rOwn1 C sp E) := by
  obtain ⟨f, fd, h1, hb, F⟩ := D.ok
  intro pins s σ H x v Q I rx hq
  obtain ⟨a, dx, fs, rfl, ha, q⟩ := hq
  cases rx
  obtain ⟨mA, J, _⟩ := ins_get I.hok ha
  obtain ⟨od, J, _⟩ := J.look
  obtain ⟨m', hF⟩ := I.fr
  exact PySem.W.ksp_neg hF I.ok.mod.kin J h1.at_ h1.fn (run_at rfl F (hr.mono hj) hb hx I (show Vals [V.ref a] [Value.ref a] from .cons rfl .nil) q)
/-- abs(a) -/
def rOwnC (C : Addr) (sp : Sp) (E : XK) : List V → Hp → VK → Prop := fun xs H Q => ∃ a dx fs, xs = [.ref a] ∧ H a = some (.ins C dx fs) ∧ sp xs H Q E
theorem call_absO (D : Mt CX X.prog X.w X.K X.mg X.base C "__abs__" j ps sp) (hr : Room k X.A) (hj : j + 1 ≤ k) (hx : Passes CX X E) : CallR X (.builtin "abs") (rOwnC C sp E) := by
  obtain ⟨f, fd, h1, hb, F⟩ := D.ok
  intro pins s σ H xs us Q I r hq
  obtain ⟨a, dx, fs, rfl, ha, q⟩ := hq
  obtain ⟨u, rfl, ru⟩ := vals1 r
  cases ru
  obtain ⟨mA, J, _⟩ := ins_get I.hok ha
  obtain ⟨od, J, _⟩ := J.look
  refine PySem.Calls.call_function_entry PyProof.Rows.kind_abs PyProof.Rows.plain_abs PyProof.Rows.entry_abs (PyProof.Rows.args_abs _) ?_
  unfold Builtin.«abs»
  refine wpAny_bind (m := oneArg "abs" _) (wpAny_pure ?_)
  have hA : X.A.in1.frames = X.A.frames := rfl
  refine wpAny_bind (m := callSpecial? (.ref a) (Str.ofString "__abs__")) (PySem.W.special_fn I.kIn J h1.at_ (beq_iff_eq.mp h1.fn) (wpAny_mono (run_at hA F ((hr.mono hj).in1) hb hx I (show Vals [V.ref a] [Value.ref a] from .cons rfl .nil) q) (fun w s' z => ?_) fun _ _ z => z))
  exact wpAny_pure ⟨_, rfl, z⟩
end

/-! ### isinstance -/
section
variable {K : PySem.W.Frag} {H : Hp} {Q : VK} {x c : V} {t u : Value} {b : Bool} {C : Addr}
theorem x_isi (ty : TyX K H x t) (cv : ClsV c u) (k : PySem.W.kitOne K t u = some b) (h : Q (.bl b) H) : rIsi K [x, c] H Q := ⟨x, c, t, u, b, rfl, cv, ty, k, h⟩
theorem x_isi_ii {i : Int} (h : Q (.bl true) H) : rIsi K [.int i, .ty "int"] H Q := x_isi (.base (.int i)) (.ty _) (kit_ty (by decide +kernel)) h
theorem x_isi_ib {i : Int} (h : Q (.bl false) H) : rIsi K [.int i, .ty "bool"] H Q := x_isi (.base (.int i)) (.ty _) (kit_ty (by decide +kernel)) h
theorem x_isi_bi {i : Bool} (h : Q (.bl true) H) : rIsi K [.bl i, .ty "int"] H Q := x_isi (.base (.bl i)) (.ty _) (kit_ty (by decide +kernel)) h
theorem x_isi_bb {i : Bool} (h : Q (.bl true) H) : rIsi K [.bl i, .ty "bool"] H Q := x_isi (.base (.bl i)) (.ty _) (kit_ty (by decide +kernel)) h
theorem x_isi_is {i : Int} (h : Q (.bl false) H) : rIsi K [.int i, .ty "str"] H Q := x_isi (.base (.int i)) (.ty _) (kit_ty (by decide +kernel)) h
theorem x_isi_ss {i : Str} (h : Q (.bl true) H) : rIsi K [.str i, .ty "str"] H Q := x_isi (.base (.str i)) (.ty _) (kit_ty (by decide +kernel)) h
theorem x_isi_o {a dx : Addr} {fs : List (Str × V)} (ic : C8.InsC K C) (ha : H a = some (.ins C dx fs)) (h : Q (.bl true) H) : rIsi K [.ref a, .ref C] H Q :=
  x_isi (.base (.ins ha ic.cl ic.ha ic.hn ic.htk ic.hm)) (.own C) ic.me h
end
section
variable {X : Cx}
def rAbs : List V → Hp → VK → Prop := fun xs H Q => ∃ i, xs = [.int i] ∧ Q (.int (if i < 0 then -i else i)) H
theorem c_abs : CallR X (.builtin "abs") rAbs := call_abs
def rInt : List V → Hp → VK → Prop := fun xs H Q => (∃ i, xs = [.int i] ∧ Q (.int i) H) ∨ ∃ k, xs = [.bl k] ∧ Q (.int (if k then 1 else 0)) H
theorem c_int : CallR X (.type "int") rInt := call_int1
def rMx : List V → Hp → VK → Prop := fun xs H Q => ∃ i j, xs = [.int i, .int j] ∧ Q (.int (if j > i then j else i)) H
theorem c_max (hc : X.calm = true) : CallR X (.builtin "max") rMx := call_max2 hc
def rMn : List V → Hp → VK → Prop := fun xs H Q => ∃ i j, xs = [.int i, .int j] ∧ Q (.int (if j < i then j else i)) H
theorem c_min (hc : X.calm = true) : CallR X (.builtin "min") rMn := call_min2 hc
def rLn (K : PySem.W.Frag) : List V → Hp → VK → Prop := fun xs H Q => ∃ p ys, xs = [.ref p] ∧ (SqL K H p ys ∨ SqT K H p ys) ∧ Q (.int ys.length) H
theorem c_len : CallR X (.builtin "len") (rLn X.K) := call_len_seq
def rStrI : List V → Hp → VK → Prop := fun xs H Q => ∃ i, xs = [.int i] ∧ i.natAbs.log2 < 1920 ∧ Q (.str (toString i)) H
theorem c_strI : CallR X (.type "str") rStrI := call_str_int
variable {H : Hp} {Q : VK} {K : PySem.W.Frag}
theorem x_abs {i : Int} (h : Q (.int (if i < 0 then -i else i)) H) : rAbs [.int i] H Q := ⟨i, rfl, h⟩
theorem x_intI {i : Int} (h : Q (.int i) H) : rInt [.int i] H Q := .inl ⟨i, rfl, h⟩
theorem x_intB {k : Bool} (h : Q (.int (if k then 1 else 0)) H) : rInt [.bl k] H Q := .inr ⟨k, rfl, h⟩
theorem x_max {i j : Int} (h : Q (.int (if j > i then j else i)) H) : rMx [.int i, .int j] H Q := ⟨i, j, rfl, h⟩
theorem x_min {i j : Int} (h : Q (.int (if j < i then j else i)) H) : rMn [.int i, .int j] H Q := ⟨i, j, rfl, h⟩
theorem x_lenL {p : Addr} {xs : List V} (h1 : SqL K H p xs) (h : Q (.int xs.length) H) : rLn K [.ref p] H Q := ⟨p, xs, rfl, .inl h1, h⟩
theorem x_lenT {p : Addr} {xs : List V} (h1 : SqT K H p xs) (h : Q (.int xs.length) H) : rLn K [.ref p] H Q := ⟨p, xs, rfl, .inr h1, h⟩
theorem x_own2 {C a b dx dy : Addr} {fs gs : List (Str × V)} {sp : Sp} {E : XK} (ha : H a = some (.ins C dx fs)) (hb : H b = some (.ins C dy gs)) (h : sp [.ref a, .ref b] H Q E) : rOwn C sp E (.ref a) (.ref b) H Q := ⟨a, b, dx, dy, fs, gs, rfl, rfl, ha, hb, h⟩
theorem x_own1 {C a dx : Addr} {fs : List (Str × V)} {sp : Sp} {E : XK} (ha : H a = some (.ins C dx fs)) (h : sp [.ref a] H Q E) : rOwn1 C sp E (.ref a) H Q := ⟨a, dx, fs, rfl, ha, h⟩
theorem x_ownC {C a dx : Addr} {fs : List (Str × V)} {sp : Sp} {E : XK} (ha : H a = some (.ins C dx fs)) (h : sp [.ref a] H Q E) : rOwnC C sp E [.ref a] H Q := ⟨a, dx, fs, rfl, ha, h⟩
/-- C(..): the new instance, and its own dict -/
def MkI (C : Addr) (sp : Sp) (E : XK) (vs : List V) (H : Hp) (Q : VK) : Prop := ∀ x dx, H x = none → H dx = none → dx ≠ x → sp (.ref x :: vs) (upd (upd H dx (.own x)) x (.ins C dx [])) (fun v H2 => v = .non ∧ Q (.ref x) H2) E
theorem x_make {C : Addr} {σ : L2.St} {sp : Sp} {E : XK} {t : TA} (h : t σ H fun vs H1 => MkI C sp E vs H1 Q) : tMake C sp [] E t σ H Q := by
  show t σ H fun vs H1 => MkI C sp E (vs ++ []) H1 Q
  have e : (fun vs H1 => MkI C sp E vs H1 Q) = fun vs H1 => MkI C sp E (vs ++ []) H1 Q := by
    funext vs H1
    rw [List.append_nil]
  rw [← e]
  exact h
end
theorem i_dT {p A C : Prop} [Decidable p] (hp : p) (h : A) : if decide p = true then A else C := by
  rw [decide_eq_true hp]; exact iteT h
theorem i_dF {p A C : Prop} [Decidable p] (hp : ¬ p) (h : C) : if decide p = true then A else C := by
  rw [decide_eq_false hp]; exact iteF h
theorem i_ndT {p A C : Prop} [Decidable p] (hp : p) (h : C) : if (!decide p) = true then A else C := by
  rw [decide_eq_true hp]; exact iteF h
theorem i_ndF {p A C : Prop} [Decidable p] (hp : ¬ p) (h : A) : if (!decide p) = true then A else C := by
  rw [decide_eq_false hp]; exact iteT h
section
variable {B H : Hp} {M : List (Addr × HO)} {Q : VK} {K : PySem.W.Frag} {σ : L2.St} {D : Ends} {g : TG} {tb : TS} {tl : TE} {xs zs : List V}
theorem x_cat {l b : Addr} (w : Wd B M H) (h1 : H l = some (.lst xs)) (h2 : H b = some (.lst zs)) (hl : Nat.ble (xs.length + zs.length) 100000 = true) (k : ∀ p B' H', Ex B B' → B' p = some (.lst (xs ++ zs)) → Wd B' M H' → Q (.ref p) H') :
    rCat (.ref l) (.ref b) H Q := ⟨l, b, xs, zs, rfl, rfl, h1, h2, sz_of (Nat.le_of_ble_eq_true hl), fun p np => k p _ _ (Ex.new (w.free np)) upd_same (w.alloc np _)⟩
/-- for .. in a list -/
def ForL (K : PySem.W.Frag) (g : TG) (tb : TS) (D : Ends) (σ : L2.St) (x : V) (H : Hp) : Prop := ∃ a, x = .ref a ∧ (∃ xs, SqL K H a xs) ∧ ∃ W : Nat → Nat → L2.St → Hp → Prop, (∃ m, W 0 m σ H) ∧ ∀ i m σ H, W i m σ H →
  ((Itl K a).stop i H ∧ D.nx σ H) ∨ ((Itl K a).go i H ∧ ∃ N : L2.St → Hp → Prop, (∀ σ' H', N σ' H' → ∃ m', m' < m ∧ W (i + 1) m' σ' H') ∧ ∀ x H', (Itl K a).yld i H x H' → g x σ H' fun σ2 H2 => tb { D with nx := N, ct := N, bk := D.nx } σ2 H2)
theorem x_for (h : tl σ H fun x H1 => ForL K g tb D σ x H1) : tFor (iList K tl) g tb D σ H := h
theorem x_forL {a : Addr} (Pv : Nat → L2.St → Hp → Prop) (hx : SqL K H a xs) (h0 : Pv 0 σ H) (hl : ∀ i σ H, i ≤ xs.length → Pv i σ H → SqL K H a xs)
    (hs : ∀ i x σ H, xs[i]? = some x → Pv i σ H → g x σ H fun σ2 H2 => tb { D with nx := Pv (i + 1), ct := Pv (i + 1), bk := D.nx } σ2 H2) (hd : ∀ σ H, Pv xs.length σ H → D.nx σ H) : ForL K g tb D σ (.ref a) H :=
  ⟨a, rfl, ⟨xs, hx⟩, for_list (K := K) (a := a) (xs := xs) Pv h0 hl hs hd⟩
/-- for .. in range(n) -/
def ForR (g : TG) (tb : TS) (D : Ends) (σ : L2.St) (vs : List V) (H : Hp) : Prop := ∃ j : Int, vs = [.int j] ∧ -(2 ^ 62) ≤ j ∧ j < 2 ^ 62 ∧ ∃ W : Nat → Nat → L2.St → Hp → Prop, (∃ m, W 0 m σ H) ∧ ∀ i m σ H, W i m σ H →
  ((Itr 0 j.toNat).stop i H ∧ D.nx σ H) ∨ ((Itr 0 j.toNat).go i H ∧ ∃ N : L2.St → Hp → Prop, (∀ σ' H', N σ' H' → ∃ m', m' < m ∧ W (i + 1) m' σ' H') ∧ ∀ x H', (Itr 0 j.toNat).yld i H x H' → g x σ H' fun σ2 H2 => tb { D with nx := N, ct := N, bk := D.nx } σ2 H2)
theorem x_forr {ta : TA} (h : ta σ H fun vs H1 => ForR g tb D σ vs H1) : tFor (iRng1 ta) g tb D σ H := h
theorem x_forR {j : Int} (Pv : Nat → L2.St → Hp → Prop) (hj : -100000 ≤ j ∧ j ≤ 100000) (h0 : Pv 0 σ H)
    (hs : ∀ (i : Nat) σ H, (i : Int) < j → Pv i σ H → g (.int (i : Int)) σ H fun σ2 H2 => tb { D with nx := Pv (i + 1), ct := Pv (i + 1), bk := D.nx } σ2 H2) (hd : ∀ σ H, Pv j.toNat σ H → D.nx σ H) : ForR g tb D σ [.int j] H :=
  ⟨j, rfl, by omega, by omega, for_range (lo := 0) (n := j.toNat) Pv h0 (fun i σ H hi p => by
    have e : (0 : Int) + (i : Int) = (i : Int) := Int.zero_add _
    rw [e]
    exact hs i σ H (by omega) p) hd⟩
/-- a, b = t -/
theorem x_gTup {n : Nat} {t : TGs} {a : Addr} {N : L2.St → Hp → Prop} (h1 : SqT K H a xs) (hn : Nat.beq xs.length n = true) (h : t xs σ H N) : gTup K n t (.ref a) σ H N := ⟨a, xs, rfl, h1, Nat.eq_of_beq_eq_true hn, h⟩
theorem x_gCons {t : TG} {u : TGs} {v : V} {r : List V} {N : L2.St → Hp → Prop} (h : t v σ H fun σ' H' => u r σ' H' N) : gCons t u (v :: r) σ H N := ⟨v, r, rfl, h⟩
theorem x_gNil {N : L2.St → Hp → Prop} (h : N σ H) : gNil [] σ H N := ⟨rfl, h⟩
end
/-- of all of a list -/
def Alw (P : V → Prop) (xs : List V) : Prop := ∀ v ∈ xs, P v
theorem al_nil {P : V → Prop} : Alw P [] := fun _ h => nomatch h
theorem al_cons {P : V → Prop} {x : V} {xs : List V} (h : P x) (t : Alw P xs) : Alw P (x :: xs) := fun v hv => by
  rcases List.mem_cons.mp hv with rfl | hv
  · exact h
  · exact t v hv
theorem al_app {P : V → Prop} {xs ys : List V} (h : Alw P xs) (t : Alw P ys) : Alw P (xs ++ ys) := fun v hv => by
  rcases List.mem_append.mp hv with hv | hv
  · exact h v hv
  · exact t v hv
theorem x_forA {B H : Hp} {M : List (Addr × HO)} {K : PySem.W.Frag} {σ : L2.St} {D : Ends} {g : TG} {tb : TS} {xs : List V} {P : V → Prop} {a : Addr} (w : Wd B M H) (ha : B a = some (.lst xs)) (al : Alw P xs) (Pv : L2.St → Hp → Prop) (h0 : Pv σ H) (hw : ∀ σ H, Pv σ H → Ex B H)
    (hs : ∀ x σ H, P x → Pv σ H → g x σ H fun σ2 H2 => tb { D with nx := Pv, ct := Pv, bk := D.nx } σ2 H2) (hd : ∀ σ H, Pv σ H → D.nx σ H) : ForL K g tb D σ (.ref a) H :=
  x_forL (xs := xs) (fun _ => Pv) (sl_of (w.im ha)) h0 (fun _ σ H _ p => sl_of (hw σ H p a _ ha)) (fun i x σ H hx p => hs x σ H (al x (List.mem_of_getElem? hx)) p) hd
end Sy

/-! What the top has written, def by def and class by class; more rules. -/
namespace Sy
open PySem PySem.Spec PyProof.Rows L2

/-- a def of the top, as it stands in the written part -/
structure FF (K : PySem.W.Frag) (x : Str) (st : Stmt) : Prop where
  ok : ∃ (f : Addr) (oc : Value) (od : Option Addr) (kV doc pm : Value) (an : Option Addr) (cdv ct : Value) (osl : Array (Option Value)),
    PySem.W.nsIn K mainGlobals x = some (some (.ref f)) ∧ K.lookup f = some ⟨oc, od, .func (PySem.W.fnOf x x (defArgs st) (defBody st) (defScope st) .none kV doc pm an cdv ct), osl⟩ ∧ PySem.W.codeIn K cdv x = true ∧ PySem.W.keepIn K (.ref f) = true
theorem ff_mk {K : PySem.W.Frag} {x : Str} {st : Stmt} {f : Addr} {oc : Value} {od : Option Addr} {kV doc pm : Value} {an : Option Addr} {cdv ct : Value} {osl : Array (Option Value)} (a : PySem.W.nsIn K mainGlobals x = some (some (.ref f)))
    (l : K.lookup f = some ⟨oc, od, .func (PySem.W.fnOf x x (defArgs st) (defBody st) (defScope st) .none kV doc pm an cdv ct), osl⟩) (c : PySem.W.codeIn K cdv x = true) (k : PySem.W.keepIn K (.ref f) = true) : FF K x st :=
  ⟨⟨f, oc, od, kV, doc, pm, an, cdv, ct, osl, a, l, c, k⟩⟩
/-- a method -/
structure MF (K : PySem.W.Frag) (C : Addr) (m qual : Str) (st : Stmt) : Prop where
  ok : ∃ (f : Addr) (oc : Value) (od : Option Addr) (kV doc pm : Value) (an : Option Addr) (cdv ct : Value) (osl : Array (Option Value)),
    PySem.W.findIn K (.ref C) m = some (some (.ref f)) ∧ PySem.W.isFn K (.ref f) = true ∧ K.lookup f = some ⟨oc, od, .func (PySem.W.fnOf m qual (defArgs st) (defBody st) (defScope st) .none kV doc pm an cdv ct), osl⟩ ∧ PySem.W.codeIn K cdv qual = true ∧ PySem.W.keepIn K (.ref f) = true
theorem mf_mk {K : PySem.W.Frag} {C : Addr} {m qual : Str} {st : Stmt} {f : Addr} {oc : Value} {od : Option Addr} {kV doc pm : Value} {an : Option Addr} {cdv ct : Value} {osl : Array (Option Value)} (a : PySem.W.findIn K (.ref C) m = some (some (.ref f))) (i : PySem.W.isFn K (.ref f) = true)
    (l : K.lookup f = some ⟨oc, od, .func (PySem.W.fnOf m qual (defArgs st) (defBody st) (defScope st) .none kV doc pm an cdv ct), osl⟩) (c : PySem.W.codeIn K cdv qual = true) (k : PySem.W.keepIn K (.ref f) = true) : MF K C m qual st :=
  ⟨⟨f, oc, od, kV, doc, pm, an, cdv, ct, osl, a, i, l, c, k⟩⟩
/-- a class of the top -/
structure KF (K : PySem.W.Frag) (x : Str) (C : Addr) : Prop where
  a : PySem.W.nsIn K mainGlobals x = some (some (.ref C))
  pg : PySem.W.plainGet K C Str.empty = true
  hd : PySem.W.hasDictIn K C = true
  po : PySem.W.plainOver K C = true
  sa : PySem.W.findIn K (.ref C) "__setattr__" = some (some (.builtin "object.__setattr__"))
  ha : PySem.W.findIn K (.ref C) "__class__" = some (some (.builtin "object.__class__"))
  hn : PySem.W.specialIn K (.builtin "object.__class__") "__get__" = some (some (.builtin "getset_descriptor.__get__"))
  htk : PySem.W.takesIn K (.builtin "object.__class__") = some true
  hm : PySem.W.mroIn K C (.type "object") = some true
  mks : PySem.W.makesIn K C = true
  kp : PySem.W.keepIn K (.ref C) = true
  sf : PySem.W.selfFirst K C = true
section
variable {CX : CXT} {P : Program} {w : World} {K : PySem.W.Frag} {mg : Str → Option Value} {base h : Heap} {x m qual : Str} {C : Addr} {st : Stmt} {k : Nat} {ps : List Str} {sp : Sp}
theorem kit_self {K : PySem.W.Frag} {t : Value} : PySem.W.kitOne K t t = some true := by
  unfold PySem.W.kitOne
  rw [if_pos (by simp)]
theorem KF.kl (c : KF K x C) (X : K.In h) (G : h.Ns mainGlobals mg) : Kl K mg x C :=
  ⟨⟨⟨c.pg, c.hd, c.po, c.sa⟩, c.ha, c.hn, c.htk, c.hm, kit_self⟩, PySem.W.mg_of X G c.a, c.mks, c.kp, c.sf⟩
theorem dn_mk (a : FF K x st) (X : K.In h) (G : h.Ns mainGlobals mg) (hb : ∀ {f : Addr} {fd : FuncData}, Fun K x x st f fd → Binds K fd ps []) (ok : ∀ {f : Addr} {fd : FuncData}, Fun K x x st f fd → FnOk P w K mg base CX k f fd ps sp) :
    Dn CX P w K mg base x k ps sp := by
  obtain ⟨f, oc, od, kV, doc, pm, an, cdv, ct, osl, h1, h2, h3, h4⟩ := a.ok
  have F := fun_mk (st := st) h2 h3 h4
  exact ⟨⟨f, _, PySem.W.mg_of X G h1, h4, hb F, ok F⟩⟩
theorem mt_mk (a : MF K C m qual st) (hb : ∀ {f : Addr} {fd : FuncData}, Fun K m qual st f fd → Binds K fd ps []) (ok : ∀ {f : Addr} {fd : FuncData}, Fun K m qual st f fd → FnOk P w K mg base CX k f fd ps sp) :
    Mt CX P w K mg base C m k ps sp := by
  obtain ⟨f, oc, od, kV, doc, pm, an, cdv, ct, osl, h1, h2, h3, h4, h5⟩ := a.ok
  have F := fun_mk (st := st) h3 h4 h5
  exact ⟨⟨f, _, ⟨h1, h2, h5⟩, hb F, ok F⟩⟩
end
section
variable {X : Cx} {x : Str} {C : Addr} {pos : Pos}
theorem pe_kn (c : Kl X.K X.mg x C) (hg : Gl X x) (hd : (x == ("__debug__" : Str)) = false := by decide) : PE X (.Name x pos) (tC (.ref C)) := pe_glob hg c.gl rfl hd
theorem pe_tyn {n : String} (hg : Gl X x) (hm : X.mg x = none) (hv : bootBuiltins x = some (.type n)) (hn : x ≠ "__name__" := by decide) (hd : (x == ("__debug__" : Str)) = false := by decide) : PE X (.Name x pos) (tC (.ty n)) := pe_bltn hg hm hv rfl hn hd
theorem op_mulA : OpR X (binaryOp .Mult) (rI IntMulOk fun i j => .int (i * j)) := opI fun _ _ _ _ _ _ _ hc q => mul_int q hc
theorem mul_r {i j : Int} (h : -(2 ^ 64) < j ∧ j < 2 ^ 64) : IntMulOk i j := CMul.ok (.inr h)
theorem mul_l {i j : Int} (h : -(2 ^ 64) < i ∧ i < 2 ^ 64) : IntMulOk i j := CMul.ok (.inl h)
/-- a module's name, by its value -/
structure Cn (mg : Str → Option Value) (x : Str) (v : V) : Prop where
  ok : ∃ u, mg x = some u ∧ RelV v u
theorem pe_cst {v : V} (hg : Gl X x) (c : Cn X.mg x v) (hd : (x == ("__debug__" : Str)) = false := by decide) : PE X (.Name x pos) (tC v) := by
  obtain ⟨u, h, r⟩ := c.ok
  exact pe_glob hg h r hd
end
/-- a method, called with keywords too -/
structure MtK (CX : CXT) (P : Program) (w : World) (K : PySem.W.Frag) (mg : Str → Option Value) (base : Heap) (C : Addr) (m : Str) (k : Nat) (n : Nat) (ks ps : List Str) (sp : Sp) : Prop where
  ok : ∃ (f : Addr) (fd : FuncData), Meth K C m f ∧ KBn K fd ps n ks (fun us ws => us ++ ws) (fun vs zs => vs ++ zs) ∧ FnOk P w K mg base CX k f fd ps sp
section
variable {CX : CXT} {P : Program} {w : World} {K : PySem.W.Frag} {mg : Str → Option Value} {base h : Heap} {x m qual : Str} {C : Addr} {st : Stmt} {k n : Nat} {ps ks : List Str} {sp : Sp}
theorem kb_of {f : Addr} {fd : FuncData} (F : Fun K x qual st f fd) (h : ∀ (kV doc pm : Value) (an : Option Addr) (cdv ct : Value) (us ws : List Value), us.length = n → ws.length = ks.length →
    bindArgs (PySem.W.fnOf x qual (defArgs st) (defBody st) (defScope st) .none kV doc pm an cdv ct) ⟨us, ks.zip ws⟩ = pure (ps.zip (us ++ ws))) : KBn K fd ps n ks (fun us ws => us ++ ws) (fun vs zs => vs ++ zs) := by
  obtain ⟨oc, od, kV, doc, pm, an, cdv, ct, osl, rfl, lk, hcd⟩ := F.ex
  exact ⟨fun s us ws _ h1 h2 => .of_eq (h kV doc pm an cdv ct us ws h1 h2), fun r rz => r.append rz⟩
theorem mtk_mk (a : MF K C m qual st) (hb : ∀ {f : Addr} {fd : FuncData}, Fun K m qual st f fd → KBn K fd ps n ks (fun us ws => us ++ ws) (fun vs zs => vs ++ zs)) (ok : ∀ {f : Addr} {fd : FuncData}, Fun K m qual st f fd → FnOk P w K mg base CX k f fd ps sp) :
    MtK CX P w K mg base C m k n ks ps sp := by
  obtain ⟨f, oc, od, kV, doc, pm, an, cdv, ct, osl, h1, h2, h3, h4, h5⟩ := a.ok
  have F := fun_mk (st := st) h3 h4 h5
  exact ⟨⟨f, _, ⟨h1, h2, h5⟩, hb F, ok F⟩⟩
end
section
variable {X : Cx} {CX : CXT} {k j : Nat} {C : Addr} {ps ks : List Str} {sp : Sp} {E : XK} {x : Str} {p pos : Pos} {kws : List Keyword} {tk : TA}
/-- C(k = v): all parameters by keywords, in their order -/
theorem pe_klK0 (c : Kl X.K X.mg x C) (D : MtK CX X.prog X.w X.K X.mg X.base C "__init__" j 1 ks ps sp) (hr : Room k X.A) (hj : j + 1 ≤ k) (hg : Gl X x) (hx : Passes CX X E) (hkw : PK X kws tk)
    (hall : (backToKw pos (keywordEach kws X.env)).all (·.1.isSome) = true := by rfl) (hks : (backToKw pos (keywordEach kws X.env)).filterMap (·.1) = ks := by rfl) (hdb : (x == ("__debug__" : Str)) = false := by decide)
    (hpl : ((backTo pos (starEach [] X.env)).any (·.1) || (backToKw pos (keywordEach kws X.env)).any (·.1.isNone)) = false := by rfl) :
    PE X (.Call (.Name x p) [] kws pos) (tMakeK C 0 ks.length sp (fun vs zs => vs ++ zs) E tNil tk) := by
  obtain ⟨f, fd, h1, h3, h4⟩ := D.ok
  exact pe_makeK0 ⟨c.mks, h1.at_, h1.fn, c.kp⟩ h4 (hr.mono hj) hg c.gl h3 hx hkw hall hks hdb hpl
theorem x_makeK {σ : L2.St} {H : Hp} {Q : VK} {m : Nat} (h : tk σ H fun zs H1 => zs.length = m ∧ MkI C sp E zs H1 Q) : tMakeK C 0 m sp (fun vs zs => vs ++ zs) E tNil tk σ H Q := by
  have e : (fun zs H1 => zs.length = m ∧ MkI C sp E zs H1 Q) = fun zs H1 => ([] : List V).length = 0 ∧ zs.length = m ∧ ∀ x dx, H1 x = none → H1 dx = none → dx ≠ x → sp ([V.ref x] ++ zs) (upd (upd H1 dx (.own x)) x (.ins C dx [])) (fun v H2 => v = .non ∧ Q (.ref x) H2) E := by
    funext zs H1
    refine propext ⟨fun z => ⟨rfl, z⟩, fun z => z.2⟩
  show tk σ H fun zs H1 => ([] : List V).length = 0 ∧ zs.length = m ∧ ∀ x dx, H1 x = none → H1 dx = none → dx ≠ x → sp ([V.ref x] ++ zs) (upd (upd H1 dx (.own x)) x (.ins C dx [])) (fun v H2 => v = .non ∧ Q (.ref x) H2) E
  rw [← e]
  exact h
theorem x_len {n m : Nat} {p : Prop} (h : Nat.beq n m = true) (q : p) : n = m ∧ p := ⟨Nat.eq_of_beq_eq_true h, q⟩
end
end Sy

/-! Own operators beside built-in numbers; division by any number. -/
namespace Sy
open PySem PySem.Spec PyProof.Rows L2
section
variable {X : Cx}
def CDivZ (_ j : Int) : Prop := j ≠ 0 ∧ j.natAbs.log2 < 9000
theorem op_fdivZ : OpR X (binaryOp .FloorDiv) (rI CDivZ fun i j => .int (i.fdiv j)) := opI fun i j _ _ _ _ _ hc q => floordiv_int hc.1 q (.inl (PyProof.noPylong_of_log2 hc.2))
end
/-- what an own operator asks beside a built-in class T -/
structure OpT (K : PySem.W.Frag) (C : Addr) (T nm : String) : Prop where
  hr : ∃ rc, PySem.W.findIn K (.ref C) (dunderR nm) = some rc ∧ (rc = none ∨ ∃ g : Addr, rc = some (.ref g))
  h1 : ∃ fo, PySem.W.findIn K (.type T) (PySem.dunder nm) = some fo
  h2 : ∃ ro, PySem.W.findIn K (.type T) (dunderR nm) = some ro
  hu : PySem.W.subIn K (.type T) (.ref C) = some false
theorem opT_mk {K : PySem.W.Frag} {C : Addr} {T nm : String} {rc fo ro : Option Value} (hr : PySem.W.findIn K (.ref C) (dunderR nm) = some rc) (hp : rc = none ∨ ∃ g : Addr, rc = some (.ref g)) (h1 : PySem.W.findIn K (.type T) (PySem.dunder nm) = some fo)
    (h2 : PySem.W.findIn K (.type T) (dunderR nm) = some ro) (hu : PySem.W.subIn K (.type T) (.ref C) = some false) : OpT K C T nm := ⟨⟨_, hr, hp⟩, ⟨_, h1⟩, ⟨_, h2⟩, hu⟩
section
variable {X : Cx} {CX : CXT} {k j : Nat} {C : Addr} {ps : List Str} {sp : Sp} {E : XK} {x m : Str}
/-- a op i, i an int -/
def rOwnI (C : Addr) (sp : Sp) (E : XK) : R2 := fun x y H Q => ∃ a dx fs i, x = .ref a ∧ y = .int i ∧ H a = some (.ins C dx fs) ∧ sp [x, y] H Q E
theorem op_ownI {op : Operator} {nm : String} (D : Mt CX X.prog X.w X.K X.mg X.base C m j ps sp) (c : Kl X.K X.mg x C) (t : OpT X.K C "int" nm) (hr : Room k X.A) (hj : j ≤ k) (hx : Passes CX X E) (en : op.info.2 = nm := by rfl) (e : PySem.dunder nm = m := by decide +kernel) : OpR X (binaryOp op) (rOwnI C sp E) := by
  obtain ⟨f, fd, h1, hb, F⟩ := D.ok
  subst en
  subst e
  intro pins s σ H x y v u Q I rx ry hq
  obtain ⟨a, dx, fs, i, rfl, rfl, ha, q⟩ := hq
  cases rx
  obtain ⟨tk, rfl⟩ := ry
  obtain ⟨mA, J, _⟩ := ins_get I.hok ha
  obtain ⟨od, J, _⟩ := J.look
  obtain ⟨m', hF⟩ := I.fr
  obtain ⟨rc, t1, t2⟩ := t.hr
  obtain ⟨fo, t3⟩ := t.h1
  obtain ⟨ro, t4⟩ := t.h2
  have r2 : Vals [V.ref a, V.int i] [Value.ref a, Value.int i tk] := .cons rfl (.cons ⟨_, rfl⟩ .nil)
  refine PySem.W.ksp_binT hF I.ok.mod.kin J rfl c.sf h1.at_ h1.fn t1 t2 t3 t4 t.hu (wpAny_mono (run_at rfl F (hr.mono hj) hb hx I r2 q) (fun w s' z => ?_) fun _ _ z => z)
  obtain ⟨v, H', I', r, q'⟩ := z
  exact cmpBack_of (no_ni r) ⟨v, H', I', r, q'⟩
end
section
variable {prog : Program} {w : World} {A : Around} {E : Value → Shared → Prop} {s : Shared} {x : Addr} {o : Obj}
/-- int.__mul__ of what is no number -/
theorem int_mul_ni {i : Int} {t : Tok} (ho : s.heap.get? x = some o) (hd : o.data = .plain) {Q : Value → Shared → Prop} (q : Q .notImplemented s) : wpAny (model prog w) A (call (.builtin "int.__mul__") [.int i t, .ref x]) Q E s := by
  refine wpAny_call_entry PySem.F.slot_int_mul (typeIs_int s i t) PySem.F.entry_int_mul ?_ (PySem.F.args_int_mul_2 _ _)
  obtain ⟨oc, od, dt, sl⟩ := o
  simp only at hd
  subst hd
  obtain ⟨hp, g, d, tk, os⟩ := s
  wp_walk using wpAny_load ho
  exact ⟨_, rfl, q⟩
end
section
variable {prog : Program} {w : World} {A : Around} {E : Value → Shared → Prop} {s : Shared} {x C f f0 : Addr} {ox : Obj} {od : Option Obj} {K : PySem.W.Frag} {i : Int} {t : Tok}
theorem rmul_K {Q : Value → Shared → Prop} (X : K.In s.heap) (I : PySem.W.InstAt s.heap x ox C od) (hpl : ox.data = .plain) (hc : PySem.W.selfFirst K C = true) (hs : PySem.W.findIn K (.ref C) (PySem.dunder "mul") = some (some (.ref f0)))
    (hr : PySem.W.findIn K (.ref C) (dunderR "mul") = some (some (.ref f))) (hf : PySem.W.isFn K (.ref f) = true) (hu : PySem.W.subIn K (.ref C) (.type "int") = some false)
    (h : wpAny (model prog w) A (call (.ref f) [.ref x, .int i t]) (PySem.W.CmpBack Q) E s) : wpAny (model prog w) A (binaryOp .Mult (.int i t) (.ref x)) Q E s := by
  obtain ⟨cd, rest, hcd, hm⟩ := PySem.W.ksp_first hc
  have one := PySem.W.ksp_try (M := model prog w) (A := A) (E := E) (Q := Q) X I hr hf h
  have ho := I.at_
  have L1 : PySem.W.Looks (model prog w) s.heap (typeOf (.int i t)) (.type "int") := PySem.W.Looks.of_pure rfl
  have L2' : PySem.W.Looks (model prog w) s.heap (typeOf (.ref x)) (.ref C) := I.type
  have L3 : PySem.W.Looks (model prog w) s.heap (fillsNumberSlot (.type "int") "mul") true := PySem.W.Looks.of_pure PySem.F.fills_int_mul
  have L4 : PySem.W.Looks (model prog w) s.heap (fillsNumberSlot (.ref C) "mul") true := PySem.W.fills_K X hcd hm hs
  have L5 : PySem.W.Looks (model prog w) s.heap (isSubtype (.ref C) (.type "int")) false := PySem.W.looks_subIn X hu
  have L6 : PySem.W.Looks (model prog w) s.heap (numberSlotInPython (.type "int") "mul") false := PySem.W.Looks.of_pure rfl
  have hne : (Value.type "int" == Value.ref C) = false := Bool.eq_false_iff.mpr fun q => by cases beq_iff_eq.mp q
  have left : wpAny (model prog w) A (tryMethod (.int i t) (PySem.dunder "mul") (.ref x)) (fun r s' => r = none ∧ s' = s) E s := by
    unfold tryMethod
    refine wpAny_bind (wpAny_callSpecial?_slot (typeIs_int s i t) PySem.F.slot_int_mul (int_mul_ni ho hpl ?_))
    exact wpAny_pure ⟨rfl, rfl⟩
  unfold binaryOp
  refine wpAny_holding (wpAny_bind ?_)
  show wpAny (model prog w) A (binaryOp1 "mul" (.int i t) (.ref x)) _ E s
  unfold binaryOp1
  refine wpAny_bind (L1.here (wpAny_bind (L2'.here (wpAny_bind (L3.here ?_)))))
  simp only [hne, Bool.false_eq_true, if_false]
  refine wpAny_bind (L4.here ?_)
  simp only [Bool.and_self, if_true]
  refine wpAny_bind (L5.here ?_)
  simp only [Bool.false_eq_true, if_false, pure_bind, Bool.not_false, Bool.and_self, if_true]
  refine wpAny_bind (L6.here ?_)
  simp only [Bool.false_eq_true, if_false, pure_bind, if_true]
  refine wpAny_bind (wpAny_mono left (fun r s' hq => ?_) fun _ _ z => z)
  obtain ⟨rfl, rfl⟩ := hq
  simp only [pure_bind, if_false, if_true, Bool.false_eq_true]
  refine wpAny_bind (wpAny_mono one (fun r s' hq => ?_) fun _ _ z => z)
  obtain ⟨v, rfl, hq⟩ := hq
  exact wpAny_bind (wpAny_rule (wpAny_pure (wpAny_pure hq)))
end
section
variable {X : Cx} {CX : CXT} {k j : Nat} {C : Addr} {ps : List Str} {sp : Sp} {E : XK} {x : Str}
/-- i * a, i an int -/
def rOwnR (C : Addr) (sp : Sp) (E : XK) : R2 := fun y x H Q => ∃ a dx fs i, x = .ref a ∧ y = .int i ∧ H a = some (.ins C dx fs) ∧ sp [x, y] H Q E
/-- what i * a asks of the class -/
structure RmT (K : PySem.W.Frag) (C : Addr) : Prop where
  hs : ∃ f0 : Addr, PySem.W.findIn K (.ref C) (PySem.dunder "mul") = some (some (.ref f0))
  hu : PySem.W.subIn K (.ref C) (.type "int") = some false
theorem rm_mk {K : PySem.W.Frag} {C f0 : Addr} (hs : PySem.W.findIn K (.ref C) (PySem.dunder "mul") = some (some (.ref f0))) (hu : PySem.W.subIn K (.ref C) (.type "int") = some false) : RmT K C := ⟨⟨_, hs⟩, hu⟩
theorem op_rmul (D : Mt CX X.prog X.w X.K X.mg X.base C "__rmul__" j ps sp) (c : Kl X.K X.mg x C) (rm : RmT X.K C)
    (hr : Room k X.A) (hj : j ≤ k) (hx : Passes CX X E) : OpR X (binaryOp .Mult) (rOwnR C sp E) := by
  obtain ⟨f, fd, h1, hb, F⟩ := D.ok
  intro pins s σ H y x v u Q I ry rx hq
  obtain ⟨a, dx, fs, i, rfl, rfl, ha, q⟩ := hq
  cases rx
  obtain ⟨tk, rfl⟩ := ry
  obtain ⟨mA, J, _⟩ := ins_get I.hok ha
  obtain ⟨od, J, _⟩ := J.look
  have r2 : Vals [V.ref a, V.int i] [Value.ref a, Value.int i tk] := .cons rfl (.cons ⟨_, rfl⟩ .nil)
  have e : (dunderR "mul" : Str) = "__rmul__" := by decide +kernel
  obtain ⟨f0, hs⟩ := rm.hs
  have hu := rm.hu
  refine rmul_K I.kIn J rfl c.sf hs (by rw [e]; exact h1.at_) h1.fn hu (wpAny_mono (run_at rfl F (hr.mono hj) hb hx I r2 q) (fun w s' z => ?_) fun _ _ z => z)
  obtain ⟨v, H', I', r, q'⟩ := z
  exact cmpBack_of (no_ni r) ⟨v, H', I', r, q'⟩
end
section
variable {i j : Int} {a b : Nat}
theorem mul_w (ha : i.natAbs < 2 ^ a) (hb : j.natAbs < 2 ^ b) (h0 : 0 < a) (h1 : 0 < b) (h : a + b ≤ 1000000) : IntMulOk i j := CMulW.ok (wide_mul ha hb h0 h1 h)
theorem log_w (ha : i.natAbs < 2 ^ a) (h0 : 0 < a) (h : a ≤ 9000) : i.natAbs.log2 < 9000 := Nat.lt_of_lt_of_le (PySem.Flt.log2_lt_of h0 ha) h
theorem fdiv_abs (i j : Int) : (i.fdiv j).natAbs ≤ i.natAbs + 1 := by
  have h := Int.natAbs_ediv_le_natAbs i j
  rw [Int.fdiv_eq_ediv]
  split <;> omega
theorem fmod_eq (i j : Int) : i.fmod j = i - i.fdiv j * j := by rw [Int.fmod_def, Int.mul_comm]
end
section
variable {σ : L2.St} {H : Hp} {D : Ends} {tA : TA}
theorem x_par3 {i j l : Nat} (h : tA σ H fun vs H1 => ∃ u v w, vs = [u, v, w] ∧ D.nx (((σ.set i (some u)).set j (some v)).set l (some w)) H1) : tPar3 i j l tA D σ H := h
theorem x_pr3 {N : V → V → V → Prop} {u v w : V} (h : N u v w) : ∃ a b c, [u, v, w] = [a, b, c] ∧ N a b c := ⟨u, v, w, rfl, h⟩
end
end Sy

/-! Own comparisons, truth and texts; what a built-in class's == leaves to an own one. -/
namespace Sy
open PySem PySem.Spec PyProof.Rows L2
/-- the class C is none of which T's instances are -/
structure NsT (K : PySem.W.Frag) (C : Addr) (t : Value) : Prop where
  ne : (t == Value.ref C) = false
  hu : PySem.W.subIn K t (.ref C) = some false
  ci : PySem.W.isClsIn K C = true
  ti : PySem.W.typeIn K (.ref C) = some (.type "type")
theorem NsT.kit {K : PySem.W.Frag} {C : Addr} {t : Value} (n : NsT K C t) : PySem.W.kitOne K t (.ref C) = some false := by
  unfold PySem.W.kitOne
  rw [if_neg (by rw [n.ne]; simp)]
  show (if ((PySem.W.clsIn K C).isSome && PySem.W.typeIn K (.ref C) == some (.type "type")) = true then PySem.W.subIn K t (.ref C) else none) = some false
  have h : ((PySem.W.clsIn K C).isSome && PySem.W.typeIn K (.ref C) == some (.type "type")) = true := by
    rw [n.ti]
    have := n.ci
    unfold PySem.W.isClsIn at this
    rw [this]
    simp
  rw [if_pos h]
  exact n.hu
theorem NsT.first {K : PySem.W.Frag} {C : Addr} {t : Value} (n : NsT K C t) : PySem.W.notFirst K C t = true := by
  unfold PySem.W.notFirst
  rw [n.hu]
  simp
theorem first_self {K : PySem.W.Frag} {C : Addr} : PySem.W.notFirst K C (.ref C) = true := by
  unfold PySem.W.notFirst
  simp
section
variable {X : Cx} {CX : CXT} {k j : Nat} {C : Addr} {ps : List Str} {sp : Sp} {E : XK} {x m : Str}
/-- a op y, a an instance of the class at C, by its own method -/
def rCmp (K : PySem.W.Frag) (C : Addr) (sp : Sp) (E : XK) : R2 := fun x y H Q => ∃ a dx fs t, x = .ref a ∧ H a = some (.ins C dx fs) ∧ TyX K H y t ∧ PySem.W.notFirst K C t = true ∧ sp [x, y] H Q E
theorem cmp_own {op : CmpOp} {K : PySem.W.Frag} (D : Mt CX X.prog X.w K X.mg X.base C m j ps sp) (hr : Room k X.A) (hj : j ≤ k) (hx : Passes CX X E) (e : (cmpInfo op).2.1 = m := by rfl) (ho : compareOp op = richCompare op := by rfl) (eK : K = X.K := by rfl) : OpR X (compareOp op) (rCmp K C sp E) := by
  subst eK
  obtain ⟨f, fd, h1, hb, F⟩ := D.ok
  subst e
  intro pins s σ H x y v u Q I rx ry hq
  obtain ⟨a, dx, fs, t, rfl, ha, ty, nf, q⟩ := hq
  cases rx
  obtain ⟨mA, J, _⟩ := ins_get I.hok ha
  obtain ⟨od, J, _⟩ := J.look
  obtain ⟨m', hF⟩ := I.fr
  obtain ⟨P, kx, hP, _⟩ := kit_of I ry ty
  have r2 : Vals [V.ref a, y] [Value.ref a, u] := .cons rfl (.cons ry .nil)
  rw [ho]
  refine PySem.W.cmp_K hr.units0 hF I.ok.mod.kin J (kx.ty _ _ I.kIn hP) nf h1.at_ h1.fn (wpAny_mono (run_at rfl F (hr.mono hj) hb hx I r2 q) (fun w s' z => ?_) fun _ _ z => z)
  obtain ⟨v, H', I', r, q'⟩ := z
  exact cmpBack_of (no_ni r) ⟨v, H', I', r, q'⟩
/-- truth by an own method -/
def rTru (C : Addr) (sp : Sp) (E : XK) : V → Hp → (Bool → Hp → Prop) → Prop := fun x H Q => ∃ a dx fs, x = .ref a ∧ H a = some (.ins C dx fs) ∧ sp [x] H (fun v H' => ∃ b, v = .bl b ∧ Q b H') E
theorem tru_own (D : Mt CX X.prog X.w X.K X.mg X.base C "__bool__" j ps sp) (hr : Room k X.A) (hj : j ≤ k) (hx : Passes CX X E) : TruR X (rTru C sp E) := by
  obtain ⟨f, fd, h1, hb, F⟩ := D.ok
  intro pins s σ H x v Q I rx hq
  obtain ⟨a, dx, fs, rfl, ha, q⟩ := hq
  cases rx
  obtain ⟨mA, J, _⟩ := ins_get I.hok ha
  obtain ⟨od, J, _⟩ := J.look
  obtain ⟨m', hF⟩ := I.fr
  refine PySem.W.truthy_K hF I.ok.mod.kin J h1.at_ h1.fn (wpAny_mono (run_at rfl F (hr.mono hj) hb hx I (show Vals [V.ref a] [Value.ref a] from .cons rfl .nil) q) (fun w s' z => ?_) fun _ _ z => z)
  obtain ⟨v, H', I', r, b, rfl, q'⟩ := z
  cases r
  exact ⟨H', I', q'⟩
theorem pe_notR {a : Expr} {ta : TE} {pos : Pos} {r : V → Hp → (Bool → Hp → Prop) → Prop} (ha : PE X a ta) (hr : TruR X r) : PE X (.UnaryOp .Not a pos) (fun σ H Q => ta σ H fun x H1 => r x H1 fun c H2 => Q (.bl (!c)) H2) := by
  refine ⟨fun pins s σ H Q I h => ?_⟩
  refine UnaryOp_ (thn (ha.run pins s σ H _ I h) fun v s1 ⟨x, H1, I1, r1, q1⟩ => ?_)
  exact not_of (thn (hr pins s1 σ H1 x v (fun c H2 => Q (.bl (!c)) H2) I1 r1 q1) fun c s2 ⟨H2, I2, q2⟩ => ⟨.bl (!c), H2, I2, rfl, q2⟩)
/-- repr(a) -/
def rTxt (C : Addr) (sp : Sp) (E : XK) : List V → Hp → VK → Prop := fun xs H Q => ∃ a dx fs, xs = [.ref a] ∧ H a = some (.ins C dx fs) ∧ sp xs H (fun v H' => (∃ z, v = .str z) ∧ Q v H') E
theorem call_reprO (D : Mt CX X.prog X.w X.K X.mg X.base C "__repr__" j ps sp) (hr : Room k X.A) (hj : j + 1 ≤ k) (hx : Passes CX X E) : CallR X (.builtin "repr") (rTxt C sp E) := by
  obtain ⟨f, fd, h1, hb, F⟩ := D.ok
  intro pins s σ H xs us Q I r hq
  obtain ⟨a, dx, fs, rfl, ha, q⟩ := hq
  obtain ⟨u, rfl, ru⟩ := vals1 r
  cases ru
  obtain ⟨mA, J, _⟩ := ins_get I.hok ha
  obtain ⟨od, J, _⟩ := J.look
  obtain ⟨m', hF⟩ := I.fr
  have hr1 := (hr.mono hj).in1
  refine PySem.W.repr_K hr1.units0 hF I.ok.mod.kin J h1.at_ h1.fn (wpAny_mono (run_at (show X.A.in1.frames = X.A.frames from rfl) F hr1 hb hx I (show Vals [V.ref a] [Value.ref a] from .cons rfl .nil) q) (fun w s' z => ?_) fun _ _ z => z)
  obtain ⟨v, H', I', r, ⟨y, rfl⟩, q'⟩ := z
  obtain ⟨t, rfl⟩ := r
  exact ⟨.str y, H', I', ⟨t, rfl⟩, q'⟩
/-- str(a) -/
theorem call_strO (D : Mt CX X.prog X.w X.K X.mg X.base C "__str__" j ps sp) (hr : Room k X.A) (hj : j + 2 ≤ k) (hx : Passes CX X E) : CallR X (.type "str") (rTxt C sp E) := by
  obtain ⟨f, fd, h1, hb, F⟩ := D.ok
  intro pins s σ H xs us Q I r hq
  obtain ⟨a, dx, fs, rfl, ha, q⟩ := hq
  obtain ⟨u, rfl, ru⟩ := vals1 r
  cases ru
  obtain ⟨mA, J, _⟩ := ins_get I.hok ha
  obtain ⟨od, J, _⟩ := J.look
  have hr2 : Room j X.A.in1.in1 := ((hr.mono hj : Room (j + 2) X.A).in1).in1
  refine PySem.W.kso_call hr2.units0 I.kIn J h1.at_ h1.fn (wpAny_mono (run_at (show X.A.in1.in1.frames = X.A.frames from rfl) F hr2 hb hx I (show Vals [V.ref a] [Value.ref a] from .cons rfl .nil) q) (fun w s' z => ?_) fun _ _ z => z)
  obtain ⟨v, H', I', r, ⟨y, rfl⟩, q'⟩ := z
  obtain ⟨t, rfl⟩ := r
  exact ⟨.str y, H', I', ⟨t, rfl⟩, q'⟩
end
section
variable {prog : Program} {w : World} {A : Around} {E : Value → Shared → Prop} {s : Shared} {K : PySem.W.Frag} {x C f : Addr} {ox : Obj} {od : Option Obj}
/-- v == x, v of a built-in class that leaves it to the own one -/
theorem eqR_K {v : Value} {T id : String} {Q : Value → Shared → Prop} (hu : A.units < cLine) (X : K.In s.heap) (I : PySem.W.InstAt s.heap x ox C od) (hT : s.TypeIs v T) (slot : Slot T "__eq__" id)
    (hl : ∀ Q' : Value → Shared → Prop, Q' .notImplemented s → wpAny (model prog w) A (call (.builtin id) [v, .ref x]) Q' E s) (hsub : PySem.W.subIn K (.ref C) (.type T) = some false)
    (hs : PySem.W.findIn K (.ref C) "__eq__" = some (some (.ref f))) (hf : PySem.W.isFn K (.ref f) = true) (h : wpAny (model prog w) A (call (.ref f) [.ref x, v]) (PySem.W.CmpBack Q) E s) :
    wpAny (model prog w) A (richCompare .Eq v (.ref x)) Q E s := by
  have two : wpAny (model prog w) A (tryCompare (.ref x) "__eq__" v) (fun r s' => ∃ z, r = some z ∧ Q z s') E s := by
    unfold tryCompare
    refine wpAny_bind (PySem.W.ifBound_K X I hs hf (wpAny_mono h (fun z s' hv => ?_) fun _ _ e => e))
    cases z <;> first | exact hv.elim | exact wpAny_pure ⟨_, rfl, hv⟩
  have hne : (Value.type T != Value.ref C) = true := by
    have : (Value.type T == Value.ref C) = false := Bool.eq_false_iff.mpr fun q => by cases beq_iff_eq.mp q
    simp [bne, this]
  have hi : cmpInfo .Eq = ("==", ("__eq__" : Str), ("__eq__" : Str)) := rfl
  simp only [richCompare, hi, hT.oneThing_none]
  refine wpAny_holding (wpAny_bind (wpAny_cRoomFor hu ?_))
  refine wpAny_bind (wpAny_typeOf hT (wpAny_bind (I.type.here ?_)))
  simp only [hne, if_true]
  refine wpAny_bind ((PySem.W.looks_subIn X hsub).here ?_)
  simp only [Bool.false_eq_true, if_false, Bool.not_false, if_true]
  refine wpAny_bind (m := tryCompare v _ (.ref x)) (wpAny_tryCompare_declines hT slot (hl _ ⟨rfl, ?_⟩))
  simp only [pure_bind]
  refine wpAny_bind (wpAny_mono two (fun r s' hq => ?_) fun _ _ e => e)
  obtain ⟨z, rfl, hq⟩ := hq
  exact wpAny_pure hq
end
section
variable {prog : Program} {w : World} {A : Around} {E : Value → Shared → Prop} {s : Shared} {x C : Addr} {o : Obj} {od : Option Obj} {K : PySem.W.Frag}
theorem int_eq_ni {i : Int} {t : Tok} (ho : s.heap.get? x = some o) (hd : o.data = .plain) {Q : Value → Shared → Prop} (q : Q .notImplemented s) : wpAny (model prog w) A (call (.builtin "int.__eq__") [.int i t, .ref x]) Q E s := by
  refine wpAny_call_entry PySem.F.slot_int_eq (typeIs_int s i t) PySem.F.entry_int_eq ?_ (PySem.F.args_int_eq_2 _ _)
  obtain ⟨oc, od, dt, sl⟩ := o
  simp only at hd
  subst hd
  obtain ⟨hp, g, d, tk, os⟩ := s
  wp_walk using wpAny_load ho
  exact ⟨_, rfl, q⟩
theorem str_eq_ni {i : Str} {t : Tok} (ho : s.heap.get? x = some o) (hd : o.data = .plain) {Q : Value → Shared → Prop} (q : Q .notImplemented s) : wpAny (model prog w) A (call (.builtin "str.__eq__") [.str i t, .ref x]) Q E s := by
  refine wpAny_call_entry PySem.F.slot_str_eq (typeIs_str s i t) PySem.F.entry_str_eq ?_ (PySem.F.args_str_eq_2 _ _)
  obtain ⟨oc, od, dt, sl⟩ := o
  simp only at hd
  subst hd
  obtain ⟨hp, g, d, tk, os⟩ := s
  wp_walk using wpAny_load ho
  exact ⟨_, rfl, q⟩
theorem none_eq_ni {Q : Value → Shared → Prop} (q : Q .notImplemented s) : wpAny (model prog w) A (call (.builtin "NoneType.__eq__") [.none, .ref x]) Q E s := by
  refine wpAny_call_entry PySem.F.slot_NoneType_eq rfl PySem.F.entry_NoneType_eq ?_ (PySem.F.args_NoneType_eq_2 _ _)
  obtain ⟨hp, g, d, tk, os⟩ := s
  wp_walk
  exact ⟨_, rfl, q⟩
theorem list_eq_ni {l : Addr} {its : Array Value} {n : Nat} (X : K.In s.heap) (I : PySem.W.InstAt s.heap x o C od) (hsub : PySem.W.subIn K (.ref C) (.type "list") = some false) (hl : s.heap.get? l = some { cls := .type "list", data := .seq its n }) {Q : Value → Shared → Prop} (q : Q .notImplemented s) :
    wpAny (model prog w) A (call (.builtin "list.__eq__") [.ref l, .ref x]) Q E s := by
  refine wpAny_call_entry PySem.F.slot_list_eq ⟨_, hl, rfl⟩ PySem.F.entry_list_eq ?_ (PySem.F.args_list_eq_2 _ _)
  have L : PySem.W.Looks (model prog w) s.heap (isInstance (.ref x) (.type "list")) false := I.type.andThen (PySem.W.looks_subIn X hsub)
  obtain ⟨hp, g, d, tk, os⟩ := s
  wp_walk using L.here
  exact ⟨_, rfl, q⟩
end
/-! ### v == a, v a number, a text, None, a list -/
/-- the class at C stands under none of these four -/
structure EqT (K : PySem.W.Frag) (C : Addr) : Prop where
  si : PySem.W.subIn K (.ref C) (.type "int") = some false
  ss : PySem.W.subIn K (.ref C) (.type "str") = some false
  sn : PySem.W.subIn K (.ref C) (.type "NoneType") = some false
  sl : PySem.W.subIn K (.ref C) (.type "list") = some false
def PlainL (y : V) (H : Hp) : Prop := (∃ i, y = .int i) ∨ (∃ z, y = .str z) ∨ y = .non ∨ ∃ l ys, y = .ref l ∧ H l = some (.lst ys)
def rEqR (C : Addr) (sp : Sp) (E : XK) : R2 := fun y x H Q => ∃ a dx fs, x = .ref a ∧ H a = some (.ins C dx fs) ∧ PlainL y H ∧ sp [x, y] H Q E
section
variable {X : Cx} {CX : CXT} {k j : Nat} {C : Addr} {ps : List Str} {sp : Sp} {E : XK} {x m : Str}
theorem op_eqR (D : Mt CX X.prog X.w X.K X.mg X.base C "__eq__" j ps sp) (t : EqT X.K C) (hr : Room k X.A) (hj : j ≤ k) (hx : Passes CX X E) : OpR X (compareOp .Eq) (rEqR C sp E) := by
  obtain ⟨f, fd, h1, hb, F⟩ := D.ok
  intro pins s σ H y x v u Q I ry rx hq
  obtain ⟨a, dx, fs, rfl, ha, pl, q⟩ := hq
  cases rx
  obtain ⟨mA, J, _⟩ := ins_get I.hok ha
  obtain ⟨od, J, _⟩ := J.look
  have r2 : Vals [V.ref a, y] [Value.ref a, v] := .cons rfl (.cons ry .nil)
  have fin : wpAny (model X.prog X.w) X.A (call (.ref f) [.ref a, v]) (PySem.W.CmpBack (EP X pins σ Q)) X.xe s := wpAny_mono (run_at rfl F (hr.mono hj) hb hx I r2 q) (fun w s' z => by
    obtain ⟨v, H', I', r, q'⟩ := z
    exact cmpBack_of (no_ni r) ⟨v, H', I', r, q'⟩) fun _ _ z => z
  show wpAny (model X.prog X.w) X.A (richCompare .Eq v (.ref a)) _ _ _
  rcases pl with ⟨i, rfl⟩ | ⟨z, rfl⟩ | rfl | ⟨l, ys, rfl, hl⟩
  · obtain ⟨tk, rfl⟩ := ry
    exact eqR_K hr.units0 I.kIn J (typeIs_int s i tk) PySem.F.slot_int_eq (fun Q' q' => int_eq_ni J.at_ rfl q') t.si h1.at_ h1.fn fin
  · obtain ⟨tk, rfl⟩ := ry
    exact eqR_K hr.units0 I.kIn J (typeIs_str s z tk) PySem.F.slot_str_eq (fun Q' q' => str_eq_ni J.at_ rfl q') t.ss h1.at_ h1.fn fin
  · cases ry
    exact eqR_K hr.units0 I.kIn J (T := "NoneType") rfl PySem.F.slot_NoneType_eq (fun Q' q' => none_eq_ni q') t.sn h1.at_ h1.fn fin
  · cases ry
    obtain ⟨_, its, n, _, e⟩ := I.hok l _ hl
    exact eqR_K hr.units0 I.kIn J ⟨_, e, rfl⟩ PySem.F.slot_list_eq (fun Q' q' => list_eq_ni I.kIn J t.sl e q') t.sl h1.at_ h1.fn fin
end
/-! ### texts that are short -/
def Short (n : Nat) (z : Str) : Prop := z.length ≤ n
theorem short_app {a b : Nat} {x y : Str} (h : Short a x) (k : Short b y) : Short (a + b) (x ++ y) := by
  unfold Short at *
  rw [Str.length_append]
  omega
theorem short_num {i : Int} (h : i.natAbs.log2 < 1920) : Short 2000 (Str.ofString (toString i)) := by
  have e := PySem.int_text_length_le (k := 1920) (by decide) h
  unfold Short
  rw [PySem.ofString_length]
  omega
theorem short_of {z : Str} {n : Nat} (h : Nat.ble z.length n = true) : Short n z := Nat.le_of_ble_eq_true h
theorem short_fit {n : Nat} {z : Str} (h : Short n z) (k : Nat.ble n 100000 = true) : z.length ≤ sizeLine := sz_of (Nat.le_trans h (Nat.le_of_ble_eq_true k))
theorem short_fit2 {n m : Nat} {x y : Str} (h : Short n x) (h' : Short m y) (k : Nat.ble (n + m) 100000 = true) : x.length + y.length ≤ sizeLine := sz_of (by
  have := Nat.le_of_ble_eq_true k
  unfold Short at *
  omega)
section
variable {H : Hp} {Q : VK} {σ : L2.St} {te t : TE} {ts : List TE} {acc y z : Str} {QS : Str → Hp → Prop} {i : Int}
def Fmt (x : V) (H : Hp) (Q : VK) : Prop := (∃ y : Str, x = .str y ∧ y.length ≤ sizeLine ∧ Q (.str y) H) ∨ ∃ i : Int, x = .int i ∧ i.natAbs.log2 < 1920 ∧ Q (.str (toString i)) H
theorem x_fmt (h : te σ H fun x H1 => Fmt x H1 Q) : tFmt te σ H Q := h
theorem x_fmtI (hz : i.natAbs.log2 < 1920) (h : Q (.str (toString i)) H) : Fmt (.int i) H Q := .inr ⟨i, rfl, hz, h⟩
theorem x_fmtS {n : Nat} (hz : Short n y) (hn : Nat.ble n 100000 = true) (h : Q (.str y) H) : Fmt (.str y) H Q := .inl ⟨y, rfl, short_fit hz hn, h⟩
def Js (ts : List TE) (acc : Str) (σ : L2.St) (x : V) (H : Hp) (Q : Str → Hp → Prop) : Prop := ∃ y : Str, x = .str y ∧ (acc ++ y).length ≤ sizeLine ∧ tJs ts (acc ++ y) σ H Q
theorem x_js (h : t σ H fun x H1 => Js ts acc σ x H1 QS) : tJs (t :: ts) acc σ H QS := h
theorem x_jsN (h : QS acc H) : tJs [] acc σ H QS := h
theorem x_js0 {n : Nat} (hz : Short n y) (hn : Nat.ble n 100000 = true) (h : tJs ts y σ H QS) : Js ts Str.empty σ (.str y) H QS := ⟨y, rfl, by rw [Str.empty_append]; exact short_fit hz hn, by rw [Str.empty_append]; exact h⟩
theorem x_jsS {n : Nat} (hz : Short n (acc ++ y)) (hn : Nat.ble n 100000 = true) (h : tJs ts (acc ++ y) σ H QS) : Js ts acc σ (.str y) H QS := ⟨y, rfl, short_fit hz hn, h⟩
def rAddS1 : R2 := fun x y H Q => ∃ i j, x = .str i ∧ y = .str j ∧ i.length + j.length ≤ sizeLine ∧ Q (.str (i ++ j)) H
theorem op_addS {X : Cx} : OpR X (binaryOp .Add) rAddS1 := op_add_str
theorem x_addS {n m : Nat} (h1 : Short n y) (h2 : Short m z) (hn : Nat.ble (n + m) 100000 = true) (h : Q (.str (y ++ z)) H) : rAddS1 (.str y) (.str z) H Q := ⟨y, z, rfl, rfl, short_fit2 h1 h2 hn, h⟩
theorem x_strI (hz : i.natAbs.log2 < 1920) (h : Q (.str (toString i)) H) : rStrI [.int i] H Q := ⟨i, rfl, hz, h⟩
def rBoolC : List V → Hp → VK → Prop := fun xs H Q => (∃ i, xs = [.int i] ∧ Q (.bl (i != 0)) H) ∨ ∃ k, xs = [.bl k] ∧ Q (.bl k) H
theorem c_bool {X : Cx} : CallR X (.type "bool") rBoolC := call_bool1
theorem bne_dec : (i != 0) = !decide (i = 0) := by
  by_cases h : i = 0
  · subst h; rfl
  · simp [h]
theorem x_boolI (h : Q (.bl (!decide (i = 0))) H) : rBoolC [.int i] H Q := .inl ⟨i, rfl, by rw [bne_dec]; exact h⟩
theorem x_boolB {b : Bool} (h : Q (.bl b) H) : rBoolC [.bl b] H Q := .inr ⟨b, rfl, h⟩
theorem x_neB {a b : Bool} (h : Q (.bl (!decide (a = b))) H) : rNe (.bl a) (.bl b) H Q := ⟨rfl, by
  have e : decide (V.bl a = V.bl b) = decide (a = b) := by simp
  rw [e]; exact h⟩
theorem x_eqB {a b : Bool} (h : Q (.bl (decide (a = b))) H) : rEq (.bl a) (.bl b) H Q := ⟨rfl, by
  have e : decide (V.bl a = V.bl b) = decide (a = b) := by simp
  rw [e]; exact h⟩
end
/-! ### for a, b in zip(xs, ys) -/
section
variable {B H : Hp} {M : List (Addr × HO)} {K : PySem.W.Frag} {σ : L2.St} {D : Ends} {g : TG} {tb : TS} {xs ys : List V} {ta : TA}
def ForZ (K : PySem.W.Frag) (g : TG) (tb : TS) (D : Ends) (σ : L2.St) (vs : List V) (H : Hp) : Prop := ∃ a b xs ys, vs = [.ref a, .ref b] ∧ SqL K H a xs ∧ SqL K H b ys ∧ ∃ W : Nat → Nat → L2.St → Hp → Prop, (∃ m, W 0 m σ H) ∧ ∀ i m σ H, W i m σ H →
  ((Itz K a b).stop i H ∧ D.nx σ H) ∨ ((Itz K a b).go i H ∧ ∃ N : L2.St → Hp → Prop, (∀ σ' H', N σ' H' → ∃ m', m' < m ∧ W (i + 1) m' σ' H') ∧ ∀ x H', (Itz K a b).yld i H x H' → g x σ H' fun σ2 H2 => tb { D with nx := N, ct := N, bk := D.nx } σ2 H2)
theorem x_forz (h : ta σ H fun vs H1 => ForZ K g tb D σ vs H1) : tFor (iZip K ta) g tb D σ H := h
theorem x_forZ {a b : Addr} (Pv : Nat → L2.St → Hp → Prop) (hx : SqL K H a xs) (hy : SqL K H b ys) (hl : xs.length = ys.length) (h0 : Pv 0 σ H) (hq : ∀ i σ H, Pv i σ H → SqL K H a xs ∧ SqL K H b ys)
    (hs : ∀ (i : Nat) (x y : V) (T : Addr) (σ : L2.St) (H : Hp), xs[i]? = some x → ys[i]? = some y → Pv i σ H → H T = none → g (.ref T) σ (upd H T (.tup [x, y])) fun σ2 H2 => tb { D with nx := Pv (i + 1), ct := Pv (i + 1), bk := D.nx } σ2 H2)
    (hd : ∀ σ H, Pv xs.length σ H → D.nx σ H) : ForZ K g tb D σ [.ref a, .ref b] H := ⟨a, b, xs, ys, rfl, hx, hy, RZ.for_zipL hl Pv h0 hq hs hd⟩
end
/-! ### bool(a) -/
section
variable {prog : Program} {w : World} {A : Around} {E : Value → Shared → Prop} {s : Shared} {x : Addr}
theorem bool_call {P : Bool → Shared → Prop} {Q : Value → Shared → Prop} (ht : ∀ Q' : Bool → Shared → Prop, (∀ b s', P b s' → Q' b s') → wpAny (model prog w) A.in1.in1 (truthy (.ref x)) Q' E s) (h : ∀ b s', P b s' → Q (.bool b) s') :
    wpAny (model prog w) A (call (.type "bool") [.ref x]) Q E s := by
  refine PySem.callType_codes (T := "bool") (Bi := Builtin.«object.__init__») (Q₁ := fun r s₁ => ∃ b, r = .bool b ∧ P b s₁) PySem.F.called_bool (PySem.F.typeCall_bool_1 _) PySem.F.entry_object_init ?_ ?_
  · refine codeAny_of_tree ?_
    show wpAny _ A.in1.in1 (do checkBuiltinCall "bool.__new__" ⟨[.type "bool", .ref x], []⟩; again (.builtin "bool.__new__" ⟨[.type "bool", .ref x], []⟩)) _ _ s
    refine wpAny_bind (wpAny_of_eq (PySem.F.newCall_bool_1 _) (wpAny_pure ⟨plainId_quiet (by decide +kernel) _, codeAny_builtin PySem.F.entry_bool_new ?_⟩))
    rw [Around.under_plainId (by decide +kernel) _]
    unfold Builtin.«bool.__new__»
    have f1 := PySem.F.conv_sub_bool
    obtain ⟨hp, g, d, tk, os⟩ := s
    repeat (any_goals (first | assumption | (with_reducible refine ht _ (fun b s' hb => ?_)) | wp_step))
    all_goals exact ⟨_, rfl, hb⟩
  · rintro obj s₁ ⟨b, rfl, hq⟩
    refine ⟨rfl, PySem.F.args_object_init_2 _ _, PySem.object_init_meets PySem.F.called_bool.init.lookup PySem.F.called_bool.made (by decide) prog w A.in1 _ s₁ ⟨rfl, rfl, h b s₁ hq⟩⟩
end
section
variable {X : Cx} {CX : CXT} {k j : Nat} {C : Addr} {ps : List Str} {sp : Sp} {E : XK}
def rBoolO (C : Addr) (sp : Sp) (E : XK) : List V → Hp → VK → Prop := fun xs H Q => ∃ a dx fs, xs = [.ref a] ∧ H a = some (.ins C dx fs) ∧ sp xs H (fun v H' => (∃ b, v = .bl b) ∧ Q v H') E
theorem call_boolO (D : Mt CX X.prog X.w X.K X.mg X.base C "__bool__" j ps sp) (hr : Room k X.A) (hj : j + 2 ≤ k) (hx : Passes CX X E) : CallR X (.type "bool") (rBoolO C sp E) := by
  obtain ⟨f, fd, h1, hb, F⟩ := D.ok
  intro pins s σ H xs us Q I r hq
  obtain ⟨a, dx, fs, rfl, ha, q⟩ := hq
  obtain ⟨u, rfl, ru⟩ := vals1 r
  cases ru
  obtain ⟨mA, J, _⟩ := ins_get I.hok ha
  obtain ⟨od, J, _⟩ := J.look
  obtain ⟨m', hF⟩ := I.fr
  have hr2 : Room j X.A.in1.in1 := ((hr.mono hj : Room (j + 2) X.A).in1).in1
  refine bool_call (P := fun b s' => EP X pins σ Q (.bool b) s') (fun Q' hQ' => ?_) fun b s' hb => hb
  refine PySem.W.truthy_K hF I.ok.mod.kin J h1.at_ h1.fn (wpAny_mono (run_at (show X.A.in1.in1.frames = X.A.frames from rfl) F hr2 hb hx I (show Vals [V.ref a] [Value.ref a] from .cons rfl .nil) q) (fun w s' z => ?_) fun _ _ z => z)
  obtain ⟨v, H', I', r, ⟨b, rfl⟩, q'⟩ := z
  cases r
  exact hQ' b s' ⟨.bl b, H', I', rfl, q'⟩
end
end Sy

/-! Operators between instances of two own classes: by the left one's method, or by the right one's when the left one's gives NotImplemented. -/
namespace Sy
open PySem PySem.Spec PyProof.Rows L2
/-- what op asks of the classes at C and D -/
structure BinT (K : PySem.W.Frag) (C D : Addr) (nm : String) : Prop where
  hs : ∃ f : Addr, PySem.W.findIn K (.ref C) (PySem.dunder nm) = some (some (.ref f))
  hr : ∃ rc, PySem.W.findIn K (.ref C) (dunderR nm) = some rc ∧ (rc = none ∨ ∃ g : Addr, rc = some (.ref g))
  ds : ∃ f : Addr, PySem.W.findIn K (.ref D) (PySem.dunder nm) = some (some (.ref f))
  dr : ∃ rc, PySem.W.findIn K (.ref D) (dunderR nm) = some rc ∧ (rc = none ∨ ∃ g : Addr, rc = some (.ref g))
  hu : PySem.W.subIn K (.ref D) (.ref C) = some false
  ne : (Value.ref C == Value.ref D) = false
theorem binT_mk {K : PySem.W.Frag} {C D : Addr} {nm : String} {f g : Addr} {rc rd : Option Value} (hs : PySem.W.findIn K (.ref C) (PySem.dunder nm) = some (some (.ref f))) (hr : PySem.W.findIn K (.ref C) (dunderR nm) = some rc) (hp : rc = none ∨ ∃ g : Addr, rc = some (.ref g))
    (ds : PySem.W.findIn K (.ref D) (PySem.dunder nm) = some (some (.ref g))) (dr : PySem.W.findIn K (.ref D) (dunderR nm) = some rd) (dp : rd = none ∨ ∃ g : Addr, rd = some (.ref g)) (hu : PySem.W.subIn K (.ref D) (.ref C) = some false) (ne : (Value.ref C == Value.ref D) = false) : BinT K C D nm :=
  ⟨⟨_, hs⟩, ⟨_, hr, hp⟩, ⟨_, ds⟩, ⟨_, dr, dp⟩, hu, ne⟩
section
variable {prog : Program} {w : World} {A : Around} {E : Value → Shared → Prop} {s : Shared} {x y C D f g : Addr} {ox oy : Obj} {od oe : Option Obj} {K : PySem.W.Frag} {op : Operator}
/-- the first part of a op b, up to the left one's method -/
theorem binL_K {Q : Option Value → Shared → Prop} {nm : String} (X : K.In s.heap) (I : PySem.W.InstAt s.heap x ox C od) (J : PySem.W.InstAt s.heap y oy D oe) (hc : PySem.W.selfFirst K C = true) (hd : PySem.W.selfFirst K D = true) (t : BinT K C D nm) (T : Option Value → Shared → Prop)
    (left : wpAny (model prog w) A (tryMethod (.ref x) (PySem.dunder nm) (.ref y)) T E s) (h1 : ∀ v s', T (some v) s' → Q (some v) s')
    (h2 : ∀ s', T none s' → K.In s'.heap ∧ (∃ o od, PySem.W.InstAt s'.heap x o C od) ∧ (∃ o od, PySem.W.InstAt s'.heap y o D od) ∧ wpAny (model prog w) A (tryMethod (.ref y) (dunderR nm) (.ref x)) (fun r s' => ∃ v, r = some v ∧ Q (some v) s') E s') :
    wpAny (model prog w) A (binaryOp1 nm (.ref x) (.ref y)) Q E s := by
  obtain ⟨cd, rest, hcd, hm⟩ := PySem.W.ksp_first hc
  obtain ⟨cd', rest', hcd', hm'⟩ := PySem.W.ksp_first hd
  obtain ⟨⟨f1, hs⟩, ⟨rc, hr, hp⟩, ⟨f2, ds⟩, ⟨rd, dr, dp⟩, hu, hne⟩ := t
  have L1 : PySem.W.Looks (model prog w) s.heap (typeOf (.ref x)) (.ref C) := I.type
  have L2' : PySem.W.Looks (model prog w) s.heap (typeOf (.ref y)) (.ref D) := J.type
  have L3 : PySem.W.Looks (model prog w) s.heap (fillsNumberSlot (.ref C) nm) true := PySem.W.fills_K X hcd hm hs
  have L4 : PySem.W.Looks (model prog w) s.heap (fillsNumberSlot (.ref D) nm) true := PySem.W.fills_K X hcd' hm' ds
  have L5 : PySem.W.Looks (model prog w) s.heap (isSubtype (.ref D) (.ref C)) false := PySem.W.looks_subIn X hu
  have L6 : PySem.W.Looks (model prog w) s.heap (numberSlotInPython (.ref C) nm) true := PySem.W.ksp_inPy X hs hr hp
  have L7 : PySem.W.Looks (model prog w) s.heap (numberSlotInPython (.ref D) nm) true := PySem.W.ksp_inPy X ds dr dp
  have hne' : (Value.ref C == Value.ref D) = false := hne
  unfold binaryOp1
  refine wpAny_bind (L1.here (wpAny_bind (L2'.here (wpAny_bind (L3.here ?_)))))
  simp only [hne', Bool.false_eq_true, if_false]
  refine wpAny_bind (L4.here ?_)
  simp only [Bool.and_self, if_true]
  refine wpAny_bind (L5.here ?_)
  simp only [Bool.false_eq_true, if_false, pure_bind, Bool.not_false, Bool.and_self, if_true]
  refine wpAny_bind (L6.here ?_)
  simp only [Bool.false_eq_true, if_false, pure_bind, if_true]
  refine wpAny_bind (L7.here ?_)
  simp only [Bool.not_true, Bool.false_eq_true, if_false, pure_bind, if_true]
  refine wpAny_bind (wpAny_mono left (fun r s' hq => ?_) fun _ _ z => z)
  cases r with
  | some v => exact wpAny_pure (h1 v s' hq)
  | none =>
    obtain ⟨X2, ⟨_, _, I2⟩, ⟨_, _, J2⟩, right⟩ := h2 s' hq
    have M1 : PySem.W.Looks (model prog w) s'.heap (typeOf (.ref x)) (.ref C) := I2.type
    have M2 : PySem.W.Looks (model prog w) s'.heap (typeOf (.ref y)) (.ref D) := J2.type
    simp only [pure_bind]
    refine wpAny_bind (M1.here (wpAny_bind (M2.here ?_)))
    simp only [hne', Bool.false_eq_true, if_false, pure_bind, Bool.not_false, Bool.and_self, if_true]
    refine wpAny_bind (wpAny_mono right (fun r s'' hq => ?_) fun _ _ z => z)
    obtain ⟨v, rfl, hq⟩ := hq
    exact wpAny_bind (wpAny_rule (wpAny_pure hq))
/-- a op b: the left one's method has an answer -/
theorem binD_K {Q : Value → Shared → Prop} {nm : String} (X : K.In s.heap) (I : PySem.W.InstAt s.heap x ox C od) (J : PySem.W.InstAt s.heap y oy D oe) (hc : PySem.W.selfFirst K C = true) (hd : PySem.W.selfFirst K D = true) (hi : op.info.2 = nm) (t : BinT K C D nm)
    (hm : PySem.W.findIn K (.ref C) (PySem.dunder nm) = some (some (.ref f))) (hf : PySem.W.isFn K (.ref f) = true) (h : wpAny (model prog w) A (call (.ref f) [.ref x, .ref y]) (PySem.W.CmpBack Q) E s) : wpAny (model prog w) A (binaryOp op (.ref x) (.ref y)) Q E s := by
  rcases hi2 : op.info with ⟨sym, nm'⟩
  rw [hi2] at hi
  dsimp only at hi
  subst hi
  simp only [binaryOp, hi2]
  refine wpAny_holding (wpAny_bind ?_)
  refine binL_K (Q := fun r s' => wpAny (model prog w) A _ Q E s') X I J hc hd t _ (PySem.W.ksp_try (M := model prog w) (A := A) (E := E) (Q := Q) X I hm hf h) (fun v s' hq => ?_) (fun s' hq => ?_)
  · obtain ⟨_, e, hq⟩ := hq
    cases e
    exact wpAny_pure hq
  · obtain ⟨_, e, _⟩ := hq
    cases e
/-- a op b: the left one's method gives NotImplemented, the right one's has an answer -/
theorem binR_K {Q : Value → Shared → Prop} {nm : String} {R : Shared → Prop} (X : K.In s.heap) (I : PySem.W.InstAt s.heap x ox C od) (J : PySem.W.InstAt s.heap y oy D oe) (hc : PySem.W.selfFirst K C = true) (hd : PySem.W.selfFirst K D = true) (hi : op.info.2 = nm) (t : BinT K C D nm)
    (hm : PySem.W.findIn K (.ref C) (PySem.dunder nm) = some (some (.ref f))) (hf : PySem.W.isFn K (.ref f) = true) (hm2 : PySem.W.findIn K (.ref D) (dunderR nm) = some (some (.ref g))) (hf2 : PySem.W.isFn K (.ref g) = true)
    (h : wpAny (model prog w) A (call (.ref f) [.ref x, .ref y]) (fun v s' => v = .notImplemented ∧ R s') E s)
    (h2 : ∀ s', R s' → K.In s'.heap ∧ (∃ o od, PySem.W.InstAt s'.heap x o C od) ∧ (∃ o od, PySem.W.InstAt s'.heap y o D od) ∧ wpAny (model prog w) A (call (.ref g) [.ref y, .ref x]) (PySem.W.CmpBack Q) E s') : wpAny (model prog w) A (binaryOp op (.ref x) (.ref y)) Q E s := by
  rcases hi2 : op.info with ⟨sym, nm'⟩
  rw [hi2] at hi
  dsimp only at hi
  subst hi
  simp only [binaryOp, hi2]
  refine wpAny_holding (wpAny_bind ?_)
  have left : wpAny (model prog w) A (tryMethod (.ref x) (PySem.dunder nm') (.ref y)) (fun r s' => r = none ∧ R s') E s := by
    unfold tryMethod
    refine wpAny_bind (PySem.W.special_fn X I hm (beq_iff_eq.mp hf) (wpAny_mono h (fun v s' hv => ?_) fun _ _ e => e))
    obtain ⟨rfl, hr⟩ := hv
    exact wpAny_pure ⟨rfl, hr⟩
  refine binL_K (Q := fun r s' => wpAny (model prog w) A _ Q E s') X I J hc hd t _ left (fun v s' hq => ?_) (fun s' hq => ?_)
  · obtain ⟨e, _⟩ := hq
    cases e
  · obtain ⟨_, hq⟩ := hq
    obtain ⟨X2, I2, ⟨oj, odj, J2⟩, h3⟩ := h2 s' hq
    refine ⟨X2, I2, ⟨oj, odj, J2⟩, wpAny_mono (PySem.W.ksp_try (M := model prog w) (A := A) (E := E) (Q := Q) X2 J2 hm2 hf2 h3) (fun r s'' z => ?_) fun _ _ e => e⟩
    obtain ⟨v, rfl, z⟩ := z
    exact ⟨v, rfl, wpAny_pure z⟩
end
/-! ### a def whose first test leads to NotImplemented -/
section
variable {P : Program} {w : World} {K : PySem.W.Frag} {mg : Str → Option Value} {base : Heap}
abbrev Spn := List V → Hp → (Hp → Prop) → Prop
def NR (outer : List Env) (P : Program) (w : World) (H : Hp) (s : Shared) (Q : Hp → Prop) (r : Result) (s' : Shared) : Prop :=
  match r with
  | .ok (.ret u) => u = Value.notImplemented ∧ CE outer P w H s (fun _ H' => Q H') .none s'
  | .ok _ => False
  | .error e => CX0 outer H s E0 e s'
structure NiOk (P : Program) (w : World) (K : PySem.W.Frag) (mg : Str → Option Value) (base : Heap) (k : Nat) (f : Addr) (fd : FuncData) (ps : List Str) (sp : Spn) : Prop where
  len : ∀ vs H Q, sp vs H Q → vs.length = ps.length
  run : ∀ (A : Around) (outer : List Env) (s : Shared) (H : Hp) (args : Args) (us : List Value) (vs : List V) (Q : Hp → Prop), Room k A → Env0 P w K mg base A outer s H → BindsTo s fd args (ps.zip us) → Vals vs us → sp vs H Q →
    codeAny (model P w) A (.call (.ref f) args) (NR outer P w H s Q) s
theorem ni_of {x qual : Str} {st : Stmt} {f : Addr} {fd : FuncData} {N ps : List Str} {k : Nat} {sp : Spn} {c : Expr} {rest orl : List Stmt} {p1 p2 p3 : Pos} (F : Fun K x qual st f fd) (S : FnScope N ps (defScope st)) (len : ∀ vs H Q, sp vs H Q → vs.length = ps.length)
    (hm : mg "NotImplemented" = none) (hst : defBody st = .If c [.Return (some (.Name "NotImplemented" p1)) p2] orl p3 :: rest)
    (hbody : ∀ (cdv : Value) (A : Around) (outer : List Env) (s : Shared) (H : Hp) (vs : List V) (Q : Hp → Prop), Room k (A.deeper (envOfC qual (defScope st) s.heap.objs.size f cdv)) → sp vs H Q →
      Gl (cxOf CX0 P w K mg base N qual (defScope st) f cdv A outer s H E0) "NotImplemented" ∧ ∃ t, PT (cxOf CX0 P w K mg base N qual (defScope st) f cdv A outer s H E0) c t ∧ t (start N vs) H (fun b H' => b = true ∧ Q H')) :
    NiOk P w K mg base (k + 1) f fd ps sp := by
  obtain ⟨oc, od, kV, doc, pm, an, cdv, ct, osl, rfl, lk, hcd⟩ := F.ex
  refine ⟨len, fun A outer s H args us vs Q hr e0 hb r hsp => ?_⟩
  have hl := len _ _ _ hsp
  have KX : K.In s.heap := e0.mod.kin.keeps fun b o e => (e0.bs b o e).1
  have lim : s.heap.NoLimit := e0.mod.nolimit.keeps fun b o e => (e0.bs b o e).1
  have hkind : ∀ y ∈ ps.zip us, (defScope st).names.lookup y.1 = some .local ∨ ((defScope st).names.lookup y.1 = some .cell ∧ ((cellsFrom (s.heap.objs.size + 1) (defScope st).names []).lookup y.1).isSome = true) := fun ⟨n, v⟩ hy => by
    rcases S.par n (List.of_mem_zip hy).1 with q | q
    · exact .inl q
    · exact .inr ⟨q, PySem.W.cellsFrom_some _ _ _ (.inl q)⟩
  refine codeAny_call_function hr.depth (KX _ _ lk) rfl S.co S.gen rfl (PySem.W.codeRec_of KX hcd) (hb _ _ _ _ ?_)
  refine wpAny_newFunctionEnv_cells S.kind hkind fun env he s1 x => ?_
  subst he
  refine ⟨lim.keeps x.toInCall.keep, codeAny_func ?_⟩
  obtain ⟨hg, t, ht, hq⟩ := hbody cdv A outer s H vs Q (hr.deeper _) hsp
  have I : Inv (cxOf CX0 P w K mg base N qual (defScope st) f cdv A outer s H E0) [] (start N vs) H s1 := inv_start S hr.hd e0 hl r x
  rw [hst]
  refine wpAny_mono (wpAny_execs_cons (wpAny_If (thn (ht.run [] s1 (start N vs) H _ I hq) fun d s2 ⟨H2, I2, e2, q2⟩ => ?_)) : wpAny _ _ _ (fun fl s' => fl = Flow.ret .notImplemented ∧ ∃ H', Inv (cxOf CX0 P w K mg base N qual (defScope st) f cdv A outer s H E0) [] (start N vs) H' s' ∧ Q H') (cxOf CX0 P w K mg base N qual (defScope st) f cdv A outer s H E0).xe _) (fun fl s' hs => ?_) fun e s' hs => hs
  · subst e2
    refine wpAny_execs_cons (wpAny_Return_some (ld_blt I2 hg hm rfl ?_))
    exact ⟨rfl, _, I2, q2⟩
  · obtain ⟨rfl, H', J, q⟩ := hs
    exact ⟨rfl, .non, H', J.os, J.bare, J.base, J.hok, rfl, q⟩
/-- the method m of the class at C keeps such a promise -/
structure Mn (P : Program) (w : World) (K : PySem.W.Frag) (mg : Str → Option Value) (base : Heap) (C : Addr) (m : Str) (k : Nat) (ps : List Str) (sp : Spn) : Prop where
  ok : ∃ (f : Addr) (fd : FuncData), Meth K C m f ∧ Binds K fd ps [] ∧ NiOk P w K mg base k f fd ps sp
theorem mn_mk {C : Addr} {m qual : Str} {st : Stmt} {k : Nat} {ps : List Str} {sp : Spn} (a : MF K C m qual st) (hb : ∀ {f : Addr} {fd : FuncData}, Fun K m qual st f fd → Binds K fd ps []) (ok : ∀ {f : Addr} {fd : FuncData}, Fun K m qual st f fd → NiOk P w K mg base k f fd ps sp) : Mn P w K mg base C m k ps sp := by
  obtain ⟨f, oc, od, kV, doc, pm, an, cdv, ct, osl, h1, h2, h3, h4, h5⟩ := a.ok
  have F := fun_mk (st := st) h3 h4 h5
  exact ⟨⟨f, _, ⟨h1, h2, h5⟩, hb F, ok F⟩⟩
end
section
variable {X : Cx} {CX : CXT} {k j j' : Nat} {C D : Addr} {ps ps' : List Str} {sp : Sp} {spn : Spn} {E : XK} {x y m m' : Str} {nm : String}
theorem ni_at {f : Addr} {fd : FuncData} {pins : List (Addr × Obj)} {σ : L2.St} {H : Hp} {s : Shared} {Q : Hp → Prop} {us : List Value} {vs : List V} {A : Around} {Ex : Value → Shared → Prop} (hfr : A.frames = X.A.frames) (F : NiOk X.prog X.w X.K X.mg X.base k f fd ps spn) (hr : Room k A)
    (hb : Binds X.K fd ps []) (I : Inv X pins σ H s) (r : Vals vs us) (h : spn vs H Q) : wpAny (model X.prog X.w) A (call (.ref f) us) (fun v s' => v = .notImplemented ∧ ∃ H', Inv X pins σ H' s' ∧ Q H') Ex s := by
  have e0 : Env0 X.prog X.w X.K X.mg X.base A X.stack s H := by
    have e := I.env0
    exact ⟨by rw [hfr]; exact e.frames, e.mod, e.bs, e.bsz, e.funs, e.frf, e.hok, e.bare⟩
  have hl : us.length = ps.length := by rw [← r.length]; exact F.len _ _ _ h
  refine wpAny_call (codeAny_mono (F.run A X.stack s H ⟨us, []⟩ us vs Q hr e0 (by
    have := hb s us I.kIn (by simpa using hl)
    simpa using this) r h) fun r s' hq => ?_)
  cases r with
  | error e => exact False.elim hq
  | ok fl =>
    cases fl with
    | ret u =>
      obtain ⟨rfl, hq⟩ := hq
      obtain ⟨v, H', I', _, q⟩ := I.after hq
      exact ⟨rfl, H', I', q⟩
    | next => exact False.elim hq
    | brk => exact False.elim hq
    | cont => exact False.elim hq
/-- a op b, by the left one's method -/
def rOO (C D : Addr) (sp : Sp) (E : XK) : R2 := fun x y H Q => ∃ a b dx dy fs gs, x = .ref a ∧ y = .ref b ∧ H a = some (.ins C dx fs) ∧ H b = some (.ins D dy gs) ∧ sp [x, y] H Q E
theorem op_OO {op : Operator} (M : Mt CX X.prog X.w X.K X.mg X.base C m j ps sp) (c : Kl X.K X.mg x C) (d : Kl X.K X.mg y D) (t : BinT X.K C D nm) (hr : Room k X.A) (hj : j ≤ k) (hx : Passes CX X E) (e : PySem.dunder nm = m := by decide +kernel) (hi : op.info.2 = nm := by rfl) : OpR X (binaryOp op) (rOO C D sp E) := by
  obtain ⟨f, fd, h1, hb, F⟩ := M.ok
  subst e
  intro pins s σ H x y v u Q I rx ry hq
  obtain ⟨a, b, dx, dy, fs, gs, rfl, rfl, ha, hb', q⟩ := hq
  cases rx
  cases ry
  obtain ⟨mA, J, _⟩ := ins_get I.hok ha
  obtain ⟨mB, J', _⟩ := ins_get I.hok hb'
  obtain ⟨od, J, _⟩ := J.look
  obtain ⟨od', J', _⟩ := J'.look
  have r2 : Vals [V.ref a, V.ref b] [Value.ref a, Value.ref b] := .cons rfl (.cons rfl .nil)
  refine binD_K I.kIn J J' c.sf d.sf hi t h1.at_ h1.fn (wpAny_mono (run_at rfl F (hr.mono hj) hb hx I r2 q) (fun w s' z => ?_) fun _ _ z => z)
  obtain ⟨v, H', I', r, q'⟩ := z
  exact cmpBack_of (no_ni r) ⟨v, H', I', r, q'⟩
/-- a op b, by the right one's method -/
def rOR (C D : Addr) (spn : Spn) (sp : Sp) (E : XK) : R2 := fun x y H Q => ∃ a b dx dy fs gs, x = .ref a ∧ y = .ref b ∧ H a = some (.ins C dx fs) ∧ H b = some (.ins D dy gs) ∧ spn [x, y] H (fun H' => (∃ dx fs, H' a = some (.ins C dx fs)) ∧ (∃ dx fs, H' b = some (.ins D dx fs)) ∧ sp [y, x] H' Q E)
theorem op_OR {op : Operator} (N : Mn X.prog X.w X.K X.mg X.base C m j' ps' spn) (M : Mt CX X.prog X.w X.K X.mg X.base D m' j ps sp) (c : Kl X.K X.mg x C) (d : Kl X.K X.mg y D) (t : BinT X.K C D nm) (hr : Room k X.A) (hj' : j' ≤ k) (hj : j ≤ k) (hx : Passes CX X E) (e : PySem.dunder nm = m := by decide +kernel) (e' : dunderR nm = m' := by decide +kernel) (hi : op.info.2 = nm := by rfl) :
    OpR X (binaryOp op) (rOR C D spn sp E) := by
  obtain ⟨f, fd, h1, hb, F⟩ := N.ok
  obtain ⟨g, gd, h1', hb', G⟩ := M.ok
  subst e
  subst e'
  intro pins s σ H x y v u Q I rx ry hq
  obtain ⟨a, b, dx, dy, fs, gs, rfl, rfl, ha, hbb, q⟩ := hq
  cases rx
  cases ry
  obtain ⟨mA, J, _⟩ := ins_get I.hok ha
  obtain ⟨mB, J', _⟩ := ins_get I.hok hbb
  obtain ⟨od, J, _⟩ := J.look
  obtain ⟨od', J', _⟩ := J'.look
  have r2 : Vals [V.ref a, V.ref b] [Value.ref a, Value.ref b] := .cons rfl (.cons rfl .nil)
  have r3 : Vals [V.ref b, V.ref a] [Value.ref b, Value.ref a] := .cons rfl (.cons rfl .nil)
  refine binR_K I.kIn J J' c.sf d.sf hi t h1.at_ h1.fn h1'.at_ h1'.fn (ni_at rfl F (hr.mono hj') hb I r2 q) fun s' ⟨H', I', ⟨dx1, fs1, ha1⟩, ⟨dx2, fs2, hb1⟩, q'⟩ => ?_
  obtain ⟨mA2, J2, _⟩ := ins_get I'.hok ha1
  obtain ⟨mB2, J2', _⟩ := ins_get I'.hok hb1
  obtain ⟨od2, J2, _⟩ := J2.look
  obtain ⟨od2', J2', _⟩ := J2'.look
  refine ⟨I'.kIn, ⟨_, _, J2⟩, ⟨_, _, J2'⟩, wpAny_mono (run_at rfl G (hr.mono hj) hb' hx I' r3 q') (fun w s' z => ?_) fun _ _ z => z⟩
  obtain ⟨v, H', I', r, q'⟩ := z
  exact cmpBack_of (no_ni r) ⟨v, H', I', r, q'⟩
end
end Sy

/-! Lists of own objects beside lists of numbers; a place to rest in a walk. -/
namespace Sy
open PySem PySem.Spec PyProof.Rows L2
/-! ### a place to rest: what comes behind is not looked at -/
def tHold (t : TS) : TS := t
theorem ps_hold {X : Cx} {st : Stmt} {t : TS} (h : PS X st t) : PS X st (tHold t) := h
theorem x_hold {t : TS} {D : Ends} {σ : L2.St} {H : Hp} (J : L2.St → Hp → Prop) (h1 : ∀ σ H, J σ H → D.nx σ H) (h2 : ∀ N : L2.St → Hp → Prop, (∀ σ H, J σ H → N σ H) → t { D with nx := N } σ H) : tHold t D σ H := h2 D.nx h1
/-! ### places of lists -/
theorem ixN_in {n : Nat} {i : Int} (h0 : 0 ≤ i) (h1 : i < n) : ixN n i = some i.toNat := by
  unfold ixN
  rw [if_pos h0, if_pos h1]
theorem ixN_set {xs : List V} {i : Int} {j k : Nat} {v : V} (h : ixN xs.length i = some j) : ixN (xs.set k v).length i = some j := by rw [List.length_set]; exact h
theorem atI_set {xs : List V} {i : Int} {j : Nat} {v : V} (h : ixN xs.length i = some j) : atI (xs.set j v) i = some v := by
  have hj := (ixN_seq h).2.1
  unfold atI
  rw [ixN_set h]
  show (xs.set j v)[j]? = some v
  rw [List.getElem?_set_self hj]
/-! ### objects beside their numbers -/
def Tab (P : Addr → Int → Prop) (N : Nat) (xs : List V) (ns : List Int) : Prop := xs.length = ns.length ∧ ∀ (i : Nat) (x : V), xs[i]? = some x → ∃ a n, x = .ref a ∧ ns[i]? = some n ∧ P a n ∧ n.natAbs < N
theorem Tab.at {P : Addr → Int → Prop} {N m : Nat} {xs : List V} {ns : List Int} (h : Tab P N xs ns) (hl : ns.length = m) {i : Int} (h0 : 0 ≤ i) (h1 : i < m) :
    ∃ a n, atI xs i = some (.ref a) ∧ atI (ns.map V.int) i = some (.int n) ∧ P a n ∧ n.natAbs < N := by
  obtain ⟨k, rfl⟩ : ∃ k : Nat, i = k := ⟨i.toNat, by omega⟩
  have hk : k < xs.length := by rw [h.1, hl]; omega
  obtain ⟨a, n, e1, e2, e3, e4⟩ := h.2 k _ (List.getElem?_eq_getElem hk)
  refine ⟨a, n, atI_nat ?_, atI_nat ?_, e3, e4⟩
  · rw [List.getElem?_eq_getElem hk, e1]
  · rw [List.getElem?_map, e2]; rfl
theorem Tab.up {P P' : Addr → Int → Prop} {N N' : Nat} {xs : List V} {ns : List Int} (h : Tab P N xs ns) (hP : ∀ a n, P a n → P' a n) (hN : N ≤ N') : Tab P' N' xs ns :=
  ⟨h.1, fun i x hx => let ⟨a, n, e1, e2, e3, e4⟩ := h.2 i x hx; ⟨a, n, e1, e2, hP _ _ e3, Nat.lt_of_lt_of_le e4 hN⟩⟩
theorem Tab.set {P : Addr → Int → Prop} {N : Nat} {xs : List V} {ns : List Int} (h : Tab P N xs ns) {a : Addr} {n : Int} (hp : P a n) (hn : n.natAbs < N) (j : Nat) : Tab P N (xs.set j (.ref a)) (ns.set j n) := by
  refine ⟨by rw [List.length_set, List.length_set, h.1], fun i x hx => ?_⟩
  by_cases e : j = i
  · subst e
    have hj : j < xs.length := by
      have := (List.getElem?_eq_some_iff.mp hx).1
      rw [List.length_set] at this
      exact this
    rw [List.getElem?_set_self hj] at hx
    cases hx
    exact ⟨a, n, rfl, List.getElem?_set_self (by rw [← h.1]; exact hj), hp, hn⟩
  · rw [List.getElem?_set_ne e] at hx
    obtain ⟨a', n', e1, e2, e3, e4⟩ := h.2 i x hx
    exact ⟨a', n', e1, by rw [List.getElem?_set_ne e]; exact e2, e3, e4⟩
theorem Tab.app {P : Addr → Int → Prop} {N : Nat} {xs : List V} {ns : List Int} (h : Tab P N xs ns) {a : Addr} {n : Int} (hp : P a n) (hn : n.natAbs < N) : Tab P N (xs ++ [.ref a]) (ns ++ [n]) := by
  refine ⟨by rw [List.length_append, List.length_append, h.1]; rfl, fun i x hx => ?_⟩
  by_cases e : i < xs.length
  · rw [List.getElem?_append_left e] at hx
    obtain ⟨a', n', e1, e2, e3, e4⟩ := h.2 i x hx
    exact ⟨a', n', e1, by rw [List.getElem?_append_left (by rw [← h.1]; exact e)]; exact e2, e3, e4⟩
  · rw [List.getElem?_append_right (by omega)] at hx
    have hi : i - xs.length = 0 := by
      have := (List.getElem?_eq_some_iff.mp hx).1
      simp at this
      omega
    rw [hi] at hx
    cases hx
    refine ⟨a, n, rfl, ?_, hp, hn⟩
    rw [List.getElem?_append_right (by rw [← h.1]; omega), ← h.1, hi]
    rfl
theorem Tab.nil {P : Addr → Int → Prop} {N : Nat} : Tab P N [] [] := ⟨rfl, fun i x hx => by cases hx⟩
theorem map_set_int {ns : List Int} {j : Nat} {n : Int} : (ns.map V.int).set j (.int n) = (ns.set j n).map V.int := List.map_set.symm
end Sy

/-! a += b of own instances without an in-place method; comprehensions over lists that stand. -/
namespace Sy
open PySem PySem.Spec PyProof.Rows L2
section
open PySem.W
variable {prog : Program} {w : World} {A : Around} {E : Value → Shared → Prop} {s : Shared} {K : Frag} {x C f : Addr} {h₀ : Heap} {L : Addr} {m : Str → Option Value} {ox : Obj} {od : Option Obj}
/-- what a += b asks of the class -/
structure IpT (K : Frag) (C : Addr) : Prop where
  hm : (clsIn K C).map (·.mro) = some [.ref C, .type "object"]
  h1 : findIn K (.ref C) (dunderI "add") = some none
  h2 : findIn K (.type "object") (dunderI "add") = some none
theorem fills_none {h : Heap} (X : K.In h) (T : IpT K C) : Looks (model prog w) h (fillsInplaceSlot (.ref C) "add" true) false := by
  intro A Q E s k q
  obtain ⟨cd, hc, hmro⟩ : ∃ cd, clsIn K C = some cd ∧ cd.mro = [.ref C, .type "object"] := by
    have e := T.hm
    cases hh : clsIn K C with
    | none => rw [hh] at e; cases e
    | some cd => rw [hh] at e; exact ⟨cd, rfl, Option.some.inj e⟩
  have Lm : Looks (model prog w) h (mroOf (.ref C)) cd.mro := (looks_clsIn X hc).andThen (f := fun cd => pure cd.mro) .now
  have Lm' := Lm.keeps k
  obtain ⟨hh, g, d, tt, os⟩ := s
  have X' : K.In hh := X.keeps k
  have L1 : Looks (model prog w) hh (typeLookup (.ref C) (dunderI "add")) none := looks_findIn X' T.h1
  have L2 : Looks (model prog w) hh (typeLookup (.type "object") (dunderI "add")) none := looks_findIn X' T.h2
  unfold fillsInplaceSlot
  refine wpAny_bind (Lm'.at ?_)
  rw [hmro, List.anyM_cons, List.anyM_cons, List.anyM_nil]
  refine wpAny_bind (wpAny_bind (L1.at (wpAny_pure ?_)))
  refine wpAny_bind (wpAny_bind (L2.at (wpAny_pure ?_)))
  exact wpAny_pure q
theorem iop_add_K {b : Value} {Q : Value → Shared → Prop} (F : Fr h₀ L s.heap m) (X₀ : K.In h₀) (I : InstAt s.heap x ox C od) (hb : Looks (model prog w) s.heap (typeOf b) (.ref C)) (hc : selfFirst K C = true) (T : IpT K C)
    (hs : findIn K (.ref C) (PySem.dunder "add") = some (some (.ref f))) (hf : isFn K (.ref f) = true)
    (h : wpAny (model prog w) A (call (.ref f) [.ref x, b]) (PySem.W.CmpBack Q) E s) : wpAny (model prog w) A (inplaceOp .Add (.ref x) b) Q E s := by
  have X := X₀.keeps F.keep
  obtain ⟨cd, hcd, hm⟩ := any_some hc
  obtain ⟨rest, hm⟩ : ∃ rest, cd.mro = .ref C :: rest := by
    cases q : cd.mro with
    | nil => rw [q] at hm; cases hm
    | cons a r => rw [q] at hm; exact ⟨r, by rw [List.head?_cons] at hm; cases (beq_iff_eq.mp hm); rfl⟩
  unfold inplaceOp
  refine wpAny_holding (wpAny_bind (I.type.here ?_))
  refine wpAny_bind ((fills_none X T).here ?_)
  simp only [Bool.false_eq_true, if_false, pure_bind]
  refine wpAny_bind ?_
  show wpAny (model prog w) A (binaryOp1 "add" (.ref x) b) _ E s
  unfold binaryOp1
  refine wpAny_bind (I.type.here (wpAny_bind (hb.here (wpAny_bind ((fills_K X hcd hm hs).here ?_)))))
  simp only [beq_self_eq_true, if_true]
  refine wpAny_bind (wpAny_pure ?_)
  simp only [Bool.and_false, Bool.false_eq_true, if_false, Bool.false_and]
  refine wpAny_bind (wpAny_pure ?_)
  simp only [Bool.false_eq_true, if_false]
  refine wpAny_bind (m := tryMethod (.ref x) _ b) ?_
  unfold tryMethod
  refine wpAny_bind (special_fn X I hs (beq_iff_eq.mp hf) (wpAny_mono h (fun v s' hv => ?_) fun _ _ e => e))
  cases v <;> first | exact hv.elim | exact wpAny_pure (wpAny_pure (wpAny_pure hv))
end
section
variable {X : Cx} {CX : CXT} {k j : Nat} {C : Addr} {ps : List Str} {sp : Sp} {E : XK} {x : Str}
theorem ipt_mk {K : PySem.W.Frag} {C : Addr} {cd : ClassData} (hc : PySem.W.clsIn K C = some cd) (hm : cd.mro = [.ref C, .type "object"]) (h1 : PySem.W.findIn K (.ref C) (dunderI "add") = some none) (h2 : PySem.W.findIn K (.type "object") (dunderI "add") = some none) : IpT K C := ⟨by rw [hc]; exact congrArg some hm, h1, h2⟩
/-- a += b of two instances of the class at C, which has no in-place method -/
theorem ip_own (D : Mt CX X.prog X.w X.K X.mg X.base C "__add__" j ps sp) (c : Kl X.K X.mg x C) (T : IpT X.K C) (hr : Room k X.A) (hj : j ≤ k) (hx : Passes CX X E) : PIp X .Add (rOwn C sp E) := by
  obtain ⟨f, fd, h1, hb, F⟩ := D.ok
  intro pins s σ H x y v u Q I rx ry hq
  obtain ⟨a, b, dx, dy, fs, gs, rfl, rfl, ha, hb', q⟩ := hq
  cases rx
  cases ry
  obtain ⟨mA, J, _⟩ := ins_get I.hok ha
  obtain ⟨mB, J', _⟩ := ins_get I.hok hb'
  obtain ⟨od, J, _⟩ := J.look
  obtain ⟨od', J', _⟩ := J'.look
  obtain ⟨m', hF⟩ := I.fr
  have r2 : Vals [V.ref a, V.ref b] [Value.ref a, Value.ref b] := .cons rfl (.cons rfl .nil)
  have e : (PySem.dunder "add" : Str) = "__add__" := by decide +kernel
  refine iop_add_K hF I.ok.mod.kin J J'.type c.sf T (by rw [e]; exact h1.at_) h1.fn (wpAny_mono (run_at rfl F (hr.mono hj) hb hx I r2 q) (fun w s' z => ?_) fun _ _ z => z)
  obtain ⟨v, H', I', r, q'⟩ := z
  exact cmpBack_of (no_ni r) ⟨v, H', I', r, q'⟩
end
end Sy

/-! List comprehensions over worlds; methods of lists; list(..). -/
namespace Sy
open PySem PySem.Spec PyProof.Rows L2
section
variable {σ : L2.St} {H B : Hp} {M : List (Addr × HO)} {Q : VK} {K : PySem.W.Frag} {to tl te : TE} {t : TA} {tt : TT} {g : TG} {xs ys : List V} {v : V} {T : String} {r : V → List V → Hp → VK → Prop} {vs : List Nat}
theorem x_bm (h : to σ H fun x H1 => tyV K T x H1 ∧ t σ H1 fun xs H2 => r x xs H2 Q) : tBM K T r to t σ H Q := h
theorem x_bm0 (h : to σ H fun x H1 => tyV K T x H1 ∧ r x [] H1 Q) : tBM0 K T r to σ H Q := h
theorem x_tyL {p : Addr} {N : Prop} (h : SqL K H p xs) (n : N) : tyV K "list" (.ref p) H ∧ N := ⟨.inl ⟨rfl, _, h⟩, n⟩
theorem x_tyS {z : Str} {N : Prop} (n : N) : tyV K "str" (.str z) H ∧ N := ⟨rfl, n⟩
theorem x_append (w : Wd B M H) {l : Addr} {k : Nat} (hk : M[k]? = some (l, .lst xs)) (hl : xs.length < 100000) (h : ∀ H', Wd B (M.set k (l, .lst (xs ++ [v]))) H' → Q .non H') : rAppend (.ref l) [v] H Q :=
  ⟨l, xs, v, rfl, rfl, w.get hk, sz_lt hl, h _ (w.set hk _)⟩
def KN (ys : List V) (H : Hp) (Q : VK) : Prop := ∀ l, H l = none → Q (.ref l) (upd H l (.lst ys))
def rLst (K : PySem.W.Frag) : List V → Hp → VK → Prop := fun xs H Q => ∃ p ys, xs = [.ref p] ∧ (SqL K H p ys ∨ SqT K H p ys) ∧ KN ys H Q
theorem c_list {X : Cx} : CallR X (.type "list") (rLst X.K) := call_list_of
theorem x_listL {p : Addr} (h : SqL K H p xs) (k : KN xs H Q) : rLst K [.ref p] H Q := ⟨p, xs, rfl, .inl h, k⟩
theorem x_listT {p : Addr} (h : SqT K H p xs) (k : KN xs H Q) : rLst K [.ref p] H Q := ⟨p, xs, rfl, .inr h, k⟩
theorem x_kn (w : Wd B M H) (k : ∀ p B' H', Ex B B' → B' p = some (.lst xs) → Wd B' M H' → Q (.ref p) H') : KN xs H Q := fun p np => k p _ _ (Ex.new (w.free np)) upd_same (w.alloc np _)
theorem x_knM (w : Wd B M H) (k : ∀ p H', Wd B ((p, .lst xs) :: M) H' → Q (.ref p) H') : KN xs H Q := fun p np => k p _ (w.allocM np _)
/-- [.. for .. in a list] -/
def LcL (K : PySem.W.Frag) (g : TG) (tt : TT) (te : TE) (vs : List Nat) (σ : L2.St) (x : V) (H1 : Hp) (Q : VK) : Prop := ∃ a, x = .ref a ∧ (∃ xs, SqL K H1 a xs) ∧ ∀ D, H1 D = none → ∃ W : Nat → Nat → Hp → Prop, (∃ m, W 0 m (upd H1 D (.lst []))) ∧ ∀ i m H, W i m H →
  ((Itl K a).stop i H ∧ Q (.ref D) H) ∨ ((Itl K a).go i H ∧ ∃ Nx : Hp → Prop, (∀ H', Nx H' → ∃ m', m' < m ∧ W (i + 1) m' H') ∧ ∀ x H', (Itl K a).yld i H x H' → g x (wipe σ vs) H' fun σ2 H2 => wipe σ2 vs = wipe σ vs ∧ tt σ2 H2 fun b H3 =>
    if b = true then te σ2 H3 fun y H4 => ∃ acc, H4 D = some (.lst acc) ∧ acc.length < sizeLine ∧ Nx (upd H4 D (.lst (acc ++ [y]))) else Nx H3)
theorem x_lc (h : tl σ H fun x H1 => LcL K g tt te vs σ x H1 Q) : tLc (iList K tl) g tt te vs σ H Q := h
/-- what stands in the i-th turn: what is made so far is kept apart, at the head of what changes -/
def LcI (P : Nat → List V → Hp → Prop) (B : Hp) (M : List (Addr × HO)) (D : Addr) (i : Nat) (H' : Hp) : Prop := ∃ acc B', P i acc B' ∧ Ex B B' ∧ acc.length ≤ i ∧ Wd B' ((D, .lst acc) :: M) H'
theorem lc_y {P : Nat → List V → Hp → Prop} {B2 H4 : Hp} {D : Addr} {i : Nat} {acc : List V} {y : V} (w2 : Wd B2 ((D, .lst acc) :: M) H4) (e : Ex B B2) (ha : acc.length ≤ i) (hi : i < 90000) (p : P (i + 1) (acc ++ [y]) B2) :
    ∃ acc', H4 D = some (.lst acc') ∧ acc'.length < sizeLine ∧ LcI P B M D (i + 1) (upd H4 D (.lst (acc' ++ [y]))) :=
  ⟨acc, w2.mu _ List.mem_cons_self, sz_lt (by omega), acc ++ [y], B2, p, e, by rw [List.length_append]; show acc.length + 1 ≤ i + 1; omega, w2.set (k := 0) rfl _⟩
theorem lc_n {P : Nat → List V → Hp → Prop} {B2 H4 : Hp} {D : Addr} {i : Nat} {acc : List V} (w2 : Wd B2 ((D, .lst acc) :: M) H4) (e : Ex B B2) (ha : acc.length ≤ i) (p : P (i + 1) acc B2) : LcI P B M D (i + 1) H4 := ⟨acc, B2, p, e, by omega, w2⟩
/-- .. over a list that stands -/
theorem x_lcL {a : Addr} (w : Wd B M H) (hx : ∀ H', Ex B H' → (∀ q ∈ M, H' q.1 = some q.2) → SqL K H' a xs) (P : Nat → List V → Hp → Prop) (hl : xs.length ≤ 90000) (h0 : P 0 [] B)
    (hs : ∀ i x acc D B' H', xs[i]? = some x → i < 90000 → P i acc B' → Ex B B' → acc.length ≤ i → Wd B' ((D, .lst acc) :: M) H' → g x (wipe σ vs) H' fun σ2 H2 => wipe σ2 vs = wipe σ vs ∧ tt σ2 H2 fun b H3 =>
      if b = true then te σ2 H3 fun y H4 => ∃ acc', H4 D = some (.lst acc') ∧ acc'.length < sizeLine ∧ LcI P B M D (i + 1) (upd H4 D (.lst (acc' ++ [y]))) else LcI P B M D (i + 1) H3)
    (hd : ∀ acc D B' H', P xs.length acc B' → Ex B B' → Wd B' ((D, .lst acc) :: M) H' → Q (.ref D) H') : LcL K g tt te vs σ (.ref a) H Q := by
  refine ⟨a, rfl, ⟨xs, hx H w.ex w.mu⟩, fun D nD => ?_⟩
  refine lc_list (xs := xs) (LcI P B M D) ⟨[], B, h0, Ex.rf B, Nat.le_refl _, w.allocM nD _⟩ (fun i H' _ ⟨acc, B', _, e, _, w'⟩ => hx H' (e.tr w'.ex) fun q hq => w'.mu q (List.mem_cons_of_mem _ hq)) ?_ (fun H' ⟨acc, B', p, e, _, w'⟩ => hd acc D B' H' p e w')
  rintro i x H' hxi ⟨acc, B', p, e, hacc, w'⟩
  have hi : i < xs.length := (List.getElem?_eq_some_iff.mp hxi).1
  exact hs i x acc D B' H' hxi (by omega) p e hacc w'
theorem x_aug {D : Ends} {ti : TIp} {x : V} {i : Nat} (hi : σ[i]? = some (some x)) (h : te σ H fun y H1 => ti x y H1 fun z H2 => D.nx (σ.set i (some z)) H2) : tAug i te ti D σ H := ⟨x, hi, h⟩
theorem x_ip {f : Int → Int → Int} {i j : Int} (h : Q (.int (f i j)) H) : ipI f (.int i) (.int j) H Q := ⟨i, j, rfl, rfl, h⟩
theorem x_yes {H : Hp} {N : Bool → Hp → Prop} (h : N true H) : tYes σ H N := h
end
end Sy

/-! Errors of one's own over any built-in base: made, raised, asked for their class. -/
namespace Sy
open PySem PySem.Spec PyProof.Rows L2
section
open PySem.W PySem.Calls Builtin Builtin.ObjectAttr
variable {prog : Program} {w : World} {A : Around} {R : Result → Shared → Prop} {hp : Heap} {g : Array GenState} {d : Drawn} {t : Nat} {os : OsState}
theorem osaB {B : String} {bmB : List Value} {K : Frag} {name : Str} {tk : Tok} {v : Value} {x C : Addr} {fv : Array Value} {cd : ClassData} (SF : StoreFacts B bmB "object.__setattr__" "object") (X : K.In hp)
    (hx : hp.get? x = some { cls := .ref C, data := .fields fv }) (hcd : clsIn K C = some cd) (ho : excOver K C bmB = true) (hh : cd.hasDict = true) (ht : takerIn K C name = some none)
    (hq : ∀ h' tk' dx, (∀ b o, b ≠ x → hp.get? b = some o → h'.get? b = some o) → hp.objs.size ≤ dx → dx ≠ x → h'.get? x = some { cls := .ref C, dict := some dx, data := .fields fv } →
      h'.Ns1 dx (fun y => if y = name then some v else none) → R (.ok (.ret .none)) ⟨h', g, d, tk', os⟩) :
    codeAny (model prog w) A (.call (.builtin "object.__setattr__") ⟨[.ref x, .str name tk, v], []⟩) R ⟨hp, g, d, t, os⟩ := by
  have far : x ≠ hp.objs.size := Nat.ne_of_lt (Heap.lt_size hx)
  have lc : Looks (model prog w) hp (classData C) cd := looks_clsIn X hcd
  refine osa_openX SF X (ox := { cls := .ref C, data := .fields fv }) (od := none) ⟨hx, rfl, rfl, trivial⟩ ho ht fun b => ?_
  obtain ⟨nm, bs, mro, ns, qn, hd, sn, sb, ab, col, del⟩ := cd
  cases hh
  show wpAny _ _ (storeInOwnDict (.ref x) (.ref C) (.str name tk) name v b) _ _ _
  unfold storeInOwnDict ownDictForStores
  repeat (first | with_reducible refine PySem.HandSPX.store_in_new ?_ ?_ | with_reducible refine wpAny_loadPart_at hx ?_ | with_reducible refine lc.at ?_ | wp_step)
  · exact ⟨_, #[], _, (Heap.get?_update_ne _ _ _ _ far.symm).trans (Heap.get?_push_at rfl rfl), rfl, fun e he => absurd he (by simp), fun _ => rfl⟩
  · intro h' tk' n s
    have h1 := Heap.get?_push_of_some ({ cls := .type "dict", data := .dict #[] } : Obj) hx
    exact hq h' tk' hp.objs.size (fun b o hb z => (s.2 b (Nat.ne_of_lt (Heap.lt_size z))).trans ((Heap.get?_update_ne _ _ _ _ hb).trans (Heap.get?_push_of_some _ z))) (Nat.le_refl _) far.symm ((s.2 x far).trans (Heap.get?_update_self _ h1 rfl)) n
end
/-! ### what a class of errors says -/
/-- a made error: at e, of the class at C, its own dict at d holding m -/
structure MadeE (h h' : Heap) (e C d : Addr) (m : Str → Option Value) : Prop where
  keep : ∀ b o, h.get? b = some o → h'.get? b = some o
  new : h.objs.size ≤ e
  obj : ∃ oe vs, h'.get? e = some oe ∧ oe.cls = .ref C ∧ oe.dict = some d ∧ oe.data = .fields vs ∧ vs[1]? = some .none
  dbig : h.objs.size ≤ d
  dne : d ≠ e
  ns : h'.Ns1 d m
/-- the class called x, at C, whose instances keep the fields fs -/
structure ErrC (prog : Program) (w : World) (K : PySem.W.Frag) (mg : Str → Option Value) (x : Str) (C : Addr) (fs : List Str) : Prop where
  gC : mg x = some (.ref C)
  kC : PySem.W.keepIn K (.ref C) = true
  exC : PySem.W.subIn K (.ref C) (.type "BaseException") = some true
  tyC : PySem.W.typeIn K (.ref C) = some (.type "type")
  hdC : PySem.W.hasDictIn K C = true
  ga : PySem.W.findIn K (.ref C) "__getattribute__" = some (some (.builtin "BaseException.__getattribute__"))
  gg : PySem.W.findIn K (.ref C) "__getattr__" = some none
  no : ∀ f ∈ fs, PySem.W.findIn K (.ref C) f = some none
  made : ∀ {A : Around} {R : Result → Shared → Prop} {s : Shared} {us : List Value}, us.length = fs.length → K.In s.heap → s.heap.NoLimit → A.depth + 1 < recursionLimit →
    (∀ h' tk e d, MadeE s.heap h' e C d (fun y => (fs.zip us).lookup y) → R (.ok (.ret (.ref e))) { s with heap := h', toks := tk }) → codeAny (model prog w) A (.call (.ref C) ⟨us, []⟩) R s
theorem zip_rel : ∀ {fs : List Str} {vs : List V} {us : List Value}, Vals vs us → ∀ y, RelO ((fs.zip vs).lookup y) ((fs.zip us).lookup y)
  | [], _, _, _, _ => trivial
  | f :: fs, _, _, .nil, _ => trivial
  | f :: fs, _, _, .cons r rs, y => by
    rw [List.zip_cons_cons, List.zip_cons_cons, List.lookup_cons, List.lookup_cons]
    cases y == f with
    | true => exact r
    | false => exact zip_rel rs y
section
variable {X : Cx} {C : Addr} {x : Str} {fs : List Str}
/-- X(e, ..), an error -/
def tMkE (C : Addr) (fs : List Str) (ta : TA) : L2.St → Hp → XK → Prop := fun σ H Q => ta σ H fun vs H1 => vs.length = fs.length ∧ ∀ d, H1 d = none → Q (.ref C) (some d) (upd H1 d (.xd (fs.zip vs)))
theorem pmk_err {a : Expr} {as : List Expr} {ta : TA} {p pos : Pos} {k : Nat} (T : ErrC X.prog X.w X.K X.mg x C fs) (hr : Room k X.A) (hk : 1 ≤ k) (ha : PA X (a :: as) ta) (hg : Gl X x := by rfl) (hdb : (x == ("__debug__" : Str)) = false := by decide)
    (he : starEach (a :: as) X.env = (false, eval a X.env) :: starEach as X.env := by rfl) (hpl : (backTo pos (starEach as X.env)).any (·.1) = false := by rfl) :
    PMk X (.Call (.Name x p) (a :: as) [] pos) (tMkE C fs ta) := by
  intro pins s σ H Q I h
  refine wpAny_Call_Name_kw (ld_glob I hg T.gC ?_ hdb)
  refine PySem.W.callWith_K (h₀ := X.base) I.ok.mod.kin T.kC (thn (ha.run pos pins s σ H _ I h) fun us s1 ⟨vs, H1, I1, r, hl, q⟩ => ⟨I1.kIn, ?_⟩) he hpl
  show wpAny _ _ (call (.ref C) us) _ _ _
  have lim := I1.nolimit
  obtain ⟨hp, g, dr, tk, os⟩ := s1
  refine wpAny_call (T.made (r.length.symm.trans hl) I1.kIn lim (by have := hr.dp; omega) fun h' tk' e d M => ?_)
  obtain ⟨oe, fv, h1, h2, h3, h4, h5⟩ := M.obj
  obtain ⟨G, ga, gb⟩ := restrict h' fun b => decide (b ≠ e)
  have gk : ∀ b, b ≠ e → G.get? b = h'.get? b := fun b z => ga b (decide_eq_true z)
  have ge : G.get? e = none := gb e (by simp)
  have old : ∀ b o, hp.get? b = some o → G.get? b = some o := fun b o z => (gk b (Nat.ne_of_lt (Nat.lt_of_lt_of_le (Heap.lt_size z) M.new))).trans (M.keep b o z)
  have ob : ObjOk X.prog X.w (upd H1 d (.xd (fs.zip vs))) G d (.xd (fs.zip vs)) := ⟨_, M.ns.at fun o z => (gk d M.dne).trans z, fun f => zip_rel r f⟩
  have J : Inv X pins σ (upd H1 d (.xd (fs.zip vs))) ⟨G, g, dr, tk', os⟩ := I1.laid (t' := tk') old M.dbig ob
  refine ⟨e, oe, fv, ⟨G, g, dr, tk', os⟩, _, .ref C, some d, rfl, J, fun b o z => ?_, ge, h1, ⟨h2, h3⟩, h4, h5, ?_, rfl, I1.bare, raises_own T.exC T.tyC, q d (I1.hok.fresh M.dbig)⟩
  · have z' : G.get? b = some o := z
    by_cases hb : b = e
    · rw [hb, ge] at z'; cases z'
    · exact (gk b hb).symm.trans z'
  · rw [upd_ne (Ne.symm M.dne)]
    exact I1.hok.fresh M.new
def tRaiseE (C : Addr) (fs : List Str) (W : WX) (ta : TA) : TS := fun _ σ H => tMkE C fs ta σ H fun cls d H' => W cls d σ H'
theorem ps_raiseE {a : Expr} {as : List Expr} {ta : TA} {W : WX} {p pos pos2 : Pos} {k : Nat} (hc : X.calm = true) (T : ErrC X.prog X.w X.K X.mg x C fs) (hr : Room k X.A) (hk : 1 ≤ k) (tk : Takes X W) (ha : PA X (a :: as) ta) (hg : Gl X x := by rfl) (hdb : (x == ("__debug__" : Str)) = false := by decide)
    (he : starEach (a :: as) X.env = (false, eval a X.env) :: starEach as X.env := by rfl) (hpl : (backTo pos (starEach as X.env)).any (·.1) = false := by rfl) :
    PS X (.Raise (some (.Call (.Name x p) (a :: as) [] pos)) none pos2) (tRaiseE C fs W ta) := ps_raise hc tk (pmk_err T hr hk ha hg hdb he hpl)
/-- isinstance(e, c), e the error that the suite holds -/
structure IsE (K : PySem.W.Frag) (D : Addr) : Prop where
  hg : PySem.W.findIn K (.ref D) "__getattribute__" = some (some (.builtin "BaseException.__getattribute__"))
  hk : PySem.W.findIn K (.ref D) "__getattr__" = some none
  hs : PySem.W.subIn K (.ref D) (.type "BaseException") = some true
  hd : PySem.W.hasDictIn K D = true
  ha : PySem.W.findIn K (.ref D) "__class__" = some (some (.builtin "object.__class__"))
  hn : PySem.W.specialIn K (.builtin "object.__class__") "__get__" = some (some (.builtin "getset_descriptor.__get__"))
  ht : PySem.W.takesIn K (.builtin "object.__class__") = some true
  hm : PySem.W.mroIn K D (.type "object") = some true
def rIsD (K : PySem.W.Frag) (a : Addr) (cls : Value) (d : Option Addr) : List V → Hp → VK → Prop := fun xs H Q => ∃ (D : Addr) (c : V) (cv : Value) (b : Bool) (dd : Addr) (fs : List (Str × V)), cls = .ref D ∧ IsE K D ∧ xs = [.ref a, c] ∧ d = some dd ∧ H dd = some (.xd fs) ∧ ClsV c cv ∧ PySem.W.kitOne K (.ref D) cv = some b ∧ Q (.bl b) H
theorem call_isD {a : Addr} {oe : Obj} {cls : Value} {d : Option Addr} {pn : List (Addr × Obj)} (hz : Zc cls d oe) (hf : ∃ vs, oe.data = .fields vs) : CallR (X.suite a ((a, oe) :: pn)) (.builtin "isinstance") (rIsD X.K a cls d) := by
  intro pins s σ H xs us Q I r h
  obtain ⟨D, c, cv, b, dd, fs, rfl, T, rfl, rfl, ea, hcv, e, q⟩ := h
  cases r with
  | cons rx rr =>
    cases rr with
    | cons rt rr =>
      cases rr
      cases rx
      obtain ⟨hget, _⟩ := I.pin (a, oe) (List.mem_append.mpr (.inl List.mem_cons_self))
      obtain ⟨vs, hv⟩ := hf
      have hx : ObjOk X.prog X.w H s.heap dd (.xd fs) := I.hok dd _ ea
      obtain ⟨mA, hns, _⟩ := hx
      obtain ⟨od, ho, _⟩ := lookIn_ns hns
      have J : PySem.W.InstAt s.heap a oe D (some od) := ⟨hget, hz.1, by unfold PySem.W.notCls; rw [hv] <;> rfl, by rw [hz.2]; exact ho⟩
      have eu := hcv.eq rt
      subst eu
      exact PySem.W.kia_one (PySem.W.kitx_exc (by obtain ⟨cd, hc, _⟩ := PySem.W.any_some T.hd; rw [hc]; rfl) T.hg T.hk T.hs T.ha T.hn T.ht T.hm) I.kIn J e (fun z => nomatch z) fun tk => ⟨.bl b, H, I.kept (t' := tk) fun _ _ z => z, rfl, q⟩
/-- the written part says of a class D that it is (k) or is not under C -/
structure SubT (K : PySem.W.Frag) (D : Addr) (c : Value) (k : Bool) : Prop where
  kit : PySem.W.kitOne K (.ref D) c = some k
  exm : PySem.W.subIn K c (.type "BaseException") = some true → PySem.W.exmOne K (.ref D) c = some k
end
/-! ### C(e, .., k = v, ..), what is raised wished for at the caller's slots -/
section
variable {X : Cx} {CX : CXT} {k n j : Nat} {f C : Addr} {fd : FuncData} {ps ks : List Str} {sp : Sp} {x : Str} {p pos : Pos} {e : Expr} {es : List Expr} {kws : List Keyword} {t tk : TA} {g : List Value → List Value → List Value} {gV : List V → List V → List V}
def tMakeKS (C : Addr) (n m : Nat) (sp : Sp) (gV : List V → List V → List V) (E : L2.St → XK) (t tk : TA) : TE := fun σ H Q => t σ H fun vs H1 => tk σ H1 fun zs H2 => vs.length = n ∧ zs.length = m ∧
  ∀ y dy, H2 y = none → H2 dy = none → dy ≠ y → sp (gV (.ref y :: vs) zs) (upd (upd H2 dy (.own y)) y (.ins C dy [])) (fun v H3 => v = .non ∧ Q (.ref y) H3) (E σ)
theorem run_mkS {E : XK} {pins : List (Addr × Obj)} {σ : L2.St} {H : Hp} {s : Shared} {Q : VK} {us ws : List Value} {vs zs : List V} (M : Mk X.K C f) (F : FnOk X.prog X.w X.K X.mg X.base CX k f fd ps sp) (hr : Room (k + 1) X.A) (hb : KBn X.K fd ps (n + 1) ks g gV) (hx : PassesAt CX X σ E) (I : Inv X pins σ H s)
    (r : Vals vs us) (rz : Vals zs ws) (l1 : vs.length = n) (l2 : zs.length = ks.length) (h : ∀ y dy, H y = none → H dy = none → dy ≠ y → sp (gV (.ref y :: vs) zs) (upd (upd H dy (.own y)) y (.ins C dy [])) (fun v H2 => v = .non ∧ Q (.ref y) H2) E) :
    wpAny (model X.prog X.w) X.A (call (.ref C) us (ks.zip ws)) (EP X pins σ Q) X.xe s := by
  let y := s.heap.objs.size + 1
  have J := Inv.made (C := C) I
  have q := h y s.heap.objs.size (I.hok.fresh (Nat.le_succ _)) (I.hok.fresh (Nat.le_refl _)) (Nat.ne_of_lt (Nat.lt_succ_self _))
  have rs : Vals (V.ref y :: vs) (Value.ref y :: us) := .cons rfl r
  have len : (Value.ref y :: us).length = n + 1 := by rw [List.length_cons, ← r.length, l1]
  have run := F.run _ X.stack _ _ ⟨Value.ref y :: us, ks.zip ws⟩ (g (Value.ref y :: us) ws) _ _ E (hr.make C us (ks.zip ws)) (J.env0.make C us (ks.zip ws)) (hb.to _ (Value.ref y :: us) ws J.kIn len (rz.length.symm.trans l2)) (hb.rel rs rz) q
  refine wpAny_call (make_map (f := f) I.kIn M.makes M.init (beq_iff_eq.mp M.fn) (codeAny_mono run fun o s' z => ?_))
  match o, z with
  | .error u, z => exact hx pins _ _ u s' J z
  | .ok (.ret u), z =>
    obtain ⟨v, H', J', rv, rfl, z'⟩ := J.after z
    exact ⟨rv, V.ref y, H', J', rfl, z'⟩
  | .ok .next, z => exact z.elim
  | .ok .brk, z => exact z.elim
  | .ok .cont, z => exact z.elim
theorem pe_makeKS {E : L2.St → XK} (M : Mk X.K C f) (F : FnOk X.prog X.w X.K X.mg X.base CX k f fd ps sp) (hr : Room (k + 1) X.A) (hg : Gl X x) (hm : X.mg x = some (.ref C)) (hb : KBn X.K fd ps (n + 1) ks g gV) (hx : ∀ σ, PassesAt CX X σ (E σ)) (ha : PA X (e :: es) t) (hkw : PK X kws tk)
    (hall : (backToKw pos (keywordEach kws X.env)).all (·.1.isSome) = true := by rfl) (hks : (backToKw pos (keywordEach kws X.env)).filterMap (·.1) = ks := by rfl) (hdb : (x == ("__debug__" : Str)) = false := by decide)
    (he : starEach (e :: es) X.env = (false, eval e X.env) :: starEach es X.env := by rfl) (hpl : ((backTo pos (starEach (e :: es) X.env)).any (·.1) || (backToKw pos (keywordEach kws X.env)).any (·.1.isNone)) = false := by rfl) :
    PE X (.Call (.Name x p) (e :: es) kws pos) (tMakeKS C n ks.length sp gV E t tk) := by
  refine ⟨fun pins s σ H Q I h => wpAny_Call_Name_kw (ld_glob I hg hm ?_ hdb)⟩
  refine PySem.W.callWith_KW (h₀ := X.base) I.ok.mod.kin M.kp hall (thn (ha.run pos pins s σ H _ I h) fun us s1 ⟨vs, H1, I1, r, q⟩ => thn (hkw.run pos pins s1 σ H1 _ I1 q) fun ws s2 ⟨zs, H2, I2, rz, l1, l2, q2⟩ => ⟨I2.kIn, ?_⟩) hpl he
  rw [hks]
  exact run_mkS M F hr hb (hx σ) I2 r rz l1 l2 q2
/-- nothing is raised: no wish is asked -/
theorem passF {P : Program} {w : World} : Passes (L2.CX P w) X (fun _ _ _ => False) := fun _ _ _ _ _ _ _ h => by
  obtain ⟨_, _, _, _, _, _, _, _, _, _, _, _, z⟩ := h
  exact z.elim
/-- C(e, .., k = v, ..) by a class's own facts -/
theorem pe_klK (c : Kl X.K X.mg x C) {E : XK} (D : MtK CX X.prog X.w X.K X.mg X.base C "__init__" j (n + 1) ks ps sp) (hr : Room k X.A) (hj : j + 1 ≤ k) (hg : Gl X x) (hx : Passes CX X E) (ha : PA X (e :: es) t) (hkw : PK X kws tk)
    (hall : (backToKw pos (keywordEach kws X.env)).all (·.1.isSome) = true := by rfl) (hks : (backToKw pos (keywordEach kws X.env)).filterMap (·.1) = ks := by rfl) (hdb : (x == ("__debug__" : Str)) = false := by decide)
    (he : starEach (e :: es) X.env = (false, eval e X.env) :: starEach es X.env := by rfl) (hpl : ((backTo pos (starEach (e :: es) X.env)).any (·.1) || (backToKw pos (keywordEach kws X.env)).any (·.1.isNone)) = false := by rfl) :
    PE X (.Call (.Name x p) (e :: es) kws pos) (tMakeKS C n ks.length sp (fun vs zs => vs ++ zs) (fun _ => E) t tk) := by
  obtain ⟨f, fd, h1, h3, h4⟩ := D.ok
  exact pe_makeKS ⟨c.mks, h1.at_, h1.fn, c.kp⟩ h4 (hr.mono hj) hg c.gl h3 (fun σ pins H s u s' I z => hx pins σ H s u s' I z) ha hkw hall hks hdb he hpl
theorem pe_klKS (c : Kl X.K X.mg x C) {E : L2.St → XK} (D : MtK CX X.prog X.w X.K X.mg X.base C "__init__" j (n + 1) ks ps sp) (hr : Room k X.A) (hj : j + 1 ≤ k) (hg : Gl X x) (hx : ∀ σ, PassesAt CX X σ (E σ)) (ha : PA X (e :: es) t) (hkw : PK X kws tk)
    (hall : (backToKw pos (keywordEach kws X.env)).all (·.1.isSome) = true := by rfl) (hks : (backToKw pos (keywordEach kws X.env)).filterMap (·.1) = ks := by rfl) (hdb : (x == ("__debug__" : Str)) = false := by decide)
    (he : starEach (e :: es) X.env = (false, eval e X.env) :: starEach es X.env := by rfl) (hpl : ((backTo pos (starEach (e :: es) X.env)).any (·.1) || (backToKw pos (keywordEach kws X.env)).any (·.1.isNone)) = false := by rfl) :
    PE X (.Call (.Name x p) (e :: es) kws pos) (tMakeKS C n ks.length sp (fun vs zs => vs ++ zs) E t tk) := by
  obtain ⟨f, fd, h1, h3, h4⟩ := D.ok
  exact pe_makeKS ⟨c.mks, h1.at_, h1.fn, c.kp⟩ h4 (hr.mono hj) hg c.gl h3 hx ha hkw hall hks hdb he hpl
/-- what a making of C asks, with keywords -/
def MkK (C : Addr) (sp : Sp) (E : XK) (vs : List V) (H : Hp) (Q : VK) : Prop := ∀ y dy, H y = none → H dy = none → dy ≠ y → sp (.ref y :: vs) (upd (upd H dy (.own y)) y (.ins C dy [])) (fun v H2 => v = .non ∧ Q (.ref y) H2) E
theorem x_makeKS {σ : L2.St} {H : Hp} {Q : VK} {m : Nat} {E : L2.St → XK} (h : t σ H fun vs H1 => tk σ H1 fun zs H2 => vs.length = n ∧ zs.length = m ∧ MkI C sp (E σ) (vs ++ zs) H2 Q) : tMakeKS C n m sp (fun vs zs => vs ++ zs) E t tk σ H Q := h
end
end Sy

/-! An error's class whose __init__ stores one field: what its call gives. -/
namespace Sy
open PySem PySem.Spec PyProof.Rows L2
open PySem.W PySem.Calls
/-! ### the text of __init__ -/
def eA1 (f : Str) (p1 p2 : Pos) : Arguments := { posonlyargs := [], args := [{ arg := "self", annotation := none, pos := p1 }, { arg := f, annotation := none, pos := p2 }], vararg := none, kwonlyargs := [], kw_defaults := [], kwarg := none, defaults := [] }
def eB1 (f : Str) (q1 q2 q3 q4 : Pos) : List Stmt := [.Assign [.Attribute (.Name "self" q1) f q2] (.Name f q3) q4]
def eS1 (f : Str) : Scope := { kind := .function, names := [(PySem.Str.ofString "self", .local), (f, .local)], isGenerator := false, isCoroutine := false, more := [] }
/-- what is asked of the field's name -/
structure F1 (f : Str) : Prop where
  self : (f == ("self" : Str)) = false
  dbg : (f == ("__debug__" : Str)) = false
  bind : ∀ (qual : Str) (p1 p2 q1 q2 q3 q4 : Pos) (doc pm : Value) (an : Option Addr) (cdv ct : Value) (y v : Value), bindArgs (fnOf "__init__" qual (eA1 f p1 p2) (eB1 f q1 q2 q3 q4) (eS1 f) .none .none doc pm an cdv ct) ⟨[y, v], []⟩ = pure [(("self" : Str), y), (f, v)]
theorem F1.kind {f : Str} (ok : F1 f) : List.lookup f (eS1 f).names = some .local := by
  show List.lookup f [((PySem.Str.ofString "self"), NameKind.local), (f, .local)] = _
  rw [List.lookup_cons, ok.self, List.lookup_cons, beq_self_eq_true]
theorem F1.kind0 {f : Str} : List.lookup ("self" : Str) (eS1 f).names = some .local := rfl
/-- what the written part says of the class at C, over the built-in B -/
structure EcTxt (K : Frag) (mg : Str → Option Value) (x f qual : Str) (C : Addr) (newId : String) (bmB : List Value) : Prop where
  gC : mg x = some (.ref C)
  cls : ∃ nm q N bs bm sn sub ab col dd k0 k1 k2 k3 k5, K.lookup C = some (excClassObj nm q C N bs bm true sn sub ab col dd k0 k1 k2 k3 k5 newId) ∧ excTail bmB bm = true
  sa : findIn K (.ref C) "__setattr__" = some (some (.builtin "object.__setattr__"))
  ga : findIn K (.ref C) "__getattribute__" = some (some (.builtin "BaseException.__getattribute__"))
  gg : findIn K (.ref C) "__getattr__" = some none
  noF : findIn K (.ref C) f = some none
  kC : keepIn K (.ref C) = true
  exC : subIn K (.ref C) (.type "BaseException") = some true
  tyC : typeIn K (.ref C) = some (.type "type")
  hdC : hasDictIn K C = true
  fn : ∃ (fI : Addr) (oc : Value) (od : Option Addr) (doc pm : Value) (an : Option Addr) (cdv ct : Value) (osl : Array (Option Value)) (p1 p2 q1 q2 q3 q4 : Pos),
    findIn K (.ref C) "__init__" = some (some (.ref fI)) ∧ typeIn K (.ref fI) = some (.type "function") ∧
    K.lookup fI = some ⟨oc, od, .func (fnOf "__init__" qual (eA1 f p1 p2) (eB1 f q1 q2 q3 q4) (eS1 f) .none .none doc pm an cdv ct), osl⟩ ∧ codeIn K cdv qual = true
theorem one_le (v : Value) : [v].length ≤ sizeLine := by
  rw [sizeLine_eq]
  exact (by decide : 1 ≤ 16777216)
theorem ldL {M : Model} {s : Shared} {name : Str} {scope : Scope} {L a : Addr} {cd : Value} {m : Str → Option Value} {x : Str} {pos : Pos} {v : Value} {Q : Value → Shared → Prop} {A : Around} {E : Value → Shared → Prop} (hn : s.heap.Ns L m) (hv : m x = some v) (h : Q v s)
    (hk : scope.kind = .function) (hl : (envOfC name scope L a cd).kindOf x = some .local) (hd : (x == ("__debug__" : Str)) = false) :
    wpAny M A (eval (.Name x pos) (envOfC name scope L a cd)) Q E s := wpAny_Name (wpAny_loadName_local hk hl hn hv h) hd
section
variable {prog : Program} {w : World} {A : Around} {R : Result → Shared → Prop} {s : Shared} {K : Frag} {mg : Str → Option Value} {x f qual : Str} {C : Addr} {B newId initId : String} {bmB : List Value}
theorem EcTxt.over (T : EcTxt K mg x f qual C newId bmB) : excOver K C bmB = true := by
  obtain ⟨nm, q, N, bs, bm, sn, sub, ab, col, dd, k0, k1, k2, k3, k5, hC, hb⟩ := T.cls
  unfold excOver clsIn
  rw [hC]
  simp [hb]
theorem ec_init (T : EcTxt K mg x f qual C newId bmB) (SF : StoreFacts B bmB "object.__setattr__" "object") (ok : F1 f) {fI y t0 : Addr} {v : Value} (hI : findIn K (.ref C) "__init__" = some (some (.ref fI))) (X : K.In s.heap) (hlim : s.heap.NoLimit) (hx : s.heap.get? y = some (PySem.HandSPX.excO C t0)) (hroom : A.depth < recursionLimit)
    (hq : ∀ h' tk dx, (∀ b o, b ≠ y → s.heap.get? b = some o → h'.get? b = some o) → h'.get? y = some { cls := .ref C, dict := some dx, data := .fields #[.ref t0, .none, .none, .none, .bool false, .none] } → s.heap.objs.size ≤ dx → dx ≠ y →
      h'.Ns1 dx (fun z => if z = f then some v else none) → R (.ok (.ret .none)) { s with heap := h', toks := tk }) :
    codeAny (model prog w) A (.call (.ref fI) ⟨[.ref y, v], []⟩) R s := by
  obtain ⟨fI', oc, od, doc, pm, an, cdv, ct, osl, p1, p2, q1, q2, q3, q4, hI', _, ho, hcd⟩ := T.fn
  rw [hI] at hI'
  cases hI'
  obtain ⟨nm, q, N, bs, bm, sn, sub, ab, col, dd, k0, k1, k2, k3, k5, hC, hbm⟩ := T.cls
  have hcl : clsIn K C = some { name := nm, bases := bs, mro := .ref C :: bm, ns := N, qualname := q, hasDict := true, slotNames := sn, subclasses := sub, abstract := ab, collection := col, hasDel := false } := by unfold clsIn; rw [hC] <;> rfl
  have fn : (("self" : Str) == f) = false := by
    have e := ok.self
    rw [Bool.eq_false_iff] at e ⊢
    exact fun z => e (by rw [beq_iff_eq.mp z]; exact beq_self_eq_true _)
  refine Att.call_fn (binds := [("self", .ref y), (f, v)]) X hlim ho hcd hroom (BindsTo.of_eq (ok.bind ..)) (by
    show ([(("self" : Str), Value.ref y), (f, v)].all fun y => List.lookup y.fst (eS1 f).names == some NameKind.local || List.lookup y.fst (eS1 f).names == some NameKind.cell) = true
    simp [ok.kind, F1.kind0]) (fun s₁ IC => ?_) rfl rfl rfl
  obtain ⟨h₁, tk₁, rfl⟩ := IC.toInCall.same
  have k : ∀ b o, s.heap.get? b = some o → h₁.get? b = some o := IC.toInCall.keep
  have hn := IC.toInCall.ns
  have fne : ("self" : Str) ≠ f := by simpa using fn
  have kf : (envOfC qual (eS1 f) s.heap.objs.size fI cdv).kindOf f = some .local := ok.kind
  have k0 : (envOfC qual (eS1 f) s.heap.objs.size fI cdv).kindOf ("self" : Str) = some .local := rfl
  have bf : bindL (envOfC qual (eS1 f) s.heap.objs.size fI cdv).kindOf [(("self" : Str), Value.ref y), (f, v)] (fun _ => none) f = some v := by
    simp [bindL, kf]
  have b0 : bindL (envOfC qual (eS1 f) s.heap.objs.size fI cdv).kindOf [(("self" : Str), Value.ref y), (f, v)] (fun _ => none) ("self" : Str) = some (.ref y) := by
    simp [bindL, k0, kf, fne]
  have X₁ : K.In h₁ := X.keeps k
  have hy := k _ _ hx
  show wpAny _ _ (execs (eB1 f q1 q2 q3 q4) _) _ _ _
  refine wpAny_execs_cons (plainObj_wpAny_Assign_Attribute ?_)
  refine ldL hn bf (ldL hn b0 ?_ rfl k0 (by decide)) rfl kf ok.dbg
  refine set_plain X₁ (ox := PySem.HandSPX.excO C t0) (od := none) ⟨hy, rfl, rfl, trivial⟩ T.sa ?_
  refine osaB SF X₁ hy hcl T.over rfl (by unfold takerIn; rw [T.noF]; rfl) (fun h₃ tk₃ dx k₃ dn dne hy₃ hn₃ => ?_)
  have z : s.heap.objs.size < h₁.objs.size := hn.lt
  exact wpAny_execs_nil (hq h₃ tk₃ dx (fun b o hb e => k₃ b o hb (k b o e)) hy₃ (Nat.le_of_lt (Nat.lt_of_lt_of_le z dn)) dne hn₃)
theorem ec_made (T : EcTxt K mg x f qual C newId bmB) (FB : ExcBaseFacts B newId initId bmB) (SF : StoreFacts B bmB "object.__setattr__" "object") (ok : F1 f) {v : Value} (X : K.In s.heap) (hlim : s.heap.NoLimit) (hroom : A.depth + 1 < recursionLimit)
    (hq : ∀ h' tk e d, MadeE s.heap h' e C d (fun z => if z = f then some v else none) → R (.ok (.ret (.ref e))) { s with heap := h', toks := tk }) : codeAny (model prog w) A (.call (.ref C) ⟨[v], []⟩) R s := by
  obtain ⟨nm, q, N, bs, bm, sn, sub, ab, col, dd, k0, k1, k2, k3, k5, hC, hbm⟩ := T.cls
  obtain ⟨fI, oc, od, doc, pm, an, cdv, ct, osl, p1, p2, q1, q2, q3, q4, hI, tI, ho, hcd⟩ := T.fn
  obtain ⟨hp, g, dr, tk, os⟩ := s
  have k : ∀ b o, hp.get? b = some o → ((hp.push (kdv_tup [v])).push (PySem.HandSPX.excO C hp.objs.size)).get? b = some o := fun b o e => Heap.get?_push_of_some _ (Heap.get?_push_of_some _ e)
  have there : ((hp.push (kdv_tup [v])).push (PySem.HandSPX.excO C hp.objs.size)).get? (hp.objs.size + 1) = some (PySem.HandSPX.excO C hp.objs.size) := by heap_get
  refine PySem.HandSPX.call_own FB (fun Y => excTail_contains Y bm hbm) (X _ _ hC) (looks_findIn X hI) (fun self => bind_fn X self tI) (one_le v) ?_
  refine ec_init (s := ⟨(hp.push (kdv_tup [v])).push (PySem.HandSPX.excO C hp.objs.size), g, dr, tk, os⟩) T SF ok hI (X.keeps k) (hlim.keeps k) there hroom fun h' tk' dx keep obj dn dne hns => ?_
  have old : ∀ b o, hp.get? b = some o → h'.get? b = some o := fun b o e => keep b o (Nat.ne_of_lt (Nat.lt_succ_of_lt (Heap.lt_size e))) (k b o e)
  have z : hp.objs.size ≤ dx := by
    have q := dn
    simp only [Heap.size_push] at q
    omega
  exact ⟨rfl, hq h' tk' (hp.objs.size + 1) dx ⟨old, Nat.le_succ _, ⟨_, _, obj, rfl, rfl, rfl, rfl⟩, z, dne, hns⟩⟩
theorem ec_errC (T : EcTxt K mg x f qual C newId bmB) (FB : ExcBaseFacts B newId initId bmB) (SF : StoreFacts B bmB "object.__setattr__" "object") (ok : F1 f) : ErrC prog w K mg x C [f] :=
  ⟨T.gC, T.kC, T.exC, T.tyC, T.hdC, T.ga, T.gg, fun g hg => by rw [List.mem_singleton.mp hg]; exact T.noF, fun {A R s us} hl X hlim hroom hq => by
    match us, hl with
    | [v], _ =>
      refine ec_made T FB SF ok X hlim hroom fun h' tk e d M => hq h' tk e d ?_
      have e1 : (fun z => ([f].zip [v]).lookup z) = fun z => if z = f then some v else none := by
        funext z
        show List.lookup z [(f, v)] = _
        rw [List.lookup_cons]
        by_cases h : z = f
        · rw [if_pos h, h, beq_self_eq_true]
        · rw [if_neg h, show (z == f) = false by simpa using h]
          rfl
      rw [e1]
      exact M⟩
end
/-! ### the names that are used -/
theorem f1_text : F1 "text" := ⟨by decide +kernel, by decide +kernel, fun _ _ _ _ _ _ _ _ _ _ _ _ _ _ => rfl⟩
theorem f1_field : F1 "field" := ⟨by decide +kernel, by decide +kernel, fun _ _ _ _ _ _ _ _ _ _ _ _ _ _ => rfl⟩
theorem f1_at : F1 "at" := ⟨by decide +kernel, by decide +kernel, fun _ _ _ _ _ _ _ _ _ _ _ _ _ _ => rfl⟩
theorem f1_row : F1 "row" := ⟨by decide +kernel, by decide +kernel, fun _ _ _ _ _ _ _ _ _ _ _ _ _ _ => rfl⟩
theorem f1_move : F1 "move" := ⟨by decide +kernel, by decide +kernel, fun _ _ _ _ _ _ _ _ _ _ _ _ _ _ => rfl⟩
theorem f1_asks : F1 "asks" := ⟨by decide +kernel, by decide +kernel, fun _ _ _ _ _ _ _ _ _ _ _ _ _ _ => rfl⟩
theorem f1_what : F1 "what" := ⟨by decide +kernel, by decide +kernel, fun _ _ _ _ _ _ _ _ _ _ _ _ _ _ => rfl⟩
theorem f1_name : F1 "name" := ⟨by decide +kernel, by decide +kernel, fun _ _ _ _ _ _ _ _ _ _ _ _ _ _ => rfl⟩
theorem f1_content : F1 "content" := ⟨by decide +kernel, by decide +kernel, fun _ _ _ _ _ _ _ _ _ _ _ _ _ _ => rfl⟩
theorem f1_run : F1 "run" := ⟨by decide +kernel, by decide +kernel, fun _ _ _ _ _ _ _ _ _ _ _ _ _ _ => rfl⟩
theorem f1_standing : F1 "standing" := ⟨by decide +kernel, by decide +kernel, fun _ _ _ _ _ _ _ _ _ _ _ _ _ _ => rfl⟩
theorem f1_reading : F1 "reading" := ⟨by decide +kernel, by decide +kernel, fun _ _ _ _ _ _ _ _ _ _ _ _ _ _ => rfl⟩
theorem f1_index : F1 "index" := ⟨by decide +kernel, by decide +kernel, fun _ _ _ _ _ _ _ _ _ _ _ _ _ _ => rfl⟩
end Sy

/-! What the top has written of errors, tables and properties; texts in tables; fields of what changes. -/
namespace Sy
open PySem PySem.Spec PyProof.Rows L2
section
open PySem.W
/-- an error's class, as it stands in the written part -/
structure EcK (K : Frag) (x f qual : Str) (C : Addr) (newId : String) (bmB : List Value) : Prop where
  a : nsIn K mainGlobals x = some (some (.ref C))
  cls : ∃ nm q N bs bm sn sub ab col dd k0 k1 k2 k3 k5, K.lookup C = some (excClassObj nm q C N bs bm true sn sub ab col dd k0 k1 k2 k3 k5 newId) ∧ excTail bmB bm = true
  sa : findIn K (.ref C) "__setattr__" = some (some (.builtin "object.__setattr__"))
  ga : findIn K (.ref C) "__getattribute__" = some (some (.builtin "BaseException.__getattribute__"))
  gg : findIn K (.ref C) "__getattr__" = some none
  noF : findIn K (.ref C) f = some none
  kC : keepIn K (.ref C) = true
  exC : subIn K (.ref C) (.type "BaseException") = some true
  tyC : typeIn K (.ref C) = some (.type "type")
  hdC : hasDictIn K C = true
  fn : ∃ (fI : Addr) (oc : Value) (od : Option Addr) (doc pm : Value) (an : Option Addr) (cdv ct : Value) (osl : Array (Option Value)) (p1 p2 q1 q2 q3 q4 : Pos),
    findIn K (.ref C) "__init__" = some (some (.ref fI)) ∧ typeIn K (.ref fI) = some (.type "function") ∧
    K.lookup fI = some ⟨oc, od, .func (fnOf "__init__" qual (eA1 f p1 p2) (eB1 f q1 q2 q3 q4) (eS1 f) .none .none doc pm an cdv ct), osl⟩ ∧ codeIn K cdv qual = true
theorem EcK.txt {K : Frag} {mg : Str → Option Value} {h : Heap} {x f qual : Str} {C : Addr} {newId : String} {bmB : List Value} (T : EcK K x f qual C newId bmB) (X : K.In h) (G : h.Ns mainGlobals mg) : EcTxt K mg x f qual C newId bmB :=
  ⟨mg_of X G T.a, T.cls, T.sa, T.ga, T.gg, T.noF, T.kC, T.exC, T.tyC, T.hdC, T.fn⟩
theorem eck_mk {K : Frag} {x f qual : Str} {C : Addr} {newId : String} {bmB : List Value} {nm q : Str} {N : Addr} {bs bm : List Value} {sn : List Str} {sub : List Value} {ab : Bool} {col : Option Bool} {dd : Option Addr} {k0 k1 k2 k3 k5 : Option Value}
    {fI : Addr} {oc : Value} {od : Option Addr} {doc pm : Value} {an : Option Addr} {cdv ct : Value} {osl : Array (Option Value)} {p1 p2 q1 q2 q3 q4 : Pos} (a : nsIn K mainGlobals x = some (some (.ref C)))
    (l : K.lookup C = some (excClassObj nm q C N bs bm true sn sub ab col dd k0 k1 k2 k3 k5 newId)) (t : excTail bmB bm = true) (sa : findIn K (.ref C) "__setattr__" = some (some (.builtin "object.__setattr__")))
    (ga : findIn K (.ref C) "__getattribute__" = some (some (.builtin "BaseException.__getattribute__"))) (gg : findIn K (.ref C) "__getattr__" = some none) (no : findIn K (.ref C) f = some none) (kC : keepIn K (.ref C) = true) (ex : subIn K (.ref C) (.type "BaseException") = some true)
    (ty : typeIn K (.ref C) = some (.type "type")) (hd : hasDictIn K C = true) (i : findIn K (.ref C) "__init__" = some (some (.ref fI))) (ti : typeIn K (.ref fI) = some (.type "function"))
    (lf : K.lookup fI = some ⟨oc, od, .func (fnOf "__init__" qual (eA1 f p1 p2) (eB1 f q1 q2 q3 q4) (eS1 f) .none .none doc pm an cdv ct), osl⟩) (c : codeIn K cdv qual = true) : EcK K x f qual C newId bmB :=
  ⟨a, ⟨nm, q, N, bs, bm, sn, sub, ab, col, dd, k0, k1, k2, k3, k5, l, t⟩, sa, ga, gg, no, kC, ex, ty, hd, ⟨fI, oc, od, doc, pm, an, cdv, ct, osl, p1, p2, q1, q2, q3, q4, i, ti, lf, c⟩⟩
theorem EcTxt.xf {K : Frag} {mg : Str → Option Value} {x f qual : Str} {C : Addr} {newId : String} {bmB : List Value} (T : EcTxt K mg x f qual C newId bmB) : XfC K C := ⟨T.ga, T.gg, T.exC, T.hdC⟩
theorem ise_mk {K : Frag} {D : Addr} (hg : findIn K (.ref D) "__getattribute__" = some (some (.builtin "BaseException.__getattribute__"))) (hk : findIn K (.ref D) "__getattr__" = some none) (hs : subIn K (.ref D) (.type "BaseException") = some true) (hd : hasDictIn K D = true)
    (ha : findIn K (.ref D) "__class__" = some (some (.builtin "object.__class__"))) (hn : specialIn K (.builtin "object.__class__") "__get__" = some (some (.builtin "getset_descriptor.__get__"))) (ht : takesIn K (.builtin "object.__class__") = some true) (hm : mroIn K D (.type "object") = some true) : IsE K D :=
  ⟨hg, hk, hs, hd, ha, hn, ht, hm⟩
/-- D is (or is not) under the own class C, for isinstance and for an except clause -/
theorem subt_own {K : Frag} {D C : Addr} {k : Bool} (hs : subIn K (.ref D) (.ref C) = some k) (hi : isClsIn K C = true) (ht : typeIn K (.ref C) = some (.type "type")) (hd : hasDictIn K C = true) (hk : k = false → (Value.ref D == Value.ref C) = false) : SubT K D (.ref C) k := by
  refine ⟨?_, fun hb => exm_ref hb hd ht hs⟩
  unfold kitOne
  by_cases e : (Value.ref D == Value.ref C) = true
  · rw [if_pos e]
    cases k with
    | true => rfl
    | false => rw [hk rfl] at e; cases e
  · rw [if_neg e]
    show (if ((clsIn K C).isSome && typeIn K (.ref C) == some (.type "type")) = true then subIn K (.ref D) (.ref C) else none) = some k
    have hi' : (clsIn K C).isSome = true := hi
    rw [ht, hi', hs]
    rfl
theorem subt_ty {K : Frag} {D : Addr} {T : String} {k : Bool} (hs : subIn K (.ref D) (.type T) = some k) (hm : kitMeta T = true) : kitOne K (.ref D) (.type T) = some k := by
  unfold kitOne
  rw [if_neg (by simp)]
  show (if kitMeta T = true then subIn K (.ref D) (.type T) else none) = some k
  rw [if_pos hm, hs]
/-- a written table of texts -/
theorem ktup_mk {K : Frag} {a : Addr} {o : Obj} {its : Array Value} {n : Nat} {xs : List V} (l : K.lookup a = some o) (c : o.cls = .type "tuple") (d : o.data = .seq its n) (z : its.size ≤ 100000) (r : Vals xs its.toList) : ∀ H, SqT K H a xs :=
  fun _ => .inr ⟨o, its, n, l, c, d, sz_of z, r⟩
/-- a property of a class -/
structure PrF (K : Frag) (C : Addr) (f qual : Str) (st : Stmt) : Prop where
  ok : ∃ (p g : Addr) (rest : List Value) (oc : Value) (od : Option Addr) (kV doc pm : Value) (an : Option Addr) (cdv ct : Value) (osl : Array (Option Value)),
    PropOf K C f p g ∧ recIn K p "property" = some (.ref g :: rest) ∧ K.lookup g = some ⟨oc, od, .func (fnOf f qual (defArgs st) (defBody st) (defScope st) .none kV doc pm an cdv ct), osl⟩ ∧ codeIn K cdv qual = true ∧ keepIn K (.ref g) = true
theorem prf_mk {K : Frag} {C : Addr} {f qual : Str} {st : Stmt} {p g : Addr} {rest : List Value} {oc : Value} {od : Option Addr} {kV doc pm : Value} {an : Option Addr} {cdv ct : Value} {osl : Array (Option Value)} (a : findIn K (.ref C) f = some (some (.ref p)))
    (b : specialIn K (.ref p) "__get__" = some (some (.builtin "property.__get__"))) (c : takesIn K (.ref p) = some true) (d : recIn K p "property" = some (.ref g :: rest))
    (l : K.lookup g = some ⟨oc, od, .func (fnOf f qual (defArgs st) (defBody st) (defScope st) .none kV doc pm an cdv ct), osl⟩) (e : codeIn K cdv qual = true) (kp : keepIn K (.ref g) = true) : PrF K C f qual st :=
  ⟨⟨p, g, rest, oc, od, kV, doc, pm, an, cdv, ct, osl, ⟨a, b, c, rest, d⟩, d, l, e, kp⟩⟩
end
section
variable {X : Cx} {C : Addr} {x : Str} {pos : Pos}
theorem pe_en (h : X.mg x = some (.ref C)) (hg : Gl X x) (hd : (x == ("__debug__" : Str)) = false := by decide) : PE X (.Name x pos) (tC (.ref C)) := pe_glob hg h rfl hd
end
section
variable {B H : Hp} {M : List (Addr × HO)} {Q : VK} {K : PySem.W.Frag} {σ : L2.St}
/-- what is written to a field of one of the changing things -/
theorem x_sfdM {a C dx : Addr} {fs : List (Str × V)} {f : Str} {y : V} {N : Hp → Prop} {k : Nat} (w : Wd B M H) (hk : M[k]? = some (a, .ins C dx fs)) (c : Cls K C) (n : NoAttr K C f) (l : Nat.blt fs.length 1000 = true) (h : ∀ H', Wd B (M.set k (a, .ins C dx (putF f y fs))) H' → N H') :
    Sfd K f (.ref a) y H N := ⟨a, C, dx, fs, rfl, w.get hk, c, n, Nat.le_of_ble_eq_true l, h _ (w.set hk _)⟩
theorem flat_strs (xs : List Str) : (xs.map V.str).all flatV = true := by
  induction xs with
  | nil => rfl
  | cons x xs ih => exact ih
theorem eqV_str (a b : Str) : eqV (.str a) (.str b) = (a == b) := rfl
theorem inV_strs (z : Str) (xs : List Str) : inV (.str z) (xs.map V.str) = xs.contains z := by
  induction xs with
  | nil => rfl
  | cons x xs ih =>
    show (eqV (.str x) (.str z) || inV (.str z) (xs.map V.str)) = _
    rw [ih, List.contains_cons, eqV_str]
    congr 1
    exact Bool.eq_iff_iff.mpr ⟨fun h => by rw [beq_iff_eq.mp h]; exact beq_self_eq_true _, fun h => by rw [beq_iff_eq.mp h]; exact beq_self_eq_true _⟩
theorem x_inT {z : Str} {p : Addr} {xs : List Str} (h : SqT K H p (xs.map V.str)) (q : Q (.bl (xs.contains z)) H) : rIn K false (.str z) (.ref p) H Q :=
  ⟨p, xs.map V.str, rfl, .inr h, rfl, flat_strs xs, by rw [inV_strs]; exact q⟩
theorem x_inL {z : Str} {p : Addr} {xs : List Str} (h : SqL K H p (xs.map V.str)) (q : Q (.bl (xs.contains z)) H) : rIn K false (.str z) (.ref p) H Q :=
  ⟨p, xs.map V.str, rfl, .inl h, rfl, flat_strs xs, by rw [inV_strs]; exact q⟩
theorem x_ninT {z : Str} {p : Addr} {xs : List Str} (h : SqT K H p (xs.map V.str)) (q : Q (.bl (!xs.contains z)) H) : rIn K true (.str z) (.ref p) H Q :=
  ⟨p, xs.map V.str, rfl, .inr h, rfl, flat_strs xs, by rw [inV_strs]; exact q⟩
theorem x_ninL {z : Str} {p : Addr} {xs : List Str} (h : SqL K H p (xs.map V.str)) (q : Q (.bl (!xs.contains z)) H) : rIn K true (.str z) (.ref p) H Q :=
  ⟨p, xs.map V.str, rfl, .inl h, rfl, flat_strs xs, by rw [inV_strs]; exact q⟩
/-- a tuple of texts that stands behind B -/
def TupS (K : PySem.W.Frag) (B : Hp) (p : Addr) (xs : List Str) : Prop := ∀ H, Ex B H → SqT K H p (xs.map V.str)
theorem TupS.up {B' : Hp} {p : Addr} {xs : List Str} (h : TupS K B p xs) (e : Ex B B') : TupS K B' p xs := fun H z => h H (e.tr z)
theorem x_catT {a b : Addr} {xs ys : List V} (w : Wd B M H) (ha : SqT K H a xs) (hb : SqT K H b ys) (hx : xs ≠ []) (hy : ys ≠ []) (hz : Nat.ble (xs.length + ys.length) 100000 = true) (k : ∀ p B' H', Ex B B' → B' p = some (.tup (xs ++ ys)) → Wd B' M H' → Q (.ref p) H') : rCatT K (.ref a) (.ref b) H Q :=
  ⟨a, b, xs, ys, rfl, rfl, ha, hb, hx, sz_of (Nat.le_of_ble_eq_true hz), fun e => absurd e hy, fun _ p np => k p _ _ (Ex.new (w.free np)) upd_same (w.alloc np _)⟩
theorem tup_of {p : Addr} {xs : List Str} (h : B p = some (.tup (xs.map V.str))) : TupS K B p xs := fun _ e => st_of (e _ _ h)
theorem TupS.st {p : Addr} {xs : List Str} (h : TupS K B p xs) (w : Wd B M H) : SqT K H p (xs.map V.str) := h H w.ex
theorem x_raiseE {C : Addr} {fs : List Str} {W : WX} {ta : TA} {D : Ends} (h : ta σ H fun vs H1 => vs.length = fs.length ∧ ∀ d, H1 d = none → W (.ref C) (some d) σ (upd H1 d (.xd (fs.zip vs)))) : tRaiseE C fs W ta D σ H := h
theorem x_err {fs : List Str} {vs : List V} {N : Addr → Hp → Prop} (w : Wd B M H) (hl : vs.length = fs.length) (k : ∀ d B' H', Ex B B' → B' d = some (.xd (fs.zip vs)) → Wd B' M H' → N d H') : vs.length = fs.length ∧ ∀ d, H d = none → N d (upd H d (.xd (fs.zip vs))) :=
  ⟨hl, fun d nd => k d _ _ (Ex.new (w.free nd)) upd_same (w.alloc nd _)⟩
/-- s.split(t) -/
def rSpl : V → List V → Hp → VK → Prop := fun x xs H Q => ∃ a b, x = .str a ∧ xs = [.str b] ∧ (b.length == 0) = false ∧ a.length + 2 ≤ sizeLine ∧ rNewStrs (Txt.split a b) H Q
theorem mt_spl {X : Cx} : MtR X "str.split" rSpl := mt_split
theorem x_split (w : Wd B M H) {z b : Str} (hb : (b.length == 0) = false) (hl : z.length ≤ 50000) (k : ∀ p B' H', Ex B B' → B' p = some (.lst ((Txt.split z b).map V.str)) → Wd B' M H' → Q (.ref p) H') : rSpl (.str z) [.str b] H Q :=
  ⟨z, b, rfl, rfl, hb, sz_of (by omega), fun p np => k p _ _ (Ex.new (w.free np)) upd_same (w.alloc np _)⟩
end
end Sy

/-! a != b of an own instance whose class has == alone; str of a text. -/
namespace Sy
open PySem PySem.Spec PyProof.Rows L2
section
open PySem.W PySem.Calls Builtin
variable {prog : Program} {w : World} {A : Around} {E : Value → Shared → Prop} {s : Shared} {K : Frag} {x C f L : Addr} {h₀ : Heap} {m : Str → Option Value} {ox : Obj} {od : Option Obj} {b tb : Value}
/-- a builtin of the class, asked for by its name -/
theorem boundS {M : Model} {name : Str} {id : String} {B : String} {args : List Value} {Q : Option Value → Shared → Prop} (X : K.In s.heap) (I : InstAt s.heap x ox C od) (hs : findIn K (.ref C) name = some (some (.builtin id))) (S : Slot B name id)
    (h : wpAny M A (call (.builtin id) (.ref x :: args)) (fun v => Q (some v)) E s) : wpAny M A (callSpecialIfBound? (.ref x) name args) Q E s := by
  simp only [callSpecialIfBound?, bindSpecialIfBound?]
  refine wpAny_holding (wpAny_bind (wpAny_bind (wpAny_bind (I.type.here ((looks_findIn X hs).here ?_)))))
  simp only [S.bind]
  refine wpAny_bind (wpAny_askSetting (wpAny_ite ?_))
  have last : wpAny M A (call (.builtin id) ([.ref x] ++ args) >>= fun v => pure (some v)) Q E s := wpAny_bind (wpAny_mono h (fun _ _ z => wpAny_pure z) fun _ _ z => z)
  split
  · exact wpAny_bind (wpAny_pure (wpAny_pure last))
  · exact wpAny_tryCatch (wpAny_bind (wpAny_pure (wpAny_pure last)))
theorem ne_dflt {Q : Value → Shared → Prop} (hu : A.units + 1 < cLine) (F : Fr h₀ L s.heap m) (X₀ : K.In h₀) (I : InstAt s.heap x ox C od) (hb : Looks (model prog w) s.heap (typeOf b) tb) (hn : notFirst K C tb = true)
    (hne : findIn K (.ref C) "__ne__" = some (some (.builtin "object.__ne__"))) (hm : mroIn K C (.type "object") = some true) (hs : findIn K (.ref C) "__eq__" = some (some (.ref f))) (hf : isFn K (.ref f) = true)
    (h : wpAny (model prog w) A.in1 (call (.ref f) [.ref x, b]) (fun v s' => ∃ k, v = .bool k ∧ Q (.bool (!k)) s') E s) : wpAny (model prog w) A (richCompare .NotEq (.ref x) b) Q E s := by
  have X := X₀.keeps F.keep
  have one : wpAny (model prog w) A (tryCompare (.ref x) "__ne__" b) (fun r s' => ∃ v, r = some v ∧ Q v s') E s := by
    unfold tryCompare
    refine wpAny_bind (boundS X I hne PySem.F.cmp_object.ne (wpAny_call (codeAny_call_builtin PySem.F.cmp_object.ne.plain PySem.F.cmpEntry_ne ?_)))
    have sub : Looks (model prog w) s.heap (isInstance (.ref x) (.type "object")) true := I.type.andThen (looks_mroIn X hm)
    refine @check_slot (model prog w) _ _ s "object.__ne__" "object" "__ne__" (.ref x) [b] [] _ PySem.F.cmpKind_ne PySem.F.cmpSplit_ne sub (PySem.F.cmpArgs_ne _ _) ?_
    unfold Builtin.«object.__ne__»
    refine wpAny_bind (wpAny_of_eq (a := ((Value.ref x : Value), [b])) (by first | rfl | (simp only [slotArgs]; rfl)) ?_)
    refine wpAny_bind (wpAny_cRoomFor (by exact hu) ?_)
    refine wpAny_bind (ifBound_K X I hs hf (wpAny_mono h (fun v s' hv => ?_) fun _ _ e => e))
    obtain ⟨k, rfl, q⟩ := hv
    show wpAny _ _ (truthy (.bool k) >>= fun r => ret (.bool (!r))) _ _ _
    exact wpAny_bind (wpAny_truthy_bool (wpAny_pure (wpAny_pure ⟨_, rfl, q⟩)))
  unfold richCompare
  simp only [oneThing_ref]
  refine wpAny_holding (wpAny_bind (wpAny_cRoomFor (Nat.lt_of_succ_lt hu) ?_))
  refine wpAny_bind (I.type.here (wpAny_bind (hb.here ?_)))
  have last : ∀ (k : Option Value → Sem Value), (∀ v, k (some v) = pure v) → wpAny (model prog w) A (tryCompare (.ref x) "__ne__" b >>= k) Q E s := fun k hk => by
    refine wpAny_bind (wpAny_mono one (fun r s' z => ?_) fun _ _ e => e)
    obtain ⟨v, rfl, z⟩ := z
    rw [hk]
    exact wpAny_pure z
  by_cases c : (Value.ref C != tb) = true
  · have e : subIn K tb (.ref C) = some false := by
      have n := hn
      unfold notFirst at n
      have c' : (tb == Value.ref C) = false := by
        rw [Bool.eq_false_iff]
        intro z
        rw [beq_iff_eq.mp z] at c
        simp at c
      rw [c', Bool.false_or] at n
      exact beq_iff_eq.mp n
    rw [if_pos c]
    refine wpAny_bind ((looks_subIn X e).here ?_)
    rw [if_neg Bool.false_ne_true]
    exact last _ fun v => rfl
  · rw [if_neg c]
    refine wpAny_bind (wpAny_pure ?_)
    simp only [Bool.false_eq_true, if_false]
    exact last _ fun v => rfl
end
section
variable {X : Cx} {CX : CXT} {k j : Nat} {C : Addr} {ps : List Str} {sp : Sp} {E : XK} {x m : Str}
/-- what a != b asks of the class, which has no __ne__ of its own -/
structure NeT (K : PySem.W.Frag) (C : Addr) : Prop where
  hne : PySem.W.findIn K (.ref C) "__ne__" = some (some (.builtin "object.__ne__"))
  hm : PySem.W.mroIn K C (.type "object") = some true
theorem net_mk {K : PySem.W.Frag} {C : Addr} (hne : PySem.W.findIn K (.ref C) "__ne__" = some (some (.builtin "object.__ne__"))) (hm : PySem.W.mroIn K C (.type "object") = some true) : NeT K C := ⟨hne, hm⟩
/-- a != y by the class's ==, which answers by a truth value -/
def rNeD (K : PySem.W.Frag) (C : Addr) (sp : Sp) (E : XK) : R2 := fun x y H Q => ∃ a dx fs t, x = .ref a ∧ H a = some (.ins C dx fs) ∧ TyX K H y t ∧ PySem.W.notFirst K C t = true ∧ sp [x, y] H (fun v H' => ∃ b, v = .bl b ∧ Q (.bl (!b)) H') E
theorem cmp_neD {K : PySem.W.Frag} (D : Mt CX X.prog X.w K X.mg X.base C "__eq__" j ps sp) (T : NeT K C) (hr : Room k X.A) (hj : j + 1 ≤ k) (hx : Passes CX X E) (ho : compareOp .NotEq = richCompare .NotEq := by rfl) (eK : K = X.K := by rfl) : OpR X (compareOp .NotEq) (rNeD K C sp E) := by
  subst eK
  obtain ⟨f, fd, h1, hb, F⟩ := D.ok
  intro pins s σ H x y v u Q I rx ry hq
  obtain ⟨a, dx, fs, t, rfl, ha, ty, nf, q⟩ := hq
  cases rx
  obtain ⟨mA, J, _⟩ := ins_get I.hok ha
  obtain ⟨od, J, _⟩ := J.look
  obtain ⟨m', hF⟩ := I.fr
  obtain ⟨P, kx, hP, _⟩ := kit_of I ry ty
  have hA : X.A.in1.frames = X.A.frames := rfl
  rw [ho]
  refine ne_dflt (by have := hr.units; omega) hF I.ok.mod.kin J (kx.ty _ _ I.kIn hP) nf T.hne T.hm h1.at_ h1.fn (wpAny_mono (run_at hA F ((hr.mono hj).in1) hb hx I (show Vals [V.ref a, y] [Value.ref a, u] from .cons rfl (.cons ry .nil)) q) (fun w s' z => ?_) fun _ _ z => z)
  obtain ⟨v, H', I', r, b, rfl, q'⟩ := z
  cases r
  exact ⟨b, rfl, .bl (!b), H', I', rfl, q'⟩
def rStrS : List V → Hp → VK → Prop := fun xs H Q => ∃ a, xs = [.str a] ∧ Q (.str a) H
theorem c_strS : CallR X (.type "str") rStrS := SkE.call_str_str
theorem x_strS {a : Str} {H : Hp} {Q : VK} (h : Q (.str a) H) : rStrS [.str a] H Q := ⟨a, rfl, h⟩
end
/-- the property f of the class at C keeps its promise -/
structure Pt (CX : CXT) (P : Program) (w : World) (K : PySem.W.Frag) (mg : Str → Option Value) (base : Heap) (C : Addr) (f : Str) (k : Nat) (ps : List Str) (sp : Sp) : Prop where
  ok : ∃ (p g : Addr) (fd : FuncData), PropOf K C f p g ∧ Binds K fd ps [] ∧ FnOk P w K mg base CX k g fd ps sp
theorem pt_mk {CX : CXT} {P : Program} {w : World} {K : PySem.W.Frag} {mg : Str → Option Value} {base : Heap} {f qual : Str} {C : Addr} {st : Stmt} {k : Nat} {ps : List Str} {sp : Sp} (a : PrF K C f qual st) (hb : ∀ {g : Addr} {fd : FuncData}, Fun K f qual st g fd → Binds K fd ps [])
    (ok : ∀ {g : Addr} {fd : FuncData}, Fun K f qual st g fd → FnOk P w K mg base CX k g fd ps sp) : Pt CX P w K mg base C f k ps sp := by
  obtain ⟨p, g, rest, oc, od, kV, doc, pm, an, cdv, ct, osl, h1, h2, h3, h4, h5⟩ := a.ok
  have F := fun_mk (st := st) h3 h4 h5
  exact ⟨⟨p, g, _, h1, hb F, ok F⟩⟩
section
variable {X : Cx} {CX : CXT} {k j : Nat} {C : Addr} {ps : List Str} {sp : Sp} {E : XK} {x f : Str} {e : Expr} {ta : TE} {pos : Pos}
theorem pe_pt (he : PE X e ta) (c : Kl X.K X.mg x C) (D : Pt CX X.prog X.w X.K X.mg X.base C f j ps sp) (hr : Room k X.A) (hj : j + 1 ≤ k) (hx : Passes CX X.nox E) (hab : attributeBase e f X.env (eval e X.env) = eval e X.env := by rfl) : PE X (.Attribute e f pos) (tProp C sp [] E ta) := by
  obtain ⟨p, g, fd, h1, h2, h3⟩ := D.ok
  exact pe_prop he c.ic.cl h1 h3 (hr.mono hj) h2 .nil hx hab
theorem x_prop {σ : L2.St} {H : Hp} {Q : VK} (h : ta σ H fun x H1 => ∃ a dx fs, x = .ref a ∧ H1 a = some (.ins C dx fs) ∧ sp [.ref a] H1 Q E) : tProp C sp [] E ta σ H Q := h
end
end Sy

/-! Written dicts, extend, tables of texts. -/
namespace Sy
open PySem PySem.Spec PyProof.Rows L2
section
variable {B B2 H H2 : Hp} {M : List (Addr × HO)} {Q : VK} {K : PySem.W.Frag} {σ : L2.St} {trs : List (TE × TE)} {p : Addr} {ps : List (V × V)}
def DispE (p : Addr) (ps : List (V × V)) (H2 : Hp) (Q : VK) : Prop := H2 p = some (.dK []) ∧ ∃ kvs : List (Key × V), ps = kvs.map (fun kv => (kV kv.1, kv.2)) ∧ kvs.length ≤ 15 ∧ Q (.ref p) (upd H2 p (.dK (mergeK [] kvs)))
theorem x_disp (w : Wd B M H) (h : ∀ p H', Wd B ((p, .dK []) :: M) H' → tPairs trs σ H' fun ps H2 => DispE p ps H2 Q) : tDisp trs σ H Q := fun p np => h p _ (w.allocM np _)
theorem x_dispE (kvs : List (Key × V)) (w : Wd B2 ((p, .dK []) :: M) H2) (e : ps = kvs.map (fun kv => (kV kv.1, kv.2))) (hl : kvs.length ≤ 15) (k : ∀ B3 H', Ex B2 B3 → B3 p = some (.dK (mergeK [] kvs)) → Wd B3 M H' → Q (.ref p) H') : DispE p ps H2 Q := by
  have w2 := w.set (k := 0) rfl (.dK (mergeK [] kvs))
  exact ⟨w.mu _ List.mem_cons_self, kvs, e, hl, k _ _ w2.fz upd_same w2.freeze⟩
theorem x_ppc {tk tv : TE} {r : List (TE × TE)} {Q : List (V × V) → Hp → Prop} (h : tk σ H fun k H1 => tv σ H1 fun v H2 => tPairs r σ H2 fun ps H3 => Q ((k, v) :: ps) H3) : tPairs ((tk, tv) :: r) σ H Q := h
theorem x_ppn {Q : List (V × V) → Hp → Prop} (h : Q [] H) : tPairs [] σ H Q := h
def DGt (x y : V) (H : Hp) (Q : VK) : Prop := ∃ a v, x = .ref a ∧ DGet H a y (some v) ∧ Q v H
theorem x_dget {td ty : TE} (h : td σ H fun x H1 => ty σ H1 fun y H2 => DGt x y H2 Q) : tDGet td ty σ H Q := h
theorem x_dgt {d : Addr} {kvs : List (Key × V)} {k : Str} {v : V} (h : H d = some (.dK kvs)) (e : valV kvs (Sum.inr k) = some v) (q : Q v H) : DGt (.ref d) (.str k) H Q := by
  have g := DGet.k (k := Sum.inr k) h
  rw [e] at g
  exact ⟨d, v, rfl, g, q⟩
theorem x_extend (w : Wd B M H) {l b : Addr} {xs zs : List V} {k : Nat} (hk : M[k]? = some (l, .lst xs)) (hb : H b = some (.lst zs)) (hl : xs.length + zs.length ≤ 100000) (h : ∀ H', Wd B (M.set k (l, .lst (xs ++ zs))) H' → Q .non H') : rExtend (.ref l) [.ref b] H Q :=
  ⟨l, b, xs, zs, rfl, rfl, w.get hk, hb, sz_of hl, h _ (w.set hk _)⟩
theorem map_getS {xs : List Str} {i : Nat} {x : V} (h : (xs.map V.str)[i]? = some x) : ∃ z, x = .str z ∧ xs[i]? = some z := by
  rw [List.getElem?_map] at h
  cases e : xs[i]? with
  | none => rw [e] at h; cases h
  | some n => rw [e] at h; exact ⟨n, (Option.some.inj h).symm, rfl⟩
theorem take_map_succ {α β : Type} {f : α → β} {xs : List α} {i : Nat} {x : α} (h : xs[i]? = some x) : (xs.take (i + 1)).map f = (xs.take i).map f ++ [f x] := by
  rw [List.take_succ, h, List.map_append]
  rfl
end
end Sy

/-! None asked for; repr of a truth value; small tuples compared; an error caught by its class. -/
namespace Sy
open PySem PySem.Spec PyProof.Rows L2
section
variable {X : Cx}
def rIsN : R2 := fun x y H Q => y = .non ∧ Q (.bl (decide (x = .non))) H
theorem op_isNone : OpR X (compareOp .Is) rIsN := op_isN
def rNotN : R2 := fun x y H Q => y = .non ∧ Q (.bl (!decide (x = .non))) H
theorem op_notNone : OpR X (compareOp .IsNot) rNotN := op_notN
def rReprB : List V → Hp → VK → Prop := fun xs H Q => ∃ b, xs = [.bl b] ∧ Q (.str (if b = true then "True" else "False")) H
theorem c_reprB : CallR X (.builtin "repr") rReprB := by
  intro pins s σ H xs us Q I r h
  obtain ⟨b, rfl, q⟩ := h
  obtain ⟨u, rfl, ru⟩ := vals1 r
  cases ru
  exact PySem.P.repr_of_bool ⟨.str _, H, I.tok _, ⟨_, rfl⟩, q⟩
end
section
variable {H : Hp} {Q : VK} {K : PySem.W.Frag} {σ : L2.St} {z : Str} {a b : Addr} {ta : TE}
theorem x_isNs (h : Q (.bl false) H) : rIsN (.str z) .non H Q := ⟨rfl, h⟩
theorem x_isNn (h : Q (.bl true) H) : rIsN .non .non H Q := ⟨rfl, h⟩
theorem x_notNs (h : Q (.bl true) H) : rNotN (.str z) .non H Q := ⟨rfl, h⟩
theorem x_notNn (h : Q (.bl false) H) : rNotN .non .non H Q := ⟨rfl, h⟩
theorem x_reprB {k : Bool} (h : Q (.str (if k = true then "True" else "False")) H) : rReprB [.bl k] H Q := ⟨k, rfl, h⟩
theorem shT1 (h : PyData.strOk z = true) : SeqAt.shaped (.tuple [.str z]) = true := by
  have e : PyData.canLay0 (.tuple [.str z]) = true := by
    simp only [PyData.canLay0, PyData.canLayAll0, Bool.and_true]
    exact h
  unfold SeqAt.shaped
  rw [e, Bool.true_and]
  exact decide_eq_true (by show PyData.depth (.tuple [.str z]) ≤ 64; simp [PyData.depth, PyData.depthAll])
theorem x_eqT1 (hz : PyData.strOk z = true) (h1 : SqT K H a [.str z]) (h2 : SqT K H b [.str z]) (q : Q (.bl true) H) : rEqD K (.ref a) (.ref b) H Q :=
  ⟨.tuple [.str z], .tuple [.str z], .tup h1 (.cons (.str z) .nil), .tup h2 (.cons (.str z) .nil), shT1 hz, shT1 hz, by rw [SeqAt.eqv_refl _ (SeqAt.canLay_of_shaped (shT1 hz))]; exact q⟩
theorem x_neSame {x : V} (h : (∃ z, x = .str z) ∨ x = .non) (q : Q (.bl false) H) : rNe x x H Q := by
  obtain ⟨z, rfl⟩ | rfl := h
  · refine ⟨rfl, ?_⟩
    rw [decide_eq_true rfl]
    exact q
  · refine ⟨rfl, ?_⟩
    rw [decide_eq_true rfl]
    exact q
theorem x_as {c : Value} {i : Nat} {ts : Addr → Value → Option Addr → TS} {Wout : WX} {D : Ends} {cls : Value} {d : Option Addr} (e : PySem.W.exmOne K cls c = some true)
    (h : ∀ a, H a = none → ts a cls d { nx := fun σ' H' => D.nx (σ'.set i none) H', rt := D.rt, bk := fun σ' H' => D.bk (σ'.set i none) H', ct := fun σ' H' => D.ct (σ'.set i none) H' } (σ.set i (some (.ref a))) H) : WE (wAs K c i ts Wout D) σ cls d H :=
  ⟨true, e, fun _ => h, fun q => nomatch q⟩
def Xf (a : Addr) (cls : Value) (d : Option Addr) (C : Addr) (f : Str) (x : V) (H1 : Hp) (Q : VK) : Prop := x = .ref a ∧ cls = .ref C ∧ ∃ (dd : Addr) (fs : List (Str × V)) (v : V), d = some dd ∧ H1 dd = some (.xd fs) ∧ fs.lookup f = some v ∧ Q v H1
theorem x_xf {cls : Value} {d : Option Addr} {C : Addr} {f : Str} (h : ta σ H fun x H1 => Xf a cls d C f x H1 Q) : tXf a cls d C f ta σ H Q := h
theorem x_xfd {dd C : Addr} {fs : List (Str × V)} {f : Str} {v : V} (h : H dd = some (.xd fs)) (l : fs.lookup f = some v) (q : Q v H) : Xf a (.ref C) (some dd) C f (.ref a) H Q := ⟨rfl, rfl, dd, fs, v, rfl, h, l, q⟩
theorem x_isD {D dd : Addr} {fs : List (Str × V)} {c : V} {cv : Value} {k : Bool} (T : IsE K D) (h : H dd = some (.xd fs)) (hc : ClsV c cv) (e : PySem.W.kitOne K (.ref D) cv = some k) (q : Q (.bl k) H) : rIsD K a (.ref D) (some dd) [.ref a, c] H Q :=
  ⟨D, c, cv, k, dd, fs, rfl, T, rfl, rfl, h, hc, e, q⟩
end
end Sy

/-! A method whose keyword-only parameter is left out. -/
namespace Sy
open PySem PySem.Spec PyProof.Rows L2
/-- a method and the written values of its keyword-only parameters -/
structure MFD (K : PySem.W.Frag) (C : Addr) (m qual : Str) (st : Stmt) (kws : List (Str × V)) : Prop where
  ok : ∃ (f : Addr) (oc : Value) (od : Option Addr) (D : Addr) (doc pm : Value) (an : Option Addr) (cdv ct : Value) (osl : Array (Option Value)),
    PySem.W.findIn K (.ref C) m = some (some (.ref f)) ∧ PySem.W.isFn K (.ref f) = true ∧ K.lookup f = some ⟨oc, od, .func (PySem.W.fnOf m qual (defArgs st) (defBody st) (defScope st) .none (.ref D) doc pm an cdv ct), osl⟩ ∧ PySem.W.codeIn K cdv qual = true ∧ PySem.W.keepIn K (.ref f) = true ∧
    ∀ q ∈ kws, ∃ u, PySem.W.nsIn K D q.1 = some (some u) ∧ RelV q.2 u
theorem mfd_mk {K : PySem.W.Frag} {C : Addr} {m qual : Str} {st : Stmt} {x : Str} {v : V} {u : Value} {f : Addr} {oc : Value} {od : Option Addr} {D : Addr} {doc pm : Value} {an : Option Addr} {cdv ct : Value} {osl : Array (Option Value)} (a : PySem.W.findIn K (.ref C) m = some (some (.ref f))) (i : PySem.W.isFn K (.ref f) = true)
    (l : K.lookup f = some ⟨oc, od, .func (PySem.W.fnOf m qual (defArgs st) (defBody st) (defScope st) .none (.ref D) doc pm an cdv ct), osl⟩) (c : PySem.W.codeIn K cdv qual = true) (k : PySem.W.keepIn K (.ref f) = true) (n : PySem.W.nsIn K D x = some (some u)) (r : RelV v u) : MFD K C m qual st [(x, v)] :=
  ⟨⟨f, oc, od, D, doc, pm, an, cdv, ct, osl, a, i, l, c, k, fun q hq => by rw [List.mem_singleton.mp hq]; exact ⟨u, n, r⟩⟩⟩
/-- the method, its keyword-only parameters left out: they hold dvs -/
structure MtD (CX : CXT) (P : Program) (w : World) (K : PySem.W.Frag) (mg : Str → Option Value) (base : Heap) (C : Addr) (m : Str) (k : Nat) (n : Nat) (dvs : List V) (ps : List Str) (sp : Sp) : Prop where
  ok : ∃ (f : Addr) (fd : FuncData) (mv : List Value), Meth K C m f ∧ KBn K fd ps n [] (fun us _ => us ++ mv) (fun vs _ => vs ++ dvs) ∧ FnOk P w K mg base CX k f fd ps sp
theorem mtd_mk {CX : CXT} {P : Program} {w : World} {K : PySem.W.Frag} {mg : Str → Option Value} {base : Heap} {m qual : Str} {C : Addr} {st : Stmt} {k n : Nat} {x : Str} {v : V} {ps : List Str} {sp : Sp} (a : MFD K C m qual st [(x, v)])
    (hb : ∀ (D : Addr) (doc pm : Value) (an : Option Addr) (cdv ct : Value) (us mv ws : List Value), us.length = n → mv.length = 1 → ws.length = 0 → KwChain D (([x] : List Str).zip mv) (bindArgs (PySem.W.fnOf m qual (defArgs st) (defBody st) (defScope st) .none (.ref D) doc pm an cdv ct) ⟨us, ([] : List Str).zip ws⟩) (ps.zip (us ++ mv)))
    (ok : ∀ {f : Addr} {fd : FuncData}, Fun K m qual st f fd → FnOk P w K mg base CX k f fd ps sp) : MtD CX P w K mg base C m k n [v] ps sp := by
  obtain ⟨f, oc, od, D, doc, pm, an, cdv, ct, osl, h1, h2, h3, h4, h5, h6⟩ := a.ok
  have F := fun_mk (st := st) h3 h4 h5
  have FD : FunD K m qual (defArgs st) (defBody st) (defScope st) [] [(x, v)] f (PySem.W.fnOf m qual (defArgs st) (defBody st) (defScope st) .none (.ref D) doc pm an cdv ct) := ⟨⟨oc, od, .none, .ref D, doc, pm, an, cdv, ct, osl, rfl, h3, h4, .inl ⟨rfl, rfl⟩, .inr ⟨D, rfl, h6⟩⟩, h5⟩
  obtain ⟨mv, b⟩ := FD.kbinds0 (ps := ps) n [] [(x, v)] (fun vs mz _ => vs ++ mz) (by simp) (fun _ h => h) (fun r1 r2 _ => r1.append r2) hb
  exact ⟨⟨f, _, mv, ⟨h1, h2, h5⟩, b, ok F⟩⟩
section
variable {X : Cx} {CX : CXT} {k j n : Nat} {C : Addr} {ps : List Str} {dvs : List V} {sp : Sp} {x : Str} {p pos : Pos} {e : Expr} {es : List Expr} {t tk : TA}
theorem pe_klD (c : Kl X.K X.mg x C) {E : XK} (D : MtD CX X.prog X.w X.K X.mg X.base C "__init__" j (n + 1) dvs ps sp) (hr : Room k X.A) (hj : j + 1 ≤ k) (hg : Gl X x) (hx : Passes CX X E) (ha : PA X (e :: es) t) (hdb : (x == ("__debug__" : Str)) = false := by decide)
    (he : starEach (e :: es) X.env = (false, eval e X.env) :: starEach es X.env := by rfl) (hpl : ((backTo pos (starEach (e :: es) X.env)).any (·.1) || (backToKw pos (keywordEach [] X.env)).any (·.1.isNone)) = false := by rfl) :
    PE X (.Call (.Name x p) (e :: es) [] pos) (tMakeKS C n 0 sp (fun vs _ => vs ++ dvs) (fun _ => E) t tNil) := by
  obtain ⟨f, fd, mv, h1, h3, h4⟩ := D.ok
  exact pe_makeKS (ks := []) ⟨c.mks, h1.at_, h1.fn, c.kp⟩ h4 (hr.mono hj) hg c.gl h3 (fun σ pins H s u s' I z => hx pins σ H s u s' I z) ha pk_nil rfl rfl hdb he hpl
theorem x_makeKD {σ : L2.St} {H : Hp} {Q : VK} {E : XK} (h : t σ H fun vs H1 => vs.length = n ∧ MkI C sp E (vs ++ dvs) H1 Q) : tMakeKS C n 0 sp (fun vs _ => vs ++ dvs) (fun _ => E) t tNil σ H Q := by
  have e : (fun vs H1 => vs.length = n ∧ MkI C sp E (vs ++ dvs) H1 Q) = fun vs H1 => vs.length = n ∧ ([] : List V).length = 0 ∧ MkI C sp E (vs ++ dvs) H1 Q := by
    funext vs H1
    exact propext ⟨fun z => ⟨z.1, rfl, z.2⟩, fun z => ⟨z.1, z.2.2⟩⟩
  rw [e] at h
  exact h
end
section
variable {X : Cx} {K : PySem.W.Frag}
theorem op_inK (eK : K = X.K := by rfl) : OpR X (compareOp .In) (rIn K false) := by
  subst eK
  exact op_in_seq
theorem op_ninK (eK : K = X.K := by rfl) : OpR X (compareOp .NotIn) (rIn K true) := by
  subst eK
  exact op_notIn_seq
end
theorem pg_tupK {X : Cx} {K : PySem.W.Frag} {es : List Expr} {t : TGs} {k n : Nat} {pos : Pos} (hc : X.calm = true) (h : PGs X es t) (eK : K = X.K := by rfl) (hn : (assignEach es X.env).length = n := by rfl) (hst : (assignEach es X.env).findIdx? (·.1) = none := by rfl) : PG X (.Tuple es k pos) (gTup K n t) := by
  subst eK
  exact pg_tup hc h hn hst
end Sy

/-! Rows for the walk of a reading: «lk» finds what stands at a place, «s1» is one step, «sx» as many as there are. -/
local macro_rules | `(tactic| walk_at "lk") => `(tactic| first
  | assumption
  | exact Sy.Wd.get (k := 0) (by assumption) rfl
  | exact Sy.Wd.get (k := 1) (by assumption) rfl
  | exact Sy.Wd.get (k := 2) (by assumption) rfl
  | exact Sy.Wd.get (k := 3) (by assumption) rfl
  | exact Sy.Wd.get (k := 4) (by assumption) rfl
  | exact Sy.Wd.get (k := 5) (by assumption) rfl
  | exact Sy.Wd.get (k := 6) (by assumption) rfl
  | (refine' Sy.Wd.im (by assumption) ?hh; (case hh => walk_at "lk"))
  | (refine' Sy.Ex.up (by assumption) ?hh; (case hh => walk_at "lk")))
local macro_rules | `(tactic| walk_at "ex") => `(tactic| first
  | assumption
  | exact Sy.Ex.rf _
  | (refine' Sy.Ex.tr ?_ (by assumption); walk_at "ex"))
local macro_rules | `(tactic| walk_at "sl") => `(tactic| first
  | (refine' Sy.sl_of ?hh; (case hh => walk_at "lk"))
  | assumption
  | (refine' Sy.Ex.sl (Sy.Wd.ex (by assumption)) ?hh; (case hh => walk_at "sl"))
  | (refine' Sy.Ex.sl (by assumption) ?hh; (case hh => walk_at "sl")))
local macro_rules | `(tactic| walk_at "st") => `(tactic| first
  | (refine' Sy.st_of ?hh; (case hh => walk_at "lk"))
  | assumption
  | (refine' Sy.Ex.st (Sy.Wd.ex (by assumption)) ?hh; (case hh => walk_at "st"))
  | (refine' Sy.Ex.st (by assumption) ?hh; (case hh => walk_at "st")))
local macro_rules | `(tactic| walk_at "mul") => `(tactic| first
  | assumption
  | exact Sy.mul_r ⟨by decide, by decide⟩
  | exact Sy.mul_l ⟨by decide, by decide⟩
  | exact Sy.mul_r ⟨by omega, by omega⟩
  | exact Sy.mul_l ⟨by omega, by omega⟩)
local macro_rules | `(tactic| walk_at "side") => `(tactic| first
  | assumption
  | decide
  | walk_at "mul"
  | exact ⟨by assumption, by assumption⟩
  | exact ⟨by decide, by decide⟩
  | exact ⟨by decide, by decide, by decide⟩
  | omega)
local macro_rules | `(tactic| walk_at "s1") => `(tactic| first
  | with_reducible refine Sy.x_seq ?_
  | with_reducible refine Sy.x_asg ?_
  | with_reducible refine Sy.x_name ?_
  | with_reducible refine Sy.x_ret ?_
  | with_reducible refine Sy.x_ifS ?_
  | with_reducible refine Sy.x_drop ?_
  | with_reducible refine Sy.x_next ?_
  | with_reducible refine Sy.x_par ?_
  | with_reducible refine Sy.x_pr ?_
  | ((with_reducible refine' Sy.x_var ?hv ?_); (case hv => exact rfl))
  | with_reducible refine Sy.x_c ?_
  | with_reducible refine Sy.x_op ?_
  | with_reducible refine Sy.x_un ?_
  | with_reducible refine Sy.x_cb ?_
  | with_reducible refine Sy.x_nil ?_
  | with_reducible refine Sy.x_cons ?_
  | with_reducible refine Sy.x_if ?_
  | with_reducible refine Sy.x_andV ?_
  | with_reducible refine Sy.x_orV ?_
  | with_reducible refine Sy.x_notV ?_
  | with_reducible refine Sy.x_bl ?_
  | with_reducible refine Sy.x_tTest ?_
  | with_reducible refine Sy.x_tB ?_
  | with_reducible refine Sy.x_tAnd ?_
  | with_reducible refine Sy.x_tOr ?_
  | with_reducible refine Sy.x_tNot ?_
  | with_reducible refine Sy.x_call ?_
  | with_reducible refine Sy.x_I0 ?_
  | ((with_reducible refine' Sy.x_I ?hc ?_); (case hc => walk_at "side"))
  | with_reducible refine Sy.x_U ?_
  | with_reducible refine Sy.x_eqI ?_
  | with_reducible refine Sy.x_neI ?_
  | with_reducible refine Sy.x_tup ?_
  | with_reducible refine Sy.x_lst ?_
  | ((with_reducible refine' Sy.x_kt ?hw ?hl ?_); (case hw => assumption); (case hl => exact rfl); intro p' B' H' hEx hAt hWd)
  | ((with_reducible refine' Sy.x_ixL ?hp ?hx ?_); (case hp => walk_at "sl"); (case hx => first | exact rfl | assumption | exact Sy.atI_set (by assumption)))
  | ((with_reducible refine' Sy.x_ixT ?hp ?hx ?_); (case hp => walk_at "st"); (case hx => exact rfl))
  | with_reducible refine Sy.x_gSub ?_
  | ((with_reducible refine' Sy.x_setL ?hw ?hk ?hj ?_); (case hw => assumption); (case hk => first | exact (rfl : ([_] : List _)[0]? = _) | exact (show (_ :: _)[0]? = _ from rfl) | exact (show (_ :: _ :: _)[1]? = _ from rfl) | exact (show (_ :: _ :: _ :: _)[2]? = _ from rfl) | exact (show (_ :: _ :: _ :: _ :: _)[3]? = _ from rfl) | exact (show (_ :: _ :: _ :: _ :: _ :: _)[4]? = _ from rfl)); (case hj => first | assumption | exact Sy.ixN_set (by assumption) | exact rfl); intro H' hWd)
  | with_reducible refine Sy.x_fld ?_
  | ((with_reducible refine' Sy.x_fd ?h1 ?c ?n ?l ?_); (case h1 => walk_at "lk"); (case c => walk_at "cls"); (case n => walk_at "noat"); (case l => exact rfl))
  | with_reducible refine Sy.x_sFld ?_
  | ((with_reducible refine' Sy.x_sfd ?h1 ?c ?n ?l ?_); (case h1 => walk_at "lk"); (case c => walk_at "cls"); (case n => walk_at "noat"); (case l => exact rfl))
  | with_reducible refine Sy.x_make ?_
  | ((with_reducible refine' Sy.x_isi_o ?ic ?h1 ?_); (case ic => walk_at "insc"); (case h1 => walk_at "lk"))
  | with_reducible refine Sy.x_isi_ii ?_
  | with_reducible refine Sy.x_isi_ib ?_
  | with_reducible refine Sy.x_isi_bi ?_
  | with_reducible refine Sy.x_isi_bb ?_
  | with_reducible refine Sy.x_abs ?_
  | with_reducible refine Sy.x_intI ?_
  | with_reducible refine Sy.x_intB ?_
  | with_reducible refine Sy.x_max ?_
  | with_reducible refine Sy.x_min ?_
  | ((with_reducible refine' Sy.x_lenL ?hp ?_); (case hp => walk_at "sl"))
  | with_reducible refine Sy.i_t ?_
  | with_reducible refine Sy.i_f ?_
  | with_reducible refine Sy.i_nt ?_
  | with_reducible refine Sy.i_nf ?_)
local macro_rules | `(tactic| walk_at "s1") => `(tactic| first
  | with_reducible refine Sy.x_for ?_
  | with_reducible refine Sy.x_forr ?_
  | ((with_reducible refine' Sy.x_gTup ?hp ?hn ?_); (case hp => walk_at "st"); (case hn => exact rfl))
  | with_reducible refine Sy.x_gCons ?_
  | with_reducible refine Sy.x_gNil ?_
  | with_reducible refine Sy.x_par3 ?_
  | with_reducible refine Sy.x_pr3 ?_
  | with_reducible refine Sy.x_makeK ?_
  | ((with_reducible refine' Sy.x_len ?hl ?_); (case hl => exact rfl))
  | ((with_reducible refine' Sy.x_cat ?hw ?h1 ?h2 ?hl ?_); (case hw => assumption); (case h1 => walk_at "lk"); (case h2 => walk_at "lk"); (case hl => exact rfl); intro p' B' H' hEx hAt hWd)
  | ((with_reducible refine' Sy.i_dT ?he ?_); (case he => first | rfl | assumption | omega))
  | ((with_reducible refine' Sy.i_dF ?he ?_); (case he => omega))
  | ((with_reducible refine' Sy.i_ndT ?he ?_); (case he => first | rfl | assumption | omega))
  | ((with_reducible refine' Sy.i_ndF ?he ?_); (case he => omega)))
local macro_rules | `(tactic| walk_at "short") => `(tactic| first
  | assumption
  | exact Sy.short_num (by assumption)
  | exact Sy.short_of (n := 40) rfl
  | (refine' Sy.short_app ?h1 ?h2; (case h1 => walk_at "short"); (case h2 => walk_at "short")))
local macro_rules | `(tactic| walk_at "s1") => `(tactic| first
  | with_reducible refine Sy.x_fmt ?_
  | ((with_reducible refine' Sy.x_fmtI ?hz ?_); (case hz => assumption))
  | ((with_reducible refine' Sy.x_fmtS ?hz ?hn ?_); (case hz => walk_at "short"); (case hn => exact rfl))
  | with_reducible refine Sy.x_js ?_
  | with_reducible refine Sy.x_jsN ?_
  | ((with_reducible refine' Sy.x_js0 ?hz ?hn ?_); (case hz => walk_at "short"); (case hn => exact rfl))
  | ((with_reducible refine' Sy.x_jsS ?hz ?hn ?_); (case hz => walk_at "short"); (case hn => exact rfl))
  | ((with_reducible refine' Sy.x_addS ?h1 ?h2 ?hn ?_); (case h1 => walk_at "short"); (case h2 => walk_at "short"); (case hn => exact rfl))
  | ((with_reducible refine' Sy.x_strI ?hz ?_); (case hz => assumption))
  | with_reducible refine Sy.x_boolI ?_
  | with_reducible refine Sy.x_boolB ?_
  | with_reducible refine Sy.x_neB ?_
  | with_reducible refine Sy.x_eqB ?_
  | with_reducible refine Sy.x_eqS ?_
  | with_reducible refine Sy.x_neS ?_
  | with_reducible refine Sy.x_forz ?_)
local macro_rules | `(tactic| walk_at "s1") => `(tactic| first
  | with_reducible refine Sy.x_bm ?_
  | with_reducible refine Sy.x_bm0 ?_
  | ((with_reducible refine' Sy.x_tyL ?hp ?_); (case hp => walk_at "sl"))
  | with_reducible refine Sy.x_tyS ?_
  | with_reducible refine Sy.x_lc ?_
  | with_reducible refine Sy.x_yes ?_
  | ((with_reducible refine' Sy.x_aug ?hv ?_); (case hv => exact rfl))
  | with_reducible refine Sy.x_ip ?_
  | ((with_reducible refine' Sy.x_listL ?hp ?_); (case hp => walk_at "sl")))
local macro_rules | `(tactic| walk_at "tu") => `(tactic| first
  | assumption
  | (refine' Sy.TupS.up ?hh (by assumption); (case hh => walk_at "tu")))
local macro_rules | `(tactic| walk_at "s1") => `(tactic| first
  | ((with_reducible refine' Sy.x_split ?hw ?hb ?hl ?_); (case hw => assumption); (case hb => first | rfl | decide +kernel); (case hl => first | assumption | omega); intro p' B' H' hEx hAt hWd)
  | ((with_reducible refine' Sy.x_inT ?hp ?_); (case hp => walk_at "st"))
  | ((with_reducible refine' Sy.x_inL ?hp ?_); (case hp => walk_at "sl"))
  | ((with_reducible refine' Sy.x_ninT ?hp ?_); (case hp => walk_at "st"))
  | ((with_reducible refine' Sy.x_ninL ?hp ?_); (case hp => walk_at "sl"))
  | with_reducible refine Sy.x_isi_ss ?_
  | with_reducible refine Sy.x_makeKD ?_
  | with_reducible refine Sy.x_makeKS ?_
  | with_reducible refine Sy.x_raiseE ?_
  | with_reducible refine Sy.x_prop ?_
  | with_reducible refine Sy.x_isNs ?_
  | with_reducible refine Sy.x_isNn ?_
  | with_reducible refine Sy.x_notNs ?_
  | with_reducible refine Sy.x_notNn ?_
  | with_reducible refine Sy.x_reprB ?_
  | ((with_reducible refine' Sy.x_eqT1 ?hz ?h1 ?h2 ?_); (case hz => assumption); (case h1 => walk_at "st"); (case h2 => walk_at "st"))
  | with_reducible refine Sy.x_xf ?_
  | ((with_reducible refine' Sy.x_xfd ?h1 ?h2 ?_); (case h1 => walk_at "lk"); (case h2 => exact rfl))
  | ((with_reducible refine' Sy.x_disp ?hw ?_); (case hw => assumption); intro p' H' hWd)
  | with_reducible refine Sy.x_ppc ?_
  | with_reducible refine Sy.x_ppn ?_
  | with_reducible refine Sy.x_dget ?_
  | with_reducible refine Sy.x_strS ?_
  | ((with_reducible refine' Sy.x_err ?hw ?hl ?_); (case hw => assumption); (case hl => exact rfl); intro d' B' H' hEx hXd hWd))
local macro_rules | `(tactic| walk_at "s1") => `(tactic| ((with_reducible refine' Sy.x_sfdM (k := 0) ?hw ?hk ?c ?n ?l ?_); (case hw => assumption); (case hk => exact rfl); (case c => walk_at "cls"); (case n => walk_at "noat"); (case l => exact rfl); intro H' hWd))
local macro_rules | `(tactic| walk_at "sx") => `(tactic| repeat (walk_at "s1"))
/-! .. and lists that never change -/
local macro_rules | `(tactic| walk_at "si") => `(tactic| repeat (first
  | walk_at "s1"
  | ((with_reducible refine' Sy.x_kl ?hw ?hl ?_); (case hw => assumption); (case hl => exact rfl); intro p' B' H' hEx hAt hWd)
  | ((with_reducible refine' Sy.x_kn ?hw ?_); (case hw => assumption); intro p' B' H' hEx hAt hWd)))
local macro_rules | `(tactic| walk_at "al") => `(tactic| repeat' (first
  | with_reducible refine Sy.al_app ?_ ?_
  | with_reducible refine Sy.al_cons ?_ ?_
  | exact Sy.al_nil))


namespace My
open PySem PySem.Spec PyProof.Rows L2 Sy
def top (i : Nat) : Stmt := PySem.Challenge.pw_strayfiles_k06_statements_made.main.body.getD i (.Pass ⟨0, 0, 0, 0⟩)
/-- where the classes stand -/
structure Ad where
  no : Unit := ()
  Statement : Addr
  StrayfilesError : Addr
  BadStatement : Addr
  NoHandler : Addr
  SWEEP_ACTS : Addr
  READER_ACTS : Addr
  HAND_ACTS : Addr
  FILE_CONDITIONS : Addr
  ROW_CONDITIONS : Addr
  OWN_CONDITIONS : Addr
  FILE_ACTS : Addr
  MARK_ACTS : Addr
  OWN_ACTS : Addr
  MARK_CONDITIONS : Addr
  LOOKS : Addr
structure Txt (K : PySem.W.Frag) (mg : Str → Option Value) (Z : Ad) : Prop where
  nn : True
  c_Statement : Kl K mg "Statement" Z.Statement
  n_Statement_text : NoAttr K Z.Statement "text"
  n_Statement_word : NoAttr K Z.Statement "word"
  n_Statement_condition : NoAttr K Z.Statement "condition"
  ns_Statement_str : NsT K Z.Statement (.type "str")
  q_SWEEP_ACTS : Cn mg "SWEEP_ACTS" (.ref Z.SWEEP_ACTS) ∧ ∀ H, SqT K H Z.SWEEP_ACTS ((["touch", "strike", "mark", "unmark", "clear"] : List Str).map V.str)
  q_READER_ACTS : Cn mg "READER_ACTS" (.ref Z.READER_ACTS) ∧ ∀ H, SqT K H Z.READER_ACTS ((["touch", "read"] : List Str).map V.str)
  q_HAND_ACTS : Cn mg "HAND_ACTS" (.ref Z.HAND_ACTS) ∧ ∀ H, SqT K H Z.HAND_ACTS ((["put", "touch", "strike", "row", "done", "drop", "mark", "unmark"] : List Str).map V.str)
  q_FILE_CONDITIONS : Cn mg "FILE_CONDITIONS" (.ref Z.FILE_CONDITIONS) ∧ ∀ H, SqT K H Z.FILE_CONDITIONS ((["file", "nofile", "old", "young"] : List Str).map V.str)
  q_ROW_CONDITIONS : Cn mg "ROW_CONDITIONS" (.ref Z.ROW_CONDITIONS) ∧ ∀ H, SqT K H Z.ROW_CONDITIONS ((["rows", "norows", "named", "unnamed", "marked", "unmarked", "ripe", "unripe"] : List Str).map V.str)
  q_OWN_CONDITIONS : Cn mg "OWN_CONDITIONS" (.ref Z.OWN_CONDITIONS) ∧ ∀ H, SqT K H Z.OWN_CONDITIONS ((["mine", "notmine"] : List Str).map V.str)
  q_FILE_ACTS : Cn mg "FILE_ACTS" (.ref Z.FILE_ACTS) ∧ ∀ H, SqT K H Z.FILE_ACTS ((["put", "touch", "strike"] : List Str).map V.str)
  q_MARK_ACTS : Cn mg "MARK_ACTS" (.ref Z.MARK_ACTS) ∧ ∀ H, SqT K H Z.MARK_ACTS ((["mark", "unmark", "clear"] : List Str).map V.str)
  q_OWN_ACTS : Cn mg "OWN_ACTS" (.ref Z.OWN_ACTS) ∧ ∀ H, SqT K H Z.OWN_ACTS ((["row", "done", "drop"] : List Str).map V.str)
  q_MARK_CONDITIONS : Cn mg "MARK_CONDITIONS" (.ref Z.MARK_CONDITIONS) ∧ ∀ H, SqT K H Z.MARK_CONDITIONS ((["marked", "unmarked", "ripe", "unripe"] : List Str).map V.str)
  q_LOOKS : Cn mg "LOOKS" (.ref Z.LOOKS) ∧ ∀ H, SqT K H Z.LOOKS ((["stop", "skip", "again"] : List Str).map V.str)
  e_BadStatement : EcTxt K mg "BadStatement" "text" "BadStatement.__init__" Z.BadStatement "ValueError.__new__" [.type "ValueError", .type "Exception", .type "BaseException", .type "object"]
  g_NoHandler : mg "NoHandler" = some (.ref Z.NoHandler)
  i_BadStatement : IsE K Z.BadStatement
  s_BadStatement_NoHandler : SubT K Z.BadStatement (.ref Z.NoHandler) false
  sy_BadStatement_ValueError : PySem.W.kitOne K (.ref Z.BadStatement) (.type "ValueError") = some true
  g_BadStatement : mg "BadStatement" = some (.ref Z.BadStatement)
  s_BadStatement_BadStatement : SubT K Z.BadStatement (.ref Z.BadStatement) true
  g_StrayfilesError : mg "StrayfilesError" = some (.ref Z.StrayfilesError)
  s_BadStatement_StrayfilesError : SubT K Z.BadStatement (.ref Z.StrayfilesError) true
  xb_StrayfilesError : PySem.W.subIn K (.ref Z.StrayfilesError) (.type "BaseException") = some true
  ne_Statement : NeT K Z.Statement
  g_len : mg "len" = none
  g_abs : mg "abs" = none
  g_int : mg "int" = none
  g_str : mg "str" = none
  g_isinstance : mg "isinstance" = none
  g_ValueError : mg "ValueError" = none
  g_repr : mg "repr" = none
  g_range : mg "range" = none
  g_min : mg "min" = none
  g_max : mg "max" = none
local macro_rules | `(tactic| walk_at "cls") => `(tactic| exact (My.Txt.c_Statement (by assumption)).ic.cl)
local macro_rules | `(tactic| walk_at "insc") => `(tactic| exact (My.Txt.c_Statement (by assumption)).ic)
local macro_rules | `(tactic| walk_at "ns") => `(tactic| exact My.Txt.ns_Statement_str (by assumption))
local macro_rules | `(tactic| walk_at "noat") => `(tactic| exact My.Txt.n_Statement_text (by assumption))
local macro_rules | `(tactic| walk_at "noat") => `(tactic| exact My.Txt.n_Statement_word (by assumption))
local macro_rules | `(tactic| walk_at "noat") => `(tactic| exact My.Txt.n_Statement_condition (by assumption))
/-! ### what all laws draw by -/
/-- a bag: a list of three numbers -/
abbrev bagO (d c n : Int) : HO := .lst [.int d, .int c, .int n]
def sp_bag (K : PySem.W.Frag) (Z : Ad) : Sp := fun vs H Q _ => vs.length = 2 ∧ ∃ (B : Hp) (M : List (Addr × HO)) (a : Addr) (ns : List Int) (i : Nat), vs = [.ref a, .int (i : Int)] ∧ Wd B M H ∧ SqL K B a (ns.map V.int) ∧
  ∀ (p : Addr) (d c n : Int) (H' : Hp), Wd B ((p, bagO d c n) :: M) H' → Q (.ref p) H'
def sp_take (K : PySem.W.Frag) (Z : Ad) : Sp := fun vs H Q _ => vs.length = 2 ∧ ∃ (B : Hp) (M : List (Addr × HO)) (k : Nat) (b : Addr) (d c n m : Int), vs = [.ref b, .int m] ∧ Wd B M H ∧ M[k]? = some (b, bagO d c n) ∧ 0 < m ∧ m.natAbs.log2 < 9000 ∧
  ∀ (r d' n' : Int) (H' : Hp), 0 ≤ r → r < m → Wd B (M.set k (b, bagO d' c n')) H' → Q (.int r) H'
theorem at3_0 (x y z : V) : atI [x, y, z] 0 = some x := rfl
theorem at3_1 (x y z : V) : atI [x, y, z] 1 = some y := rfl
theorem at3_2 (x y z : V) : atI [x, y, z] 2 = some z := rfl
theorem atI_ints {ns : List Int} {i : Nat} (h : i < ns.length) : atI (ns.map V.int) (i : Int) = some (.int ns[i]) := by
  refine atI_nat ?_
  rw [List.getElem?_map, List.getElem?_eq_getElem h]
  rfl
theorem u_take0 {K : PySem.W.Frag} {Z : Ad} {B H : Hp} {M : List (Addr × HO)} {b : Addr} {d c n m : Int} {Q : VK} {E : XK} (w : Wd B ((b, bagO d c n) :: M) H) (hm : 0 < m) (hm9 : m.natAbs.log2 < 9000)
    (h : ∀ (r d' n' : Int) (H' : Hp), 0 ≤ r → r < m → Wd B ((b, bagO d' c n') :: M) H' → Q (.int r) H') : sp_take K Z [.ref b, .int m] H Q E := ⟨rfl, B, _, 0, b, d, c, n, m, rfl, w, rfl, hm, hm9, h⟩
theorem u_bag {K : PySem.W.Frag} {Z : Ad} {B H : Hp} {M : List (Addr × HO)} {a : Addr} {ns : List Int} {i : Nat} {Q : VK} {E : XK} (w : Wd B M H) (hS : SqL K B a (ns.map V.int))
    (h : ∀ (p : Addr) (d c n : Int) (H' : Hp), Wd B ((p, bagO d c n) :: M) H' → Q (.ref p) H') : sp_bag K Z [.ref a, .int (i : Int)] H Q E := ⟨rfl, B, M, a, ns, i, rfl, w, hS, h⟩

/-! ### statements: what the words are -/
def FILEC : List Str := ["file", "nofile", "old", "young"]
def ROWC : List Str := ["rows", "norows", "named", "unnamed", "marked", "unmarked", "ripe", "unripe"]
def MARKC : List Str := ["marked", "unmarked", "ripe", "unripe"]
def OWNC : List Str := ["mine", "notmine"]
def FILEA : List Str := ["put", "touch", "strike"]
def MARKA : List Str := ["mark", "unmark", "clear"]
def OWNA : List Str := ["row", "done", "drop"]
def LOOKW : List Str := ["stop", "skip", "again"]
def HANDA : List Str := ["put", "touch", "strike", "row", "done", "drop", "mark", "unmark"]
def SWEEPA : List Str := ["touch", "strike", "mark", "unmark", "clear"]
def READA : List Str := ["touch", "read"]
def actsOf (k : Str) : List Str := if k = "sweep" then SWEEPA else if k = "reader" then READA else HANDA
def lookConds (k : Str) : List Str := if k = "hand" then FILEC ++ ROWC ++ OWNC else FILEC ++ ROWC
def actConds (w : Str) : List Str := if FILEA.contains w = true then FILEC else if MARKA.contains w = true then ROWC else if OWNA.contains w = true then MARKC else []
def condsOf (w k : Str) : List Str := if LOOKW.contains w = true then lookConds k else if (actsOf k).contains w = true then actConds w else []
def mayW (k z : Str) : List Str → Bool
  | [_] => (actsOf k).contains z
  | [w, i, c] => decide (i = "if") && (condsOf w k).contains c
  | _ => false
def mayHave (k z : Str) : Bool := mayW k z (Txt.split z " ")
def mayV (k : Str) : V → Bool
  | .str z => mayHave k z
  | _ => false
def wordV (z : Str) : V := match Txt.split z " " with
  | w :: _ => .str w
  | [] => .non
def condV (z : Str) : V := match Txt.split z " " with
  | [_, _, c] => .str c
  | _ => .non
abbrev stF (z : Str) : List (Str × V) := [("text", .str z), ("word", wordV z), ("condition", condV z)]
/-- a text that is not long, or no text -/
def StrOr (K : PySem.W.Frag) (B : Hp) (v : V) : Prop := (∃ z, v = .str z ∧ z.length ≤ 50000) ∨ ∃ t, (∀ H, Ex B H → TyX K H v t) ∧ PySem.W.kitOne K t (.type "str") = some false ∧ ∀ z, v ≠ .str z
theorem StrOr.up {K : PySem.W.Frag} {B B' : Hp} {v : V} (h : StrOr K B v) (e : Ex B B') : StrOr K B' v := by
  obtain h | ⟨t, ht, q⟩ := h
  · exact .inl h
  · exact .inr ⟨t, fun H z => ht H (e.tr z), q⟩
theorem StrOr.str {K : PySem.W.Frag} {B : Hp} {z : Str} (h : z.length ≤ 50000) : StrOr K B (.str z) := .inl ⟨z, rfl, h⟩
def sp_acts_of (K : PySem.W.Frag) (Z : Ad) : Sp := fun vs H Q _ => vs.length = 1 ∧ ∃ (B : Hp) (M : List (Addr × HO)) (k : Str), vs = [.str k] ∧ Wd B M H ∧ ∀ p, TupS K B p (actsOf k) → Q (.ref p) H
def sp_look_conditions (K : PySem.W.Frag) (Z : Ad) : Sp := fun vs H Q _ => vs.length = 1 ∧ ∃ (B : Hp) (M : List (Addr × HO)) (k : Str), vs = [.str k] ∧ Wd B M H ∧ ∀ p B' H', Ex B B' → TupS K B' p (lookConds k) → Wd B' M H' → Q (.ref p) H'
def sp_act_conditions (K : PySem.W.Frag) (Z : Ad) : Sp := fun vs H Q _ => vs.length = 1 ∧ ∃ (B : Hp) (M : List (Addr × HO)) (k : Str), vs = [.str k] ∧ Wd B M H ∧ ∀ p B' H', Ex B B' → TupS K B' p (actConds k) → Wd B' M H' → Q (.ref p) H'
def sp_conditions_of (K : PySem.W.Frag) (Z : Ad) : Sp := fun vs H Q _ => vs.length = 2 ∧ ∃ (B : Hp) (M : List (Addr × HO)) (w k : Str), vs = [.str w, .str k] ∧ Wd B M H ∧ ∀ p B' H', Ex B B' → TupS K B' p (condsOf w k) → Wd B' M H' → Q (.ref p) H'
def sp_may_have (K : PySem.W.Frag) (Z : Ad) : Sp := fun vs H Q _ => vs.length = 2 ∧ ∃ (B : Hp) (M : List (Addr × HO)) (k : Str) (v : V), vs = [.str k, v] ∧ Wd B M H ∧ StrOr K B v ∧ ∀ B' H', Ex B B' → Wd B' M H' → Q (.bl (mayV k v)) H'
theorem u_acts_of {K : PySem.W.Frag} {Z : Ad} {B H : Hp} {M : List (Addr × HO)} {k : Str} {Q : VK} {E : XK} (w : Wd B M H) (h : ∀ p, TupS K B p (actsOf k) → Q (.ref p) H) : sp_acts_of K Z [.str k] H Q E := ⟨rfl, B, M, k, rfl, w, h⟩
theorem u_look_conditions {K : PySem.W.Frag} {Z : Ad} {B H : Hp} {M : List (Addr × HO)} {k : Str} {Q : VK} {E : XK} (w : Wd B M H) (h : ∀ p B' H', Ex B B' → TupS K B' p (lookConds k) → Wd B' M H' → Q (.ref p) H') : sp_look_conditions K Z [.str k] H Q E := ⟨rfl, B, M, k, rfl, w, h⟩
theorem u_act_conditions {K : PySem.W.Frag} {Z : Ad} {B H : Hp} {M : List (Addr × HO)} {k : Str} {Q : VK} {E : XK} (w : Wd B M H) (h : ∀ p B' H', Ex B B' → TupS K B' p (actConds k) → Wd B' M H' → Q (.ref p) H') : sp_act_conditions K Z [.str k] H Q E := ⟨rfl, B, M, k, rfl, w, h⟩
theorem u_conditions_of {K : PySem.W.Frag} {Z : Ad} {B H : Hp} {M : List (Addr × HO)} {x k : Str} {Q : VK} {E : XK} (w : Wd B M H) (h : ∀ p B' H', Ex B B' → TupS K B' p (condsOf x k) → Wd B' M H' → Q (.ref p) H') : sp_conditions_of K Z [.str x, .str k] H Q E := ⟨rfl, B, M, x, k, rfl, w, h⟩
theorem u_may_have {K : PySem.W.Frag} {Z : Ad} {B H : Hp} {M : List (Addr × HO)} {k : Str} {v : V} {Q : VK} {E : XK} (w : Wd B M H) (hv : StrOr K B v) (h : ∀ B' H', Ex B B' → Wd B' M H' → Q (.bl (mayV k v)) H') : sp_may_have K Z [.str k, v] H Q E := ⟨rfl, B, M, k, v, rfl, w, hv, h⟩
local macro_rules | `(tactic| walk_at "so") => `(tactic| first
  | assumption
  | exact My.StrOr.str (by assumption)
  | (refine' My.StrOr.up ?hh (by assumption); (case hh => walk_at "so")))
local macro_rules | `(tactic| walk_at "s1") => `(tactic| first
  | ((with_reducible refine' My.u_acts_of ?w ?_); (case w => assumption); intro p' hTu)
  | ((with_reducible refine' My.u_look_conditions ?w ?_); (case w => assumption); intro p' B' H' hEx hTu hWd)
  | ((with_reducible refine' My.u_act_conditions ?w ?_); (case w => assumption); intro p' B' H' hEx hTu hWd)
  | ((with_reducible refine' My.u_conditions_of ?w ?_); (case w => assumption); intro p' B' H' hEx hTu hWd)
  | ((with_reducible refine' My.u_may_have ?w ?hv ?_); (case w => assumption); (case hv => walk_at "so"); intro B' H' hEx hWd))
local macro_rules | `(tactic| walk_at "st") => `(tactic| ((refine' Sy.TupS.st ?ht ?hw); (case hw => assumption); (case ht => walk_at "tu")))

section
variable {P : Program} {w : World} {K : PySem.W.Frag} {mg : Str → Option Value} {base : Heap} {Z : Ad}
abbrev s_bag : Stmt := top 23
theorem sc_bag : FnScope ["_law_script", "_law_at", "_law_cell"] ["_law_script", "_law_at"] (defScope s_bag) := ⟨rfl, rfl, rfl, by decide +kernel, rfl, by decide +kernel, by decide +kernel⟩
abbrev s_take : Stmt := top 24
theorem sc_take : FnScope ["_law_bag_here", "_law_many", "_law_digit", "_law_mixed"] ["_law_bag_here", "_law_many"] (defScope s_take) := ⟨rfl, rfl, rfl, by decide +kernel, rfl, by decide +kernel, by decide +kernel⟩
theorem ok_bag {f : Addr} {fd : FuncData} (F : Fun K "_law_bag" "_law_bag" s_bag f fd) (T : Txt K mg Z) : FnOk P w K mg base CX0 1 f fd ["_law_script", "_law_at"] (sp_bag K Z) := by
  refine F.ok sc_bag (fun vs H Q E h => h.1) (fun cdv A outer s H vs Q E hr h => ?_)
  obtain ⟨_, B, M, a, ns, i, rfl, wd, hS, k⟩ := h
  refine ⟨_, (pss_cons (ps_set (i := 2) sc_bag.nd rfl (Or.inl rfl) (pe_ifExp (pt_cmpR op_lt (pv 1) (pe_callB c_len (by rfl) T.g_len (by decide +kernel) (pa_cons (pv 0) pa_nil)) (nomark _)) (pe_ix ix_list (pv 0) (pv 1) (fun _ _ => rfl)) (pv 1)))
      (pss_one (ps_ret (pe_lst (pa_cons (pe_ifExp (pt_cmpR op_ge (pe_callB c_abs (by rfl) T.g_abs (by decide +kernel) (pa_cons (pv 2) pa_nil)) (pe_op op_pow pe_int pe_int) (nomark _)) (pe_callB c_abs (by rfl) T.g_abs (by decide +kernel) (pa_cons (pv 2) pa_nil)) pe_int) (pa_cons (pe_op op_add (pe_op op_mulA (pe_callB c_abs (by rfl) T.g_abs (by decide +kernel) (pa_cons (pv 2) pa_nil)) pe_int) (pe_callTy c_int (by rfl) T.g_int (by decide +kernel) (pa_cons (pe_cmpR op_lt (pv 2) pe_int (nomark _)) pa_nil))) (pa_cons (pe_op op_add (pe_op op_mulA (pv 1) pe_int) pe_int) pa_nil))))))), ?_⟩
  walk_at "sx"
  refine i_d (fun hlt => ?_) (fun hge => ?_)
  · rw [List.length_map] at hlt
    walk_at "sx"
    refine x_ixL (Wd.ex wd |>.sl hS) (atI_ints (by omega)) ?_
    walk_at "sx"
    refine i_d (fun _ => ?_) (fun _ => ?_)
    all_goals
      walk_at "sx"
      refine x_klM wd rfl fun p H' wd' => ?_
      exact k _ _ _ _ _ wd'
  · walk_at "sx"
    refine i_d (fun _ => ?_) (fun _ => ?_)
    all_goals
      walk_at "sx"
      refine x_klM wd rfl fun p H' wd' => ?_
      exact k _ _ _ _ _ wd'
theorem ok_take {f : Addr} {fd : FuncData} (F : Fun K "_law_take" "_law_take" s_take f fd) (T : Txt K mg Z) : FnOk P w K mg base CX0 1 f fd ["_law_bag_here", "_law_many"] (sp_take K Z) := by
  refine F.ok sc_take (fun vs H Q E h => h.1) (fun cdv A outer s H vs Q E hr h => ?_)
  obtain ⟨_, B, M, j, b, d, c, n, m, rfl, wd, hj, hm, hm9, k⟩ := h
  have wd := wd.pull hj
  refine ⟨_, (pss_cons (ps_if (pt_cmpR op_gt (pe_ix ix_list (pv 0) pe_int (fun _ _ => rfl)) pe_int (nomark _))
      (pss_cons (ps_set (i := 2) sc_take.nd rfl (Or.inl rfl) (pe_op op_mod (pe_callTy c_int (by rfl) T.g_int (by decide +kernel) (pa_cons (pe_ix ix_list (pv 0) pe_int (fun _ _ => rfl)) pa_nil)) (pv 1)))
      (pss_cons (ps_asg (pe_op op_fdivW (pe_ix ix_list (pv 0) pe_int (fun _ _ => rfl)) (pv 1)) (pg_sub (pv 0) pe_int set_list))
      (pss_one (ps_ret (pv 2)))))
      pss_nil)
      (pss_cons (ps_asg (pe_op op_add (pe_ix ix_list (pv 0) pe_int (fun _ _ => rfl)) pe_int) (pg_sub (pv 0) pe_int set_list))
      (pss_cons (ps_set (i := 3) sc_take.nd rfl (Or.inl rfl) (pe_op op_mod (pe_callTy c_int (by rfl) T.g_int (by decide +kernel) (pa_cons (pe_op op_add (pe_op op_add (pe_op op_mulA (pe_ix ix_list (pv 0) pe_int (fun _ _ => rfl)) pe_int) (pe_op op_mulA (pe_ix ix_list (pv 0) pe_int (fun _ _ => rfl)) pe_int)) pe_int) pa_nil)) pe_int))
      (pss_cons (ps_set (i := 3) sc_take.nd rfl (Or.inl rfl) (pe_op op_mod (pe_callTy c_int (by rfl) T.g_int (by decide +kernel) (pa_cons (pe_op op_add (pe_op op_mulA (pv 3) (pv 3)) (pe_op op_mulA (pe_ix ix_list (pv 0) pe_int (fun _ _ => rfl)) pe_int)) pa_nil)) pe_int))
      (pss_cons (ps_set (i := 3) sc_take.nd rfl (Or.inl rfl) (pe_op op_mod (pe_callTy c_int (by rfl) T.g_int (by decide +kernel) (pa_cons (pe_op op_add (pe_op op_mulA (pv 3) pe_int) (pe_ix ix_list (pv 0) pe_int (fun _ _ => rfl))) pa_nil)) pe_int))
      (pss_one (ps_ret (pe_op op_mod (pe_callTy c_int (by rfl) T.g_int (by decide +kernel) (pa_cons (pe_op op_fdivW (pv 3) pe_int) pa_nil)) (pv 1))))))))), ?_⟩
  walk_at "sx"
  refine i_d (fun hpos => ?_) (fun hneg => ?_)
  · walk_at "sx"
    refine k _ _ _ _ (Int.emod_nonneg _ (by omega)) (Int.emod_lt_of_pos _ hm) (Wd.push (by assumption) hj)
  · walk_at "sx"
    refine k _ _ _ _ (Int.emod_nonneg _ (by omega)) (Int.emod_lt_of_pos _ hm) (Wd.push (by assumption) hj)

abbrev s_acts_of : Stmt := top 16
theorem sc_acts_of : FnScope ["kind"] ["kind"] (defScope s_acts_of) := ⟨rfl, rfl, rfl, by decide +kernel, rfl, by decide +kernel, by decide +kernel⟩
abbrev s_look_conditions : Stmt := top 17
theorem sc_look_conditions : FnScope ["kind"] ["kind"] (defScope s_look_conditions) := ⟨rfl, rfl, rfl, by decide +kernel, rfl, by decide +kernel, by decide +kernel⟩
abbrev s_act_conditions : Stmt := top 18
theorem sc_act_conditions : FnScope ["word"] ["word"] (defScope s_act_conditions) := ⟨rfl, rfl, rfl, by decide +kernel, rfl, by decide +kernel, by decide +kernel⟩
abbrev s_conditions_of : Stmt := top 19
theorem sc_conditions_of : FnScope ["word", "kind"] ["word", "kind"] (defScope s_conditions_of) := ⟨rfl, rfl, rfl, by decide +kernel, rfl, by decide +kernel, by decide +kernel⟩
abbrev s_may_have : Stmt := top 20
theorem sc_may_have : FnScope ["kind", "text", "words"] ["kind", "text"] (defScope s_may_have) := ⟨rfl, rfl, rfl, by decide +kernel, rfl, by decide +kernel, by decide +kernel⟩
theorem ok_acts_of {f : Addr} {fd : FuncData} (F : Fun K "acts_of" "acts_of" s_acts_of f fd) (T : Txt K mg Z) : FnOk P w K mg base CX0 1 f fd ["kind"] (sp_acts_of K Z) := by
  refine F.ok sc_acts_of (fun vs H Q E h => h.1) (fun cdv A outer s H vs Q E hr h => ?_)
  obtain ⟨_, B, M, k, rfl, wd, q⟩ := h
  refine ⟨_, (pss_cons (ps_if (pt_cmpR op_eq (pv 0) pe_str (nomark _))
      (pss_one (ps_ret (pe_cst rfl T.q_SWEEP_ACTS.1)))
      pss_nil)
      (pss_cons (ps_if (pt_cmpR op_eq (pv 0) pe_str (nomark _))
      (pss_one (ps_ret (pe_cst rfl T.q_READER_ACTS.1)))
      pss_nil)
      (pss_one (ps_ret (pe_cst rfl T.q_HAND_ACTS.1))))), ?_⟩
  walk_at "sx"
  refine i_d (fun e1 => ?_) (fun e1 => ?_)
  · walk_at "sx"
    refine q _ fun H _ => ?_
    rw [show actsOf k = SWEEPA by unfold actsOf; rw [if_pos e1]]
    exact T.q_SWEEP_ACTS.2 H
  walk_at "sx"
  refine i_d (fun e2 => ?_) (fun e2 => ?_)
  · walk_at "sx"
    refine q _ fun H _ => ?_
    rw [show actsOf k = READA by unfold actsOf; rw [if_neg e1, if_pos e2]]
    exact T.q_READER_ACTS.2 H
  · walk_at "sx"
    refine q _ fun H _ => ?_
    rw [show actsOf k = HANDA by unfold actsOf; rw [if_neg e1, if_neg e2]]
    exact T.q_HAND_ACTS.2 H
theorem ok_look_conditions {f : Addr} {fd : FuncData} (F : Fun K "look_conditions" "look_conditions" s_look_conditions f fd) (T : Txt K mg Z) : FnOk P w K mg base CX0 1 f fd ["kind"] (sp_look_conditions K Z) := by
  refine F.ok sc_look_conditions (fun vs H Q E h => h.1) (fun cdv A outer s H vs Q E hr h => ?_)
  obtain ⟨_, B, M, k, rfl, wd, q⟩ := h
  refine ⟨_, (pss_cons (ps_if (pt_cmpR op_eq (pv 0) pe_str (nomark _))
      (pss_one (ps_ret (pe_op op_catT (pe_op op_catT (pe_cst rfl T.q_FILE_CONDITIONS.1) (pe_cst rfl T.q_ROW_CONDITIONS.1)) (pe_cst rfl T.q_OWN_CONDITIONS.1))))
      pss_nil)
      (pss_one (ps_ret (pe_op op_catT (pe_cst rfl T.q_FILE_CONDITIONS.1) (pe_cst rfl T.q_ROW_CONDITIONS.1))))), ?_⟩
  walk_at "sx"
  refine i_d (fun e1 => ?_) (fun e1 => ?_)
  · walk_at "sx"
    refine x_catT wd (T.q_FILE_CONDITIONS.2 _) (T.q_ROW_CONDITIONS.2 _) (by simp) (by simp) rfl fun p1 B1 H1 x1 h1 w1 => ?_
    walk_at "sx"
    refine x_catT w1 (st_of (w1.im h1)) (T.q_OWN_CONDITIONS.2 _) (by simp) (by simp) rfl fun p2 B2 H2 x2 h2 w2 => ?_
    refine q _ _ _ (x1.tr x2) (tup_of ?_) w2
    rw [show lookConds k = FILEC ++ ROWC ++ OWNC by unfold lookConds; rw [if_pos e1]]
    exact h2
  · walk_at "sx"
    refine x_catT wd (T.q_FILE_CONDITIONS.2 _) (T.q_ROW_CONDITIONS.2 _) (by simp) (by simp) rfl fun p1 B1 H1 x1 h1 w1 => ?_
    refine q _ _ _ x1 (tup_of ?_) w1
    rw [show lookConds k = FILEC ++ ROWC by unfold lookConds; rw [if_neg e1]]
    exact h1
theorem ok_act_conditions {f : Addr} {fd : FuncData} (F : Fun K "act_conditions" "act_conditions" s_act_conditions f fd) (T : Txt K mg Z) : FnOk P w K mg base CX0 1 f fd ["word"] (sp_act_conditions K Z) := by
  refine F.ok sc_act_conditions (fun vs H Q E h => h.1) (fun cdv A outer s H vs Q E hr h => ?_)
  obtain ⟨_, B, M, k, rfl, wd, q⟩ := h
  refine ⟨_, (pss_cons (ps_if (pt_cmpR (op_inK (K := K)) (pv 0) (pe_cst rfl T.q_FILE_ACTS.1) (by with_unfolding_all rfl))
      (pss_one (ps_ret (pe_cst rfl T.q_FILE_CONDITIONS.1)))
      pss_nil)
      (pss_cons (ps_if (pt_cmpR (op_inK (K := K)) (pv 0) (pe_cst rfl T.q_MARK_ACTS.1) (by with_unfolding_all rfl))
      (pss_one (ps_ret (pe_cst rfl T.q_ROW_CONDITIONS.1)))
      pss_nil)
      (pss_cons (ps_if (pt_cmpR (op_inK (K := K)) (pv 0) (pe_cst rfl T.q_OWN_ACTS.1) (by with_unfolding_all rfl))
      (pss_one (ps_ret (pe_cst rfl T.q_MARK_CONDITIONS.1)))
      pss_nil)
      (pss_one (ps_ret (pe_tup pa_nil)))))), ?_⟩
  walk_at "sx"
  refine x_inT (T.q_FILE_ACTS.2 _) ?_
  walk_at "sx"
  refine i_b (fun e1 => ?_) (fun e1 => ?_)
  · walk_at "sx"
    refine q _ _ _ (Ex.rf _) (fun H _ => ?_) wd
    rw [show actConds k = FILEC by unfold actConds; rw [if_pos (show FILEA.contains k = true from e1)]]
    exact T.q_FILE_CONDITIONS.2 H
  walk_at "sx"
  refine x_inT (T.q_MARK_ACTS.2 _) ?_
  walk_at "sx"
  refine i_b (fun e2 => ?_) (fun e2 => ?_)
  · walk_at "sx"
    refine q _ _ _ (Ex.rf _) (fun H _ => ?_) wd
    rw [show actConds k = ROWC by unfold actConds; rw [if_neg (by rw [show FILEA.contains k = false from e1]; decide), if_pos (show MARKA.contains k = true from e2)]]
    exact T.q_ROW_CONDITIONS.2 H
  walk_at "sx"
  refine x_inT (T.q_OWN_ACTS.2 _) ?_
  walk_at "sx"
  refine i_b (fun e3 => ?_) (fun e3 => ?_)
  · walk_at "sx"
    refine q _ _ _ (Ex.rf _) (fun H _ => ?_) wd
    rw [show actConds k = MARKC by unfold actConds; rw [if_neg (by rw [show FILEA.contains k = false from e1]; decide), if_neg (by rw [show MARKA.contains k = false from e2]; decide), if_pos (show OWNA.contains k = true from e3)]]
    exact T.q_MARK_CONDITIONS.2 H
  · walk_at "sx"
    refine q _ _ _ (by assumption) (tup_of ?_) (by assumption)
    rw [show actConds k = [] by unfold actConds; rw [if_neg (by rw [show FILEA.contains k = false from e1]; decide), if_neg (by rw [show MARKA.contains k = false from e2]; decide), if_neg (by rw [show OWNA.contains k = false from e3]; decide)]]
    assumption
theorem ok_conditions_of {f : Addr} {fd : FuncData} (F : Fun K "conditions_of" "conditions_of" s_conditions_of f fd) (T : Txt K mg Z) (D_look_conditions : Dn CX0 P w K mg base "look_conditions" 1 ["kind"] (sp_look_conditions K Z)) (D_acts_of : Dn CX0 P w K mg base "acts_of" 1 ["kind"] (sp_acts_of K Z)) (D_act_conditions : Dn CX0 P w K mg base "act_conditions" 1 ["word"] (sp_act_conditions K Z)) : FnOk P w K mg base CX0 2 f fd ["word", "kind"] (sp_conditions_of K Z) := by
  refine F.ok sc_conditions_of (fun vs H Q E h => h.1) (fun cdv A outer s H vs Q E hr h => ?_)
  obtain ⟨_, B, M, x, k, rfl, wd, q⟩ := h
  refine ⟨_, (pss_cons (ps_if (pt_cmpR (op_inK (K := K)) (pv 0) (pe_cst rfl T.q_LOOKS.1) (by with_unfolding_all rfl))
      (pss_one (ps_ret (pe_dn D_look_conditions hr (by decide) rfl pass0 (pa_cons (pv 1) pa_nil))))
      pss_nil)
      (pss_cons (ps_if (pt_cmpR (op_inK (K := K)) (pv 0) (pe_dn D_acts_of hr (by decide) rfl pass0 (pa_cons (pv 1) pa_nil)) (by with_unfolding_all rfl))
      (pss_one (ps_ret (pe_dn D_act_conditions hr (by decide) rfl pass0 (pa_cons (pv 0) pa_nil))))
      pss_nil)
      (pss_one (ps_ret (pe_tup pa_nil))))), ?_⟩
  walk_at "sx"
  refine x_inT (T.q_LOOKS.2 _) ?_
  walk_at "sx"
  refine i_b (fun e1 => ?_) (fun e1 => ?_)
  · walk_at "sx"
    refine q _ _ _ (by assumption) ?_ (by assumption)
    rw [show condsOf x k = lookConds k by unfold condsOf; rw [if_pos (show LOOKW.contains x = true from e1)]]
    assumption
  walk_at "sx"
  refine i_b (fun e2 => ?_) (fun e2 => ?_)
  · walk_at "sx"
    refine q _ _ _ (by assumption) ?_ (by assumption)
    rw [show condsOf x k = actConds x by unfold condsOf; rw [if_neg (by rw [show LOOKW.contains x = false from e1]; decide), if_pos e2]]
    assumption
  · walk_at "sx"
    refine q _ _ _ (by assumption) (tup_of ?_) (by assumption)
    rw [show condsOf x k = [] by unfold condsOf; rw [if_neg (by rw [show LOOKW.contains x = false from e1]; decide), if_neg (by rw [show (actsOf k).contains x = false from e2]; decide)]]
    assumption
theorem ok_may_have {f : Addr} {fd : FuncData} (F : Fun K "may_have" "may_have" s_may_have f fd) (T : Txt K mg Z) (D_acts_of : Dn CX0 P w K mg base "acts_of" 1 ["kind"] (sp_acts_of K Z)) (D_conditions_of : Dn CX0 P w K mg base "conditions_of" 2 ["word", "kind"] (sp_conditions_of K Z)) : FnOk P w K mg base CX0 3 f fd ["kind", "text"] (sp_may_have K Z) := by
  refine F.ok sc_may_have (fun vs H Q E h => h.1) (fun cdv A outer s H vs Q E hr h => ?_)
  obtain ⟨_, B, M, k, v, rfl, wd, hv, q⟩ := h
  refine ⟨_, (pss_cons (ps_if (pt_not (pt_val (pe_callB call_isi (by rfl) T.g_isinstance (by decide +kernel) (pa_cons (pv 1) (pa_cons (pe_tyn (n := "str") rfl T.g_str (by decide +kernel)) pa_nil)))))
      (pss_one (ps_ret pe_bl))
      pss_nil)
      (pss_cons (ps_set (i := 2) sc_may_have.nd rfl (Or.inl rfl) (pe_bm PySem.F.plainAttrs_str PySem.F.slot_str_split PySem.F.type_str_split mt_spl (pv 1) (pa_cons pe_str pa_nil)))
      (pss_cons (ps_if (pt_cmpR op_eq (pe_callB c_len (by rfl) T.g_len (by decide +kernel) (pa_cons (pv 2) pa_nil)) pe_int (nomark _))
      (pss_one (ps_ret (pe_cmpR (op_inK (K := K)) (pv 1) (pe_dn D_acts_of hr (by decide) rfl pass0 (pa_cons (pv 0) pa_nil)) (by with_unfolding_all rfl))))
      pss_nil)
      (pss_one (ps_ret (pe_and (pe_cmpR op_eq (pe_callB c_len (by rfl) T.g_len (by decide +kernel) (pa_cons (pv 2) pa_nil)) pe_int (nomark _)) (pe_and (pe_cmpR op_eq (pe_ix ix_list (pv 2) pe_int (fun _ _ => rfl)) pe_str (nomark _)) (pe_one (pe_cmpR (op_inK (K := K)) (pe_ix ix_list (pv 2) pe_int (fun _ _ => rfl)) (pe_dn D_conditions_of hr (by decide) rfl pass0 (pa_cons (pe_ix ix_list (pv 2) pe_int (fun _ _ => rfl)) (pa_cons (pv 0) pa_nil))) (by with_unfolding_all rfl)))))))))), ?_⟩
  walk_at "sx"
  obtain ⟨z, rfl, hz⟩ | ⟨t, ht, hk, hn⟩ := hv
  · have hm : mayV k (.str z) = mayW k z (Txt.split z " ") := rfl
    walk_at "sx"
    generalize Txt.split z " " = ws at *
    match ws with
    | [] =>
      rw [show mayV k (.str z) = false from hm] at q
      refine i_dF (by simp) ?_
      walk_at "sx"
      refine i_dF (by simp) ?_
      walk_at "sx"
      exact q _ _ (by assumption) (by assumption)
    | [a] =>
      rw [show mayV k (.str z) = (actsOf k).contains z from hm] at q
      walk_at "sx"
      exact q _ _ (by assumption) (by assumption)
    | [a, b] =>
      rw [show mayV k (.str z) = false from hm] at q
      refine i_dF (by simp) ?_
      walk_at "sx"
      refine i_dF (by simp) ?_
      walk_at "sx"
      exact q _ _ (by assumption) (by assumption)
    | [a, b, c] =>
      rw [show mayV k (.str z) = (decide (b = "if") && (condsOf a k).contains c) from hm] at q
      refine i_dF (by simp) ?_
      walk_at "sx"
      refine i_d (fun e => ?_) (fun e => ?_)
      · rw [decide_eq_true e, Bool.true_and] at q
        walk_at "sx"
        refine q _ _ ?_ (by assumption)
        walk_at "ex"
      · rw [decide_eq_false e, Bool.false_and] at q
        walk_at "sx"
        exact q _ _ (by assumption) (by assumption)
    | a :: b :: c :: d :: r =>
      rw [show mayV k (.str z) = false from hm] at q
      refine i_dF (by simp; omega) ?_
      walk_at "sx"
      refine i_dF (by simp; omega) ?_
      walk_at "sx"
      exact q _ _ (by assumption) (by assumption)
  · refine x_isi (ht _ wd.ex) (.ty _) hk ?_
    walk_at "sx"
    have e : mayV k v = false := by
      cases v <;> first
        | rfl
        | exact absurd rfl (hn _)
    rw [← e]
    exact q _ _ (Ex.rf _) wd
abbrev s_Statement_init : Stmt := inClass (top 21) 0
theorem sc_Statement_init : FnScope ["self", "text", "kind", "words"] ["self", "text", "kind"] (defScope s_Statement_init) := ⟨rfl, rfl, rfl, by decide +kernel, rfl, by decide +kernel, by decide +kernel⟩
def sp_Statement_init (K : PySem.W.Frag) (Z : Ad) : Sp := fun vs H Q E => vs.length = 3 ∧ ∃ (B : Hp) (M : List (Addr × HO)) (x dx : Addr) (v : V) (k : Str), vs = [.ref x, v, .str k] ∧ Wd B ((x, .ins Z.Statement dx []) :: M) H ∧ StrOr K B v ∧
  (∀ z B' H', v = .str z → mayHave k z = true → Ex B B' → Wd B' ((x, .ins Z.Statement dx (stF z)) :: M) H' → Q .non H') ∧
  (mayV k v = false → ∀ d B' H', Ex B B' → B' d = some (.xd [("text", v)]) → Wd B' M H' → E (.ref Z.BadStatement) (some d) H')
theorem ok_Statement_init {f : Addr} {fd : FuncData} (F : Fun K "__init__" "Statement.__init__" s_Statement_init f fd) (T : Txt K mg Z) (D_may_have : Dn CX0 P w K mg base "may_have" 3 ["kind", "text"] (sp_may_have K Z)) : FnOk P w K mg base (L2.CX P w) 4 f fd ["self", "text", "kind"] (sp_Statement_init K Z) := by
  refine F.okX sc_Statement_init (fun vs H Q E h => h.1) (fun cdv A outer s H vs Q E hr h => ?_)
  obtain ⟨_, B, M, x, dx, v, k, rfl, wd, hv, q1, q2⟩ := h
  refine ⟨_, (pss_cons (ps_if (pt_not (pt_val (pe_dn D_may_have hr (by decide) rfl pass0 (pa_cons (pv 2) (pa_cons (pv 1) pa_nil)))))
      (pss_one (ps_raiseE rfl (ec_errC T.e_BadStatement PySem.F.excBase_ValueError PySem.F.store_ValueError f1_text) hr (by decide) (takes_of rfl rfl rfl rfl) (pa_cons (pv 1) pa_nil)))
      pss_nil)
      (pss_cons (ps_set (i := 3) sc_Statement_init.nd rfl (Or.inl rfl) (pe_bm PySem.F.plainAttrs_str PySem.F.slot_str_split PySem.F.type_str_split mt_spl (pv 1) (pa_cons pe_str pa_nil)))
      (pss_cons (ps_fld (pv 0) (pv 1) rfl)
      (pss_cons (ps_fld (pv 0) (pe_ix ix_list (pv 3) pe_int (fun _ _ => rfl)) rfl)
      (pss_one (ps_fld (pv 0) (pe_ifExp (pt_cmpR op_eq (pe_callB c_len (by rfl) T.g_len (by decide +kernel) (pa_cons (pv 3) pa_nil)) pe_int (nomark _)) (pe_ix ix_list (pv 3) pe_int (fun _ _ => rfl)) pe_non) rfl)))))), ?_⟩
  walk_at "sx"
  refine i_b (fun e1 => ?_) (fun e1 => ?_)
  · rw [Bool.not_eq_true'] at e1
    walk_at "sx"
    refine q2 e1 _ _ _ ?_ (by assumption) ?_
    · walk_at "ex"
    · exact Wd.drop (by assumption)
  · rw [Bool.not_eq_false'] at e1
    obtain ⟨z, rfl⟩ : ∃ z, v = .str z := by
      cases v <;> first
        | exact ⟨_, rfl⟩
        | cases e1
    obtain ⟨z', hz', hz⟩ | ⟨_, _, _, hn⟩ := hv
    rotate_left
    · exact absurd rfl (hn z)
    cases hz'
    have hm : mayHave k z = mayW k z (Txt.split z " ") := rfl
    have e2 : mayHave k z = true := e1
    have hF : stF z = ([("text", .str z), ("word", wordV z), ("condition", condV z)] : List (Str × V)) := rfl
    have hw : wordV z = match Txt.split z " " with | w :: _ => V.str w | [] => .non := rfl
    have hc : condV z = match Txt.split z " " with | [_, _, c] => V.str c | _ => .non := rfl
    rw [hm] at e2
    walk_at "sx"
    generalize Txt.split z " " = ws at *
    match ws with
    | [a] =>
      walk_at "sx"
      refine i_dF (by simp) ?_
      walk_at "sx"
      refine' q1 z _ _ rfl e1 ?ex ?ww
      case ww =>
        rw [hF, hw, hc]
        assumption
      case ex => walk_at "ex"
    | [a, b, c] =>
      walk_at "sx"
      refine' q1 z _ _ rfl e1 ?ex ?ww
      case ww =>
        rw [hF, hw, hc]
        assumption
      case ex => walk_at "ex"
    | [] => cases e2
    | [a, b] => cases e2
    | a :: b :: c :: d :: r => cases e2
/-- a statement -/
def StAt (Z : Ad) (B : Hp) (x : Addr) (z : Str) : Prop := ∃ dx, B x = some (.ins Z.Statement dx (stF z))
theorem StAt.up {Z : Ad} {B B' : Hp} {x : Addr} {z : Str} (h : StAt Z B x z) (e : Ex B B') : StAt Z B' x z := let ⟨d, q⟩ := h; ⟨d, e _ _ q⟩
local macro_rules | `(tactic| walk_at "sa") => `(tactic| first
  | assumption
  | (refine' My.StAt.up ?hh (by assumption); (case hh => walk_at "sa")))
/-- Statement(v, kind=k) -/
theorem u_stmt {K : PySem.W.Frag} {Z : Ad} {B H : Hp} {M : List (Addr × HO)} {v : V} {k : Str} {Q : VK} {E : XK} (w : Wd B M H) (hv : StrOr K B v)
    (h1 : ∀ z x B' H', v = .str z → mayHave k z = true → Ex B B' → StAt Z B' x z → Wd B' M H' → Q (.ref x) H')
    (h2 : mayV k v = false → ∀ d B' H', Ex B B' → B' d = some (.xd [("text", v)]) → Wd B' M H' → E (.ref Z.BadStatement) (some d) H') : MkI Z.Statement (sp_Statement_init K Z) E [v, .str k] H Q := by
  intro x dx nx ndx ne
  have w1 := w.alloc ndx (.own x)
  have nx1 : upd H dx (.own x) x = none := by rw [upd_ne (fun e => ne e.symm)]; exact nx
  have w2 := w1.allocM nx1 (.ins Z.Statement dx [])
  have e0 : Ex B (upd B dx (.own x)) := Ex.new (w.free ndx)
  refine ⟨rfl, _, _, x, dx, v, k, rfl, w2, hv.up e0, fun z B' H' hz hm e w' => ⟨rfl, ?_⟩, fun hm d B' H' e hd w' => ?_⟩
  · exact h1 z x _ H' hz hm ((e0.tr e).tr w'.fz) ⟨dx, upd_same⟩ w'.freeze
  · exact h2 hm d B' H' (e0.tr e) hd w'
local macro_rules | `(tactic| walk_at "s1") => `(tactic| ((with_reducible refine' My.u_stmt ?w ?hv ?h1 ?h2); (case w => assumption); (case hv => walk_at "so")))
abbrev s_Statement_is_look : Stmt := inClass (top 21) 1
theorem sc_Statement_is_look : FnScope ["self"] ["self"] (defScope s_Statement_is_look) := ⟨rfl, rfl, rfl, by decide +kernel, rfl, by decide +kernel, by decide +kernel⟩
abbrev s_Statement_str : Stmt := inClass (top 21) 2
theorem sc_Statement_str : FnScope ["self"] ["self"] (defScope s_Statement_str) := ⟨rfl, rfl, rfl, by decide +kernel, rfl, by decide +kernel, by decide +kernel⟩
abbrev s_Statement_eq : Stmt := inClass (top 21) 3
theorem sc_Statement_eq : FnScope ["self", "other"] ["self", "other"] (defScope s_Statement_eq) := ⟨rfl, rfl, rfl, by decide +kernel, rfl, by decide +kernel, by decide +kernel⟩
def sp_Statement_is_look (K : PySem.W.Frag) (Z : Ad) : Sp := fun vs H Q _ => vs.length = 1 ∧ ∃ (B : Hp) (M : List (Addr × HO)) (x : Addr) (z w : Str), vs = [.ref x] ∧ Wd B M H ∧ StAt Z B x z ∧ wordV z = .str w ∧ Q (.bl (LOOKW.contains w)) H
def sp_Statement_str (K : PySem.W.Frag) (Z : Ad) : Sp := fun vs H Q _ => vs.length = 1 ∧ ∃ (B : Hp) (M : List (Addr × HO)) (x : Addr) (z : Str), vs = [.ref x] ∧ Wd B M H ∧ StAt Z B x z ∧ Q (.str z) H
/-- y is a statement, or nothing of the class -/
def StOr (K : PySem.W.Frag) (Z : Ad) (B H : Hp) (y : V) (j : Option Str) : Prop := (∃ yx n, y = .ref yx ∧ StAt Z B yx n ∧ j = some n) ∨ ∃ t, TyX K H y t ∧ NsT K Z.Statement t ∧ j = none
def sp_Statement_eq (K : PySem.W.Frag) (Z : Ad) : Sp := fun vs H Q _ => vs.length = 2 ∧ ∃ (B : Hp) (M : List (Addr × HO)) (x : Addr) (z : Str) (y : V) (j : Option Str), vs = [.ref x, y] ∧ Wd B M H ∧ StAt Z B x z ∧ StOr K Z B H y j ∧ Q (.bl (match j with | some j => decide (z = j) | none => false)) H
theorem ok_Statement_is_look {f : Addr} {fd : FuncData} (F : Fun K "is_look" "Statement.is_look" s_Statement_is_look f fd) (T : Txt K mg Z) : FnOk P w K mg base CX0 1 f fd ["self"] (sp_Statement_is_look K Z) := by
  refine F.ok sc_Statement_is_look (fun vs H Q E h => h.1) (fun cdv A outer s H vs Q E hr h => ?_)
  obtain ⟨_, B, M, x, z, w, rfl, wd, ⟨dx, hx⟩, hw, q⟩ := h
  refine ⟨_, (pss_one (ps_ret (pe_cmpR (op_inK (K := K)) (pe_fld (pv 0) rfl) (pe_cst rfl T.q_LOOKS.1) (by with_unfolding_all rfl)))), ?_⟩
  walk_at "sx"
  rw [hw]
  exact x_inT (T.q_LOOKS.2 _) q
theorem ok_Statement_str {f : Addr} {fd : FuncData} (F : Fun K "__str__" "Statement.__str__" s_Statement_str f fd) (T : Txt K mg Z) : FnOk P w K mg base CX0 1 f fd ["self"] (sp_Statement_str K Z) := by
  refine F.ok sc_Statement_str (fun vs H Q E h => h.1) (fun cdv A outer s H vs Q E hr h => ?_)
  obtain ⟨_, B, M, x, z, rfl, wd, ⟨dx, hx⟩, q⟩ := h
  refine ⟨_, (pss_one (ps_ret (pe_callTy c_strS (by rfl) T.g_str (by decide +kernel) (pa_cons (pe_fld (pv 0) rfl) pa_nil)))), ?_⟩
  walk_at "sx"
  exact q
theorem ok_Statement_eq {f : Addr} {fd : FuncData} (F : Fun K "__eq__" "Statement.__eq__" s_Statement_eq f fd) (T : Txt K mg Z) : FnOk P w K mg base CX0 1 f fd ["self", "other"] (sp_Statement_eq K Z) := by
  refine F.ok sc_Statement_eq (fun vs H Q E h => h.1) (fun cdv A outer s H vs Q E hr h => ?_)
  obtain ⟨_, B, M, x, z, y, j, rfl, wd, ⟨dx, hx⟩, hy, q⟩ := h
  refine ⟨_, (pss_one (ps_ret (pe_and (pe_callB call_isi (by rfl) T.g_isinstance (by decide +kernel) (pa_cons (pv 1) (pa_cons (pe_kn T.c_Statement rfl) pa_nil))) (pe_one (pe_cmpR op_eq (pe_fld (pv 0) rfl) (pe_fld (pv 1) rfl) (nomark _)))))), ?_⟩
  walk_at "sx"
  rcases hy with ⟨yx, n, rfl, ⟨dy, hy⟩, rfl⟩ | ⟨t, ty, n, rfl⟩
  · walk_at "sx"
    exact q
  · refine x_isi ty (.own _) n.kit ?_
    walk_at "sx"
    exact q
theorem u_look {K : PySem.W.Frag} {Z : Ad} {B H : Hp} {M : List (Addr × HO)} {x : Addr} {z v : Str} {Q : VK} {E : XK} (w : Wd B M H) (hx : StAt Z B x z) (hv : wordV z = .str v) (q : Q (.bl (LOOKW.contains v)) H) : ∃ a dx fs, V.ref x = .ref a ∧ H a = some (.ins Z.Statement dx fs) ∧ sp_Statement_is_look K Z [.ref a] H Q E := by
  obtain ⟨dx, h⟩ := id hx
  exact ⟨x, dx, _, rfl, w.im h, rfl, B, M, x, z, v, rfl, w, hx, hv, q⟩
theorem u_stEqs {K : PySem.W.Frag} {Z : Ad} {B H : Hp} {M : List (Addr × HO)} {x y : Addr} {i j : Str} {Q : VK} {E : XK} (T : C8.InsC K Z.Statement) (w : Wd B M H) (hx : StAt Z B x i) (hy : StAt Z B y j) (h : Q (.bl (decide (i = j))) H) : rCmp K Z.Statement (sp_Statement_eq K Z) E (.ref x) (.ref y) H Q := by
  obtain ⟨dx, qx⟩ := id hx
  obtain ⟨dy, qy⟩ := id hy
  exact ⟨x, dx, _, _, rfl, w.im qx, .base (.ins (w.im qy) T.cl T.ha T.hn T.htk T.hm), first_self, rfl, B, M, x, i, _, some j, rfl, w, hx, .inl ⟨y, j, rfl, hy, rfl⟩, h⟩
theorem u_stEqO {K : PySem.W.Frag} {Z : Ad} {B H : Hp} {M : List (Addr × HO)} {x : Addr} {y : V} {t : Value} {i : Str} {Q : VK} {E : XK} (w : Wd B M H) (hx : StAt Z B x i) (ty : TyX K H y t) (n : NsT K Z.Statement t) (h : Q (.bl false) H) : rCmp K Z.Statement (sp_Statement_eq K Z) E (.ref x) y H Q := by
  obtain ⟨dx, qx⟩ := id hx
  exact ⟨x, dx, _, t, rfl, w.im qx, ty, n.first, rfl, B, M, x, i, y, none, rfl, w, hx, .inr ⟨t, ty, n, rfl⟩, h⟩
theorem u_stNeO {K : PySem.W.Frag} {Z : Ad} {B H : Hp} {M : List (Addr × HO)} {x : Addr} {y : V} {t : Value} {i : Str} {Q : VK} {E : XK} (w : Wd B M H) (hx : StAt Z B x i) (ty : TyX K H y t) (n : NsT K Z.Statement t) (h : Q (.bl true) H) : Sy.rNeD K Z.Statement (sp_Statement_eq K Z) E (.ref x) y H Q := by
  obtain ⟨dx, qx⟩ := id hx
  exact ⟨x, dx, _, t, rfl, w.im qx, ty, n.first, rfl, B, M, x, i, y, none, rfl, w, hx, .inr ⟨t, ty, n, rfl⟩, false, rfl, h⟩
theorem u_stStr {K : PySem.W.Frag} {Z : Ad} {B H : Hp} {M : List (Addr × HO)} {x : Addr} {z : Str} {Q : VK} {E : XK} (w : Wd B M H) (hx : StAt Z B x z) (h : Q (.str z) H) : rTxt Z.Statement (sp_Statement_str K Z) E [.ref x] H Q := by
  obtain ⟨dx, qx⟩ := id hx
  exact ⟨x, dx, _, rfl, w.im qx, rfl, B, M, x, z, rfl, w, hx, ⟨z, rfl⟩, h⟩

abbrev s_of : Stmt := top 25
theorem sc_of : FnScope ["_law_bag_here", "_law_some"] ["_law_bag_here", "_law_some"] (defScope s_of) := ⟨rfl, rfl, rfl, by decide +kernel, rfl, by decide +kernel, by decide +kernel⟩
/-- one of some -/
def sp_of (K : PySem.W.Frag) (Z : Ad) : Sp := fun vs H Q _ => vs.length = 2 ∧ ∃ (B : Hp) (M : List (Addr × HO)) (k : Nat) (b l : Addr) (d c n : Int) (xs : List V), vs = [.ref b, .ref l] ∧ Wd B M H ∧ M[k]? = some (b, bagO d c n) ∧ B l = some (.lst xs) ∧ 0 < xs.length ∧ xs.length ≤ 1000 ∧
  ∀ (i : Nat) (x : V) (d' n' : Int) (H' : Hp), xs[i]? = some x → Wd B (M.set k (b, bagO d' c n')) H' → Q x H'
theorem u_of {K : PySem.W.Frag} {Z : Ad} {B H : Hp} {M : List (Addr × HO)} {b l : Addr} {d c n : Int} {xs : List V} {Q : VK} {E : XK} (w : Wd B ((b, bagO d c n) :: M) H) (hl : B l = some (.lst xs)) (h0 : 0 < xs.length) (h1 : xs.length ≤ 1000)
    (h : ∀ (i : Nat) (x : V) (d' n' : Int) (H' : Hp), xs[i]? = some x → Wd B ((b, bagO d' c n') :: M) H' → Q x H') : sp_of K Z [.ref b, .ref l] H Q E := ⟨rfl, B, _, 0, b, l, d, c, n, xs, rfl, w, rfl, hl, h0, h1, h⟩
theorem log_small {n : Nat} (h : n ≤ 1000) : ((n : Int)).natAbs.log2 < 9000 := Nat.lt_of_le_of_lt (Nat.log2_le_self _) (by omega)
theorem ok_of {f : Addr} {fd : FuncData} (F : Fun K "_law_of" "_law_of" s_of f fd) (T : Txt K mg Z) (D_take : Dn CX0 P w K mg base "_law_take" 1 ["_law_bag_here", "_law_many"] (sp_take K Z)) : FnOk P w K mg base CX0 2 f fd ["_law_bag_here", "_law_some"] (sp_of K Z) := by
  refine F.ok sc_of (fun vs H Q E h => h.1) (fun cdv A outer s H vs Q E hr h => ?_)
  obtain ⟨_, B, M, k, b, l, d, c, n, xs, rfl, wd, hk, hl, h0, h1, q⟩ := h
  refine ⟨_, (pss_one (ps_ret (pe_ix ix_list (pv 1) (pe_dn D_take hr (by decide) rfl pass0 (pa_cons (pv 0) (pa_cons (pe_callB c_len (by rfl) T.g_len (by decide +kernel) (pa_cons (pv 1) pa_nil)) pa_nil))) (fun _ _ => rfl)))), ?_⟩
  walk_at "sx"
  refine ⟨rfl, B, M, k, b, d, c, n, _, rfl, wd, hk, by omega, log_small h1, fun r d' n' H' r0 r1 w => ?_⟩
  obtain ⟨i, rfl⟩ : ∃ i : Nat, r = i := ⟨r.toNat, by omega⟩
  have hi : i < xs.length := by omega
  exact x_ixL (sl_of (w.im hl)) (atI_nat (List.getElem?_eq_getElem hi)) (q i _ d' n' H' (List.getElem?_eq_getElem hi) w)

abbrev s_under : Stmt := top 26
theorem sc_under : FnScope ["_law_files", "_law_marks", "_law_rows"] [] (defScope s_under) := ⟨rfl, rfl, rfl, by decide +kernel, rfl, by decide +kernel, by decide +kernel⟩
abbrev s_texts : Stmt := top 27
theorem sc_texts : FnScope ["_law_kind", "_law_acts", "_law_asked", "_law_found", "_law_word", "_law_conditions", "_law_condition"] ["_law_kind"] (defScope s_texts) := ⟨rfl, rfl, rfl, by decide +kernel, rfl, by decide +kernel, by decide +kernel⟩
def UNDER : List (Str × List Str) := [("put", FILEC), ("touch", FILEC), ("strike", FILEC), ("row", MARKC), ("done", MARKC), ("drop", MARKC), ("mark", ROWC), ("unmark", ROWC), ("clear", ROWC), ("read", [])]
/-- the table of the acts, as a list that stands -/
def Und (B : Hp) (p : Addr) : Prop := ∃ ts : List V, B p = some (.lst ts) ∧ ts.length = UNDER.length ∧ ∀ (i : Nat) (t : V), ts[i]? = some t → ∃ wc a l, UNDER[i]? = some wc ∧ t = .ref a ∧ B a = some (.tup [.str wc.1, .ref l]) ∧ B l = some (.lst (wc.2.map V.str))
def sp_under (K : PySem.W.Frag) (Z : Ad) : Sp := fun vs H Q _ => vs.length = 0 ∧ ∃ (B : Hp) (M : List (Addr × HO)), vs = [] ∧ Wd B M H ∧ ∀ p B' H', Ex B B' → Und B' p → Wd B' M H' → Q (.ref p) H'
theorem u_under {K : PySem.W.Frag} {Z : Ad} {B H : Hp} {M : List (Addr × HO)} {Q : VK} {E : XK} (w : Wd B M H) (h : ∀ p B' H', Ex B B' → Und B' p → Wd B' M H' → Q (.ref p) H') : sp_under K Z [] H Q E := ⟨rfl, B, M, rfl, w, h⟩
theorem ok_under {f : Addr} {fd : FuncData} (F : Fun K "_law_under" "_law_under" s_under f fd) (T : Txt K mg Z) : FnOk P w K mg base CX0 1 f fd [] (sp_under K Z) := by
  refine F.ok sc_under (fun vs H Q E h => h.1) (fun cdv A outer s H vs Q E hr h => ?_)
  obtain ⟨_, B, M, rfl, wd, q⟩ := h
  refine ⟨_, (pss_cons (ps_set (i := 0) sc_under.nd rfl (Or.inl rfl) (pe_lst (pa_cons pe_str (pa_cons pe_str (pa_cons pe_str (pa_cons pe_str pa_nil))))))
      (pss_cons (ps_set (i := 1) sc_under.nd rfl (Or.inl rfl) (pe_lst (pa_cons pe_str (pa_cons pe_str (pa_cons pe_str (pa_cons pe_str pa_nil))))))
      (pss_cons (ps_set (i := 2) sc_under.nd rfl (Or.inl rfl) (pe_op op_cat (pe_lst (pa_cons pe_str (pa_cons pe_str (pa_cons pe_str (pa_cons pe_str pa_nil))))) (pv 1)))
      (pss_one (ps_ret (pe_lst (pa_cons (pe_tup (pa_cons pe_str (pa_cons (pv 0) pa_nil))) (pa_cons (pe_tup (pa_cons pe_str (pa_cons (pv 0) pa_nil))) (pa_cons (pe_tup (pa_cons pe_str (pa_cons (pv 0) pa_nil))) (pa_cons (pe_tup (pa_cons pe_str (pa_cons (pv 1) pa_nil))) (pa_cons (pe_tup (pa_cons pe_str (pa_cons (pv 1) pa_nil))) (pa_cons (pe_tup (pa_cons pe_str (pa_cons (pv 1) pa_nil))) (pa_cons (pe_tup (pa_cons pe_str (pa_cons (pv 2) pa_nil))) (pa_cons (pe_tup (pa_cons pe_str (pa_cons (pv 2) pa_nil))) (pa_cons (pe_tup (pa_cons pe_str (pa_cons (pv 2) pa_nil))) (pa_cons (pe_tup (pa_cons pe_str (pa_cons (pe_lst pa_nil) pa_nil))) pa_nil)))))))))))))))), ?_⟩
  walk_at "si"
  refine' q _ _ _ ?e ⟨_, ?h, ?r, ?t⟩ ?w
  case w => assumption
  case h => assumption
  case e => walk_at "ex"
  case r => rfl
  case t =>
    intro i t ht
    match i, ht with
    | 0, ht => cases ht; exact ⟨_, _, _, rfl, rfl, (by walk_at "lk"), (by walk_at "lk")⟩
    | 1, ht => cases ht; exact ⟨_, _, _, rfl, rfl, (by walk_at "lk"), (by walk_at "lk")⟩
    | 2, ht => cases ht; exact ⟨_, _, _, rfl, rfl, (by walk_at "lk"), (by walk_at "lk")⟩
    | 3, ht => cases ht; exact ⟨_, _, _, rfl, rfl, (by walk_at "lk"), (by walk_at "lk")⟩
    | 4, ht => cases ht; exact ⟨_, _, _, rfl, rfl, (by walk_at "lk"), (by walk_at "lk")⟩
    | 5, ht => cases ht; exact ⟨_, _, _, rfl, rfl, (by walk_at "lk"), (by walk_at "lk")⟩
    | 6, ht => cases ht; exact ⟨_, _, _, rfl, rfl, (by walk_at "lk"), (by walk_at "lk")⟩
    | 7, ht => cases ht; exact ⟨_, _, _, rfl, rfl, (by walk_at "lk"), (by walk_at "lk")⟩
    | 8, ht => cases ht; exact ⟨_, _, _, rfl, rfl, (by walk_at "lk"), (by walk_at "lk")⟩
    | 9, ht => cases ht; exact ⟨_, _, _, rfl, rfl, (by walk_at "lk"), (by walk_at "lk")⟩
    | i + 10, ht => cases ht
def asked (k : Str) : List Str := FILEC ++ ROWC ++ (if k = "hand" then OWNC else [])
def withIf (w c : Str) : Str := w ++ " if " ++ c
def lookTexts (k w : Str) : List Str := (asked k).map (withIf w)
def actTexts (k : Str) (wc : Str × List Str) : List Str := if (actsOf k).contains wc.1 = true then [wc.1] ++ wc.2.map (withIf wc.1) else []
def texts (k : Str) : List Str := LOOKW.flatMap (lookTexts k) ++ UNDER.flatMap (actTexts k)
def Kind (k : Str) : Prop := k = "hand" ∨ k = "sweep" ∨ k = "reader"
def sp_texts (K : PySem.W.Frag) (Z : Ad) : Sp := fun vs H Q _ => vs.length = 1 ∧ ∃ (B : Hp) (M : List (Addr × HO)) (k : Str), vs = [.str k] ∧ Kind k ∧ Wd B M H ∧ ∀ p B' H', Ex B B' → B' p = some (.lst ((texts k).map V.str)) → Wd B' M H' → Q (.ref p) H'
theorem u_texts {K : PySem.W.Frag} {Z : Ad} {B H : Hp} {M : List (Addr × HO)} {k : Str} {Q : VK} {E : XK} (hk : Kind k) (w : Wd B M H) (h : ∀ p B' H', Ex B B' → B' p = some (.lst ((texts k).map V.str)) → Wd B' M H' → Q (.ref p) H') : sp_texts K Z [.str k] H Q E := ⟨rfl, B, M, k, rfl, hk, w, h⟩
theorem short_look : ∀ w ∈ LOOKW, Sy.Short 10 w := by unfold Sy.Short; decide +kernel
theorem short_all : ∀ w ∈ FILEC ++ ROWC ++ OWNC, Sy.Short 10 w := by unfold Sy.Short; decide +kernel
theorem short_asked {k c : Str} (h : c ∈ asked k) : Sy.Short 10 c := by
  refine short_all c ?_
  unfold asked at h
  split at h
  · exact h
  · rw [List.append_nil] at h
    exact List.mem_append_left _ h
theorem short_under : ∀ wc ∈ UNDER, Sy.Short 10 wc.1 ∧ ∀ c ∈ wc.2, Sy.Short 10 c := by unfold Sy.Short; decide +kernel
theorem take_flat {α β : Type} {f : α → List β} {xs : List α} {i : Nat} {x : α} (h : xs[i]? = some x) : (xs.take (i + 1)).flatMap f = (xs.take i).flatMap f ++ f x := by
  rw [List.take_succ, h, List.flatMap_append]
  simp
theorem flat_le {α β : Type} {f : α → List β} {n : Nat} (hf : ∀ x, (f x).length ≤ n) : ∀ {xs : List α}, (xs.flatMap f).length ≤ xs.length * n
  | [] => by simp
  | x :: xs => by
    rw [List.flatMap_cons, List.length_append, List.length_cons, Nat.add_mul, Nat.one_mul]
    have := flat_le hf (xs := xs)
    have := hf x
    omega
theorem flat_le2 {α β : Type} {f : α → List β} {n : Nat} : ∀ {xs : List α}, (∀ x ∈ xs, (f x).length ≤ n) → (xs.flatMap f).length ≤ xs.length * n
  | [], _ => by simp
  | x :: xs, hf => by
    rw [List.flatMap_cons, List.length_append, List.length_cons, Nat.add_mul, Nat.one_mul]
    have := flat_le2 (xs := xs) fun y hy => hf y (List.mem_cons_of_mem _ hy)
    have := hf x List.mem_cons_self
    omega
theorem len_under : ∀ wc ∈ UNDER, wc.2.length ≤ 8 := by decide +kernel
theorem len_act {k : Str} : ∀ wc ∈ UNDER, (actTexts k wc).length ≤ 9 := by
  intro wc h
  have := len_under wc h
  unfold actTexts
  split
  · rw [List.length_append, List.length_map]; show 1 + _ ≤ 9; omega
  · exact Nat.zero_le _
theorem len_asked (k : Str) : (asked k).length ≤ 14 := by
  unfold asked
  split <;> decide
theorem len_look (k w : Str) : (lookTexts k w).length ≤ 14 := by unfold lookTexts; rw [List.length_map]; exact len_asked k
theorem ok_texts {f : Addr} {fd : FuncData} (F : Fun K "_law_texts" "_law_texts" s_texts f fd) (T : Txt K mg Z) (D_under : Dn CX0 P w K mg base "_law_under" 1 [] (sp_under K Z)) : FnOk P w K mg base CX0 2 f fd ["_law_kind"] (sp_texts K Z) := by
  refine F.ok sc_texts (fun vs H Q E h => h.1) (fun cdv A outer s H vs Q E hr h => ?_)
  obtain ⟨_, B, M, k, rfl, hk, wd, q⟩ := h
  refine ⟨_, (pss_cons (ps_set (i := 1) sc_texts.nd rfl (Or.inl rfl) (pe_dget (hu_of hr) (pe_disp (pps_cons pe_str (pe_lst (pa_cons pe_str (pa_cons pe_str (pa_cons pe_str (pa_cons pe_str (pa_cons pe_str (pa_cons pe_str (pa_cons pe_str (pa_cons pe_str pa_nil))))))))) (pps_cons pe_str (pe_lst (pa_cons pe_str (pa_cons pe_str (pa_cons pe_str (pa_cons pe_str (pa_cons pe_str pa_nil)))))) (pps_cons pe_str (pe_lst (pa_cons pe_str (pa_cons pe_str pa_nil))) pps_nil))) (by rfl) (by rfl) (fun z => by cases z) (by decide)) (pv 0) (fun _ _ => rfl)))
      (pss_cons (ps_set (i := 2) sc_texts.nd rfl (Or.inl rfl) (pe_lst (pa_cons pe_str (pa_cons pe_str (pa_cons pe_str (pa_cons pe_str (pa_cons pe_str (pa_cons pe_str (pa_cons pe_str (pa_cons pe_str (pa_cons pe_str (pa_cons pe_str (pa_cons pe_str (pa_cons pe_str pa_nil))))))))))))))
      (pss_cons (ps_hold (ps_set (i := 2) sc_texts.nd rfl (Or.inl rfl) (pe_op op_cat (pv 2) (pe_ifExp (pt_cmpR op_eq (pv 0) pe_str (nomark _)) (pe_lst (pa_cons pe_str (pa_cons pe_str pa_nil))) (pe_lst pa_nil)))))
      (pss_cons (ps_set (i := 3) sc_texts.nd rfl (Or.inl rfl) (pe_lst pa_nil))
      (pss_cons (ps_for PassesOwn.never rfl (pi_list (pe_lst (pa_cons pe_str (pa_cons pe_str (pa_cons pe_str pa_nil))))) (pg_name (i := 4) sc_texts.nd rfl (Or.inr rfl))
      (pss_one (ps_expr (pe_bm PySem.F.plainAttrs_list PySem.F.slot_list_extend PySem.F.type_list_extend mt_extend (pv 3) (pa_cons (pe_lc (own := [("_law_condition", 6)]) rfl sc_texts.nd (pi_list (pv 2)) (blkOk_by (own := [("_law_condition", 6)]) (N := ["_law_kind", "_law_acts", "_law_asked", "_law_found", "_law_word", "_law_conditions", "_law_condition"]) (sc := defScope s_texts) (by decide +kernel)) (fun _ _ _ _ _ => (pg_name (i := 6) sc_texts.nd rfl (Or.inl rfl))) (fun _ _ _ _ _ => pts_nil) (fun _ _ _ _ _ => (pe_op op_addS (pe_op op_addS (pv 4) pe_str) (pv 6)))) pa_nil)))))
      (pss_cons (ps_for PassesOwn.never rfl (pi_list (pe_dn0 D_under hr (by decide) rfl pass0)) (pg_tup rfl (pgs_cons (pg_name (i := 4) sc_texts.nd rfl (Or.inr rfl)) (pgs_cons (pg_name (i := 5) sc_texts.nd rfl (Or.inl rfl)) pgs_nil)))
      (pss_one (ps_if (pt_cmpR (op_inK (K := K)) (pv 4) (pv 1) (by with_unfolding_all rfl))
      (pss_one (ps_expr (pe_bm PySem.F.plainAttrs_list PySem.F.slot_list_extend PySem.F.type_list_extend mt_extend (pv 3) (pa_cons (pe_op op_cat (pe_lst (pa_cons (pv 4) pa_nil)) (pe_lc (own := [("_law_condition", 6)]) rfl sc_texts.nd (pi_list (pv 5)) (blkOk_by (own := [("_law_condition", 6)]) (N := ["_law_kind", "_law_acts", "_law_asked", "_law_found", "_law_word", "_law_conditions", "_law_condition"]) (sc := defScope s_texts) (by decide +kernel)) (fun _ _ _ _ _ => (pg_name (i := 6) sc_texts.nd rfl (Or.inl rfl))) (fun _ _ _ _ _ => pts_nil) (fun _ _ _ _ _ => (pe_op op_addS (pe_op op_addS (pv 4) pe_str) (pv 6))))) pa_nil))))
      pss_nil)))
      (pss_one (ps_ret (pv 3))))))))), ?_⟩
  walk_at "si"
  refine x_dispE [(Sum.inr "hand", _), (Sum.inr "sweep", _), (Sum.inr "reader", _)] (by assumption) rfl (show 3 ≤ 15 by decide) fun B1 H1 e1 hd w1 => ?_
  walk_at "sx"
  obtain ⟨l, hl, hB⟩ : ∃ l, valV (mergeK [] [(Sum.inr "hand", _), (Sum.inr "sweep", _), (Sum.inr "reader", _)]) (Sum.inr k) = some (.ref l) ∧ B1 l = some (.lst ((actsOf k).map V.str)) := by
    rcases hk with rfl | rfl | rfl
    · exact ⟨_, rfl, (by walk_at "lk")⟩
    · exact ⟨_, rfl, (by walk_at "lk")⟩
    · exact ⟨_, rfl, (by walk_at "lk")⟩
  have e1' : Ex B B1 := by walk_at "ex"
  refine x_dgt (w1.im hd) hl ?_
  walk_at "si"
  refine x_hold (fun σ' H' => ∃ (pq : Addr) (B' : Hp), σ' = [some (.str k), some (.ref l), some (.ref pq), none, none, none, none] ∧ Ex B1 B' ∧ B' pq = some (.lst ((asked k).map V.str)) ∧ Wd B' M H') ?h1 ?h2
  case h2 =>
    intro N hN
    walk_at "sx"
    refine i_d (fun e => ?_) (fun e => ?_)
    · walk_at "si"
      refine' hN _ _ ⟨_, _, rfl, ?e, ?a, ?w⟩
      case w => assumption
      case e => walk_at "ex"
      case a =>
        rw [show asked k = FILEC ++ ROWC ++ OWNC by unfold asked; rw [if_pos e]]
        assumption
    · walk_at "si"
      refine' hN _ _ ⟨_, _, rfl, ?e, ?a, ?w⟩
      case w => assumption
      case e => walk_at "ex"
      case a =>
        rw [show asked k = FILEC ++ ROWC ++ [] by unfold asked; rw [if_neg e]]
        assumption
  case h1 =>
    rintro σ' H' ⟨pq, B2, rfl, e2, hq, w2⟩
    walk_at "sx"
    refine x_klM w2 rfl fun f H3 w3 => ?_
    walk_at "si"
    rename_i pl B3 H4 e3 hl3 w4
    refine x_forL (xs := LOOKW.map V.str) (fun i σ' H' => ∃ (v4 : Option V) (B' : Hp), σ' = [some (.str k), some (.ref l), some (.ref pq), some (.ref f), v4, none, none] ∧ Wd B' ((f, .lst (((LOOKW.take i).flatMap (lookTexts k)).map V.str)) :: M) H' ∧ Ex B3 B') (sl_of (w4.im hl3)) ⟨_, _, rfl, w4, Ex.rf _⟩
      (fun i σ H _ ⟨_, B', _, w, e⟩ => sl_of (w.im (e _ _ hl3))) ?hs ?hd
    case hs =>
      rintro i x σ' H' hx ⟨v4, B', rfl, w, e⟩
      obtain ⟨z, rfl, hz⟩ := map_getS hx
      have zs := short_look z (List.mem_of_getElem? hz)
      have hq3 : B' pq = some (.lst ((asked k).map V.str)) := e _ _ (e3 _ _ hq)
      walk_at "sx"
      refine x_lcL (xs := (asked k).map V.str) w (fun H' e mu => sl_of (e _ _ hq3)) (fun i acc B' => acc = ((asked k).take i).map fun c => V.str (withIf z c)) (by rw [List.length_map]; have := len_asked k; omega) rfl ?hs1 ?hd1
      case hs1 =>
        rintro j x _ D B4 H5 hxj hj rfl e4 ha w5
        obtain ⟨c, rfl, hc⟩ := map_getS hxj
        have cs := short_asked (List.mem_of_getElem? hc)
        walk_at "sx"
        refine ⟨rfl, ?_⟩
        walk_at "sx"
        refine lc_y w5 e4 ha hj ?_
        exact (take_map_succ hc).symm
      case hd1 =>
        rintro _ D B4 H5 rfl e4 w5
        walk_at "sx"
        refine x_extend w5 (k := 1) rfl (w5.get (k := 0) rfl) ?_ fun H6 w6 => ?_
        · rw [List.length_map, List.length_map, List.length_take]
          have h1 := len_asked k
          have h2 := flat_le (f := lookTexts k) (n := 14) (len_look k) (xs := LOOKW.take i)
          have h3 : (LOOKW.take i).length ≤ 3 := List.length_take_le' i LOOKW
          omega
        walk_at "sx"
        refine ⟨_, B4, rfl, ?_, e.tr e4⟩
        have w7 := w6.drop
        rw [take_flat hz, List.map_append]
        unfold lookTexts at *
        rw [List.length_map, List.take_length] at w7
        rw [List.map_map]
        exact w7
    case hd =>
      rintro σ' H' ⟨v4, B', rfl, w, e⟩
      walk_at "sx"
      refine u_under w fun p5 B5 H5 e5 ⟨ts, ht, hl5, hts⟩ w5 => ?_
      rw [List.length_map, List.take_length] at w5
      have lk1 : (LOOKW.flatMap (lookTexts k)).length ≤ 3 * 14 := flat_le (len_look k)
      refine x_forL (xs := ts) (fun i σ' H' => ∃ (v4 v5 : Option V) (B' : Hp), σ' = [some (.str k), some (.ref l), some (.ref pq), some (.ref f), v4, v5, none] ∧ Wd B' ((f, .lst ((LOOKW.flatMap (lookTexts k) ++ (UNDER.take i).flatMap (actTexts k)).map V.str)) :: M) H' ∧ Ex B5 B') (sl_of (w5.im ht)) ⟨_, _, _, rfl, by rw [List.take_zero, List.flatMap_nil, List.append_nil]; exact w5, Ex.rf _⟩
        (fun i σ H _ ⟨_, _, B', _, w, e⟩ => sl_of (w.im (e _ _ ht))) ?hs ?hd
      case hs =>
        rintro i t σ' H' hx ⟨v4, v5, B', rfl, w, e6⟩
        obtain ⟨wc, a, l2, hu, rfl, ha, hl2⟩ := hts i t hx
        have hm := List.mem_of_getElem? hu
        obtain ⟨zs, css⟩ := short_under wc hm
        have l8 := len_under wc hm
        have ha' := e6 _ _ ha
        have hl' := e6 _ _ hl2
        have hB' : B' l = some (.lst ((actsOf k).map V.str)) := e6 _ _ (e5 _ _ (e _ _ (e3 _ _ (e2 _ _ hB))))
        have lk2 := flat_le2 (f := actTexts k) (n := 9) (xs := UNDER.take i) fun y hy => len_act y (List.mem_of_mem_take hy)
        have lk3 : (UNDER.take i).length ≤ 10 := List.length_take_le' i UNDER
        walk_at "sx"
        refine i_b (fun hin => ?_) (fun hin => ?_)
        · walk_at "si"
          rename_i p6 B6 H6 e7 h6 w6
          refine x_lcL (xs := wc.2.map V.str) w6 (fun H' e mu => sl_of (e _ _ (e7 _ _ hl'))) (fun i acc B' => acc = (wc.2.take i).map fun c => V.str (withIf wc.1 c)) (by rw [List.length_map]; omega) rfl ?hs1 ?hd1
          case hs1 =>
            rintro j x _ D B4 H5 hxj hj rfl e4 hacc w5
            obtain ⟨c, rfl, hc⟩ := map_getS hxj
            have cs := css c (List.mem_of_getElem? hc)
            walk_at "sx"
            refine ⟨rfl, ?_⟩
            walk_at "sx"
            refine lc_y w5 e4 hacc hj ?_
            exact (take_map_succ hc).symm
          case hd1 =>
            rintro _ D B4 H5 rfl e4 w5
            rw [List.length_map, List.take_length] at w5
            walk_at "sx"
            refine x_cat w5 (w5.im (e4 _ _ h6)) (w5.get (k := 0) rfl) (Nat.ble_eq_true_of_le (by rw [List.length_map]; show 1 + _ ≤ _; omega)) fun p7 B7 H7 e8 h7 w7 => ?_
            walk_at "sx"
            refine x_extend w7 (k := 1) rfl (w7.im h7) ?_ fun H8 w8 => ?_
            · rw [List.length_map, List.length_append, List.length_append, List.length_map]
              show _ + (1 + _) ≤ _
              omega
            walk_at "sx"
            refine ⟨_, _, B7, rfl, ?_, e6.tr (e7.tr (e4.tr e8))⟩
            have w9 := w8.drop
            rw [take_flat hu, ← List.append_assoc]
            have ea : actTexts k wc = [wc.1] ++ wc.2.map (withIf wc.1) := by unfold actTexts; rw [if_pos hin]
            rw [ea]
            simp only [List.map_append, List.map_map, List.map_cons, List.map_nil, List.append_assoc] at w9 ⊢
            exact w9
        · walk_at "sx"
          refine ⟨_, _, B', rfl, ?_, e6⟩
          have ea : actTexts k wc = [] := by unfold actTexts; rw [if_neg (by rw [hin]; decide)]
          rw [take_flat hu, ea, List.append_nil]
          exact w
      case hd =>
        rintro σ' H' ⟨v4, v5, B', rfl, w, e6⟩
        rw [hl5, List.take_length] at w
        walk_at "sx"
        refine q f _ _ (e1'.tr (e2.tr (e3.tr (e.tr (e5.tr (e6.tr w.fz)))))) upd_same w.freeze

/-! ### which texts are statements: cut at the blanks, and the table -/
theorem spl_ne (S : List Nat) : ∀ (l : List Nat) (k : Nat) (acc : List Nat), TL.spl S k acc l ≠ []
  | [], k, acc => by rw [TL.spl_nil]; simp
  | c :: r, 0, acc => by
    cases h : TL.pre S (c :: r) with
    | true => rw [TL.spl_hit h]; simp
    | false => rw [TL.spl_miss h]; exact spl_ne S r 0 _
  | c :: r, k + 1, acc => spl_ne S r k acc
theorem join_spl (s : Nat) : ∀ (l acc : List Nat), TL.joinL [s] (TL.spl [s] 0 acc l) = acc ++ l
  | [], acc => by rw [TL.spl_nil, List.append_nil]; rfl
  | c :: r, acc => by
    cases h : TL.pre [s] (c :: r) with
    | true =>
      have e : c = s := by
        have q : ([c] == [s]) = true := h
        have := beq_iff_eq.mp q
        exact List.cons.inj this |>.1
      rw [TL.spl_hit h]
      have ih := join_spl s r []
      have ne := spl_ne [s] r 0 []
      show TL.joinL [s] (acc :: TL.spl [s] 0 [] r) = _
      cases hx : TL.spl [s] 0 [] r with
      | nil => exact absurd hx ne
      | cons q t =>
        rw [hx] at ih
        show acc ++ ([s] ++ TL.joinL [s] (q :: t)) = acc ++ c :: r
        rw [ih, e]
        rfl
    | false =>
      rw [TL.spl_miss h, join_spl s r (acc ++ [c]), List.append_assoc]
      rfl
theorem blank : (" " : Str) = SX.S [32] := by decide +kernel
theorem split_eq (z : Str) : Txt.split z " " = (TL.spl [32] 0 [] (TL.tl z)).map SX.S := by
  have h := SX.split_S (a := TL.tl z) (b := [32]) (by simp) (by decide)
  rw [SX.S_tl, ← blank] at h
  exact h
theorem split_join (z : Str) : TL.joinL [32] ((Txt.split z " ").map TL.tl) = TL.tl z := by
  rw [split_eq, SX.map_S_tl, join_spl]
  rfl
theorem split1 {z a : Str} (h : Txt.split z " " = [a]) : z = a := by
  have e := split_join z
  rw [h] at e
  exact TL.ext_tl e.symm
theorem split3 {z w c : Str} (h : Txt.split z " " = [w, "if", c]) : z = withIf w c := by
  have e := split_join z
  rw [h] at e
  refine TL.ext_tl ?_
  unfold withIf
  rw [TL.tl_append, TL.tl_append, ← e]
  show TL.tl w ++ ([32] ++ (TL.tl ("if" : Str) ++ ([32] ++ TL.tl c))) = _
  have i1 : TL.tl (" if " : Str) = [32] ++ (TL.tl ("if" : Str) ++ [32]) := by decide +kernel
  rw [i1]
  simp only [List.append_assoc]
theorem in_acts : ∀ k ∈ (["hand", "sweep", "reader"] : List Str), ∀ a ∈ actsOf k, (texts k).contains a = true := by decide +kernel
theorem in_conds : ∀ k ∈ (["hand", "sweep", "reader"] : List Str), ∀ w ∈ LOOKW ++ actsOf k, ∀ c ∈ condsOf w k, (texts k).contains (withIf w c) = true := by decide +kernel
theorem in_texts : ∀ k ∈ (["hand", "sweep", "reader"] : List Str), ∀ z ∈ texts k, mayW k z ((TL.spl [32] 0 [] (TL.tl z)).map SX.S) = true := by decide +kernel
theorem kind_mem {k : Str} (h : Kind k) : k ∈ (["hand", "sweep", "reader"] : List Str) := by
  rcases h with rfl | rfl | rfl <;> simp
theorem conds_in {w k c : Str} (h : (condsOf w k).contains c = true) : w ∈ LOOKW ++ actsOf k := by
  by_cases h1 : LOOKW.contains w = true
  · exact List.mem_append_left _ (List.contains_iff_mem.mp h1)
  · by_cases h2 : (actsOf k).contains w = true
    · exact List.mem_append_right _ (List.contains_iff_mem.mp h2)
    · unfold condsOf at h
      rw [if_neg h1, if_neg h2] at h
      cases h
theorem may_texts {k : Str} (hk : Kind k) (z : Str) : mayHave k z = (texts k).contains z := by
  refine Bool.eq_iff_iff.mpr ⟨fun h => ?_, fun h => ?_⟩
  · have hm : mayHave k z = mayW k z (Txt.split z " ") := rfl
    rw [hm] at h
    cases e : Txt.split z " " with
    | nil => rw [e] at h; cases h
    | cons a r =>
      rw [e] at h
      match r, h, e with
      | [], h, e => exact in_acts k (kind_mem hk) z (List.contains_iff_mem.mp h)
      | [i, c], h, e =>
        have h' : (decide (i = "if") && (condsOf a k).contains c) = true := h
        rw [Bool.and_eq_true] at h'
        have hi : i = "if" := of_decide_eq_true h'.1
        subst hi
        rw [split3 e]
        exact in_conds k (kind_mem hk) a (conds_in h'.2) c (List.contains_iff_mem.mp h'.2)
      | [_], h, _ => cases h
      | _ :: _ :: _ :: _, h, _ => cases h
  · have q := in_texts k (kind_mem hk) z (List.contains_iff_mem.mp h)
    rw [← split_eq] at q
    exact q

abbrev s_tried : Stmt := top 29
theorem sc_tried : FnScope ["_law_text", "_law_kind", "_law_made", "e"] ["_law_text", "_law_kind"] (defScope s_tried) := ⟨rfl, rfl, rfl, by decide +kernel, rfl, by decide +kernel, by decide +kernel⟩
/-- the statement, or a tuple of the text -/
def sp_tried (K : PySem.W.Frag) (Z : Ad) : Sp := fun vs H Q _ => vs.length = 2 ∧ ∃ (B : Hp) (M : List (Addr × HO)) (z k : Str), vs = [.str z, .str k] ∧ z.length ≤ 50000 ∧ Wd B M H ∧
  (mayHave k z = true → ∀ x B' H', Ex B B' → StAt Z B' x z → Wd B' M H' → Q (.ref x) H') ∧ (mayHave k z = false → ∀ t B' H', Ex B B' → B' t = some (.tup [.str z]) → Wd B' M H' → Q (.ref t) H')
theorem u_tried {K : PySem.W.Frag} {Z : Ad} {B H : Hp} {M : List (Addr × HO)} {z k : Str} {Q : VK} {E : XK} (hz : z.length ≤ 50000) (w : Wd B M H)
    (h1 : mayHave k z = true → ∀ x B' H', Ex B B' → StAt Z B' x z → Wd B' M H' → Q (.ref x) H') (h2 : mayHave k z = false → ∀ t B' H', Ex B B' → B' t = some (.tup [.str z]) → Wd B' M H' → Q (.ref t) H') : sp_tried K Z [.str z, .str k] H Q E := ⟨rfl, B, M, z, k, rfl, hz, w, h1, h2⟩
theorem ok_tried {f : Addr} {fd : FuncData} (F : Fun K "_law_tried" "_law_tried" s_tried f fd) (T : Txt K mg Z) (MK_Statement_init_2_kind : MtK (L2.CX P w) P w K mg base Z.Statement "__init__" 4 2 ["kind"] ["self", "text", "kind"] (sp_Statement_init K Z)) : FnOk P w K mg base CX0 6 f fd ["_law_text", "_law_kind"] (sp_tried K Z) := by
  refine F.ok sc_tried (fun vs H Q E h => h.1) (fun cdv A outer s H vs Q E hr h => ?_)
  obtain ⟨_, B, M, z, k, rfl, hz, wd, q1, q2⟩ := h
  refine ⟨_, (pss_cons (ps_try_as (i := 3) rfl rfl sc_tried.nd rfl rfl ⟨rfl, by decide, Or.inl T.g_StrayfilesError⟩ takes0 (fun W pn xe tk _ => (pss_one (ps_set (i := 2) sc_tried.nd rfl (Or.inl rfl) (pe_klKS T.c_Statement MK_Statement_init_2_kind hr (by decide) rfl (fun σ => passAt tk σ) (pa_cons (pv 0) pa_nil) (pk_cons (pv 1) pk_nil)))))
      (fun a oe cls d pn hz hf => (pss_cons (ps_if (PW.pt (pw_or (pt_not (pt_val (pe_callB (call_isD hz hf) (by rfl) T.g_isinstance (by decide +kernel) (pa_cons (pv 3) (pa_cons (pe_en T.g_BadStatement rfl) pa_nil))))) (pw_or (pt_not (pt_val (pe_callB (call_isD hz hf) (by rfl) T.g_isinstance (by decide +kernel) (pa_cons (pv 3) (pa_cons (pe_tyn (n := "ValueError") rfl T.g_ValueError (by decide +kernel)) pa_nil))))) (pw_or1 (pt_val (pe_callB (call_isD hz hf) (by rfl) T.g_isinstance (by decide +kernel) (pa_cons (pv 3) (pa_cons (pe_en T.g_NoHandler rfl) pa_nil))))))))
      (pss_one (ps_ret pe_non))
      pss_nil)
      (pss_one (ps_ret (pe_tup (pa_cons (pe_xf T.e_BadStatement.xf T.e_BadStatement.noF hz hf (pv 3)) pa_nil)))))))
      (pss_one (ps_ret (pv 2)))), ?_⟩
  walk_at "sx"
  refine u_stmt wd (.str hz) (fun z' x B' H' ez hm e hx w => ?_) (fun hm d B' H' e hd w => ?_)
  · cases ez
    walk_at "sx"
    exact q1 hm x B' H' e hx w
  · refine x_as (T.s_BadStatement_StrayfilesError.exm T.xb_StrayfilesError) fun a na => ?_
    walk_at "sx"
    refine x_isD T.i_BadStatement (w.im hd) (.own _) T.s_BadStatement_BadStatement.kit ?_
    walk_at "sx"
    refine x_isD T.i_BadStatement (w.im hd) (.ty _) T.sy_BadStatement_ValueError ?_
    walk_at "sx"
    refine x_isD T.i_BadStatement (w.im hd) (.own _) T.s_BadStatement_NoHandler.kit ?_
    walk_at "sx"
    refine' q2 hm _ _ _ ?e ?t ?w
    case w => assumption
    case t => assumption
    case e => walk_at "ex"

abbrev s_right : Stmt := top 30
theorem sc_right : FnScope ["_law_text", "_law_word", "_law_condition", "_law_kind", "_law_made"] ["_law_text", "_law_word", "_law_condition", "_law_kind"] (defScope s_right) := ⟨rfl, rfl, rfl, by decide +kernel, rfl, by decide +kernel, by decide +kernel⟩
def WORDS : List Str := ["stop", "skip", "again", "put", "touch", "strike", "row", "done", "drop", "mark", "unmark", "clear", "read"]
def CONDS : List Str := FILEC ++ ROWC ++ OWNC
/-- a word, a condition or None, and their text -/
def WcOk (w : Str) (cv : V) (z : Str) : Prop := w ∈ WORDS ∧ ((cv = .non ∧ z = w) ∨ ∃ c ∈ CONDS, cv = .str c ∧ z = withIf w c)
theorem word_cut : ∀ w ∈ WORDS, (TL.spl [32] 0 [] (TL.tl w)).map SX.S = [w] := by decide +kernel
theorem cond_cut : ∀ w ∈ WORDS, ∀ c ∈ CONDS, (TL.spl [32] 0 [] (TL.tl (withIf w c))).map SX.S = [w, "if", c] := by decide +kernel
theorem word_ok : ∀ w ∈ WORDS, w.length ≤ 50000 ∧ PyData.strOk w = true := by decide +kernel
theorem cond_ok : ∀ w ∈ WORDS, ∀ c ∈ CONDS, (withIf w c).length ≤ 50000 ∧ PyData.strOk (withIf w c) = true := by decide +kernel
theorem WcOk.fit {w z : Str} {cv : V} (h : WcOk w cv z) : z.length ≤ 50000 ∧ PyData.strOk z = true := by
  obtain ⟨hw, ⟨_, rfl⟩ | ⟨c, hc, _, rfl⟩⟩ := h
  · exact word_ok _ hw
  · exact cond_ok _ hw _ hc
theorem WcOk.word {w z : Str} {cv : V} (h : WcOk w cv z) : wordV z = .str w := by
  obtain ⟨hw, ⟨_, rfl⟩ | ⟨c, hc, _, rfl⟩⟩ := h
  · unfold wordV; rw [split_eq, word_cut _ hw]
  · unfold wordV; rw [split_eq, cond_cut _ hw _ hc]
theorem WcOk.cond {w z : Str} {cv : V} (h : WcOk w cv z) : condV z = cv := by
  obtain ⟨hw, ⟨rfl, rfl⟩ | ⟨c, hc, rfl, rfl⟩⟩ := h
  · unfold condV; rw [split_eq, word_cut _ hw]
  · unfold condV; rw [split_eq, cond_cut _ hw _ hc]
def sp_right (K : PySem.W.Frag) (Z : Ad) : Sp := fun vs H Q _ => vs.length = 4 ∧ ∃ (B : Hp) (M : List (Addr × HO)) (z w k : Str) (cv : V), vs = [.str z, .str w, cv, .str k] ∧ Kind k ∧ WcOk w cv z ∧ Wd B M H ∧ ∀ B' H', Ex B B' → Wd B' M H' → Q (.bl true) H'
theorem u_right {K : PySem.W.Frag} {Z : Ad} {B H : Hp} {M : List (Addr × HO)} {z w k : Str} {cv : V} {Q : VK} {E : XK} (hk : Kind k) (hz : WcOk w cv z) (wd : Wd B M H) (h : ∀ B' H', Ex B B' → Wd B' M H' → Q (.bl true) H') : sp_right K Z [.str z, .str w, cv, .str k] H Q E :=
  ⟨rfl, B, M, z, w, k, cv, rfl, hk, hz, wd, h⟩
theorem ok_right {f : Addr} {fd : FuncData} (F : Fun K "_law_right" "_law_right" s_right f fd) (T : Txt K mg Z) (D_tried : Dn CX0 P w K mg base "_law_tried" 6 ["_law_text", "_law_kind"] (sp_tried K Z)) (D_texts : Dn CX0 P w K mg base "_law_texts" 2 ["_law_kind"] (sp_texts K Z)) (M_Statement_str : Mt CX0 P w K mg base Z.Statement "__str__" 1 ["self"] (sp_Statement_str K Z)) (P_Statement_is_look : Pt CX0 P w K mg base Z.Statement "is_look" 1 ["self"] (sp_Statement_is_look K Z)) (M_Statement_eq : Mt CX0 P w K mg base Z.Statement "__eq__" 1 ["self", "other"] (sp_Statement_eq K Z)) (MK_Statement_init_2_kind : MtK (L2.CX P w) P w K mg base Z.Statement "__init__" 4 2 ["kind"] ["self", "text", "kind"] (sp_Statement_init K Z)) : FnOk P w K mg base CX0 7 f fd ["_law_text", "_law_word", "_law_condition", "_law_kind"] (sp_right K Z) := by
  refine F.ok sc_right (fun vs H Q E h => h.1) (fun cdv A outer s H vs Q E hr h => ?_)
  obtain ⟨_, B, M, z, w, k, cv, rfl, hk, hz, wd, q⟩ := h
  obtain ⟨hl, ho⟩ := hz.fit
  refine ⟨_, (pss_cons (ps_set (i := 4) sc_right.nd rfl (Or.inl rfl) (pe_dn D_tried hr (by decide) rfl pass0 (pa_cons (pv 0) (pa_cons (pv 3) pa_nil))))
      (pss_cons (ps_if (pt_cmpR (op_ninK (K := K)) (pv 0) (pe_dn D_texts hr (by decide) rfl pass0 (pa_cons (pv 3) pa_nil)) (by with_unfolding_all rfl))
      (pss_one (ps_ret (pe_cmpR (op_eqD hr.units) (pv 4) (pe_tup (pa_cons (pv 0) pa_nil)) (nomark _))))
      pss_nil)
      (pss_cons (ps_if (PW.pt (pw_or (pt_not (pt_val (pe_callB call_isi (by rfl) T.g_isinstance (by decide +kernel) (pa_cons (pv 4) (pa_cons (pe_kn T.c_Statement rfl) pa_nil))))) (pw_or (pt_cmpR op_ne (pe_fld (pv 4) rfl) (pv 0) (nomark _)) (pw_or (pt_cmpR op_ne (pe_fld (pv 4) rfl) (pv 1) (nomark _)) (pw_or1 (pt_cmpR op_ne (pe_fld (pv 4) rfl) (pv 2) (nomark _)))))))
      (pss_one (ps_ret pe_bl))
      pss_nil)
      (pss_cons (ps_if (PW.pt (pw_or (pt_cmpR op_ne (pe_callB c_reprB (by rfl) T.g_repr (by decide +kernel) (pa_cons (pe_pt (pv 4) T.c_Statement P_Statement_is_look hr (by decide) pass0) pa_nil)) (pe_callB c_reprB (by rfl) T.g_repr (by decide +kernel) (pa_cons (pe_cmpR (op_inK (K := K)) (pv 1) (pe_lst (pa_cons pe_str (pa_cons pe_str (pa_cons pe_str pa_nil)))) (by with_unfolding_all rfl)) pa_nil)) (nomark _)) (pw_or1 (pt_cmpR op_ne (pe_callTy (call_strO M_Statement_str hr (by decide) pass0) (by rfl) T.g_str (by decide +kernel) (pa_cons (pv 4) pa_nil)) (pv 0) (nomark _)))))
      (pss_one (ps_ret pe_bl))
      pss_nil)
      (pss_cons (ps_if (PW.pt (pw_or (pt_not (pt_val (pe_callB call_isi (by rfl) T.g_isinstance (by decide +kernel) (pa_cons (pe_fld (pv 4) rfl) (pa_cons (pe_tyn (n := "str") rfl T.g_str (by decide +kernel)) pa_nil))))) (pw_or1 (PW.pt (pw_and (pt_cmpR op_isNone (pv 2) pe_non (nomark _)) (pw_and1 (pt_cmpR op_notNone (pe_fld (pv 4) rfl) pe_non (nomark _))))))))
      (pss_one (ps_ret pe_bl))
      pss_nil)
      (pss_one (ps_ret (pe_and (pe_cmpR (cmp_own M_Statement_eq hr (by decide) pass0) (pv 4) (pe_klK T.c_Statement MK_Statement_init_2_kind hr (by decide) rfl passF (pa_cons (pv 0) pa_nil) (pk_cons (pv 3) pk_nil)) (nomark _)) (pe_and (pe_cmpR (cmp_neD M_Statement_eq T.ne_Statement hr (by decide) pass0) (pv 4) (pv 0) (nomark _)) (pe_one (pe_not (pe_cmpR (cmp_own M_Statement_eq hr (by decide) pass0) (pv 4) (pv 0) (nomark _))))))))))))), ?_⟩
  walk_at "sx"
  refine u_tried hl wd (fun hm x B1 H1 e1 hx w1 => ?_) (fun hm t B1 H1 e1 ht w1 => ?_)
  · have hm' := hm
    rw [may_texts hk] at hm
    obtain ⟨dx, hdx⟩ := id hx
    have hcv : cv = .non ∨ ∃ c, cv = .str c := by
      obtain ⟨_, ⟨e, _⟩ | ⟨c, _, e, _⟩⟩ := hz
      · exact .inl e
      · exact .inr ⟨c, e⟩
    walk_at "sx"
    refine u_texts hk w1 fun p B2 H2 e2 hp w2 => ?_
    walk_at "sx"
    rw [hm]
    walk_at "sx"
    rw [hz.word]
    walk_at "sx"
    rw [hz.cond]
    refine x_neSame (by obtain rfl | ⟨c, rfl⟩ := hcv; exact .inr rfl; exact .inl ⟨c, rfl⟩) ?_
    walk_at "si"
    refine u_look w2 (hx.up e2) hz.word ?_
    walk_at "si"
    refine x_inL (xs := LOOKW) (by walk_at "sl") ?_
    walk_at "si"
    refine u_stStr (by assumption) (by walk_at "sa") ?_
    walk_at "sx"
    rw [hz.word]
    walk_at "sx"
    have fin : ∀ (B3 : Hp) (H3 : Hp), Ex B2 B3 → Wd B3 M H3 → Q (.bl true) H3 := fun B3 H3 e w => q _ _ (e1.tr (e2.tr e)) w
    obtain rfl | ⟨c, rfl⟩ := hcv
    · walk_at "sx"
      rw [hz.cond]
      walk_at "sx"
      refine' u_stmt ?w (.str hl) (fun z' x' B' H' ez hm2 e hx' w' => ?_) (fun hn => absurd hm' (by rw [show mayHave k z = false from hn]; decide))
      case w => assumption
      cases ez
      refine u_stEqs T.c_Statement.ic (by assumption) (by walk_at "sa") (by assumption) ?_
      rw [decide_eq_true rfl]
      walk_at "sx"
      refine u_stNeO (by assumption) (by walk_at "sa") (.base (.str _)) T.ns_Statement_str ?_
      walk_at "sx"
      refine u_stEqO (by assumption) (by walk_at "sa") (.base (.str _)) T.ns_Statement_str ?_
      walk_at "sx"
      refine fin _ _ ?_ (by assumption)
      walk_at "ex"
    · walk_at "sx"
      refine' u_stmt ?w (.str hl) (fun z' x' B' H' ez hm2 e hx' w' => ?_) (fun hn => absurd hm' (by rw [show mayHave k z = false from hn]; decide))
      case w => assumption
      cases ez
      refine u_stEqs T.c_Statement.ic (by assumption) (by walk_at "sa") (by assumption) ?_
      rw [decide_eq_true rfl]
      walk_at "sx"
      refine u_stNeO (by assumption) (by walk_at "sa") (.base (.str _)) T.ns_Statement_str ?_
      walk_at "sx"
      refine u_stEqO (by assumption) (by walk_at "sa") (.base (.str _)) T.ns_Statement_str ?_
      walk_at "sx"
      refine fin _ _ ?_ (by assumption)
      walk_at "ex"
  · rw [may_texts hk] at hm
    walk_at "sx"
    refine u_texts hk w1 fun p B2 H2 e2 hp w2 => ?_
    walk_at "sx"
    rw [hm]
    walk_at "sx"
    refine q _ _ ?_ (by assumption)
    walk_at "ex"

abbrev s_equals : Stmt := top 31
theorem sc_equals : FnScope ["_law_bag_here", "_law_text", "_law_kind", "_law_holders", "_law_other", "_law_another"] ["_law_bag_here", "_law_text"] (defScope s_equals) := ⟨rfl, rfl, rfl, by decide +kernel, rfl, by decide +kernel, by decide +kernel⟩
def KINDS : List Str := ["hand", "sweep", "reader"]
theorem kind_at {i : Nat} {k : Str} (h : KINDS[i]? = some k) : Kind k := by
  have := List.mem_of_getElem? h
  simpa [KINDS, Kind] using this
def holders (z : Str) : List Str := KINDS.filter fun k => (texts k).contains z
theorem holds_in {z k : Str} (h : k ∈ holders z) : Kind k ∧ (texts k).contains z = true := by
  obtain ⟨h1, h2⟩ := List.mem_filter.mp h
  exact ⟨by simpa [KINDS, Kind] using h1, h2⟩
theorem len_texts : ∀ k ∈ KINDS, 0 < (texts k).length ∧ (texts k).length ≤ 1000 := by decide +kernel
theorem fit_texts : ∀ k ∈ KINDS, ∀ z ∈ texts k, z.length ≤ 50000 := by decide +kernel
theorem take_filt {p : Str → Bool} {xs : List Str} {i : Nat} {x : Str} (h : xs[i]? = some x) : (xs.take (i + 1)).filter p = (xs.take i).filter p ++ (if p x = true then [x] else []) := by
  rw [List.take_succ, h, List.filter_append]
  congr 1
  show List.filter p [x] = _
  cases hp : p x <;> simp [hp]
def sp_equals (K : PySem.W.Frag) (Z : Ad) : Sp := fun vs H Q _ => vs.length = 2 ∧ ∃ (B : Hp) (M : List (Addr × HO)) (b : Addr) (d c n : Int) (z : Str), vs = [.ref b, .str z] ∧ z.length ≤ 50000 ∧ Wd B ((b, bagO d c n) :: M) H ∧ ∀ B' d' n' H', Ex B B' → Wd B' ((b, bagO d' c n') :: M) H' → Q (.bl true) H'
theorem u_equals {K : PySem.W.Frag} {Z : Ad} {B H : Hp} {M : List (Addr × HO)} {b : Addr} {d c n : Int} {z : Str} {Q : VK} {E : XK} (hz : z.length ≤ 50000) (wd : Wd B ((b, bagO d c n) :: M) H) (h : ∀ B' d' n' H', Ex B B' → Wd B' ((b, bagO d' c n') :: M) H' → Q (.bl true) H') : sp_equals K Z [.ref b, .str z] H Q E :=
  ⟨rfl, B, M, b, d, c, n, z, rfl, hz, wd, h⟩
theorem dpa_strs {K : PySem.W.Frag} {H : Hp} : ∀ xs : List Str, DpAll K H (xs.map V.str) (xs.map PyData.str)
  | [] => .nil
  | x :: xs => .cons (.str x) (dpa_strs xs)
theorem lay_strs : ∀ {xs : List Str}, (∀ x ∈ xs, PyData.strOk x = true) → PyData.canLayAll0 (xs.map PyData.str) = true
  | [], _ => by simp [PyData.canLayAll0]
  | x :: xs, h => by
    simp only [List.map_cons, PyData.canLayAll0, PyData.canLay0, Bool.and_eq_true]
    exact ⟨h x List.mem_cons_self, lay_strs fun y hy => h y (List.mem_cons_of_mem _ hy)⟩
theorem deep_strs : ∀ {xs : List Str}, PyData.depthAll (xs.map PyData.str) ≤ 1
  | [] => by simp [PyData.depthAll]
  | x :: xs => by
    have ih := deep_strs (xs := xs)
    simp only [List.map_cons, PyData.depthAll, PyData.depth]
    omega
theorem sh_strs {xs : List Str} (h : ∀ x ∈ xs, PyData.strOk x = true) : SeqAt.shaped (.list (xs.map PyData.str)) = true := by
  unfold SeqAt.shaped
  have e : PyData.canLay0 (.list (xs.map PyData.str)) = true := by
    simp only [PyData.canLay0]
    exact lay_strs h
  rw [e, Bool.true_and]
  refine decide_eq_true ?_
  have := deep_strs (xs := xs)
  simp only [PyData.depth]
  omega
theorem kinds_ok : ∀ k ∈ KINDS, PyData.strOk k = true := by decide +kernel
theorem ok_equals {f : Addr} {fd : FuncData} (F : Fun K "_law_equals" "_law_equals" s_equals f fd) (T : Txt K mg Z) (D_texts : Dn CX0 P w K mg base "_law_texts" 2 ["_law_kind"] (sp_texts K Z)) (MK_Statement_init_2_kind : MtK (L2.CX P w) P w K mg base Z.Statement "__init__" 4 2 ["kind"] ["self", "text", "kind"] (sp_Statement_init K Z)) (M_Statement_eq : Mt CX0 P w K mg base Z.Statement "__eq__" 1 ["self", "other"] (sp_Statement_eq K Z)) (D_of : Dn CX0 P w K mg base "_law_of" 2 ["_law_bag_here", "_law_some"] (sp_of K Z)) (MD_Statement_init : MtD (L2.CX P w) P w K mg base Z.Statement "__init__" 4 2 [.str "hand"] ["self", "text", "kind"] (sp_Statement_init K Z)) : FnOk P w K mg base CX0 6 f fd ["_law_bag_here", "_law_text"] (sp_equals K Z) := by
  refine F.ok sc_equals (fun vs H Q E h => h.1) (fun cdv A outer s H vs Q E hr h => ?_)
  obtain ⟨_, B, M, b, d, c, n, z, rfl, hz, wd, q⟩ := h
  refine ⟨_, (pss_cons (ps_setLc (i := 3) (own := [("_law_kind", 2)]) rfl sc_equals.nd rfl rfl (sw_true rfl rfl rfl (by decide +kernel)) (pi_list (pe_lst (pa_cons pe_str (pa_cons pe_str (pa_cons pe_str pa_nil))))) (blkOk_by (own := [("_law_kind", 2)]) (N := ["_law_bag_here", "_law_text", "_law_kind", "_law_holders", "_law_other", "_law_another"]) (sc := defScope s_equals) (by decide +kernel)) (fun _ _ _ _ _ => (pg_name (i := 2) sc_equals.nd rfl (Or.inl rfl))) (fun _ _ _ _ _ => (pts_one (pt_cmpR (op_inK (K := K)) (pv 1) (pe_dn D_texts hr (by decide) rfl pass0 (pa_cons (pv 2) pa_nil)) (by with_unfolding_all rfl)))) (fun _ _ _ _ _ => (pv 2)))
      (pss_cons (ps_for PassesOwn.never rfl (pi_list (pv 3)) (pg_name (i := 2) sc_equals.nd rfl (Or.inl rfl))
      (pss_cons (ps_for PassesOwn.never rfl (pi_list (pv 3)) (pg_name (i := 4) sc_equals.nd rfl (Or.inl rfl))
      (pss_one (ps_if (pt_not (pt_cmpR (cmp_own M_Statement_eq hr (by decide) pass0) (pe_klK T.c_Statement MK_Statement_init_2_kind hr (by decide) rfl passF (pa_cons (pv 1) pa_nil) (pk_cons (pv 2) pk_nil)) (pe_klK T.c_Statement MK_Statement_init_2_kind hr (by decide) rfl passF (pa_cons (pv 1) pa_nil) (pk_cons (pv 4) pk_nil)) (nomark _)))
      (pss_one (ps_ret pe_bl))
      pss_nil)))
      (pss_cons (ps_set (i := 5) sc_equals.nd rfl (Or.inl rfl) (pe_dn D_of hr (by decide) rfl pass0 (pa_cons (pv 0) (pa_cons (pe_dn D_texts hr (by decide) rfl pass0 (pa_cons (pv 2) pa_nil)) pa_nil))))
      (pss_one (ps_if (pt_cmpR op_ne (pe_cmpR (cmp_own M_Statement_eq hr (by decide) pass0) (pe_klK T.c_Statement MK_Statement_init_2_kind hr (by decide) rfl passF (pa_cons (pv 1) pa_nil) (pk_cons (pv 2) pk_nil)) (pe_klK T.c_Statement MK_Statement_init_2_kind hr (by decide) rfl passF (pa_cons (pv 5) pa_nil) (pk_cons (pv 2) pk_nil)) (nomark _)) (pe_cmpR op_eq (pv 1) (pv 5) (nomark _)) (nomark _))
      (pss_one (ps_ret pe_bl))
      pss_nil)))))
      (pss_one (ps_ret (pe_or (pe_cmpR (op_eqD hr.units) (pv 3) (pe_lst pa_nil) (nomark _)) (pe_or (pe_cmpR (op_ninK (K := K)) pe_str (pv 3) (by with_unfolding_all rfl)) (pe_one (pe_cmpR op_eq (pe_fld (pe_klD T.c_Statement MD_Statement_init hr (by decide) rfl passF (pa_cons (pv 1) pa_nil)) rfl) (pv 1) (nomark _))))))))), ?_⟩
  walk_at "si"
  rename_i pk B1 H1 e1 hk1 w1
  refine x_lcL (xs := KINDS.map V.str) w1 (fun H' e mu => sl_of (e _ _ hk1)) (fun i acc _ => acc = ((KINDS.take i).filter fun k => (texts k).contains z).map V.str) (show 3 ≤ 90000 by decide) rfl ?hs ?hd
  case hs =>
    rintro i x _ D B' H' hx hi rfl e ha w
    obtain ⟨k, rfl, hk⟩ := map_getS hx
    walk_at "sx"
    refine ⟨rfl, ?_⟩
    walk_at "sx"
    refine u_texts (kind_at hk) w fun p B2 H2 e2 hp w2 => ?_
    walk_at "sx"
    refine i_b (fun hc => ?_) (fun hc => ?_)
    · walk_at "sx"
      refine lc_y w2 (e.tr e2) ha hi ?_
      rw [take_filt hk, if_pos hc, List.map_append]
      rfl
    · refine lc_n w2 (e.tr e2) ha ?_
      rw [take_filt hk, if_neg (by rw [hc]; decide), List.append_nil]
  case hd =>
    rintro _ D B2 H2 rfl e2 w2
    have hD : (KINDS.take (KINDS.map V.str).length).filter (fun k => (texts k).contains z) = holders z := by rw [List.length_map, List.take_length]; rfl
    rw [hD] at w2
    have w3 := w2.freeze
    have e3 := w2.fz
    obtain ⟨B3, hB3⟩ : ∃ B3, B3 = upd B2 D (.lst ((holders z).map V.str)) := ⟨_, rfl⟩
    rw [← hB3] at w3 e3
    have hDl : B3 D = some (.lst ((holders z).map V.str)) := by rw [hB3]; exact upd_same
    walk_at "sx"
    refine x_forL (xs := (holders z).map V.str) (fun _ σ' H' => ∃ (v2 v4 v5 : Option V) (B' : Hp) (d' n' : Int), σ' = [some (.ref b), some (.str z), v2, some (.ref D), v4, v5] ∧ Wd B' ((b, bagO d' c n') :: M) H' ∧ Ex B3 B') (sl_of (w3.im hDl)) ⟨_, _, _, B3, d, n, rfl, w3, Ex.rf _⟩
      (fun _ σ H _ ⟨_, _, _, B', _, _, _, w, e⟩ => sl_of (w.im (e _ _ hDl))) ?hs1 ?hd1
    case hs1 =>
      rintro i x σ' H' hx ⟨v2, v4, v5, B4, d4, n4, rfl, w4, e4⟩
      obtain ⟨k, rfl, hk⟩ := map_getS hx
      obtain ⟨hkk, hin⟩ := holds_in (List.mem_of_getElem? hk)
      have hm : mayHave k z = true := by rw [may_texts hkk]; exact hin
      have nm : ∀ {k' z' : Str} {P : Prop}, mayHave k' z' = true → mayV k' (.str z') = false → P := fun h h' => by
        rw [show mayHave _ _ = false from h'] at h
        cases h
      walk_at "sx"
      refine x_forL (xs := (holders z).map V.str) (fun _ σ' H' => ∃ (v4 v5 : Option V) (B' : Hp), σ' = [some (.ref b), some (.str z), some (.str k), some (.ref D), v4, v5] ∧ Wd B' ((b, bagO d4 c n4) :: M) H' ∧ Ex B4 B') (sl_of (w4.im (e4 _ _ hDl))) ⟨_, _, B4, rfl, w4, Ex.rf _⟩
        (fun _ σ H _ ⟨_, _, B', _, w, e⟩ => sl_of (w.im (e _ _ (e4 _ _ hDl)))) ?hs2 ?hd2
      case hs2 =>
        rintro j y σ' H' hy ⟨v4, v5, B5, rfl, w5, e5⟩
        obtain ⟨k2, rfl, hk2⟩ := map_getS hy
        obtain ⟨hkk2, hin2⟩ := holds_in (List.mem_of_getElem? hk2)
        have hm2 : mayHave k2 z = true := by rw [may_texts hkk2]; exact hin2
        walk_at "sx"
        refine u_stmt w5 (.str hz) (fun z' x1 B6 H6 ez _ e6 hx1 w6 => ?_) (nm hm)
        cases ez
        walk_at "sx"
        refine u_stmt w6 (.str hz) (fun z' x2 B7 H7 ez _ e7 hx2 w7 => ?_) (nm hm2)
        cases ez
        refine u_stEqs T.c_Statement.ic w7 (hx1.up e7) hx2 ?_
        walk_at "sx"
        exact ⟨_, _, B7, rfl, w7, e5.tr (e6.tr e7)⟩
      case hd2 =>
        rintro σ' H' ⟨v4, v5, B5, rfl, w5, e5⟩
        walk_at "sx"
        refine u_texts hkk w5 fun p B6 H6 e6 hp w6 => ?_
        walk_at "sx"
        have lt := len_texts k (by rcases hkk with rfl | rfl | rfl <;> simp [KINDS])
        refine u_of w6 hp (by rw [List.length_map]; exact lt.1) (by rw [List.length_map]; exact lt.2) fun i2 x2 d7 n7 H7 hx2 w7 => ?_
        obtain ⟨z2, rfl, hz2⟩ := map_getS hx2
        have m2 := List.mem_of_getElem? hz2
        have hm2 : mayHave k z2 = true := by rw [may_texts hkk]; exact List.contains_iff_mem.mpr m2
        have hl2 := fit_texts k (by rcases hkk with rfl | rfl | rfl <;> simp [KINDS]) z2 m2
        walk_at "sx"
        refine u_stmt w7 (.str hz) (fun z' x1 B8 H8 ez _ e8 hx1 w8 => ?_) (nm hm)
        cases ez
        walk_at "sx"
        refine u_stmt w8 (.str hl2) (fun z' x2 B9 H9 ez _ e9 hx2 w9 => ?_) (nm hm2)
        cases ez
        refine u_stEqs T.c_Statement.ic w9 (hx1.up e9) hx2 ?_
        walk_at "sx"
        exact ⟨_, _, _, B9, d7, n7, rfl, w9, e4.tr (e5.tr (e6.tr (e8.tr e9)))⟩
    case hd1 =>
      rintro σ' H' ⟨v2, v4, v5, B4, d4, n4, rfl, w4, e4⟩
      walk_at "si"
      rename_i pe B5 H5 e5 hp5 w5
      have hD5 := e5 _ _ (e4 _ _ hDl)
      have e05 : Ex B B5 := e1.tr (e2.tr (e3.tr (e4.tr e5)))
      refine ⟨.list ((holders z).map .str), .list [], .lst (sl_of (w5.im hD5)) (dpa_strs _), .lst (sl_of (w5.im hp5)) .nil, sh_strs (fun k hk => kinds_ok k (List.mem_filter.mp hk).1), sh_strs (xs := []) (fun _ h => nomatch h), ?_⟩
      walk_at "sx"
      refine i_b (fun _ => ?_) (fun _ => ?_)
      · exact q _ _ _ _ e05 w5
      walk_at "sx"
      refine i_b (fun hn => ?_) (fun hn => ?_)
      · exact q _ _ _ _ e05 w5
      have hc : (holders z).contains "hand" = true := by simpa using hn
      obtain ⟨hkk, hin⟩ := holds_in (List.contains_iff_mem.mp hc)
      have hm : mayHave "hand" z = true := by rw [may_texts hkk]; exact hin
      walk_at "sx"
      refine u_stmt w5 (.str hz) (fun z' x B6 H6 ez _ e6 hx w6 => ?_) (fun h' => by rw [show mayHave "hand" z = false from h'] at hm; cases hm)
      cases ez
      obtain ⟨dx, hdx⟩ := id hx
      walk_at "sx"
      rw [decide_eq_true rfl]
      exact q _ _ _ _ (e05.tr e6) w6

abbrev s_draw : Stmt := top 28
theorem sc_draw : FnScope ["_law_bag_here", "_law_words", "_law_asked", "_law_word", "_law_conditions"] ["_law_bag_here"] (defScope s_draw) := ⟨rfl, rfl, rfl, by decide +kernel, rfl, by decide +kernel, by decide +kernel⟩
def DrawOk (w : Str) (cv : V) : Prop := w ∈ WORDS ∧ (cv = .non ∨ ∃ c ∈ CONDS, cv = .str c)
def sp_draw (K : PySem.W.Frag) (Z : Ad) : Sp := fun vs H Q _ => vs.length = 1 ∧ ∃ (B : Hp) (M : List (Addr × HO)) (b : Addr) (d c n : Int), vs = [.ref b] ∧ Wd B ((b, bagO d c n) :: M) H ∧
  ∀ (t : Addr) (w : Str) (cv : V) (B' : Hp) (d' n' : Int) (H' : Hp), Ex B B' → B' t = some (.tup [.str w, cv]) → DrawOk w cv → Wd B' ((b, bagO d' c n') :: M) H' → Q (.ref t) H'
theorem u_draw {K : PySem.W.Frag} {Z : Ad} {B H : Hp} {M : List (Addr × HO)} {b : Addr} {d c n : Int} {Q : VK} {E : XK} (wd : Wd B ((b, bagO d c n) :: M) H)
    (h : ∀ (t : Addr) (w : Str) (cv : V) (B' : Hp) (d' n' : Int) (H' : Hp), Ex B B' → B' t = some (.tup [.str w, cv]) → DrawOk w cv → Wd B' ((b, bagO d' c n') :: M) H' → Q (.ref t) H') : sp_draw K Z [.ref b] H Q E := ⟨rfl, B, M, b, d, c, n, rfl, wd, h⟩
theorem words_is : [V.str "stop", V.str "skip", V.str "again"] ++ (UNDER.map fun wc => V.str wc.1) = WORDS.map V.str := rfl
theorem ok_draw {f : Addr} {fd : FuncData} (F : Fun K "_law_draw" "_law_draw" s_draw f fd) (T : Txt K mg Z) (D_under : Dn CX0 P w K mg base "_law_under" 1 [] (sp_under K Z)) (D_of : Dn CX0 P w K mg base "_law_of" 2 ["_law_bag_here", "_law_some"] (sp_of K Z)) : FnOk P w K mg base CX0 3 f fd ["_law_bag_here"] (sp_draw K Z) := by
  refine F.ok sc_draw (fun vs H Q E h => h.1) (fun cdv A outer s H vs Q E hr h => ?_)
  obtain ⟨_, B, M, b, d, c, n, rfl, wd, q⟩ := h
  refine ⟨_, (pss_cons (ps_set (i := 1) sc_draw.nd rfl (Or.inl rfl) (pe_op op_cat (pe_lst (pa_cons pe_str (pa_cons pe_str (pa_cons pe_str pa_nil)))) (pe_lc (own := [("_law_word", 3), ("_law_conditions", 4)]) rfl sc_draw.nd (pi_list (pe_dn0 D_under hr (by decide) rfl pass0)) (blkOk_by (own := [("_law_word", 3), ("_law_conditions", 4)]) (N := ["_law_bag_here", "_law_words", "_law_asked", "_law_word", "_law_conditions"]) (sc := defScope s_draw) (by decide +kernel)) (fun _ _ _ _ _ => (pg_tupK (K := K) (n := 2) rfl (pgs_cons (pg_name (i := 3) sc_draw.nd rfl (Or.inl rfl)) (pgs_cons (pg_name (i := 4) sc_draw.nd rfl (Or.inl rfl)) pgs_nil)))) (fun _ _ _ _ _ => pts_nil) (fun _ _ _ _ _ => (pv 3)))))
      (pss_cons (ps_set (i := 2) sc_draw.nd rfl (Or.inl rfl) (pe_lst (pa_cons pe_str (pa_cons pe_str (pa_cons pe_str (pa_cons pe_str (pa_cons pe_str (pa_cons pe_str (pa_cons pe_str (pa_cons pe_str (pa_cons pe_str (pa_cons pe_str (pa_cons pe_str (pa_cons pe_str (pa_cons pe_str (pa_cons pe_str (pa_cons pe_non pa_nil)))))))))))))))))
      (pss_one (ps_ret (pe_tup (pa_cons (pe_dn D_of hr (by decide) rfl pass0 (pa_cons (pv 0) (pa_cons (pv 1) pa_nil))) (pa_cons (pe_dn D_of hr (by decide) rfl pass0 (pa_cons (pv 0) (pa_cons (pv 2) pa_nil))) pa_nil))))))), ?_⟩
  walk_at "si"
  rename_i p1 B1 H1 e1 h1 w1
  refine u_under w1 fun p2 B2 H2 e2 ⟨ts, ht, hl, hts⟩ w2 => ?_
  walk_at "sx"
  refine x_lcL (xs := ts) w2 (fun H' e mu => sl_of (e _ _ ht)) (fun i acc _ => acc = (UNDER.take i).map fun wc => V.str wc.1) (by rw [hl]; decide) rfl ?hs ?hd
  case hs =>
    rintro i t acc D B' H' hx hi rfl e ha w
    obtain ⟨wc, a, l2, hu, rfl, hA, hL⟩ := hts i t hx
    have hA' := e _ _ hA
    walk_at "sx"
    refine ⟨rfl, ?_⟩
    walk_at "sx"
    refine lc_y w e ha hi ?_
    rw [take_map_succ hu]
  case hd =>
    rintro _ D B3 H3 rfl e3 w3
    rw [hl, List.take_length] at w3
    walk_at "sx"
    rename_i p4 B4 H4 e4 h4 w4
    replace w4 := w4.drop
    replace h4 : B4 p4 = some (.lst (WORDS.map V.str)) := h4
    walk_at "si"
    rename_i p5 B5 H5 e5 h5 w5
    replace h5 : B5 p5 = some (.lst (CONDS.map V.str ++ [.non])) := h5
    refine u_of w5 (e5 _ _ h4) (by decide) (by decide) fun i x d6 n6 H6 hx w6 => ?_
    obtain ⟨w, rfl, hw⟩ := map_getS hx
    walk_at "sx"
    refine u_of w6 h5 (by decide) (by decide) fun j cv d7 n7 H7 hy w7 => ?_
    have hcv : cv = .non ∨ ∃ c ∈ CONDS, cv = .str c := by
      rcases List.mem_append.mp (List.mem_of_getElem? hy) with h | h
      · obtain ⟨c, hc, rfl⟩ := List.mem_map.mp h
        exact .inr ⟨c, hc, rfl⟩
      · exact .inl (List.mem_singleton.mp h)
    walk_at "si"
    refine' q _ w cv _ _ _ _ ?e ?t ⟨List.mem_of_getElem? hw, hcv⟩ ?w
    case w => assumption
    case t => assumption
    case e => walk_at "ex"

local macro_rules | `(tactic| walk_at "s1") => `(tactic| ((with_reducible refine' My.u_bag ?w ?hS ?_); (case w => assumption); (case hS => walk_at "sl"); intro p d' c' n' H' hWd))
theorem short_words : ∀ w ∈ WORDS, Sy.Short 10 w := by unfold Sy.Short; decide +kernel
def sp_law (K : PySem.W.Frag) : Sp := fun vs H Q _ => vs.length = 1 ∧ ∃ (a : Addr) (ns : List Int), vs = [.ref a] ∧ SqL K H a (ns.map V.int) ∧ ns.length ≤ 63 ∧ ∀ H', Q (.bl true) H'

abbrev s_law : Stmt := top 32
theorem sc_law : FnScope ["_law_script", "_law_place", "_law_bag_here", "_law_turn", "_law_word", "_law_condition", "_law_text", "_law_kind"] ["_law_script"] (defScope s_law) := ⟨rfl, rfl, rfl, by decide +kernel, rfl, by decide +kernel, by decide +kernel⟩
theorem ok_law {f : Addr} {fd : FuncData} (F : Fun K "law" "law" s_law f fd) (T : Txt K mg Z) (D_bag : Dn CX0 P w K mg base "_law_bag" 1 ["_law_script", "_law_at"] (sp_bag K Z)) (D_draw : Dn CX0 P w K mg base "_law_draw" 3 ["_law_bag_here"] (sp_draw K Z)) (D_right : Dn CX0 P w K mg base "_law_right" 7 ["_law_text", "_law_word", "_law_condition", "_law_kind"] (sp_right K Z)) (D_equals : Dn CX0 P w K mg base "_law_equals" 6 ["_law_bag_here", "_law_text"] (sp_equals K Z)) : FnOk P w K mg base CX0 8 f fd ["_law_script"] (sp_law K) := by
  refine F.ok sc_law (fun vs H Q E h => h.1) (fun cdv A outer s H vs Q E hr h => ?_)
  obtain ⟨_, a, ns, rfl, hS, hlen, k⟩ := h
  obtain ⟨B0, wd, hS⟩ : ∃ B0, Wd B0 [] H ∧ SqL K B0 a (ns.map V.int) := ⟨H, Wd.self H, hS⟩
  refine ⟨_, (pss_cons (ps_for PassesOwn.never rfl (pi_range1 (by rfl) T.g_range (pa_cons (pe_callB (c_max rfl) (by rfl) T.g_max (by decide +kernel) (pa_cons pe_int (pa_cons (pe_callB (c_min rfl) (by rfl) T.g_min (by decide +kernel) (pa_cons pe_int (pa_cons (pe_callB c_len (by rfl) T.g_len (by decide +kernel) (pa_cons (pv 0) pa_nil)) pa_nil))) pa_nil))) pa_nil)) (pg_name (i := 1) sc_law.nd rfl (Or.inl rfl))
      (pss_cons (ps_set (i := 2) sc_law.nd rfl (Or.inl rfl) (pe_dn D_bag hr (by decide) rfl pass0 (pa_cons (pv 0) (pa_cons (pv 1) pa_nil))))
      (pss_one (ps_for PassesOwn.never rfl (pi_range1 (by rfl) T.g_range (pa_cons pe_int pa_nil)) (pg_name (i := 3) sc_law.nd rfl (Or.inl rfl))
      (pss_cons (ps_asg (pe_dn D_draw hr (by decide) rfl pass0 (pa_cons (pv 2) pa_nil)) (pg_tup rfl (pgs_cons (pg_name (i := 4) sc_law.nd rfl (Or.inl rfl)) (pgs_cons (pg_name (i := 5) sc_law.nd rfl (Or.inl rfl)) pgs_nil))))
      (pss_cons (ps_set (i := 6) sc_law.nd rfl (Or.inl rfl) (pe_ifExp (pt_cmpR op_isNone (pv 5) pe_non (nomark _)) (pv 4) (pe_op op_addS (pe_op op_addS (pv 4) pe_str) (pv 5))))
      (pss_cons (ps_for PassesOwn.never rfl (pi_list (pe_lst (pa_cons pe_str (pa_cons pe_str (pa_cons pe_str pa_nil))))) (pg_name (i := 7) sc_law.nd rfl (Or.inl rfl))
      (pss_one (ps_if (pt_not (pt_val (pe_dn D_right hr (by decide) rfl pass0 (pa_cons (pv 6) (pa_cons (pv 4) (pa_cons (pv 5) (pa_cons (pv 7) pa_nil)))))))
      (pss_one (ps_ret pe_bl))
      pss_nil)))
      (pss_one (ps_if (pt_not (pt_val (pe_dn D_equals hr (by decide) rfl pass0 (pa_cons (pv 2) (pa_cons (pv 6) pa_nil)))))
      (pss_one (ps_ret pe_bl))
      pss_nil)))))))))
      (pss_one (ps_ret pe_bl))), ?_⟩
  walk_at "sx"
  refine x_forR (fun i σ' H' => ∃ v1 v2 v3 v4 v5 v6 v7 : Option V, σ' = [some (.ref a), v1, v2, v3, v4, v5, v6, v7] ∧ ∃ B M, Wd B M H' ∧ Ex B0 B) (by rw [List.length_map]; split <;> split <;> omega) ⟨_, _, _, _, _, _, _, rfl, _, _, wd, Ex.rf _⟩ ?hs ?hd
  case hs =>
    rintro i σ' H' hi ⟨v1, v2, v3, v4, v5, v6, v7, rfl, B, M, w, eB⟩
    have hS' := eB.sl hS
    walk_at "sx"
    rename_i b d c n H1 w1
    refine x_forR (fun j σ' H' => ∃ (v3 v4 v5 v6 v7 : Option V) (B' : Hp) (d' n' : Int), σ' = [some (.ref a), some (.int i), some (.ref b), v3, v4, v5, v6, v7] ∧ Wd B' ((b, bagO d' c n') :: M) H' ∧ Ex B B') (by omega) ⟨_, _, _, _, _, B, d, n, rfl, w1, Ex.rf _⟩ ?hs2 ?hd2
    case hs2 =>
      rintro j σ' H' hj ⟨v3, v4, v5, v6, v7, B2, d2, n2, rfl, w2, e2⟩
      walk_at "sx"
      refine u_draw w2 fun t w cv B3 d3 n3 H3 e3 ht ⟨hw, hcv⟩ w3 => ?_
      have sw := short_words w hw
      obtain rfl | ⟨c', hc, rfl⟩ := hcv
      · have hwc : WcOk w .non w := ⟨hw, .inl ⟨rfl, rfl⟩⟩
        walk_at "si"
        rename_i pk B4 H4 e4 hk4 w4
        refine x_forL (xs := KINDS.map V.str) (fun _ σ' H' => ∃ (v7 : Option V) (B' : Hp), σ' = [some (.ref a), some (.int i), some (.ref b), some (.int j), some (.str w), some .non, some (.str w), v7] ∧ Wd B' ((b, bagO d3 c n3) :: M) H' ∧ Ex B4 B') (sl_of (w4.im hk4)) ⟨_, B4, rfl, w4, Ex.rf _⟩
          (fun _ σ H _ ⟨_, B', _, w, e⟩ => sl_of (w.im (e _ _ hk4))) ?hs3 ?hd3
        case hs3 =>
          rintro m y σ' H' hy ⟨v7, B5, rfl, w5, e5⟩
          obtain ⟨kd, rfl, hkd⟩ := map_getS hy
          walk_at "sx"
          refine u_right (kind_at hkd) hwc w5 fun B6 H6 e6 w6 => ?_
          walk_at "sx"
          exact ⟨_, B6, rfl, w6, e5.tr e6⟩
        case hd3 =>
          rintro σ' H' ⟨v7, B5, rfl, w5, e5⟩
          walk_at "sx"
          refine u_equals hwc.fit.1 w5 fun B6 d6 n6 H6 e6 w6 => ?_
          walk_at "sx"
          exact ⟨_, _, _, _, _, B6, d6, n6, rfl, w6, e2.tr (e3.tr (e4.tr (e5.tr e6)))⟩
      · have hwc : WcOk w (.str c') (w ++ " if " ++ c') := ⟨hw, .inr ⟨c', hc, rfl, rfl⟩⟩
        have sc := short_all c' hc
        walk_at "si"
        rename_i pk B4 H4 e4 hk4 w4
        refine x_forL (xs := KINDS.map V.str) (fun _ σ' H' => ∃ (v7 : Option V) (B' : Hp), σ' = [some (.ref a), some (.int i), some (.ref b), some (.int j), some (.str w), some (.str c'), some (.str (w ++ " if " ++ c')), v7] ∧ Wd B' ((b, bagO d3 c n3) :: M) H' ∧ Ex B4 B') (sl_of (w4.im hk4)) ⟨_, B4, rfl, w4, Ex.rf _⟩
          (fun _ σ H _ ⟨_, B', _, w, e⟩ => sl_of (w.im (e _ _ hk4))) ?hs3 ?hd3
        case hs3 =>
          rintro m y σ' H' hy ⟨v7, B5, rfl, w5, e5⟩
          obtain ⟨kd, rfl, hkd⟩ := map_getS hy
          walk_at "sx"
          refine u_right (kind_at hkd) hwc w5 fun B6 H6 e6 w6 => ?_
          walk_at "sx"
          exact ⟨_, B6, rfl, w6, e5.tr e6⟩
        case hd3 =>
          rintro σ' H' ⟨v7, B5, rfl, w5, e5⟩
          walk_at "sx"
          refine u_equals hwc.fit.1 w5 fun B6 d6 n6 H6 e6 w6 => ?_
          walk_at "sx"
          exact ⟨_, _, _, _, _, B6, d6, n6, rfl, w6, e2.tr (e3.tr (e4.tr (e5.tr e6)))⟩
    case hd2 =>
      rintro σ' H' ⟨v3, v4, v5, v6, v7, B2, d2, n2, rfl, w2, e2⟩
      exact ⟨_, _, _, _, _, _, _, rfl, B2, _, w2, eB.tr e2⟩
  case hd =>
    rintro σ' H' ⟨v1, v2, v3, v4, v5, v6, v7, rfl, B, M, w, eB⟩
    walk_at "sx"
    exact k _

end
theorem all_mk {l : PySem.W.OpenLaw} {w : World} {K : PySem.W.Frag} {h : Heap} {mg : Str → Option Value} {fa C_Statement : Addr} (X : K.In h) (G : h.Ns mainGlobals mg) (hfa : mg "law" = some (.ref fa))
    (k_Statement : KF K "Statement" C_Statement)
    (f_bag : FF K "_law_bag" s_bag)
    (f_take : FF K "_law_take" s_take)
    (f_acts_of : FF K "acts_of" s_acts_of)
    (f_look_conditions : FF K "look_conditions" s_look_conditions)
    (f_act_conditions : FF K "act_conditions" s_act_conditions)
    (f_conditions_of : FF K "conditions_of" s_conditions_of)
    (f_may_have : FF K "may_have" s_may_have)
    (m_Statement_init : MF K C_Statement "__init__" "Statement.__init__" s_Statement_init)
    (p_Statement_is_look : PrF K C_Statement "is_look" "Statement.is_look" s_Statement_is_look)
    (m_Statement_str : MF K C_Statement "__str__" "Statement.__str__" s_Statement_str)
    (m_Statement_eq : MF K C_Statement "__eq__" "Statement.__eq__" s_Statement_eq)
    (f_of : FF K "_law_of" s_of)
    (f_under : FF K "_law_under" s_under)
    (f_texts : FF K "_law_texts" s_texts)
    (f_tried : FF K "_law_tried" s_tried)
    (f_right : FF K "_law_right" s_right)
    (f_equals : FF K "_law_equals" s_equals)
    (f_draw : FF K "_law_draw" s_draw)
    (f_law : FF K "law" s_law)
    (n_Statement_text : PySem.W.findIn K (.ref C_Statement) "text" = some none)
    (n_Statement_word : PySem.W.findIn K (.ref C_Statement) "word" = some none)
    (n_Statement_condition : PySem.W.findIn K (.ref C_Statement) "condition" = some none)
    (ns_Statement_str : NsT K C_Statement (.type "str"))
    (a_SWEEP_ACTS : PySem.W.nsIn K mainGlobals "SWEEP_ACTS" = some (some (.ref C_SWEEP_ACTS)))
    (l_SWEEP_ACTS : ∀ H, SqT K H C_SWEEP_ACTS ((["touch", "strike", "mark", "unmark", "clear"] : List Str).map V.str))
    (a_READER_ACTS : PySem.W.nsIn K mainGlobals "READER_ACTS" = some (some (.ref C_READER_ACTS)))
    (l_READER_ACTS : ∀ H, SqT K H C_READER_ACTS ((["touch", "read"] : List Str).map V.str))
    (a_HAND_ACTS : PySem.W.nsIn K mainGlobals "HAND_ACTS" = some (some (.ref C_HAND_ACTS)))
    (l_HAND_ACTS : ∀ H, SqT K H C_HAND_ACTS ((["put", "touch", "strike", "row", "done", "drop", "mark", "unmark"] : List Str).map V.str))
    (a_FILE_CONDITIONS : PySem.W.nsIn K mainGlobals "FILE_CONDITIONS" = some (some (.ref C_FILE_CONDITIONS)))
    (l_FILE_CONDITIONS : ∀ H, SqT K H C_FILE_CONDITIONS ((["file", "nofile", "old", "young"] : List Str).map V.str))
    (a_ROW_CONDITIONS : PySem.W.nsIn K mainGlobals "ROW_CONDITIONS" = some (some (.ref C_ROW_CONDITIONS)))
    (l_ROW_CONDITIONS : ∀ H, SqT K H C_ROW_CONDITIONS ((["rows", "norows", "named", "unnamed", "marked", "unmarked", "ripe", "unripe"] : List Str).map V.str))
    (a_OWN_CONDITIONS : PySem.W.nsIn K mainGlobals "OWN_CONDITIONS" = some (some (.ref C_OWN_CONDITIONS)))
    (l_OWN_CONDITIONS : ∀ H, SqT K H C_OWN_CONDITIONS ((["mine", "notmine"] : List Str).map V.str))
    (a_FILE_ACTS : PySem.W.nsIn K mainGlobals "FILE_ACTS" = some (some (.ref C_FILE_ACTS)))
    (l_FILE_ACTS : ∀ H, SqT K H C_FILE_ACTS ((["put", "touch", "strike"] : List Str).map V.str))
    (a_MARK_ACTS : PySem.W.nsIn K mainGlobals "MARK_ACTS" = some (some (.ref C_MARK_ACTS)))
    (l_MARK_ACTS : ∀ H, SqT K H C_MARK_ACTS ((["mark", "unmark", "clear"] : List Str).map V.str))
    (a_OWN_ACTS : PySem.W.nsIn K mainGlobals "OWN_ACTS" = some (some (.ref C_OWN_ACTS)))
    (l_OWN_ACTS : ∀ H, SqT K H C_OWN_ACTS ((["row", "done", "drop"] : List Str).map V.str))
    (a_MARK_CONDITIONS : PySem.W.nsIn K mainGlobals "MARK_CONDITIONS" = some (some (.ref C_MARK_CONDITIONS)))
    (l_MARK_CONDITIONS : ∀ H, SqT K H C_MARK_CONDITIONS ((["marked", "unmarked", "ripe", "unripe"] : List Str).map V.str))
    (a_LOOKS : PySem.W.nsIn K mainGlobals "LOOKS" = some (some (.ref C_LOOKS)))
    (l_LOOKS : ∀ H, SqT K H C_LOOKS ((["stop", "skip", "again"] : List Str).map V.str))
    (e_BadStatement : EcK K "BadStatement" "text" "BadStatement.__init__" C_BadStatement "ValueError.__new__" [.type "ValueError", .type "Exception", .type "BaseException", .type "object"])
    (a_NoHandler : PySem.W.nsIn K mainGlobals "NoHandler" = some (some (.ref C_NoHandler)))
    (i_BadStatement : IsE K C_BadStatement)
    (s_BadStatement_NoHandler : SubT K C_BadStatement (.ref C_NoHandler) false)
    (sy_BadStatement_ValueError : PySem.W.kitOne K (.ref C_BadStatement) (.type "ValueError") = some true)
    (a_BadStatement : PySem.W.nsIn K mainGlobals "BadStatement" = some (some (.ref C_BadStatement)))
    (s_BadStatement_BadStatement : SubT K C_BadStatement (.ref C_BadStatement) true)
    (a_StrayfilesError : PySem.W.nsIn K mainGlobals "StrayfilesError" = some (some (.ref C_StrayfilesError)))
    (s_BadStatement_StrayfilesError : SubT K C_BadStatement (.ref C_StrayfilesError) true)
    (xb_StrayfilesError : PySem.W.subIn K (.ref C_StrayfilesError) (.type "BaseException") = some true)
    (ne_Statement : NeT K C_Statement)
    (g_len : PySem.W.nsIn K mainGlobals "len" = some none)
    (g_abs : PySem.W.nsIn K mainGlobals "abs" = some none)
    (g_int : PySem.W.nsIn K mainGlobals "int" = some none)
    (g_str : PySem.W.nsIn K mainGlobals "str" = some none)
    (g_isinstance : PySem.W.nsIn K mainGlobals "isinstance" = some none)
    (g_ValueError : PySem.W.nsIn K mainGlobals "ValueError" = some none)
    (g_repr : PySem.W.nsIn K mainGlobals "repr" = some none)
    (g_range : PySem.W.nsIn K mainGlobals "range" = some none)
    (g_min : PySem.W.nsIn K mainGlobals "min" = some none)
    (g_max : PySem.W.nsIn K mainGlobals "max" = some none)
    (md_Statement_init : MFD K C_Statement "__init__" "Statement.__init__" s_Statement_init [("kind", .str "hand")])
    : ∃ fd : FuncData, (∀ (s : Shared) (v : Value), BindsTo s fd ⟨[v], []⟩ [("_law_script", v)]) ∧ ∀ base : Heap, K.In base → base.Ns mainGlobals mg → FnOk l.prog w K mg base CX0 8 fa fd ["_law_script"] (sp_law K) := by
  obtain ⟨f, oc, od, kV, doc, pm, an, cdv, ct, osl, h1, h2, h3, h4⟩ := f_law.ok
  have e := hfa.symm.trans (PySem.W.mg_of X G h1)
  cases e
  have T : Txt K mg { Statement := C_Statement, StrayfilesError := C_StrayfilesError, BadStatement := C_BadStatement, NoHandler := C_NoHandler, SWEEP_ACTS := C_SWEEP_ACTS, READER_ACTS := C_READER_ACTS, HAND_ACTS := C_HAND_ACTS, FILE_CONDITIONS := C_FILE_CONDITIONS, ROW_CONDITIONS := C_ROW_CONDITIONS, OWN_CONDITIONS := C_OWN_CONDITIONS, FILE_ACTS := C_FILE_ACTS, MARK_ACTS := C_MARK_ACTS, OWN_ACTS := C_OWN_ACTS, MARK_CONDITIONS := C_MARK_CONDITIONS, LOOKS := C_LOOKS } := ⟨True.intro, k_Statement.kl X G, n_Statement_text, n_Statement_word, n_Statement_condition, ns_Statement_str, ⟨⟨⟨_, PySem.W.mg_of X G a_SWEEP_ACTS, rfl⟩⟩, l_SWEEP_ACTS⟩, ⟨⟨⟨_, PySem.W.mg_of X G a_READER_ACTS, rfl⟩⟩, l_READER_ACTS⟩, ⟨⟨⟨_, PySem.W.mg_of X G a_HAND_ACTS, rfl⟩⟩, l_HAND_ACTS⟩, ⟨⟨⟨_, PySem.W.mg_of X G a_FILE_CONDITIONS, rfl⟩⟩, l_FILE_CONDITIONS⟩, ⟨⟨⟨_, PySem.W.mg_of X G a_ROW_CONDITIONS, rfl⟩⟩, l_ROW_CONDITIONS⟩, ⟨⟨⟨_, PySem.W.mg_of X G a_OWN_CONDITIONS, rfl⟩⟩, l_OWN_CONDITIONS⟩, ⟨⟨⟨_, PySem.W.mg_of X G a_FILE_ACTS, rfl⟩⟩, l_FILE_ACTS⟩, ⟨⟨⟨_, PySem.W.mg_of X G a_MARK_ACTS, rfl⟩⟩, l_MARK_ACTS⟩, ⟨⟨⟨_, PySem.W.mg_of X G a_OWN_ACTS, rfl⟩⟩, l_OWN_ACTS⟩, ⟨⟨⟨_, PySem.W.mg_of X G a_MARK_CONDITIONS, rfl⟩⟩, l_MARK_CONDITIONS⟩, ⟨⟨⟨_, PySem.W.mg_of X G a_LOOKS, rfl⟩⟩, l_LOOKS⟩, e_BadStatement.txt X G, PySem.W.mg_of X G a_NoHandler, i_BadStatement, s_BadStatement_NoHandler, sy_BadStatement_ValueError, PySem.W.mg_of X G a_BadStatement, s_BadStatement_BadStatement, PySem.W.mg_of X G a_StrayfilesError, s_BadStatement_StrayfilesError, xb_StrayfilesError, ne_Statement, PySem.W.mg_none_of X G g_len, PySem.W.mg_none_of X G g_abs, PySem.W.mg_none_of X G g_int, PySem.W.mg_none_of X G g_str, PySem.W.mg_none_of X G g_isinstance, PySem.W.mg_none_of X G g_ValueError, PySem.W.mg_none_of X G g_repr, PySem.W.mg_none_of X G g_range, PySem.W.mg_none_of X G g_min, PySem.W.mg_none_of X G g_max⟩
  have F := fun_mk (st := s_law) h2 h3 h4
  refine ⟨PySem.W.fnOf "law" "law" (defArgs s_law) (defBody s_law) (defScope s_law) .none kV doc pm an cdv ct, fun s v => .of_eq rfl, fun base _ _ => ?_⟩
  have D_bag := dn_mk (CX := CX0) (P := l.prog) (w := w) (mg := mg) (base := base) f_bag X G (fun F => F.binds (ps := ["_law_script", "_law_at"]) fun _ _ _ _ _ _ us hl => match us, hl with | [_, _], _ => rfl) (fun F => ok_bag F T )
  have D_take := dn_mk (CX := CX0) (P := l.prog) (w := w) (mg := mg) (base := base) f_take X G (fun F => F.binds (ps := ["_law_bag_here", "_law_many"]) fun _ _ _ _ _ _ us hl => match us, hl with | [_, _], _ => rfl) (fun F => ok_take F T )
  have D_acts_of := dn_mk (CX := CX0) (P := l.prog) (w := w) (mg := mg) (base := base) f_acts_of X G (fun F => F.binds (ps := ["kind"]) fun _ _ _ _ _ _ us hl => match us, hl with | [_], _ => rfl) (fun F => ok_acts_of F T )
  have D_look_conditions := dn_mk (CX := CX0) (P := l.prog) (w := w) (mg := mg) (base := base) f_look_conditions X G (fun F => F.binds (ps := ["kind"]) fun _ _ _ _ _ _ us hl => match us, hl with | [_], _ => rfl) (fun F => ok_look_conditions F T )
  have D_act_conditions := dn_mk (CX := CX0) (P := l.prog) (w := w) (mg := mg) (base := base) f_act_conditions X G (fun F => F.binds (ps := ["word"]) fun _ _ _ _ _ _ us hl => match us, hl with | [_], _ => rfl) (fun F => ok_act_conditions F T )
  have D_conditions_of := dn_mk (CX := CX0) (P := l.prog) (w := w) (mg := mg) (base := base) f_conditions_of X G (fun F => F.binds (ps := ["word", "kind"]) fun _ _ _ _ _ _ us hl => match us, hl with | [_, _], _ => rfl) (fun F => ok_conditions_of F T D_look_conditions D_acts_of D_act_conditions)
  have D_may_have := dn_mk (CX := CX0) (P := l.prog) (w := w) (mg := mg) (base := base) f_may_have X G (fun F => F.binds (ps := ["kind", "text"]) fun _ _ _ _ _ _ us hl => match us, hl with | [_, _], _ => rfl) (fun F => ok_may_have F T D_acts_of D_conditions_of)
  have MD_Statement_init := mtd_mk (CX := (L2.CX l.prog w)) (P := l.prog) (w := w) (mg := mg) (base := base) (n := 2) (ps := ["self", "text", "kind"]) md_Statement_init (fun _ _ _ _ _ _ us mv ws hu hm hw => match us, hu, mv, hm, ws, hw with | [_, _], _, [_], _, [], _ => ⟨_, _, _, _, _, _, rfl, rfl, rfl⟩) (fun F => ok_Statement_init F T D_may_have)
  have MK_Statement_init_2_kind := mtk_mk (CX := (L2.CX l.prog w)) (P := l.prog) (w := w) (mg := mg) (base := base) m_Statement_init (fun F => kb_of (n := 2) (ks := ["kind"]) (ps := ["self", "text", "kind"]) F fun _ _ _ _ _ _ us ws hu hw => match us, hu, ws, hw with | [_, _], _, [_], _ => rfl) (fun F => ok_Statement_init F T D_may_have)
  have P_Statement_is_look := pt_mk (CX := CX0) (P := l.prog) (w := w) (mg := mg) (base := base) p_Statement_is_look (fun F => F.binds (ps := ["self"]) fun _ _ _ _ _ _ us hl => match us, hl with | [_], _ => rfl) (fun F => ok_Statement_is_look F T )
  have M_Statement_str := mt_mk (CX := CX0) (P := l.prog) (w := w) (mg := mg) (base := base) m_Statement_str (fun F => F.binds (ps := ["self"]) fun _ _ _ _ _ _ us hl => match us, hl with | [_], _ => rfl) (fun F => ok_Statement_str F T )
  have M_Statement_eq := mt_mk (CX := CX0) (P := l.prog) (w := w) (mg := mg) (base := base) m_Statement_eq (fun F => F.binds (ps := ["self", "other"]) fun _ _ _ _ _ _ us hl => match us, hl with | [_, _], _ => rfl) (fun F => ok_Statement_eq F T )
  have D_of := dn_mk (CX := CX0) (P := l.prog) (w := w) (mg := mg) (base := base) f_of X G (fun F => F.binds (ps := ["_law_bag_here", "_law_some"]) fun _ _ _ _ _ _ us hl => match us, hl with | [_, _], _ => rfl) (fun F => ok_of F T D_take)
  have D_under := dn_mk (CX := CX0) (P := l.prog) (w := w) (mg := mg) (base := base) f_under X G (fun F => F.binds (ps := []) fun _ _ _ _ _ _ us hl => match us, hl with | [], _ => rfl) (fun F => ok_under F T )
  have D_texts := dn_mk (CX := CX0) (P := l.prog) (w := w) (mg := mg) (base := base) f_texts X G (fun F => F.binds (ps := ["_law_kind"]) fun _ _ _ _ _ _ us hl => match us, hl with | [_], _ => rfl) (fun F => ok_texts F T D_under)
  have D_tried := dn_mk (CX := CX0) (P := l.prog) (w := w) (mg := mg) (base := base) f_tried X G (fun F => F.binds (ps := ["_law_text", "_law_kind"]) fun _ _ _ _ _ _ us hl => match us, hl with | [_, _], _ => rfl) (fun F => ok_tried F T MK_Statement_init_2_kind)
  have D_right := dn_mk (CX := CX0) (P := l.prog) (w := w) (mg := mg) (base := base) f_right X G (fun F => F.binds (ps := ["_law_text", "_law_word", "_law_condition", "_law_kind"]) fun _ _ _ _ _ _ us hl => match us, hl with | [_, _, _, _], _ => rfl) (fun F => ok_right F T D_tried D_texts M_Statement_str P_Statement_is_look M_Statement_eq MK_Statement_init_2_kind)
  have D_equals := dn_mk (CX := CX0) (P := l.prog) (w := w) (mg := mg) (base := base) f_equals X G (fun F => F.binds (ps := ["_law_bag_here", "_law_text"]) fun _ _ _ _ _ _ us hl => match us, hl with | [_, _], _ => rfl) (fun F => ok_equals F T D_texts MK_Statement_init_2_kind M_Statement_eq D_of MD_Statement_init)
  have D_draw := dn_mk (CX := CX0) (P := l.prog) (w := w) (mg := mg) (base := base) f_draw X G (fun F => F.binds (ps := ["_law_bag_here"]) fun _ _ _ _ _ _ us hl => match us, hl with | [_], _ => rfl) (fun F => ok_draw F T D_under D_of)
  exact ok_law F T D_bag D_draw D_right D_equals
end My

open PySem PySem.W PyProof.Rows in
set_option maxRecDepth 100000 in
set_option maxHeartbeats 0 in
theorem PySem.Challenge.cw_strayfiles_k06_statements_made_holds : PySem.Challenge.rw_strayfiles_k06_statements_made.Holds := by
  w_on; o_law; k_head; (case hw => w_witness2)
  k_fill
  refine L2.walk_ofK (l := PySem.Challenge.rw_strayfiles_k06_statements_made) (n := 63) (k := 8) (CX := L2.CX0) (sp := My.sp_law) (x := "_law_script") rfl (by decide) rfl ⟨rfl, by decide, by decide⟩ (fun w h Y => PySem.W.kIn_of Y) ?F (fun K H a ns hl _ hS => ⟨rfl, a, ns, rfl, hS, hl, fun _ => rfl⟩) (fun _ _ _ _ z => z)
  case F =>
    intro w mg fa h KX G hmg
    refine' My.all_mk KX G hmg ?k_Statement ?f_bag ?f_take ?f_acts_of ?f_look_conditions ?f_act_conditions ?f_conditions_of ?f_may_have ?m_Statement_init ?p_Statement_is_look ?m_Statement_str ?m_Statement_eq ?f_of ?f_under ?f_texts ?f_tried ?f_right ?f_equals ?f_draw ?f_law ?n_Statement_text ?n_Statement_word ?n_Statement_condition ?ns_Statement_str ?a_SWEEP_ACTS ?l_SWEEP_ACTS ?a_READER_ACTS ?l_READER_ACTS ?a_HAND_ACTS ?l_HAND_ACTS ?a_FILE_CONDITIONS ?l_FILE_CONDITIONS ?a_ROW_CONDITIONS ?l_ROW_CONDITIONS ?a_OWN_CONDITIONS ?l_OWN_CONDITIONS ?a_FILE_ACTS ?l_FILE_ACTS ?a_MARK_ACTS ?l_MARK_ACTS ?a_OWN_ACTS ?l_OWN_ACTS ?a_MARK_CONDITIONS ?l_MARK_CONDITIONS ?a_LOOKS ?l_LOOKS ?e_BadStatement ?a_NoHandler ?i_BadStatement ?s_BadStatement_NoHandler ?sy_BadStatement_ValueError ?a_BadStatement ?s_BadStatement_BadStatement ?a_StrayfilesError ?s_BadStatement_StrayfilesError ?xb_StrayfilesError ?ne_Statement ?g_len ?g_abs ?g_int ?g_str ?g_isinstance ?g_ValueError ?g_repr ?g_range ?g_min ?g_max ?md_Statement_init
    (case k_Statement => refine' Sy.KF.mk ?a ?pg ?hd ?po ?sa ?ha ?hn ?htk ?hm ?mks ?kp ?sf; (case a => k_is); (case pg => k_is); (case hd => k_is); (case po => k_is); (case sa => k_is); (case ha => k_is); (case hn => k_is); (case htk => k_is); (case hm => k_is); (case mks => k_is); (case kp => k_is); (case sf => k_is))
    (case f_bag => refine' Sy.ff_mk ?a ?l ?c ?k; (case a => k_is); (case l => k_is); (case c => k_is); (case k => k_is))
    (case f_take => refine' Sy.ff_mk ?a ?l ?c ?k; (case a => k_is); (case l => k_is); (case c => k_is); (case k => k_is))
    (case f_acts_of => refine' Sy.ff_mk ?a ?l ?c ?k; (case a => k_is); (case l => k_is); (case c => k_is); (case k => k_is))
    (case f_look_conditions => refine' Sy.ff_mk ?a ?l ?c ?k; (case a => k_is); (case l => k_is); (case c => k_is); (case k => k_is))
    (case f_act_conditions => refine' Sy.ff_mk ?a ?l ?c ?k; (case a => k_is); (case l => k_is); (case c => k_is); (case k => k_is))
    (case f_conditions_of => refine' Sy.ff_mk ?a ?l ?c ?k; (case a => k_is); (case l => k_is); (case c => k_is); (case k => k_is))
    (case f_may_have => refine' Sy.ff_mk ?a ?l ?c ?k; (case a => k_is); (case l => k_is); (case c => k_is); (case k => k_is))
    (case m_Statement_init => refine' Sy.mf_mk ?a ?i ?l ?c ?k; (case a => k_is); (case i => k_is); (case l => k_is); (case c => k_is); (case k => k_is))
    (case p_Statement_is_look => refine' Sy.prf_mk ?a ?b ?c ?d ?l ?e ?k; (case a => k_is); (case b => k_is); (case c => k_is); (case d => k_is); (case l => k_is); (case e => k_is); (case k => k_is))
    (case m_Statement_str => refine' Sy.mf_mk ?a ?i ?l ?c ?k; (case a => k_is); (case i => k_is); (case l => k_is); (case c => k_is); (case k => k_is))
    (case m_Statement_eq => refine' Sy.mf_mk ?a ?i ?l ?c ?k; (case a => k_is); (case i => k_is); (case l => k_is); (case c => k_is); (case k => k_is))
    (case f_of => refine' Sy.ff_mk ?a ?l ?c ?k; (case a => k_is); (case l => k_is); (case c => k_is); (case k => k_is))
    (case f_under => refine' Sy.ff_mk ?a ?l ?c ?k; (case a => k_is); (case l => k_is); (case c => k_is); (case k => k_is))
    (case f_texts => refine' Sy.ff_mk ?a ?l ?c ?k; (case a => k_is); (case l => k_is); (case c => k_is); (case k => k_is))
    (case f_tried => refine' Sy.ff_mk ?a ?l ?c ?k; (case a => k_is); (case l => k_is); (case c => k_is); (case k => k_is))
    (case f_right => refine' Sy.ff_mk ?a ?l ?c ?k; (case a => k_is); (case l => k_is); (case c => k_is); (case k => k_is))
    (case f_equals => refine' Sy.ff_mk ?a ?l ?c ?k; (case a => k_is); (case l => k_is); (case c => k_is); (case k => k_is))
    (case f_draw => refine' Sy.ff_mk ?a ?l ?c ?k; (case a => k_is); (case l => k_is); (case c => k_is); (case k => k_is))
    (case f_law => refine' Sy.ff_mk ?a ?l ?c ?k; (case a => k_is); (case l => k_is); (case c => k_is); (case k => k_is))
    (case n_Statement_text => k_is)
    (case n_Statement_word => k_is)
    (case n_Statement_condition => k_is)
    (case ns_Statement_str => refine' Sy.NsT.mk ?ne ?hu ?ci ?ti; (case ne => first | rfl | decide); (case hu => k_is); (case ci => k_is); (case ti => k_is))
    (case a_SWEEP_ACTS => k_is)
    (case l_SWEEP_ACTS => refine' Sy.ktup_mk ?a ?b ?c ?d ?e; (case a => k_is); (case b => rfl); (case c => rfl); (case d => decide); (case e => repeat (first | exact .nil | refine .cons ⟨_, rfl⟩ ?_)))
    (case a_READER_ACTS => k_is)
    (case l_READER_ACTS => refine' Sy.ktup_mk ?a ?b ?c ?d ?e; (case a => k_is); (case b => rfl); (case c => rfl); (case d => decide); (case e => repeat (first | exact .nil | refine .cons ⟨_, rfl⟩ ?_)))
    (case a_HAND_ACTS => k_is)
    (case l_HAND_ACTS => refine' Sy.ktup_mk ?a ?b ?c ?d ?e; (case a => k_is); (case b => rfl); (case c => rfl); (case d => decide); (case e => repeat (first | exact .nil | refine .cons ⟨_, rfl⟩ ?_)))
    (case a_FILE_CONDITIONS => k_is)
    (case l_FILE_CONDITIONS => refine' Sy.ktup_mk ?a ?b ?c ?d ?e; (case a => k_is); (case b => rfl); (case c => rfl); (case d => decide); (case e => repeat (first | exact .nil | refine .cons ⟨_, rfl⟩ ?_)))
    (case a_ROW_CONDITIONS => k_is)
    (case l_ROW_CONDITIONS => refine' Sy.ktup_mk ?a ?b ?c ?d ?e; (case a => k_is); (case b => rfl); (case c => rfl); (case d => decide); (case e => repeat (first | exact .nil | refine .cons ⟨_, rfl⟩ ?_)))
    (case a_OWN_CONDITIONS => k_is)
    (case l_OWN_CONDITIONS => refine' Sy.ktup_mk ?a ?b ?c ?d ?e; (case a => k_is); (case b => rfl); (case c => rfl); (case d => decide); (case e => repeat (first | exact .nil | refine .cons ⟨_, rfl⟩ ?_)))
    (case a_FILE_ACTS => k_is)
    (case l_FILE_ACTS => refine' Sy.ktup_mk ?a ?b ?c ?d ?e; (case a => k_is); (case b => rfl); (case c => rfl); (case d => decide); (case e => repeat (first | exact .nil | refine .cons ⟨_, rfl⟩ ?_)))
    (case a_MARK_ACTS => k_is)
    (case l_MARK_ACTS => refine' Sy.ktup_mk ?a ?b ?c ?d ?e; (case a => k_is); (case b => rfl); (case c => rfl); (case d => decide); (case e => repeat (first | exact .nil | refine .cons ⟨_, rfl⟩ ?_)))
    (case a_OWN_ACTS => k_is)
    (case l_OWN_ACTS => refine' Sy.ktup_mk ?a ?b ?c ?d ?e; (case a => k_is); (case b => rfl); (case c => rfl); (case d => decide); (case e => repeat (first | exact .nil | refine .cons ⟨_, rfl⟩ ?_)))
    (case a_MARK_CONDITIONS => k_is)
    (case l_MARK_CONDITIONS => refine' Sy.ktup_mk ?a ?b ?c ?d ?e; (case a => k_is); (case b => rfl); (case c => rfl); (case d => decide); (case e => repeat (first | exact .nil | refine .cons ⟨_, rfl⟩ ?_)))
    (case a_LOOKS => k_is)
    (case l_LOOKS => refine' Sy.ktup_mk ?a ?b ?c ?d ?e; (case a => k_is); (case b => rfl); (case c => rfl); (case d => decide); (case e => repeat (first | exact .nil | refine .cons ⟨_, rfl⟩ ?_)))
    (case e_BadStatement => refine' Sy.eck_mk ?a ?l ?t ?sa ?ga ?gg ?no ?kc ?ex ?ty ?hd ?i ?ti ?lf ?c; (case a => k_is); (case l => k_is); (case t => first | rfl | decide +kernel); (case sa => k_is); (case ga => k_is); (case gg => k_is); (case no => k_is); (case kc => k_is); (case ex => k_is); (case ty => k_is); (case hd => k_is); (case i => k_is); (case ti => k_is); (case lf => k_is); (case c => k_is))
    (case a_NoHandler => k_is)
    (case i_BadStatement => refine' Sy.ise_mk ?a ?b ?c ?d ?e ?f ?g ?h; (case a => k_is); (case b => k_is); (case c => k_is); (case d => k_is); (case e => k_is); (case f => k_is); (case g => k_is); (case h => k_is))
    (case s_BadStatement_NoHandler => refine' Sy.subt_own ?a ?b ?c ?d ?e; (case a => first | rfl | k_is); (case b => k_is); (case c => k_is); (case d => k_is); (case e => first | exact fun h => Bool.noConfusion h | (intro _; rfl) | (intro _; decide)))
    (case sy_BadStatement_ValueError => refine' Sy.subt_ty ?a ?b; (case a => k_is); (case b => first | rfl | decide +kernel))
    (case a_BadStatement => k_is)
    (case s_BadStatement_BadStatement => refine' Sy.subt_own ?a ?b ?c ?d ?e; (case a => first | rfl | k_is); (case b => k_is); (case c => k_is); (case d => k_is); (case e => first | exact fun h => Bool.noConfusion h | (intro _; rfl) | (intro _; decide)))
    (case a_StrayfilesError => k_is)
    (case s_BadStatement_StrayfilesError => refine' Sy.subt_own ?a ?b ?c ?d ?e; (case a => first | rfl | k_is); (case b => k_is); (case c => k_is); (case d => k_is); (case e => first | exact fun h => Bool.noConfusion h | (intro _; rfl) | (intro _; decide)))
    (case xb_StrayfilesError => k_is)
    (case ne_Statement => refine' Sy.net_mk ?a ?b; (case a => k_is); (case b => k_is))
    (case g_len => k_is)
    (case g_abs => k_is)
    (case g_int => k_is)
    (case g_str => k_is)
    (case g_isinstance => k_is)
    (case g_ValueError => k_is)
    (case g_repr => k_is)
    (case g_range => k_is)
    (case g_min => k_is)
    (case g_max => k_is)
    (case md_Statement_init => refine' Sy.mfd_mk ?a ?i ?l ?c ?k ?n ?r; (case a => k_is); (case i => k_is); (case l => k_is); (case c => k_is); (case k => k_is); (case n => k_is); (case r => exact ⟨_, rfl⟩))
#print axioms PySem.Challenge.cw_strayfiles_k06_statements_made_holds
