import PyProof.Rows.All
import Wide.All
import OpenK.AllK
import Wide.FinOn
import Open.SpecLaws
import KE.OsGo
import HandS.ForSpec
import HandS.Comp
import HandS.Iter
import PySem.Challenge.RW_editvalues_s01_answers
set_option Elab.async false
set_option maxRecDepth 100000
set_option maxHeartbeats 4000000
set_option linter.unusedVariables false
namespace Ev
open Vatrkj
/-! ### the specification by equations without fuel -/
theorem composeIn_any : ∀ (n m : Nat) (r s : Edit), r.length + s.length ≤ n → r.length + s.length ≤ m → composeIn n r s = composeIn m r s
  | 0, m, r, s, h, _ => by
    have hr : r = [] := List.eq_nil_of_length_eq_zero (by omega)
    have hs : s = [] := List.eq_nil_of_length_eq_zero (by omega)
    subst hr hs
    cases m <;> rfl
  | n + 1, 0, r, s, _, h => by
    have hr : r = [] := List.eq_nil_of_length_eq_zero (by omega)
    have hs : s = [] := List.eq_nil_of_length_eq_zero (by omega)
    subst hr hs
    rfl
  | n + 1, m + 1, r, s, h, g => by
    cases r with
    | nil =>
      cases s with
      | nil => rfl
      | cons b s =>
        simp only [List.length_nil, List.length_cons] at h g
        have ih := composeIn_any n m [] s (by simp; omega) (by simp; omega)
        cases b <;> simp [composeIn, ih]
    | cons a r =>
      cases s with
      | nil =>
        simp only [List.length_nil, List.length_cons] at h g
        have ih := composeIn_any n m r [] (by simp; omega) (by simp; omega)
        cases a <;> simp [composeIn, ih]
      | cons b s =>
        simp only [List.length_cons] at h g
        have i1 := composeIn_any n m r (b :: s) (by simp; omega) (by simp; omega)
        have i2 := composeIn_any n m (a :: r) s (by simp; omega) (by simp; omega)
        have i3 := composeIn_any n m r s (by omega) (by omega)
        cases a <;> cases b <;> simp [composeIn, i1, i2, i3]
def cmp (r s : Edit) : Option Edit := composeIn (r.length + s.length) r s
theorem compose_is (r s : Edit) : compose r s = (cmp r s).map formed := rfl
theorem cmp_nil : cmp [] [] = some [] := rfl
theorem cmp_fuel {n : Nat} {r s : Edit} (h : r.length + s.length ≤ n) : composeIn n r s = cmp r s := composeIn_any _ _ _ _ h (Nat.le_refl _)
theorem cmp_drop (x : Letter) (r s : Edit) : cmp (.drop x :: r) s = (cmp r s).map fun e => .drop x :: e := by
  have e : cmp (.drop x :: r) s = composeIn (r.length + s.length + 1) (.drop x :: r) s := (cmp_fuel (by simp; omega)).symm
  rw [e]
  cases s <;> simp [composeIn, cmp_fuel]
theorem cmp_put (x : Letter) (r s : Edit) (h : ∀ y r', r ≠ .drop y :: r') : cmp r (.put x :: s) = (cmp r s).map fun e => .put x :: e := by
  have e : cmp r (.put x :: s) = composeIn (r.length + s.length + 1) r (.put x :: s) := (cmp_fuel (by simp; omega)).symm
  rw [e]
  cases r with
  | nil => simp [composeIn, cmp_fuel]
  | cons a r =>
    cases a with
    | drop y => exact absurd rfl (h y r)
    | keep => rw [composeIn, cmp_fuel (Nat.le_refl _)]; intro x r' z; cases z
    | paint f g => rw [composeIn, cmp_fuel (Nat.le_refl _)]; intro x r' z; cases z
    | put y => rw [composeIn, cmp_fuel (Nat.le_refl _)]; intro x r' z; cases z
theorem cmp_meet (a b : Vatrkj.Step) (r s : Edit) (ha : ∀ y, a ≠ .drop y) (hb : ∀ y, b ≠ .put y) : cmp (a :: r) (b :: s) = (meet a b).bind fun m => (cmp r s).map fun e => m ++ e := by
  have e : cmp (a :: r) (b :: s) = composeIn (r.length + s.length + 1 + 1) (a :: r) (b :: s) := (cmp_fuel (by simp; omega)).symm
  rw [e]
  cases a with
  | drop y => exact absurd rfl (ha y)
  | keep => cases b with
    | put y => exact absurd rfl (hb y)
    | _ => simp [composeIn, cmp_fuel]
  | paint f g => cases b with
    | put y => exact absurd rfl (hb y)
    | _ => simp [composeIn, cmp_fuel]
  | put z => cases b with
    | put y => exact absurd rfl (hb y)
    | _ => simp [composeIn, cmp_fuel]
theorem cmp_left (a : Vatrkj.Step) (r : Edit) (ha : ∀ y, a ≠ .drop y) : cmp (a :: r) [] = none := by
  show composeIn (r.length + 1 + 0) (a :: r) [] = none
  cases a with
  | drop y => exact absurd rfl (ha y)
  | _ => simp [composeIn]
theorem cmp_right (b : Vatrkj.Step) (s : Edit) (hb : ∀ y, b ≠ .put y) : cmp [] (b :: s) = none := by
  have e : cmp [] (b :: s) = composeIn (s.length + 1) [] (b :: s) := (cmp_fuel (by simp)).symm
  rw [e]
  cases b with
  | put y => exact absurd rfl (hb y)
  | _ => simp [composeIn]
/-! rebase -/
theorem rebaseIn_any (f : Bool) : ∀ (n m : Nat) (r s : Edit), r.length + s.length ≤ n → r.length + s.length ≤ m → rebaseIn f n r s = rebaseIn f m r s
  | 0, m, r, s, h, _ => by
    have hr : r = [] := List.eq_nil_of_length_eq_zero (by omega)
    have hs : s = [] := List.eq_nil_of_length_eq_zero (by omega)
    subst hr hs
    cases m <;> rfl
  | n + 1, 0, r, s, _, h => by
    have hr : r = [] := List.eq_nil_of_length_eq_zero (by omega)
    have hs : s = [] := List.eq_nil_of_length_eq_zero (by omega)
    subst hr hs
    rfl
  | n + 1, m + 1, r, s, h, g => by
    cases r with
    | nil =>
      cases s with
      | nil => rfl
      | cons b s =>
        simp only [List.length_nil, List.length_cons] at h g
        have ih := rebaseIn_any f n m [] s (by simp; omega) (by simp; omega)
        cases b <;> simp [rebaseIn, nextPut, ih]
    | cons a r =>
      cases s with
      | nil =>
        simp only [List.length_nil, List.length_cons] at h g
        have ih := rebaseIn_any f n m r [] (by simp; omega) (by simp; omega)
        cases a <;> simp [rebaseIn, nextPut, ih]
      | cons b s =>
        simp only [List.length_cons] at h g
        have i1 := rebaseIn_any f n m r (b :: s) (by simp; omega) (by simp; omega)
        have i2 := rebaseIn_any f n m (a :: r) s (by simp; omega) (by simp; omega)
        have i3 := rebaseIn_any f n m r s (by omega) (by omega)
        cases a <;> cases b <;> simp [rebaseIn, nextPut, i1, i2, i3]
def rbs (f : Bool) (r s : Edit) : Option (Edit × Edit) := rebaseIn f (r.length + s.length) r s
theorem rebase_is (f : Bool) (r s : Edit) : rebase f r s = (rbs f r s).map fun e => (formed e.1, formed e.2) := rfl
theorem rbs_fuel {f : Bool} {n : Nat} {r s : Edit} (h : r.length + s.length ≤ n) : rebaseIn f n r s = rbs f r s := rebaseIn_any f _ _ _ _ h (Nat.le_refl _)
theorem rbs_nil (f : Bool) : rbs f [] [] = some ([], []) := rfl
def isPut : Edit → Bool
  | .put _ :: _ => true
  | _ => false
theorem nextPut_none {s : Edit} (h : isPut s = false) : nextPut s = none := by
  cases s with
  | nil => rfl
  | cons b s => cases b <;> simp [isPut, nextPut] at h ⊢
/-- r's put comes -/
theorem rbs_r (f : Bool) (x : Letter) (r s : Edit) (h : f = true ∨ isPut s = false) : rbs f (.put x :: r) s = (rbs f r s).map fun e => (.put x :: e.1, .keep :: e.2) := by
  have e : rbs f (.put x :: r) s = rebaseIn f (r.length + s.length + 1) (.put x :: r) s := (rbs_fuel (by simp; omega)).symm
  rw [e]
  cases s with
  | nil => simp [rebaseIn, nextPut, rbs_fuel]
  | cons b s =>
    cases b with
    | put y =>
      have h' : f = true := by rcases h with h | h; exact h; cases h
      subst h'
      simp [rebaseIn, nextPut, rbs_fuel]
    | _ => simp [rebaseIn, nextPut, rbs_fuel]
/-- s's put comes -/
theorem rbs_s (f : Bool) (y : Letter) (r s : Edit) (h : f = false ∨ isPut r = false) : rbs f r (.put y :: s) = (rbs f r s).map fun e => (.keep :: e.1, .put y :: e.2) := by
  have e : rbs f r (.put y :: s) = rebaseIn f (r.length + s.length + 1) r (.put y :: s) := (rbs_fuel (by simp; omega)).symm
  rw [e]
  cases r with
  | nil => simp [rebaseIn, nextPut, rbs_fuel]
  | cons a r =>
    cases a with
    | put x =>
      have h' : f = false := by rcases h with h | h; exact h; cases h
      subst h'
      simp [rebaseIn, nextPut, rbs_fuel]
    | _ => simp [rebaseIn, nextPut, rbs_fuel]
theorem rbs_both (f : Bool) (a b : Vatrkj.Step) (r s : Edit) (ha : ∀ y, a ≠ .put y) (hb : ∀ y, b ≠ .put y) : rbs f (a :: r) (b :: s) = (cross f a b).bind fun c => (rbs f r s).map fun e => (c.1 ++ e.1, c.2 ++ e.2) := by
  have e : rbs f (a :: r) (b :: s) = rebaseIn f (r.length + s.length + 1 + 1) (a :: r) (b :: s) := (rbs_fuel (by simp; omega)).symm
  rw [e]
  cases a with
  | put y => exact absurd rfl (ha y)
  | keep => cases b with
    | put y => exact absurd rfl (hb y)
    | _ => simp [rebaseIn, nextPut, rbs_fuel]
  | paint f g => cases b with
    | put y => exact absurd rfl (hb y)
    | _ => simp [rebaseIn, nextPut, rbs_fuel]
  | drop z => cases b with
    | put y => exact absurd rfl (hb y)
    | _ => simp [rebaseIn, nextPut, rbs_fuel]
theorem rbs_left (f : Bool) (a : Vatrkj.Step) (r : Edit) (ha : ∀ y, a ≠ .put y) : rbs f (a :: r) [] = none := by
  show rebaseIn f (r.length + 1 + 0) (a :: r) [] = none
  cases a with
  | put y => exact absurd rfl (ha y)
  | _ => simp [rebaseIn, nextPut]
theorem rbs_right (f : Bool) (b : Vatrkj.Step) (s : Edit) (hb : ∀ y, b ≠ .put y) : rbs f [] (b :: s) = none := by
  have e : rbs f [] (b :: s) = rebaseIn f (s.length + 1) [] (b :: s) := (rbs_fuel (by simp)).symm
  rw [e]
  cases b with
  | put y => exact absurd rfl (hb y)
  | _ => simp [rebaseIn, nextPut]
/-! lengths -/
theorem oldLength_cons (a : Vatrkj.Step) (e : Edit) : oldLength (a :: e) = (if takes a = true then 1 else 0) + oldLength e := by
  unfold oldLength
  cases h : takes a <;> simp [List.filter, h]; omega
theorem newLength_cons (a : Vatrkj.Step) (e : Edit) : newLength (a :: e) = (if brings a = true then 1 else 0) + newLength e := by
  unfold newLength
  cases h : brings a <;> simp [List.filter, h]; omega
theorem oldLength_append (a e : Edit) : oldLength (a ++ e) = oldLength a + oldLength e := by simp [oldLength]
theorem newLength_append (a e : Edit) : newLength (a ++ e) = newLength a + newLength e := by simp [newLength]
theorem len_le : ∀ e : Edit, e.length ≤ oldLength e + newLength e
  | [] => Nat.zero_le _
  | a :: e => by
    have ih := len_le e
    rw [oldLength_cons, newLength_cons, List.length_cons]
    cases a <;> simp [takes, brings] <;> omega
theorem applied_some : ∀ (e : Edit) (t u : Text), applied e t = some u → oldLength e = t.length ∧ u.length = newLength e
  | [], [], u, h => by simp [applied] at h; subst h; exact ⟨rfl, rfl⟩
  | [], _ :: _, u, h => by simp [applied] at h
  | .put x :: r, t, u, h => by
    rw [applied] at h
    cases q : applied r t with
    | none => rw [q] at h; cases h
    | some v =>
      rw [q] at h
      obtain rfl := Option.some.inj h
      have ih := applied_some r t v q
      rw [oldLength_cons, newLength_cons]
      simp [takes, brings, ih.1, ih.2]; omega
  | .keep :: r, [], u, h => by simp [applied] at h
  | .paint f g :: r, [], u, h => by simp [applied] at h
  | .drop y :: r, [], u, h => by simp [applied] at h
  | .keep :: r, x :: t, u, h => by
    rw [applied] at h
    cases q : applied r t with
    | none => rw [q] at h; cases h
    | some v =>
      rw [q] at h
      obtain rfl := Option.some.inj h
      have ih := applied_some r t v q
      rw [oldLength_cons, newLength_cons]
      simp [takes, brings, ih.1, ih.2]; omega
  | .paint f g :: r, x :: t, u, h => by
    rw [applied] at h
    split at h
    · cases q : applied r t with
      | none => rw [q] at h; cases h
      | some v =>
        rw [q] at h
        obtain rfl := Option.some.inj h
        have ih := applied_some r t v q
        rw [oldLength_cons, newLength_cons]
        simp [takes, brings, ih.1, ih.2]; omega
    · cases h
  | .drop y :: r, x :: t, u, h => by
    rw [applied] at h
    split at h
    · have ih := applied_some r t u h
      rw [oldLength_cons, newLength_cons]
      simp [takes, brings, ih.1, ih.2]; omega
    · cases h
theorem formFrom_len : ∀ (e puts drops : Edit), oldLength (formFrom puts drops e) = oldLength puts + oldLength drops + oldLength e ∧ newLength (formFrom puts drops e) = newLength puts + newLength drops + newLength e
  | [], p, d => by simp [formFrom, oldLength_append, newLength_append]; exact ⟨rfl, rfl⟩
  | .put x :: r, p, d => by
    have e1 : oldLength [Vatrkj.Step.put x] = 0 := rfl
    have e2 : newLength [Vatrkj.Step.put x] = 1 := rfl
    have e3 : takes (.put x) = false := rfl
    have e4 : brings (.put x) = true := rfl
    rw [formFrom, (formFrom_len r _ _).1, (formFrom_len r _ _).2, oldLength_append, newLength_append, oldLength_cons (.put x) r, newLength_cons (.put x) r, e1, e2, e3, e4]
    simp; omega
  | .drop x :: r, p, d => by
    have e1 : oldLength [Vatrkj.Step.drop x] = 1 := rfl
    have e2 : newLength [Vatrkj.Step.drop x] = 0 := rfl
    have e3 : takes (.drop x) = true := rfl
    have e4 : brings (.drop x) = false := rfl
    rw [formFrom, (formFrom_len r _ _).1, (formFrom_len r _ _).2, oldLength_append, newLength_append, oldLength_cons (.drop x) r, newLength_cons (.drop x) r, e1, e2, e3, e4]
    simp; omega
  | .keep :: r, p, d => by
    rw [formFrom, oldLength_append, newLength_append, oldLength_append, newLength_append, oldLength_cons, newLength_cons, (formFrom_len r _ _).1, (formFrom_len r _ _).2, oldLength_cons .keep r, newLength_cons .keep r]
    · simp [oldLength, newLength]; omega
    · intro x z; cases z
    · intro x z; cases z
  | .paint f g :: r, p, d => by
    rw [formFrom, oldLength_append, newLength_append, oldLength_append, newLength_append, oldLength_cons, newLength_cons, (formFrom_len r _ _).1, (formFrom_len r _ _).2, oldLength_cons (.paint f g) r, newLength_cons (.paint f g) r]
    · simp [oldLength, newLength]; omega
    · intro x z; cases z
    · intro x z; cases z
theorem formed_old (e : Edit) : oldLength (formed e) = oldLength e := by
  have := (formFrom_len e [] []).1
  simpa [formed, oldLength] using this
theorem formed_new (e : Edit) : newLength (formed e) = newLength e := by
  have := (formFrom_len e [] []).2
  simpa [formed, newLength] using this
end Ev

namespace Ev
open Vatrkj
/-! ### letters, parts: the specification by equations -/
theorem lettersOf_len : ∀ (l : List Int) (t : Text), lettersOf l = some t → l.length = 2 * t.length
  | [], t, h => by simp [lettersOf] at h; subst h; rfl
  | [_], t, h => by simp [lettersOf] at h
  | a :: b :: r, t, h => by
    rw [lettersOf] at h
    split at h
    · cases q : lettersOf r with
      | none => rw [q] at h; cases h
      | some u =>
        rw [q] at h
        obtain rfl := Option.some.inj h
        have := lettersOf_len r u q
        simp only [List.length_cons]
        omega
    · cases h
theorem partOf_0 (n : Int) (r : List Int) : partOf (0 :: n :: r) = if isCount n = true then some (List.replicate n.toNat .keep, r) else none := rfl
theorem partOf_1 (f g n : Int) (r : List Int) : partOf (1 :: f :: g :: n :: r) = if (isLook f && (isLook g && (!(f == g) && isCount n))) = true then some (List.replicate n.toNat (.paint f.toNat g.toNat), r) else none := rfl
theorem partOf_2 (n : Int) (r : List Int) : partOf (2 :: n :: r) = if isCount n = true ∧ 2 * n.toNat ≤ r.length then (lettersOf (r.take (2 * n.toNat))).map fun t => (t.map .drop, r.drop (2 * n.toNat)) else none := rfl
theorem partOf_3 (n : Int) (r : List Int) : partOf (3 :: n :: r) = if isCount n = true ∧ 2 * n.toNat ≤ r.length then (lettersOf (r.take (2 * n.toNat))).map fun t => (t.map .put, r.drop (2 * n.toNat)) else none := rfl
theorem partOf_kind {k : Int} {r : List Int} (h : k < 0 ∨ 3 < k) : partOf (k :: r) = none := by
  unfold partOf
  split <;> first | rfl | (rename_i heq; injection heq with h1 _; omega)
theorem partOf_short {k : Int} {r : List Int} (hk : k = 0 ∨ k = 2 ∨ k = 3) (h : r.length < 1) : partOf (k :: r) = none := by
  have : r = [] := List.eq_nil_of_length_eq_zero (by omega)
  subst this
  rcases hk with rfl | rfl | rfl <;> rfl
theorem partOf_short1 {r : List Int} (h : r.length < 3) : partOf (1 :: r) = none := by
  match r, h with
  | [], _ => rfl
  | [_], _ => rfl
  | [_, _], _ => rfl
/-- one part: how long it is, and that it is one by itself; what kind, how many steps -/
structure IsPart (r : List Int) (e : Edit) : Prop where
  one : partOf r = some (e, [])
theorem partOf_some {l rest : List Int} {e : Edit} (h : partOf l = some (e, rest)) : ∃ n, 2 ≤ n ∧ n ≤ l.length ∧ rest = l.drop n ∧ partOf (l.take n) = some (e, []) := by
  unfold partOf at h
  split at h
  · rename_i n r
    split at h
    · rename_i hc
      obtain ⟨rfl, rfl⟩ := Prod.mk.inj (Option.some.inj h)
      exact ⟨2, Nat.le_refl _, by simp, rfl, by show partOf [0, n] = _; rw [partOf_0, if_pos hc]⟩
    · cases h
  · rename_i f g n r
    split at h
    · rename_i hc
      obtain ⟨rfl, rfl⟩ := Prod.mk.inj (Option.some.inj h)
      exact ⟨4, by omega, by simp, rfl, by show partOf [1, f, g, n] = _; rw [partOf_1, if_pos hc]⟩
    · cases h
  · rename_i n r
    split at h
    · rename_i hc
      cases q : lettersOf (r.take (2 * n.toNat)) with
      | none => rw [q] at h; cases h
      | some t =>
        rw [q] at h
        obtain ⟨rfl, rfl⟩ := Prod.mk.inj (Option.some.inj h)
        refine ⟨2 * n.toNat + 2, by omega, by simp only [List.length_cons]; omega, rfl, ?_⟩
        show partOf (2 :: n :: r.take (2 * n.toNat)) = _
        rw [partOf_2, if_pos ⟨hc.1, by rw [List.length_take]; omega⟩, List.take_take, Nat.min_self, q]
        simp [List.drop_take_self]
    · cases h
  · rename_i n r
    split at h
    · rename_i hc
      cases q : lettersOf (r.take (2 * n.toNat)) with
      | none => rw [q] at h; cases h
      | some t =>
        rw [q] at h
        obtain ⟨rfl, rfl⟩ := Prod.mk.inj (Option.some.inj h)
        refine ⟨2 * n.toNat + 2, by omega, by simp only [List.length_cons]; omega, rfl, ?_⟩
        show partOf (3 :: n :: r.take (2 * n.toNat)) = _
        rw [partOf_3, if_pos ⟨hc.1, by rw [List.length_take]; omega⟩, List.take_take, Nat.min_self, q]
        simp [List.drop_take_self]
    · cases h
  · cases h
theorem partsOf_any : ∀ (n m : Nat) (l : List Int), l.length ≤ n → l.length ≤ m → partsOf n l = partsOf m l
  | 0, m, l, h, _ => by
    have : l = [] := List.eq_nil_of_length_eq_zero (by omega)
    subst this
    cases m <;> rfl
  | n + 1, 0, l, _, h => by
    have : l = [] := List.eq_nil_of_length_eq_zero (by omega)
    subst this
    rfl
  | n + 1, m + 1, l, h, g => by
    cases l with
    | nil => rfl
    | cons a l =>
      show ((partOf (a :: l)).bind fun x => (partsOf n x.2).map fun e => x.1 ++ e) = ((partOf (a :: l)).bind fun x => (partsOf m x.2).map fun e => x.1 ++ e)
      cases q : partOf (a :: l) with
      | none => rfl
      | some x =>
        obtain ⟨e, rest⟩ := x
        obtain ⟨k, h1, h2, h3, _⟩ := partOf_some q
        have hl : rest.length ≤ l.length - 1 := by rw [h3, List.length_drop]; simp only [List.length_cons] at h2 ⊢; omega
        simp only [List.length_cons] at h g
        show (partsOf n rest).map _ = (partsOf m rest).map _
        rw [partsOf_any n m rest (by omega) (by omega)]
def prs (l : List Int) : Option Edit := partsOf l.length l
theorem editOf_is (l : List Int) : editOf l = (prs l).map formed := rfl
theorem prs_nil : prs [] = some [] := rfl
theorem prs_none {l : List Int} (n : l ≠ []) (h : partOf l = none) : prs l = none := by
  cases l with
  | nil => exact absurd rfl n
  | cons a l =>
    show ((partOf (a :: l)).bind fun x => (partsOf l.length x.2).map fun e => x.1 ++ e) = none
    rw [h]; rfl
theorem prs_some {l rest : List Int} {e : Edit} (h : partOf l = some (e, rest)) : prs l = (prs rest).map (e ++ ·) := by
  obtain ⟨k, h1, h2, h3, _⟩ := partOf_some h
  cases l with
  | nil => simp at h2; omega
  | cons a l =>
    show ((partOf (a :: l)).bind fun x => (partsOf l.length x.2).map fun e => x.1 ++ e) = _
    rw [h]
    show (partsOf l.length rest).map _ = (partsOf rest.length rest).map _
    have hl : rest.length ≤ l.length := by rw [h3, List.length_drop]; simp only [List.length_cons] at h2 ⊢; omega
    rw [partsOf_any _ _ rest hl (Nat.le_refl _)]
/-- parts, and the edit that they tell -/
inductive Prt : List (List Int) → Edit → Prop
  | nil : Prt [] []
  | cons {r : List Int} {e E : Edit} {P : List (List Int)} (h : partOf r = some (e, [])) (k : Prt P E) : Prt (r :: P) (e ++ E)
theorem Prt.snoc {r : List Int} {e : Edit} (h : partOf r = some (e, [])) : ∀ {P : List (List Int)} {E : Edit}, Prt P E → Prt (P ++ [r]) (E ++ e)
  | _, _, .nil => by
    have := Prt.cons h .nil
    simpa using this
  | _, _, .cons g k => by
    rw [List.append_assoc]
    exact .cons g (k.snoc h)
theorem Prt.drop : ∀ {P : List (List Int)} {E : Edit} (i : Nat), Prt P E → ∃ E1 E2, E = E1 ++ E2 ∧ Prt (P.take i) E1 ∧ Prt (P.drop i) E2
  | _, _, 0, k => ⟨[], _, rfl, .nil, k⟩
  | _, _, _ + 1, .nil => ⟨[], [], rfl, .nil, .nil⟩
  | _, _, i + 1, .cons g k => by
    obtain ⟨E1, E2, h1, h2, h3⟩ := k.drop i
    exact ⟨_, E2, by rw [h1, List.append_assoc], .cons g h2, h3⟩
theorem Prt.inv {r : List Int} {P : List (List Int)} {E : Edit} (h : Prt (r :: P) E) : ∃ e E', E = e ++ E' ∧ partOf r = some (e, []) ∧ Prt P E' := by
  cases h with
  | cons g k => exact ⟨_, _, rfl, g, k⟩
theorem Prt.inv0 {E : Edit} (h : Prt [] E) : E = [] := by cases h; rfl
/-- the forms of one part -/
theorem part_forms {r : List Int} {e : Edit} (h : partOf r = some (e, [])) :
    (∃ n : Nat, 1 ≤ n ∧ n ≤ 2000 ∧ r = [0, (n : Int)] ∧ e = List.replicate n .keep) ∨
    (∃ f g n : Nat, 1 ≤ n ∧ n ≤ 2000 ∧ r = [1, (f : Int), (g : Int), (n : Int)] ∧ e = List.replicate n (.paint f g)) ∨
    (∃ (n : Nat) (l : List Int) (t : Text), 1 ≤ n ∧ n ≤ 2000 ∧ r = 2 :: (n : Int) :: l ∧ lettersOf l = some t ∧ t.length = n ∧ e = t.map .drop) ∨
    (∃ (n : Nat) (l : List Int) (t : Text), 1 ≤ n ∧ n ≤ 2000 ∧ r = 3 :: (n : Int) :: l ∧ lettersOf l = some t ∧ t.length = n ∧ e = t.map .put) := by
  have cnt : ∀ n : Int, isCount n = true → 1 ≤ n.toNat ∧ n.toNat ≤ 2000 ∧ n = (n.toNat : Int) := fun n hn => by
    simp only [isCount, Bool.and_eq_true, decide_eq_true_eq] at hn
    have h2 : n ≤ 2000 := hn.2
    omega
  have lk : ∀ n : Int, isLook n = true → n = (n.toNat : Int) := fun n hn => by
    simp only [isLook, Bool.and_eq_true, decide_eq_true_eq] at hn
    omega
  have two : ∀ (n : Int) (l : List Int) (t : Text), isCount n = true → 2 * n.toNat ≤ l.length → l.drop (2 * n.toNat) = [] → lettersOf (l.take (2 * n.toNat)) = some t → lettersOf l = some t ∧ t.length = n.toNat := fun n l t hn h1 h2 h3 => by
    have hl : l.length ≤ 2 * n.toNat := by
      have := congrArg List.length h2
      rw [List.length_drop] at this
      simp at this
      omega
    rw [List.take_of_length_le hl] at h3
    have := lettersOf_len _ _ h3
    exact ⟨h3, by omega⟩
  unfold partOf at h
  split at h
  · rename_i n r
    split at h
    · rename_i hc
      obtain ⟨rfl, rfl⟩ := Prod.mk.inj (Option.some.inj h)
      obtain ⟨h1, h2, h3⟩ := cnt n hc
      exact .inl ⟨n.toNat, h1, h2, by rw [← h3], rfl⟩
    · cases h
  · rename_i f g n r
    split at h
    · rename_i hc
      obtain ⟨rfl, rfl⟩ := Prod.mk.inj (Option.some.inj h)
      simp only [Bool.and_eq_true] at hc
      obtain ⟨h1, h2, h3⟩ := cnt n hc.2.2.2
      exact .inr (.inl ⟨f.toNat, g.toNat, n.toNat, h1, h2, by rw [← h3, ← lk f hc.1, ← lk g hc.2.1], rfl⟩)
    · cases h
  · rename_i n r
    split at h
    · rename_i hc
      cases q : lettersOf (r.take (2 * n.toNat)) with
      | none => rw [q] at h; cases h
      | some t =>
        rw [q] at h
        obtain ⟨rfl, h5⟩ := Prod.mk.inj (Option.some.inj h)
        obtain ⟨h1, h2, h3⟩ := cnt n hc.1
        obtain ⟨h6, h7⟩ := two n r t hc.1 hc.2 h5 q
        exact .inr (.inr (.inl ⟨n.toNat, r, t, h1, h2, by rw [← h3], h6, h7, rfl⟩))
    · cases h
  · rename_i n r
    split at h
    · rename_i hc
      cases q : lettersOf (r.take (2 * n.toNat)) with
      | none => rw [q] at h; cases h
      | some t =>
        rw [q] at h
        obtain ⟨rfl, h5⟩ := Prod.mk.inj (Option.some.inj h)
        obtain ⟨h1, h2, h3⟩ := cnt n hc.1
        obtain ⟨h6, h7⟩ := two n r t hc.1 hc.2 h5 q
        exact .inr (.inr (.inr ⟨n.toNat, r, t, h1, h2, by rw [← h3], h6, h7, rfl⟩))
    · cases h
  · cases h
end Ev

namespace Ev
open Vatrkj
/-! ### lengths of what is made -/
theorem b2n_take (x : Vatrkj.Step) : oldLength [x] = if takes x = true then 1 else 0 := by rw [oldLength_cons]; rfl
theorem b2n_bring (x : Vatrkj.Step) : newLength [x] = if brings x = true then 1 else 0 := by rw [newLength_cons]; rfl
theorem meet_old {a b : Vatrkj.Step} {m : Edit} (h : meet a b = some m) (ha : ∀ y, a ≠ .drop y) (hb : ∀ y, b ≠ .put y) : oldLength m = (if takes a = true then 1 else 0) ∧ newLength m = (if brings b = true then 1 else 0) := by
  cases a with
  | drop y => exact absurd rfl (ha y)
  | keep => cases b with
    | put y => exact absurd rfl (hb y)
    | _ => obtain rfl := Option.some.inj h; exact ⟨rfl, rfl⟩
  | paint f g => cases b with
    | put y => exact absurd rfl (hb y)
    | keep => obtain rfl := Option.some.inj h; exact ⟨rfl, rfl⟩
    | paint g' h' =>
      have h : (if g = g' then some [if f = h' then Vatrkj.Step.keep else .paint f h'] else none) = some m := h
      split at h
      · obtain rfl := Option.some.inj h
        split <;> exact ⟨rfl, rfl⟩
      · cases h
    | drop x =>
      have h : (if x.look = g then some [Vatrkj.Step.drop { x with look := f }] else none) = some m := h
      split at h
      · obtain rfl := Option.some.inj h; exact ⟨rfl, rfl⟩
      · cases h
  | put x => cases b with
    | put y => exact absurd rfl (hb y)
    | keep => obtain rfl := Option.some.inj h; exact ⟨rfl, rfl⟩
    | paint g' h' =>
      have h : (if x.look = g' then some [Vatrkj.Step.put { x with look := h' }] else none) = some m := h
      split at h
      · obtain rfl := Option.some.inj h; exact ⟨rfl, rfl⟩
      · cases h
    | drop y =>
      have h : (if x = y then some ([] : Edit) else none) = some m := h
      split at h
      · obtain rfl := Option.some.inj h; exact ⟨rfl, rfl⟩
      · cases h
theorem omap {α β : Type} {o : Option α} {f : α → β} {y : β} (h : o.map f = some y) : ∃ x, o = some x ∧ f x = y := by
  cases o with
  | none => cases h
  | some x => exact ⟨x, rfl, Option.some.inj h⟩
theorem isDrop_dec (a : Vatrkj.Step) : (∃ y, a = .drop y) ∨ ∀ y, a ≠ .drop y := by
  cases a with
  | drop y => exact .inl ⟨y, rfl⟩
  | _ => exact .inr fun y z => by cases z
theorem isPut_dec (a : Vatrkj.Step) : (∃ y, a = .put y) ∨ ∀ y, a ≠ .put y := by
  cases a with
  | put y => exact .inl ⟨y, rfl⟩
  | _ => exact .inr fun y z => by cases z
theorem cmp_len : ∀ (n : Nat) (r s e : Edit), r.length + s.length = n → cmp r s = some e → oldLength e = oldLength r ∧ newLength e = newLength s
  | n, [], [], e, _, h => by
    rw [cmp_nil] at h
    obtain rfl := Option.some.inj h
    exact ⟨rfl, rfl⟩
  | 0, a :: r, s, e, hn, _ => by simp at hn
  | 0, [], b :: s, e, hn, _ => by simp at hn
  | n + 1, [], b :: s, e, hn, h => by
    rcases isPut_dec b with ⟨y, rfl⟩ | hb
    · rw [cmp_put _ _ _ (fun _ _ z => by cases z)] at h
      obtain ⟨e', h1, rfl⟩ := omap h
      have ih := cmp_len n [] s e' (by simp at hn ⊢; omega) h1
      rw [oldLength_cons, newLength_cons, ih.1, ih.2, newLength_cons (.put y) s]
      exact ⟨by show 0 + _ = _; omega, rfl⟩
    · rw [cmp_right _ _ hb] at h; cases h
  | n + 1, a :: r, s, e, hn, h => by
    rcases isDrop_dec a with ⟨x, rfl⟩ | ha
    · rw [cmp_drop] at h
      obtain ⟨e', h1, rfl⟩ := omap h
      have ih := cmp_len n r s e' (by simp at hn ⊢; omega) h1
      rw [oldLength_cons, newLength_cons, ih.1, ih.2, oldLength_cons (.drop x) r]
      exact ⟨rfl, by show 0 + _ = _; omega⟩
    · cases s with
      | nil => rw [cmp_left _ _ ha] at h; cases h
      | cons b s =>
        rcases isPut_dec b with ⟨y, rfl⟩ | hb
        · rw [cmp_put _ _ _ (fun z r' q => ha z (List.cons.inj q).1)] at h
          obtain ⟨e', h1, rfl⟩ := omap h
          have ih := cmp_len n (a :: r) s e' (by simp at hn ⊢; omega) h1
          rw [oldLength_cons (.put y) e', newLength_cons (.put y) e', ih.1, ih.2, newLength_cons (.put y) s]
          exact ⟨by show 0 + _ = _; omega, rfl⟩
        · rw [cmp_meet _ _ _ _ ha hb] at h
          cases q : meet a b with
          | none => rw [q] at h; cases h
          | some m =>
            rw [q] at h
            obtain ⟨e', h1, rfl⟩ := omap (show (cmp r s).map (fun e => m ++ e) = some e from h)
            cases n with
            | zero => simp at hn; omega
            | succ n =>
              have ih := cmp_len n r s e' (by simp at hn ⊢; omega) h1
              have hm := meet_old q ha hb
              rw [oldLength_append, newLength_append, ih.1, ih.2, hm.1, hm.2, oldLength_cons a r, newLength_cons b s]
              exact ⟨rfl, rfl⟩
theorem compose_len {r s e : Edit} (h : compose r s = some e) : oldLength e = oldLength r ∧ newLength e = newLength s := by
  rw [compose_is] at h
  obtain ⟨e', h1, rfl⟩ := omap h
  rw [formed_old, formed_new]
  exact cmp_len _ r s e' rfl h1
theorem cross_old {f : Bool} {a b : Vatrkj.Step} {m : Edit × Edit} (h : cross f a b = some m) (ha : ∀ y, a ≠ .put y) (hb : ∀ y, b ≠ .put y) : oldLength m.1 = (if brings b = true then 1 else 0) ∧ oldLength m.2 = (if brings a = true then 1 else 0) := by
  cases a with
  | put y => exact absurd rfl (ha y)
  | keep => cases b with
    | put y => exact absurd rfl (hb y)
    | _ => obtain rfl := Option.some.inj h; exact ⟨rfl, rfl⟩
  | paint f1 g => cases b with
    | put y => exact absurd rfl (hb y)
    | keep => obtain rfl := Option.some.inj h; exact ⟨rfl, rfl⟩
    | paint f2 h' =>
      have h : (if f1 = f2 then (if g = h' then some (([.keep], [.keep]) : Edit × Edit) else if f = true then some ([.paint h' g], [.keep]) else some ([.keep], [.paint g h'])) else none) = some m := h
      split at h
      · split at h
        · obtain rfl := Option.some.inj h; exact ⟨rfl, rfl⟩
        · split at h <;> (obtain rfl := Option.some.inj h; exact ⟨rfl, rfl⟩)
      · cases h
    | drop x =>
      have h : (if x.look = f1 then some (([], [.drop { x with look := g }]) : Edit × Edit) else none) = some m := h
      split at h
      · obtain rfl := Option.some.inj h; exact ⟨rfl, rfl⟩
      · cases h
  | drop x => cases b with
    | put y => exact absurd rfl (hb y)
    | keep => obtain rfl := Option.some.inj h; exact ⟨rfl, rfl⟩
    | paint f2 g =>
      have h : (if x.look = f2 then some (([.drop { x with look := g }], []) : Edit × Edit) else none) = some m := h
      split at h
      · obtain rfl := Option.some.inj h; exact ⟨rfl, rfl⟩
      · cases h
    | drop y =>
      have h : (if x = y then some (([], []) : Edit × Edit) else none) = some m := h
      split at h
      · obtain rfl := Option.some.inj h; exact ⟨rfl, rfl⟩
      · cases h
theorem rbs_len (f : Bool) : ∀ (n : Nat) (r s : Edit) (e : Edit × Edit), r.length + s.length = n → rbs f r s = some e → oldLength e.1 = newLength s ∧ oldLength e.2 = newLength r
  | n, [], [], e, _, h => by
    rw [rbs_nil] at h
    obtain rfl := Option.some.inj h
    exact ⟨rfl, rfl⟩
  | 0, a :: r, s, e, hn, _ => by simp at hn
  | 0, [], b :: s, e, hn, _ => by simp at hn
  | n + 1, [], b :: s, e, hn, h => by
    rcases isPut_dec b with ⟨y, rfl⟩ | hb
    · rw [rbs_s _ _ _ _ (.inr rfl)] at h
      obtain ⟨e', h1, rfl⟩ := omap h
      have ih := rbs_len f n [] s e' (by simp at hn ⊢; omega) h1
      show oldLength (.keep :: e'.1) = _ ∧ oldLength (.put y :: e'.2) = _
      rw [oldLength_cons .keep, oldLength_cons (.put y), ih.1, ih.2, newLength_cons (.put y) s]
      exact ⟨rfl, by show 0 + _ = _; omega⟩
    · rw [rbs_right _ _ _ hb] at h; cases h
  | n + 1, a :: r, s, e, hn, h => by
    have rput : ∀ x, a = .put x → (f = true ∨ isPut s = false) → oldLength e.1 = newLength s ∧ oldLength e.2 = newLength (a :: r) := fun x hx hz => by
      subst hx
      rw [rbs_r _ _ _ _ hz] at h
      obtain ⟨e', h1, rfl⟩ := omap h
      have ih := rbs_len f n r s e' (by simp at hn ⊢; omega) h1
      show oldLength (.put x :: e'.1) = _ ∧ oldLength (.keep :: e'.2) = _
      rw [oldLength_cons .keep, oldLength_cons (.put x), ih.1, ih.2, newLength_cons (.put x) r]
      exact ⟨by show 0 + _ = _; omega, rfl⟩
    cases s with
    | nil =>
      rcases isPut_dec a with ⟨x, rfl⟩ | ha
      · exact rput x rfl (.inr rfl)
      · rw [rbs_left _ _ _ ha] at h; cases h
    | cons b s =>
      rcases isPut_dec b with ⟨y, rfl⟩ | hb
      · by_cases hz : f = true ∧ ∃ x, a = .put x
        · obtain ⟨x, hx⟩ := hz.2
          exact rput x hx (.inl hz.1)
        · have hz' : f = false ∨ isPut (a :: r) = false := by
            cases f with
            | false => exact .inl rfl
            | true =>
              refine .inr ?_
              cases a with
              | put x => exact absurd ⟨rfl, x, rfl⟩ hz
              | _ => rfl
          rw [rbs_s _ _ _ _ hz'] at h
          obtain ⟨e', h1, rfl⟩ := omap h
          have ih := rbs_len f n (a :: r) s e' (by simp at hn ⊢; omega) h1
          show oldLength (.keep :: e'.1) = _ ∧ oldLength (.put y :: e'.2) = _
          rw [oldLength_cons .keep, oldLength_cons (.put y), ih.1, ih.2, newLength_cons (.put y) s]
          exact ⟨rfl, by show 0 + _ = _; omega⟩
      · have hs : isPut (b :: s) = false := by
          cases b with
          | put y => exact absurd rfl (hb y)
          | _ => rfl
        rcases isPut_dec a with ⟨x, rfl⟩ | ha
        · exact rput x rfl (.inr hs)
        · rw [rbs_both _ _ _ _ _ ha hb] at h
          cases q : cross f a b with
          | none => rw [q] at h; cases h
          | some m =>
            rw [q] at h
            obtain ⟨e', h1, rfl⟩ := omap (show (rbs f r s).map (fun e => (m.1 ++ e.1, m.2 ++ e.2)) = some e from h)
            cases n with
            | zero => simp at hn; omega
            | succ n =>
              have ih := rbs_len f n r s e' (by simp at hn ⊢; omega) h1
              have hm := cross_old q ha hb
              show oldLength (m.1 ++ e'.1) = _ ∧ oldLength (m.2 ++ e'.2) = _
              rw [oldLength_append, oldLength_append, ih.1, ih.2, hm.1, hm.2, newLength_cons a r, newLength_cons b s]
              exact ⟨rfl, rfl⟩
theorem cross_size {f : Bool} {a b : Vatrkj.Step} {m : Edit × Edit} (h : cross f a b = some m) : m.1.length ≤ 1 ∧ m.2.length ≤ 1 := by
  cases a <;> cases b <;> simp only [cross] at h <;> (try split at h) <;> (try split at h) <;> (try split at h) <;> first | (obtain rfl := Option.some.inj h; exact ⟨by simp, by simp⟩) | cases h
theorem rbs_size (f : Bool) : ∀ (n : Nat) (r s : Edit) (e : Edit × Edit), r.length + s.length = n → rbs f r s = some e → e.1.length ≤ n ∧ e.2.length ≤ n
  | n, [], [], e, _, h => by
    rw [rbs_nil] at h
    obtain rfl := Option.some.inj h
    exact ⟨Nat.zero_le _, Nat.zero_le _⟩
  | 0, a :: r, s, e, hn, _ => by simp at hn
  | 0, [], b :: s, e, hn, _ => by simp at hn
  | n + 1, [], b :: s, e, hn, h => by
    rcases isPut_dec b with ⟨y, rfl⟩ | hb
    · rw [rbs_s _ _ _ _ (.inr rfl)] at h
      obtain ⟨e', h1, rfl⟩ := omap h
      have ih := rbs_size f n [] s e' (by simp at hn ⊢; omega) h1
      show e'.1.length + 1 ≤ _ ∧ e'.2.length + 1 ≤ _
      omega
    · rw [rbs_right _ _ _ hb] at h; cases h
  | n + 1, a :: r, s, e, hn, h => by
    have rput : ∀ x, a = .put x → (f = true ∨ isPut s = false) → e.1.length ≤ n + 1 ∧ e.2.length ≤ n + 1 := fun x hx hz => by
      subst hx
      rw [rbs_r _ _ _ _ hz] at h
      obtain ⟨e', h1, rfl⟩ := omap h
      have ih := rbs_size f n r s e' (by simp at hn ⊢; omega) h1
      show e'.1.length + 1 ≤ _ ∧ e'.2.length + 1 ≤ _
      omega
    cases s with
    | nil =>
      rcases isPut_dec a with ⟨x, rfl⟩ | ha
      · exact rput x rfl (.inr rfl)
      · rw [rbs_left _ _ _ ha] at h; cases h
    | cons b s =>
      rcases isPut_dec b with ⟨y, rfl⟩ | hb
      · by_cases hz : f = true ∧ ∃ x, a = .put x
        · obtain ⟨x, hx⟩ := hz.2
          exact rput x hx (.inl hz.1)
        · have hz' : f = false ∨ isPut (a :: r) = false := by
            cases f with
            | false => exact .inl rfl
            | true =>
              refine .inr ?_
              cases a with
              | put x => exact absurd ⟨rfl, x, rfl⟩ hz
              | _ => rfl
          rw [rbs_s _ _ _ _ hz'] at h
          obtain ⟨e', h1, rfl⟩ := omap h
          have ih := rbs_size f n (a :: r) s e' (by simp at hn ⊢; omega) h1
          show e'.1.length + 1 ≤ _ ∧ e'.2.length + 1 ≤ _
          omega
      · have hs : isPut (b :: s) = false := by
          cases b with
          | put y => exact absurd rfl (hb y)
          | _ => rfl
        rcases isPut_dec a with ⟨x, rfl⟩ | ha
        · exact rput x rfl (.inr hs)
        · rw [rbs_both _ _ _ _ _ ha hb] at h
          cases q : cross f a b with
          | none => rw [q] at h; cases h
          | some m =>
            rw [q] at h
            obtain ⟨e', h1, rfl⟩ := omap (show (rbs f r s).map (fun e => (m.1 ++ e.1, m.2 ++ e.2)) = some e from h)
            cases n with
            | zero => simp at hn; omega
            | succ n =>
              have ih := rbs_size f n r s e' (by simp at hn ⊢; omega) h1
              have hm := cross_size q
              show (m.1 ++ e'.1).length ≤ _ ∧ (m.2 ++ e'.2).length ≤ _
              rw [List.length_append, List.length_append]
              omega
theorem formFrom_size : ∀ (e puts drops : Edit), (formFrom puts drops e).length = puts.length + drops.length + e.length
  | [], p, d => by simp [formFrom]
  | .put x :: r, p, d => by rw [formFrom, formFrom_size r]; simp; omega
  | .drop x :: r, p, d => by rw [formFrom, formFrom_size r]; simp; omega
  | .keep :: r, p, d => by
    rw [formFrom]
    · simp only [List.length_append, List.length_cons, formFrom_size r, List.length_nil]; omega
    · intro x z; cases z
    · intro x z; cases z
  | .paint f g :: r, p, d => by
    rw [formFrom]
    · simp only [List.length_append, List.length_cons, formFrom_size r, List.length_nil]; omega
    · intro x z; cases z
    · intro x z; cases z
theorem formed_size (e : Edit) : (formed e).length = e.length := by
  have := formFrom_size e [] []
  simpa [formed] using this
theorem rebase_size {f : Bool} {r s : Edit} {e : Edit × Edit} (h : rebase f r s = some e) : e.1.length ≤ r.length + s.length ∧ e.2.length ≤ r.length + s.length := by
  rw [rebase_is] at h
  obtain ⟨e', h1, rfl⟩ := omap h
  show (formed e'.1).length ≤ _ ∧ (formed e'.2).length ≤ _
  rw [formed_size, formed_size]
  exact rbs_size f _ r s e' rfl h1
theorem rebase_len {f : Bool} {r s : Edit} {e : Edit × Edit} (h : rebase f r s = some e) : oldLength e.1 = newLength s ∧ oldLength e.2 = newLength r := by
  rw [rebase_is] at h
  obtain ⟨e', h1, rfl⟩ := omap h
  show oldLength (formed e'.1) = _ ∧ oldLength (formed e'.2) = _
  rw [formed_old, formed_old]
  exact rbs_len f _ r s e' rfl h1
theorem turn_len : ∀ e : Edit, oldLength (e.map turnStep) = newLength e ∧ newLength (e.map turnStep) = oldLength e
  | [] => ⟨rfl, rfl⟩
  | x :: e => by
    have ih := turn_len e
    rw [List.map_cons, oldLength_cons (turnStep x), newLength_cons (turnStep x), ih.1, ih.2, oldLength_cons x e, newLength_cons x e]
    cases x <;> exact ⟨rfl, rfl⟩
theorem turned_len (e : Edit) : oldLength (turned e) = newLength e ∧ newLength (turned e) = oldLength e := by
  unfold turned
  rw [formed_old, formed_new]
  exact turn_len e
end Ev

namespace Ev
open PyVatrkj (shape whole)
/-! ### the calls in one list -/
theorem shape_forms {p : Int} {n k : Nat} (h : shape p = some (n, k)) :
    (p = 0 ∧ n = 0 ∧ k = 1) ∨ (p = 1 ∧ n = 1 ∧ k = 1) ∨ (p = 2 ∧ n = 1 ∧ k = 0) ∨ (p = 3 ∧ n = 1 ∧ k = 0) ∨ (p = 4 ∧ n = 3 ∧ k = 0) ∨ (p = 5 ∧ n = 2 ∧ k = 0) ∨ (p = 6 ∧ n = 5 ∧ k = 0) ∨
    (p = 7 ∧ n = 2 ∧ k = 0) ∨ (p = 8 ∧ n = 2 ∧ k = 0) ∨ (p = 9 ∧ n = 4 ∧ k = 0) ∨ (p = 10 ∧ n = 1 ∧ k = 0) ∨ (p = 11 ∧ n = 3 ∧ k = 1) ∨ (p = 12 ∧ n = 4 ∧ k = 0) ∨ (p = 13 ∧ n = 0 ∧ k = 0) := by
  unfold shape at h
  by_cases h0 : p = 0
  · rw [if_pos h0] at h
    obtain ⟨h1', h2'⟩ := Prod.mk.inj (Option.some.inj h)
    exact .inl ⟨h0, h1'.symm, h2'.symm⟩
  rw [if_neg h0] at h
  by_cases h1 : p = 1
  · rw [if_pos h1] at h
    obtain ⟨h1', h2'⟩ := Prod.mk.inj (Option.some.inj h)
    exact .inr (.inl ⟨h1, h1'.symm, h2'.symm⟩)
  rw [if_neg h1] at h
  by_cases h2 : p = 2
  · rw [if_pos h2] at h
    obtain ⟨h1', h2'⟩ := Prod.mk.inj (Option.some.inj h)
    exact .inr (.inr (.inl ⟨h2, h1'.symm, h2'.symm⟩))
  rw [if_neg h2] at h
  by_cases h3 : p = 3
  · rw [if_pos h3] at h
    obtain ⟨h1', h2'⟩ := Prod.mk.inj (Option.some.inj h)
    exact .inr (.inr (.inr (.inl ⟨h3, h1'.symm, h2'.symm⟩)))
  rw [if_neg h3] at h
  by_cases h4 : p = 4
  · rw [if_pos h4] at h
    obtain ⟨h1', h2'⟩ := Prod.mk.inj (Option.some.inj h)
    exact .inr (.inr (.inr (.inr (.inl ⟨h4, h1'.symm, h2'.symm⟩))))
  rw [if_neg h4] at h
  by_cases h5 : p = 5
  · rw [if_pos h5] at h
    obtain ⟨h1', h2'⟩ := Prod.mk.inj (Option.some.inj h)
    exact .inr (.inr (.inr (.inr (.inr (.inl ⟨h5, h1'.symm, h2'.symm⟩)))))
  rw [if_neg h5] at h
  by_cases h6 : p = 6
  · rw [if_pos h6] at h
    obtain ⟨h1', h2'⟩ := Prod.mk.inj (Option.some.inj h)
    exact .inr (.inr (.inr (.inr (.inr (.inr (.inl ⟨h6, h1'.symm, h2'.symm⟩))))))
  rw [if_neg h6] at h
  by_cases h7 : p = 7
  · rw [if_pos h7] at h
    obtain ⟨h1', h2'⟩ := Prod.mk.inj (Option.some.inj h)
    exact .inr (.inr (.inr (.inr (.inr (.inr (.inr (.inl ⟨h7, h1'.symm, h2'.symm⟩)))))))
  rw [if_neg h7] at h
  by_cases h8 : p = 8
  · rw [if_pos h8] at h
    obtain ⟨h1', h2'⟩ := Prod.mk.inj (Option.some.inj h)
    exact .inr (.inr (.inr (.inr (.inr (.inr (.inr (.inr (.inl ⟨h8, h1'.symm, h2'.symm⟩))))))))
  rw [if_neg h8] at h
  by_cases h9 : p = 9
  · rw [if_pos h9] at h
    obtain ⟨h1', h2'⟩ := Prod.mk.inj (Option.some.inj h)
    exact .inr (.inr (.inr (.inr (.inr (.inr (.inr (.inr (.inr (.inl ⟨h9, h1'.symm, h2'.symm⟩)))))))))
  rw [if_neg h9] at h
  by_cases h10 : p = 10
  · rw [if_pos h10] at h
    obtain ⟨h1', h2'⟩ := Prod.mk.inj (Option.some.inj h)
    exact .inr (.inr (.inr (.inr (.inr (.inr (.inr (.inr (.inr (.inr (.inl ⟨h10, h1'.symm, h2'.symm⟩))))))))))
  rw [if_neg h10] at h
  by_cases h11 : p = 11
  · rw [if_pos h11] at h
    obtain ⟨h1', h2'⟩ := Prod.mk.inj (Option.some.inj h)
    exact .inr (.inr (.inr (.inr (.inr (.inr (.inr (.inr (.inr (.inr (.inr (.inl ⟨h11, h1'.symm, h2'.symm⟩)))))))))))
  rw [if_neg h11] at h
  by_cases h12 : p = 12
  · rw [if_pos h12] at h
    obtain ⟨h1', h2'⟩ := Prod.mk.inj (Option.some.inj h)
    exact .inr (.inr (.inr (.inr (.inr (.inr (.inr (.inr (.inr (.inr (.inr (.inr (.inl ⟨h12, h1'.symm, h2'.symm⟩))))))))))))
  rw [if_neg h12] at h
  by_cases h13 : p = 13
  · rw [if_pos h13] at h
    obtain ⟨h1', h2'⟩ := Prod.mk.inj (Option.some.inj h)
    exact .inr (.inr (.inr (.inr (.inr (.inr (.inr (.inr (.inr (.inr (.inr (.inr (.inr ⟨h13, h1'.symm, h2'.symm⟩))))))))))))
  rw [if_neg h13] at h
  cases h
theorem call_forms {p : Int} {r t : List Int} {c : List (List Int)} (h : PyFlat.call shape (p :: r) = some (c, t)) : ∃ n k, shape p = some (n, k) ∧ n ≤ r.length ∧
    ((k = 0 ∧ c = [p :: r.take n] ∧ t = r.drop n) ∨ (k = 1 ∧ ∃ m : Nat, r[n]? = some (m : Int) ∧ n + 1 + m ≤ r.length ∧ c = [p :: r.take n, (r.drop (n + 1)).take m] ∧ t = r.drop (n + 1 + m))) := by
  unfold PyFlat.call at h
  cases hs : shape p with
  | none => simp only [hs] at h; cases h
  | some nk =>
    obtain ⟨n, k⟩ := nk
    simp only [hs] at h
    split at h
    · cases h
    · rename_i hn
      refine ⟨n, k, rfl, by omega, ?_⟩
      have hk : k = 0 ∨ k = 1 := by rcases shape_forms hs with h | h | h | h | h | h | h | h | h | h | h | h | h | h <;> omega
      rcases hk with rfl | rfl
      · have h' : some ([p :: r.take n], r.drop n) = some (c, t) := h
        obtain ⟨rfl, rfl⟩ := Prod.mk.inj (Option.some.inj h')
        exact .inl ⟨rfl, rfl, rfl⟩
      · cases q : r.drop n with
        | nil => rw [q] at h; cases h
        | cons m r' =>
          rw [q] at h
          have h' : (match (match (if 0 ≤ m ∧ m.toNat ≤ r'.length then some (r'.take m.toNat, r'.drop m.toNat) else none) with
            | none => none
            | some (x, s) => some ([x], s) : Option (List (List Int) × List Int)) with
            | none => none
            | some (xs, t) => some ((p :: r.take n) :: xs, t)) = some (c, t) := by
              rw [← h]
              unfold PyFlat.rows PyFlat.row
              by_cases hm : 0 ≤ m ∧ m.toNat ≤ r'.length
              · simp only [if_pos hm]; rfl
              · simp only [if_neg hm]
          by_cases hm : 0 ≤ m ∧ m.toNat ≤ r'.length
          · rw [if_pos hm] at h'
            obtain ⟨rfl, rfl⟩ := Prod.mk.inj (Option.some.inj h')
            have hr' : r' = r.drop (n + 1) := by
              have := congrArg (fun l => l.drop 1) q
              rw [List.drop_drop] at this
              exact this.symm
            have hrn : r[n]? = some m := by
              have := congrArg (fun l => l[0]?) q
              simpa using this
            have hl : r'.length = r.length - (n + 1) := by rw [hr', List.length_drop]
            have hlt : n < r.length := (List.getElem?_eq_some_iff.mp hrn).1
            refine .inr ⟨rfl, m.toNat, by rw [hrn, Int.toNat_of_nonneg hm.1], by omega, by rw [hr'], by rw [hr', List.drop_drop]⟩
          · rw [if_neg hm] at h'; cases h'
theorem calls_any : ∀ (n m : Nat) (l : List Int), l.length ≤ n → l.length ≤ m → PyFlat.calls shape n l = PyFlat.calls shape m l
  | n, m, [], _, _ => by cases n <;> cases m <;> rfl
  | 0, _, p :: r, h, _ => by simp at h
  | _, 0, p :: r, _, h => by simp at h
  | n + 1, m + 1, p :: r, h, g => by
    simp only [List.length_cons] at h g
    unfold PyFlat.calls
    cases q : PyFlat.call shape (p :: r) with
    | none => rfl
    | some ct =>
      obtain ⟨c, t⟩ := ct
      obtain ⟨a, k, _, h2, h3⟩ := call_forms q
      have ht : t.length ≤ r.length := by
        rcases h3 with ⟨_, _, rfl⟩ | ⟨_, m', _, _, _, rfl⟩ <;> rw [List.length_drop] <;> omega
      simp only [calls_any n m t (by omega) (by omega)]
def pcs (l : List Int) : Option (List (List (List Int))) := PyFlat.calls shape l.length l
theorem pcs_cons {p : Int} {r : List Int} {cs : List (List (List Int))} (h : pcs (p :: r) = some cs) : ∃ c t rest, PyFlat.call shape (p :: r) = some (c, t) ∧ pcs t = some rest ∧ cs = c :: rest ∧ t.length ≤ r.length := by
  unfold pcs PyFlat.calls at h
  simp only [List.length_cons] at h
  cases q : PyFlat.call shape (p :: r) with
  | none => simp only [q] at h; cases h
  | some ct =>
    obtain ⟨c, t⟩ := ct
    obtain ⟨a, k, _, h2, h3⟩ := call_forms q
    have ht : t.length ≤ r.length := by
      rcases h3 with ⟨_, _, rfl⟩ | ⟨_, m', _, _, _, rfl⟩ <;> rw [List.length_drop] <;> omega
    simp only [q] at h
    rw [calls_any r.length t.length t ht (Nat.le_refl _)] at h
    cases q2 : PyFlat.calls shape t.length t with
    | none => rw [q2] at h; cases h
    | some rest =>
      rw [q2] at h
      exact ⟨c, t, rest, rfl, q2, (Option.some.inj h).symm, ht⟩
/-- a call by its number, its numbers and its row -/
inductive CallIs : Int → List Int → List Int → Vatrkj.Call → Prop
  | text (l) : CallIs 0 [] l (.text l)
  | set (r l) : CallIs 1 [r] l (.set r l)
  | get (r l) : CallIs 2 [r] l (.get r)
  | apply (r l) : CallIs 3 [r] l (.apply r)
  | compose (r s t l) : CallIs 4 [r, s, t] l (.compose r s t)
  | turn (r t l) : CallIs 5 [r, t] l (.turn r t)
  | rebase (r s t u f l) : CallIs 6 [r, s, t, u, f] l (.rebase r s t u f)
  | same (r s l) : CallIs 7 [r, s] l (.same r s)
  | place (r p l) : CallIs 8 [r, p] l (.place r p)
  | stretch (r p q g l) : CallIs 9 [r, p, q, g] l (.stretch r p q g)
  | kept (r l) : CallIs 10 [r] l (.kept r)
  | replace (t p q l) : CallIs 11 [t, p, q] l (.replace t p q l)
  | repaint (t p q g l) : CallIs 12 [t, p, q, g] l (.repaint t p q g)
  | «show» (l) : CallIs 13 [] l .show
theorem len0 {l : List Int} (h : l.length = 0) : l = [] := List.eq_nil_of_length_eq_zero h
theorem len1 {l : List Int} (h : l.length = 1) : ∃ a, l = [a] := match l, h with | [a], _ => ⟨a, rfl⟩
theorem len2 {l : List Int} (h : l.length = 2) : ∃ a b, l = [a, b] := match l, h with | [a, b], _ => ⟨a, b, rfl⟩
theorem len3 {l : List Int} (h : l.length = 3) : ∃ a b c, l = [a, b, c] := match l, h with | [a, b, c], _ => ⟨a, b, c, rfl⟩
theorem len4 {l : List Int} (h : l.length = 4) : ∃ a b c d, l = [a, b, c, d] := match l, h with | [a, b, c, d], _ => ⟨a, b, c, d, rfl⟩
theorem len5 {l : List Int} (h : l.length = 5) : ∃ a b c d e, l = [a, b, c, d, e] := match l, h with | [a, b, c, d, e], _ => ⟨a, b, c, d, e, rfl⟩
theorem callIs_of {p : Int} {n k : Nat} {xs row : List Int} (h : shape p = some (n, k)) (hx : xs.length = n) : ∃ kk, CallIs p xs row kk ∧ VatrkjNeutral.callOf (whole ((p :: xs) :: (if k = 1 then [row] else []))) = some kk := by
  rcases shape_forms h with ⟨rfl, rfl, rfl⟩ | ⟨rfl, rfl, rfl⟩ | ⟨rfl, rfl, rfl⟩ | ⟨rfl, rfl, rfl⟩ | ⟨rfl, rfl, rfl⟩ | ⟨rfl, rfl, rfl⟩ | ⟨rfl, rfl, rfl⟩ | ⟨rfl, rfl, rfl⟩ | ⟨rfl, rfl, rfl⟩ | ⟨rfl, rfl, rfl⟩ | ⟨rfl, rfl, rfl⟩ | ⟨rfl, rfl, rfl⟩ | ⟨rfl, rfl, rfl⟩ | ⟨rfl, rfl, rfl⟩
  · obtain rfl := len0 hx; exact ⟨_, .text row, rfl⟩
  · obtain ⟨a, rfl⟩ := len1 hx; exact ⟨_, .set a row, rfl⟩
  · obtain ⟨a, rfl⟩ := len1 hx; exact ⟨_, .get a row, rfl⟩
  · obtain ⟨a, rfl⟩ := len1 hx; exact ⟨_, .apply a row, rfl⟩
  · obtain ⟨a, b, c, rfl⟩ := len3 hx; exact ⟨_, .compose a b c row, rfl⟩
  · obtain ⟨a, b, rfl⟩ := len2 hx; exact ⟨_, .turn a b row, rfl⟩
  · obtain ⟨a, b, c, d, e, rfl⟩ := len5 hx; exact ⟨_, .rebase a b c d e row, rfl⟩
  · obtain ⟨a, b, rfl⟩ := len2 hx; exact ⟨_, .same a b row, rfl⟩
  · obtain ⟨a, b, rfl⟩ := len2 hx; exact ⟨_, .place a b row, rfl⟩
  · obtain ⟨a, b, c, d, rfl⟩ := len4 hx; exact ⟨_, .stretch a b c d row, rfl⟩
  · obtain ⟨a, rfl⟩ := len1 hx; exact ⟨_, .kept a row, rfl⟩
  · obtain ⟨a, b, c, rfl⟩ := len3 hx; exact ⟨_, .replace a b c row, rfl⟩
  · obtain ⟨a, b, c, d, rfl⟩ := len4 hx; exact ⟨_, .repaint a b c d row, rfl⟩
  · obtain rfl := len0 hx; exact ⟨_, .show row, rfl⟩
/-- what is still to be told, from a state -/
def toldFrom (s : Vatrkj.State) (cs : List (List (List Int))) : List Int := PyFlat.told (PyFlat.played VatrkjNeutral.step s (cs.map whole))
theorem toldFrom_nil (s : Vatrkj.State) : toldFrom s [] = [] := rfl
theorem toldFrom_cons {s : Vatrkj.State} {c : List (List Int)} {cs : List (List (List Int))} {k : Vatrkj.Call} (h : VatrkjNeutral.callOf (whole c) = some k) : toldFrom s (c :: cs) = ((VatrkjNeutral.encode (Vatrkj.step s k).2).length : Int) :: (VatrkjNeutral.encode (Vatrkj.step s k).2 ++ toldFrom (Vatrkj.step s k).1 cs) := by
  have e : VatrkjNeutral.step s (whole c) = ((Vatrkj.step s k).1, VatrkjNeutral.encode (Vatrkj.step s k).2) := by
    unfold VatrkjNeutral.step
    rw [h]
  unfold toldFrom PyFlat.told
  rw [List.map_cons]
  show List.flatMap _ ((VatrkjNeutral.step s (whole c)).2 :: PyFlat.played VatrkjNeutral.step (VatrkjNeutral.step s (whole c)).1 (cs.map whole)) = _
  rw [e, List.flatMap_cons]
  rfl
theorem answers_is {l : List Int} {cs : List (List (List Int))} (h : pcs l = some cs) : PyVatrkj.answers l = toldFrom Vatrkj.start cs := by
  unfold PyVatrkj.answers PyVatrkj.calls
  have h' : PyFlat.calls shape l.length l = some cs := h
  rw [h']
  rfl
theorem asked_calls {l : List Int} (h : PyVatrkj.answers_asked l = true) : ∃ cs, pcs l = some cs ∧ (PyVatrkj.answers l).length ≤ 10000000 := by
  unfold PyVatrkj.answers_asked at h
  cases q : PyFlat.calls shape l.length l with
  | none => rw [q] at h; cases h
  | some raw =>
    rw [q] at h
    simp only [Bool.and_eq_true] at h
    exact ⟨raw, q, of_decide_eq_true h.2⟩
theorem shape_le {p : Int} {n k : Nat} (h : shape p = some (n, k)) : p ≤ 13 := by
  rcases shape_forms h with h | h | h | h | h | h | h | h | h | h | h | h | h | h <;> omega
theorem calls_lim : ∀ (n : Nat) (l : List Int) (cs : List (List (List Int))), PyFlat.calls shape n l = some cs → ∀ c ∈ cs, ∀ p xs tl, c = (p :: xs) :: tl → p ≤ 13
  | n, [], cs, h, c, hc, _, _, _, _ => by
    have : cs = [] := by cases n <;> exact (Option.some.inj h).symm
    subst this
    cases hc
  | 0, _ :: _, cs, h, _, _, _, _, _, _ => by cases h
  | n + 1, p :: r, cs, h, c, hc, p', xs, tl, e => by
    unfold PyFlat.calls at h
    cases q : PyFlat.call shape (p :: r) with
    | none => simp only [q] at h; cases h
    | some ct =>
      obtain ⟨c0, t⟩ := ct
      simp only [q] at h
      cases q2 : PyFlat.calls shape n t with
      | none => simp only [q2] at h; cases h
      | some rest =>
        simp only [q2] at h
        obtain rfl := Option.some.inj h
        rcases List.mem_cons.mp hc with rfl | hc
        · obtain ⟨a, k, h1, _, h3⟩ := call_forms q
          have hp : p' = p := by
            rcases h3 with ⟨_, h3, _⟩ | ⟨_, _, _, _, h3, _⟩
            · rw [h3] at e
              exact ((List.cons.inj (List.cons.inj e).1).1).symm
            · rw [h3] at e
              exact ((List.cons.inj (List.cons.inj e).1).1).symm
          rw [hp]
          exact shape_le h1
        · exact calls_lim n t rest q2 c hc p' xs tl e
theorem lim_all {l : List Int} {cs : List (List (List Int))} (h : pcs l = some cs) : ∀ c ∈ cs, ∀ p xs tl, c = (p :: xs) :: tl → p ≤ 13 := calls_lim _ _ _ h
end Ev

/-! # The heap: lists of tuples of ints -/
namespace Ev
open PySem PySem.Spec PyProof.Rows L2
open Vatrkj (Letter Edit Text)
abbrev Stp := Vatrkj.Step
theorem iteP {p A B : Prop} [Decidable p] (h : p) (a : A) : if decide p = true then A else B := by
  rw [decide_eq_true h]; exact iteT a
theorem iteN {p A B : Prop} [Decidable p] (h : ¬ p) (b : B) : if decide p = true then A else B := by
  rw [decide_eq_false h]; exact iteF b
theorem iteNP {p A B : Prop} [Decidable p] (h : p) (b : B) : if (!decide p) = true then A else B := by
  rw [decide_eq_true h]; exact iteF b
theorem iteNN {p A B : Prop} [Decidable p] (h : ¬ p) (a : A) : if (!decide p) = true then A else B := by
  rw [decide_eq_false h]; exact iteT a
theorem iteB {b : Bool} {A B : Prop} (h1 : b = true → A) (h2 : b = false → B) : if b = true then A else B := by
  cases b with
  | true => exact iteT (h1 rfl)
  | false => exact iteF (h2 rfl)
theorem vI {i j : Int} (h : i ≠ j) : ¬ V.int i = V.int j := fun e => h (V.int.inj e)
theorem n01 : ¬ V.int 0 = V.int 1 := by decide
theorem n02 : ¬ V.int 0 = V.int 2 := by decide
theorem n03 : ¬ V.int 0 = V.int 3 := by decide
theorem n10 : ¬ V.int 1 = V.int 0 := by decide
theorem n12 : ¬ V.int 1 = V.int 2 := by decide
theorem n13 : ¬ V.int 1 = V.int 3 := by decide
theorem n20 : ¬ V.int 2 = V.int 0 := by decide
theorem n21 : ¬ V.int 2 = V.int 1 := by decide
theorem n23 : ¬ V.int 2 = V.int 3 := by decide
theorem n30 : ¬ V.int 3 = V.int 0 := by decide
theorem n31 : ¬ V.int 3 = V.int 1 := by decide
theorem n32 : ¬ V.int 3 = V.int 2 := by decide
theorem no_ft {P : Prop} (h : false = true) : P := Bool.noConfusion h
theorem no_tf {P : Prop} (h : true = false) : P := Bool.noConfusion h
theorem sz0 : 0 ≤ sizeLine := by decide
theorem sz1 : 1 ≤ sizeLine := by decide
theorem sz2 : 2 ≤ sizeLine := by decide
theorem sz3 : 3 ≤ sizeLine := by decide
theorem le_size {n : Nat} (h : n ≤ 16777216) : n ≤ sizeLine := h
theorem lt_size {n : Nat} (h : n < 16777216) : n < sizeLine := h
theorem _root_.L2.Same.new {H : Hp} {p : Addr} {o : HO} (h : H p = none) : Same H (upd H p o) := fun b u e => by
  rw [upd_ne (ne_of_none e h)]; exact e
theorem _root_.L2.Same.upd {H H1 : Hp} {p : Addr} {o : HO} (s : Same H H1) (h : H p = none) : Same H (upd H1 p o) := fun b u e => by
  rw [upd_ne (ne_of_none e h)]; exact s b u e
/-- the values are tuples of these ints -/
inductive Rws (H : Hp) : List V → List (List Int) → Prop
  | nil : Rws H [] []
  | cons {t : Addr} {vs : List V} {r : List Int} {rs : List (List Int)} (h : H t = some (.tup (r.map V.int))) (k : Rws H vs rs) : Rws H (.ref t :: vs) (r :: rs)
theorem Rws.mono {H H' : Hp} (s : Same H H') : ∀ {vs : List V} {rs : List (List Int)}, Rws H vs rs → Rws H' vs rs
  | _, _, .nil => .nil
  | _, _, .cons h k => .cons (s _ _ h) (k.mono s)
theorem Rws.updL {H : Hp} {p : Addr} {xs : List V} {o : HO} (hp : H p = some (.lst xs)) : ∀ {vs : List V} {rs : List (List Int)}, Rws H vs rs → Rws (upd H p o) vs rs
  | _, _, .nil => .nil
  | _, _, .cons h k => .cons (by rw [upd_ne (ne_of h hp (by intro z; cases z))]; exact h) (k.updL hp)
theorem Rws.updN {H : Hp} {p : Addr} {o : HO} (hp : H p = none) {vs : List V} {rs : List (List Int)} (k : Rws H vs rs) : Rws (upd H p o) vs rs := k.mono (Same.new hp)
theorem Rws.length {H : Hp} : ∀ {vs : List V} {rs : List (List Int)}, Rws H vs rs → vs.length = rs.length
  | _, _, .nil => rfl
  | _, _, .cons _ k => congrArg (· + 1) k.length
theorem Rws.append {H : Hp} {ws : List V} {qs : List (List Int)} : ∀ {vs : List V} {rs : List (List Int)}, Rws H vs rs → Rws H ws qs → Rws H (vs ++ ws) (rs ++ qs)
  | _, _, .nil, g => g
  | _, _, .cons h k, g => .cons h (k.append g)
theorem Rws.one {H : Hp} {t : Addr} {r : List Int} (h : H t = some (.tup (r.map V.int))) : Rws H [.ref t] [r] := .cons h .nil
theorem Rws.snoc {H : Hp} {vs : List V} {rs : List (List Int)} {t : Addr} {r : List Int} (k : Rws H vs rs) (h : H t = some (.tup (r.map V.int))) : Rws H (vs ++ [.ref t]) (rs ++ [r]) := k.append (Rws.one h)
theorem Rws.get {H : Hp} : ∀ {vs : List V} {rs : List (List Int)} {i : Nat} {r : List Int}, Rws H vs rs → rs[i]? = some r → ∃ t, vs[i]? = some (.ref t) ∧ H t = some (.tup (r.map V.int))
  | _, _, _, _, .nil, e => by simp at e
  | _, _, 0, _, .cons h _, e => by
    have e := Option.some.inj e
    subst e
    exact ⟨_, rfl, h⟩
  | _, _, i + 1, _, .cons _ k, e => k.get (i := i) e
theorem Rws.get' {H : Hp} : ∀ {vs : List V} {rs : List (List Int)} {i : Nat} {v : V}, Rws H vs rs → vs[i]? = some v → ∃ t r, v = .ref t ∧ rs[i]? = some r ∧ H t = some (.tup (r.map V.int))
  | _, _, _, _, .nil, e => by simp at e
  | _, _, 0, _, .cons h _, e => by
    have e := Option.some.inj e
    subst e
    exact ⟨_, _, rfl, rfl, h⟩
  | _, _, i + 1, _, .cons _ k, e => k.get' (i := i) e
theorem Rws.take {H : Hp} : ∀ {vs : List V} {rs : List (List Int)} (n : Nat), Rws H vs rs → Rws H (vs.take n) (rs.take n)
  | _, _, 0, _ => .nil
  | _, _, _ + 1, .nil => .nil
  | _, _, n + 1, .cons h k => .cons h (k.take n)
theorem Rws.drop {H : Hp} : ∀ {vs : List V} {rs : List (List Int)} (n : Nat), Rws H vs rs → Rws H (vs.drop n) (rs.drop n)
  | _, _, 0, k => k
  | _, _, _ + 1, .nil => .nil
  | _, _, n + 1, .cons _ k => k.drop n
theorem Rws.rep {H : Hp} {t : Addr} {r : List Int} (h : H t = some (.tup (r.map V.int))) : ∀ n : Nat, Rws H (List.replicate n [V.ref t]).flatten (List.replicate n r)
  | 0 => .nil
  | n + 1 => .cons h (Rws.rep h n)
/-- a list of tuples of ints -/
def Ls (H : Hp) (a : Addr) (rs : List (List Int)) : Prop := ∃ vs, H a = some (.lst vs) ∧ Rws H vs rs
theorem Ls.mono {H H' : Hp} {a : Addr} {rs : List (List Int)} (s : Same H H') : Ls H a rs → Ls H' a rs := fun ⟨vs, h, k⟩ => ⟨vs, s _ _ h, k.mono s⟩
theorem Ls.updL {H : Hp} {a p : Addr} {rs : List (List Int)} {xs : List V} {o : HO} (k : Ls H a rs) (hp : H p = some (.lst xs)) (ne : a ≠ p) : Ls (upd H p o) a rs := by
  obtain ⟨vs, h, k⟩ := k
  exact ⟨vs, by rw [upd_ne ne]; exact h, k.updL hp⟩
/-- a letter, a step as ints -/
def lI (x : Letter) : List Int := [(x.sign : Int), (x.look : Int)]
def sI : Stp → List Int
  | .keep => [0, 0, 0]
  | .paint f g => [1, (f : Int), (g : Int)]
  | .drop x => [2, (x.sign : Int), (x.look : Int)]
  | .put x => [3, (x.sign : Int), (x.look : Int)]
def Ed (H : Hp) (a : Addr) (e : Edit) : Prop := Ls H a (e.map sI)
def Tx (H : Hp) (a : Addr) (t : Text) : Prop := Ls H a (t.map lI)
/-- a value that is a tuple of a step, of a letter -/
def StV (H : Hp) (v : V) (x : Stp) : Prop := ∃ t, v = .ref t ∧ H t = some (.tup ((sI x).map V.int))
def LtV (H : Hp) (v : V) (x : Letter) : Prop := ∃ t, v = .ref t ∧ H t = some (.tup ((lI x).map V.int))
theorem StV.mono {H H' : Hp} {v : V} {x : Stp} (s : Same H H') : StV H v x → StV H' v x := fun ⟨t, e, h⟩ => ⟨t, e, s _ _ h⟩
theorem LtV.mono {H H' : Hp} {v : V} {x : Letter} (s : Same H H') : LtV H v x → LtV H' v x := fun ⟨t, e, h⟩ => ⟨t, e, s _ _ h⟩
theorem map_get {α β : Type} {f : α → β} {l : List α} {i : Nat} {y : β} (h : (l.map f)[i]? = some y) : ∃ x, l[i]? = some x ∧ y = f x := by
  rw [List.getElem?_map] at h
  cases e : l[i]? with
  | none => rw [e] at h; cases h
  | some x => rw [e] at h; exact ⟨x, rfl, (Option.some.inj h).symm⟩
theorem take_more {α : Type} : ∀ {l : List α} {i : Nat} {x : α}, l[i]? = some x → l.take (i + 1) = l.take i ++ [x]
  | [], i, x, h => by simp at h
  | a :: l, 0, x, h => by
    have e : a = x := Option.some.inj h
    subst e
    rfl
  | a :: l, i + 1, x, h => by
    have ih := take_more (l := l) (i := i) (x := x) h
    show a :: l.take (i + 1) = a :: l.take i ++ [x]
    rw [ih]
    rfl
theorem drop_more {α : Type} : ∀ {l : List α} {i : Nat} {x : α}, l[i]? = some x → l.drop i = x :: l.drop (i + 1)
  | [], i, x, h => by simp at h
  | a :: l, 0, x, h => by
    have e : a = x := Option.some.inj h
    subst e
    rfl
  | a :: l, i + 1, x, h => drop_more (l := l) (i := i) (x := x) h
theorem drop_none {α : Type} {l : List α} {i : Nat} (h : l.length ≤ i) : l.drop i = [] := List.drop_eq_nil_of_le h
theorem ix_lt {α : Type} {l : List α} {i : Nat} {x : α} (h : l[i]? = some x) : i < l.length := (List.getElem?_eq_some_iff.mp h).1
theorem get_of {α : Type} {l : List α} {i : Nat} (h : i < l.length) : ∃ x, l[i]? = some x := ⟨l[i], List.getElem?_eq_getElem h⟩
/-! ### promises by the number of arguments; a def that may be called -/
def sp1 (f : V → Hp → VK → Prop) : Sp := fun vs H Q _ => ∃ v0, vs = [v0] ∧ f v0 H Q
def sp2 (f : V → V → Hp → VK → Prop) : Sp := fun vs H Q _ => ∃ v0 v1, vs = [v0, v1] ∧ f v0 v1 H Q
def sp3 (f : V → V → V → Hp → VK → Prop) : Sp := fun vs H Q _ => ∃ v0 v1 v2, vs = [v0, v1, v2] ∧ f v0 v1 v2 H Q
def sp4 (f : V → V → V → V → Hp → VK → Prop) : Sp := fun vs H Q _ => ∃ v0 v1 v2 v3, vs = [v0, v1, v2, v3] ∧ f v0 v1 v2 v3 H Q
def sp5 (f : V → V → V → V → V → Hp → VK → Prop) : Sp := fun vs H Q _ => ∃ v0 v1 v2 v3 v4, vs = [v0, v1, v2, v3, v4] ∧ f v0 v1 v2 v3 v4 H Q
def sp6 (f : V → V → V → V → V → V → Hp → VK → Prop) : Sp := fun vs H Q _ => ∃ v0 v1 v2 v3 v4 v5, vs = [v0, v1, v2, v3, v4, v5] ∧ f v0 v1 v2 v3 v4 v5 H Q
theorem sp1.len {f : V → Hp → VK → Prop} {vs : List V} {H : Hp} {Q : VK} {E : XK} (h : sp1 f vs H Q E) : vs.length = 1 := by obtain ⟨_, rfl, _⟩ := h; rfl
theorem sp2.len {f : V → V → Hp → VK → Prop} {vs : List V} {H : Hp} {Q : VK} {E : XK} (h : sp2 f vs H Q E) : vs.length = 2 := by obtain ⟨_, _, rfl, _⟩ := h; rfl
theorem sp3.len {f : V → V → V → Hp → VK → Prop} {vs : List V} {H : Hp} {Q : VK} {E : XK} (h : sp3 f vs H Q E) : vs.length = 3 := by obtain ⟨_, _, _, rfl, _⟩ := h; rfl
theorem sp4.len {f : V → V → V → V → Hp → VK → Prop} {vs : List V} {H : Hp} {Q : VK} {E : XK} (h : sp4 f vs H Q E) : vs.length = 4 := by obtain ⟨_, _, _, _, rfl, _⟩ := h; rfl
theorem sp5.len {f : V → V → V → V → V → Hp → VK → Prop} {vs : List V} {H : Hp} {Q : VK} {E : XK} (h : sp5 f vs H Q E) : vs.length = 5 := by obtain ⟨_, _, _, _, _, rfl, _⟩ := h; rfl
theorem sp6.len {f : V → V → V → V → V → V → Hp → VK → Prop} {vs : List V} {H : Hp} {Q : VK} {E : XK} (h : sp6 f vs H Q E) : vs.length = 6 := by obtain ⟨_, _, _, _, _, _, rfl, _⟩ := h; rfl
def Use (P : Program) (w : World) (K : PySem.W.Frag) (mg : Str → Option Value) (base : Heap) (k : Nat) (x : Str) (ps : List Str) (sp : Sp) : Prop :=
  ∃ (f : Addr) (fd : FuncData), mg x = some (.ref f) ∧ PySem.W.keepIn K (.ref f) = true ∧ Binds K fd ps [] ∧ FnOk P w K mg base CX0 k f fd ps sp
def Dfn (K : PySem.W.Frag) (mg : Str → Option Value) (x qual : Str) (st : Stmt) (ps : List Str) : Prop :=
  ∃ (f : Addr) (fd : FuncData), Fun K x qual st f fd ∧ mg x = some (.ref f) ∧ Binds K fd ps []
def UseM (P : Program) (w : World) (K : PySem.W.Frag) (mg : Str → Option Value) (base : Heap) (C : Addr) (k : Nat) (m : Str) (ps : List Str) (sp : Sp) : Prop :=
  ∃ (f : Addr) (fd : FuncData), Meth K C m f ∧ Binds K fd ps [] ∧ FnOk P w K mg base CX0 k f fd ps sp
def DfnM (K : PySem.W.Frag) (C : Addr) (m qual : Str) (st : Stmt) (ps : List Str) : Prop :=
  ∃ (f : Addr) (fd : FuncData), Fun K m qual st f fd ∧ Meth K C m f ∧ Binds K fd ps []
def UseI (P : Program) (w : World) (K : PySem.W.Frag) (mg : Str → Option Value) (base : Heap) (C : Addr) (k : Nat) (ps : List Str) (sp : Sp) : Prop :=
  ∃ (f : Addr) (fd : FuncData), Mk K C f ∧ Binds K fd ps [] ∧ FnOk P w K mg base CX0 k f fd ps sp
def DfnI (K : PySem.W.Frag) (C : Addr) (qual : Str) (st : Stmt) (ps : List Str) : Prop :=
  ∃ (f : Addr) (fd : FuncData), Fun K "__init__" qual st f fd ∧ Mk K C f ∧ Binds K fd ps []
/-- what a step's tuple has at its places -/
def s0 (x : Stp) : Int := match x with | .keep => 0 | .paint _ _ => 1 | .drop _ => 2 | .put _ => 3
def s1 (x : Stp) : Int := match x with | .keep => 0 | .paint f _ => f | .drop y => y.sign | .put y => y.sign
def s2 (x : Stp) : Int := match x with | .keep => 0 | .paint _ g => g | .drop y => y.look | .put y => y.look
theorem at0 (x : Stp) : atI ((sI x).map V.int) 0 = some (.int (s0 x)) := by cases x <;> rfl
theorem at1 (x : Stp) : atI ((sI x).map V.int) 1 = some (.int (s1 x)) := by cases x <;> rfl
theorem at2 (x : Stp) : atI ((sI x).map V.int) 2 = some (.int (s2 x)) := by cases x <;> rfl
theorem lat0 (x : Letter) : atI ((lI x).map V.int) 0 = some (.int x.sign) := rfl
theorem lat1 (x : Letter) : atI ((lI x).map V.int) 1 = some (.int x.look) := rfl
end Ev

namespace Ev
open PySem PySem.Spec PyProof.Rows L2

def top (i : Nat) : Stmt := PySem.Challenge.pw_editvalues_s01_answers.main.body.getD i (.Pass ⟨0, 0, 0, 0⟩)
abbrev s_old_length : Stmt := top 6
theorem sc_old_length : FnScope ["steps", "step"] ["steps"] (defScope s_old_length) := ⟨rfl, rfl, rfl, by decide +kernel, rfl, by decide +kernel, by decide +kernel⟩
abbrev s_new_length : Stmt := top 7
theorem sc_new_length : FnScope ["steps", "step"] ["steps"] (defScope s_new_length) := ⟨rfl, rfl, rfl, by decide +kernel, rfl, by decide +kernel, by decide +kernel⟩
abbrev s_in_form : Stmt := top 8
theorem sc_in_form : FnScope ["steps", "formed", "drops", "step"] ["steps"] (defScope s_in_form) := ⟨rfl, rfl, rfl, by decide +kernel, rfl, by decide +kernel, by decide +kernel⟩
abbrev s_applied : Stmt := top 10
theorem sc_applied : FnScope ["steps", "text", "made", "at", "step"] ["steps", "text"] (defScope s_applied) := ⟨rfl, rfl, rfl, by decide +kernel, rfl, by decide +kernel, by decide +kernel⟩
abbrev s_takes : Stmt := top 11
theorem sc_takes : FnScope ["step", "letter"] ["step", "letter"] (defScope s_takes) := ⟨rfl, rfl, rfl, by decide +kernel, rfl, by decide +kernel, by decide +kernel⟩
abbrev s_brought : Stmt := top 12
theorem sc_brought : FnScope ["step", "letter"] ["step", "letter"] (defScope s_brought) := ⟨rfl, rfl, rfl, by decide +kernel, rfl, by decide +kernel, by decide +kernel⟩
abbrev s_composed : Stmt := top 14
theorem sc_composed : FnScope ["r", "s", "steps", "i", "j", "made"] ["r", "s"] (defScope s_composed) := ⟨rfl, rfl, rfl, by decide +kernel, rfl, by decide +kernel, by decide +kernel⟩
abbrev s_made_of : Stmt := top 15
theorem sc_made_of : FnScope ["brings", "takes"] ["brings", "takes"] (defScope s_made_of) := ⟨rfl, rfl, rfl, by decide +kernel, rfl, by decide +kernel, by decide +kernel⟩
abbrev s_made_of_painted : Stmt := top 16
theorem sc_made_of_painted : FnScope ["f", "g", "takes"] ["f", "g", "takes"] (defScope s_made_of_painted) := ⟨rfl, rfl, rfl, by decide +kernel, rfl, by decide +kernel, by decide +kernel⟩
abbrev s_made_of_put : Stmt := top 17
theorem sc_made_of_put : FnScope ["sign", "g", "takes"] ["sign", "g", "takes"] (defScope s_made_of_put) := ⟨rfl, rfl, rfl, by decide +kernel, rfl, by decide +kernel, by decide +kernel⟩
abbrev s_is_sign : Stmt := top 19
theorem sc_is_sign : FnScope ["number"] ["number"] (defScope s_is_sign) := ⟨rfl, rfl, rfl, by decide +kernel, rfl, by decide +kernel, by decide +kernel⟩
abbrev s_is_look : Stmt := top 20
theorem sc_is_look : FnScope ["number"] ["number"] (defScope s_is_look) := ⟨rfl, rfl, rfl, by decide +kernel, rfl, by decide +kernel, by decide +kernel⟩
abbrev s_letters_told : Stmt := top 21
theorem sc_letters_told : FnScope ["numbers", "letters", "at"] ["numbers"] (defScope s_letters_told) := ⟨rfl, rfl, rfl, by decide +kernel, rfl, by decide +kernel, by decide +kernel⟩
abbrev s_numbers_of_letters : Stmt := top 22
theorem sc_numbers_of_letters : FnScope ["letters", "numbers", "letter"] ["letters"] (defScope s_numbers_of_letters) := ⟨rfl, rfl, rfl, by decide +kernel, rfl, by decide +kernel, by decide +kernel⟩
abbrev s_replacing : Stmt := top 24
theorem sc_replacing : FnScope ["text", "p", "q", "letters", "before", "puts", "drops", "behind", "letter"] ["text", "p", "q", "letters"] (defScope s_replacing) := ⟨rfl, rfl, rfl, by decide +kernel, rfl, by decide +kernel, by decide +kernel⟩
abbrev s_repainting : Stmt := top 25
theorem sc_repainting : FnScope ["text", "p", "q", "g", "before", "between", "behind", "letter"] ["text", "p", "q", "g"] (defScope s_repainting) := ⟨rfl, rfl, rfl, by decide +kernel, rfl, by decide +kernel, by decide +kernel⟩
abbrev s_painting : Stmt := top 26
theorem sc_painting : FnScope ["f", "g"] ["f", "g"] (defScope s_painting) := ⟨rfl, rfl, rfl, by decide +kernel, rfl, by decide +kernel, by decide +kernel⟩
abbrev s_kept_letters : Stmt := top 28
theorem sc_kept_letters : FnScope ["steps", "letters", "old", "new", "step"] ["steps"] (defScope s_kept_letters) := ⟨rfl, rfl, rfl, by decide +kernel, rfl, by decide +kernel, by decide +kernel⟩
abbrev s_backward : Stmt := top 29
theorem sc_backward : FnScope ["steps", "p", "carried", "letter"] ["steps", "p"] (defScope s_backward) := ⟨rfl, rfl, rfl, by decide +kernel, rfl, by decide +kernel, by decide +kernel⟩
abbrev s_forward : Stmt := top 30
theorem sc_forward : FnScope ["steps", "p", "letter"] ["steps", "p"] (defScope s_forward) := ⟨rfl, rfl, rfl, by decide +kernel, rfl, by decide +kernel, by decide +kernel⟩
abbrev s_carried_stretch : Stmt := top 31
theorem sc_carried_stretch : FnScope ["steps", "p", "q", "grows_at_beginning", "grows_at_end", "begin", "end"] ["steps", "p", "q", "grows_at_beginning", "grows_at_end"] (defScope s_carried_stretch) := ⟨rfl, rfl, rfl, by decide +kernel, rfl, by decide +kernel, by decide +kernel⟩
abbrev s_count_kept : Stmt := top 32
theorem sc_count_kept : FnScope ["steps", "p", "q", "letter"] ["steps", "p", "q"] (defScope s_count_kept) := ⟨rfl, rfl, rfl, by decide +kernel, rfl, by decide +kernel, by decide +kernel⟩
abbrev s_kept_stretches : Stmt := top 33
theorem sc_kept_stretches : FnScope ["steps", "stretches", "letters", "at", "end"] ["steps"] (defScope s_kept_stretches) := ⟨rfl, rfl, rfl, by decide +kernel, rfl, by decide +kernel, by decide +kernel⟩
abbrev s_stretch_end : Stmt := top 34
theorem sc_stretch_end : FnScope ["letters", "at", "end"] ["letters", "at"] (defScope s_stretch_end) := ⟨rfl, rfl, rfl, by decide +kernel, rfl, by decide +kernel, by decide +kernel⟩
abbrev s_rebased : Stmt := top 36
theorem sc_rebased : FnScope ["r", "s", "r_first", "r_over", "s_over", "i", "j", "r_puts", "s_puts", "both"] ["r", "s", "r_first"] (defScope s_rebased) := ⟨rfl, rfl, rfl, by decide +kernel, rfl, by decide +kernel, by decide +kernel⟩
abbrev s_carried : Stmt := top 37
theorem sc_carried : FnScope ["one", "other", "one_first", "dropped"] ["one", "other", "one_first"] (defScope s_carried) := ⟨rfl, rfl, rfl, by decide +kernel, rfl, by decide +kernel, by decide +kernel⟩
abbrev s_kept_beside : Stmt := top 38
theorem sc_kept_beside : FnScope ["other"] ["other"] (defScope s_kept_beside) := ⟨rfl, rfl, rfl, by decide +kernel, rfl, by decide +kernel, by decide +kernel⟩
abbrev s_both_painted : Stmt := top 39
theorem sc_both_painted : FnScope ["one", "other", "one_first", "keep"] ["one", "other", "one_first"] (defScope s_both_painted) := ⟨rfl, rfl, rfl, by decide +kernel, rfl, by decide +kernel, by decide +kernel⟩
abbrev s_dropped_painted : Stmt := top 40
theorem sc_dropped_painted : FnScope ["paint", "drop"] ["paint", "drop"] (defScope s_dropped_painted) := ⟨rfl, rfl, rfl, by decide +kernel, rfl, by decide +kernel, by decide +kernel⟩
abbrev s_parts_told : Stmt := top 44
theorem sc_parts_told : FnScope ["numbers", "parts", "at", "end"] ["numbers"] (defScope s_parts_told) := ⟨rfl, rfl, rfl, by decide +kernel, rfl, by decide +kernel, by decide +kernel⟩
abbrev s_part_end : Stmt := top 45
theorem sc_part_end : FnScope ["numbers", "at", "kind", "head_end", "n"] ["numbers", "at"] (defScope s_part_end) := ⟨rfl, rfl, rfl, by decide +kernel, rfl, by decide +kernel, by decide +kernel⟩
abbrev s_is_paint : Stmt := top 46
theorem sc_is_paint : FnScope ["f", "g"] ["f", "g"] (defScope s_is_paint) := ⟨rfl, rfl, rfl, by decide +kernel, rfl, by decide +kernel, by decide +kernel⟩
abbrev s_letters_end : Stmt := top 47
theorem sc_letters_end : FnScope ["numbers", "at", "n", "end"] ["numbers", "at", "n"] (defScope s_letters_end) := ⟨rfl, rfl, rfl, by decide +kernel, rfl, by decide +kernel, by decide +kernel⟩
abbrev s_part_n : Stmt := top 48
theorem sc_part_n : FnScope ["part"] ["part"] (defScope s_part_n) := ⟨rfl, rfl, rfl, by decide +kernel, rfl, by decide +kernel, by decide +kernel⟩
abbrev s_old_length_told : Stmt := top 49
theorem sc_old_length_told : FnScope ["parts", "part"] ["parts"] (defScope s_old_length_told) := ⟨rfl, rfl, rfl, by decide +kernel, rfl, by decide +kernel, by decide +kernel⟩
abbrev s_new_length_told : Stmt := top 50
theorem sc_new_length_told : FnScope ["parts", "part"] ["parts"] (defScope s_new_length_told) := ⟨rfl, rfl, rfl, by decide +kernel, rfl, by decide +kernel, by decide +kernel⟩
abbrev s_steps_of_parts : Stmt := top 51
theorem sc_steps_of_parts : FnScope ["parts", "steps", "part"] ["parts"] (defScope s_steps_of_parts) := ⟨rfl, rfl, rfl, by decide +kernel, rfl, by decide +kernel, by decide +kernel⟩
abbrev s_steps_of_part : Stmt := top 52
theorem sc_steps_of_part : FnScope ["part", "kind", "letter"] ["part"] (defScope s_steps_of_part) := ⟨rfl, rfl, rfl, by decide +kernel, rfl, by decide +kernel, by decide +kernel⟩
abbrev s_numbers_of_steps : Stmt := top 53
theorem sc_numbers_of_steps : FnScope ["steps", "numbers", "at", "end"] ["steps"] (defScope s_numbers_of_steps) := ⟨rfl, rfl, rfl, by decide +kernel, rfl, by decide +kernel, by decide +kernel⟩
abbrev s_run_end : Stmt := top 54
theorem sc_run_end : FnScope ["steps", "at", "end"] ["steps", "at"] (defScope s_run_end) := ⟨rfl, rfl, rfl, by decide +kernel, rfl, by decide +kernel, by decide +kernel⟩
abbrev s_share_part : Stmt := top 55
theorem sc_share_part : FnScope ["one", "other"] ["one", "other"] (defScope s_share_part) := ⟨rfl, rfl, rfl, by decide +kernel, rfl, by decide +kernel, by decide +kernel⟩
abbrev s_part_of_run : Stmt := top 56
theorem sc_part_of_run : FnScope ["run", "step", "part", "each"] ["run"] (defScope s_part_of_run) := ⟨rfl, rfl, rfl, by decide +kernel, rfl, by decide +kernel, by decide +kernel⟩
abbrev s_turned : Stmt := top 58
theorem sc_turned : FnScope ["steps", "step"] ["steps"] (defScope s_turned) := ⟨rfl, rfl, rfl, by decide +kernel, rfl, by decide +kernel, by decide +kernel⟩
abbrev s_turned_step : Stmt := top 59
theorem sc_turned_step : FnScope ["step"] ["step"] (defScope s_turned_step) := ⟨rfl, rfl, rfl, by decide +kernel, rfl, by decide +kernel, by decide +kernel⟩
abbrev s_name_edits : Stmt := top 62
theorem sc_name_edits : FnScope ["names", "name"] ["names"] (defScope s_name_edits) := ⟨rfl, rfl, rfl, by decide +kernel, rfl, by decide +kernel, by decide +kernel⟩
abbrev s_is_stretch : Stmt := top 63
theorem sc_is_stretch : FnScope ["p", "q", "length"] ["p", "q", "length"] (defScope s_is_stretch) := ⟨rfl, rfl, rfl, by decide +kernel, rfl, by decide +kernel, by decide +kernel⟩
abbrev s_Held___init__ : Stmt := inClass (top 64) 0
theorem sc_Held___init__ : FnScope ["self", "name"] ["self"] (defScope s_Held___init__) := ⟨rfl, rfl, rfl, by decide +kernel, rfl, by decide +kernel, by decide +kernel⟩
abbrev s_Held_hold : Stmt := inClass (top 64) 1
theorem sc_Held_hold : FnScope ["self", "t", "steps"] ["self", "t", "steps"] (defScope s_Held_hold) := ⟨rfl, rfl, rfl, by decide +kernel, rfl, by decide +kernel, by decide +kernel⟩
abbrev s_Held_call_text : Stmt := inClass (top 64) 2
theorem sc_Held_call_text : FnScope ["self", "row", "letters"] ["self", "row"] (defScope s_Held_call_text) := ⟨rfl, rfl, rfl, by decide +kernel, rfl, by decide +kernel, by decide +kernel⟩
abbrev s_Held_call_set : Stmt := inClass (top 64) 3
theorem sc_Held_call_set : FnScope ["self", "r", "row", "parts"] ["self", "r", "row"] (defScope s_Held_call_set) := ⟨rfl, rfl, rfl, by decide +kernel, rfl, by decide +kernel, by decide +kernel⟩
abbrev s_Held_call_get : Stmt := inClass (top 64) 4
theorem sc_Held_call_get : FnScope ["self", "r", "numbers"] ["self", "r"] (defScope s_Held_call_get) := ⟨rfl, rfl, rfl, by decide +kernel, rfl, by decide +kernel, by decide +kernel⟩
abbrev s_Held_call_apply : Stmt := inClass (top 64) 5
theorem sc_Held_call_apply : FnScope ["self", "r", "made"] ["self", "r"] (defScope s_Held_call_apply) := ⟨rfl, rfl, rfl, by decide +kernel, rfl, by decide +kernel, by decide +kernel⟩
abbrev s_Held_call_compose : Stmt := inClass (top 64) 6
theorem sc_Held_call_compose : FnScope ["self", "r", "s", "t", "steps"] ["self", "r", "s", "t"] (defScope s_Held_call_compose) := ⟨rfl, rfl, rfl, by decide +kernel, rfl, by decide +kernel, by decide +kernel⟩
abbrev s_Held_call_turn : Stmt := inClass (top 64) 7
theorem sc_Held_call_turn : FnScope ["self", "r", "t"] ["self", "r", "t"] (defScope s_Held_call_turn) := ⟨rfl, rfl, rfl, by decide +kernel, rfl, by decide +kernel, by decide +kernel⟩
abbrev s_Held_call_rebase : Stmt := inClass (top 64) 8
theorem sc_Held_call_rebase : FnScope ["self", "r", "s", "t", "u", "first", "both"] ["self", "r", "s", "t", "u", "first"] (defScope s_Held_call_rebase) := ⟨rfl, rfl, rfl, by decide +kernel, rfl, by decide +kernel, by decide +kernel⟩
abbrev s_Held_call_same : Stmt := inClass (top 64) 9
theorem sc_Held_call_same : FnScope ["self", "r", "s"] ["self", "r", "s"] (defScope s_Held_call_same) := ⟨rfl, rfl, rfl, by decide +kernel, rfl, by decide +kernel, by decide +kernel⟩
abbrev s_Held_call_place : Stmt := inClass (top 64) 10
theorem sc_Held_call_place : FnScope ["self", "r", "p", "steps"] ["self", "r", "p"] (defScope s_Held_call_place) := ⟨rfl, rfl, rfl, by decide +kernel, rfl, by decide +kernel, by decide +kernel⟩
abbrev s_Held_call_stretch : Stmt := inClass (top 64) 11
theorem sc_Held_call_stretch : FnScope ["self", "r", "p", "q", "grows", "steps", "carried"] ["self", "r", "p", "q", "grows"] (defScope s_Held_call_stretch) := ⟨rfl, rfl, rfl, by decide +kernel, rfl, by decide +kernel, by decide +kernel⟩
abbrev s_Held_call_kept : Stmt := inClass (top 64) 12
theorem sc_Held_call_kept : FnScope ["self", "r", "stretches", "answer", "stretch"] ["self", "r"] (defScope s_Held_call_kept) := ⟨rfl, rfl, rfl, by decide +kernel, rfl, by decide +kernel, by decide +kernel⟩
abbrev s_Held_call_replace : Stmt := inClass (top 64) 13
theorem sc_Held_call_replace : FnScope ["self", "t", "p", "q", "row", "letters", "steps"] ["self", "t", "p", "q", "row"] (defScope s_Held_call_replace) := ⟨rfl, rfl, rfl, by decide +kernel, rfl, by decide +kernel, by decide +kernel⟩
abbrev s_Held_call_repaint : Stmt := inClass (top 64) 14
theorem sc_Held_call_repaint : FnScope ["self", "t", "p", "q", "g"] ["self", "t", "p", "q", "g"] (defScope s_Held_call_repaint) := ⟨rfl, rfl, rfl, by decide +kernel, rfl, by decide +kernel, by decide +kernel⟩
abbrev s_Held_call_show : Stmt := inClass (top 64) 15
theorem sc_Held_call_show : FnScope ["self"] ["self"] (defScope s_Held_call_show) := ⟨rfl, rfl, rfl, by decide +kernel, rfl, by decide +kernel, by decide +kernel⟩
abbrev s_answers : Stmt := top 67
theorem sc_answers : FnScope ["calls", "held", "answered", "at", "row_at", "end", "answer"] ["calls"] (defScope s_answers) := ⟨rfl, rfl, rfl, by decide +kernel, rfl, by decide +kernel, by decide +kernel⟩
abbrev s_call_end : Stmt := top 68
theorem sc_call_end : FnScope ["calls", "at", "row_at"] ["calls", "at", "row_at"] (defScope s_call_end) := ⟨rfl, rfl, rfl, by decide +kernel, rfl, by decide +kernel, by decide +kernel⟩
abbrev s_answer_of : Stmt := top 69
theorem sc_answer_of : FnScope ["held", "call", "numbers", "row"] ["held", "call", "numbers", "row"] (defScope s_answer_of) := ⟨rfl, rfl, rfl, by decide +kernel, rfl, by decide +kernel, by decide +kernel⟩
structure Ad where
  t_KEEP : Tok
  t_PAINT : Tok
  t_DROP : Tok
  t_PUT : Tok
  t_MOST : Tok
  a_HEADS : Addr
  t_MOST_IN_PART : Tok
  t_EDITS : Tok
  a_SHAPES : Addr
  a_SHAPES_0 : Addr
  a_SHAPES_1 : Addr
  a_SHAPES_2 : Addr
  a_SHAPES_3 : Addr
  a_SHAPES_4 : Addr
  a_SHAPES_5 : Addr
  a_SHAPES_6 : Addr
  a_SHAPES_7 : Addr
  a_SHAPES_8 : Addr
  a_SHAPES_9 : Addr
  a_SHAPES_10 : Addr
  a_SHAPES_11 : Addr
  a_SHAPES_12 : Addr
  a_SHAPES_13 : Addr
  k_Held : Addr
structure Txt (K : PySem.W.Frag) (mg : Str → Option Value) (a : Ad) : Prop where
  n_len : mg "len" = none
  n_range : mg "range" = none
  n_sum : mg "sum" = none
  n_all : mg "all" = none
  n_min : mg "min" = none
  c_KEEP : mg "KEEP" = some (.int 0 a.t_KEEP)
  c_PAINT : mg "PAINT" = some (.int 1 a.t_PAINT)
  c_DROP : mg "DROP" = some (.int 2 a.t_DROP)
  c_PUT : mg "PUT" = some (.int 3 a.t_PUT)
  c_MOST : mg "MOST" = some (.int 2000 a.t_MOST)
  c_HEADS : mg "HEADS" = some (.ref a.a_HEADS)
  h_HEADS : ∀ H, SqT K H a.a_HEADS [.int 2, .int 4, .int 2, .int 2]
  c_MOST_IN_PART : mg "MOST_IN_PART" = some (.int 2000 a.t_MOST_IN_PART)
  c_EDITS : mg "EDITS" = some (.int 10 a.t_EDITS)
  c_SHAPES : mg "SHAPES" = some (.ref a.a_SHAPES)
  h_SHAPES_0 : ∀ H, SqT K H a.a_SHAPES_0 [.int 0, .bl true]
  h_SHAPES_1 : ∀ H, SqT K H a.a_SHAPES_1 [.int 1, .bl true]
  h_SHAPES_2 : ∀ H, SqT K H a.a_SHAPES_2 [.int 1, .bl false]
  h_SHAPES_3 : ∀ H, SqT K H a.a_SHAPES_3 [.int 1, .bl false]
  h_SHAPES_4 : ∀ H, SqT K H a.a_SHAPES_4 [.int 3, .bl false]
  h_SHAPES_5 : ∀ H, SqT K H a.a_SHAPES_5 [.int 2, .bl false]
  h_SHAPES_6 : ∀ H, SqT K H a.a_SHAPES_6 [.int 5, .bl false]
  h_SHAPES_7 : ∀ H, SqT K H a.a_SHAPES_7 [.int 2, .bl false]
  h_SHAPES_8 : ∀ H, SqT K H a.a_SHAPES_8 [.int 2, .bl false]
  h_SHAPES_9 : ∀ H, SqT K H a.a_SHAPES_9 [.int 4, .bl false]
  h_SHAPES_10 : ∀ H, SqT K H a.a_SHAPES_10 [.int 1, .bl false]
  h_SHAPES_11 : ∀ H, SqT K H a.a_SHAPES_11 [.int 3, .bl true]
  h_SHAPES_12 : ∀ H, SqT K H a.a_SHAPES_12 [.int 4, .bl false]
  h_SHAPES_13 : ∀ H, SqT K H a.a_SHAPES_13 [.int 0, .bl false]
  h_SHAPES : ∀ H, SqT K H a.a_SHAPES [.ref a.a_SHAPES_0, .ref a.a_SHAPES_1, .ref a.a_SHAPES_2, .ref a.a_SHAPES_3, .ref a.a_SHAPES_4, .ref a.a_SHAPES_5, .ref a.a_SHAPES_6, .ref a.a_SHAPES_7, .ref a.a_SHAPES_8, .ref a.a_SHAPES_9, .ref a.a_SHAPES_10, .ref a.a_SHAPES_11, .ref a.a_SHAPES_12, .ref a.a_SHAPES_13]
  c_Held : mg "Held" = some (.ref a.k_Held)
  cl_Held : Cls K a.k_Held
  na_Held_text : NoAttr K a.k_Held "text"
  na_Held_edits : NoAttr K a.k_Held "edits"
end Ev

namespace Ev
open PySem PySem.Spec PyProof.Rows L2
open Vatrkj (Letter Edit Text)
/-! ### what a reading evaluates to, the heap as it is -/
def Evs (t : TE) (σ : L2.St) (H : Hp) (v : V) : Prop := ∀ Q : VK, Q v H → t σ H Q
def EvB (t : TT) (σ : L2.St) (H : Hp) (b : Bool) : Prop := ∀ Q : Bool → Hp → Prop, Q b H → t σ H Q
variable {K : PySem.W.Frag} {σ : L2.St} {H : Hp}
theorem ev_var {i : Nat} {v : V} (h : σ[i]? = some (some v)) : Evs (tVar i) σ H v := fun _ q => ⟨v, h, q⟩
theorem ev_c {v : V} : Evs (tC v) σ H v := fun _ q => q
theorem ev_ixT {ta tb : TE} {p : Addr} {xs : List V} {i : Int} {v : V} (ha : Evs ta σ H (.ref p)) (hb : Evs tb σ H (.int i)) (hs : SqT K H p xs) (hi : atI xs i = some v) : Evs (tOp (rIxT K) ta tb) σ H v :=
  fun _ q => ha _ (hb _ ⟨p, xs, i, v, rfl, rfl, hs, hi, q⟩)
theorem ev_ixL {ta tb : TE} {p : Addr} {xs : List V} {i : Int} {v : V} (ha : Evs ta σ H (.ref p)) (hb : Evs tb σ H (.int i)) (hs : SqL K H p xs) (hi : atI xs i = some v) : Evs (tOp (rIxL K) ta tb) σ H v :=
  fun _ q => ha _ (hb _ ⟨p, xs, i, v, rfl, rfl, hs, hi, q⟩)
def rLen (K : PySem.W.Frag) : List V → Hp → VK → Prop := fun xs H Q => ∃ p ys, xs = [.ref p] ∧ (SqL K H p ys ∨ SqT K H p ys) ∧ Q (.int ys.length) H
theorem ev_len {ta : TE} {p : Addr} {xs : List V} (ha : Evs ta σ H (.ref p)) (hs : SqL K H p xs) : Evs (tCB (rLen K) (tCons ta tNil)) σ H (.int xs.length) :=
  fun _ q => ha _ ⟨p, xs, rfl, .inl hs, q⟩
theorem ev_add {ta tb : TE} {i j : Int} (ha : Evs ta σ H (.int i)) (hb : Evs tb σ H (.int j)) : Evs (tOp (rI0 fun i j => .int (i + j)) ta tb) σ H (.int (i + j)) := fun _ q => ha _ (hb _ ⟨i, j, rfl, rfl, q⟩)
theorem ev_sub {ta tb : TE} {i j : Int} (ha : Evs ta σ H (.int i)) (hb : Evs tb σ H (.int j)) : Evs (tOp (rI0 fun i j => .int (i - j)) ta tb) σ H (.int (i - j)) := fun _ q => ha _ (hb _ ⟨i, j, rfl, rfl, q⟩)
theorem ev_lt {ta tb : TE} {i j : Int} (ha : Evs ta σ H (.int i)) (hb : Evs tb σ H (.int j)) : Evs (tOp (rI0 fun i j => .bl (decide (i < j))) ta tb) σ H (.bl (decide (i < j))) := fun _ q => ha _ (hb _ ⟨i, j, rfl, rfl, q⟩)
theorem ev_le {ta tb : TE} {i j : Int} (ha : Evs ta σ H (.int i)) (hb : Evs tb σ H (.int j)) : Evs (tOp (rI0 fun i j => .bl (decide (i ≤ j))) ta tb) σ H (.bl (decide (i ≤ j))) := fun _ q => ha _ (hb _ ⟨i, j, rfl, rfl, q⟩)
theorem ev_gt {ta tb : TE} {i j : Int} (ha : Evs ta σ H (.int i)) (hb : Evs tb σ H (.int j)) : Evs (tOp (rI0 fun i j => .bl (decide (j < i))) ta tb) σ H (.bl (decide (j < i))) := fun _ q => ha _ (hb _ ⟨i, j, rfl, rfl, q⟩)
theorem ev_ge {ta tb : TE} {i j : Int} (ha : Evs ta σ H (.int i)) (hb : Evs tb σ H (.int j)) : Evs (tOp (rI0 fun i j => .bl (decide (j ≤ i))) ta tb) σ H (.bl (decide (j ≤ i))) := fun _ q => ha _ (hb _ ⟨i, j, rfl, rfl, q⟩)
theorem ev_eq {ta tb : TE} {i j : Int} (ha : Evs ta σ H (.int i)) (hb : Evs tb σ H (.int j)) : Evs (tOp rEq ta tb) σ H (.bl (decide (i = j))) := fun Q q => ha _ (hb _ ⟨rfl, by
  have e : (decide (V.int i = V.int j)) = decide (i = j) := by simp
  rw [e]; exact q⟩)
theorem ev_ne {ta tb : TE} {i j : Int} (ha : Evs ta σ H (.int i)) (hb : Evs tb σ H (.int j)) : Evs (tOp rNe ta tb) σ H (.bl (!decide (i = j))) := fun Q q => ha _ (hb _ ⟨rfl, by
  have e : (decide (V.int i = V.int j)) = decide (i = j) := by simp
  rw [e]; exact q⟩)
theorem ev_test {t : TE} {b : Bool} (h : Evs t σ H (.bl b)) : EvB (tTest t) σ H b := fun _ q => h _ ⟨b, rfl, q⟩
theorem ev_tB {t : TE} {b : Bool} (h : Evs t σ H (.bl b)) : EvB (tB t) σ H b := fun _ q => h _ ⟨b, rfl, q⟩
theorem ev_and {t u : TT} {b c : Bool} (h : EvB t σ H b) (g : b = true → EvB u σ H c) : EvB (tAnd t u) σ H (b && c) := fun Q q => h _ (by
  cases b with
  | true => exact iteT (g rfl _ q)
  | false => exact iteF q)
theorem ev_or {t u : TT} {b c : Bool} (h : EvB t σ H b) (g : b = false → EvB u σ H c) : EvB (tOr t u) σ H (b || c) := fun Q q => h _ (by
  cases b with
  | false => exact iteF (g rfl _ q)
  | true => exact iteT q)
theorem ev_not {t : TT} {b : Bool} (h : EvB t σ H b) : EvB (tNot t) σ H (!b) := fun Q q => h _ q
theorem ev_andV {t u : TE} {b c : Bool} (h : Evs t σ H (.bl b)) (g : b = true → Evs u σ H (.bl c)) : Evs (tAndV t u) σ H (.bl (b && c)) := fun Q q => h _ ⟨b, rfl, by
  cases b with
  | true => exact iteT (g rfl _ q)
  | false => exact iteF q⟩
theorem ev_orV {t u : TE} {b c : Bool} (h : Evs t σ H (.bl b)) (g : b = false → Evs u σ H (.bl c)) : Evs (tOrV t u) σ H (.bl (b || c)) := fun Q q => h _ ⟨b, rfl, by
  cases b with
  | false => exact iteF (g rfl _ q)
  | true => exact iteT q⟩
theorem ev_isN {ta : TE} {v : V} (h : Evs ta σ H v) : Evs (tOp (fun x y H Q => y = .non ∧ Q (.bl (decide (x = .non))) H) ta (tC .non)) σ H (.bl (decide (v = .non))) := fun _ q => h _ ⟨rfl, q⟩
/-- lo <= x <= hi -/
theorem ev_chain {r r' : R2} {ta tb tc : TE} {x y z : V} {b c : Bool} (ha : Evs ta σ H x) (hb : Evs tb σ H y) (hc : Evs tc σ H z) (h1 : ∀ Q : VK, Q (.bl b) H → r x y H Q) (h2 : ∀ Q : VK, Q (.bl c) H → r' y z H Q) : Evs (tChain r r' ta tb tc) σ H (.bl (b && c)) :=
  fun Q q => ha _ (hb _ (h1 _ ⟨b, rfl, by
    cases b with
    | true => exact iteT (hc _ (h2 _ q))
    | false => exact iteF q⟩))
/-- a test that is known -/
theorem ev_if {t : TT} {b : Bool} {A B : Hp → Prop} (h : EvB t σ H b) (h1 : b = true → A H) (h2 : b = false → B H) : t σ H fun c H1 => if c = true then A H1 else B H1 := h _ (iteB h1 h2)
/-- the items of a step, a letter by its slot's value -/
theorem ev_s0 {ta : TE} {t : Addr} {x : Stp} (ha : Evs ta σ H (.ref t)) (h : H t = some (.tup ((sI x).map V.int))) : Evs (tOp (rIxT K) ta (tC (.int 0))) σ H (.int (s0 x)) := ev_ixT ha ev_c (SqT.of h) (at0 x)
theorem ev_s1 {ta : TE} {t : Addr} {x : Stp} (ha : Evs ta σ H (.ref t)) (h : H t = some (.tup ((sI x).map V.int))) : Evs (tOp (rIxT K) ta (tC (.int 1))) σ H (.int (s1 x)) := ev_ixT ha ev_c (SqT.of h) (at1 x)
theorem ev_s2 {ta : TE} {t : Addr} {x : Stp} (ha : Evs ta σ H (.ref t)) (h : H t = some (.tup ((sI x).map V.int))) : Evs (tOp (rIxT K) ta (tC (.int 2))) σ H (.int (s2 x)) := ev_ixT ha ev_c (SqT.of h) (at2 x)
theorem ev_l0 {ta : TE} {t : Addr} {x : Letter} (ha : Evs ta σ H (.ref t)) (h : H t = some (.tup ((lI x).map V.int))) : Evs (tOp (rIxT K) ta (tC (.int 0))) σ H (.int x.sign) := ev_ixT ha ev_c (SqT.of h) (lat0 x)
theorem ev_l1 {ta : TE} {t : Addr} {x : Letter} (ha : Evs ta σ H (.ref t)) (h : H t = some (.tup ((lI x).map V.int))) : Evs (tOp (rIxT K) ta (tC (.int 1))) σ H (.int x.look) := ev_ixT ha ev_c (SqT.of h) (lat1 x)
/-- an item of a list of steps -/
theorem ev_at {ta tb : TE} {p : Addr} {vs : List V} {i : Nat} {v : V} (ha : Evs ta σ H (.ref p)) (hb : Evs tb σ H (.int i)) (hs : SqL K H p vs) (hi : vs[i]? = some v) : Evs (tOp (rIxL K) ta tb) σ H v := ev_ixL ha hb hs (atI_nat hi)
/-! ### == of tuples of ints -/
def dT (r : List Int) : PyData := .tuple (r.map PyData.int)
theorem dT_all : ∀ r : List Int, DpAll K H (r.map V.int) (r.map PyData.int)
  | [] => .nil
  | i :: r => .cons (.int i) (dT_all r)
theorem dT_dp {t : Addr} {r : List Int} (h : H t = some (.tup (r.map V.int))) : Dp K H (.ref t) (dT r) := .tup (SqT.of h) (dT_all r)
theorem dT_lay : ∀ r : List Int, PyData.canLayAll0 (r.map PyData.int) = true
  | [] => by simp [PyData.canLayAll0]
  | i :: r => by simp [PyData.canLayAll0, PyData.canLay0, dT_lay r]
theorem dT_depth : ∀ r : List Int, PyData.depthAll (r.map PyData.int) = 0
  | [] => by simp [PyData.depthAll]
  | i :: r => by simp [PyData.depthAll, PyData.depth, dT_depth r]
theorem dT_shaped (r : List Int) : SeqAt.shaped (dT r) = true := by
  simp [SeqAt.shaped, dT, PyData.canLay0, PyData.depth, dT_lay, dT_depth]
theorem dT_eqvA : ∀ r q : List Int, PyData.eqvAll (r.map PyData.int) (q.map PyData.int) = decide (r = q)
  | [], [] => by simp [PyData.eqvAll]
  | [], _ :: _ => by simp [PyData.eqvAll]
  | _ :: _, [] => by simp [PyData.eqvAll]
  | i :: r, j :: q => by
    simp only [List.map_cons, PyData.eqvAll, PyData.eqv, dT_eqvA r q]
    by_cases h1 : i = j <;> by_cases h2 : r = q <;> simp [h1, h2]
theorem dT_eqv (r q : List Int) : PyData.eqv (dT r) (dT q) = decide (r = q) := by simp only [dT, PyData.eqv, dT_eqvA]
theorem rEqD_of {t u : Addr} {r q : List Int} {Q : VK} (h : H t = some (.tup (r.map V.int))) (g : H u = some (.tup (q.map V.int))) (k : Q (.bl (decide (r = q))) H) : rEqD K (.ref t) (.ref u) H Q :=
  ⟨dT r, dT q, dT_dp h, dT_dp g, dT_shaped r, dT_shaped q, by rw [dT_eqv]; exact k⟩
theorem lI_inj {x y : Letter} (h : lI x = lI y) : x = y := by
  obtain ⟨a, b⟩ := x
  obtain ⟨c, d⟩ := y
  have h1 : (a : Int) = c := (List.cons.inj h).1
  have h2 : (b : Int) = d := (List.cons.inj (List.cons.inj h).2).1
  have h3 : a = c := by omega
  have h4 : b = d := by omega
  rw [h3, h4]
theorem sI_inj {x y : Stp} (h : sI x = sI y) : x = y := by
  cases x with
  | keep => cases y with
    | keep => rfl
    | _ => exact absurd (List.cons.inj h).1 (by decide)
  | paint f g => cases y with
    | paint f' g' =>
      have h1 : (f : Int) = f' := (List.cons.inj (List.cons.inj h).2).1
      have h2 : (g : Int) = g' := (List.cons.inj (List.cons.inj (List.cons.inj h).2).2).1
      have h3 : f = f' := by omega
      have h4 : g = g' := by omega
      rw [h3, h4]
    | _ => exact absurd (List.cons.inj h).1 (by decide)
  | drop a => cases y with
    | drop b => exact congrArg Vatrkj.Step.drop (lI_inj (List.cons.inj h).2)
    | _ => exact absurd (List.cons.inj h).1 (by decide)
  | put a => cases y with
    | put b => exact congrArg Vatrkj.Step.put (lI_inj (List.cons.inj h).2)
    | _ => exact absurd (List.cons.inj h).1 (by decide)
theorem sI_eq (x y : Stp) : decide (sI x = sI y) = decide (x = y) := by
  by_cases h : x = y
  · simp [h]
  · have : ¬ sI x = sI y := fun e => h (sI_inj e)
    simp [h, this]
theorem lI_eq (x y : Letter) : decide (lI x = lI y) = decide (x = y) := by
  by_cases h : x = y
  · simp [h]
  · have : ¬ lI x = lI y := fun e => h (lI_inj e)
    simp [h, this]
/-- an edit or none; a text or none -/
def OEd (H : Hp) (v : V) : Option Edit → Prop
  | none => v = .non
  | some e => ∃ p, v = .ref p ∧ Ed H p e
/-- the same, at an address that was free -/
def OEdN (H0 H : Hp) (v : V) : Option Edit → Prop
  | none => v = .non
  | some e => ∃ p, v = .ref p ∧ H0 p = none ∧ Ed H p e
def OTxN (H0 H : Hp) (v : V) : Option Text → Prop
  | none => v = .non
  | some e => ∃ p, v = .ref p ∧ H0 p = none ∧ Tx H p e
def OTx (H : Hp) (v : V) : Option Text → Prop
  | none => v = .non
  | some e => ∃ p, v = .ref p ∧ Tx H p e
theorem yes_of {A B : Hp → Prop} (h : A H) : tYes σ H fun b H3 => if b = true then A H3 else B H3 := by
  show if true = true then A H else B H
  exact iteT h
theorem dlt {n m : Nat} : decide ((n : Int) < (m : Int)) = decide (n < m) := by
  by_cases h : n < m
  · simp [h]
  · have : ¬ (n : Int) < m := by omega
    simp [h, this]
/-- an item of an edit: its place in the list, its step -/
theorem ed_get {H : Hp} {vs : List V} {e : Edit} {i : Nat} (r : Rws H vs (e.map sI)) (h : i < e.length) : ∃ y t, e[i]? = some y ∧ vs[i]? = some (.ref t) ∧ H t = some (.tup ((sI y).map V.int)) := by
  obtain ⟨y, hy⟩ := get_of h
  obtain ⟨t, h1, h2⟩ := r.get (i := i) (r := sI y) (by rw [List.getElem?_map, hy]; rfl)
  exact ⟨y, t, hy, h1, h2⟩
/-- the kind of the step at i is k -/
def nx (e : Edit) (i : Nat) (k : Int) : Bool := match e[i]? with
  | some y => decide (s0 y = k)
  | none => false
theorem nx_true {e : Edit} {i : Nat} {k : Int} (h : nx e i k = true) : ∃ y, e[i]? = some y ∧ s0 y = k := by
  unfold nx at h
  cases q : e[i]? with
  | none => rw [q] at h; cases h
  | some y => rw [q] at h; exact ⟨y, rfl, of_decide_eq_true h⟩
theorem nx_false {e : Edit} {i : Nat} {k : Int} {y : Stp} (h : nx e i k = false) (g : e[i]? = some y) : ¬ s0 y = k := by
  unfold nx at h
  rw [g] at h
  exact of_decide_eq_false h
theorem nx_out {e : Edit} {i : Nat} {k : Int} (h : e.length ≤ i) : nx e i k = false := by
  unfold nx
  rw [List.getElem?_eq_none h]
theorem nx_in {e : Edit} {i : Nat} {k : Int} {y : Stp} (g : e[i]? = some y) : nx e i k = decide (s0 y = k) := by
  unfold nx
  rw [g]
theorem ev_nextV {tr ti : TE} {p : Addr} {vs : List V} {e : Edit} {i : Nat} (k : Int) (hr : Evs tr σ H (.ref p)) (hi : Evs ti σ H (.int i)) (hs : SqL K H p vs) (r : Rws H vs (e.map sI)) :
    Evs (tAndV (tOp (rI0 fun i j => .bl (decide (i < j))) ti (tCB (rLen K) (tCons tr tNil))) (tOp rEq (tOp (rIxT K) (tOp (rIxL K) tr ti) (tC (.int 0))) (tC (.int k)))) σ H (.bl (nx e i k)) := by
  have lr := r.length
  rw [List.length_map] at lr
  have h0 := ev_lt hi (ev_len (K := K) hr hs)
  rw [lr, dlt] at h0
  by_cases h1 : i < e.length
  · obtain ⟨y, t, hy, h2, h3⟩ := ed_get r h1
    have := ev_andV h0 fun _ => ev_eq (ev_s0 (K := K) (ev_at (K := K) hr hi hs h2) h3) (ev_c (v := .int k))
    rw [decide_eq_true h1, Bool.true_and, ← nx_in hy] at this
    exact this
  · have e1 : decide (i < e.length) = false := decide_eq_false h1
    have := ev_andV (u := tOp rEq (tOp (rIxT K) (tOp (rIxL K) tr ti) (tC (.int 0))) (tC (.int k))) (c := false) h0 fun hh => no_ft (e1.symm.trans hh)
    rw [Bool.and_false, ← nx_out (k := k) (Nat.le_of_not_lt h1)] at this
    exact this
theorem ev_next {tr ti : TE} {p : Addr} {vs : List V} {e : Edit} {i : Nat} (k : Int) (hr : Evs tr σ H (.ref p)) (hi : Evs ti σ H (.int i)) (hs : SqL K H p vs) (r : Rws H vs (e.map sI)) :
    EvB (tAnd (tTest (tOp (rI0 fun i j => .bl (decide (i < j))) ti (tCB (rLen K) (tCons tr tNil)))) (tTest (tOp rEq (tOp (rIxT K) (tOp (rIxL K) tr ti) (tC (.int 0))) (tC (.int k))))) σ H (nx e i k) := by
  have lr := r.length
  rw [List.length_map] at lr
  have h0 := ev_test (ev_lt hi (ev_len (K := K) hr hs))
  rw [lr, dlt] at h0
  by_cases h1 : i < e.length
  · obtain ⟨y, t, hy, h2, h3⟩ := ed_get r h1
    have := ev_and h0 fun _ => ev_test (ev_eq (ev_s0 (K := K) (ev_at (K := K) hr hi hs h2) h3) (ev_c (v := .int k)))
    rw [decide_eq_true h1, Bool.true_and, ← nx_in hy] at this
    exact this
  · have e1 : decide (i < e.length) = false := decide_eq_false h1
    have := ev_and (u := tTest (tOp rEq (tOp (rIxT K) (tOp (rIxL K) tr ti) (tC (.int 0))) (tC (.int k)))) (c := false) h0 fun hh => no_ft (e1.symm.trans hh)
    rw [Bool.and_false, ← nx_out (k := k) (Nat.le_of_not_lt h1)] at this
    exact this
/-- a number below the length of a list -/
theorem ev_ltlen {tr ti : TE} {p : Addr} {vs : List V} {e : Edit} {i : Nat} (hr : Evs tr σ H (.ref p)) (hi : Evs ti σ H (.int i)) (hs : SqL K H p vs) (r : Rws H vs (e.map sI)) :
    EvB (tTest (tOp (rI0 fun i j => .bl (decide (i < j))) ti (tCB (rLen K) (tCons tr tNil)))) σ H (decide (i < e.length)) := by
  have lr := r.length
  rw [List.length_map] at lr
  have h0 := ev_test (ev_lt hi (ev_len (K := K) hr hs))
  rw [lr, dlt] at h0
  exact h0
theorem nd_t {p : Prop} [Decidable p] (h : (!decide p) = true) : ¬ p := by simpa using h
theorem nd_f {p : Prop} [Decidable p] (h : (!decide p) = false) : p := by simpa using h
theorem ev_mod {ta tb : TE} {i j : Int} (ha : Evs ta σ H (.int i)) (hb : Evs tb σ H (.int j)) (h : 0 < j) : Evs (tOp (rI (fun _ j => 0 < j) fun i j => .int (i % j)) ta tb) σ H (.int (i % j)) := fun _ q => ha _ (hb _ ⟨i, j, rfl, rfl, h, q⟩)
theorem ev_mul {ta tb : TE} {i j : Int} (ha : Evs ta σ H (.int i)) (hb : Evs tb σ H (.int j)) (h : CMul i j) : Evs (tOp (rI CMul fun i j => .int (i * j)) ta tb) σ H (.int (i * j)) := fun _ q => ha _ (hb _ ⟨i, j, rfl, rfl, h, q⟩)
theorem ev_call1 {ta : TE} {v x : V} {sp : Sp} (ha : Evs ta σ H v) (h : ∀ Q : VK, Q x H → sp [v] H Q E0) : Evs (tCall sp [] E0 (tCons ta tNil)) σ H x := fun Q q => ha _ (h Q q)
theorem ev_call2 {ta tb : TE} {v u x : V} {sp : Sp} (ha : Evs ta σ H v) (hb : Evs tb σ H u) (h : ∀ Q : VK, Q x H → sp [v, u] H Q E0) : Evs (tCall sp [] E0 (tCons ta (tCons tb tNil))) σ H x := fun Q q => ha _ (hb _ (h Q q))
end Ev

namespace Ev
open PySem PySem.Spec PyProof.Rows L2
open Vatrkj (Letter Edit Text)
def sp_old_length (K : PySem.W.Frag) (_ : Ad) : Sp := sp1 fun v H Q => ∃ p e, v = .ref p ∧ Ed H p e ∧ e.length ≤ 16000000 ∧ ∀ H', Same H H' → Q (.int (Vatrkj.oldLength e)) H'
def sp_new_length (K : PySem.W.Frag) (_ : Ad) : Sp := sp1 fun v H Q => ∃ p e, v = .ref p ∧ Ed H p e ∧ e.length ≤ 16000000 ∧ ∀ H', Same H H' → Q (.int (Vatrkj.newLength e)) H'
theorem filt_more {α : Type} {f : α → Bool} {l : List α} {i : Nat} {x : α} (h : l[i]? = some x) : ((l.take (i + 1)).filter f).length = ((l.take i).filter f).length + if f x = true then 1 else 0 := by
  rw [take_more h, List.filter_append, List.length_append]
  cases q : f x <;> simp [List.filter, q]
theorem use_old_length {P : Program} {w : World} {K : PySem.W.Frag} {mg : Str → Option Value} {base : Heap} {a : Ad} (T : Txt K mg a) (D : Dfn K mg "old_length" "old_length" s_old_length ["steps"])  : Use P w K mg base 1 "old_length" ["steps"] (sp_old_length K a) := by
  obtain ⟨f, fd, F, gf, bf⟩ := D
  refine ⟨f, fd, gf, F.kp, bf, F.ok (k := 0) sc_old_length (fun vs H Q E h => h.len) (fun cdv A outer s H vs Q E hr h => ?_)⟩
  refine ⟨_, (pss_one (ps_ret (pe_callB call_len_seq rfl T.n_len PySem.boot_len (pa_cons (pe_lc (own := [("step", 1)]) (g := gName 1) rfl sc_old_length.nd (pi_list (pv 0)) (blkOk_by (own := [("step", 1)]) (N := ["steps", "step"]) (sc := defScope s_old_length) (by decide +kernel)) (fun _ _ _ _ _ => pg_name (i := 1) sc_old_length.nd rfl (Or.inl rfl)) (fun _ _ _ _ _ => pts_one (pt_cmpR op_ne (pe_ix (ix_tup : IxR _ (rIxT K)) (pv 1) pe_int (fun _ _ => rfl)) (pe_glob (v := .int 3) rfl T.c_PUT ⟨_, rfl⟩) (nomark _))) (fun _ _ _ _ _ => (pv 1))) pa_nil)))), ?_⟩
  obtain ⟨v0, rfl, h⟩ := h
  obtain ⟨p, e, rfl, ⟨vs, hp, hr'⟩, hlen, k⟩ := h
  refine ⟨_, rfl, p, rfl, ⟨_, SqL.of hp⟩, fun D hD => lc_list (K := K) (a := p) (xs := vs) (fun i H' => Same H H' ∧ ∃ acc, H' D = some (.lst acc) ∧ acc.length = ((e.take i).filter Vatrkj.takes).length) ⟨Same.new hD, [], upd_same, rfl⟩ (fun i H' _ ⟨s, _⟩ => SqL.of (s _ _ hp)) ?_ ?_⟩
  · rintro i x H' hi ⟨s, acc, hacc, la⟩
    obtain ⟨t, r, rfl, hri, ht⟩ := (hr'.mono s).get' hi
    obtain ⟨y, hy, rfl⟩ := map_get hri
    have fm := filt_more (f := Vatrkj.takes) hy
    have hb : ((e.take i).filter Vatrkj.takes).length ≤ 16000000 := Nat.le_trans (List.length_filter_le ..) (Nat.le_trans (List.length_take_le ..) (Nat.le_trans (Nat.le_of_lt (ix_lt hy)) hlen))
    refine ⟨rfl, _, rfl, t, _, 0, _, rfl, rfl, SqT.of ht, at0 y, rfl, _, rfl, ?_⟩
    cases y with
    | put z => exact iteNP rfl ⟨s, acc, hacc, by rw [fm]; exact la⟩
    | keep => exact iteNN n03 ⟨_, rfl, acc, hacc, lt_size (by omega), s.upd hD, _, upd_same, by rw [fm, List.length_append, la]; rfl⟩
    | paint f g => exact iteNN n13 ⟨_, rfl, acc, hacc, lt_size (by omega), s.upd hD, _, upd_same, by rw [fm, List.length_append, la]; rfl⟩
    | drop z => exact iteNN n23 ⟨_, rfl, acc, hacc, lt_size (by omega), s.upd hD, _, upd_same, by rw [fm, List.length_append, la]; rfl⟩
  · rintro H' ⟨s, acc, hacc, la⟩
    refine ⟨D, acc, rfl, .inl (SqL.of hacc), ?_⟩
    have e1 : vs.length = e.length := by rw [hr'.length, List.length_map]
    rw [la, e1, List.take_length]
    exact k H' s
theorem use_new_length {P : Program} {w : World} {K : PySem.W.Frag} {mg : Str → Option Value} {base : Heap} {a : Ad} (T : Txt K mg a) (D : Dfn K mg "new_length" "new_length" s_new_length ["steps"])  : Use P w K mg base 1 "new_length" ["steps"] (sp_new_length K a) := by
  obtain ⟨f, fd, F, gf, bf⟩ := D
  refine ⟨f, fd, gf, F.kp, bf, F.ok (k := 0) sc_new_length (fun vs H Q E h => h.len) (fun cdv A outer s H vs Q E hr h => ?_)⟩
  refine ⟨_, (pss_one (ps_ret (pe_callB call_len_seq rfl T.n_len PySem.boot_len (pa_cons (pe_lc (own := [("step", 1)]) (g := gName 1) rfl sc_new_length.nd (pi_list (pv 0)) (blkOk_by (own := [("step", 1)]) (N := ["steps", "step"]) (sc := defScope s_new_length) (by decide +kernel)) (fun _ _ _ _ _ => pg_name (i := 1) sc_new_length.nd rfl (Or.inl rfl)) (fun _ _ _ _ _ => pts_one (pt_cmpR op_ne (pe_ix (ix_tup : IxR _ (rIxT K)) (pv 1) pe_int (fun _ _ => rfl)) (pe_glob (v := .int 2) rfl T.c_DROP ⟨_, rfl⟩) (nomark _))) (fun _ _ _ _ _ => (pv 1))) pa_nil)))), ?_⟩
  obtain ⟨v0, rfl, h⟩ := h
  obtain ⟨p, e, rfl, ⟨vs, hp, hr'⟩, hlen, k⟩ := h
  refine ⟨_, rfl, p, rfl, ⟨_, SqL.of hp⟩, fun D hD => lc_list (K := K) (a := p) (xs := vs) (fun i H' => Same H H' ∧ ∃ acc, H' D = some (.lst acc) ∧ acc.length = ((e.take i).filter Vatrkj.brings).length) ⟨Same.new hD, [], upd_same, rfl⟩ (fun i H' _ ⟨s, _⟩ => SqL.of (s _ _ hp)) ?_ ?_⟩
  · rintro i x H' hi ⟨s, acc, hacc, la⟩
    obtain ⟨t, r, rfl, hri, ht⟩ := (hr'.mono s).get' hi
    obtain ⟨y, hy, rfl⟩ := map_get hri
    have fm := filt_more (f := Vatrkj.brings) hy
    have hb : ((e.take i).filter Vatrkj.brings).length ≤ 16000000 := Nat.le_trans (List.length_filter_le ..) (Nat.le_trans (List.length_take_le ..) (Nat.le_trans (Nat.le_of_lt (ix_lt hy)) hlen))
    refine ⟨rfl, _, rfl, t, _, 0, _, rfl, rfl, SqT.of ht, at0 y, rfl, _, rfl, ?_⟩
    cases y with
    | drop z => exact iteNP rfl ⟨s, acc, hacc, by rw [fm]; exact la⟩
    | keep => exact iteNN n02 ⟨_, rfl, acc, hacc, lt_size (by omega), s.upd hD, _, upd_same, by rw [fm, List.length_append, la]; rfl⟩
    | paint f g => exact iteNN n12 ⟨_, rfl, acc, hacc, lt_size (by omega), s.upd hD, _, upd_same, by rw [fm, List.length_append, la]; rfl⟩
    | put z => exact iteNN n32 ⟨_, rfl, acc, hacc, lt_size (by omega), s.upd hD, _, upd_same, by rw [fm, List.length_append, la]; rfl⟩
  · rintro H' ⟨s, acc, hacc, la⟩
    refine ⟨D, acc, rfl, .inl (SqL.of hacc), ?_⟩
    have e1 : vs.length = e.length := by rw [hr'.length, List.length_map]
    rw [la, e1, List.take_length]
    exact k H' s
/-! ### in_form -/
/-- what the loop makes of the rest -/
def inF (fm dr : Edit) : Edit → Edit
  | [] => fm ++ dr
  | .put x :: r => inF (fm ++ [.put x]) dr r
  | .drop x :: r => inF fm (dr ++ [.drop x]) r
  | .keep :: r => inF (fm ++ dr ++ [.keep]) [] r
  | .paint f g :: r => inF (fm ++ dr ++ [.paint f g]) [] r
theorem inF_is : ∀ (r done puts drops : Edit), inF (done ++ puts) drops r = done ++ Vatrkj.formFrom puts drops r
  | [], done, puts, drops => by simp [inF, Vatrkj.formFrom]
  | .put x :: r, done, puts, drops => by
    rw [inF, Vatrkj.formFrom, List.append_assoc]
    exact inF_is r done (puts ++ [.put x]) drops
  | .drop x :: r, done, puts, drops => by
    rw [inF, Vatrkj.formFrom]
    exact inF_is r done puts (drops ++ [.drop x])
  | .keep :: r, done, puts, drops => by
    have := inF_is r (done ++ puts ++ drops ++ [.keep]) [] []
    rw [List.append_nil] at this
    rw [inF, this, Vatrkj.formFrom]
    · simp
    · intro x z; cases z
    · intro x z; cases z
  | .paint f g :: r, done, puts, drops => by
    have := inF_is r (done ++ puts ++ drops ++ [.paint f g]) [] []
    rw [List.append_nil] at this
    rw [inF, this, Vatrkj.formFrom]
    · simp
    · intro x z; cases z
    · intro x z; cases z
theorem inF_formed (e : Edit) : inF [] [] e = Vatrkj.formed e := inF_is e [] [] []
def sp_in_form (K : PySem.W.Frag) (_ : Ad) : Sp := sp1 fun v H Q => ∃ p e, v = .ref p ∧ Ed H p e ∧ e.length ≤ 16000000 ∧ ∀ H' p', Same H H' → H p' = none → Ed H' p' (Vatrkj.formed e) → Q (.ref p') H'
theorem use_in_form {P : Program} {w : World} {K : PySem.W.Frag} {mg : Str → Option Value} {base : Heap} {a : Ad} (T : Txt K mg a) (D : Dfn K mg "in_form" "in_form" s_in_form ["steps"])  : Use P w K mg base 1 "in_form" ["steps"] (sp_in_form K a) := by
  obtain ⟨f, fd, F, gf, bf⟩ := D
  refine ⟨f, fd, gf, F.kp, bf, F.ok (k := 0) sc_in_form (fun vs H Q E h => h.len) (fun cdv A outer s H vs Q E hr h => ?_)⟩
  refine ⟨_, (pss_cons (ps_set (i := 1) sc_in_form.nd rfl (Or.inl rfl) (pe_lst pa_nil))
       (pss_cons (ps_set (i := 2) sc_in_form.nd rfl (Or.inl rfl) (pe_lst pa_nil))
       (pss_cons (ps_for PassesOwn.never rfl (pi_list (pv 0)) (pg_name (i := 3) sc_in_form.nd rfl (Or.inl rfl)) (pss_one (ps_if (pt_cmpR op_eq (pe_ix (ix_tup : IxR _ (rIxT K)) (pv 3) pe_int (fun _ _ => rfl)) (pe_glob (v := .int 2) rfl T.c_DROP ⟨_, rfl⟩) (nomark _)) (pss_one (ps_expr (pe_bm PySem.F.plainAttrs_list PySem.F.slot_list_append PySem.F.type_list_append mt_append (pv 2) (pa_cons (pv 3) pa_nil)))) (pss_one (ps_if (pt_cmpR op_eq (pe_ix (ix_tup : IxR _ (rIxT K)) (pv 3) pe_int (fun _ _ => rfl)) (pe_glob (v := .int 3) rfl T.c_PUT ⟨_, rfl⟩) (nomark _)) (pss_one (ps_expr (pe_bm PySem.F.plainAttrs_list PySem.F.slot_list_append PySem.F.type_list_append mt_append (pv 1) (pa_cons (pv 3) pa_nil)))) (pss_cons (ps_expr (pe_bm PySem.F.plainAttrs_list PySem.F.slot_list_extend PySem.F.type_list_extend mt_extend (pv 1) (pa_cons (pv 2) pa_nil)))
       (pss_cons (ps_expr (pe_bm PySem.F.plainAttrs_list PySem.F.slot_list_append PySem.F.type_list_append mt_append (pv 1) (pa_cons (pv 3) pa_nil)))
       (pss_one (ps_set (i := 2) sc_in_form.nd rfl (Or.inl rfl) (pe_lst pa_nil))))))))))
       (pss_cons (ps_expr (pe_bm PySem.F.plainAttrs_list PySem.F.slot_list_extend PySem.F.type_list_extend mt_extend (pv 1) (pa_cons (pv 2) pa_nil)))
       (pss_one (ps_ret (pv 1))))))), ?_⟩
  obtain ⟨v0, rfl, h⟩ := h
  obtain ⟨p, e, rfl, ⟨vs, hp, hr'⟩, hlen, k⟩ := h
  refine ⟨by decide, fun F hF => ⟨by decide, fun D0 hD0 => ?_⟩⟩
  have nF : D0 ≠ F := fun z => by rw [z, upd_same] at hD0; cases hD0
  have hD0' : H D0 = none := by rw [upd_ne nF] at hD0; exact hD0
  refine ⟨_, rfl, p, rfl, ⟨_, SqL.of (((Same.new hF).trans (Same.new hD0)) _ _ hp)⟩, for_list (K := K) (a := p) (xs := vs) (fun i σ H' => ∃ (v : Option V) (D : Addr) (fm dr : Edit), σ = [some (.ref p), some (.ref F), some (.ref D), v] ∧ Same H H' ∧ H D = none ∧ D ≠ F ∧ Ed H' F fm ∧ Ed H' D dr ∧ fm.length + dr.length ≤ i ∧ inF fm dr (e.drop i) = Vatrkj.formed e) ?_ (fun i σ H' _ ⟨_, _, _, _, _, s, _⟩ => SqL.of (s _ _ hp)) ?_ ?_⟩
  · exact ⟨none, D0, [], [], rfl, (Same.new hF).trans (Same.new hD0), hD0', nF, ⟨[], by rw [upd_ne nF.symm]; exact upd_same, .nil⟩, ⟨[], upd_same, .nil⟩, Nat.le_refl _, inF_formed e⟩
  · rintro i x σ H' hi ⟨v, D, fm, dr, rfl, s, hD, nD, ⟨fs, hfs, rf⟩, ⟨ds, hds, rd⟩, hl, hq⟩
    obtain ⟨t, r, rfl, hri, ht⟩ := (hr'.mono s).get' hi
    obtain ⟨y, hy, rfl⟩ := map_get hri
    have hi' := ix_lt hy
    rw [drop_more hy] at hq
    have lf := rf.length
    have ld := rd.length
    rw [List.length_map] at lf ld
    refine ⟨_, rfl, t, _, 0, _, rfl, rfl, SqT.of ht, at0 y, rfl, _, rfl, ?_⟩
    cases y with
    | drop z =>
      refine iteP rfl ⟨_, rfl, .inl ⟨rfl, _, SqL.of hds⟩, _, rfl, D, ds, _, rfl, rfl, hds, lt_size (by omega), ?_⟩
      refine ⟨some (.ref t), D, fm, dr ++ [.drop z], rfl, s.upd hD, hD, nD, ⟨fs, by rw [upd_ne nD.symm]; exact hfs, rf.updL hds⟩, ⟨_, upd_same, ?_⟩, ?_, hq⟩
      · rw [List.map_append]; exact (rd.snoc (r := sI (.drop z)) ht).updL hds
      · rw [List.length_append]; show fm.length + (dr.length + 1) ≤ _; omega
    | put z =>
      refine iteN n32 ⟨_, rfl, t, _, 0, _, rfl, rfl, SqT.of ht, at0 (.put z), rfl, _, rfl, iteP rfl ⟨_, rfl, .inl ⟨rfl, _, SqL.of hfs⟩, _, rfl, F, fs, _, rfl, rfl, hfs, lt_size (by omega), ?_⟩⟩
      refine ⟨some (.ref t), D, fm ++ [.put z], dr, rfl, s.upd hF, hD, nD, ⟨_, upd_same, ?_⟩, ⟨ds, by rw [upd_ne nD]; exact hds, rd.updL hfs⟩, ?_, hq⟩
      · rw [List.map_append]; exact (rf.snoc (r := sI (.put z)) ht).updL hfs
      · rw [List.length_append]; show fm.length + 1 + dr.length ≤ _; omega
    | keep =>
      refine iteN n02 ⟨_, rfl, t, _, 0, _, rfl, rfl, SqT.of ht, at0 .keep, rfl, _, rfl, iteN n03 ⟨_, rfl, .inl ⟨rfl, _, SqL.of hfs⟩, _, rfl, F, D, fs, ds, rfl, rfl, hfs, hds, le_size (by omega), ?_⟩⟩
      refine ⟨_, rfl, .inl ⟨rfl, _, SqL.of upd_same⟩, _, rfl, F, _, _, rfl, rfl, upd_same, lt_size (by rw [List.length_append]; omega), ?_⟩
      rw [upd_upd]
      refine ⟨by decide, fun D1 hD1 => ?_⟩
      have n1 : D1 ≠ F := fun z => by rw [z, upd_same] at hD1; cases hD1
      have s1 : Same H (upd H' F (.lst (fs ++ ds ++ [.ref t]))) := s.upd hF
      refine ⟨some (.ref t), D1, fm ++ dr ++ [.keep], [], rfl, s1.trans (Same.new hD1), s1.free hD1, n1, ⟨_, by rw [upd_ne n1.symm]; exact upd_same, ?_⟩, ⟨[], upd_same, .nil⟩, ?_, hq⟩
      · rw [List.map_append, List.map_append]; exact (((rf.append rd).snoc (r := sI .keep) ht).updL hfs).updN hD1
      · rw [List.length_append, List.length_append]; show fm.length + dr.length + 1 + 0 ≤ _; omega
    | paint f g =>
      refine iteN n12 ⟨_, rfl, t, _, 0, _, rfl, rfl, SqT.of ht, at0 (.paint f g), rfl, _, rfl, iteN n13 ⟨_, rfl, .inl ⟨rfl, _, SqL.of hfs⟩, _, rfl, F, D, fs, ds, rfl, rfl, hfs, hds, le_size (by omega), ?_⟩⟩
      refine ⟨_, rfl, .inl ⟨rfl, _, SqL.of upd_same⟩, _, rfl, F, _, _, rfl, rfl, upd_same, lt_size (by rw [List.length_append]; omega), ?_⟩
      rw [upd_upd]
      refine ⟨by decide, fun D1 hD1 => ?_⟩
      have n1 : D1 ≠ F := fun z => by rw [z, upd_same] at hD1; cases hD1
      have s1 : Same H (upd H' F (.lst (fs ++ ds ++ [.ref t]))) := s.upd hF
      refine ⟨some (.ref t), D1, fm ++ dr ++ [.paint f g], [], rfl, s1.trans (Same.new hD1), s1.free hD1, n1, ⟨_, by rw [upd_ne n1.symm]; exact upd_same, ?_⟩, ⟨[], upd_same, .nil⟩, ?_, hq⟩
      · rw [List.map_append, List.map_append]; exact (((rf.append rd).snoc (r := sI (.paint f g)) ht).updL hfs).updN hD1
      · rw [List.length_append, List.length_append]; show fm.length + dr.length + 1 + 0 ≤ _; omega
  · rintro σ H' ⟨v, D, fm, dr, rfl, s, hD, nD, ⟨fs, hfs, rf⟩, ⟨ds, hds, rd⟩, hl, hq⟩
    have lf := rf.length
    have ld := rd.length
    have lv := hr'.length
    rw [List.length_map] at lf ld lv
    rw [lv, List.drop_length] at hq
    refine ⟨_, rfl, .inl ⟨rfl, _, SqL.of hfs⟩, _, rfl, F, D, fs, ds, rfl, rfl, hfs, hds, le_size (by omega), ?_⟩
    refine ⟨_, rfl, k _ F (s.upd hF) hF ⟨_, upd_same, ?_⟩⟩
    rw [← hq]
    show Rws _ _ (List.map sI (fm ++ dr))
    rw [List.map_append]
    exact (rf.append rd).updL hfs
end Ev

namespace Ev
open PySem PySem.Spec PyProof.Rows L2
open Vatrkj (Letter Edit Text)
/-! ### applied -/
def fits : Stp → Letter → Bool
  | .paint f _, x => decide (x.look = f)
  | .drop y, x => decide (x = y)
  | _, _ => true
def bring : Stp → Letter → Text
  | .keep, x => [x]
  | .paint _ g, x => [{ x with look := g }]
  | _, _ => []
theorem natI (a b : Nat) : decide ((a : Int) = (b : Int)) = decide (a = b) := by
  by_cases h : a = b
  · simp [h]
  · have : ¬ (a : Int) = b := fun e => h (by omega)
    simp [h, this]
def sp_takes (K : PySem.W.Frag) (_ : Ad) : Sp := sp2 fun v0 v1 H Q => ∃ y x, StV H v0 y ∧ LtV H v1 x ∧ ∀ H', Same H H' → Q (.bl (fits y x)) H'
theorem use_takes {P : Program} {w : World} {K : PySem.W.Frag} {mg : Str → Option Value} {base : Heap} {a : Ad} (T : Txt K mg a) (D : Dfn K mg "takes" "takes" s_takes ["step", "letter"])  : Use P w K mg base 1 "takes" ["step", "letter"] (sp_takes K a) := by
  obtain ⟨f, fd, F, gf, bf⟩ := D
  refine ⟨f, fd, gf, F.kp, bf, F.ok (k := 0) sc_takes (fun vs H Q E h => h.len) (fun cdv A outer s H vs Q E hr h => ?_)⟩
  refine ⟨_, (pss_cons (ps_if (pt_cmpR op_eq (pe_ix (ix_tup : IxR _ (rIxT K)) (pv 0) pe_int (fun _ _ => rfl)) (pe_glob (v := .int 1) rfl T.c_PAINT ⟨_, rfl⟩) (nomark _)) (pss_one (ps_ret (pe_cmpR op_eq (pe_ix (ix_tup : IxR _ (rIxT K)) (pv 1) pe_int (fun _ _ => rfl)) (pe_ix (ix_tup : IxR _ (rIxT K)) (pv 0) pe_int (fun _ _ => rfl)) (nomark _)))) pss_nil)
       (pss_cons (ps_if (pt_cmpR op_eq (pe_ix (ix_tup : IxR _ (rIxT K)) (pv 0) pe_int (fun _ _ => rfl)) (pe_glob (v := .int 2) rfl T.c_DROP ⟨_, rfl⟩) (nomark _)) (pss_one (ps_ret (pe_cmpR (op_eqD hr.units : OpR _ (compareOp .Eq) (rEqD K)) (pv 1) (pe_tup (pa_cons (pe_ix (ix_tup : IxR _ (rIxT K)) (pv 0) pe_int (fun _ _ => rfl)) (pa_cons (pe_ix (ix_tup : IxR _ (rIxT K)) (pv 0) pe_int (fun _ _ => rfl)) pa_nil))) (nomark _)))) pss_nil)
       (pss_one (ps_ret pe_bl)))), ?_⟩
  obtain ⟨v0, v1, rfl, h⟩ := h
  obtain ⟨y, x, ⟨t, rfl, ht⟩, ⟨u, rfl, hu⟩, k⟩ := h
  refine ev_if (ev_test (ev_eq (ev_s0 (ev_var rfl) ht) ev_c)) (fun c => ?_) fun c => ?_
  · cases y with
    | paint f g =>
      refine ev_eq (ev_l1 (ev_var rfl) hu) (ev_s1 (ev_var rfl) ht) _ ?_
      show Q (.bl (decide ((x.look : Int) = (f : Int)))) H
      rw [natI]
      exact k H (Same.refl H)
    | _ => exact no_ft c
  · refine ev_if (ev_test (ev_eq (ev_s0 (ev_var rfl) ht) ev_c)) (fun c' => ?_) fun c' => ?_
    · cases y with
      | drop z =>
        refine ⟨_, rfl, ?_⟩
        refine ev_s1 (ev_var rfl) ht _ ?_
        refine ev_s2 (ev_var rfl) ht _ ⟨sz2, fun q hq => ?_⟩
        have s := Same.new (o := .tup [V.int (s1 (.drop z)), V.int (s2 (.drop z))]) hq
        refine rEqD_of (r := lI x) (q := lI z) (s _ _ hu) upd_same ?_
        rw [lI_eq]
        exact k _ s
      | _ => exact no_ft c'
    · cases y with
      | paint f g => exact no_tf c
      | drop z => exact no_tf c'
      | keep => exact k H (Same.refl H)
      | put z => exact k H (Same.refl H)
def sp_brought (K : PySem.W.Frag) (_ : Ad) : Sp := sp2 fun v0 v1 H Q => ∃ y x, StV H v0 y ∧ LtV H v1 x ∧ ∀ H' p, Same H H' → Tx H' p (bring y x) → Q (.ref p) H'
theorem use_brought {P : Program} {w : World} {K : PySem.W.Frag} {mg : Str → Option Value} {base : Heap} {a : Ad} (T : Txt K mg a) (D : Dfn K mg "brought" "brought" s_brought ["step", "letter"])  : Use P w K mg base 1 "brought" ["step", "letter"] (sp_brought K a) := by
  obtain ⟨f, fd, F, gf, bf⟩ := D
  refine ⟨f, fd, gf, F.kp, bf, F.ok (k := 0) sc_brought (fun vs H Q E h => h.len) (fun cdv A outer s H vs Q E hr h => ?_)⟩
  refine ⟨_, (pss_cons (ps_if (pt_cmpR op_eq (pe_ix (ix_tup : IxR _ (rIxT K)) (pv 0) pe_int (fun _ _ => rfl)) (pe_glob (v := .int 0) rfl T.c_KEEP ⟨_, rfl⟩) (nomark _)) (pss_one (ps_ret (pe_lst (pa_cons (pv 1) pa_nil)))) pss_nil)
       (pss_cons (ps_if (pt_cmpR op_eq (pe_ix (ix_tup : IxR _ (rIxT K)) (pv 0) pe_int (fun _ _ => rfl)) (pe_glob (v := .int 1) rfl T.c_PAINT ⟨_, rfl⟩) (nomark _)) (pss_one (ps_ret (pe_lst (pa_cons (pe_tup (pa_cons (pe_ix (ix_tup : IxR _ (rIxT K)) (pv 1) pe_int (fun _ _ => rfl)) (pa_cons (pe_ix (ix_tup : IxR _ (rIxT K)) (pv 0) pe_int (fun _ _ => rfl)) pa_nil))) pa_nil)))) pss_nil)
       (pss_one (ps_ret (pe_lst pa_nil))))), ?_⟩
  obtain ⟨v0, v1, rfl, h⟩ := h
  obtain ⟨y, x, ⟨t, rfl, ht⟩, ⟨u, rfl, hu⟩, k⟩ := h
  refine ev_if (ev_test (ev_eq (ev_s0 (ev_var rfl) ht) ev_c)) (fun c => ?_) fun c => ?_
  · cases y with
    | keep =>
      refine ev_var rfl _ ⟨sz1, fun p hp => k _ p (Same.new hp) ⟨_, upd_same, ?_⟩⟩
      exact (Rws.one (r := lI x) hu).updN hp
    | _ => exact no_ft c
  · refine ev_if (ev_test (ev_eq (ev_s0 (ev_var rfl) ht) ev_c)) (fun c' => ?_) fun c' => ?_
    · cases y with
      | paint f g =>
        refine ev_l0 (ev_var rfl) hu _ ?_
        refine ev_s2 (ev_var rfl) ht _ ⟨sz2, fun q hq => ⟨sz1, fun p hp => ?_⟩⟩
        refine k _ p ((Same.new hq).trans (Same.new hp)) ⟨_, upd_same, ?_⟩
        exact (Rws.one (r := lI { x with look := g }) upd_same).updN hp
      | _ => exact no_ft c'
    · refine ⟨sz0, fun p hp => k _ p (Same.new hp) ⟨_, upd_same, ?_⟩⟩
      cases y with
      | keep => exact no_tf c
      | paint f g => exact no_tf c'
      | drop z => exact .nil
      | put z => exact .nil
def sp_applied (K : PySem.W.Frag) (_ : Ad) : Sp := sp2 fun v0 v1 H Q => ∃ p e q t, v0 = .ref p ∧ Ed H p e ∧ v1 = .ref q ∧ Tx H q t ∧ e.length ≤ 16000 ∧ t.length ≤ 16000 ∧ ∀ H' v, Same H H' → OTxN H H' v (Vatrkj.applied e t) → Q v H'
theorem oldLength_drop {e : Edit} {i : Nat} {y : Stp} (h : e[i]? = some y) : Vatrkj.oldLength (e.drop i) = (if Vatrkj.takes y = true then 1 else 0) + Vatrkj.oldLength (e.drop (i + 1)) := by
  rw [drop_more h, oldLength_cons]
theorem bring_put (z : Letter) (e : Edit) (t : Text) : Vatrkj.applied (.put z :: e) t = (Vatrkj.applied e t).map ([z] ++ ·) := by
  cases t <;> rfl
theorem bring_of (y : Stp) (x : Letter) (e : Edit) (t : Text) (hy : Vatrkj.takes y = true) : Vatrkj.applied (y :: e) (x :: t) = if fits y x = true then (Vatrkj.applied e t).map (bring y x ++ ·) else none := by
  cases y with
  | put z => cases hy
  | keep => rfl
  | paint f g =>
    show (if x.look = f then _ else _) = if decide (x.look = f) = true then _ else _
    by_cases h : x.look = f
    · rw [if_pos h, if_pos (decide_eq_true h)]; rfl
    · rw [if_neg h, if_neg (by simp [h])]
  | drop z =>
    show (if x = z then _ else _) = if decide (x = z) = true then _ else _
    by_cases h : x = z
    · rw [if_pos h, if_pos (decide_eq_true h)]
      show _ = (Vatrkj.applied e t).map ([] ++ ·)
      cases Vatrkj.applied e t <;> rfl
    · rw [if_neg h, if_neg (by simp [h])]
theorem map_app {o : Option Text} {a b : Text} : (o.map (b ++ ·)).map (a ++ ·) = o.map ((a ++ b) ++ ·) := by
  cases o with
  | none => rfl
  | some x => simp
theorem use_applied {P : Program} {w : World} {K : PySem.W.Frag} {mg : Str → Option Value} {base : Heap} {a : Ad} (T : Txt K mg a) (D : Dfn K mg "applied" "applied" s_applied ["steps", "text"]) (U_old_length : Use P w K mg base 1 "old_length" ["steps"] (sp_old_length K a)) (U_takes : Use P w K mg base 1 "takes" ["step", "letter"] (sp_takes K a)) (U_brought : Use P w K mg base 1 "brought" ["step", "letter"] (sp_brought K a)) : Use P w K mg base 2 "applied" ["steps", "text"] (sp_applied K a) := by
  obtain ⟨f, fd, F, gf, bf⟩ := D
  obtain ⟨f_old_length, fd_old_length, g_old_length, k_old_length, b_old_length, G_old_length⟩ := U_old_length
  obtain ⟨f_takes, fd_takes, g_takes, k_takes, b_takes, G_takes⟩ := U_takes
  obtain ⟨f_brought, fd_brought, g_brought, k_brought, b_brought, G_brought⟩ := U_brought
  refine ⟨f, fd, gf, F.kp, bf, F.ok (k := 1) sc_applied (fun vs H Q E h => h.len) (fun cdv A outer s H vs Q E hr h => ?_)⟩
  refine ⟨_, (pss_cons (ps_if (pt_cmpR op_ne (pe_call G_old_length (hr.mono (by decide)) rfl g_old_length k_old_length b_old_length .nil pass0 (pa_cons (pv 0) pa_nil)) (pe_callB call_len_seq rfl T.n_len PySem.boot_len (pa_cons (pv 1) pa_nil)) (nomark _)) (pss_one (ps_ret pe_non)) pss_nil)
       (pss_cons (ps_set (i := 2) sc_applied.nd rfl (Or.inl rfl) (pe_lst pa_nil))
       (pss_cons (ps_set (i := 3) sc_applied.nd rfl (Or.inl rfl) pe_int)
       (pss_cons (ps_for PassesOwn.never rfl (pi_list (pv 0)) (pg_name (i := 4) sc_applied.nd rfl (Or.inl rfl)) (pss_one (ps_if (pt_cmpR op_eq (pe_ix (ix_tup : IxR _ (rIxT K)) (pv 4) pe_int (fun _ _ => rfl)) (pe_glob (v := .int 3) rfl T.c_PUT ⟨_, rfl⟩) (nomark _)) (pss_one (ps_expr (pe_bm PySem.F.plainAttrs_list PySem.F.slot_list_append PySem.F.type_list_append mt_append (pv 2) (pa_cons (pe_tup (pa_cons (pe_ix (ix_tup : IxR _ (rIxT K)) (pv 4) pe_int (fun _ _ => rfl)) (pa_cons (pe_ix (ix_tup : IxR _ (rIxT K)) (pv 4) pe_int (fun _ _ => rfl)) pa_nil))) pa_nil)))) (pss_one (ps_if (pt_val (pe_call G_takes (hr.mono (by decide)) rfl g_takes k_takes b_takes .nil pass0 (pa_cons (pv 4) (pa_cons (pe_ix (ix_list : IxR _ (rIxL K)) (pv 1) (pv 3) (fun _ _ => rfl)) pa_nil)))) (pss_cons (ps_expr (pe_bm PySem.F.plainAttrs_list PySem.F.slot_list_extend PySem.F.type_list_extend mt_extend (pv 2) (pa_cons (pe_call G_brought (hr.mono (by decide)) rfl g_brought k_brought b_brought .nil pass0 (pa_cons (pv 4) (pa_cons (pe_ix (ix_list : IxR _ (rIxL K)) (pv 1) (pv 3) (fun _ _ => rfl)) pa_nil))) pa_nil)))
       (pss_one (ps_aug (i := 3) sc_applied.nd rfl (Or.inl rfl) pe_int ip_add))) (pss_one (ps_ret pe_non)))))))
       (pss_one (ps_ret (pv 2))))))), ?_⟩
  obtain ⟨v0, v1, rfl, h⟩ := h
  obtain ⟨p, e, q, t, rfl, hE, rfl, hT, hle, hlt, k⟩ := h
  refine ⟨_, rfl, _, rfl, p, e, rfl, hE, by omega, fun H1 s1 => ?_⟩
  have hE1 := hE.mono s1
  obtain ⟨ts, hts, rt⟩ := hT.mono s1
  have lt := rt.length
  rw [List.length_map] at lt
  refine ev_len (K := K) (ev_var rfl) (SqL.of hts) _ ?_
  refine ⟨rfl, _, rfl, ?_⟩
  by_cases hl : Vatrkj.oldLength e = t.length
  case neg =>
    refine iteNN (fun z => hl ?_) (k _ _ s1 ?_)
    · have := V.int.inj z; rw [lt] at this; omega
    · cases q : Vatrkj.applied e t with
      | none => rfl
      | some u => exact absurd (applied_some e t u q).1 hl
  refine iteNP (congrArg V.int (by rw [lt, hl])) ?_
  refine ⟨sz0, fun M hM => ?_⟩
  have hMH : H M = none := s1.free hM
  obtain ⟨vs, hp, hr'⟩ := hE1
  have lv := hr'.length
  rw [List.length_map] at lv
  have sM := Same.new (o := .lst []) hM
  refine ⟨_, rfl, p, rfl, ⟨_, SqL.of (sM _ _ hp)⟩, for_list (K := K) (a := p) (xs := vs) (fun i σ H' => ∃ (v : Option V) (at' : Nat) (made : Text), σ = [some (.ref p), some (.ref q), some (.ref M), some (.int at'), v] ∧ Same H1 H' ∧ Tx H' M made ∧ made.length ≤ i ∧ at' ≤ t.length ∧ Vatrkj.oldLength (e.drop i) = (t.drop at').length ∧ Vatrkj.applied e t = (Vatrkj.applied (e.drop i) (t.drop at')).map (made ++ ·)) ?_ (fun i σ H' _ ⟨_, _, _, _, s, _⟩ => SqL.of (s _ _ hp)) ?_ ?_⟩
  · refine ⟨none, 0, [], rfl, sM, ⟨[], upd_same, .nil⟩, Nat.le_refl _, Nat.zero_le _, hl, ?_⟩
    show _ = (Vatrkj.applied e t).map ([] ++ ·)
    cases Vatrkj.applied e t <;> rfl
  · rintro i x σ H' hi ⟨v, at', made, rfl, s, ⟨ms, hms, rm⟩, hml, hat, hol, hq⟩
    obtain ⟨u, r, rfl, hri, hu⟩ := (hr'.mono s).get' hi
    obtain ⟨y, hy, rfl⟩ := map_get hri
    have hi' := ix_lt hy
    have lm := rm.length
    rw [List.length_map] at lm
    rw [oldLength_drop hy] at hol
    rw [drop_more hy] at hq
    have sm : Same H1 H' := s
    refine ev_if (ev_test (ev_eq (ev_s0 (ev_var rfl) hu) ev_c)) (fun c => ?_) fun c => ?_
    · cases y with
      | put z =>
        refine ⟨_, rfl, .inl ⟨rfl, _, SqL.of hms⟩, ev_s1 (ev_var rfl) hu _ ?_⟩
        refine ev_s2 (ev_var rfl) hu _ ⟨sz2, fun w hw => ?_⟩
        have sw := Same.new (o := .tup ((lI z).map V.int)) hw
        refine ⟨M, ms, .ref w, rfl, rfl, sw _ _ hms, lt_size (by omega), ?_⟩
        refine ⟨some (.ref u), at', made ++ [z], rfl, (s.trans sw).upd hM, ⟨_, upd_same, ?_⟩, ?_, hat, ?_, ?_⟩
        · rw [List.map_append]
          exact ((rm.updN hw).snoc (r := lI z) upd_same).updL (sw _ _ hms)
        · rw [List.length_append]; show made.length + 1 ≤ _; omega
        · have e3 : Vatrkj.takes (.put z) = false := rfl
          rw [e3] at hol
          simp at hol
          rw [hol, List.length_drop]
        · rw [hq, bring_put, map_app]
      | _ => exact no_ft c
    · have hy' : Vatrkj.takes y = true := by cases y with
        | put z => exact absurd c (by simp [s0])
        | _ => rfl
      rw [hy', if_pos rfl, List.length_drop] at hol
      have hlt' : at' < t.length := by omega
      obtain ⟨x, hx⟩ := get_of hlt'
      have hxr : (t.map lI)[at']? = some (lI x) := by rw [List.getElem?_map, hx]; rfl
      obtain ⟨l, hl1, hl2⟩ := rt.get hxr
      rw [drop_more hx, bring_of y x _ _ hy'] at hq
      refine ⟨_, rfl, ev_at (K := K) (ev_var rfl) (ev_var rfl) (SqL.of (s _ _ hts)) hl1 _ ?_⟩
      refine ⟨_, _, rfl, y, x, ⟨u, rfl, hu⟩, ⟨l, rfl, s _ _ hl2⟩, fun H2 s2 => ⟨_, rfl, ?_⟩⟩
      by_cases cf : fits y x = true
      · rw [if_pos cf, map_app] at hq
        rw [if_pos cf]
        have hms2 := s2 _ _ hms
        refine ⟨_, rfl, .inl ⟨rfl, _, SqL.of hms2⟩, _, rfl, ev_at (K := K) (ev_var rfl) (ev_var rfl) (SqL.of (s2 _ _ (s _ _ hts))) hl1 _ ?_⟩
        refine ⟨_, _, rfl, y, x, ⟨u, rfl, s2 _ _ hu⟩, ⟨l, rfl, s2 _ _ (s _ _ hl2)⟩, fun H3 b s3 ⟨bs, hb, rb⟩ => ?_⟩
        have hms3 := s3 _ _ hms2
        have lb := rb.length
        have lb' : (bring y x).length ≤ 1 := by cases y <;> simp [bring]
        rw [List.length_map] at lb
        refine ⟨M, b, ms, bs, rfl, rfl, hms3, hb, le_size (by omega), ?_⟩
        refine ⟨_, rfl, _, _, rfl, rfl, ?_⟩
        refine ⟨some (.ref u), at' + 1, made ++ bring y x, rfl, ((s.trans s2).trans s3).upd hM, ⟨_, upd_same, ?_⟩, ?_, hlt', ?_, hq⟩
        · rw [List.map_append]
          exact (((rm.mono s2).mono s3).append rb).updL hms3
        · rw [List.length_append]; omega
        · rw [List.length_drop]; omega
      · rw [if_neg cf] at hq
        rw [if_neg cf]
        refine k _ _ (s1.trans (s.trans s2)) ?_
        rw [hq]; rfl
  · rintro σ H' ⟨v, at', made, rfl, s, hm, hml, hat, hol, hq⟩
    rw [lv, List.drop_length] at hol hq
    have : at' = t.length := by
      rw [List.length_drop] at hol
      have : Vatrkj.oldLength ([] : Edit) = 0 := rfl
      omega
    rw [this, List.drop_length] at hq
    refine ⟨_, rfl, k _ _ (s1.trans s) ?_⟩
    rw [hq]
    exact ⟨M, rfl, hMH, by simpa using hm⟩
end Ev

namespace Ev
open PySem PySem.Spec PyProof.Rows L2
open Vatrkj (Letter Edit Text)
/-! ### turned -/
def sp_turned_step (K : PySem.W.Frag) (_ : Ad) : Sp := sp1 fun v0 H Q => ∃ y, StV H v0 y ∧ ∀ H' v, Same H H' → StV H' v (Vatrkj.turnStep y) → Q v H'
theorem use_turned_step {P : Program} {w : World} {K : PySem.W.Frag} {mg : Str → Option Value} {base : Heap} {a : Ad} (T : Txt K mg a) (D : Dfn K mg "turned_step" "turned_step" s_turned_step ["step"])  : Use P w K mg base 1 "turned_step" ["step"] (sp_turned_step K a) := by
  obtain ⟨f, fd, F, gf, bf⟩ := D
  refine ⟨f, fd, gf, F.kp, bf, F.ok (k := 0) sc_turned_step (fun vs H Q E h => h.len) (fun cdv A outer s H vs Q E hr h => ?_)⟩
  refine ⟨_, (pss_cons (ps_if (pt_cmpR op_eq (pe_ix (ix_tup : IxR _ (rIxT K)) (pv 0) pe_int (fun _ _ => rfl)) (pe_glob (v := .int 1) rfl T.c_PAINT ⟨_, rfl⟩) (nomark _)) (pss_one (ps_ret (pe_tup (pa_cons (pe_glob (v := .int 1) rfl T.c_PAINT ⟨_, rfl⟩) (pa_cons (pe_ix (ix_tup : IxR _ (rIxT K)) (pv 0) pe_int (fun _ _ => rfl)) (pa_cons (pe_ix (ix_tup : IxR _ (rIxT K)) (pv 0) pe_int (fun _ _ => rfl)) pa_nil)))))) pss_nil)
       (pss_cons (ps_if (pt_cmpR op_eq (pe_ix (ix_tup : IxR _ (rIxT K)) (pv 0) pe_int (fun _ _ => rfl)) (pe_glob (v := .int 2) rfl T.c_DROP ⟨_, rfl⟩) (nomark _)) (pss_one (ps_ret (pe_tup (pa_cons (pe_glob (v := .int 3) rfl T.c_PUT ⟨_, rfl⟩) (pa_cons (pe_ix (ix_tup : IxR _ (rIxT K)) (pv 0) pe_int (fun _ _ => rfl)) (pa_cons (pe_ix (ix_tup : IxR _ (rIxT K)) (pv 0) pe_int (fun _ _ => rfl)) pa_nil)))))) pss_nil)
       (pss_cons (ps_if (pt_cmpR op_eq (pe_ix (ix_tup : IxR _ (rIxT K)) (pv 0) pe_int (fun _ _ => rfl)) (pe_glob (v := .int 3) rfl T.c_PUT ⟨_, rfl⟩) (nomark _)) (pss_one (ps_ret (pe_tup (pa_cons (pe_glob (v := .int 2) rfl T.c_DROP ⟨_, rfl⟩) (pa_cons (pe_ix (ix_tup : IxR _ (rIxT K)) (pv 0) pe_int (fun _ _ => rfl)) (pa_cons (pe_ix (ix_tup : IxR _ (rIxT K)) (pv 0) pe_int (fun _ _ => rfl)) pa_nil)))))) pss_nil)
       (pss_one (ps_ret (pv 0)))))), ?_⟩
  obtain ⟨v0, rfl, h⟩ := h
  obtain ⟨y, ⟨t, rfl, ht⟩, k⟩ := h
  refine ev_if (ev_test (ev_eq (ev_s0 (ev_var rfl) ht) ev_c)) (fun c => ?_) fun c => ?_
  · cases y with
    | paint f g =>
      refine ev_s2 (ev_var rfl) ht _ ?_
      refine ev_s1 (ev_var rfl) ht _ ⟨sz3, fun q hq => k _ _ (Same.new hq) ⟨q, rfl, upd_same⟩⟩
    | _ => exact no_ft c
  · refine ev_if (ev_test (ev_eq (ev_s0 (ev_var rfl) ht) ev_c)) (fun c' => ?_) fun c' => ?_
    · cases y with
      | drop z =>
        refine ev_s1 (ev_var rfl) ht _ ?_
        refine ev_s2 (ev_var rfl) ht _ ⟨sz3, fun q hq => k _ _ (Same.new hq) ⟨q, rfl, upd_same⟩⟩
      | _ => exact no_ft c'
    · refine ev_if (ev_test (ev_eq (ev_s0 (ev_var rfl) ht) ev_c)) (fun c'' => ?_) fun c'' => ?_
      · cases y with
        | put z =>
          refine ev_s1 (ev_var rfl) ht _ ?_
          refine ev_s2 (ev_var rfl) ht _ ⟨sz3, fun q hq => k _ _ (Same.new hq) ⟨q, rfl, upd_same⟩⟩
        | _ => exact no_ft c''
      · cases y with
        | paint f g => exact no_tf c
        | drop z => exact no_tf c'
        | put z => exact no_tf c''
        | keep => exact ⟨_, rfl, k _ _ (Same.refl H) ⟨t, rfl, ht⟩⟩
def sp_turned (K : PySem.W.Frag) (_ : Ad) : Sp := sp1 fun v H Q => ∃ p e, v = .ref p ∧ Ed H p e ∧ e.length ≤ 16000000 ∧ ∀ H' p', Same H H' → H p' = none → Ed H' p' (Vatrkj.turned e) → Q (.ref p') H'
theorem use_turned {P : Program} {w : World} {K : PySem.W.Frag} {mg : Str → Option Value} {base : Heap} {a : Ad} (T : Txt K mg a) (D : Dfn K mg "turned" "turned" s_turned ["steps"]) (U_in_form : Use P w K mg base 1 "in_form" ["steps"] (sp_in_form K a)) (U_turned_step : Use P w K mg base 1 "turned_step" ["step"] (sp_turned_step K a)) : Use P w K mg base 2 "turned" ["steps"] (sp_turned K a) := by
  obtain ⟨f, fd, F, gf, bf⟩ := D
  obtain ⟨f_in_form, fd_in_form, g_in_form, k_in_form, b_in_form, G_in_form⟩ := U_in_form
  obtain ⟨f_turned_step, fd_turned_step, g_turned_step, k_turned_step, b_turned_step, G_turned_step⟩ := U_turned_step
  refine ⟨f, fd, gf, F.kp, bf, F.ok (k := 1) sc_turned (fun vs H Q E h => h.len) (fun cdv A outer s H vs Q E hr h => ?_)⟩
  refine ⟨_, (pss_one (ps_ret (pe_call G_in_form (hr.mono (by decide)) rfl g_in_form k_in_form b_in_form .nil pass0 (pa_cons (pe_lc (own := [("step", 1)]) (g := gName 1) (tt := tYes) rfl sc_turned.nd (pi_list (pv 0)) (blkOk_by (own := [("step", 1)]) (N := ["steps", "step"]) (sc := defScope s_turned) (by decide +kernel)) (fun _ _ _ _ _ => pg_name (i := 1) sc_turned.nd rfl (Or.inl rfl)) (fun _ _ _ _ _ => pts_nil) (fun _ _ _ _ _ => (pe_call G_turned_step (hr.mono (by decide)) rfl g_turned_step k_turned_step b_turned_step .nil pass0 (pa_cons (pv 1) pa_nil)))) pa_nil)))), ?_⟩
  obtain ⟨v0, rfl, h⟩ := h
  obtain ⟨p, e, rfl, ⟨vs, hp, hr'⟩, hlen, k⟩ := h
  have lv := hr'.length
  rw [List.length_map] at lv
  refine ⟨_, rfl, p, rfl, ⟨_, SqL.of hp⟩, fun D hD => lc_list (K := K) (a := p) (xs := vs) (fun i H' => Same H H' ∧ Ed H' D ((e.take i).map Vatrkj.turnStep)) ⟨Same.new hD, [], upd_same, .nil⟩ (fun i H' _ ⟨s, _⟩ => SqL.of (s _ _ hp)) ?_ ?_⟩
  · rintro i x H' hi ⟨s, acc, hacc, ra⟩
    obtain ⟨t, r, rfl, hri, ht⟩ := (hr'.mono s).get' hi
    obtain ⟨y, hy, rfl⟩ := map_get hri
    have hi' := ix_lt hy
    have la := ra.length
    rw [List.length_map, List.length_map, List.length_take] at la
    refine ⟨rfl, ?_⟩
    refine yes_of ?_
    refine ⟨_, rfl, _, rfl, y, ⟨t, rfl, ht⟩, fun H2 v s2 ⟨u, e2, hu⟩ => ?_⟩
    subst e2
    have hacc2 := s2 _ _ hacc
    refine ⟨acc, hacc2, lt_size (by omega), (s.trans s2).upd hD, _, upd_same, ?_⟩
    rw [take_more hy, List.map_append, List.map_append]
    exact ((ra.mono s2).snoc (r := sI (Vatrkj.turnStep y)) hu).updL hacc2
  · rintro H' ⟨s, hE⟩
    rw [lv, List.take_length] at hE
    exact ⟨_, rfl, D, _, rfl, hE, by rw [List.length_map]; exact hlen, fun H2 p' s2 n2 hE2 => k _ _ (s.trans s2) (s.free n2) hE2⟩
/-! ### composed -/
def sp_made_of_painted (K : PySem.W.Frag) (_ : Ad) : Sp := sp3 fun v0 v1 v2 H Q => ∃ (f g : Nat) (y : Stp), v0 = .int f ∧ v1 = .int g ∧ StV H v2 y ∧ y ≠ .keep ∧ ∀ H' v, Same H H' → OEd H' v (Vatrkj.meet (.paint f g) y) → Q v H'
theorem natI' {a b : Nat} (h : ¬ a = b) : ¬ (a : Int) = b := fun e => h (by omega)
theorem use_made_of_painted {P : Program} {w : World} {K : PySem.W.Frag} {mg : Str → Option Value} {base : Heap} {a : Ad} (T : Txt K mg a) (D : Dfn K mg "made_of_painted" "made_of_painted" s_made_of_painted ["f", "g", "takes"])  : Use P w K mg base 1 "made_of_painted" ["f", "g", "takes"] (sp_made_of_painted K a) := by
  obtain ⟨f, fd, F, gf, bf⟩ := D
  refine ⟨f, fd, gf, F.kp, bf, F.ok (k := 0) sc_made_of_painted (fun vs H Q E h => h.len) (fun cdv A outer s H vs Q E hr h => ?_)⟩
  refine ⟨_, (pss_cons (ps_if (PW.pt (pw_and (pt_cmpR op_eq (pe_ix (ix_tup : IxR _ (rIxT K)) (pv 2) pe_int (fun _ _ => rfl)) (pe_glob (v := .int 1) rfl T.c_PAINT ⟨_, rfl⟩) (nomark _)) (pw_and1 (pt_cmpR op_eq (pe_ix (ix_tup : IxR _ (rIxT K)) (pv 2) pe_int (fun _ _ => rfl)) (pv 1) (nomark _))))) (pss_one (ps_ret (pe_ifExp (pt_cmpR op_eq (pv 0) (pe_ix (ix_tup : IxR _ (rIxT K)) (pv 2) pe_int (fun _ _ => rfl)) (nomark _)) (pe_lst (pa_cons (pe_tup (pa_cons (pe_glob (v := .int 0) rfl T.c_KEEP ⟨_, rfl⟩) (pa_cons pe_int (pa_cons pe_int pa_nil)))) pa_nil)) (pe_lst (pa_cons (pe_tup (pa_cons (pe_glob (v := .int 1) rfl T.c_PAINT ⟨_, rfl⟩) (pa_cons (pv 0) (pa_cons (pe_ix (ix_tup : IxR _ (rIxT K)) (pv 2) pe_int (fun _ _ => rfl)) pa_nil)))) pa_nil))))) pss_nil)
       (pss_cons (ps_if (PW.pt (pw_and (pt_cmpR op_eq (pe_ix (ix_tup : IxR _ (rIxT K)) (pv 2) pe_int (fun _ _ => rfl)) (pe_glob (v := .int 2) rfl T.c_DROP ⟨_, rfl⟩) (nomark _)) (pw_and1 (pt_cmpR op_eq (pe_ix (ix_tup : IxR _ (rIxT K)) (pv 2) pe_int (fun _ _ => rfl)) (pv 1) (nomark _))))) (pss_one (ps_ret (pe_lst (pa_cons (pe_tup (pa_cons (pe_glob (v := .int 2) rfl T.c_DROP ⟨_, rfl⟩) (pa_cons (pe_ix (ix_tup : IxR _ (rIxT K)) (pv 2) pe_int (fun _ _ => rfl)) (pa_cons (pv 0) pa_nil)))) pa_nil)))) pss_nil)
       (pss_one (ps_ret pe_non)))), ?_⟩
  obtain ⟨v0, v1, v2, rfl, h⟩ := h
  obtain ⟨f, g, y, rfl, rfl, ⟨t, rfl, ht⟩, nk, k⟩ := h
  refine ev_if (ev_and (ev_test (ev_eq (ev_s0 (ev_var rfl) ht) ev_c)) fun _ => ev_test (ev_eq (ev_s1 (ev_var rfl) ht) (ev_var rfl))) (fun c => ?_) fun c => ?_
  · cases y with
    | paint g' h =>
      have c' : (g' : Int) = g := of_decide_eq_true c
      have c2 : g = g' := by omega
      have e : Vatrkj.meet (.paint f g) (.paint g' h) = some [if f = h then .keep else .paint f h] := if_pos c2
      rw [e] at k
      refine ev_if (ev_test (ev_eq (ev_var rfl) (ev_s2 (ev_var rfl) ht))) (fun d => ?_) fun d => ?_
      · have d' : (f : Int) = h := of_decide_eq_true d
        have d2 : f = h := by omega
        rw [if_pos d2] at k
        refine ⟨sz3, fun q hq => ⟨sz1, fun p hp => k _ _ ((Same.new hq).trans (Same.new hp)) ⟨p, rfl, _, upd_same, ?_⟩⟩⟩
        exact (Rws.one (r := sI .keep) upd_same).updN hp
      · have d' : ¬ (f : Int) = h := of_decide_eq_false d
        have d2 : ¬ f = h := by omega
        rw [if_neg d2] at k
        refine ⟨_, rfl, ev_s2 (ev_var rfl) ht _ ⟨sz3, fun q hq => ⟨sz1, fun p hp => k _ _ ((Same.new hq).trans (Same.new hp)) ⟨p, rfl, _, upd_same, ?_⟩⟩⟩⟩
        exact (Rws.one (r := sI (.paint f h)) upd_same).updN hp
    | _ => exact no_ft c
  · refine ev_if (ev_and (ev_test (ev_eq (ev_s0 (ev_var rfl) ht) ev_c)) fun _ => ev_test (ev_eq (ev_s2 (ev_var rfl) ht) (ev_var rfl))) (fun c' => ?_) fun c' => ?_
    · cases y with
      | drop x =>
        have c2 : (x.look : Int) = g := of_decide_eq_true c'
        have c3 : x.look = g := by omega
        have e : Vatrkj.meet (.paint f g) (.drop x) = some [.drop { x with look := f }] := if_pos c3
        rw [e] at k
        refine ev_s1 (ev_var rfl) ht _ ?_
        refine ⟨_, rfl, sz3, fun q hq => ⟨sz1, fun p hp => k _ _ ((Same.new hq).trans (Same.new hp)) ⟨p, rfl, _, upd_same, ?_⟩⟩⟩
        exact (Rws.one (r := sI (.drop { x with look := f })) upd_same).updN hp
      | _ => exact no_ft c'
    · refine k _ _ (Same.refl H) ?_
      cases y with
      | keep => exact absurd rfl nk
      | put x => rfl
      | paint g' h =>
        have c2 : ¬ (g' : Int) = g := of_decide_eq_false c
        have e : Vatrkj.meet (.paint f g) (.paint g' h) = none := if_neg (by omega)
        rw [e]; rfl
      | drop x =>
        have c2 : ¬ (x.look : Int) = g := of_decide_eq_false c'
        have e : Vatrkj.meet (.paint f g) (.drop x) = none := if_neg (by omega)
        rw [e]; rfl
def sp_made_of_put (K : PySem.W.Frag) (_ : Ad) : Sp := sp3 fun v0 v1 v2 H Q => ∃ (x : Letter) (y : Stp), v0 = .int x.sign ∧ v1 = .int x.look ∧ StV H v2 y ∧ y ≠ .keep ∧ ∀ H' v, Same H H' → OEd H' v (Vatrkj.meet (.put x) y) → Q v H'
theorem use_made_of_put {P : Program} {w : World} {K : PySem.W.Frag} {mg : Str → Option Value} {base : Heap} {a : Ad} (T : Txt K mg a) (D : Dfn K mg "made_of_put" "made_of_put" s_made_of_put ["sign", "g", "takes"])  : Use P w K mg base 1 "made_of_put" ["sign", "g", "takes"] (sp_made_of_put K a) := by
  obtain ⟨f, fd, F, gf, bf⟩ := D
  refine ⟨f, fd, gf, F.kp, bf, F.ok (k := 0) sc_made_of_put (fun vs H Q E h => h.len) (fun cdv A outer s H vs Q E hr h => ?_)⟩
  refine ⟨_, (pss_cons (ps_if (PW.pt (pw_and (pt_cmpR op_eq (pe_ix (ix_tup : IxR _ (rIxT K)) (pv 2) pe_int (fun _ _ => rfl)) (pe_glob (v := .int 1) rfl T.c_PAINT ⟨_, rfl⟩) (nomark _)) (pw_and1 (pt_cmpR op_eq (pe_ix (ix_tup : IxR _ (rIxT K)) (pv 2) pe_int (fun _ _ => rfl)) (pv 1) (nomark _))))) (pss_one (ps_ret (pe_lst (pa_cons (pe_tup (pa_cons (pe_glob (v := .int 3) rfl T.c_PUT ⟨_, rfl⟩) (pa_cons (pv 0) (pa_cons (pe_ix (ix_tup : IxR _ (rIxT K)) (pv 2) pe_int (fun _ _ => rfl)) pa_nil)))) pa_nil)))) pss_nil)
       (pss_cons (ps_if (pt_cmpR (op_eqD hr.units : OpR _ (compareOp .Eq) (rEqD K)) (pv 2) (pe_tup (pa_cons (pe_glob (v := .int 2) rfl T.c_DROP ⟨_, rfl⟩) (pa_cons (pv 0) (pa_cons (pv 1) pa_nil)))) (nomark _)) (pss_one (ps_ret (pe_lst pa_nil))) pss_nil)
       (pss_one (ps_ret pe_non)))), ?_⟩
  obtain ⟨v0, v1, v2, rfl, h⟩ := h
  obtain ⟨x, y, rfl, rfl, ⟨t, rfl, ht⟩, nk, k⟩ := h
  refine ev_if (ev_and (ev_test (ev_eq (ev_s0 (ev_var rfl) ht) ev_c)) fun _ => ev_test (ev_eq (ev_s1 (ev_var rfl) ht) (ev_var rfl))) (fun c => ?_) fun c => ?_
  · cases y with
    | paint g' h =>
      have c' : (g' : Int) = x.look := of_decide_eq_true c
      have e : Vatrkj.meet (.put x) (.paint g' h) = some [.put { x with look := h }] := if_pos (by omega)
      rw [e] at k
      refine ⟨_, rfl, ev_s2 (ev_var rfl) ht _ ⟨sz3, fun q hq => ⟨sz1, fun p hp => k _ _ ((Same.new hq).trans (Same.new hp)) ⟨p, rfl, _, upd_same, ?_⟩⟩⟩⟩
      exact (Rws.one (r := sI (.put { x with look := h })) upd_same).updN hp
    | _ => exact no_ft c
  · refine ⟨_, rfl, _, rfl, _, rfl, sz3, fun q hq => ?_⟩
    refine rEqD_of (r := sI y) (q := sI (.drop x)) (Same.new hq _ _ ht) upd_same ?_
    rw [sI_eq]
    refine ⟨_, rfl, ?_⟩
    refine iteB (fun c' => ?_) fun c' => ?_
    · obtain rfl : y = .drop x := of_decide_eq_true c'
      have e : Vatrkj.meet (.put x) (.drop x) = some [] := if_pos rfl
      rw [e] at k
      exact ⟨sz0, fun p hp => k _ _ ((Same.new hq).trans (Same.new hp)) ⟨p, rfl, _, upd_same, .nil⟩⟩
    · have n := of_decide_eq_false c'
      refine k _ _ (Same.new hq) ?_
      cases y with
      | keep => exact absurd rfl nk
      | put x => rfl
      | paint g' h =>
        have c2 : ¬ (g' : Int) = x.look := of_decide_eq_false c
        have e : Vatrkj.meet (.put x) (.paint g' h) = none := if_neg (by omega)
        rw [e]; rfl
      | drop z =>
        have e : Vatrkj.meet (.put x) (.drop z) = none := if_neg (fun w => n (by rw [w]))
        rw [e]; rfl
def sp_made_of (K : PySem.W.Frag) (_ : Ad) : Sp := sp2 fun v0 v1 H Q => ∃ x y, StV H v0 x ∧ StV H v1 y ∧ (∀ z, x ≠ .drop z) ∧ ∀ H' v, Same H H' → OEd H' v (Vatrkj.meet x y) → Q v H'
theorem use_made_of {P : Program} {w : World} {K : PySem.W.Frag} {mg : Str → Option Value} {base : Heap} {a : Ad} (T : Txt K mg a) (D : Dfn K mg "made_of" "made_of" s_made_of ["brings", "takes"]) (U_made_of_put : Use P w K mg base 1 "made_of_put" ["sign", "g", "takes"] (sp_made_of_put K a)) (U_made_of_painted : Use P w K mg base 1 "made_of_painted" ["f", "g", "takes"] (sp_made_of_painted K a)) : Use P w K mg base 2 "made_of" ["brings", "takes"] (sp_made_of K a) := by
  obtain ⟨f, fd, F, gf, bf⟩ := D
  obtain ⟨f_made_of_put, fd_made_of_put, g_made_of_put, k_made_of_put, b_made_of_put, G_made_of_put⟩ := U_made_of_put
  obtain ⟨f_made_of_painted, fd_made_of_painted, g_made_of_painted, k_made_of_painted, b_made_of_painted, G_made_of_painted⟩ := U_made_of_painted
  refine ⟨f, fd, gf, F.kp, bf, F.ok (k := 1) sc_made_of (fun vs H Q E h => h.len) (fun cdv A outer s H vs Q E hr h => ?_)⟩
  refine ⟨_, (pss_cons (ps_if (pt_cmpR op_eq (pe_ix (ix_tup : IxR _ (rIxT K)) (pv 0) pe_int (fun _ _ => rfl)) (pe_glob (v := .int 0) rfl T.c_KEEP ⟨_, rfl⟩) (nomark _)) (pss_one (ps_ret (pe_lst (pa_cons (pv 1) pa_nil)))) pss_nil)
       (pss_cons (ps_if (pt_cmpR op_eq (pe_ix (ix_tup : IxR _ (rIxT K)) (pv 1) pe_int (fun _ _ => rfl)) (pe_glob (v := .int 0) rfl T.c_KEEP ⟨_, rfl⟩) (nomark _)) (pss_one (ps_ret (pe_lst (pa_cons (pv 0) pa_nil)))) pss_nil)
       (pss_cons (ps_if (pt_cmpR op_eq (pe_ix (ix_tup : IxR _ (rIxT K)) (pv 0) pe_int (fun _ _ => rfl)) (pe_glob (v := .int 1) rfl T.c_PAINT ⟨_, rfl⟩) (nomark _)) (pss_one (ps_ret (pe_call G_made_of_painted (hr.mono (by decide)) rfl g_made_of_painted k_made_of_painted b_made_of_painted .nil pass0 (pa_cons (pe_ix (ix_tup : IxR _ (rIxT K)) (pv 0) pe_int (fun _ _ => rfl)) (pa_cons (pe_ix (ix_tup : IxR _ (rIxT K)) (pv 0) pe_int (fun _ _ => rfl)) (pa_cons (pv 1) pa_nil)))))) pss_nil)
       (pss_one (ps_ret (pe_call G_made_of_put (hr.mono (by decide)) rfl g_made_of_put k_made_of_put b_made_of_put .nil pass0 (pa_cons (pe_ix (ix_tup : IxR _ (rIxT K)) (pv 0) pe_int (fun _ _ => rfl)) (pa_cons (pe_ix (ix_tup : IxR _ (rIxT K)) (pv 0) pe_int (fun _ _ => rfl)) (pa_cons (pv 1) pa_nil))))))))), ?_⟩
  obtain ⟨v0, v1, rfl, h⟩ := h
  obtain ⟨x, y, ⟨t, rfl, ht⟩, ⟨u, rfl, hu⟩, nd, k⟩ := h
  refine ev_if (ev_test (ev_eq (ev_s0 (ev_var rfl) ht) ev_c)) (fun c => ?_) fun c => ?_
  · cases x with
    | keep => exact ⟨_, rfl, sz1, fun p hp => k _ _ (Same.new hp) ⟨p, rfl, _, upd_same, (Rws.one (r := sI y) hu).updN hp⟩⟩
    | _ => exact no_ft c
  · have nk : x ≠ .keep := fun z => by rw [z] at c; exact no_tf c
    refine ev_if (ev_test (ev_eq (ev_s0 (ev_var rfl) hu) ev_c)) (fun c' => ?_) fun c' => ?_
    · cases y with
      | keep =>
        refine ⟨_, rfl, sz1, fun p hp => k _ _ (Same.new hp) ?_⟩
        cases x with
        | keep => exact absurd rfl nk
        | drop z => exact absurd rfl (nd z)
        | paint f g => exact ⟨p, rfl, _, upd_same, (Rws.one (r := sI (.paint f g)) ht).updN hp⟩
        | put z => exact ⟨p, rfl, _, upd_same, (Rws.one (r := sI (.put z)) ht).updN hp⟩
      | _ => exact no_ft c'
    · have nk' : y ≠ .keep := fun z => by rw [z] at c'; exact no_tf c'
      refine ev_if (ev_test (ev_eq (ev_s0 (ev_var rfl) ht) ev_c)) (fun c'' => ?_) fun c'' => ?_
      · cases x with
        | paint f g =>
          refine ev_s1 (ev_var rfl) ht _ ?_
          refine ev_s2 (ev_var rfl) ht _ ?_
          exact ⟨_, rfl, _, _, _, rfl, f, g, y, rfl, rfl, ⟨u, rfl, hu⟩, nk', k⟩
        | _ => exact no_ft c''
      · cases x with
        | keep => exact absurd rfl nk
        | drop z => exact absurd rfl (nd z)
        | paint f g => exact no_tf c''
        | put z =>
          refine ev_s1 (ev_var rfl) ht _ ?_
          refine ev_s2 (ev_var rfl) ht _ ?_
          exact ⟨_, rfl, _, _, _, rfl, z, y, rfl, rfl, ⟨u, rfl, hu⟩, nk', k⟩
def sp_composed (K : PySem.W.Frag) (_ : Ad) : Sp := sp2 fun v0 v1 H Q => ∃ p R q S, v0 = .ref p ∧ Ed H p R ∧ v1 = .ref q ∧ Ed H q S ∧ R.length ≤ 16000 ∧ S.length ≤ 16000 ∧ ∀ H' v, Same H H' → OEdN H H' v (Vatrkj.compose R S) → Q v H'
theorem map_appE {o : Option Edit} {a b : Edit} : (o.map (b ++ ·)).map (a ++ ·) = o.map ((a ++ b) ++ ·) := by
  cases o with
  | none => rfl
  | some x => simp
theorem map_con {o : Option Edit} {a : Edit} {x : Stp} : (o.map fun e => x :: e).map (a ++ ·) = o.map ((a ++ [x]) ++ ·) := by
  cases o with
  | none => rfl
  | some x => simp
theorem s0_drop {y : Stp} (h : s0 y = 2) : ∃ x, y = .drop x := by
  cases y with
  | drop x => exact ⟨x, rfl⟩
  | keep => exact absurd (show (0 : Int) = 2 from h) (by decide)
  | paint f g => exact absurd (show (1 : Int) = 2 from h) (by decide)
  | put x => exact absurd (show (3 : Int) = 2 from h) (by decide)
theorem s0_put {y : Stp} (h : s0 y = 3) : ∃ x, y = .put x := by
  cases y with
  | put x => exact ⟨x, rfl⟩
  | keep => exact absurd (show (0 : Int) = 3 from h) (by decide)
  | paint f g => exact absurd (show (1 : Int) = 3 from h) (by decide)
  | drop x => exact absurd (show (2 : Int) = 3 from h) (by decide)
theorem n_drop {y : Stp} (h : ¬ s0 y = 2) (x : Letter) : y ≠ .drop x := fun e => h (by rw [e]; rfl)
theorem n_put {y : Stp} (h : ¬ s0 y = 3) (x : Letter) : y ≠ .put x := fun e => h (by rw [e]; rfl)
theorem meet_len {x y : Stp} {m : Edit} (h : Vatrkj.meet x y = some m) : m.length ≤ 1 := by
  cases x <;> cases y <;> simp only [Vatrkj.meet] at h <;> (try split at h) <;> first | (obtain rfl := Option.some.inj h; first | exact Nat.le_refl _ | exact Nat.zero_le _) | cases h

theorem use_composed {P : Program} {w : World} {K : PySem.W.Frag} {mg : Str → Option Value} {base : Heap} {a : Ad} (T : Txt K mg a) (D : Dfn K mg "composed" "composed" s_composed ["r", "s"]) (U_in_form : Use P w K mg base 1 "in_form" ["steps"] (sp_in_form K a)) (U_made_of : Use P w K mg base 2 "made_of" ["brings", "takes"] (sp_made_of K a)) : Use P w K mg base 3 "composed" ["r", "s"] (sp_composed K a) := by
  obtain ⟨f, fd, F, gf, bf⟩ := D
  obtain ⟨f_in_form, fd_in_form, g_in_form, k_in_form, b_in_form, G_in_form⟩ := U_in_form
  obtain ⟨f_made_of, fd_made_of, g_made_of, k_made_of, b_made_of, G_made_of⟩ := U_made_of
  refine ⟨f, fd, gf, F.kp, bf, F.ok (k := 2) sc_composed (fun vs H Q E h => h.len) (fun cdv A outer s H vs Q E hr h => ?_)⟩
  refine ⟨_, (pss_cons (ps_set (i := 2) sc_composed.nd rfl (Or.inl rfl) (pe_lst pa_nil))
       (pss_cons (ps_set (i := 3) sc_composed.nd rfl (Or.inl rfl) pe_int)
       (pss_cons (ps_set (i := 4) sc_composed.nd rfl (Or.inl rfl) pe_int)
       (pss_cons (ps_while PassesOwn.never (PW.pt (pw_or (pt_cmpR op_lt (pv 3) (pe_callB call_len_seq rfl T.n_len PySem.boot_len (pa_cons (pv 0) pa_nil)) (nomark _)) (pw_or1 (pt_cmpR op_lt (pv 4) (pe_callB call_len_seq rfl T.n_len PySem.boot_len (pa_cons (pv 1) pa_nil)) (nomark _))))) (pss_one (ps_if (PW.pt (pw_and (pt_cmpR op_lt (pv 3) (pe_callB call_len_seq rfl T.n_len PySem.boot_len (pa_cons (pv 0) pa_nil)) (nomark _)) (pw_and1 (pt_cmpR op_eq (pe_ix (ix_tup : IxR _ (rIxT K)) (pe_ix (ix_list : IxR _ (rIxL K)) (pv 0) (pv 3) (fun _ _ => rfl)) pe_int (fun _ _ => rfl)) (pe_glob (v := .int 2) rfl T.c_DROP ⟨_, rfl⟩) (nomark _))))) (pss_cons (ps_expr (pe_bm PySem.F.plainAttrs_list PySem.F.slot_list_append PySem.F.type_list_append mt_append (pv 2) (pa_cons (pe_ix (ix_list : IxR _ (rIxL K)) (pv 0) (pv 3) (fun _ _ => rfl)) pa_nil)))
       (pss_one (ps_aug (i := 3) sc_composed.nd rfl (Or.inl rfl) pe_int ip_add))) (pss_one (ps_if (PW.pt (pw_and (pt_cmpR op_lt (pv 4) (pe_callB call_len_seq rfl T.n_len PySem.boot_len (pa_cons (pv 1) pa_nil)) (nomark _)) (pw_and1 (pt_cmpR op_eq (pe_ix (ix_tup : IxR _ (rIxT K)) (pe_ix (ix_list : IxR _ (rIxL K)) (pv 1) (pv 4) (fun _ _ => rfl)) pe_int (fun _ _ => rfl)) (pe_glob (v := .int 3) rfl T.c_PUT ⟨_, rfl⟩) (nomark _))))) (pss_cons (ps_expr (pe_bm PySem.F.plainAttrs_list PySem.F.slot_list_append PySem.F.type_list_append mt_append (pv 2) (pa_cons (pe_ix (ix_list : IxR _ (rIxL K)) (pv 1) (pv 4) (fun _ _ => rfl)) pa_nil)))
       (pss_one (ps_aug (i := 4) sc_composed.nd rfl (Or.inl rfl) pe_int ip_add))) (pss_cons (ps_set (i := 5) sc_composed.nd rfl (Or.inl rfl) (pe_ifExp (PW.pt (pw_and (pt_cmpR op_lt (pv 3) (pe_callB call_len_seq rfl T.n_len PySem.boot_len (pa_cons (pv 0) pa_nil)) (nomark _)) (pw_and1 (pt_cmpR op_lt (pv 4) (pe_callB call_len_seq rfl T.n_len PySem.boot_len (pa_cons (pv 1) pa_nil)) (nomark _))))) (pe_call G_made_of (hr.mono (by decide)) rfl g_made_of k_made_of b_made_of .nil pass0 (pa_cons (pe_ix (ix_list : IxR _ (rIxL K)) (pv 0) (pv 3) (fun _ _ => rfl)) (pa_cons (pe_ix (ix_list : IxR _ (rIxL K)) (pv 1) (pv 4) (fun _ _ => rfl)) pa_nil))) pe_non))
       (pss_cons (ps_if (pt_cmpR op_isN (pv 5) pe_non (nomark _)) (pss_one (ps_ret pe_non)) pss_nil)
       (pss_cons (ps_expr (pe_bm PySem.F.plainAttrs_list PySem.F.slot_list_extend PySem.F.type_list_extend mt_extend (pv 2) (pa_cons (pv 5) pa_nil)))
       (pss_cons (ps_aug (i := 3) sc_composed.nd rfl (Or.inl rfl) pe_int ip_add)
       (pss_one (ps_aug (i := 4) sc_composed.nd rfl (Or.inl rfl) pe_int ip_add)))))))))))
       (pss_one (ps_ret (pe_call G_in_form (hr.mono (by decide)) rfl g_in_form k_in_form b_in_form .nil pass0 (pa_cons (pv 2) pa_nil)))))))), ?_⟩
  obtain ⟨v0, v1, rfl, h⟩ := h
  obtain ⟨p, R, q, S, rfl, ⟨rs, hp, rR⟩, rfl, ⟨ss, hq, rS⟩, hR, hS, k⟩ := h
  have lr := rR.length
  have ls := rS.length
  rw [List.length_map] at lr ls
  refine ⟨sz0, fun M hM => ?_⟩
  have sM := Same.new (o := .lst []) hM
  refine ⟨fun m σ H' => ∃ (i j : Nat) (v : Option V) (acc : Edit), m = (R.length - i) + (S.length - j) ∧ σ = [some (.ref p), some (.ref q), some (.ref M), some (.int i), some (.int j), v] ∧ Same H H' ∧ Ed H' M acc ∧ acc.length ≤ i + j ∧ i ≤ R.length ∧ j ≤ S.length ∧ cmp R S = (cmp (R.drop i) (S.drop j)).map (acc ++ ·), ⟨_, 0, 0, none, [], rfl, rfl, sM, ⟨[], upd_same, .nil⟩, Nat.le_refl _, Nat.zero_le _, Nat.zero_le _, ?_⟩, ?_⟩
  · show _ = (cmp R S).map ([] ++ ·)
    cases cmp R S <;> rfl
  rintro m σ H' ⟨i, j, v, acc, rfl, rfl, s, ⟨as, ha, ra⟩, hal, hi, hj, hc⟩
  have la := ra.length
  rw [List.length_map] at la
  have lenR : ∀ H'', Same H H'' → SqL K H'' p rs := fun H'' s => SqL.of (s _ _ hp)
  have lenS : ∀ H'', Same H H'' → SqL K H'' q ss := fun H'' s => SqL.of (s _ _ hq)
  refine ev_if (ev_or (ev_test (ev_lt (ev_var rfl) (ev_len (K := K) (ev_var rfl) (lenR H' s)))) fun _ => ev_test (ev_lt (ev_var rfl) (ev_len (K := K) (ev_var rfl) (lenS H' s)))) (fun c => ?_) fun c => ?_
  case refine_2 =>
    rw [lr, ls, dlt, dlt, Bool.or_eq_false_iff] at c
    have e1 : R.length ≤ i := Nat.le_of_not_lt (of_decide_eq_false c.1)
    have e2 : S.length ≤ j := Nat.le_of_not_lt (of_decide_eq_false c.2)
    rw [drop_none e1, drop_none e2, cmp_nil] at hc
    refine ⟨_, rfl, _, rfl, M, acc, rfl, ⟨as, ha, ra⟩, by omega, fun H2 p' s2 n2 hE => k _ _ (s.trans s2) ?_⟩
    rw [compose_is, hc]
    exact ⟨p', rfl, s.free n2, by simpa using hE⟩
  refine ⟨_, fun _ _ h => h, ?_⟩
  have rR' := rR.mono s
  have rS' := rS.mono s
  -- r's next step is a drop
  refine ev_if (ev_next (K := K) 2 (ev_var rfl) (ev_var rfl) (lenR H' s) rR') (fun cd => ?_) fun cd => ?_
  · obtain ⟨y, hy, h0⟩ := nx_true cd
    obtain ⟨x, rfl⟩ := s0_drop h0
    have hi' := ix_lt hy
    obtain ⟨t, h1, h2⟩ := rR'.get (i := i) (r := sI (.drop x)) (by rw [List.getElem?_map, hy]; rfl)
    refine ⟨_, rfl, .inl ⟨rfl, _, SqL.of ha⟩, ev_at (K := K) (ev_var rfl) (ev_var rfl) (lenR H' s) h1 _ ?_⟩
    refine ⟨M, as, _, rfl, rfl, ha, lt_size (by omega), ?_⟩
    refine ⟨_, rfl, _, _, rfl, rfl, ?_⟩
    rw [drop_more hy, cmp_drop, map_con] at hc
    refine ⟨_, ?_, i + 1, j, v, acc ++ [.drop x], rfl, rfl, s.upd hM, ⟨_, upd_same, ?_⟩, ?_, hi', hj, hc⟩
    · omega
    · rw [List.map_append]; exact (ra.snoc (r := sI (.drop x)) h2).updL ha
    · rw [List.length_append]; show acc.length + 1 ≤ _; omega
  -- s's next step is a put
  refine ev_if (ev_next (K := K) 3 (ev_var rfl) (ev_var rfl) (lenS H' s) rS') (fun cp => ?_) fun cp => ?_
  · obtain ⟨y, hy, h0⟩ := nx_true cp
    obtain ⟨x, rfl⟩ := s0_put h0
    have hj' := ix_lt hy
    obtain ⟨t, h1, h2⟩ := rS'.get (i := j) (r := sI (.put x)) (by rw [List.getElem?_map, hy]; rfl)
    refine ⟨_, rfl, .inl ⟨rfl, _, SqL.of ha⟩, ev_at (K := K) (ev_var rfl) (ev_var rfl) (lenS H' s) h1 _ ?_⟩
    refine ⟨M, as, _, rfl, rfl, ha, lt_size (by omega), ?_⟩
    refine ⟨_, rfl, _, _, rfl, rfl, ?_⟩
    rw [drop_more hy, cmp_put _ _ _ (fun z r' e => ?_), map_con] at hc
    refine ⟨_, ?_, i, j + 1, v, acc ++ [.put x], rfl, rfl, s.upd hM, ⟨_, upd_same, ?_⟩, ?_, hi, hj', hc⟩
    · omega
    · rw [List.map_append]; exact (ra.snoc (r := sI (.put x)) h2).updL ha
    · rw [List.length_append]; show acc.length + 1 ≤ _; omega
    · have hz : R[i]? = some (.drop z) := by
        have := congrArg (fun l => l[0]?) e
        simpa using this
      exact nx_false cd hz rfl
  -- both
  refine ev_if (ev_and (ev_ltlen (K := K) (ev_var rfl) (ev_var rfl) (lenR H' s) rR') fun _ => ev_ltlen (K := K) (ev_var rfl) (ev_var rfl) (lenS H' s) rS') (fun cb => ?_) fun cb => ?_
  · rw [Bool.and_eq_true] at cb
    have hi' : i < R.length := of_decide_eq_true cb.1
    have hj' : j < S.length := of_decide_eq_true cb.2
    obtain ⟨y, t, hy, h1, h2⟩ := ed_get rR' hi'
    obtain ⟨z, u, hz, g1, g2⟩ := ed_get rS' hj'
    rw [drop_more hy, drop_more hz, cmp_meet _ _ _ _ (n_drop (nx_false cd hy)) (n_put (nx_false cp hz))] at hc
    refine ev_at (K := K) (ev_var rfl) (ev_var rfl) (lenR H' s) h1 _ ?_
    refine ev_at (K := K) (ev_var rfl) (ev_var rfl) (lenS H' s) g1 _ ?_
    refine ⟨_, _, rfl, y, z, ⟨t, rfl, h2⟩, ⟨u, rfl, g2⟩, n_drop (nx_false cd hy), fun H2 w s2 hw => ?_⟩
    refine ⟨_, rfl, rfl, _, rfl, ?_⟩
    cases e : Vatrkj.meet y z with
    | none =>
      rw [e] at hc hw
      obtain rfl : w = .non := hw
      refine iteP rfl (k _ _ (s.trans s2) ?_)
      rw [compose_is, hc]; rfl
    | some m =>
      rw [e] at hc hw
      obtain ⟨b, rfl, bs, hb, rb⟩ := hw
      refine iteN (by intro z; cases z) ?_
      have ha2 := s2 _ _ ha
      have lb := rb.length
      rw [List.length_map] at lb
      have lm := meet_len e
      refine ⟨_, rfl, .inl ⟨rfl, _, SqL.of ha2⟩, _, rfl, M, b, as, bs, rfl, rfl, ha2, hb, le_size (by omega), ?_⟩
      refine ⟨_, rfl, _, _, rfl, rfl, ?_⟩
      refine ⟨_, rfl, _, _, rfl, rfl, ?_⟩
      have hc' : cmp R S = ((cmp (R.drop (i + 1)) (S.drop (j + 1))).map (m ++ ·)).map (acc ++ ·) := hc
      rw [map_appE] at hc'
      refine ⟨_, ?_, i + 1, j + 1, some (.ref b), acc ++ m, rfl, rfl, (s.trans s2).upd hM, ⟨_, upd_same, ?_⟩, ?_, hi', hj', hc'⟩
      · omega
      · rw [List.map_append]; exact ((ra.mono s2).append rb).updL ha2
      · rw [List.length_append]; omega
  · refine ⟨_, rfl, rfl, _, rfl, iteP rfl (k _ _ s ?_)⟩
    rw [compose_is, hc]
    rw [lr, ls, dlt, dlt, Bool.or_eq_true, decide_eq_true_eq, decide_eq_true_eq] at c
    rw [Bool.and_eq_false_iff, decide_eq_false_iff_not, decide_eq_false_iff_not] at cb
    have e0 : cmp (R.drop i) (S.drop j) = none := by
      rcases c with c | c
      · obtain ⟨y, hy⟩ := get_of c
        rw [drop_more hy, drop_none (by omega : S.length ≤ j)]
        exact cmp_left _ _ (n_drop (nx_false cd hy))
      · obtain ⟨z, hz⟩ := get_of c
        rw [drop_more hz, drop_none (by omega : R.length ≤ i)]
        exact cmp_right _ _ (n_put (nx_false cp hz))
    rw [e0]; rfl
end Ev

namespace Ev
open PySem PySem.Spec PyProof.Rows L2
open Vatrkj (Letter Edit Text)
/-! ### rebased -/
/-- two edits as a tuple, or none -/
def OPr (H0 H : Hp) (v : V) : Option (Edit × Edit) → Prop
  | none => v = .non
  | some e => ∃ t p q, v = .ref t ∧ H t = some (.tup [.ref p, .ref q]) ∧ H0 q = none ∧ Ed H p e.1 ∧ Ed H q e.2
def OPr2 (H0 H : Hp) (v : V) : Option (Edit × Edit) → Prop
  | none => v = .non
  | some e => ∃ t p q, v = .ref t ∧ H t = some (.tup [.ref p, .ref q]) ∧ H0 p = none ∧ H0 q = none ∧ Ed H p e.1 ∧ Ed H q e.2
def kb : Stp → Edit
  | .drop _ => []
  | _ => [.keep]
def sp_kept_beside (K : PySem.W.Frag) (_ : Ad) : Sp := sp1 fun v0 H Q => ∃ y, StV H v0 y ∧ ∀ H' p, Same H H' → H p = none → Ed H' p (kb y) → Q (.ref p) H'
theorem use_kept_beside {P : Program} {w : World} {K : PySem.W.Frag} {mg : Str → Option Value} {base : Heap} {a : Ad} (T : Txt K mg a) (D : Dfn K mg "kept_beside" "kept_beside" s_kept_beside ["other"])  : Use P w K mg base 1 "kept_beside" ["other"] (sp_kept_beside K a) := by
  obtain ⟨f, fd, F, gf, bf⟩ := D
  refine ⟨f, fd, gf, F.kp, bf, F.ok (k := 0) sc_kept_beside (fun vs H Q E h => h.len) (fun cdv A outer s H vs Q E hr h => ?_)⟩
  refine ⟨_, (pss_one (ps_ret (pe_ifExp (pt_cmpR op_eq (pe_ix (ix_tup : IxR _ (rIxT K)) (pv 0) pe_int (fun _ _ => rfl)) (pe_glob (v := .int 2) rfl T.c_DROP ⟨_, rfl⟩) (nomark _)) (pe_lst pa_nil) (pe_lst (pa_cons (pe_tup (pa_cons (pe_glob (v := .int 0) rfl T.c_KEEP ⟨_, rfl⟩) (pa_cons pe_int (pa_cons pe_int pa_nil)))) pa_nil))))), ?_⟩
  obtain ⟨v0, rfl, h⟩ := h
  obtain ⟨y, ⟨t, rfl, ht⟩, k⟩ := h
  refine ev_if (ev_test (ev_eq (ev_s0 (ev_var rfl) ht) ev_c)) (fun c => ?_) fun c => ?_
  · obtain ⟨x, rfl⟩ := s0_drop (of_decide_eq_true c)
    exact ⟨sz0, fun p hp => k _ _ (Same.new hp) hp ⟨_, upd_same, .nil⟩⟩
  · have e : kb y = [.keep] := by
      cases y with
      | drop x => exact no_tf c
      | _ => rfl
    rw [e] at k
    exact ⟨sz3, fun q hq => ⟨sz1, fun p hp => k _ _ ((Same.new hq).trans (Same.new hp)) ((Same.new hq).free hp) ⟨_, upd_same, (Rws.one (r := sI .keep) upd_same).updN hp⟩⟩⟩
def sp_dropped_painted (K : PySem.W.Frag) (_ : Ad) : Sp := sp2 fun v0 v1 H Q => ∃ (f g : Nat) (x : Letter), StV H v0 (.paint f g) ∧ StV H v1 (.drop x) ∧ ∀ H' v, Same H H' → OEdN H H' v (if x.look = f then some [.drop { x with look := g }] else none) → Q v H'
theorem use_dropped_painted {P : Program} {w : World} {K : PySem.W.Frag} {mg : Str → Option Value} {base : Heap} {a : Ad} (T : Txt K mg a) (D : Dfn K mg "dropped_painted" "dropped_painted" s_dropped_painted ["paint", "drop"])  : Use P w K mg base 1 "dropped_painted" ["paint", "drop"] (sp_dropped_painted K a) := by
  obtain ⟨f, fd, F, gf, bf⟩ := D
  refine ⟨f, fd, gf, F.kp, bf, F.ok (k := 0) sc_dropped_painted (fun vs H Q E h => h.len) (fun cdv A outer s H vs Q E hr h => ?_)⟩
  refine ⟨_, (pss_cons (ps_if (pt_cmpR op_ne (pe_ix (ix_tup : IxR _ (rIxT K)) (pv 0) pe_int (fun _ _ => rfl)) (pe_ix (ix_tup : IxR _ (rIxT K)) (pv 1) pe_int (fun _ _ => rfl)) (nomark _)) (pss_one (ps_ret pe_non)) pss_nil)
       (pss_one (ps_ret (pe_lst (pa_cons (pe_tup (pa_cons (pe_glob (v := .int 2) rfl T.c_DROP ⟨_, rfl⟩) (pa_cons (pe_ix (ix_tup : IxR _ (rIxT K)) (pv 1) pe_int (fun _ _ => rfl)) (pa_cons (pe_ix (ix_tup : IxR _ (rIxT K)) (pv 0) pe_int (fun _ _ => rfl)) pa_nil)))) pa_nil))))), ?_⟩
  obtain ⟨v0, v1, rfl, h⟩ := h
  obtain ⟨f, g, x, ⟨t, rfl, ht⟩, ⟨u, rfl, hu⟩, k⟩ := h
  refine ev_if (ev_test (ev_ne (ev_s1 (ev_var rfl) ht) (ev_s2 (ev_var rfl) hu))) (fun c => ?_) fun c => ?_
  · have c' : ¬ (f : Int) = (x.look : Int) := nd_t c
    rw [if_neg (by omega)] at k
    exact k _ _ (Same.refl H) rfl
  · have c' : (f : Int) = (x.look : Int) := nd_f c
    rw [if_pos (by omega)] at k
    refine ev_s1 (ev_var rfl) hu _ ?_
    refine ev_s2 (ev_var rfl) ht _ ⟨sz3, fun q hq => ⟨sz1, fun p hp => k _ _ ((Same.new hq).trans (Same.new hp)) ⟨p, rfl, (Same.new hq).free hp, _, upd_same, ?_⟩⟩⟩
    exact (Rws.one (r := sI (.drop { x with look := g })) upd_same).updN hp
/-- a tuple of two lists, new -/
theorem pr_of {H H0 : Hp} {t p q : Addr} {a b : Edit} (ht : H t = none) (nq : H0 q = none) (hp : Ed H p a) (hq : Ed H q b) : OPr H0 (upd H t (.tup [.ref p, .ref q])) (.ref t) (some (a, b)) :=
  ⟨t, p, q, rfl, upd_same, nq, hp.mono (Same.new ht), hq.mono (Same.new ht)⟩
def sp_both_painted (K : PySem.W.Frag) (_ : Ad) : Sp := sp3 fun v0 v1 v2 H Q => ∃ (f g f' h : Nat) (b : Bool), StV H v0 (.paint f g) ∧ StV H v1 (.paint f' h) ∧ v2 = .bl b ∧ ∀ H' v, Same H H' → OPr H H' v (Vatrkj.cross b (.paint f g) (.paint f' h)) → Q v H'
theorem use_both_painted {P : Program} {w : World} {K : PySem.W.Frag} {mg : Str → Option Value} {base : Heap} {a : Ad} (T : Txt K mg a) (D : Dfn K mg "both_painted" "both_painted" s_both_painted ["one", "other", "one_first"])  : Use P w K mg base 1 "both_painted" ["one", "other", "one_first"] (sp_both_painted K a) := by
  obtain ⟨f, fd, F, gf, bf⟩ := D
  refine ⟨f, fd, gf, F.kp, bf, F.ok (k := 0) sc_both_painted (fun vs H Q E h => h.len) (fun cdv A outer s H vs Q E hr h => ?_)⟩
  refine ⟨_, (pss_cons (ps_if (pt_cmpR op_ne (pe_ix (ix_tup : IxR _ (rIxT K)) (pv 0) pe_int (fun _ _ => rfl)) (pe_ix (ix_tup : IxR _ (rIxT K)) (pv 1) pe_int (fun _ _ => rfl)) (nomark _)) (pss_one (ps_ret pe_non)) pss_nil)
       (pss_cons (ps_set (i := 3) sc_both_painted.nd rfl (Or.inl rfl) (pe_tup (pa_cons (pe_glob (v := .int 0) rfl T.c_KEEP ⟨_, rfl⟩) (pa_cons pe_int (pa_cons pe_int pa_nil)))))
       (pss_cons (ps_if (pt_cmpR op_eq (pe_ix (ix_tup : IxR _ (rIxT K)) (pv 0) pe_int (fun _ _ => rfl)) (pe_ix (ix_tup : IxR _ (rIxT K)) (pv 1) pe_int (fun _ _ => rfl)) (nomark _)) (pss_one (ps_ret (pe_tup (pa_cons (pe_lst (pa_cons (pv 3) pa_nil)) (pa_cons (pe_lst (pa_cons (pv 3) pa_nil)) pa_nil))))) pss_nil)
       (pss_cons (ps_if (pt_val (pv 2)) (pss_one (ps_ret (pe_tup (pa_cons (pe_lst (pa_cons (pe_tup (pa_cons (pe_glob (v := .int 1) rfl T.c_PAINT ⟨_, rfl⟩) (pa_cons (pe_ix (ix_tup : IxR _ (rIxT K)) (pv 1) pe_int (fun _ _ => rfl)) (pa_cons (pe_ix (ix_tup : IxR _ (rIxT K)) (pv 0) pe_int (fun _ _ => rfl)) pa_nil)))) pa_nil)) (pa_cons (pe_lst (pa_cons (pv 3) pa_nil)) pa_nil))))) pss_nil)
       (pss_one (ps_ret (pe_tup (pa_cons (pe_lst (pa_cons (pv 3) pa_nil)) (pa_cons (pe_lst (pa_cons (pe_tup (pa_cons (pe_glob (v := .int 1) rfl T.c_PAINT ⟨_, rfl⟩) (pa_cons (pe_ix (ix_tup : IxR _ (rIxT K)) (pv 0) pe_int (fun _ _ => rfl)) (pa_cons (pe_ix (ix_tup : IxR _ (rIxT K)) (pv 1) pe_int (fun _ _ => rfl)) pa_nil)))) pa_nil)) pa_nil))))))))), ?_⟩
  obtain ⟨v0, v1, v2, rfl, h⟩ := h
  obtain ⟨f, g, f', h, b, ⟨t, rfl, ht⟩, ⟨u, rfl, hu⟩, rfl, k⟩ := h
  refine ev_if (ev_test (ev_ne (ev_s1 (ev_var rfl) ht) (ev_s1 (ev_var rfl) hu))) (fun c => ?_) fun c => ?_
  · have c' : ¬ (f : Int) = (f' : Int) := nd_t c
    have e : Vatrkj.cross b (.paint f g) (.paint f' h) = none := if_neg (by omega)
    rw [e] at k
    exact k _ _ (Same.refl H) rfl
  · have c' : (f : Int) = (f' : Int) := nd_f c
    have e : Vatrkj.cross b (.paint f g) (.paint f' h) = (if g = h then some ([.keep], [.keep]) else if b = true then some ([.paint h g], [.keep]) else some ([.keep], [.paint g h])) := if_pos (by omega)
    rw [e] at k
    refine ⟨sz3, fun kp hkp => ?_⟩
    have s0' := Same.new (o := .tup [V.int 0, V.int 0, V.int 0]) hkp
    have hk0 : upd H kp (.tup [V.int 0, V.int 0, V.int 0]) kp = some (.tup ((sI .keep).map V.int)) := upd_same
    refine ev_if (ev_test (ev_eq (ev_s2 (ev_var rfl) (s0' _ _ ht)) (ev_s2 (ev_var rfl) (s0' _ _ hu)))) (fun d => ?_) fun d => ?_
    · have d' : (g : Int) = h := of_decide_eq_true d
      rw [if_pos (by omega)] at k
      refine ⟨_, rfl, sz1, fun p hp => ⟨_, rfl, sz1, fun q hq => ⟨sz2, fun r hr => ?_⟩⟩⟩
      have sp := Same.new (o := .lst [V.ref kp]) hp
      have sq := Same.new (o := .lst [V.ref kp]) hq
      refine k _ _ (((s0'.trans sp).trans sq).trans (Same.new hr)) (pr_of (H0 := H) hr ((s0'.trans sp).free hq) ?_ ?_)
      · exact ⟨_, sq _ _ upd_same, ((Rws.one (r := sI .keep) hk0).updN hp).updN hq⟩
      · exact ⟨_, upd_same, ((Rws.one (r := sI .keep) hk0).updN hp).updN hq⟩
    · have d' : ¬ (g : Int) = h := of_decide_eq_false d
      rw [if_neg (by omega)] at k
      refine ev_if (ev_tB (ev_var rfl)) (fun eb => ?_) fun eb => ?_
      · rw [if_pos eb] at k
        refine ev_s2 (ev_var rfl) (s0' _ _ hu) _ ?_
        refine ev_s2 (ev_var rfl) (s0' _ _ ht) _ ⟨sz3, fun n hn => ⟨sz1, fun p hp => ⟨_, rfl, sz1, fun q hq => ⟨sz2, fun r hr => ?_⟩⟩⟩⟩
        have sn := Same.new (o := .tup [V.int 1, V.int h, V.int g]) hn
        have sp := Same.new (o := .lst [V.ref n]) hp
        have sq := Same.new (o := .lst [V.ref kp]) hq
        refine k _ _ ((((s0'.trans sn).trans sp).trans sq).trans (Same.new hr)) (pr_of (H0 := H) hr (((s0'.trans sn).trans sp).free hq) ?_ ?_)
        · exact ⟨_, sq _ _ upd_same, ((Rws.one (r := sI (.paint h g)) upd_same).updN hp).updN hq⟩
        · exact ⟨_, upd_same, ((Rws.one (r := sI .keep) (sn _ _ hk0)).updN hp).updN hq⟩
      · rw [if_neg (by rw [eb]; decide)] at k
        refine ⟨_, rfl, sz1, fun p hp => ?_⟩
        have sp := Same.new (o := .lst [V.ref kp]) hp
        refine ev_s2 (ev_var rfl) (sp _ _ (s0' _ _ ht)) _ ?_
        refine ev_s2 (ev_var rfl) (sp _ _ (s0' _ _ hu)) _ ⟨sz3, fun n hn => ⟨sz1, fun q hq => ⟨sz2, fun r hr => ?_⟩⟩⟩
        have sn := Same.new (o := .tup [V.int 1, V.int g, V.int h]) hn
        have sq := Same.new (o := .lst [V.ref n]) hq
        refine k _ _ ((((s0'.trans sp).trans sn).trans sq).trans (Same.new hr)) (pr_of (H0 := H) hr (((s0'.trans sp).trans sn).free hq) ?_ ?_)
        · exact ⟨_, sq _ _ (sn _ _ upd_same), (((Rws.one (r := sI .keep) hk0).updN hp).updN hn).updN hq⟩
        · exact ⟨_, upd_same, (Rws.one (r := sI (.paint g h)) upd_same).updN hq⟩
theorem s0_keep {y : Stp} (h : s0 y = 0) : y = .keep := by
  cases y with
  | keep => rfl
  | put x => exact absurd (show (3 : Int) = 0 from h) (by decide)
  | paint f g => exact absurd (show (1 : Int) = 0 from h) (by decide)
  | drop x => exact absurd (show (2 : Int) = 0 from h) (by decide)
theorem s0_paint {y : Stp} (h : s0 y = 1) : ∃ f g, y = .paint f g := by
  cases y with
  | paint f g => exact ⟨f, g, rfl⟩
  | put x => exact absurd (show (3 : Int) = 1 from h) (by decide)
  | keep => exact absurd (show (0 : Int) = 1 from h) (by decide)
  | drop x => exact absurd (show (2 : Int) = 1 from h) (by decide)
theorem is_drop {y : Stp} (h0 : ¬ s0 y = 0) (h1 : ¬ s0 y = 1) (h3 : ∀ x, y ≠ .put x) : ∃ x, y = .drop x := by
  cases y with
  | drop x => exact ⟨x, rfl⟩
  | keep => exact absurd rfl h0
  | paint f g => exact absurd rfl h1
  | put x => exact absurd rfl (h3 x)
theorem cross_keep {b : Bool} {y : Stp} (h : ∀ x, y ≠ .put x) : Vatrkj.cross b .keep y = some (kb y, [y]) := by
  cases y with
  | put x => exact absurd rfl (h x)
  | _ => rfl
theorem cross_keep' {b : Bool} {y : Stp} (h : ∀ x, y ≠ .put x) (n : y ≠ .keep) : Vatrkj.cross b y .keep = some ([y], kb y) := by
  cases y with
  | put x => exact absurd rfl (h x)
  | keep => exact absurd rfl n
  | _ => rfl
def sp_carried (K : PySem.W.Frag) (_ : Ad) : Sp := sp3 fun v0 v1 v2 H Q => ∃ (x y : Stp) (b : Bool), StV H v0 x ∧ StV H v1 y ∧ v2 = .bl b ∧ (∀ z, x ≠ .put z) ∧ (∀ z, y ≠ .put z) ∧ ∀ H' v, Same H H' → OPr H H' v (Vatrkj.cross b x y) → Q v H'
theorem use_carried {P : Program} {w : World} {K : PySem.W.Frag} {mg : Str → Option Value} {base : Heap} {a : Ad} (T : Txt K mg a) (D : Dfn K mg "carried" "carried" s_carried ["one", "other", "one_first"]) (U_both_painted : Use P w K mg base 1 "both_painted" ["one", "other", "one_first"] (sp_both_painted K a)) (U_dropped_painted : Use P w K mg base 1 "dropped_painted" ["paint", "drop"] (sp_dropped_painted K a)) (U_kept_beside : Use P w K mg base 1 "kept_beside" ["other"] (sp_kept_beside K a)) : Use P w K mg base 2 "carried" ["one", "other", "one_first"] (sp_carried K a) := by
  obtain ⟨f, fd, F, gf, bf⟩ := D
  obtain ⟨f_both_painted, fd_both_painted, g_both_painted, k_both_painted, b_both_painted, G_both_painted⟩ := U_both_painted
  obtain ⟨f_dropped_painted, fd_dropped_painted, g_dropped_painted, k_dropped_painted, b_dropped_painted, G_dropped_painted⟩ := U_dropped_painted
  obtain ⟨f_kept_beside, fd_kept_beside, g_kept_beside, k_kept_beside, b_kept_beside, G_kept_beside⟩ := U_kept_beside
  refine ⟨f, fd, gf, F.kp, bf, F.ok (k := 1) sc_carried (fun vs H Q E h => h.len) (fun cdv A outer s H vs Q E hr h => ?_)⟩
  refine ⟨_, (pss_cons (ps_if (pt_cmpR op_eq (pe_ix (ix_tup : IxR _ (rIxT K)) (pv 0) pe_int (fun _ _ => rfl)) (pe_glob (v := .int 0) rfl T.c_KEEP ⟨_, rfl⟩) (nomark _)) (pss_one (ps_ret (pe_tup (pa_cons (pe_call G_kept_beside (hr.mono (by decide)) rfl g_kept_beside k_kept_beside b_kept_beside .nil pass0 (pa_cons (pv 1) pa_nil)) (pa_cons (pe_lst (pa_cons (pv 1) pa_nil)) pa_nil))))) pss_nil)
       (pss_cons (ps_if (pt_cmpR op_eq (pe_ix (ix_tup : IxR _ (rIxT K)) (pv 1) pe_int (fun _ _ => rfl)) (pe_glob (v := .int 0) rfl T.c_KEEP ⟨_, rfl⟩) (nomark _)) (pss_one (ps_ret (pe_tup (pa_cons (pe_lst (pa_cons (pv 0) pa_nil)) (pa_cons (pe_call G_kept_beside (hr.mono (by decide)) rfl g_kept_beside k_kept_beside b_kept_beside .nil pass0 (pa_cons (pv 0) pa_nil)) pa_nil))))) pss_nil)
       (pss_cons (ps_if (PW.pt (pw_and (pt_cmpR op_eq (pe_ix (ix_tup : IxR _ (rIxT K)) (pv 0) pe_int (fun _ _ => rfl)) (pe_glob (v := .int 1) rfl T.c_PAINT ⟨_, rfl⟩) (nomark _)) (pw_and1 (pt_cmpR op_eq (pe_ix (ix_tup : IxR _ (rIxT K)) (pv 1) pe_int (fun _ _ => rfl)) (pe_glob (v := .int 1) rfl T.c_PAINT ⟨_, rfl⟩) (nomark _))))) (pss_one (ps_ret (pe_call G_both_painted (hr.mono (by decide)) rfl g_both_painted k_both_painted b_both_painted .nil pass0 (pa_cons (pv 0) (pa_cons (pv 1) (pa_cons (pv 2) pa_nil)))))) pss_nil)
       (pss_cons (ps_if (pt_cmpR op_eq (pe_ix (ix_tup : IxR _ (rIxT K)) (pv 0) pe_int (fun _ _ => rfl)) (pe_glob (v := .int 1) rfl T.c_PAINT ⟨_, rfl⟩) (nomark _)) (pss_cons (ps_set (i := 3) sc_carried.nd rfl (Or.inl rfl) (pe_call G_dropped_painted (hr.mono (by decide)) rfl g_dropped_painted k_dropped_painted b_dropped_painted .nil pass0 (pa_cons (pv 0) (pa_cons (pv 1) pa_nil))))
       (pss_one (ps_ret (pe_ifExp (pt_cmpR op_isN (pv 3) pe_non (nomark _)) pe_non (pe_tup (pa_cons (pe_lst pa_nil) (pa_cons (pv 3) pa_nil))))))) pss_nil)
       (pss_cons (ps_if (pt_cmpR op_eq (pe_ix (ix_tup : IxR _ (rIxT K)) (pv 1) pe_int (fun _ _ => rfl)) (pe_glob (v := .int 1) rfl T.c_PAINT ⟨_, rfl⟩) (nomark _)) (pss_cons (ps_set (i := 3) sc_carried.nd rfl (Or.inl rfl) (pe_call G_dropped_painted (hr.mono (by decide)) rfl g_dropped_painted k_dropped_painted b_dropped_painted .nil pass0 (pa_cons (pv 1) (pa_cons (pv 0) pa_nil))))
       (pss_one (ps_ret (pe_ifExp (pt_cmpR op_isN (pv 3) pe_non (nomark _)) pe_non (pe_tup (pa_cons (pv 3) (pa_cons (pe_lst pa_nil) pa_nil))))))) pss_nil)
       (pss_one (ps_ret (pe_ifExp (pt_cmpR (op_eqD hr.units : OpR _ (compareOp .Eq) (rEqD K)) (pv 0) (pv 1) (nomark _)) (pe_tup (pa_cons (pe_lst pa_nil) (pa_cons (pe_lst pa_nil) pa_nil))) pe_non)))))))), ?_⟩
  obtain ⟨v0, v1, v2, rfl, h⟩ := h
  obtain ⟨x, y, b, ⟨t, rfl, ht⟩, ⟨u, rfl, hu⟩, rfl, nx, ny, k⟩ := h
  refine ev_if (ev_test (ev_eq (ev_s0 (ev_var rfl) ht) ev_c)) (fun c => ?_) fun c => ?_
  · obtain rfl := s0_keep (of_decide_eq_true c)
    rw [cross_keep ny] at k
    refine ⟨_, rfl, _, rfl, y, ⟨u, rfl, hu⟩, fun H1 p s1 _ hp => ?_⟩
    refine ⟨_, rfl, sz1, fun q hq => ⟨sz2, fun r hr => ?_⟩⟩
    exact k _ _ ((s1.trans (Same.new hq)).trans (Same.new hr)) (pr_of (H0 := H) hr (s1.free hq) (hp.mono (Same.new hq)) ⟨_, upd_same, (Rws.one (r := sI y) (s1 _ _ hu)).updN hq⟩)
  have c0 : ¬ s0 x = 0 := of_decide_eq_false c
  have nk : x ≠ .keep := fun z => by rw [z] at c0; exact c0 rfl
  refine ev_if (ev_test (ev_eq (ev_s0 (ev_var rfl) hu) ev_c)) (fun d => ?_) fun d => ?_
  · obtain rfl := s0_keep (of_decide_eq_true d)
    rw [cross_keep' nx nk] at k
    refine ⟨_, rfl, sz1, fun q hq => ?_⟩
    refine ⟨_, rfl, _, rfl, x, ⟨t, rfl, Same.new hq _ _ ht⟩, fun H1 p s1 np hp => ⟨sz2, fun r hr => ?_⟩⟩
    refine k _ _ (((Same.new hq).trans s1).trans (Same.new hr)) (pr_of (H0 := H) hr ((Same.new hq).free np) (Ls.mono s1 ⟨_, upd_same, (Rws.one (r := sI x) ht).updN hq⟩) hp)
  have d0 : ¬ s0 y = 0 := of_decide_eq_false d
  refine ev_if (ev_and (ev_test (ev_eq (ev_s0 (ev_var rfl) ht) ev_c)) fun _ => ev_test (ev_eq (ev_s0 (ev_var rfl) hu) ev_c)) (fun e => ?_) fun e => ?_
  · rw [Bool.and_eq_true] at e
    obtain ⟨f, g, rfl⟩ := s0_paint (of_decide_eq_true e.1)
    obtain ⟨f', h', rfl⟩ := s0_paint (of_decide_eq_true e.2)
    exact ⟨_, rfl, _, rfl, _, rfl, _, _, _, rfl, f, g, f', h', b, ⟨t, rfl, ht⟩, ⟨u, rfl, hu⟩, rfl, k⟩
  refine ev_if (ev_test (ev_eq (ev_s0 (ev_var rfl) ht) ev_c)) (fun e1 => ?_) fun e1 => ?_
  · have e1' := of_decide_eq_true e1
    obtain ⟨f, g, rfl⟩ := s0_paint e1'
    rw [e1, Bool.true_and] at e
    obtain ⟨z, rfl⟩ := is_drop d0 (of_decide_eq_false e) ny
    refine ⟨_, rfl, _, rfl, _, _, rfl, f, g, z, ⟨t, rfl, ht⟩, ⟨u, rfl, hu⟩, fun H1 v s1 hv => ?_⟩
    refine ⟨_, rfl, rfl, _, rfl, ?_⟩
    by_cases cc : z.look = f
    · have e2 : Vatrkj.cross b (.paint f g) (.drop z) = some ([], [.drop { z with look := g }]) := if_pos cc
      rw [if_pos cc] at hv
      rw [e2] at k
      obtain ⟨q, rfl, nq, hq⟩ := hv
      refine iteN (by intro z; cases z) ⟨sz0, fun p hp => ⟨_, rfl, sz2, fun r hr => ?_⟩⟩
      exact k _ _ ((s1.trans (Same.new hp)).trans (Same.new hr)) (pr_of (H0 := H) hr nq ⟨_, upd_same, .nil⟩ (hq.mono (Same.new hp)))
    · have e2 : Vatrkj.cross b (.paint f g) (.drop z) = none := if_neg cc
      rw [if_neg cc] at hv
      rw [e2] at k
      obtain rfl : v = .non := hv
      exact iteP rfl (k _ _ s1 rfl)
  have e1' : ¬ s0 x = 1 := of_decide_eq_false e1
  obtain ⟨z, rfl⟩ := is_drop c0 e1' nx
  refine ev_if (ev_test (ev_eq (ev_s0 (ev_var rfl) hu) ev_c)) (fun e3 => ?_) fun e3 => ?_
  · obtain ⟨f, g, rfl⟩ := s0_paint (of_decide_eq_true e3)
    refine ⟨_, rfl, _, rfl, _, _, rfl, f, g, z, ⟨u, rfl, hu⟩, ⟨t, rfl, ht⟩, fun H1 v s1 hv => ?_⟩
    refine ⟨_, rfl, rfl, _, rfl, ?_⟩
    by_cases cc : z.look = f
    · have e2 : Vatrkj.cross b (.drop z) (.paint f g) = some ([.drop { z with look := g }], []) := if_pos cc
      rw [if_pos cc] at hv
      rw [e2] at k
      obtain ⟨q, rfl, nq, hq⟩ := hv
      refine iteN (by intro z; cases z) ⟨_, rfl, sz0, fun p hp => ⟨sz2, fun r hr => ?_⟩⟩
      exact k _ _ ((s1.trans (Same.new hp)).trans (Same.new hr)) (pr_of (H0 := H) hr (s1.free hp) (hq.mono (Same.new hp)) ⟨_, upd_same, .nil⟩)
    · have e2 : Vatrkj.cross b (.drop z) (.paint f g) = none := if_neg cc
      rw [if_neg cc] at hv
      rw [e2] at k
      obtain rfl : v = .non := hv
      exact iteP rfl (k _ _ s1 rfl)
  obtain ⟨z', rfl⟩ := is_drop d0 (of_decide_eq_false e3) ny
  refine ⟨_, rfl, _, rfl, rEqD_of (r := sI (.drop z)) (q := sI (.drop z')) ht hu ?_⟩
  rw [sI_eq]
  refine ⟨_, rfl, iteB (fun cc => ?_) fun cc => ?_⟩
  · obtain rfl : z = z' := by injection (of_decide_eq_true cc)
    have e2 : Vatrkj.cross b (.drop z) (.drop z) = some ([], []) := if_pos rfl
    rw [e2] at k
    refine ⟨sz0, fun p hp => ⟨sz0, fun q hq => ⟨sz2, fun r hr => ?_⟩⟩⟩
    exact k _ _ (((Same.new hp).trans (Same.new hq)).trans (Same.new hr)) (pr_of (H0 := H) hr ((Same.new hp).free hq) ⟨_, Same.new hq _ _ upd_same, .nil⟩ ⟨_, upd_same, .nil⟩)
  · have n : ¬ z = z' := fun w => of_decide_eq_false cc (by rw [w])
    have e2 : Vatrkj.cross b (.drop z) (.drop z') = none := if_neg n
    rw [e2] at k
    exact k _ _ (Same.refl H) rfl
theorem cross_len {b : Bool} {x y : Stp} {m : Edit × Edit} (h : Vatrkj.cross b x y = some m) : m.1.length ≤ 1 ∧ m.2.length ≤ 1 := by
  cases x <;> cases y <;> simp only [Vatrkj.cross] at h <;> (try split at h) <;> (try split at h) <;> (try split at h) <;> first | (obtain rfl := Option.some.inj h; exact ⟨by simp, by simp⟩) | cases h
theorem isPut_nx (e : Edit) (i : Nat) : isPut (e.drop i) = nx e i 3 := by
  by_cases h : i < e.length
  · obtain ⟨y, hy⟩ := get_of h
    rw [drop_more hy, nx_in hy]
    cases y <;> rfl
  · rw [drop_none (Nat.le_of_not_lt h), nx_out (Nat.le_of_not_lt h)]; rfl
theorem map_pr {o : Option (Edit × Edit)} {a b : Edit} {x y : Stp} : (o.map fun e => (x :: e.1, y :: e.2)).map (fun e => (a ++ e.1, b ++ e.2)) = o.map fun e => ((a ++ [x]) ++ e.1, (b ++ [y]) ++ e.2) := by
  cases o with
  | none => rfl
  | some x => simp
theorem map_pr2 {o : Option (Edit × Edit)} {a b x y : Edit} : (o.map fun e => (x ++ e.1, y ++ e.2)).map (fun e => (a ++ e.1, b ++ e.2)) = o.map fun e => ((a ++ x) ++ e.1, (b ++ y) ++ e.2) := by
  cases o with
  | none => rfl
  | some x => simp
def sp_rebased (K : PySem.W.Frag) (_ : Ad) : Sp := sp3 fun v0 v1 v2 H Q => ∃ (p : Addr) (R : Edit) (q : Addr) (S : Edit) (f : Bool), v0 = .ref p ∧ Ed H p R ∧ v1 = .ref q ∧ Ed H q S ∧ v2 = .bl f ∧ R.length ≤ 16000 ∧ S.length ≤ 16000 ∧ ∀ H' v, Same H H' → OPr2 H H' v (Vatrkj.rebase f R S) → Q v H'
theorem use_rebased {P : Program} {w : World} {K : PySem.W.Frag} {mg : Str → Option Value} {base : Heap} {a : Ad} (T : Txt K mg a) (D : Dfn K mg "rebased" "rebased" s_rebased ["r", "s", "r_first"]) (U_in_form : Use P w K mg base 1 "in_form" ["steps"] (sp_in_form K a)) (U_carried : Use P w K mg base 2 "carried" ["one", "other", "one_first"] (sp_carried K a)) : Use P w K mg base 3 "rebased" ["r", "s", "r_first"] (sp_rebased K a) := by
  obtain ⟨f, fd, F, gf, bf⟩ := D
  obtain ⟨f_in_form, fd_in_form, g_in_form, k_in_form, b_in_form, G_in_form⟩ := U_in_form
  obtain ⟨f_carried, fd_carried, g_carried, k_carried, b_carried, G_carried⟩ := U_carried
  refine ⟨f, fd, gf, F.kp, bf, F.ok (k := 2) sc_rebased (fun vs H Q E h => h.len) (fun cdv A outer s H vs Q E hr h => ?_)⟩
  refine ⟨_, (pss_cons (ps_set (i := 3) sc_rebased.nd rfl (Or.inl rfl) (pe_lst pa_nil))
       (pss_cons (ps_set (i := 4) sc_rebased.nd rfl (Or.inl rfl) (pe_lst pa_nil))
       (pss_cons (ps_set (i := 5) sc_rebased.nd rfl (Or.inl rfl) pe_int)
       (pss_cons (ps_set (i := 6) sc_rebased.nd rfl (Or.inl rfl) pe_int)
       (pss_cons (ps_while PassesOwn.never (PW.pt (pw_or (pt_cmpR op_lt (pv 5) (pe_callB call_len_seq rfl T.n_len PySem.boot_len (pa_cons (pv 0) pa_nil)) (nomark _)) (pw_or1 (pt_cmpR op_lt (pv 6) (pe_callB call_len_seq rfl T.n_len PySem.boot_len (pa_cons (pv 1) pa_nil)) (nomark _))))) (pss_cons (ps_set (i := 7) sc_rebased.nd rfl (Or.inl rfl) (pe_and (pe_cmpR op_lt (pv 5) (pe_callB call_len_seq rfl T.n_len PySem.boot_len (pa_cons (pv 0) pa_nil)) (nomark _)) (pe_one (pe_cmpR op_eq (pe_ix (ix_tup : IxR _ (rIxT K)) (pe_ix (ix_list : IxR _ (rIxL K)) (pv 0) (pv 5) (fun _ _ => rfl)) pe_int (fun _ _ => rfl)) (pe_glob (v := .int 3) rfl T.c_PUT ⟨_, rfl⟩) (nomark _)))))
       (pss_cons (ps_set (i := 8) sc_rebased.nd rfl (Or.inl rfl) (pe_and (pe_cmpR op_lt (pv 6) (pe_callB call_len_seq rfl T.n_len PySem.boot_len (pa_cons (pv 1) pa_nil)) (nomark _)) (pe_one (pe_cmpR op_eq (pe_ix (ix_tup : IxR _ (rIxT K)) (pe_ix (ix_list : IxR _ (rIxL K)) (pv 1) (pv 6) (fun _ _ => rfl)) pe_int (fun _ _ => rfl)) (pe_glob (v := .int 3) rfl T.c_PUT ⟨_, rfl⟩) (nomark _)))))
       (pss_one (ps_if (PW.pt (pw_and (pt_val (pv 7)) (pw_and1 (PW.pt (pw_or (pt_val (pv 2)) (pw_or1 (pt_not (pt_val (pv 8))))))))) (pss_cons (ps_expr (pe_bm PySem.F.plainAttrs_list PySem.F.slot_list_append PySem.F.type_list_append mt_append (pv 3) (pa_cons (pe_ix (ix_list : IxR _ (rIxL K)) (pv 0) (pv 5) (fun _ _ => rfl)) pa_nil)))
       (pss_cons (ps_expr (pe_bm PySem.F.plainAttrs_list PySem.F.slot_list_append PySem.F.type_list_append mt_append (pv 4) (pa_cons (pe_tup (pa_cons (pe_glob (v := .int 0) rfl T.c_KEEP ⟨_, rfl⟩) (pa_cons pe_int (pa_cons pe_int pa_nil)))) pa_nil)))
       (pss_one (ps_aug (i := 5) sc_rebased.nd rfl (Or.inl rfl) pe_int ip_add)))) (pss_one (ps_if (pt_val (pv 8)) (pss_cons (ps_expr (pe_bm PySem.F.plainAttrs_list PySem.F.slot_list_append PySem.F.type_list_append mt_append (pv 3) (pa_cons (pe_tup (pa_cons (pe_glob (v := .int 0) rfl T.c_KEEP ⟨_, rfl⟩) (pa_cons pe_int (pa_cons pe_int pa_nil)))) pa_nil)))
       (pss_cons (ps_expr (pe_bm PySem.F.plainAttrs_list PySem.F.slot_list_append PySem.F.type_list_append mt_append (pv 4) (pa_cons (pe_ix (ix_list : IxR _ (rIxL K)) (pv 1) (pv 6) (fun _ _ => rfl)) pa_nil)))
       (pss_one (ps_aug (i := 6) sc_rebased.nd rfl (Or.inl rfl) pe_int ip_add)))) (pss_cons (ps_set (i := 9) sc_rebased.nd rfl (Or.inl rfl) (pe_ifExp (PW.pt (pw_and (pt_cmpR op_lt (pv 5) (pe_callB call_len_seq rfl T.n_len PySem.boot_len (pa_cons (pv 0) pa_nil)) (nomark _)) (pw_and1 (pt_cmpR op_lt (pv 6) (pe_callB call_len_seq rfl T.n_len PySem.boot_len (pa_cons (pv 1) pa_nil)) (nomark _))))) (pe_call G_carried (hr.mono (by decide)) rfl g_carried k_carried b_carried .nil pass0 (pa_cons (pe_ix (ix_list : IxR _ (rIxL K)) (pv 0) (pv 5) (fun _ _ => rfl)) (pa_cons (pe_ix (ix_list : IxR _ (rIxL K)) (pv 1) (pv 6) (fun _ _ => rfl)) (pa_cons (pv 2) pa_nil)))) pe_non))
       (pss_cons (ps_if (pt_cmpR op_isN (pv 9) pe_non (nomark _)) (pss_one (ps_ret pe_non)) pss_nil)
       (pss_cons (ps_expr (pe_bm PySem.F.plainAttrs_list PySem.F.slot_list_extend PySem.F.type_list_extend mt_extend (pv 3) (pa_cons (pe_ix (ix_tup : IxR _ (rIxT K)) (pv 9) pe_int (fun _ _ => rfl)) pa_nil)))
       (pss_cons (ps_expr (pe_bm PySem.F.plainAttrs_list PySem.F.slot_list_extend PySem.F.type_list_extend mt_extend (pv 4) (pa_cons (pe_ix (ix_tup : IxR _ (rIxT K)) (pv 9) pe_int (fun _ _ => rfl)) pa_nil)))
       (pss_cons (ps_aug (i := 5) sc_rebased.nd rfl (Or.inl rfl) pe_int ip_add)
       (pss_one (ps_aug (i := 6) sc_rebased.nd rfl (Or.inl rfl) pe_int ip_add))))))))))))))
       (pss_one (ps_ret (pe_tup (pa_cons (pe_call G_in_form (hr.mono (by decide)) rfl g_in_form k_in_form b_in_form .nil pass0 (pa_cons (pv 3) pa_nil)) (pa_cons (pe_call G_in_form (hr.mono (by decide)) rfl g_in_form k_in_form b_in_form .nil pass0 (pa_cons (pv 4) pa_nil)) pa_nil)))))))))), ?_⟩
  obtain ⟨v0, v1, v2, rfl, h⟩ := h
  obtain ⟨p, R, q, S, f, rfl, ⟨rs, hp, rR⟩, rfl, ⟨ss, hq, rS⟩, rfl, hR, hS, k⟩ := h
  have lr := rR.length
  have ls := rS.length
  rw [List.length_map] at lr ls
  refine ⟨sz0, fun M hM => ⟨sz0, fun N hN => ?_⟩⟩
  have nMN : N ≠ M := fun z => by rw [z, upd_same] at hN; cases hN
  have sM := Same.new (o := .lst []) hM
  have sN := Same.new (o := .lst []) hN
  have hN0 : H N = none := sM.free hN
  refine ⟨fun m σ H' => ∃ (i j : Nat) (v1 v2 v3 : Option V) (A B : Edit), m = (R.length - i) + (S.length - j) ∧ σ = [some (.ref p), some (.ref q), some (.bl f), some (.ref M), some (.ref N), some (.int i), some (.int j), v1, v2, v3] ∧ Same H H' ∧ Ed H' M A ∧ Ed H' N B ∧ A.length ≤ i + j ∧ B.length ≤ i + j ∧ i ≤ R.length ∧ j ≤ S.length ∧ rbs f R S = (rbs f (R.drop i) (S.drop j)).map (fun e => (A ++ e.1, B ++ e.2)), ⟨_, 0, 0, none, none, none, [], [], rfl, rfl, sM.trans sN, ⟨[], sN _ _ upd_same, .nil⟩, ⟨[], upd_same, .nil⟩, Nat.le_refl _, Nat.le_refl _, Nat.zero_le _, Nat.zero_le _, ?_⟩, ?_⟩
  · show _ = (rbs f R S).map fun e => ([] ++ e.1, [] ++ e.2)
    cases rbs f R S <;> rfl
  rintro m σ H' ⟨i, j, v1, v2, v3, A, B, rfl, rfl, s, ⟨as, ha, ra⟩, ⟨bs, hb, rb⟩, hal, hbl, hi, hj, hc⟩
  have la := ra.length
  have lb := rb.length
  rw [List.length_map] at la lb
  have lenR : ∀ H'', Same H H'' → SqL K H'' p rs := fun H'' s => SqL.of (s _ _ hp)
  have lenS : ∀ H'', Same H H'' → SqL K H'' q ss := fun H'' s => SqL.of (s _ _ hq)
  have rR' := rR.mono s
  have rS' := rS.mono s
  refine ev_if (ev_or (ev_ltlen (K := K) (ev_var rfl) (ev_var rfl) (lenR H' s) rR') fun _ => ev_ltlen (K := K) (ev_var rfl) (ev_var rfl) (lenS H' s) rS') (fun c => ?_) fun c => ?_
  case refine_2 =>
    rw [Bool.or_eq_false_iff] at c
    have e1 : R.length ≤ i := Nat.le_of_not_lt (of_decide_eq_false c.1)
    have e2 : S.length ≤ j := Nat.le_of_not_lt (of_decide_eq_false c.2)
    rw [drop_none e1, drop_none e2, rbs_nil] at hc
    refine ⟨_, rfl, _, rfl, M, A, rfl, ⟨as, ha, ra⟩, by omega, fun H2 p1 s2 n1 hE => ?_⟩
    refine ⟨_, rfl, _, rfl, N, B, rfl, Ls.mono s2 ⟨bs, hb, rb⟩, by omega, fun H3 p2 s3 n2 hE3 => ⟨sz2, fun r hr => ?_⟩⟩
    refine k _ _ (((s.trans s2).trans s3).trans (Same.new hr)) ?_
    have e3 : Vatrkj.rebase f R S = some (Vatrkj.formed A, Vatrkj.formed B) := by rw [rebase_is, hc]; simp
    rw [e3]
    exact ⟨r, p1, p2, rfl, upd_same, s.free n1, (s.trans s2).free n2, (hE.mono s3).mono (Same.new hr), hE3.mono (Same.new hr)⟩
  refine ⟨_, fun _ _ h => h, ?_⟩
  refine ev_nextV (K := K) 3 (ev_var rfl) (ev_var rfl) (lenR H' s) rR' _ ?_
  refine ev_nextV (K := K) 3 (ev_var rfl) (ev_var rfl) (lenS H' s) rS' _ ?_
  refine ev_if (ev_and (ev_tB (ev_var rfl)) fun _ => ev_or (ev_tB (ev_var rfl)) fun _ => ev_not (ev_tB (ev_var rfl))) (fun c1 => ?_) fun c1 => ?_
  · rw [Bool.and_eq_true, Bool.or_eq_true] at c1
    obtain ⟨y, hy, h0⟩ := nx_true c1.1
    obtain ⟨x, rfl⟩ := s0_put h0
    have hi' := ix_lt hy
    obtain ⟨t, h1, h2⟩ := rR'.get (i := i) (r := sI (.put x)) (by rw [List.getElem?_map, hy]; rfl)
    refine ⟨_, rfl, .inl ⟨rfl, _, SqL.of ha⟩, ev_at (K := K) (ev_var rfl) (ev_var rfl) (lenR H' s) h1 _ ?_⟩
    refine ⟨M, as, _, rfl, rfl, ha, lt_size (by omega), ?_⟩
    have hb1 : (upd H' M (.lst (as ++ [V.ref t]))) N = some (.lst bs) := by rw [upd_ne nMN]; exact hb
    refine ⟨_, rfl, .inl ⟨rfl, _, SqL.of hb1⟩, sz3, fun n hn => ?_⟩
    have sn := Same.new (o := .tup [V.int 0, V.int 0, V.int 0]) hn
    refine ⟨N, bs, _, rfl, rfl, sn _ _ hb1, lt_size (by omega), ?_⟩
    refine ⟨_, rfl, _, _, rfl, rfl, ?_⟩
    have hz : f = true ∨ isPut (S.drop j) = false := by
      rw [isPut_nx]
      rcases c1.2 with z | z
      · exact .inl z
      · exact .inr (by simpa using z)
    rw [drop_more hy, rbs_r _ _ _ _ hz, map_pr] at hc
    refine ⟨_, ?_, i + 1, j, _, _, v3, A ++ [.put x], B ++ [.keep], rfl, rfl, ((s.upd hM).trans sn).upd hN0, ⟨as ++ [V.ref t], ?_, ?_⟩, ⟨_, upd_same, ?_⟩, ?_, ?_, hi', hj, hc⟩
    · omega
    · rw [upd_ne nMN.symm]; exact sn _ _ upd_same
    · rw [List.map_append]; exact (((ra.snoc (r := sI (.put x)) h2).updL ha).updN hn).updL (sn _ _ hb1)
    · rw [List.map_append]; exact (((rb.updL ha).updN hn).snoc (r := sI .keep) upd_same).updL (sn _ _ hb1)
    · rw [List.length_append]; show A.length + 1 ≤ _; omega
    · rw [List.length_append]; show B.length + 1 ≤ _; omega
  refine ev_if (ev_tB (ev_var rfl)) (fun c2 => ?_) fun c2 => ?_
  · obtain ⟨y, hy, h0⟩ := nx_true c2
    obtain ⟨x, rfl⟩ := s0_put h0
    have hj' := ix_lt hy
    obtain ⟨t, h1, h2⟩ := rS'.get (i := j) (r := sI (.put x)) (by rw [List.getElem?_map, hy]; rfl)
    refine ⟨_, rfl, .inl ⟨rfl, _, SqL.of ha⟩, sz3, fun n hn => ?_⟩
    have sn := Same.new (o := .tup [V.int 0, V.int 0, V.int 0]) hn
    refine ⟨M, as, _, rfl, rfl, sn _ _ ha, lt_size (by omega), ?_⟩
    have s2 : Same H (upd (upd H' n (.tup [V.int 0, V.int 0, V.int 0])) M (.lst (as ++ [V.ref n]))) := (s.trans sn).upd hM
    have hb1 : (upd (upd H' n (.tup [V.int 0, V.int 0, V.int 0])) M (.lst (as ++ [V.ref n]))) N = some (.lst bs) := by rw [upd_ne nMN]; exact sn _ _ hb
    refine ⟨_, rfl, .inl ⟨rfl, _, SqL.of hb1⟩, ev_at (K := K) (ev_var rfl) (ev_var rfl) (lenS _ s2) h1 _ ?_⟩
    refine ⟨N, bs, _, rfl, rfl, hb1, lt_size (by omega), ?_⟩
    refine ⟨_, rfl, _, _, rfl, rfl, ?_⟩
    have hz : f = false ∨ isPut (R.drop i) = false := by
      rw [isPut_nx]
      rw [c2] at c1
      cases f with
      | false => exact .inl rfl
      | true => exact .inr (by simpa using c1)
    rw [drop_more hy, rbs_s _ _ _ _ hz, map_pr] at hc
    refine ⟨_, ?_, i, j + 1, _, _, v3, A ++ [.keep], B ++ [.put x], rfl, rfl, s2.upd hN0, ⟨as ++ [V.ref n], ?_, ?_⟩, ⟨_, upd_same, ?_⟩, ?_, ?_, hi, hj', hc⟩
    · omega
    · rw [upd_ne nMN.symm]; exact upd_same
    · rw [List.map_append]; exact (((ra.updN hn).snoc (r := sI .keep) upd_same).updL (sn _ _ ha)).updL hb1
    · rw [List.map_append]; exact ((((rb.snoc (r := sI (.put x)) h2).updN hn).updL (sn _ _ ha))).updL hb1
    · rw [List.length_append]; show A.length + 1 ≤ _; omega
    · rw [List.length_append]; show B.length + 1 ≤ _; omega
  have c3 : nx R i 3 = false := by rw [c2] at c1; simpa using c1
  refine ev_if (ev_and (ev_ltlen (K := K) (ev_var rfl) (ev_var rfl) (lenR H' s) rR') fun _ => ev_ltlen (K := K) (ev_var rfl) (ev_var rfl) (lenS H' s) rS') (fun cb => ?_) fun cb => ?_
  · rw [Bool.and_eq_true] at cb
    have hi' : i < R.length := of_decide_eq_true cb.1
    have hj' : j < S.length := of_decide_eq_true cb.2
    obtain ⟨y, t, hy, h1, h2⟩ := ed_get rR' hi'
    obtain ⟨z, u, hz, g1, g2⟩ := ed_get rS' hj'
    have ny := n_put (nx_false c3 hy)
    have nz := n_put (nx_false c2 hz)
    rw [drop_more hy, drop_more hz, rbs_both _ _ _ _ _ ny nz] at hc
    refine ev_at (K := K) (ev_var rfl) (ev_var rfl) (lenR H' s) h1 _ ?_
    refine ev_at (K := K) (ev_var rfl) (ev_var rfl) (lenS H' s) g1 _ ?_
    refine ⟨_, rfl, _, _, _, rfl, y, z, f, ⟨t, rfl, h2⟩, ⟨u, rfl, g2⟩, rfl, ny, nz, fun H2 w s2 hw => ?_⟩
    refine ⟨_, rfl, rfl, _, rfl, ?_⟩
    cases e : Vatrkj.cross f y z with
    | none =>
      rw [e] at hc hw
      obtain rfl : w = .non := hw
      refine iteP rfl (k _ _ (s.trans s2) ?_)
      rw [rebase_is, hc]; rfl
    | some m =>
      rw [e] at hc hw
      obtain ⟨b, p1, q1, rfl, hb2, nq1, ⟨xs, hx, rx⟩, ⟨ys, hy2, ry⟩⟩ := hw
      refine iteN (by intro z; cases z) ?_
      have ha2 := s2 _ _ ha
      have hbb := s2 _ _ hb
      have lx := rx.length
      have ly := ry.length
      rw [List.length_map] at lx ly
      have lm := cross_len e
      refine ⟨_, rfl, .inl ⟨rfl, _, SqL.of ha2⟩, ev_ixT (K := K) (ev_var rfl) ev_c (SqT.of hb2) (v := .ref p1) rfl _ ?_⟩
      refine ⟨M, p1, as, xs, rfl, rfl, ha2, hx, le_size (by omega), ?_⟩
      have s3 : Same H (upd H2 M (.lst (as ++ xs))) := (s.trans s2).upd hM
      have hb3 : (upd H2 M (.lst (as ++ xs))) b = some (.tup [.ref p1, .ref q1]) := by rw [upd_ne (ne_of hb2 ha2 (by intro z; cases z))]; exact hb2
      have hb4 : (upd H2 M (.lst (as ++ xs))) N = some (.lst bs) := by rw [upd_ne nMN]; exact hbb
      have hy3 : (upd H2 M (.lst (as ++ xs))) q1 = some (.lst ys) := by rw [upd_ne (fun z => by rw [z, ha] at nq1; cases nq1)]; exact hy2
      refine ⟨_, rfl, .inl ⟨rfl, _, SqL.of hb4⟩, ev_ixT (K := K) (ev_var rfl) ev_c (SqT.of hb3) (v := .ref q1) rfl _ ?_⟩
      refine ⟨N, q1, bs, ys, rfl, rfl, hb4, hy3, le_size (by omega), ?_⟩
      refine ⟨_, rfl, _, _, rfl, rfl, ?_⟩
      refine ⟨_, rfl, _, _, rfl, rfl, ?_⟩
      have hc' : rbs f R S = ((rbs f (R.drop (i + 1)) (S.drop (j + 1))).map (fun e => (m.1 ++ e.1, m.2 ++ e.2))).map (fun e => (A ++ e.1, B ++ e.2)) := hc
      rw [map_pr2] at hc'
      refine ⟨_, ?_, i + 1, j + 1, _, _, _, A ++ m.1, B ++ m.2, rfl, rfl, s3.upd hN0, ⟨as ++ xs, ?_, ?_⟩, ⟨_, upd_same, ?_⟩, ?_, ?_, hi', hj', hc'⟩
      · omega
      · rw [upd_ne nMN.symm]; exact upd_same
      · rw [List.map_append]; exact (((ra.mono s2).append rx).updL ha2).updL hb4
      · rw [List.map_append]; exact (((rb.mono s2).append ry).updL ha2).updL hb4
      · rw [List.length_append]; omega
      · rw [List.length_append]; omega
  · refine ⟨_, rfl, rfl, _, rfl, iteP rfl (k _ _ s ?_)⟩
    rw [rebase_is, hc]
    rw [Bool.or_eq_true, decide_eq_true_eq, decide_eq_true_eq] at c
    rw [Bool.and_eq_false_iff, decide_eq_false_iff_not, decide_eq_false_iff_not] at cb
    have e0 : rbs f (R.drop i) (S.drop j) = none := by
      rcases c with c | c
      · obtain ⟨y, hy⟩ := get_of c
        rw [drop_more hy, drop_none (by omega : S.length ≤ j)]
        exact rbs_left _ _ _ (n_put (nx_false c3 hy))
      · obtain ⟨z, hz⟩ := get_of c
        rw [drop_more hz, drop_none (by omega : R.length ≤ i)]
        exact rbs_right _ _ _ (n_put (nx_false c2 hz))
    rw [e0]; rfl
end Ev

namespace Ev
open PySem PySem.Spec PyProof.Rows L2
open Vatrkj (Letter Edit Text)
/-! ### letters told -/
def sp_is_sign (K : PySem.W.Frag) (_ : Ad) : Sp := sp1 fun v H Q => ∃ z : Int, v = .int z ∧ Q (.bl (Vatrkj.isSign z)) H
theorem use_is_sign {P : Program} {w : World} {K : PySem.W.Frag} {mg : Str → Option Value} {base : Heap} {a : Ad} (T : Txt K mg a) (D : Dfn K mg "is_sign" "is_sign" s_is_sign ["number"])  : Use P w K mg base 1 "is_sign" ["number"] (sp_is_sign K a) := by
  obtain ⟨f, fd, F, gf, bf⟩ := D
  refine ⟨f, fd, gf, F.kp, bf, F.ok (k := 0) sc_is_sign (fun vs H Q E h => h.len) (fun cdv A outer s H vs Q E hr h => ?_)⟩
  refine ⟨_, (pss_one (ps_ret (pe_or (pe_cmpR op_eq (pv 0) pe_int (nomark _)) (pe_one (pe_chain op_le op_le pe_int (pv 0) pe_int))))), ?_⟩
  obtain ⟨v0, rfl, h⟩ := h
  obtain ⟨z, rfl, k⟩ := h
  refine ev_orV (ev_eq (ev_var rfl) ev_c) (fun _ => ev_chain (r := rI0 fun i j => .bl (decide (i ≤ j))) (r' := rI0 fun i j => .bl (decide (i ≤ j))) (x := .int 32) (y := .int z) (z := .int 126) ev_c (ev_var rfl) ev_c (fun Q q => ⟨_, _, rfl, rfl, q⟩) (fun Q q => ⟨_, _, rfl, rfl, q⟩)) _ ?_
  exact k
def sp_is_look (K : PySem.W.Frag) (_ : Ad) : Sp := sp1 fun v H Q => ∃ z : Int, v = .int z ∧ Q (.bl (Vatrkj.isLook z)) H
theorem use_is_look {P : Program} {w : World} {K : PySem.W.Frag} {mg : Str → Option Value} {base : Heap} {a : Ad} (T : Txt K mg a) (D : Dfn K mg "is_look" "is_look" s_is_look ["number"])  : Use P w K mg base 1 "is_look" ["number"] (sp_is_look K a) := by
  obtain ⟨f, fd, F, gf, bf⟩ := D
  refine ⟨f, fd, gf, F.kp, bf, F.ok (k := 0) sc_is_look (fun vs H Q E h => h.len) (fun cdv A outer s H vs Q E hr h => ?_)⟩
  refine ⟨_, (pss_one (ps_ret (pe_chain op_le op_le pe_int (pv 0) pe_int))), ?_⟩
  obtain ⟨v0, rfl, h⟩ := h
  obtain ⟨z, rfl, k⟩ := h
  refine ev_chain (r := rI0 fun i j => .bl (decide (i ≤ j))) (r' := rI0 fun i j => .bl (decide (i ≤ j))) (x := .int 0) (y := .int z) (z := .int 99) ev_c (ev_var rfl) ev_c (fun Q q => ⟨_, _, rfl, rfl, q⟩) (fun Q q => ⟨_, _, rfl, rfl, q⟩) _ ?_
  exact k
def sp_is_paint (K : PySem.W.Frag) (_ : Ad) : Sp := sp2 fun v0 v1 H Q => ∃ f g : Int, v0 = .int f ∧ v1 = .int g ∧ Q (.bl (Vatrkj.isLook f && (Vatrkj.isLook g && !(f == g)))) H
theorem use_is_paint {P : Program} {w : World} {K : PySem.W.Frag} {mg : Str → Option Value} {base : Heap} {a : Ad} (T : Txt K mg a) (D : Dfn K mg "is_paint" "is_paint" s_is_paint ["f", "g"]) (U_is_look : Use P w K mg base 1 "is_look" ["number"] (sp_is_look K a)) : Use P w K mg base 2 "is_paint" ["f", "g"] (sp_is_paint K a) := by
  obtain ⟨f, fd, F, gf, bf⟩ := D
  obtain ⟨f_is_look, fd_is_look, g_is_look, k_is_look, b_is_look, G_is_look⟩ := U_is_look
  refine ⟨f, fd, gf, F.kp, bf, F.ok (k := 1) sc_is_paint (fun vs H Q E h => h.len) (fun cdv A outer s H vs Q E hr h => ?_)⟩
  refine ⟨_, (pss_one (ps_ret (pe_and (pe_call G_is_look (hr.mono (by decide)) rfl g_is_look k_is_look b_is_look .nil pass0 (pa_cons (pv 0) pa_nil)) (pe_and (pe_call G_is_look (hr.mono (by decide)) rfl g_is_look k_is_look b_is_look .nil pass0 (pa_cons (pv 1) pa_nil)) (pe_one (pe_cmpR op_ne (pv 0) (pv 1) (nomark _))))))), ?_⟩
  obtain ⟨v0, v1, rfl, h⟩ := h
  obtain ⟨f, g, rfl, rfl, k⟩ := h
  refine ⟨_, rfl, _, rfl, f, rfl, _, rfl, iteB (fun c => ?_) fun c => ?_⟩
  · rw [c, Bool.true_and] at k
    refine ⟨_, rfl, _, rfl, g, rfl, _, rfl, iteB (fun d => ?_) fun d => ?_⟩
    · rw [d, Bool.true_and] at k
      exact ev_ne (ev_var rfl) (ev_var rfl) _ k
    · rw [d, Bool.false_and] at k
      exact k
  · rw [c, Bool.false_and] at k
    exact k
/-- a list of ints -/
def Is (K : PySem.W.Frag) (H : Hp) (p : Addr) (l : List Int) : Prop := SqL K H p (l.map V.int)
theorem Is.mono {K : PySem.W.Frag} {H H' : Hp} {p : Addr} {l : List Int} (s : Same H H') (h : Is K H p l) : Is K H' p l := s.seq h
theorem Is.of {K : PySem.W.Frag} {H : Hp} {p : Addr} {l : List Int} (h : H p = some (.lst (l.map V.int))) : Is K H p l := SqL.of h
theorem ev_int {K : PySem.W.Frag} {σ : L2.St} {H : Hp} {ta tb : TE} {p : Addr} {l : List Int} {i : Nat} {j z : Int} (ha : Evs ta σ H (.ref p)) (hb : Evs tb σ H (.int j)) (hs : Is K H p l) (e : j = (i : Int)) (hi : l[i]? = some z) : Evs (tOp (rIxL K) ta tb) σ H (.int z) :=
  ev_ixL ha hb hs (at_of e (by rw [List.getElem?_map, hi]; rfl))
theorem rg2 {n : Nat} (h : n ≤ 16000) : RgC 0 (2 * n : Nat) 2 n := by
  have e : Builtin.Range.rangeSize 0 (2 * n : Nat) 2 = (n : Int) := by
    unfold Builtin.Range.rangeSize
    simp only [show (2 : Int) > 0 by decide, if_true]
    split <;> omega
  refine ⟨by decide, by decide, ?_, e⟩
  have fl : ∀ i : Int, -(10 ^ 10) ≤ i → i ≤ 10 ^ 10 → Builtin.Range.rangeFitsLong i = true := fun i h1 h2 => by
    unfold Builtin.Range.rangeFitsLong
    rw [Bool.and_eq_true, decide_eq_true_eq, decide_eq_true_eq]
    omega
  unfold Builtin.Range.small
  rw [e]
  simp only [fl 0 (by decide) (by decide), fl 2 (by decide) (by decide), fl (2 * n : Nat) (by omega) (by omega), fl n (by omega) (by omega), fl (0 + 2 * n) (by omega) (by omega), fl (0 + n * 2) (by omega) (by omega), Bool.and_self, Bool.true_and, Bool.and_true, Bool.or_true]
  rw [if_pos (by decide), fl _ (by omega) (by omega), Bool.or_true]
def sp_letters_told (K : PySem.W.Frag) (_ : Ad) : Sp := sp1 fun v H Q => ∃ p l, v = .ref p ∧ Is K H p l ∧ l.length ≤ 16000 ∧ ∀ H' v, Same H H' → OTxN H H' v (Vatrkj.lettersOf l) → Q v H'
theorem lettersOf_two (a b : Int) (r : List Int) : Vatrkj.lettersOf (a :: b :: r) = if (Vatrkj.isSign a && Vatrkj.isLook b) = true then (Vatrkj.lettersOf r).map fun t => { sign := a.toNat, look := b.toNat } :: t else none := rfl
theorem map_conT {o : Option Text} {a : Text} {x : Letter} : (o.map fun e => x :: e).map (a ++ ·) = o.map ((a ++ [x]) ++ ·) := by
  cases o with
  | none => rfl
  | some x => simp
theorem sign_nat {z : Int} (h : Vatrkj.isSign z = true) : (z.toNat : Int) = z := by
  simp only [Vatrkj.isSign, Bool.or_eq_true, Bool.and_eq_true, beq_iff_eq, decide_eq_true_eq] at h
  omega
theorem look_nat {z : Int} (h : Vatrkj.isLook z = true) : (z.toNat : Int) = z := by
  simp only [Vatrkj.isLook, Bool.and_eq_true, decide_eq_true_eq] at h
  omega
theorem use_letters_told {P : Program} {w : World} {K : PySem.W.Frag} {mg : Str → Option Value} {base : Heap} {a : Ad} (T : Txt K mg a) (D : Dfn K mg "letters_told" "letters_told" s_letters_told ["numbers"]) (U_is_sign : Use P w K mg base 1 "is_sign" ["number"] (sp_is_sign K a)) (U_is_look : Use P w K mg base 1 "is_look" ["number"] (sp_is_look K a)) : Use P w K mg base 2 "letters_told" ["numbers"] (sp_letters_told K a) := by
  obtain ⟨f, fd, F, gf, bf⟩ := D
  obtain ⟨f_is_sign, fd_is_sign, g_is_sign, k_is_sign, b_is_sign, G_is_sign⟩ := U_is_sign
  obtain ⟨f_is_look, fd_is_look, g_is_look, k_is_look, b_is_look, G_is_look⟩ := U_is_look
  refine ⟨f, fd, gf, F.kp, bf, F.ok (k := 1) sc_letters_told (fun vs H Q E h => h.len) (fun cdv A outer s H vs Q E hr h => ?_)⟩
  refine ⟨_, (pss_cons (ps_if (pt_cmpR op_ne (pe_op op_mod (pe_callB call_len_seq rfl T.n_len PySem.boot_len (pa_cons (pv 0) pa_nil)) pe_int) pe_int (nomark _)) (pss_one (ps_ret pe_non)) pss_nil)
       (pss_cons (ps_set (i := 1) sc_letters_told.nd rfl (Or.inl rfl) (pe_lst pa_nil))
       (pss_cons (ps_for PassesOwn.never rfl (pi_range3 rfl T.n_range (pa_cons pe_int (pa_cons (pe_callB call_len_seq rfl T.n_len PySem.boot_len (pa_cons (pv 0) pa_nil)) (pa_cons pe_int pa_nil)))) (pg_name (i := 2) sc_letters_told.nd rfl (Or.inl rfl)) (pss_cons (ps_if (PW.pt (pw_or (pt_not (pt_val (pe_call G_is_sign (hr.mono (by decide)) rfl g_is_sign k_is_sign b_is_sign .nil pass0 (pa_cons (pe_ix (ix_list : IxR _ (rIxL K)) (pv 0) (pv 2) (fun _ _ => rfl)) pa_nil)))) (pw_or1 (pt_not (pt_val (pe_call G_is_look (hr.mono (by decide)) rfl g_is_look k_is_look b_is_look .nil pass0 (pa_cons (pe_ix (ix_list : IxR _ (rIxL K)) (pv 0) (pe_op op_add (pv 2) pe_int) (fun _ _ => rfl)) pa_nil))))))) (pss_one (ps_ret pe_non)) pss_nil)
       (pss_one (ps_expr (pe_bm PySem.F.plainAttrs_list PySem.F.slot_list_append PySem.F.type_list_append mt_append (pv 1) (pa_cons (pe_tup (pa_cons (pe_ix (ix_list : IxR _ (rIxL K)) (pv 0) (pv 2) (fun _ _ => rfl)) (pa_cons (pe_ix (ix_list : IxR _ (rIxL K)) (pv 0) (pe_op op_add (pv 2) pe_int) (fun _ _ => rfl)) pa_nil))) pa_nil))))))
       (pss_one (ps_ret (pv 1)))))), ?_⟩
  obtain ⟨v0, rfl, h⟩ := h
  obtain ⟨p, l, rfl, hl, hn, k⟩ := h
  have e0 := ev_len (K := K) (σ := [some (.ref p), none, none]) (H := H) (ev_var (i := 0) rfl) hl
  rw [List.length_map] at e0
  refine ev_if (ev_test (ev_ne (ev_mod e0 ev_c (by decide)) ev_c)) (fun c => ?_) fun c => ?_
  · have c' := nd_t c
    refine k _ _ (Same.refl H) ?_
    cases q : Vatrkj.lettersOf l with
    | none => rfl
    | some t => have := lettersOf_len l t q; omega
  have c' := nd_f c
  obtain ⟨m, hm⟩ : ∃ m, l.length = 2 * m := ⟨l.length / 2, by omega⟩
  refine ⟨sz0, fun M hM => ?_⟩
  have sM := Same.new (o := .lst []) hM
  refine ⟨_, rfl, p, _, rfl, .inl (hl.mono sM), ⟨0, _, 2, m, rfl, by rw [List.length_map, hm]; exact rg2 (by omega), ?_⟩⟩
  refine for_rangeC (fun i σ H' => ∃ (v : Option V) (t : Text), σ = [some (.ref p), some (.ref M), v] ∧ Same H H' ∧ Tx H' M t ∧ t.length = i ∧ Vatrkj.lettersOf l = (Vatrkj.lettersOf (l.drop (2 * i))).map (t ++ ·)) ?_ ?_ ?_
  · refine ⟨none, [], rfl, sM, ⟨[], upd_same, .nil⟩, rfl, ?_⟩
    show _ = (Vatrkj.lettersOf l).map ([] ++ ·)
    cases Vatrkj.lettersOf l <;> rfl
  · rintro i σ H' hi ⟨v, t, rfl, s, ⟨ts, hts, rt⟩, ht, hq⟩
    have lt := rt.length
    rw [List.length_map] at lt
    obtain ⟨x, hx⟩ := get_of (l := l) (i := 2 * i) (by omega)
    obtain ⟨y, hy⟩ := get_of (l := l) (i := 2 * i + 1) (by omega)
    rw [drop_more hx, drop_more hy, lettersOf_two] at hq
    have hl' := hl.mono s
    have ex := ev_int (K := K) (σ := [some (.ref p), some (.ref M), some (.int (0 + (i : Nat) * 2))]) (j := 0 + (i : Nat) * 2) (i := 2 * i) (ev_var (i := 0) rfl) (ev_var (i := 2) rfl) hl' (by omega) hx
    have ey := ev_int (K := K) (σ := [some (.ref p), some (.ref M), some (.int (0 + (i : Nat) * 2))]) (j := 0 + (i : Nat) * 2 + 1) (i := 2 * i + 1) (ev_var (i := 0) rfl) (ev_add (ev_var (i := 2) rfl) (ev_c (v := .int 1))) hl' (by omega) hy
    refine ev_if (b := !Vatrkj.isSign x || !Vatrkj.isLook y) (ev_or (ev_not (ev_tB (ev_call1 ex fun Q q => ⟨_, rfl, x, rfl, q⟩))) fun _ => ev_not (ev_tB (ev_call1 ey fun Q q => ⟨_, rfl, y, rfl, q⟩))) (fun c => ?_) fun c => ?_
    · rw [if_neg (by intro z; rw [Bool.and_eq_true] at z; rw [z.1, z.2] at c; cases c)] at hq
      refine k _ _ s ?_
      rw [hq]; rfl
    · rw [Bool.or_eq_false_iff] at c
      have cx : Vatrkj.isSign x = true := by simpa using c.1
      have cy : Vatrkj.isLook y = true := by simpa using c.2
      rw [if_pos (by rw [cx, cy]; rfl), map_conT] at hq
      refine ⟨_, rfl, .inl ⟨rfl, _, SqL.of hts⟩, ex _ ?_⟩
      refine ey _ ⟨sz2, fun n hn' => ?_⟩
      have sn := Same.new (o := .tup [V.int x, V.int y]) hn'
      refine ⟨M, ts, _, rfl, rfl, sn _ _ hts, lt_size (by omega), ?_⟩
      refine ⟨_, t ++ [⟨x.toNat, y.toNat⟩], rfl, (s.trans sn).upd hM, ⟨_, upd_same, ?_⟩, ?_, hq⟩
      · rw [List.map_append]
        refine ((rt.updN hn').snoc (r := lI ⟨x.toNat, y.toNat⟩) ?_).updL (sn _ _ hts)
        rw [upd_same]
        show _ = some (HO.tup [V.int x.toNat, V.int y.toNat])
        rw [sign_nat cx, look_nat cy]
      · rw [List.length_append, ht]; rfl
  · rintro σ H' ⟨v, t, rfl, s, hT, ht, hq⟩
    rw [← hm, List.drop_length] at hq
    refine ⟨_, rfl, k _ _ s ?_⟩
    rw [hq]
    exact ⟨M, rfl, hM, by simpa using hT⟩
/-! ### parts told -/
theorem cut_nat {xs : List V} {i j : Nat} (hi : i ≤ xs.length) (hj : j ≤ xs.length) : cutV xs (some (i : Int)) (some (j : Int)) = (xs.drop i).take (j - i) := by
  unfold cutV
  rw [HT.sIx_nat, HT.sIx_nat, Nat.min_eq_left hi, Nat.min_eq_left hj]
theorem cut_from {xs : List V} {i : Nat} (hi : i ≤ xs.length) : cutV xs (some (i : Int)) none = xs.drop i := by
  unfold cutV
  rw [HT.sIx_nat, HT.sIx_none, Nat.min_eq_left hi, List.take_of_length_le (by rw [List.length_drop]; omega)]
def sp_letters_end (K : PySem.W.Frag) (_ : Ad) : Sp := sp3 fun v0 v1 v2 H Q => ∃ (p : Addr) (L : List Int) (i n : Nat), v0 = .ref p ∧ Is K H p L ∧ L.length ≤ 16000 ∧ v1 = .int i ∧ i ≤ L.length ∧ v2 = .int n ∧ n ≤ 2000 ∧ ∀ H' v, Same H H' → v = (if i + 2 * n ≤ L.length ∧ (Vatrkj.lettersOf ((L.drop i).take (2 * n))).isSome = true then V.int ((i + 2 * n : Nat) : Int) else .non) → Q v H'
theorem use_letters_end {P : Program} {w : World} {K : PySem.W.Frag} {mg : Str → Option Value} {base : Heap} {a : Ad} (T : Txt K mg a) (D : Dfn K mg "letters_end" "letters_end" s_letters_end ["numbers", "at", "n"]) (U_letters_told : Use P w K mg base 2 "letters_told" ["numbers"] (sp_letters_told K a)) : Use P w K mg base 3 "letters_end" ["numbers", "at", "n"] (sp_letters_end K a) := by
  obtain ⟨f, fd, F, gf, bf⟩ := D
  obtain ⟨f_letters_told, fd_letters_told, g_letters_told, k_letters_told, b_letters_told, G_letters_told⟩ := U_letters_told
  refine ⟨f, fd, gf, F.kp, bf, F.ok (k := 2) sc_letters_end (fun vs H Q E h => h.len) (fun cdv A outer s H vs Q E hr h => ?_)⟩
  refine ⟨_, (pss_cons (ps_set (i := 3) sc_letters_end.nd rfl (Or.inl rfl) (pe_op op_add (pv 1) (pe_op op_mul pe_int (pv 2))))
       (pss_cons (ps_if (PW.pt (pw_or (pt_cmpR op_gt (pv 3) (pe_callB call_len_seq rfl T.n_len PySem.boot_len (pa_cons (pv 0) pa_nil)) (nomark _)) (pw_or1 (pt_cmpR op_isN (pe_call G_letters_told (hr.mono (by decide)) rfl g_letters_told k_letters_told b_letters_told .nil pass0 (pa_cons (pe_slice sl_list (pv 0) (po_some (pv 1)) (po_some (pv 3))) pa_nil)) pe_non (nomark _))))) (pss_one (ps_ret pe_non)) pss_nil)
       (pss_one (ps_ret (pv 3))))), ?_⟩
  obtain ⟨v0, v1, v2, rfl, h⟩ := h
  obtain ⟨p, L, i, n, rfl, hL, hl, rfl, hi, rfl, hn, k⟩ := h
  have e1 : Evs (tOp (rI0 fun i j => .int (i + j)) (tVar 1) (tOp (rI CMul fun i j => .int (i * j)) (tC (.int 2)) (tVar 2))) [some (.ref p), some (.int i), some (.int n), none] H (.int ((i + 2 * n : Nat) : Int)) := by
    have ee : ((i + 2 * n : Nat) : Int) = ((i : Int) + 2 * (n : Int)) := by omega
    rw [ee]
    exact fun Q q => ⟨_, rfl, _, rfl, _, _, rfl, rfl, .inl ⟨by decide, by decide⟩, _, _, rfl, rfl, q⟩
  refine e1 _ ?_
  have e0 := ev_len (K := K) (σ := [some (.ref p), some (.int i), some (.int n), some (.int ((i + 2 * n : Nat) : Int))]) (H := H) (ev_var (i := 0) rfl) hL
  rw [List.length_map] at e0
  by_cases c : L.length < i + 2 * n
  · refine ⟨_, rfl, e0 _ ⟨_, _, rfl, rfl, _, rfl, ?_⟩⟩
    refine iteP (by omega) (iteT (k _ _ (Same.refl H) ?_))
    rw [if_neg (by intro z; omega)]
  · refine ⟨_, rfl, e0 _ ⟨_, _, rfl, rfl, _, rfl, ?_⟩⟩
    refine iteN (by omega) ?_
    refine ⟨_, rfl, _, rfl, _, rfl, _, rfl, _, rfl, p, _, rfl, hL, fun q hq => ?_⟩
    have sq := Same.new (o := .lst (cutV (L.map V.int) (some (i : Int)) (some ((i + 2 * n : Nat) : Int)))) hq
    have hc : cutV (L.map V.int) (some (i : Int)) (some ((i + 2 * n : Nat) : Int)) = ((L.drop i).take (2 * n)).map V.int := by
      rw [cut_nat (by rw [List.length_map]; exact hi) (by rw [List.length_map]; omega), Nat.add_sub_cancel_left, List.map_take, List.map_drop]
    refine ⟨_, rfl, q, (L.drop i).take (2 * n), rfl, Is.of (by rw [upd_same, hc]), by rw [List.length_take, List.length_drop]; omega, fun H2 v s2 hv => ?_⟩
    refine ⟨rfl, _, rfl, ?_⟩
    cases e : Vatrkj.lettersOf ((L.drop i).take (2 * n)) with
    | none =>
      rw [e] at hv
      obtain rfl : v = .non := hv
      refine iteP rfl (k _ _ (sq.trans s2) ?_)
      rw [e, if_neg (by intro z; cases z.2)]
    | some t =>
      rw [e] at hv
      obtain ⟨u, rfl, _⟩ := hv
      refine iteN (by intro z; cases z) ⟨_, rfl, k _ _ (sq.trans s2) ?_⟩
      rw [e, if_pos ⟨by omega, rfl⟩]
end Ev

namespace Ev
open PySem PySem.Spec PyProof.Rows L2
open Vatrkj (Letter Edit Text)
/-! ### parts told -/
def PEnd (L : List Int) (i : Nat) (v : V) : Prop := match Vatrkj.partOf (L.drop i) with
  | none => v = .non
  | some x => v = .int ((L.length - x.2.length : Nat) : Int)
theorem PEnd.none {L : List Int} {i : Nat} (h : Vatrkj.partOf (L.drop i) = Option.none) : PEnd L i .non := by
  unfold PEnd; rw [h]
theorem PEnd.some {L : List Int} {i : Nat} {x : Edit × List Int} {z : Int} (h : Vatrkj.partOf (L.drop i) = Option.some x) (e : z = ((L.length - x.2.length : Nat) : Int)) : PEnd L i (.int z) := by
  unfold PEnd; rw [h, e]
theorem count_of {n : Int} (h : (decide (n < 1) || decide (2000 < n)) = false) : Vatrkj.isCount n = true := by
  rw [Bool.or_eq_false_iff, decide_eq_false_iff_not, decide_eq_false_iff_not] at h
  show (decide (1 ≤ n) && decide (n ≤ 2000)) = true
  rw [Bool.and_eq_true, decide_eq_true_eq, decide_eq_true_eq]
  omega
theorem count_no {n : Int} (h : (decide (n < 1) || decide (2000 < n)) = true) : ¬ Vatrkj.isCount n = true := by
  rw [Bool.or_eq_true, decide_eq_true_eq, decide_eq_true_eq] at h
  show ¬ (decide (1 ≤ n) && decide (n ≤ 2000)) = true
  rw [Bool.and_eq_true, decide_eq_true_eq, decide_eq_true_eq]
  omega
theorem count_nat {n : Int} (h : Vatrkj.isCount n = true) : ∃ m : Nat, n = (m : Int) ∧ 1 ≤ m ∧ m ≤ 2000 := by
  have h' : (decide (1 ≤ n) && decide (n ≤ 2000)) = true := h
  rw [Bool.and_eq_true, decide_eq_true_eq, decide_eq_true_eq] at h'
  exact ⟨n.toNat, by omega, by omega, by omega⟩
def sp_part_end (K : PySem.W.Frag) (_ : Ad) : Sp := sp2 fun v0 v1 H Q => ∃ (p : Addr) (L : List Int) (i : Nat), v0 = .ref p ∧ Is K H p L ∧ L.length ≤ 16000 ∧ v1 = .int i ∧ i < L.length ∧ ∀ H' v, Same H H' → PEnd L i v → Q v H'
theorem use_part_end {P : Program} {w : World} {K : PySem.W.Frag} {mg : Str → Option Value} {base : Heap} {a : Ad} (T : Txt K mg a) (D : Dfn K mg "part_end" "part_end" s_part_end ["numbers", "at"]) (U_letters_end : Use P w K mg base 3 "letters_end" ["numbers", "at", "n"] (sp_letters_end K a)) (U_is_paint : Use P w K mg base 2 "is_paint" ["f", "g"] (sp_is_paint K a)) : Use P w K mg base 4 "part_end" ["numbers", "at"] (sp_part_end K a) := by
  obtain ⟨f, fd, F, gf, bf⟩ := D
  obtain ⟨f_letters_end, fd_letters_end, g_letters_end, k_letters_end, b_letters_end, G_letters_end⟩ := U_letters_end
  obtain ⟨f_is_paint, fd_is_paint, g_is_paint, k_is_paint, b_is_paint, G_is_paint⟩ := U_is_paint
  refine ⟨f, fd, gf, F.kp, bf, F.ok (k := 3) sc_part_end (fun vs H Q E h => h.len) (fun cdv A outer s H vs Q E hr h => ?_)⟩
  refine ⟨_, (pss_cons (ps_set (i := 2) sc_part_end.nd rfl (Or.inl rfl) (pe_ix (ix_list : IxR _ (rIxL K)) (pv 0) (pv 1) (fun _ _ => rfl)))
       (pss_cons (ps_if (PW.pt (pw_or (pt_cmpR op_lt (pv 2) (pe_glob (v := .int 0) rfl T.c_KEEP ⟨_, rfl⟩) (nomark _)) (pw_or1 (pt_cmpR op_gt (pv 2) (pe_glob (v := .int 3) rfl T.c_PUT ⟨_, rfl⟩) (nomark _))))) (pss_one (ps_ret pe_non)) pss_nil)
       (pss_cons (ps_set (i := 3) sc_part_end.nd rfl (Or.inl rfl) (pe_op op_add (pv 1) (pe_ix (ix_tup : IxR _ (rIxT K)) (pe_glob (v := .ref a.a_HEADS) rfl T.c_HEADS rfl) (pv 2) (fun _ _ => rfl))))
       (pss_cons (ps_if (pt_cmpR op_gt (pv 3) (pe_callB call_len_seq rfl T.n_len PySem.boot_len (pa_cons (pv 0) pa_nil)) (nomark _)) (pss_one (ps_ret pe_non)) pss_nil)
       (pss_cons (ps_set (i := 4) sc_part_end.nd rfl (Or.inl rfl) (pe_ix (ix_list : IxR _ (rIxL K)) (pv 0) (pe_op op_sub (pv 3) pe_int) (fun _ _ => rfl)))
       (pss_cons (ps_if (PW.pt (pw_or (pt_cmpR op_lt (pv 4) pe_int (nomark _)) (pw_or1 (pt_cmpR op_gt (pv 4) (pe_glob (v := .int 2000) rfl T.c_MOST_IN_PART ⟨_, rfl⟩) (nomark _))))) (pss_one (ps_ret pe_non)) pss_nil)
       (pss_cons (ps_if (pt_cmpR op_eq (pv 2) (pe_glob (v := .int 0) rfl T.c_KEEP ⟨_, rfl⟩) (nomark _)) (pss_one (ps_ret (pv 3))) pss_nil)
       (pss_cons (ps_if (pt_cmpR op_eq (pv 2) (pe_glob (v := .int 1) rfl T.c_PAINT ⟨_, rfl⟩) (nomark _)) (pss_one (ps_ret (pe_ifExp (pt_val (pe_call G_is_paint (hr.mono (by decide)) rfl g_is_paint k_is_paint b_is_paint .nil pass0 (pa_cons (pe_ix (ix_list : IxR _ (rIxL K)) (pv 0) (pe_op op_add (pv 1) pe_int) (fun _ _ => rfl)) (pa_cons (pe_ix (ix_list : IxR _ (rIxL K)) (pv 0) (pe_op op_add (pv 1) pe_int) (fun _ _ => rfl)) pa_nil)))) (pv 3) pe_non))) pss_nil)
       (pss_one (ps_ret (pe_call G_letters_end (hr.mono (by decide)) rfl g_letters_end k_letters_end b_letters_end .nil pass0 (pa_cons (pv 0) (pa_cons (pv 3) (pa_cons (pv 4) pa_nil)))))))))))))), ?_⟩
  obtain ⟨v0, v1, rfl, h⟩ := h
  obtain ⟨p, L, i, rfl, hL, hl, rfl, hi, k⟩ := h
  obtain ⟨kd, hk⟩ := get_of hi
  have hd := drop_more hk
  refine ev_int (ev_var rfl) (ev_var rfl) hL rfl hk _ ?_
  refine ev_if (ev_or (ev_test (ev_lt (ev_var rfl) ev_c)) fun _ => ev_test (ev_gt (ev_var rfl) ev_c)) (fun c => ?_) fun c => ?_
  · rw [Bool.or_eq_true, decide_eq_true_eq, decide_eq_true_eq] at c
    exact k _ _ (Same.refl H) (.none (by rw [hd]; exact partOf_kind c))
  rw [Bool.or_eq_false_iff, decide_eq_false_iff_not, decide_eq_false_iff_not] at c
  have k4 : kd = 0 ∨ kd = 1 ∨ kd = 2 ∨ kd = 3 := by omega
  have lL : (L.map V.int).length = L.length := List.length_map ..
  rcases k4 with rfl | rfl | rfl | rfl
  · refine ev_add (ev_var rfl) (ev_ixT (K := K) ev_c (ev_var rfl) (T.h_HEADS H) (v := .int 2) rfl) _ ?_
    refine ev_if (ev_test (ev_gt (ev_var rfl) (ev_len (K := K) (ev_var rfl) hL))) (fun c1 => ?_) fun c1 => ?_
    · have c1' := of_decide_eq_true c1
      rw [lL] at c1'
      exact k _ _ (Same.refl H) (.none (by rw [hd]; exact partOf_short (.inl rfl) (by rw [List.length_drop]; omega)))
    have c1' := of_decide_eq_false c1
    rw [lL] at c1'
    obtain ⟨n, hn⟩ := get_of (l := L) (i := i + 1) (by omega)
    have hd2 := drop_more hn
    refine ev_int (ev_var rfl) (ev_sub (ev_var rfl) ev_c) hL (i := i + 1) (by omega) hn _ ?_
    refine ev_if (ev_or (ev_test (ev_lt (ev_var rfl) ev_c)) fun _ => ev_test (ev_gt (ev_var rfl) ev_c)) (fun c2 => ?_) fun c2 => ?_
    · exact k _ _ (Same.refl H) (.none (by rw [hd, hd2, partOf_0, if_neg (count_no c2)]))
    refine ev_if (ev_test (ev_eq (ev_var rfl) ev_c)) (fun _ => ?_) fun c3 => ?_
    · refine ⟨_, rfl, k _ _ (Same.refl H) (.some (by rw [hd, hd2, partOf_0, if_pos (count_of c2)]) ?_)⟩
      show (i : Int) + 2 = ((L.length - (L.drop (i + 1 + 1)).length : Nat) : Int)
      rw [List.length_drop]; omega
    · exact no_tf c3
  · refine ev_add (ev_var rfl) (ev_ixT (K := K) ev_c (ev_var rfl) (T.h_HEADS H) (v := .int 4) rfl) _ ?_
    refine ev_if (ev_test (ev_gt (ev_var rfl) (ev_len (K := K) (ev_var rfl) hL))) (fun c1 => ?_) fun c1 => ?_
    · have c1' := of_decide_eq_true c1
      rw [lL] at c1'
      exact k _ _ (Same.refl H) (.none (by rw [hd]; exact partOf_short1 (by rw [List.length_drop]; omega)))
    have c1' := of_decide_eq_false c1
    rw [lL] at c1'
    obtain ⟨f, hf⟩ := get_of (l := L) (i := i + 1) (by omega)
    obtain ⟨g, hg⟩ := get_of (l := L) (i := i + 1 + 1) (by omega)
    obtain ⟨n, hn⟩ := get_of (l := L) (i := i + 1 + 1 + 1) (by omega)
    have hd' : L.drop i = 1 :: f :: g :: n :: L.drop (i + 4) := by rw [hd, drop_more hf, drop_more hg, drop_more hn]
    refine ev_int (ev_var rfl) (ev_sub (ev_var rfl) ev_c) hL (i := i + 1 + 1 + 1) (by omega) hn _ ?_
    refine ev_if (ev_or (ev_test (ev_lt (ev_var rfl) ev_c)) fun _ => ev_test (ev_gt (ev_var rfl) ev_c)) (fun c2 => ?_) fun c2 => ?_
    · refine k _ _ (Same.refl H) (.none ?_)
      rw [hd', partOf_1, if_neg]
      intro z
      simp only [Bool.and_eq_true] at z
      exact count_no c2 z.2.2.2
    refine ev_if (ev_test (ev_eq (ev_var rfl) ev_c)) (fun c3 => ?_) fun _ => ?_
    · exact no_ft c3
    refine ev_if (ev_test (ev_eq (ev_var rfl) ev_c)) (fun _ => ?_) fun c4 => ?_
    · refine ev_if (ev_tB (ev_call2 (ev_int (ev_var rfl) (ev_add (ev_var rfl) ev_c) hL (i := i + 1) rfl hf) (ev_int (ev_var rfl) (ev_add (ev_var rfl) ev_c) hL (i := i + 1 + 1) rfl hg) fun Q q => ⟨_, _, rfl, f, g, rfl, rfl, q⟩)) (fun c5 => ?_) fun c5 => ?_
      · refine ⟨_, rfl, k _ _ (Same.refl H) (.some (x := (List.replicate n.toNat (.paint f.toNat g.toNat), L.drop (i + 4))) ?_ ?_)⟩
        · rw [hd', partOf_1, if_pos]
          simp only [Bool.and_eq_true] at c5 ⊢
          exact ⟨c5.1, c5.2.1, c5.2.2, count_of c2⟩
        · show (i : Int) + 4 = ((L.length - (L.drop (i + 4)).length : Nat) : Int)
          rw [List.length_drop]; omega
      · refine k _ _ (Same.refl H) (.none ?_)
        rw [hd', partOf_1, if_neg]
        intro z
        simp only [Bool.and_eq_true] at z
        rw [z.1, z.2.1, z.2.2.1] at c5
        cases c5
    · exact no_tf c4
  · refine ev_add (ev_var rfl) (ev_ixT (K := K) ev_c (ev_var rfl) (T.h_HEADS H) (v := .int 2) rfl) _ ?_
    refine ev_if (ev_test (ev_gt (ev_var rfl) (ev_len (K := K) (ev_var rfl) hL))) (fun c1 => ?_) fun c1 => ?_
    · have c1' := of_decide_eq_true c1
      rw [lL] at c1'
      exact k _ _ (Same.refl H) (.none (by rw [hd]; exact partOf_short (.inr (.inl rfl)) (by rw [List.length_drop]; omega)))
    have c1' := of_decide_eq_false c1
    rw [lL] at c1'
    obtain ⟨n, hn⟩ := get_of (l := L) (i := i + 1) (by omega)
    have hd2 := drop_more hn
    refine ev_int (ev_var rfl) (ev_sub (ev_var rfl) ev_c) hL (i := i + 1) (by omega) hn _ ?_
    refine ev_if (ev_or (ev_test (ev_lt (ev_var rfl) ev_c)) fun _ => ev_test (ev_gt (ev_var rfl) ev_c)) (fun c2 => ?_) fun c2 => ?_
    · exact k _ _ (Same.refl H) (.none (by rw [hd, hd2, partOf_2, if_neg (fun z => count_no c2 z.1)]))
    obtain ⟨m, rfl, m1, m2⟩ := count_nat (count_of c2)
    refine ev_if (ev_test (ev_eq (ev_var rfl) ev_c)) (fun c3 => ?_) fun _ => ?_
    · exact no_ft c3
    refine ev_if (ev_test (ev_eq (ev_var rfl) ev_c)) (fun c4 => ?_) fun _ => ?_
    · exact no_ft c4
    refine ⟨_, rfl, _, rfl, _, rfl, _, _, _, rfl, p, L, i + 1 + 1, m, rfl, hL, hl, rfl, by omega, rfl, m2, fun H' v s hv => k _ _ s ?_⟩
    have tk : (m : Int).toNat = m := Int.toNat_natCast m
    have hpo : Vatrkj.partOf (L.drop i) = if Vatrkj.isCount (m : Int) = true ∧ 2 * m ≤ (L.drop (i + 1 + 1)).length then (Vatrkj.lettersOf ((L.drop (i + 1 + 1)).take (2 * m))).map fun t => (t.map .drop, (L.drop (i + 1 + 1)).drop (2 * m)) else none := by rw [hd, hd2, partOf_2, tk]
    subst hv
    by_cases cc : i + 1 + 1 + 2 * m ≤ L.length ∧ (Vatrkj.lettersOf ((L.drop (i + 1 + 1)).take (2 * m))).isSome = true
    · rw [if_pos cc]
      obtain ⟨t, ht⟩ := Option.isSome_iff_exists.mp cc.2
      rw [if_pos ⟨count_of c2, by rw [List.length_drop]; omega⟩, ht] at hpo
      refine .some hpo ?_
      show ((i + 1 + 1 + 2 * m : Nat) : Int) = ((L.length - ((L.drop (i + 1 + 1)).drop (2 * m)).length : Nat) : Int)
      rw [List.length_drop, List.length_drop]; omega
    · rw [if_neg cc]
      refine .none ?_
      rw [hpo]
      split
      · rename_i h1
        rw [List.length_drop] at h1
        cases q : Vatrkj.lettersOf ((L.drop (i + 1 + 1)).take (2 * m)) with
        | none => rfl
        | some t => exact absurd ⟨by omega, by rw [q]; rfl⟩ cc
      · rfl
  · refine ev_add (ev_var rfl) (ev_ixT (K := K) ev_c (ev_var rfl) (T.h_HEADS H) (v := .int 2) rfl) _ ?_
    refine ev_if (ev_test (ev_gt (ev_var rfl) (ev_len (K := K) (ev_var rfl) hL))) (fun c1 => ?_) fun c1 => ?_
    · have c1' := of_decide_eq_true c1
      rw [lL] at c1'
      exact k _ _ (Same.refl H) (.none (by rw [hd]; exact partOf_short (.inr (.inr rfl)) (by rw [List.length_drop]; omega)))
    have c1' := of_decide_eq_false c1
    rw [lL] at c1'
    obtain ⟨n, hn⟩ := get_of (l := L) (i := i + 1) (by omega)
    have hd2 := drop_more hn
    refine ev_int (ev_var rfl) (ev_sub (ev_var rfl) ev_c) hL (i := i + 1) (by omega) hn _ ?_
    refine ev_if (ev_or (ev_test (ev_lt (ev_var rfl) ev_c)) fun _ => ev_test (ev_gt (ev_var rfl) ev_c)) (fun c2 => ?_) fun c2 => ?_
    · exact k _ _ (Same.refl H) (.none (by rw [hd, hd2, partOf_3, if_neg (fun z => count_no c2 z.1)]))
    obtain ⟨m, rfl, m1, m2⟩ := count_nat (count_of c2)
    refine ev_if (ev_test (ev_eq (ev_var rfl) ev_c)) (fun c3 => ?_) fun _ => ?_
    · exact no_ft c3
    refine ev_if (ev_test (ev_eq (ev_var rfl) ev_c)) (fun c4 => ?_) fun _ => ?_
    · exact no_ft c4
    refine ⟨_, rfl, _, rfl, _, rfl, _, _, _, rfl, p, L, i + 1 + 1, m, rfl, hL, hl, rfl, by omega, rfl, m2, fun H' v s hv => k _ _ s ?_⟩
    have tk : (m : Int).toNat = m := Int.toNat_natCast m
    have hpo : Vatrkj.partOf (L.drop i) = if Vatrkj.isCount (m : Int) = true ∧ 2 * m ≤ (L.drop (i + 1 + 1)).length then (Vatrkj.lettersOf ((L.drop (i + 1 + 1)).take (2 * m))).map fun t => (t.map .put, (L.drop (i + 1 + 1)).drop (2 * m)) else none := by rw [hd, hd2, partOf_3, tk]
    subst hv
    by_cases cc : i + 1 + 1 + 2 * m ≤ L.length ∧ (Vatrkj.lettersOf ((L.drop (i + 1 + 1)).take (2 * m))).isSome = true
    · rw [if_pos cc]
      obtain ⟨t, ht⟩ := Option.isSome_iff_exists.mp cc.2
      rw [if_pos ⟨count_of c2, by rw [List.length_drop]; omega⟩, ht] at hpo
      refine .some hpo ?_
      show ((i + 1 + 1 + 2 * m : Nat) : Int) = ((L.length - ((L.drop (i + 1 + 1)).drop (2 * m)).length : Nat) : Int)
      rw [List.length_drop, List.length_drop]; omega
    · rw [if_neg cc]
      refine .none ?_
      rw [hpo]
      split
      · rename_i h1
        rw [List.length_drop] at h1
        cases q : Vatrkj.lettersOf ((L.drop (i + 1 + 1)).take (2 * m)) with
        | none => rfl
        | some t => exact absurd ⟨by omega, by rw [q]; rfl⟩ cc
      · rfl
/-- the values are lists of these ints, none of them at M -/
inductive Lsq (H : Hp) (M : Addr) : List V → List (List Int) → Prop
  | nil : Lsq H M [] []
  | cons {t : Addr} {vs : List V} {r : List Int} {rs : List (List Int)} (n : t ≠ M) (h : H t = some (.lst (r.map V.int))) (k : Lsq H M vs rs) : Lsq H M (.ref t :: vs) (r :: rs)
theorem Lsq.mono {H H' : Hp} {M : Addr} (s : Same H H') : ∀ {vs : List V} {rs : List (List Int)}, Lsq H M vs rs → Lsq H' M vs rs
  | _, _, .nil => .nil
  | _, _, .cons n h k => .cons n (s _ _ h) (k.mono s)
theorem Lsq.updM {H : Hp} {M : Addr} {o : HO} : ∀ {vs : List V} {rs : List (List Int)}, Lsq H M vs rs → Lsq (upd H M o) M vs rs
  | _, _, .nil => .nil
  | _, _, .cons n h k => .cons n (by rw [upd_ne n]; exact h) k.updM
theorem Lsq.snoc {H : Hp} {M t : Addr} {r : List Int} (n : t ≠ M) (h : H t = some (.lst (r.map V.int))) : ∀ {vs : List V} {rs : List (List Int)}, Lsq H M vs rs → Lsq H M (vs ++ [.ref t]) (rs ++ [r])
  | _, _, .nil => .cons n h .nil
  | _, _, .cons n' h' k => .cons n' h' (k.snoc n h)
theorem Lsq.length {H : Hp} {M : Addr} : ∀ {vs : List V} {rs : List (List Int)}, Lsq H M vs rs → vs.length = rs.length
  | _, _, .nil => rfl
  | _, _, .cons _ _ k => congrArg (· + 1) k.length
theorem Lsq.get' {H : Hp} {M : Addr} : ∀ {vs : List V} {rs : List (List Int)} {i : Nat} {v : V}, Lsq H M vs rs → vs[i]? = some v → ∃ t r, v = .ref t ∧ rs[i]? = some r ∧ H t = some (.lst (r.map V.int))
  | _, _, _, _, .nil, e => by simp at e
  | _, _, 0, _, .cons _ h _, e => by
    have e := Option.some.inj e
    subst e
    exact ⟨_, _, rfl, rfl, h⟩
  | _, _, i + 1, _, .cons _ _ k, e => k.get' (i := i) e
def Pts (H : Hp) (p : Addr) (P : List (List Int)) : Prop := ∃ vs, H p = some (.lst vs) ∧ Lsq H p vs P
theorem Pts.mono {H H' : Hp} {p : Addr} {P : List (List Int)} (s : Same H H') : Pts H p P → Pts H' p P := fun ⟨vs, h, k⟩ => ⟨vs, s _ _ h, k.mono s⟩
def sp_parts_told (K : PySem.W.Frag) (_ : Ad) : Sp := sp1 fun v H Q => ∃ p L, v = .ref p ∧ Is K H p L ∧ L.length ≤ 16000 ∧ ∀ H' v, Same H H' → (match prs L with | none => v = .non | some E => ∃ q P, v = .ref q ∧ Pts H' q P ∧ P.length ≤ 16000 ∧ Prt P E) → Q v H'
theorem use_parts_told {P : Program} {w : World} {K : PySem.W.Frag} {mg : Str → Option Value} {base : Heap} {a : Ad} (T : Txt K mg a) (D : Dfn K mg "parts_told" "parts_told" s_parts_told ["numbers"]) (U_part_end : Use P w K mg base 4 "part_end" ["numbers", "at"] (sp_part_end K a)) : Use P w K mg base 5 "parts_told" ["numbers"] (sp_parts_told K a) := by
  obtain ⟨f, fd, F, gf, bf⟩ := D
  obtain ⟨f_part_end, fd_part_end, g_part_end, k_part_end, b_part_end, G_part_end⟩ := U_part_end
  refine ⟨f, fd, gf, F.kp, bf, F.ok (k := 4) sc_parts_told (fun vs H Q E h => h.len) (fun cdv A outer s H vs Q E hr h => ?_)⟩
  refine ⟨_, (pss_cons (ps_set (i := 1) sc_parts_told.nd rfl (Or.inl rfl) (pe_lst pa_nil))
       (pss_cons (ps_set (i := 2) sc_parts_told.nd rfl (Or.inl rfl) pe_int)
       (pss_cons (ps_while PassesOwn.never (pt_cmpR op_lt (pv 2) (pe_callB call_len_seq rfl T.n_len PySem.boot_len (pa_cons (pv 0) pa_nil)) (nomark _)) (pss_cons (ps_set (i := 3) sc_parts_told.nd rfl (Or.inl rfl) (pe_call G_part_end (hr.mono (by decide)) rfl g_part_end k_part_end b_part_end .nil pass0 (pa_cons (pv 0) (pa_cons (pv 2) pa_nil))))
       (pss_cons (ps_if (pt_cmpR op_isN (pv 3) pe_non (nomark _)) (pss_one (ps_ret pe_non)) pss_nil)
       (pss_cons (ps_expr (pe_bm PySem.F.plainAttrs_list PySem.F.slot_list_append PySem.F.type_list_append mt_append (pv 1) (pa_cons (pe_slice sl_list (pv 0) (po_some (pv 2)) (po_some (pv 3))) pa_nil)))
       (pss_one (ps_set (i := 2) sc_parts_told.nd rfl (Or.inl rfl) (pv 3)))))))
       (pss_one (ps_ret (pv 1)))))), ?_⟩
  obtain ⟨v0, rfl, h⟩ := h
  obtain ⟨p, L, rfl, hL, hl, k⟩ := h
  refine ⟨sz0, fun M hM => ?_⟩
  have sM := Same.new (o := .lst []) hM
  refine ⟨fun m σ H' => ∃ (i : Nat) (v : Option V) (P : List (List Int)) (E : Edit), m = L.length - i ∧ σ = [some (.ref p), some (.ref M), some (.int i), v] ∧ Same H H' ∧ Pts H' M P ∧ P.length ≤ i ∧ i ≤ L.length ∧ Prt P E ∧ prs L = (prs (L.drop i)).map (E ++ ·), ⟨_, 0, none, [], [], rfl, rfl, sM, ⟨[], upd_same, .nil⟩, Nat.le_refl _, Nat.zero_le _, .nil, ?_⟩, ?_⟩
  · show _ = (prs L).map ([] ++ ·)
    cases prs L <;> rfl
  rintro m σ H' ⟨i, v, P, E0, rfl, rfl, s, ⟨ps, hps, rp⟩, hpl, hi, hPr, hq⟩
  have lp := rp.length
  have hL' := hL.mono s
  have lL : (L.map V.int).length = L.length := List.length_map ..
  refine ev_if (ev_test (ev_lt (ev_var rfl) (ev_len (K := K) (ev_var rfl) hL'))) (fun c => ?_) fun c => ?_
  case refine_2 =>
    have c' := of_decide_eq_false c
    rw [lL] at c'
    rw [drop_none (by omega : L.length ≤ i), prs_nil] at hq
    refine ⟨_, rfl, k _ _ s ?_⟩
    rw [hq]
    exact ⟨M, P, rfl, ⟨ps, hps, rp⟩, by omega, by simpa using hPr⟩
  have c' := of_decide_eq_true c
  rw [lL] at c'
  refine ⟨_, fun _ _ h => h, ?_⟩
  refine ⟨_, rfl, _, rfl, _, _, rfl, p, L, i, rfl, hL', hl, rfl, by omega, fun H2 w s2 hw => ?_⟩
  refine ⟨_, rfl, rfl, _, rfl, ?_⟩
  unfold PEnd at hw
  cases e : Vatrkj.partOf (L.drop i) with
  | none =>
    rw [e] at hw
    obtain rfl : w = .non := hw
    refine iteP rfl (k _ _ (s.trans s2) ?_)
    have e0 : prs (L.drop i) = none := prs_none (by intro z; have := congrArg List.length z; rw [List.length_drop] at this; simp at this; omega) e
    rw [hq, e0]; rfl
  | some x =>
    obtain ⟨e1, rest⟩ := x
    rw [e] at hw
    obtain ⟨n, h1, h2, h3, h4⟩ := partOf_some e
    rw [List.length_drop] at h2
    have hj : L.length - rest.length = i + n := by rw [h3, List.length_drop, List.length_drop]; omega
    have hw' : w = .int ((i + n : Nat) : Int) := by rw [hw]; show V.int ((L.length - rest.length : Nat) : Int) = _; rw [hj]
    subst hw'
    refine iteN (by intro z; cases z) ?_
    have hps2 := s2 _ _ hps
    refine ⟨_, rfl, .inl ⟨rfl, _, SqL.of hps2⟩, _, rfl, _, rfl, _, rfl, _, rfl, _, rfl, p, _, rfl, hL'.mono s2, fun q hq' => ?_⟩
    have hcut : cutV (L.map V.int) (some (i : Int)) (some ((i + n : Nat) : Int)) = ((L.drop i).take n).map V.int := by
      rw [cut_nat (by rw [List.length_map]; exact hi) (by rw [List.length_map]; omega), Nat.add_sub_cancel_left, List.map_take, List.map_drop]
    have sq := Same.new (o := .lst (cutV (L.map V.int) (some (i : Int)) (some ((i + n : Nat) : Int)))) hq'
    refine ⟨M, ps, _, rfl, rfl, sq _ _ hps2, lt_size (by omega), ?_⟩
    refine ⟨_, rfl, ?_⟩
    have nq : q ≠ M := fun z => by rw [z, hps2] at hq'; cases hq'
    have hd' : rest = L.drop (i + n) := by rw [h3, List.drop_drop]
    rw [prs_some e, map_appE, hd'] at hq
    refine ⟨_, ?_, i + n, _, P ++ [(L.drop i).take n], E0 ++ e1, rfl, rfl, ((s.trans s2).trans sq).upd hM, ⟨_, upd_same, ?_⟩, ?_, by omega, hPr.snoc h4, hq⟩
    · omega
    · exact (((rp.mono s2).mono sq).snoc nq (by rw [upd_same, hcut])).updM
    · rw [List.length_append]; show P.length + 1 ≤ _; omega
end Ev

namespace Ev
open PySem PySem.Spec PyProof.Rows L2
open Vatrkj (Letter Edit Text)
def sp_part_n (K : PySem.W.Frag) (_ : Ad) : Sp := sp1 fun v H Q => ∃ p r e, v = .ref p ∧ Is K H p r ∧ Vatrkj.partOf r = some (e, []) ∧ Q (.int (e.length : Nat)) H
theorem use_part_n {P : Program} {w : World} {K : PySem.W.Frag} {mg : Str → Option Value} {base : Heap} {a : Ad} (T : Txt K mg a) (D : Dfn K mg "part_n" "part_n" s_part_n ["part"])  : Use P w K mg base 1 "part_n" ["part"] (sp_part_n K a) := by
  obtain ⟨f, fd, F, gf, bf⟩ := D
  refine ⟨f, fd, gf, F.kp, bf, F.ok (k := 0) sc_part_n (fun vs H Q E h => h.len) (fun cdv A outer s H vs Q E hr h => ?_)⟩
  refine ⟨_, (pss_one (ps_ret (pe_ix (ix_list : IxR _ (rIxL K)) (pv 0) (pe_op op_sub (pe_ix (ix_tup : IxR _ (rIxT K)) (pe_glob (v := .ref a.a_HEADS) rfl T.c_HEADS rfl) (pe_ix (ix_list : IxR _ (rIxL K)) (pv 0) pe_int (fun _ _ => rfl)) (fun _ _ => rfl)) pe_int) (fun _ _ => rfl)))), ?_⟩
  obtain ⟨v0, rfl, h⟩ := h
  obtain ⟨p, r, e, rfl, hr', he, k⟩ := h
  rcases part_forms he with ⟨n, _, _, rfl, rfl⟩ | ⟨f', g', n, _, _, rfl, rfl⟩ | ⟨n, l, t, _, _, rfl, _, ht, rfl⟩ | ⟨n, l, t, _, _, rfl, _, ht, rfl⟩
  · rw [List.length_replicate] at k
    exact ev_int (ev_var rfl) (ev_sub (ev_ixT (K := K) ev_c (ev_int (i := 0) (ev_var rfl) ev_c hr' rfl rfl) (T.h_HEADS H) rfl) ev_c) hr' (i := 1) rfl rfl _ k
  · rw [List.length_replicate] at k
    exact ev_int (ev_var rfl) (ev_sub (ev_ixT (K := K) ev_c (ev_int (i := 0) (ev_var rfl) ev_c hr' rfl rfl) (T.h_HEADS H) rfl) ev_c) hr' (i := 3) rfl rfl _ k
  · rw [List.length_map, ht] at k
    exact ev_int (ev_var rfl) (ev_sub (ev_ixT (K := K) ev_c (ev_int (i := 0) (ev_var rfl) ev_c hr' rfl rfl) (T.h_HEADS H) rfl) ev_c) hr' (i := 1) rfl rfl _ k
  · rw [List.length_map, ht] at k
    exact ev_int (ev_var rfl) (ev_sub (ev_ixT (K := K) ev_c (ev_int (i := 0) (ev_var rfl) ev_c hr' rfl rfl) (T.h_HEADS H) rfl) ev_c) hr' (i := 1) rfl rfl _ k
theorem old_rep (x : Stp) (h : Vatrkj.takes x = true) : ∀ n, Vatrkj.oldLength (List.replicate n x) = n
  | 0 => rfl
  | n + 1 => by rw [List.replicate_succ, oldLength_cons, h, if_pos rfl, old_rep x h n]; omega
theorem new_rep (x : Stp) (h : Vatrkj.brings x = true) : ∀ n, Vatrkj.newLength (List.replicate n x) = n
  | 0 => rfl
  | n + 1 => by rw [List.replicate_succ, newLength_cons, h, if_pos rfl, new_rep x h n]; omega
theorem old_drop : ∀ t : Text, Vatrkj.oldLength (t.map .drop) = t.length ∧ Vatrkj.newLength (t.map .drop) = 0
  | [] => ⟨rfl, rfl⟩
  | x :: t => by
    have ih := old_drop t
    have e3 : Vatrkj.takes (.drop x) = true := rfl
    have e4 : Vatrkj.brings (.drop x) = false := rfl
    rw [List.map_cons, oldLength_cons, newLength_cons, ih.1, ih.2, e3, e4, List.length_cons]
    exact ⟨by simp; omega, by simp⟩
theorem old_put : ∀ t : Text, Vatrkj.oldLength (t.map .put) = 0 ∧ Vatrkj.newLength (t.map .put) = t.length
  | [] => ⟨rfl, rfl⟩
  | x :: t => by
    have ih := old_put t
    have e3 : Vatrkj.takes (.put x) = false := rfl
    have e4 : Vatrkj.brings (.put x) = true := rfl
    rw [List.map_cons, oldLength_cons, newLength_cons, ih.1, ih.2, e3, e4, List.length_cons]
    exact ⟨by simp, by simp; omega⟩
theorem part_len {r : List Int} {e : Edit} (h : Vatrkj.partOf r = some (e, [])) : ∃ k : Int, r[0]? = some k ∧ (k = 3 → Vatrkj.oldLength e = 0) ∧ (k ≠ 3 → Vatrkj.oldLength e = e.length) ∧ (k = 2 → Vatrkj.newLength e = 0) ∧ (k ≠ 2 → Vatrkj.newLength e = e.length) := by
  rcases part_forms h with ⟨n, _, _, rfl, rfl⟩ | ⟨f', g', n, _, _, rfl, rfl⟩ | ⟨n, l, t, _, _, rfl, _, ht, rfl⟩ | ⟨n, l, t, _, _, rfl, _, ht, rfl⟩
  · rw [List.length_replicate, old_rep .keep rfl, new_rep .keep rfl]
    exact ⟨0, rfl, fun z => absurd z (by decide), fun _ => rfl, fun z => absurd z (by decide), fun _ => rfl⟩
  · rw [List.length_replicate, old_rep (.paint f' g') rfl, new_rep (.paint f' g') rfl]
    exact ⟨1, rfl, fun z => absurd z (by decide), fun _ => rfl, fun z => absurd z (by decide), fun _ => rfl⟩
  · rw [List.length_map, (old_drop t).1, (old_drop t).2]
    exact ⟨2, rfl, fun z => absurd z (by decide), fun _ => rfl, fun _ => rfl, fun z => absurd rfl z⟩
  · rw [List.length_map, (old_put t).1, (old_put t).2]
    exact ⟨3, rfl, fun _ => rfl, fun z => absurd rfl z, fun z => absurd z (by decide), fun _ => rfl⟩
def sp_old_length_told (K : PySem.W.Frag) (_ : Ad) : Sp := sp1 fun v H Q => ∃ p P E, v = .ref p ∧ Pts H p P ∧ P.length ≤ 16000 ∧ Prt P E ∧ ∀ H', Same H H' → Q (.int (Vatrkj.oldLength E)) H'
def sp_new_length_told (K : PySem.W.Frag) (_ : Ad) : Sp := sp1 fun v H Q => ∃ p P E, v = .ref p ∧ Pts H p P ∧ P.length ≤ 16000 ∧ Prt P E ∧ ∀ H', Same H H' → Q (.int (Vatrkj.newLength E)) H'
theorem use_old_length_told {P : Program} {w : World} {K : PySem.W.Frag} {mg : Str → Option Value} {base : Heap} {a : Ad} (T : Txt K mg a) (D : Dfn K mg "old_length_told" "old_length_told" s_old_length_told ["parts"]) (U_part_n : Use P w K mg base 1 "part_n" ["part"] (sp_part_n K a)) : Use P w K mg base 2 "old_length_told" ["parts"] (sp_old_length_told K a) := by
  obtain ⟨f, fd, F, gf, bf⟩ := D
  obtain ⟨f_part_n, fd_part_n, g_part_n, k_part_n, b_part_n, G_part_n⟩ := U_part_n
  refine ⟨f, fd, gf, F.kp, bf, F.ok (k := 1) sc_old_length_told (fun vs H Q E h => h.len) (fun cdv A outer s H vs Q E hr h => ?_)⟩
  refine ⟨_, (pss_one (ps_ret (pe_callB (cr_sum rfl) rfl T.n_sum (by decide +kernel) (pa_cons (pe_lc (own := [("part", 1)]) (g := gName 1) rfl sc_old_length_told.nd (pi_list (pv 0)) (blkOk_by (own := [("part", 1)]) (N := ["parts", "part"]) (sc := defScope s_old_length_told) (by decide +kernel)) (fun _ _ _ _ _ => pg_name (i := 1) sc_old_length_told.nd rfl (Or.inl rfl)) (fun _ _ _ _ _ => pts_one (pt_cmpR op_ne (pe_ix (ix_list : IxR _ (rIxL K)) (pv 1) pe_int (fun _ _ => rfl)) (pe_glob (v := .int 3) rfl T.c_PUT ⟨_, rfl⟩) (nomark _))) (fun _ _ _ _ _ => (pe_call G_part_n (hr.mono (by decide)) rfl g_part_n k_part_n b_part_n .nil pass0 (pa_cons (pv 1) pa_nil)))) pa_nil)))), ?_⟩
  obtain ⟨v0, rfl, h⟩ := h
  obtain ⟨p, P', E', rfl, ⟨vs, hp, hr'⟩, hl, hPr, k⟩ := h
  have lv := hr'.length
  refine ⟨_, rfl, p, rfl, ⟨_, SqL.of hp⟩, fun D hD => lc_list (K := K) (a := p) (xs := vs) (fun i H' => Same H H' ∧ ∃ (ns : List Int) (E1 E2 : Edit), H' D = some (.lst (ns.map V.int)) ∧ ns.length ≤ i ∧ E' = E1 ++ E2 ∧ Prt (P'.drop i) E2 ∧ ns.sum = (Vatrkj.oldLength E1 : Int)) ⟨Same.new hD, [], [], E', upd_same, Nat.le_refl _, rfl, hPr, rfl⟩ (fun i H' _ ⟨s, _⟩ => SqL.of (s _ _ hp)) ?_ ?_⟩
  · rintro i x H' hi ⟨s, ns, E1, E2, hns, hnl, hE, hP2, hsum⟩
    obtain ⟨t, r, rfl, hri, ht⟩ := (hr'.mono s).get' hi
    have hi' := ix_lt hri
    rw [drop_more hri] at hP2
    obtain ⟨e, E2', rfl, hpo, hP3⟩ := hP2.inv
    obtain ⟨kd, hk, h3, hn3, _, _⟩ := part_len hpo
    have hI : Is K H' t r := Is.of ht
    refine ⟨rfl, ?_⟩
    refine ev_if (ev_test (ev_ne (ev_int (i := 0) (ev_var rfl) ev_c hI rfl hk) ev_c)) (fun c => ?_) fun c => ?_
    · have c' := nd_t c
      refine ⟨_, rfl, _, rfl, t, r, e, rfl, hI, hpo, ns.map V.int, hns, lt_size (by rw [List.length_map]; omega), s.upd hD, ns ++ [(e.length : Int)], E1 ++ e, E2', ?_, ?_, ?_, hP3, ?_⟩
      · rw [upd_same, List.map_append]; rfl
      · rw [List.length_append]; show ns.length + 1 ≤ _; omega
      · rw [hE, List.append_assoc]
      · rw [List.sum_append, hsum, oldLength_append, hn3 c']; simp
    · have c' := nd_f c
      refine ⟨s, ns, E1 ++ e, E2', hns, by omega, by rw [hE, List.append_assoc], hP3, ?_⟩
      rw [hsum, oldLength_append, h3 c']; simp
  · rintro H' ⟨s, ns, E1, E2, hns, hnl, hE, hP2, hsum⟩
    rw [lv, List.drop_length] at hP2
    have := hP2.inv0
    subst this
    rw [List.append_nil] at hE
    subst hE
    refine ⟨D, ns, rfl, SqL.of hns, ?_⟩
    rw [hsum]
    exact k _ s
theorem use_new_length_told {P : Program} {w : World} {K : PySem.W.Frag} {mg : Str → Option Value} {base : Heap} {a : Ad} (T : Txt K mg a) (D : Dfn K mg "new_length_told" "new_length_told" s_new_length_told ["parts"]) (U_part_n : Use P w K mg base 1 "part_n" ["part"] (sp_part_n K a)) : Use P w K mg base 2 "new_length_told" ["parts"] (sp_new_length_told K a) := by
  obtain ⟨f, fd, F, gf, bf⟩ := D
  obtain ⟨f_part_n, fd_part_n, g_part_n, k_part_n, b_part_n, G_part_n⟩ := U_part_n
  refine ⟨f, fd, gf, F.kp, bf, F.ok (k := 1) sc_new_length_told (fun vs H Q E h => h.len) (fun cdv A outer s H vs Q E hr h => ?_)⟩
  refine ⟨_, (pss_one (ps_ret (pe_callB (cr_sum rfl) rfl T.n_sum (by decide +kernel) (pa_cons (pe_lc (own := [("part", 1)]) (g := gName 1) rfl sc_new_length_told.nd (pi_list (pv 0)) (blkOk_by (own := [("part", 1)]) (N := ["parts", "part"]) (sc := defScope s_new_length_told) (by decide +kernel)) (fun _ _ _ _ _ => pg_name (i := 1) sc_new_length_told.nd rfl (Or.inl rfl)) (fun _ _ _ _ _ => pts_one (pt_cmpR op_ne (pe_ix (ix_list : IxR _ (rIxL K)) (pv 1) pe_int (fun _ _ => rfl)) (pe_glob (v := .int 2) rfl T.c_DROP ⟨_, rfl⟩) (nomark _))) (fun _ _ _ _ _ => (pe_call G_part_n (hr.mono (by decide)) rfl g_part_n k_part_n b_part_n .nil pass0 (pa_cons (pv 1) pa_nil)))) pa_nil)))), ?_⟩
  obtain ⟨v0, rfl, h⟩ := h
  obtain ⟨p, P', E', rfl, ⟨vs, hp, hr'⟩, hl, hPr, k⟩ := h
  have lv := hr'.length
  refine ⟨_, rfl, p, rfl, ⟨_, SqL.of hp⟩, fun D hD => lc_list (K := K) (a := p) (xs := vs) (fun i H' => Same H H' ∧ ∃ (ns : List Int) (E1 E2 : Edit), H' D = some (.lst (ns.map V.int)) ∧ ns.length ≤ i ∧ E' = E1 ++ E2 ∧ Prt (P'.drop i) E2 ∧ ns.sum = (Vatrkj.newLength E1 : Int)) ⟨Same.new hD, [], [], E', upd_same, Nat.le_refl _, rfl, hPr, rfl⟩ (fun i H' _ ⟨s, _⟩ => SqL.of (s _ _ hp)) ?_ ?_⟩
  · rintro i x H' hi ⟨s, ns, E1, E2, hns, hnl, hE, hP2, hsum⟩
    obtain ⟨t, r, rfl, hri, ht⟩ := (hr'.mono s).get' hi
    have hi' := ix_lt hri
    rw [drop_more hri] at hP2
    obtain ⟨e, E2', rfl, hpo, hP3⟩ := hP2.inv
    obtain ⟨kd, hk, _, _, h3, hn3⟩ := part_len hpo
    have hI : Is K H' t r := Is.of ht
    refine ⟨rfl, ?_⟩
    refine ev_if (ev_test (ev_ne (ev_int (i := 0) (ev_var rfl) ev_c hI rfl hk) ev_c)) (fun c => ?_) fun c => ?_
    · have c' := nd_t c
      refine ⟨_, rfl, _, rfl, t, r, e, rfl, hI, hpo, ns.map V.int, hns, lt_size (by rw [List.length_map]; omega), s.upd hD, ns ++ [(e.length : Int)], E1 ++ e, E2', ?_, ?_, ?_, hP3, ?_⟩
      · rw [upd_same, List.map_append]; rfl
      · rw [List.length_append]; show ns.length + 1 ≤ _; omega
      · rw [hE, List.append_assoc]
      · rw [List.sum_append, hsum, newLength_append, hn3 c']; simp
    · have c' := nd_f c
      refine ⟨s, ns, E1 ++ e, E2', hns, by omega, by rw [hE, List.append_assoc], hP3, ?_⟩
      rw [hsum, newLength_append, h3 c']; simp
  · rintro H' ⟨s, ns, E1, E2, hns, hnl, hE, hP2, hsum⟩
    rw [lv, List.drop_length] at hP2
    have := hP2.inv0
    subst this
    rw [List.append_nil] at hE
    subst hE
    refine ⟨D, ns, rfl, SqL.of hns, ?_⟩
    rw [hsum]
    exact k _ s
def sp_steps_of_part (K : PySem.W.Frag) (_ : Ad) : Sp := sp1 fun v H Q => ∃ p r e, v = .ref p ∧ Is K H p r ∧ r.length ≤ 16000 ∧ Vatrkj.partOf r = some (e, []) ∧ ∀ H' q, Same H H' → Ed H' q e → Q (.ref q) H'
theorem map_rep {α β : Type} (f : α → β) (n : Nat) (x : α) : (List.replicate n x).map f = List.replicate n (f x) := List.map_replicate
theorem two_of {H : Hp} {t : Text} {f : Letter → Stp} {kd : Int} (hf : ∀ x, sI (f x) = kd :: lI x) {i : Nat} : ((t.take i).map f).map sI = (t.take i).map fun x => kd :: lI x := by
  rw [List.map_map]
  exact List.map_congr_left fun x _ => hf x
theorem use_steps_of_part {P : Program} {w : World} {K : PySem.W.Frag} {mg : Str → Option Value} {base : Heap} {a : Ad} (T : Txt K mg a) (D : Dfn K mg "steps_of_part" "steps_of_part" s_steps_of_part ["part"]) (U_part_n : Use P w K mg base 1 "part_n" ["part"] (sp_part_n K a)) (U_letters_told : Use P w K mg base 2 "letters_told" ["numbers"] (sp_letters_told K a)) : Use P w K mg base 3 "steps_of_part" ["part"] (sp_steps_of_part K a) := by
  obtain ⟨f, fd, F, gf, bf⟩ := D
  obtain ⟨f_part_n, fd_part_n, g_part_n, k_part_n, b_part_n, G_part_n⟩ := U_part_n
  obtain ⟨f_letters_told, fd_letters_told, g_letters_told, k_letters_told, b_letters_told, G_letters_told⟩ := U_letters_told
  refine ⟨f, fd, gf, F.kp, bf, F.ok (k := 2) sc_steps_of_part (fun vs H Q E h => h.len) (fun cdv A outer s H vs Q E hr h => ?_)⟩
  refine ⟨_, (pss_cons (ps_set (i := 1) sc_steps_of_part.nd rfl (Or.inr rfl) (pe_ix (ix_list : IxR _ (rIxL K)) (pv 0) pe_int (fun _ _ => rfl)))
       (pss_cons (ps_if (pt_cmpR op_eq (pv 1) (pe_glob (v := .int 0) rfl T.c_KEEP ⟨_, rfl⟩) (nomark _)) (pss_one (ps_ret (pe_op op_rep (pe_lst (pa_cons (pe_tup (pa_cons (pe_glob (v := .int 0) rfl T.c_KEEP ⟨_, rfl⟩) (pa_cons pe_int (pa_cons pe_int pa_nil)))) pa_nil)) (pe_call G_part_n (hr.mono (by decide)) rfl g_part_n k_part_n b_part_n .nil pass0 (pa_cons (pv 0) pa_nil))))) pss_nil)
       (pss_cons (ps_if (pt_cmpR op_eq (pv 1) (pe_glob (v := .int 1) rfl T.c_PAINT ⟨_, rfl⟩) (nomark _)) (pss_one (ps_ret (pe_op op_rep (pe_lst (pa_cons (pe_tup (pa_cons (pe_glob (v := .int 1) rfl T.c_PAINT ⟨_, rfl⟩) (pa_cons (pe_ix (ix_list : IxR _ (rIxL K)) (pv 0) pe_int (fun _ _ => rfl)) (pa_cons (pe_ix (ix_list : IxR _ (rIxL K)) (pv 0) pe_int (fun _ _ => rfl)) pa_nil)))) pa_nil)) (pe_call G_part_n (hr.mono (by decide)) rfl g_part_n k_part_n b_part_n .nil pass0 (pa_cons (pv 0) pa_nil))))) pss_nil)
       (pss_one (ps_ret (pe_lc (own := [("letter", 2)]) (g := gName 2) (tt := tYes) rfl sc_steps_of_part.nd (pi_list (pe_call G_letters_told (hr.mono (by decide)) rfl g_letters_told k_letters_told b_letters_told .nil pass0 (pa_cons (pe_slice sl_list (pv 0) (po_some (pe_ix (ix_tup : IxR _ (rIxT K)) (pe_glob (v := .ref a.a_HEADS) rfl T.c_HEADS rfl) (pv 1) (fun _ _ => rfl))) po_none) pa_nil))) (blkOk_by (own := [("letter", 2)]) (N := ["part", "kind", "letter"]) (sc := defScope s_steps_of_part) (by decide +kernel)) (fun _ _ _ _ _ => pg_name (i := 2) sc_steps_of_part.nd rfl (Or.inl rfl)) (fun _ _ _ _ _ => pts_nil) (fun _ _ _ _ _ => (pe_tup (pa_cons (pv 1) (pa_cons (pe_ix (ix_tup : IxR _ (rIxT K)) (pv 2) pe_int (fun _ _ => rfl)) (pa_cons (pe_ix (ix_tup : IxR _ (rIxT K)) (pv 2) pe_int (fun _ _ => rfl)) pa_nil))))))))))), ?_⟩
  obtain ⟨v0, rfl, h⟩ := h
  obtain ⟨p, r, e, rfl, hI, hrl, hpo, k⟩ := h
  rcases part_forms hpo with ⟨n, hn1, hn2, rfl, rfl⟩ | ⟨f', g', n, hn1, hn2, rfl, rfl⟩ | ⟨n, l, t, hn1, hn2, rfl, hlo, ht, rfl⟩ | ⟨n, l, t, hn1, hn2, rfl, hlo, ht, rfl⟩
  · refine ev_int (i := 0) (ev_var rfl) ev_c hI rfl rfl _ ?_
    refine ev_if (ev_test (ev_eq (ev_var rfl) ev_c)) (fun _ => ?_) fun c => ?_
    case' refine_2 => exact no_tf c
    refine ⟨sz3, fun b hb => ⟨sz1, fun c hc => ?_⟩⟩
    have sb := Same.new (o := .tup ((sI .keep).map V.int)) hb
    have sc := Same.new (o := .lst [V.ref b]) hc
    refine ⟨_, rfl, _, rfl, p, _, _, rfl, (hI.mono sb).mono sc, hpo, ?_⟩
    refine ⟨c, _, [V.ref b], rfl, rfl, upd_same, by omega, ?_, ?_, fun q hq => ?_⟩
    · rw [List.length_replicate]; omega
    · rw [List.length_replicate, Int.toNat_natCast]; exact le_size (by simp; omega)
    · refine k _ _ ((sb.trans sc).trans (Same.new hq)) ⟨_, upd_same, ?_⟩
      rw [List.length_replicate, Int.toNat_natCast, map_rep]
      exact Rws.rep (Same.new hq _ _ (sc _ _ upd_same)) n
  · refine ev_int (i := 0) (ev_var rfl) ev_c hI rfl rfl _ ?_
    refine ev_if (ev_test (ev_eq (ev_var rfl) ev_c)) (fun c => ?_) fun _ => ?_
    · exact no_ft c
    refine ev_if (ev_test (ev_eq (ev_var rfl) ev_c)) (fun _ => ?_) fun c => ?_
    case' refine_2 => exact no_tf c
    refine ev_int (i := 1) (ev_var rfl) ev_c hI rfl rfl _ ?_
    refine ev_int (i := 2) (ev_var rfl) ev_c hI rfl rfl _ ?_
    refine ⟨sz3, fun b hb => ⟨sz1, fun c hc => ?_⟩⟩
    have sb := Same.new (o := .tup ((sI (.paint f' g')).map V.int)) hb
    have sc := Same.new (o := .lst [V.ref b]) hc
    refine ⟨_, rfl, _, rfl, p, _, _, rfl, (hI.mono sb).mono sc, hpo, ?_⟩
    refine ⟨c, _, [V.ref b], rfl, rfl, upd_same, by omega, ?_, ?_, fun q hq => ?_⟩
    · rw [List.length_replicate]; omega
    · rw [List.length_replicate, Int.toNat_natCast]; exact le_size (by simp; omega)
    · refine k _ _ ((sb.trans sc).trans (Same.new hq)) ⟨_, upd_same, ?_⟩
      rw [List.length_replicate, Int.toNat_natCast, map_rep]
      exact Rws.rep (Same.new hq _ _ (sc _ _ upd_same)) n
  · refine ev_int (i := 0) (ev_var rfl) ev_c hI rfl rfl _ ?_
    refine ev_if (ev_test (ev_eq (ev_var rfl) ev_c)) (fun c => ?_) fun _ => ?_
    · exact no_ft c
    refine ev_if (ev_test (ev_eq (ev_var rfl) ev_c)) (fun c => ?_) fun _ => ?_
    · exact no_ft c
    have hct : cutV ((2 :: (n : Int) :: l).map V.int) (some ((2 : Nat) : Int)) none = l.map V.int := cut_from (i := 2) (by simp)
    refine ⟨_, rfl, ev_ixT (K := K) ev_c (ev_var rfl) (T.h_HEADS H) (v := .int ((2 : Nat) : Int)) rfl _ ⟨_, rfl, p, _, rfl, hI, fun q hq => ?_⟩⟩
    have sq := Same.new (o := .lst (cutV ((2 :: (n : Int) :: l).map V.int) (some ((2 : Nat) : Int)) none)) hq
    refine ⟨_, rfl, q, l, rfl, Is.of (by rw [upd_same, hct]), by simp at hrl; omega, fun H2 v s2 hv => ?_⟩
    rw [hlo] at hv
    obtain ⟨u, rfl, _, us, hus, ru⟩ := hv
    have lu := ru.length
    rw [List.length_map] at lu
    refine ⟨u, rfl, ⟨_, SqL.of hus⟩, fun D hD => lc_list (K := K) (a := u) (xs := us) (fun i H' => Same H2 H' ∧ Ed H' D ((t.take i).map .drop)) ⟨Same.new hD, [], upd_same, .nil⟩ (fun i H' _ ⟨s, _⟩ => SqL.of (s _ _ hus)) ?_ ?_⟩
    · rintro i x H' hi ⟨s, acc, hacc, ra⟩
      obtain ⟨w', r', rfl, hri, hw'⟩ := (ru.mono s).get' hi
      obtain ⟨y, hy, rfl⟩ := map_get hri
      have hi' := ix_lt hy
      have la := ra.length
      rw [List.length_map, List.length_map, List.length_take] at la
      refine ⟨rfl, ?_⟩
      refine yes_of ?_
      refine ⟨_, rfl, ev_l0 (ev_var rfl) hw' _ ?_⟩
      refine ev_l1 (ev_var rfl) hw' _ ⟨sz3, fun z hz => ?_⟩
      have sz := Same.new (o := .tup ((sI (.drop y)).map V.int)) hz
      refine ⟨acc, sz _ _ hacc, lt_size (by omega), (s.trans sz).upd hD, _, upd_same, ?_⟩
      rw [take_more hy, List.map_append, List.map_append]
      exact ((ra.updN hz).snoc (r := sI (.drop y)) upd_same).updL (sz _ _ hacc)
    · rintro H' ⟨s, hE⟩
      rw [lu, List.take_length] at hE
      exact k _ _ ((sq.trans s2).trans s) hE
  · refine ev_int (i := 0) (ev_var rfl) ev_c hI rfl rfl _ ?_
    refine ev_if (ev_test (ev_eq (ev_var rfl) ev_c)) (fun c => ?_) fun _ => ?_
    · exact no_ft c
    refine ev_if (ev_test (ev_eq (ev_var rfl) ev_c)) (fun c => ?_) fun _ => ?_
    · exact no_ft c
    have hct : cutV ((3 :: (n : Int) :: l).map V.int) (some ((2 : Nat) : Int)) none = l.map V.int := cut_from (i := 2) (by simp)
    refine ⟨_, rfl, ev_ixT (K := K) ev_c (ev_var rfl) (T.h_HEADS H) (v := .int ((2 : Nat) : Int)) rfl _ ⟨_, rfl, p, _, rfl, hI, fun q hq => ?_⟩⟩
    have sq := Same.new (o := .lst (cutV ((3 :: (n : Int) :: l).map V.int) (some ((2 : Nat) : Int)) none)) hq
    refine ⟨_, rfl, q, l, rfl, Is.of (by rw [upd_same, hct]), by simp at hrl; omega, fun H2 v s2 hv => ?_⟩
    rw [hlo] at hv
    obtain ⟨u, rfl, _, us, hus, ru⟩ := hv
    have lu := ru.length
    rw [List.length_map] at lu
    refine ⟨u, rfl, ⟨_, SqL.of hus⟩, fun D hD => lc_list (K := K) (a := u) (xs := us) (fun i H' => Same H2 H' ∧ Ed H' D ((t.take i).map .put)) ⟨Same.new hD, [], upd_same, .nil⟩ (fun i H' _ ⟨s, _⟩ => SqL.of (s _ _ hus)) ?_ ?_⟩
    · rintro i x H' hi ⟨s, acc, hacc, ra⟩
      obtain ⟨w', r', rfl, hri, hw'⟩ := (ru.mono s).get' hi
      obtain ⟨y, hy, rfl⟩ := map_get hri
      have hi' := ix_lt hy
      have la := ra.length
      rw [List.length_map, List.length_map, List.length_take] at la
      refine ⟨rfl, ?_⟩
      refine yes_of ?_
      refine ⟨_, rfl, ev_l0 (ev_var rfl) hw' _ ?_⟩
      refine ev_l1 (ev_var rfl) hw' _ ⟨sz3, fun z hz => ?_⟩
      have sz := Same.new (o := .tup ((sI (.put y)).map V.int)) hz
      refine ⟨acc, sz _ _ hacc, lt_size (by omega), (s.trans sz).upd hD, _, upd_same, ?_⟩
      rw [take_more hy, List.map_append, List.map_append]
      exact ((ra.updN hz).snoc (r := sI (.put y)) upd_same).updL (sz _ _ hacc)
    · rintro H' ⟨s, hE⟩
      rw [lu, List.take_length] at hE
      exact k _ _ ((sq.trans s2).trans s) hE
theorem part_size {r : List Int} {e : Edit} (h : Vatrkj.partOf r = some (e, [])) : r.length ≤ 16000 ∧ e.length ≤ 2000 := by
  rcases part_forms h with ⟨n, _, h2, rfl, rfl⟩ | ⟨f', g', n, _, h2, rfl, rfl⟩ | ⟨n, l, t, _, h2, rfl, hl, ht, rfl⟩ | ⟨n, l, t, _, h2, rfl, hl, ht, rfl⟩
  · simp; omega
  · simp; omega
  · have := lettersOf_len l t hl; simp; omega
  · have := lettersOf_len l t hl; simp; omega
def sp_steps_of_parts (K : PySem.W.Frag) (_ : Ad) : Sp := sp1 fun v H Q => ∃ p P E, v = .ref p ∧ Pts H p P ∧ Prt P E ∧ E.length ≤ 16000 ∧ ∀ H' q, Same H H' → Ed H' q E → Q (.ref q) H'
theorem use_steps_of_parts {P : Program} {w : World} {K : PySem.W.Frag} {mg : Str → Option Value} {base : Heap} {a : Ad} (T : Txt K mg a) (D : Dfn K mg "steps_of_parts" "steps_of_parts" s_steps_of_parts ["parts"]) (U_steps_of_part : Use P w K mg base 3 "steps_of_part" ["part"] (sp_steps_of_part K a)) : Use P w K mg base 4 "steps_of_parts" ["parts"] (sp_steps_of_parts K a) := by
  obtain ⟨f, fd, F, gf, bf⟩ := D
  obtain ⟨f_steps_of_part, fd_steps_of_part, g_steps_of_part, k_steps_of_part, b_steps_of_part, G_steps_of_part⟩ := U_steps_of_part
  refine ⟨f, fd, gf, F.kp, bf, F.ok (k := 3) sc_steps_of_parts (fun vs H Q E h => h.len) (fun cdv A outer s H vs Q E hr h => ?_)⟩
  refine ⟨_, (pss_cons (ps_set (i := 1) sc_steps_of_parts.nd rfl (Or.inl rfl) (pe_lst pa_nil))
       (pss_cons (ps_for PassesOwn.never rfl (pi_list (pv 0)) (pg_name (i := 2) sc_steps_of_parts.nd rfl (Or.inl rfl)) (pss_one (ps_expr (pe_bm PySem.F.plainAttrs_list PySem.F.slot_list_extend PySem.F.type_list_extend mt_extend (pv 1) (pa_cons (pe_call G_steps_of_part (hr.mono (by decide)) rfl g_steps_of_part k_steps_of_part b_steps_of_part .nil pass0 (pa_cons (pv 2) pa_nil)) pa_nil)))))
       (pss_one (ps_ret (pv 1))))), ?_⟩
  obtain ⟨v0, rfl, h⟩ := h
  obtain ⟨p, P', E', rfl, ⟨vs, hp, hr'⟩, hPr, hl, k⟩ := h
  have lv := hr'.length
  refine ⟨sz0, fun M hM => ?_⟩
  have sM := Same.new (o := .lst []) hM
  refine ⟨_, rfl, p, rfl, ⟨_, SqL.of (sM _ _ hp)⟩, for_list (K := K) (a := p) (xs := vs) (fun i σ H' => ∃ (v : Option V) (E1 E2 : Edit), σ = [some (.ref p), some (.ref M), v] ∧ Same H H' ∧ Ed H' M E1 ∧ E' = E1 ++ E2 ∧ Prt (P'.drop i) E2) ⟨none, [], E', rfl, sM, ⟨[], upd_same, .nil⟩, rfl, hPr⟩ (fun i σ H' _ ⟨_, _, _, _, s, _⟩ => SqL.of (s _ _ hp)) ?_ ?_⟩
  · rintro i x σ H' hi ⟨v, E1, E2, rfl, s, ⟨as, ha, ra⟩, hE, hP2⟩
    obtain ⟨t, r, rfl, hri, ht⟩ := (hr'.mono s).get' hi
    rw [drop_more hri] at hP2
    obtain ⟨e, E2', rfl, hpo, hP3⟩ := hP2.inv
    have hI : Is K H' t r := Is.of ht
    have la := ra.length
    rw [List.length_map] at la
    have hl' : E1.length + (e.length + E2'.length) ≤ 16000 := by rw [hE, List.length_append, List.length_append] at hl; exact hl
    refine ⟨_, rfl, .inl ⟨rfl, _, SqL.of ha⟩, _, rfl, _, rfl, t, r, e, rfl, hI, (part_size hpo).1, hpo, fun H2 q s2 ⟨bs, hb, rb⟩ => ?_⟩
    have ha2 := s2 _ _ ha
    have lb := rb.length
    rw [List.length_map] at lb
    refine ⟨M, q, as, bs, rfl, rfl, ha2, hb, le_size (by omega), ?_⟩
    refine ⟨some (.ref t), E1 ++ e, E2', rfl, (s.trans s2).upd hM, ⟨_, upd_same, ?_⟩, by rw [hE, List.append_assoc], hP3⟩
    rw [List.map_append]
    exact ((ra.mono s2).append rb).updL ha2
  · rintro σ H' ⟨v, E1, E2, rfl, s, hE1, hE, hP2⟩
    rw [lv, List.drop_length] at hP2
    have := hP2.inv0
    subst this
    rw [List.append_nil] at hE
    subst hE
    exact ⟨_, rfl, k _ _ s hE1⟩
end Ev

namespace Ev
open PySem PySem.Spec PyProof.Rows L2
open Vatrkj (Letter Edit Text)
/-! ### an edit told as numbers -/
def tl (t : Text) : List Int := (Vatrkj.toldLetters t).map Int.ofNat
theorem tl_append (a b : Text) : tl (a ++ b) = tl a ++ tl b := by simp [tl, Vatrkj.toldLetters]
theorem tl_one (x : Letter) : tl [x] = lI x := rfl
def sp_numbers_of_letters (K : PySem.W.Frag) (_ : Ad) : Sp := sp1 fun v H Q => ∃ p t, v = .ref p ∧ Tx H p t ∧ t.length ≤ 16000 ∧ ∀ H' q, Same H H' → H' q = some (.lst ((tl t).map V.int)) → Q (.ref q) H'
theorem tl_len : ∀ t : Text, (tl t).length = 2 * t.length
  | [] => rfl
  | x :: t => by
    have : tl (x :: t) = lI x ++ tl t := tl_append [x] t
    rw [this, List.length_append, tl_len t, List.length_cons]
    show 2 + _ = _
    omega
theorem use_numbers_of_letters {P : Program} {w : World} {K : PySem.W.Frag} {mg : Str → Option Value} {base : Heap} {a : Ad} (T : Txt K mg a) (D : Dfn K mg "numbers_of_letters" "numbers_of_letters" s_numbers_of_letters ["letters"])  : Use P w K mg base 1 "numbers_of_letters" ["letters"] (sp_numbers_of_letters K a) := by
  obtain ⟨f, fd, F, gf, bf⟩ := D
  refine ⟨f, fd, gf, F.kp, bf, F.ok (k := 0) sc_numbers_of_letters (fun vs H Q E h => h.len) (fun cdv A outer s H vs Q E hr h => ?_)⟩
  refine ⟨_, (pss_cons (ps_set (i := 1) sc_numbers_of_letters.nd rfl (Or.inl rfl) (pe_lst pa_nil))
       (pss_cons (ps_for PassesOwn.never rfl (pi_list (pv 0)) (pg_name (i := 2) sc_numbers_of_letters.nd rfl (Or.inl rfl)) (pss_cons (ps_expr (pe_bm PySem.F.plainAttrs_list PySem.F.slot_list_append PySem.F.type_list_append mt_append (pv 1) (pa_cons (pe_ix (ix_tup : IxR _ (rIxT K)) (pv 2) pe_int (fun _ _ => rfl)) pa_nil)))
       (pss_one (ps_expr (pe_bm PySem.F.plainAttrs_list PySem.F.slot_list_append PySem.F.type_list_append mt_append (pv 1) (pa_cons (pe_ix (ix_tup : IxR _ (rIxT K)) (pv 2) pe_int (fun _ _ => rfl)) pa_nil))))))
       (pss_one (ps_ret (pv 1))))), ?_⟩
  obtain ⟨v0, rfl, h⟩ := h
  obtain ⟨p, t, rfl, ⟨vs, hp, hr'⟩, hl, k⟩ := h
  have lv := hr'.length
  rw [List.length_map] at lv
  refine ⟨sz0, fun M hM => ?_⟩
  have sM := Same.new (o := .lst []) hM
  refine ⟨_, rfl, p, rfl, ⟨_, SqL.of (sM _ _ hp)⟩, for_list (K := K) (a := p) (xs := vs) (fun i σ H' => ∃ (v : Option V), σ = [some (.ref p), some (.ref M), v] ∧ Same H H' ∧ H' M = some (.lst ((tl (t.take i)).map V.int))) ⟨none, rfl, sM, upd_same⟩ (fun i σ H' _ ⟨_, _, s, _⟩ => SqL.of (s _ _ hp)) ?_ ?_⟩
  · rintro i x σ H' hi ⟨v, rfl, s, ha⟩
    obtain ⟨u, r, rfl, hri, hu⟩ := (hr'.mono s).get' hi
    obtain ⟨y, hy, rfl⟩ := map_get hri
    have hi' := ix_lt hy
    have lt : ((tl (t.take i)).map V.int).length ≤ 32000 := by rw [List.length_map, tl_len, List.length_take]; omega
    refine ⟨_, rfl, .inl ⟨rfl, _, SqL.of ha⟩, ev_l0 (ev_var rfl) hu _ ?_⟩
    refine ⟨M, _, _, rfl, rfl, ha, lt_size (by omega), ?_⟩
    have hu2 : (upd H' M (.lst ((tl (t.take i)).map V.int ++ [.int y.sign]))) u = some (.tup ((lI y).map V.int)) := by rw [upd_ne (ne_of hu ha (by intro z; cases z))]; exact hu
    refine ⟨_, rfl, .inl ⟨rfl, _, SqL.of upd_same⟩, ev_l1 (ev_var rfl) hu2 _ ?_⟩
    refine ⟨M, _, _, rfl, rfl, upd_same, lt_size (by rw [List.length_append]; show _ + 1 < _; omega), ?_⟩
    rw [upd_upd]
    refine ⟨some (.ref u), rfl, s.upd hM, ?_⟩
    rw [upd_same, take_more hy, tl_append, List.map_append, List.append_assoc]
    rfl
  · rintro σ H' ⟨v, rfl, s, ha⟩
    rw [lv, List.take_length] at ha
    exact ⟨_, rfl, k _ _ s ha⟩
/-- the two steps can stand in one part -/
def shr : Stp → Stp → Bool
  | .paint f g, y => decide (Vatrkj.Step.paint f g = y)
  | x, y => decide (s0 x = s0 y)
def sp_share_part (K : PySem.W.Frag) (_ : Ad) : Sp := sp2 fun v0 v1 H Q => ∃ x y, StV H v0 x ∧ StV H v1 y ∧ Q (.bl (shr x y)) H
theorem use_share_part {P : Program} {w : World} {K : PySem.W.Frag} {mg : Str → Option Value} {base : Heap} {a : Ad} (T : Txt K mg a) (D : Dfn K mg "share_part" "share_part" s_share_part ["one", "other"])  : Use P w K mg base 1 "share_part" ["one", "other"] (sp_share_part K a) := by
  obtain ⟨f, fd, F, gf, bf⟩ := D
  refine ⟨f, fd, gf, F.kp, bf, F.ok (k := 0) sc_share_part (fun vs H Q E h => h.len) (fun cdv A outer s H vs Q E hr h => ?_)⟩
  refine ⟨_, (pss_cons (ps_if (pt_cmpR op_eq (pe_ix (ix_tup : IxR _ (rIxT K)) (pv 0) pe_int (fun _ _ => rfl)) (pe_glob (v := .int 1) rfl T.c_PAINT ⟨_, rfl⟩) (nomark _)) (pss_one (ps_ret (pe_cmpR (op_eqD hr.units : OpR _ (compareOp .Eq) (rEqD K)) (pv 0) (pv 1) (nomark _)))) pss_nil)
       (pss_one (ps_ret (pe_cmpR op_eq (pe_ix (ix_tup : IxR _ (rIxT K)) (pv 0) pe_int (fun _ _ => rfl)) (pe_ix (ix_tup : IxR _ (rIxT K)) (pv 1) pe_int (fun _ _ => rfl)) (nomark _))))), ?_⟩
  obtain ⟨v0, v1, rfl, h⟩ := h
  obtain ⟨x, y, ⟨t, rfl, ht⟩, ⟨u, rfl, hu⟩, k⟩ := h
  refine ev_if (ev_test (ev_eq (ev_s0 (ev_var rfl) ht) ev_c)) (fun c => ?_) fun c => ?_
  · obtain ⟨f', g', rfl⟩ := s0_paint (of_decide_eq_true c)
    refine ⟨_, rfl, _, rfl, rEqD_of (r := sI (.paint f' g')) (q := sI y) ht hu ?_⟩
    rw [sI_eq]
    exact k
  · refine ev_eq (ev_s0 (ev_var rfl) ht) (ev_s0 (ev_var rfl) hu) _ ?_
    cases x with
    | paint f g => exact no_tf c
    | _ => exact k
/-- where the run that begins at i ends -/
def rEnd (e : Edit) (i : Nat) (x : Stp) : Nat := i + 1 + ((e.drop (i + 1)).takeWhile (shr x)).length
def sp_run_end (K : PySem.W.Frag) (_ : Ad) : Sp := sp2 fun v0 v1 H Q => ∃ (p : Addr) (e : Edit) (i : Nat) (x : Stp), v0 = .ref p ∧ Ed H p e ∧ e.length ≤ 16000 ∧ v1 = .int i ∧ e[i]? = some x ∧ Q (.int (rEnd e i x)) H
theorem use_run_end {P : Program} {w : World} {K : PySem.W.Frag} {mg : Str → Option Value} {base : Heap} {a : Ad} (T : Txt K mg a) (D : Dfn K mg "run_end" "run_end" s_run_end ["steps", "at"]) (U_share_part : Use P w K mg base 1 "share_part" ["one", "other"] (sp_share_part K a)) : Use P w K mg base 2 "run_end" ["steps", "at"] (sp_run_end K a) := by
  obtain ⟨f, fd, F, gf, bf⟩ := D
  obtain ⟨f_share_part, fd_share_part, g_share_part, k_share_part, b_share_part, G_share_part⟩ := U_share_part
  refine ⟨f, fd, gf, F.kp, bf, F.ok (k := 1) sc_run_end (fun vs H Q E h => h.len) (fun cdv A outer s H vs Q E hr h => ?_)⟩
  refine ⟨_, (pss_cons (ps_set (i := 2) sc_run_end.nd rfl (Or.inl rfl) (pe_op op_add (pv 1) pe_int))
       (pss_cons (ps_while PassesOwn.never (PW.pt (pw_and (pt_cmpR op_lt (pv 2) (pe_callB call_len_seq rfl T.n_len PySem.boot_len (pa_cons (pv 0) pa_nil)) (nomark _)) (pw_and1 (pt_val (pe_call G_share_part (hr.mono (by decide)) rfl g_share_part k_share_part b_share_part .nil pass0 (pa_cons (pe_ix (ix_list : IxR _ (rIxL K)) (pv 0) (pv 1) (fun _ _ => rfl)) (pa_cons (pe_ix (ix_list : IxR _ (rIxL K)) (pv 0) (pv 2) (fun _ _ => rfl)) pa_nil))))))) (pss_one (ps_aug (i := 2) sc_run_end.nd rfl (Or.inl rfl) pe_int ip_add)))
       (pss_one (ps_ret (pv 2))))), ?_⟩
  obtain ⟨v0, v1, rfl, h⟩ := h
  obtain ⟨p, e, i, x, rfl, ⟨vs, hp, hr'⟩, hl, rfl, hx, k⟩ := h
  have lv := hr'.length
  rw [List.length_map] at lv
  have hi := ix_lt hx
  obtain ⟨t, h1, h2⟩ := hr'.get (i := i) (r := sI x) (by rw [List.getElem?_map, hx]; rfl)
  refine ⟨_, rfl, _, _, rfl, rfl, ?_⟩
  refine ⟨fun m σ H' => ∃ j : Nat, m = e.length - j ∧ σ = [some (.ref p), some (.int i), some (.int (j : Int))] ∧ H' = H ∧ i + 1 ≤ j ∧ j ≤ e.length ∧ rEnd e i x = j + ((e.drop j).takeWhile (shr x)).length, ⟨_, i + 1, rfl, rfl, rfl, Nat.le_refl _, hi, rfl⟩, ?_⟩
  rintro m σ H' ⟨j, rfl, rfl, rfl, hij, hj, hq⟩
  have hs : SqL K H' p vs := SqL.of hp
  by_cases hlt : j < e.length
  · obtain ⟨y, u, hy, g1, g2⟩ := ed_get hr' hlt
    rw [drop_more hy] at hq
    refine ev_if (ev_and (ev_ltlen (K := K) (ev_var rfl) (ev_var rfl) hs hr') fun _ => ev_tB (ev_call2 (ev_at (K := K) (ev_var rfl) (ev_var rfl) hs h1) (ev_at (K := K) (ev_var rfl) (ev_var rfl) hs g1) fun Q q => ⟨_, _, rfl, x, y, ⟨t, rfl, h2⟩, ⟨u, rfl, g2⟩, q⟩)) (fun c => ?_) fun c => ?_
    · rw [Bool.and_eq_true] at c
      refine ⟨_, fun _ _ h => h, ⟨_, rfl, _, _, rfl, rfl, ?_⟩⟩
      rw [List.takeWhile_cons, if_pos c.2, List.length_cons] at hq
      exact ⟨_, by omega, j + 1, rfl, rfl, rfl, by omega, hlt, by rw [hq]; omega⟩
    · rw [decide_eq_true hlt, Bool.true_and] at c
      rw [List.takeWhile_cons, if_neg (by rw [c]; decide)] at hq
      refine ⟨_, rfl, ?_⟩
      rw [hq] at k
      exact k
  · refine ev_if (b := false) (ev_and (c := false) (ev_ltlen (K := K) (ev_var rfl) (ev_var rfl) hs hr') (fun z => absurd (of_decide_eq_true z) hlt) |> fun z => by rw [Bool.and_false] at z; exact z) (fun c => no_ft c) fun c => ?_
    rw [drop_none (by omega : e.length ≤ j)] at hq
    refine ⟨_, rfl, ?_⟩
    rw [hq] at k
    exact k
/-- a part as numbers -/
def tp (x : Stp) (run : Edit) : List Int := match x with
  | .keep => [0, (run.length : Int)]
  | .paint f g => [1, (f : Int), (g : Int), (run.length : Int)]
  | .drop _ => 2 :: (run.length : Int) :: run.flatMap fun s => [s1 s, s2 s]
  | .put _ => 3 :: (run.length : Int) :: run.flatMap fun s => [s1 s, s2 s]
def sp_part_of_run (K : PySem.W.Frag) (_ : Ad) : Sp := sp1 fun v H Q => ∃ p e x, v = .ref p ∧ Ed H p e ∧ e.length ≤ 16000 ∧ e[0]? = some x ∧ ∀ H' q, Same H H' → H' q = some (.lst ((tp x e).map V.int)) → Q (.ref q) H'
theorem fl_len : ∀ e : Edit, (e.flatMap fun s => [s1 s, s2 s]).length = 2 * e.length
  | [] => rfl
  | x :: t => by
    simp only [List.flatMap_cons, List.length_append, fl_len t, List.length_cons, List.length_nil]
    omega
theorem tp_two {x : Stp} {e : Edit} (h0 : ¬ s0 x = 0) (h1 : ¬ s0 x = 1) : tp x e = s0 x :: (e.length : Int) :: e.flatMap fun s => [s1 s, s2 s] := by
  cases x with
  | keep => exact absurd rfl h0
  | paint f g => exact absurd rfl h1
  | drop z => rfl
  | put z => rfl
theorem use_part_of_run {P : Program} {w : World} {K : PySem.W.Frag} {mg : Str → Option Value} {base : Heap} {a : Ad} (T : Txt K mg a) (D : Dfn K mg "part_of_run" "part_of_run" s_part_of_run ["run"])  : Use P w K mg base 1 "part_of_run" ["run"] (sp_part_of_run K a) := by
  obtain ⟨f, fd, F, gf, bf⟩ := D
  refine ⟨f, fd, gf, F.kp, bf, F.ok (k := 0) sc_part_of_run (fun vs H Q E h => h.len) (fun cdv A outer s H vs Q E hr h => ?_)⟩
  refine ⟨_, (pss_cons (ps_set (i := 1) sc_part_of_run.nd rfl (Or.inl rfl) (pe_ix (ix_list : IxR _ (rIxL K)) (pv 0) pe_int (fun _ _ => rfl)))
       (pss_cons (ps_if (pt_cmpR op_eq (pe_ix (ix_tup : IxR _ (rIxT K)) (pv 1) pe_int (fun _ _ => rfl)) (pe_glob (v := .int 0) rfl T.c_KEEP ⟨_, rfl⟩) (nomark _)) (pss_one (ps_ret (pe_lst (pa_cons (pe_glob (v := .int 0) rfl T.c_KEEP ⟨_, rfl⟩) (pa_cons (pe_callB call_len_seq rfl T.n_len PySem.boot_len (pa_cons (pv 0) pa_nil)) pa_nil))))) pss_nil)
       (pss_cons (ps_if (pt_cmpR op_eq (pe_ix (ix_tup : IxR _ (rIxT K)) (pv 1) pe_int (fun _ _ => rfl)) (pe_glob (v := .int 1) rfl T.c_PAINT ⟨_, rfl⟩) (nomark _)) (pss_one (ps_ret (pe_lst (pa_cons (pe_glob (v := .int 1) rfl T.c_PAINT ⟨_, rfl⟩) (pa_cons (pe_ix (ix_tup : IxR _ (rIxT K)) (pv 1) pe_int (fun _ _ => rfl)) (pa_cons (pe_ix (ix_tup : IxR _ (rIxT K)) (pv 1) pe_int (fun _ _ => rfl)) (pa_cons (pe_callB call_len_seq rfl T.n_len PySem.boot_len (pa_cons (pv 0) pa_nil)) pa_nil))))))) pss_nil)
       (pss_cons (ps_set (i := 2) sc_part_of_run.nd rfl (Or.inl rfl) (pe_lst (pa_cons (pe_ix (ix_tup : IxR _ (rIxT K)) (pv 1) pe_int (fun _ _ => rfl)) (pa_cons (pe_callB call_len_seq rfl T.n_len PySem.boot_len (pa_cons (pv 0) pa_nil)) pa_nil))))
       (pss_cons (ps_for PassesOwn.never rfl (pi_list (pv 0)) (pg_name (i := 3) sc_part_of_run.nd rfl (Or.inl rfl)) (pss_cons (ps_expr (pe_bm PySem.F.plainAttrs_list PySem.F.slot_list_append PySem.F.type_list_append mt_append (pv 2) (pa_cons (pe_ix (ix_tup : IxR _ (rIxT K)) (pv 3) pe_int (fun _ _ => rfl)) pa_nil)))
       (pss_one (ps_expr (pe_bm PySem.F.plainAttrs_list PySem.F.slot_list_append PySem.F.type_list_append mt_append (pv 2) (pa_cons (pe_ix (ix_tup : IxR _ (rIxT K)) (pv 3) pe_int (fun _ _ => rfl)) pa_nil))))))
       (pss_one (ps_ret (pv 2)))))))), ?_⟩
  obtain ⟨v0, rfl, h⟩ := h
  obtain ⟨p, e, x, rfl, ⟨vs, hp, hr'⟩, hl, hx, k⟩ := h
  have lv := hr'.length
  rw [List.length_map] at lv
  obtain ⟨t, h1, ht⟩ := hr'.get (i := 0) (r := sI x) (by rw [List.getElem?_map, hx]; rfl)
  have hs : SqL K H p vs := SqL.of hp
  have lenv : ((vs.length : Nat) : Int) = (e.length : Int) := by rw [lv]
  refine ev_ixL (K := K) (ev_var rfl) ev_c hs (at_of (j := 0) rfl h1) _ ?_
  refine ev_if (ev_test (ev_eq (ev_s0 (ev_var rfl) ht) ev_c)) (fun c => ?_) fun c => ?_
  · obtain rfl := s0_keep (of_decide_eq_true c)
    refine ⟨_, rfl, p, _, rfl, .inl hs, sz2, fun q hq => k _ _ (Same.new hq) ?_⟩
    rw [upd_same, lenv]; rfl
  refine ev_if (ev_test (ev_eq (ev_s0 (ev_var rfl) ht) ev_c)) (fun d => ?_) fun d => ?_
  · obtain ⟨f', g', rfl⟩ := s0_paint (of_decide_eq_true d)
    refine ev_s1 (ev_var rfl) ht _ ?_
    refine ev_s2 (ev_var rfl) ht _ ?_
    refine ev_len (K := K) (ev_var rfl) hs _ ?_
    refine ⟨le_size (by show 4 ≤ _; omega), fun q hq => k _ _ (Same.new hq) ?_⟩
    rw [upd_same, lenv]; rfl
  rw [tp_two (of_decide_eq_false c) (of_decide_eq_false d)] at k
  refine ev_s0 (ev_var rfl) ht _ ?_
  refine ev_len (K := K) (ev_var rfl) hs _ ?_
  refine ⟨sz2, fun M hM => ?_⟩
  have sM := Same.new (o := .lst [V.int (s0 x), V.int (vs.length : Nat)]) hM
  refine ⟨_, rfl, p, rfl, ⟨_, SqL.of (sM _ _ hp)⟩, for_list (K := K) (a := p) (xs := vs) (fun i σ H' => ∃ (v : Option V), σ = [some (.ref p), some (.ref t), some (.ref M), v] ∧ Same H H' ∧ H' M = some (.lst ((s0 x :: (e.length : Int) :: (e.take i).flatMap fun s => [s1 s, s2 s]).map V.int))) ⟨none, rfl, sM, by rw [upd_same, lenv]; rfl⟩ (fun i σ H' _ ⟨_, _, s, _⟩ => SqL.of (s _ _ hp)) ?_ ?_⟩
  · rintro i z σ H' hi ⟨v, rfl, s, ha⟩
    obtain ⟨u, r, rfl, hri, hu⟩ := (hr'.mono s).get' hi
    obtain ⟨y, hy, rfl⟩ := map_get hri
    have hi' := ix_lt hy
    have lt : ((s0 x :: (e.length : Int) :: (e.take i).flatMap fun s => [s1 s, s2 s]).map V.int).length ≤ 32002 := by rw [List.length_map, List.length_cons, List.length_cons, fl_len, List.length_take]; omega
    refine ⟨_, rfl, .inl ⟨rfl, _, SqL.of ha⟩, ev_s1 (ev_var rfl) hu _ ?_⟩
    refine ⟨M, _, _, rfl, rfl, ha, lt_size (by omega), ?_⟩
    have hu2 : (upd H' M (.lst ((s0 x :: (e.length : Int) :: (e.take i).flatMap fun s => [s1 s, s2 s]).map V.int ++ [.int (s1 y)]))) u = some (.tup ((sI y).map V.int)) := by rw [upd_ne (ne_of hu ha (by intro z; cases z))]; exact hu
    refine ⟨_, rfl, .inl ⟨rfl, _, SqL.of upd_same⟩, ev_s2 (ev_var rfl) hu2 _ ?_⟩
    refine ⟨M, _, _, rfl, rfl, upd_same, lt_size (by rw [List.length_append]; show _ + 1 < _; omega), ?_⟩
    rw [upd_upd]
    refine ⟨some (.ref u), rfl, s.upd hM, ?_⟩
    rw [upd_same, take_more hy, List.flatMap_append, List.append_assoc]
    simp
  · rintro σ H' ⟨v, rfl, s, ha⟩
    rw [lv, List.take_length] at ha
    exact ⟨_, rfl, k _ _ s ha⟩
/-! the specification's parts, run by run -/
def lt' : Stp → Letter
  | .drop x => x
  | .put x => x
  | _ => ⟨0, 0⟩
def mkP (x : Stp) (run : Edit) : Vatrkj.Part := match x with
  | .keep => .keep run.length
  | .paint f g => .paint f g run.length
  | .drop _ => .drop (run.map lt')
  | .put _ => .put (run.map lt')
theorem shr_eq {x y : Stp} (h : shr x y = true) : shr x = shr y := by
  funext z
  cases x with
  | paint f g =>
    have : Vatrkj.Step.paint f g = y := of_decide_eq_true h
    rw [← this]
  | keep =>
    have h' : s0 .keep = s0 y := of_decide_eq_true h
    have := s0_keep h'.symm
    rw [this]
  | drop a =>
    have h' : s0 (.drop a) = s0 y := of_decide_eq_true h
    obtain ⟨b, rfl⟩ := s0_drop h'.symm
    rfl
  | put a =>
    have h' : s0 (.put a) = s0 y := of_decide_eq_true h
    obtain ⟨b, rfl⟩ := s0_put h'.symm
    rfl
theorem onto_same {x y : Stp} {run : Edit} {R : List Vatrkj.Part} (h : shr x y = true) : Vatrkj.onto x (mkP y run :: R) = mkP x (x :: run) :: R := by
  cases x with
  | paint f g =>
    have e : Vatrkj.Step.paint f g = y := of_decide_eq_true h
    rw [← e]
    show (if f = f ∧ g = g then _ else _) = _
    rw [if_pos ⟨rfl, rfl⟩]
    rfl
  | keep =>
    have h' : s0 .keep = s0 y := of_decide_eq_true h
    have := s0_keep h'.symm
    rw [this]; rfl
  | drop a =>
    have h' : s0 (.drop a) = s0 y := of_decide_eq_true h
    obtain ⟨b, rfl⟩ := s0_drop h'.symm
    rfl
  | put a =>
    have h' : s0 (.put a) = s0 y := of_decide_eq_true h
    obtain ⟨b, rfl⟩ := s0_put h'.symm
    rfl
theorem onto_new {x y : Stp} {run : Edit} {R : List Vatrkj.Part} (h : shr x y = false) : Vatrkj.onto x (mkP y run :: R) = mkP x [x] :: mkP y run :: R := by
  cases x with
  | paint f g =>
    have e : ¬ Vatrkj.Step.paint f g = y := of_decide_eq_false h
    cases y with
    | paint f' g' =>
      show (if f = f' ∧ g = g' then _ else _) = _
      rw [if_neg (fun z => e (by rw [z.1, z.2]))]
      rfl
    | _ => rfl
  | keep => cases y with
    | keep => exact no_tf h
    | _ => rfl
  | drop a => cases y with
    | drop b => exact no_tf h
    | _ => rfl
  | put a => cases y with
    | put b => exact no_tf h
    | _ => rfl
theorem partsIn_run : ∀ (r : Edit) (x : Stp), Vatrkj.partsIn (x :: r) = mkP x (x :: r.takeWhile (shr x)) :: Vatrkj.partsIn (r.dropWhile (shr x))
  | [], x => by cases x <;> rfl
  | y :: r, x => by
    show Vatrkj.onto x (Vatrkj.partsIn (y :: r)) = _
    rw [partsIn_run r y]
    cases h : shr x y with
    | true =>
      rw [onto_same h, List.takeWhile_cons, if_pos h, List.dropWhile_cons, if_pos h, shr_eq h]
    | false =>
      rw [onto_new h, List.takeWhile_cons, if_neg (by rw [h]; decide), List.dropWhile_cons, if_neg (by rw [h]; decide), partsIn_run r y]
def toldI (e : Edit) : List Int := (Vatrkj.toldEdit e).map Int.ofNat
theorem tl_run : ∀ run : Edit, (∀ z ∈ run, s0 z = 2 ∨ s0 z = 3) → (Vatrkj.toldLetters (run.map lt')).map Int.ofNat = run.flatMap fun s => [s1 s, s2 s]
  | [], _ => rfl
  | z :: run, h => by
    have ih := tl_run run fun y hy => h y (List.mem_cons_of_mem _ hy)
    have e1 : tl (lt' z :: run.map lt') = lI (lt' z) ++ tl (run.map lt') := tl_append [lt' z] _
    show tl (lt' z :: run.map lt') = [s1 z, s2 z] ++ _
    rw [e1]
    have e2 : lI (lt' z) = [s1 z, s2 z] := by
      rcases h z List.mem_cons_self with q | q
      · obtain ⟨b, rfl⟩ := s0_drop q; rfl
      · obtain ⟨b, rfl⟩ := s0_put q; rfl
    rw [e2]
    exact congrArg _ ih
theorem toldPart_run {x : Stp} {r : Edit} : (Vatrkj.toldPart (mkP x (x :: r.takeWhile (shr x)))).map Int.ofNat = tp x (x :: r.takeWhile (shr x)) := by
  have all : ∀ z ∈ r.takeWhile (shr x), shr x z = true := fun z hz => by
    have := List.all_takeWhile (p := shr x) (l := r)
    exact List.all_eq_true.mp this z hz
  cases x with
  | keep => rfl
  | paint f g => rfl
  | drop a =>
    have : ∀ z ∈ Vatrkj.Step.drop a :: r.takeWhile (shr (.drop a)), s0 z = 2 ∨ s0 z = 3 := fun z hz => by
      rcases List.mem_cons.mp hz with rfl | hz
      · exact .inl rfl
      · have q : s0 (.drop a) = s0 z := of_decide_eq_true (all z hz)
        exact .inl (q ▸ rfl)
    show (2 :: ((Vatrkj.Step.drop a :: r.takeWhile (shr (.drop a))).map lt').length :: Vatrkj.toldLetters ((Vatrkj.Step.drop a :: r.takeWhile (shr (.drop a))).map lt')).map Int.ofNat = 2 :: _ :: _
    rw [List.map_cons, List.map_cons, tl_run _ this, List.length_map]
    rfl
  | put a =>
    have : ∀ z ∈ Vatrkj.Step.put a :: r.takeWhile (shr (.put a)), s0 z = 2 ∨ s0 z = 3 := fun z hz => by
      rcases List.mem_cons.mp hz with rfl | hz
      · exact .inr rfl
      · have q : s0 (.put a) = s0 z := of_decide_eq_true (all z hz)
        exact .inr (q ▸ rfl)
    show (3 :: ((Vatrkj.Step.put a :: r.takeWhile (shr (.put a))).map lt').length :: Vatrkj.toldLetters ((Vatrkj.Step.put a :: r.takeWhile (shr (.put a))).map lt')).map Int.ofNat = 3 :: _ :: _
    rw [List.map_cons, List.map_cons, tl_run _ this, List.length_map]
    rfl
theorem toldI_run (x : Stp) (r : Edit) : toldI (x :: r) = tp x (x :: r.takeWhile (shr x)) ++ toldI (r.dropWhile (shr x)) := by
  unfold toldI Vatrkj.toldEdit
  rw [partsIn_run, List.flatMap_cons, List.map_append, toldPart_run]
theorem drop_tw {α : Type} (p : α → Bool) : ∀ l : List α, l.drop (l.takeWhile p).length = l.dropWhile p
  | [] => rfl
  | x :: l => by
    cases h : p x with
    | true => rw [List.takeWhile_cons, if_pos h, List.dropWhile_cons, if_pos h, List.length_cons, List.drop_succ_cons, drop_tw p l]
    | false => rw [List.takeWhile_cons, if_neg (by rw [h]; decide), List.dropWhile_cons, if_neg (by rw [h]; decide)]; rfl
theorem take_tw {α : Type} (p : α → Bool) : ∀ l : List α, l.take (l.takeWhile p).length = l.takeWhile p
  | [] => rfl
  | x :: l => by
    cases h : p x with
    | true => rw [List.takeWhile_cons, if_pos h, List.length_cons, List.take_succ_cons, take_tw p l]
    | false => rw [List.takeWhile_cons, if_neg (by rw [h]; decide)]; rfl
theorem tp_len (x : Stp) (e : Edit) : (tp x e).length ≤ 4 + 2 * e.length := by
  cases x with
  | keep => show 2 ≤ _; omega
  | paint f g => show 4 ≤ _; omega
  | drop z => show (_ + 1 + 1) ≤ _; rw [fl_len]; omega
  | put z => show (_ + 1 + 1) ≤ _; rw [fl_len]; omega
def sp_numbers_of_steps (K : PySem.W.Frag) (_ : Ad) : Sp := sp1 fun v H Q => ∃ p e, v = .ref p ∧ Ed H p e ∧ e.length ≤ 16000 ∧ ∀ H' q, Same H H' → (toldI e).length ≤ 6 * e.length → H' q = some (.lst ((toldI e).map V.int)) → Q (.ref q) H'
theorem use_numbers_of_steps {P : Program} {w : World} {K : PySem.W.Frag} {mg : Str → Option Value} {base : Heap} {a : Ad} (T : Txt K mg a) (D : Dfn K mg "numbers_of_steps" "numbers_of_steps" s_numbers_of_steps ["steps"]) (U_run_end : Use P w K mg base 2 "run_end" ["steps", "at"] (sp_run_end K a)) (U_part_of_run : Use P w K mg base 1 "part_of_run" ["run"] (sp_part_of_run K a)) : Use P w K mg base 3 "numbers_of_steps" ["steps"] (sp_numbers_of_steps K a) := by
  obtain ⟨f, fd, F, gf, bf⟩ := D
  obtain ⟨f_run_end, fd_run_end, g_run_end, k_run_end, b_run_end, G_run_end⟩ := U_run_end
  obtain ⟨f_part_of_run, fd_part_of_run, g_part_of_run, k_part_of_run, b_part_of_run, G_part_of_run⟩ := U_part_of_run
  refine ⟨f, fd, gf, F.kp, bf, F.ok (k := 2) sc_numbers_of_steps (fun vs H Q E h => h.len) (fun cdv A outer s H vs Q E hr h => ?_)⟩
  refine ⟨_, (pss_cons (ps_set (i := 1) sc_numbers_of_steps.nd rfl (Or.inl rfl) (pe_lst pa_nil))
       (pss_cons (ps_set (i := 2) sc_numbers_of_steps.nd rfl (Or.inl rfl) pe_int)
       (pss_cons (ps_while PassesOwn.never (pt_cmpR op_lt (pv 2) (pe_callB call_len_seq rfl T.n_len PySem.boot_len (pa_cons (pv 0) pa_nil)) (nomark _)) (pss_cons (ps_set (i := 3) sc_numbers_of_steps.nd rfl (Or.inl rfl) (pe_call G_run_end (hr.mono (by decide)) rfl g_run_end k_run_end b_run_end .nil pass0 (pa_cons (pv 0) (pa_cons (pv 2) pa_nil))))
       (pss_cons (ps_expr (pe_bm PySem.F.plainAttrs_list PySem.F.slot_list_extend PySem.F.type_list_extend mt_extend (pv 1) (pa_cons (pe_call G_part_of_run (hr.mono (by decide)) rfl g_part_of_run k_part_of_run b_part_of_run .nil pass0 (pa_cons (pe_slice sl_list (pv 0) (po_some (pv 2)) (po_some (pv 3))) pa_nil)) pa_nil)))
       (pss_one (ps_set (i := 2) sc_numbers_of_steps.nd rfl (Or.inl rfl) (pv 3))))))
       (pss_one (ps_ret (pv 1)))))), ?_⟩
  obtain ⟨v0, rfl, h⟩ := h
  obtain ⟨p, e, rfl, ⟨vs, hp, hr'⟩, hl, k⟩ := h
  have lv := hr'.length
  rw [List.length_map] at lv
  refine ⟨sz0, fun M hM => ?_⟩
  have sM := Same.new (o := .lst []) hM
  refine ⟨fun m σ H' => ∃ (i : Nat) (v : Option V) (ns : List Int), m = e.length - i ∧ σ = [some (.ref p), some (.ref M), some (.int i), v] ∧ Same H H' ∧ H' M = some (.lst (ns.map V.int)) ∧ ns.length ≤ 6 * i ∧ i ≤ e.length ∧ toldI e = ns ++ toldI (e.drop i), ⟨_, 0, none, [], rfl, rfl, sM, upd_same, Nat.le_refl _, Nat.zero_le _, rfl⟩, ?_⟩
  rintro m σ H' ⟨i, v, ns, rfl, rfl, s, hns, hnl, hi, hq⟩
  have hs' : SqL K H' p vs := SqL.of (s _ _ hp)
  have rr := hr'.mono s
  refine ev_if (ev_ltlen (K := K) (ev_var rfl) (ev_var rfl) hs' rr) (fun c => ?_) fun c => ?_
  case refine_2 =>
    have c' := of_decide_eq_false c
    rw [drop_none (by omega : e.length ≤ i)] at hq
    have e0 : toldI [] = [] := rfl
    rw [e0, List.append_nil] at hq
    refine ⟨_, rfl, k _ _ s (by rw [hq]; omega) ?_⟩
    rw [hq]; exact hns
  have c' := of_decide_eq_true c
  obtain ⟨x, hx⟩ := get_of c'
  refine ⟨_, fun _ _ h => h, ?_⟩
  refine ⟨_, rfl, _, rfl, _, _, rfl, p, e, i, x, rfl, ⟨vs, s _ _ hp, rr⟩, hl, rfl, hx, ?_⟩
  have hE : rEnd e i x ≤ e.length := by
    have h1 : ((e.drop (i + 1)).takeWhile (shr x)).length ≤ (e.drop (i + 1)).length := (List.takeWhile_sublist _).length_le
    rw [List.length_drop] at h1
    unfold rEnd
    omega
  have hE1 : i + 1 ≤ rEnd e i x := by unfold rEnd; omega
  have hrun : (e.drop i).take (rEnd e i x - i) = x :: (e.drop (i + 1)).takeWhile (shr x) := by
    have e1 : rEnd e i x - i = ((e.drop (i + 1)).takeWhile (shr x)).length + 1 := by unfold rEnd; omega
    rw [e1, drop_more hx, List.take_succ_cons, take_tw]
  have hrest : e.drop (rEnd e i x) = (e.drop (i + 1)).dropWhile (shr x) := by
    unfold rEnd
    rw [← List.drop_drop, drop_tw]
  refine ⟨_, rfl, .inl ⟨rfl, _, SqL.of hns⟩, _, rfl, _, rfl, _, rfl, _, rfl, _, rfl, p, _, rfl, hs', fun q hq' => ?_⟩
  have hcut : cutV vs (some (i : Int)) (some ((rEnd e i x : Nat) : Int)) = (vs.drop i).take (rEnd e i x - i) := cut_nat (by omega) (by omega)
  have sq := Same.new (o := .lst (cutV vs (some (i : Int)) (some ((rEnd e i x : Nat) : Int)))) hq'
  refine ⟨_, rfl, q, (e.drop i).take (rEnd e i x - i), x, rfl, ⟨_, upd_same, ?_⟩, ?_, ?_, fun H2 b s2 hb => ?_⟩
  · rw [hcut, List.map_take, List.map_drop]
    exact ((rr.drop i).take _).updN hq'
  · rw [List.length_take, List.length_drop]; omega
  · rw [hrun]; rfl
  have hns2 := s2 _ _ (sq _ _ hns)
  have hlen : ((e.drop i).take (rEnd e i x - i)).length = rEnd e i x - i := by rw [List.length_take, List.length_drop]; omega
  have htl := tp_len x ((e.drop i).take (rEnd e i x - i))
  rw [hlen] at htl
  refine ⟨M, b, _, _, rfl, rfl, hns2, hb, le_size (by rw [List.length_map, List.length_map]; omega), ?_⟩
  refine ⟨_, rfl, ?_⟩
  refine ⟨_, ?_, rEnd e i x, _, ns ++ tp x ((e.drop i).take (rEnd e i x - i)), rfl, rfl, ((s.trans sq).trans s2).upd hM, ?_, ?_, hE, ?_⟩
  · omega
  · rw [upd_same, List.map_append]
  · rw [List.length_append]; omega
  · rw [hq, List.append_assoc, hrun, hrest, drop_more hx, toldI_run]
end Ev

namespace Ev
open PySem PySem.Spec PyProof.Rows L2
open Vatrkj (Letter Edit Text)
/-! ### the object held -/
def sp_name_edits (K : PySem.W.Frag) (_ : Ad) : Sp := sp1 fun v H Q => ∃ (p : Addr) (l : List Int), v = .ref p ∧ H p = some (.lst (l.map V.int)) ∧ l.length ≤ 1000 ∧ ∀ H', Same H H' → Q (.bl (l.all Vatrkj.isName)) H'
theorem name_is (z : Int) : (decide (0 ≤ z) && decide (z < 10)) = Vatrkj.isName z := by
  show _ = (decide (0 ≤ z) && decide (z ≤ 9))
  congr 1
  by_cases h : z < 10
  · have : z ≤ 9 := by omega
    simp [h, this]
  · have : ¬ z ≤ 9 := by omega
    simp [h, this]
theorem all_more {l : List Int} {i : Nat} {z : Int} (h : l[i]? = some z) : (l.take (i + 1)).map Vatrkj.isName = (l.take i).map Vatrkj.isName ++ [Vatrkj.isName z] := by
  rw [take_more h, List.map_append]; rfl
theorem use_name_edits {P : Program} {w : World} {K : PySem.W.Frag} {mg : Str → Option Value} {base : Heap} {a : Ad} (T : Txt K mg a) (D : Dfn K mg "name_edits" "name_edits" s_name_edits ["names"])  : Use P w K mg base 1 "name_edits" ["names"] (sp_name_edits K a) := by
  obtain ⟨f, fd, F, gf, bf⟩ := D
  refine ⟨f, fd, gf, F.kp, bf, F.ok (k := 0) sc_name_edits (fun vs H Q E h => h.len) (fun cdv A outer s H vs Q E hr h => ?_)⟩
  refine ⟨_, (pss_one (ps_ret (pe_callB (cr_all rfl) rfl T.n_all (by decide +kernel) (pa_cons (pe_lc (own := [("name", 1)]) (g := gName 1) (tt := tYes) rfl sc_name_edits.nd (pi_list (pv 0)) (blkOk_by (own := [("name", 1)]) (N := ["names", "name"]) (sc := defScope s_name_edits) (by decide +kernel)) (fun _ _ _ _ _ => pg_name (i := 1) sc_name_edits.nd rfl (Or.inl rfl)) (fun _ _ _ _ _ => pts_nil) (fun _ _ _ _ _ => (pe_chain op_le op_lt pe_int (pv 1) (pe_glob (v := .int 10) rfl T.c_EDITS ⟨_, rfl⟩)))) pa_nil)))), ?_⟩
  obtain ⟨v0, rfl, h⟩ := h
  obtain ⟨p, l, rfl, hp, hl, k⟩ := h
  refine ⟨_, rfl, p, rfl, ⟨_, SqL.of hp⟩, fun D hD => lc_list (K := K) (a := p) (xs := l.map V.int) (fun i H' => Same H H' ∧ H' D = some (.lst (((l.take i).map Vatrkj.isName).map V.bl))) ⟨Same.new hD, upd_same⟩ (fun i H' _ ⟨s, _⟩ => SqL.of (s _ _ hp)) ?_ ?_⟩
  · rintro i x H' hi ⟨s, hacc⟩
    obtain ⟨z, hz, rfl⟩ := map_get hi
    have hi' := ix_lt hz
    refine ⟨rfl, ?_⟩
    refine yes_of ?_
    refine ev_chain (r := rI0 fun i j => .bl (decide (i ≤ j))) (r' := rI0 fun i j => .bl (decide (i < j))) (x := .int 0) (y := .int z) (z := .int 10) ev_c (ev_var rfl) ev_c (fun Q q => ⟨_, _, rfl, rfl, q⟩) (fun Q q => ⟨_, _, rfl, rfl, q⟩) _ ?_
    refine ⟨_, hacc, lt_size (by rw [List.length_map, List.length_map, List.length_take]; omega), s.upd hD, ?_⟩
    rw [upd_same, all_more hz, name_is, List.map_append]
    rfl
  · rintro H' ⟨s, hacc⟩
    rw [List.length_map, List.take_length] at hacc
    refine ⟨D, l.map Vatrkj.isName, rfl, SqL.of hacc, ?_⟩
    rw [List.all_map]
    exact k _ s
/-- edits by their lists -/
inductive Eds (H : Hp) : List V → List Edit → Prop
  | nil : Eds H [] []
  | cons {p : Addr} {vs : List V} {e : Edit} {es : List Edit} (h : Ed H p e) (k : Eds H vs es) : Eds H (.ref p :: vs) (e :: es)
theorem Eds.mono {H H' : Hp} (s : Same H H') : ∀ {vs : List V} {es : List Edit}, Eds H vs es → Eds H' vs es
  | _, _, .nil => .nil
  | _, _, .cons h k => .cons (h.mono s) (k.mono s)
theorem Eds.imp {H H' : Hp} (s : ∀ p e, Ed H p e → Ed H' p e) : ∀ {vs : List V} {es : List Edit}, Eds H vs es → Eds H' vs es
  | _, _, .nil => .nil
  | _, _, .cons h k => .cons (s _ _ h) (k.imp s)
theorem Eds.length {H : Hp} : ∀ {vs : List V} {es : List Edit}, Eds H vs es → vs.length = es.length
  | _, _, .nil => rfl
  | _, _, .cons _ k => congrArg (· + 1) k.length
theorem Eds.get {H : Hp} : ∀ {vs : List V} {es : List Edit} {i : Nat} {e : Edit}, Eds H vs es → es[i]? = some e → ∃ p, vs[i]? = some (.ref p) ∧ Ed H p e
  | _, _, _, _, .nil, h => by simp at h
  | _, _, 0, _, .cons h _, q => by
    have q := Option.some.inj q
    subst q
    exact ⟨_, rfl, h⟩
  | _, _, i + 1, _, .cons _ k, q => k.get (i := i) q
theorem Eds.set {H : Hp} {p : Addr} {e : Edit} (g : Ed H p e) : ∀ {vs : List V} {es : List Edit} (j : Nat), Eds H vs es → Eds H (vs.set j (.ref p)) (es.set j e)
  | _, _, _, .nil => .nil
  | _, _, 0, .cons _ k => .cons g k
  | _, _, j + 1, .cons h k => .cons h (Eds.set g j k)
/-- a list of tuples that stands beside an object that is no tuple and not its own list -/
theorem Ls.updO {H : Hp} {p q : Addr} {rs : List (List Int)} {o o' : HO} (hp : H p = some o) (ho : ∀ r, o ≠ .tup r) (ne : q ≠ p) (k : Ls H q rs) : Ls (upd H p o') q rs := by
  obtain ⟨vs, h, r⟩ := k
  refine ⟨vs, by rw [upd_ne ne]; exact h, ?_⟩
  clear h
  induction r with
  | nil => exact .nil
  | cons h k ih => exact .cons (by rw [upd_ne (ne_of h hp (fun z => ho _ z.symm))]; exact h) ih
def hF (at' ae : Addr) : List (Str × V) := [("text", .ref at'), ("edits", .ref ae)]
structure HeldAt (C x ae : Addr) (H : Hp) (s : Vatrkj.State) : Prop where
  ins : ∃ dx at', H x = some (.ins C dx (hF at' ae)) ∧ Tx H at' s.text
  eds : ∃ vs, H ae = some (.lst vs) ∧ Eds H vs s.edits
  ten : s.edits.length = 10
theorem HeldAt.mono {C x ae : Addr} {H H' : Hp} {s : Vatrkj.State} (S : Same H H') (h : HeldAt C x ae H s) : HeldAt C x ae H' s := by
  obtain ⟨⟨dx, at', h1, h2⟩, ⟨vs, h3, h4⟩, h5⟩ := h
  exact ⟨⟨dx, at', S _ _ h1, h2.mono S⟩, ⟨vs, S _ _ h3, h4.mono S⟩, h5⟩
/-- a list of tuples is not the list of the edits -/
theorem HeldAt.ne {C x ae p : Addr} {H : Hp} {s : Vatrkj.State} {rs : List (List Int)} (h : HeldAt C x ae H s) (g : Ls H p rs) : p ≠ ae := by
  rintro rfl
  obtain ⟨_, ⟨vs, h3, h4⟩, h5⟩ := h
  obtain ⟨ws, g1, g2⟩ := g
  rw [h3] at g1
  obtain rfl : vs = ws := by injection (Option.some.inj g1)
  obtain ⟨e, he⟩ := get_of (l := s.edits) (i := 0) (by omega)
  obtain ⟨q, q1, ⟨us, q2, _⟩⟩ := h4.get he
  obtain ⟨t, r, e1, _, e2⟩ := g2.get' q1
  cases e1
  rw [q2] at e2
  cases e2
/-- nor is a list of ints -/
theorem HeldAt.ne' {C x ae p : Addr} {H : Hp} {s : Vatrkj.State} {ns : List Int} (h : HeldAt C x ae H s) (g : H p = some (.lst (ns.map V.int))) : p ≠ ae := by
  rintro rfl
  obtain ⟨_, ⟨vs, h3, h4⟩, h5⟩ := h
  rw [h3] at g
  obtain rfl : vs = ns.map V.int := by injection (Option.some.inj g)
  obtain ⟨e, he⟩ := get_of (l := s.edits) (i := 0) (by omega)
  obtain ⟨q, q1, _⟩ := h4.get he
  obtain ⟨z, _, hz⟩ := map_get q1
  cases hz
theorem lk_here {k : Str} {v : V} {r : List (Str × V)} : List.lookup k ((k, v) :: r) = some v := by
  have e : (k == k) = true := beq_self_eq_true k
  simp only [List.lookup, e]
theorem lk_past {k g : Str} {v : V} {r : List (Str × V)} (h : (k == g) = false) : List.lookup k ((g, v) :: r) = List.lookup k r := by
  simp only [List.lookup, h]
theorem hF_text (a b : Addr) : (hF a b).lookup ("text" : Str) = some (.ref a) := lk_here
theorem hF_edits (a b : Addr) : (hF a b).lookup ("edits" : Str) = some (.ref b) := (lk_past (by decide +kernel)).trans lk_here
theorem hF_none {a b : Addr} {m : Str} (h1 : (m == ("text" : Str)) = false) (h2 : (m == ("edits" : Str)) = false) : (hF a b).lookup m = none := (lk_past h1).trans ((lk_past h2).trans rfl)
theorem hF_put (a b c : Addr) : putF "text" (.ref c) (hF a b) = hF c b := if_pos rfl
theorem hF_new (a b : Addr) : putF "edits" (.ref b) (putF "text" (.ref a) []) = hF a b := by
  show (if _ then _ else _) = _
  rw [if_neg (by decide +kernel)]
  rfl
/-- all but the object and its list of edits stands -/
def Keep0 (x ae : Addr) (H H' : Hp) : Prop := ∀ b o, H b = some o → b ≠ x → b ≠ ae → H' b = some o
/-- M is none of the lists that the object holds -/
def Away (M x ae : Addr) (H : Hp) : Prop := (∀ C dx at', H x = some (.ins C dx (hF at' ae)) → at' ≠ M) ∧ ∀ vs, H ae = some (.lst vs) → V.ref M ∉ vs
theorem Away.same {C M x ae : Addr} {H H' : Hp} {s : Vatrkj.State} (h : HeldAt C x ae H s) (S : Same H H') (w : Away M x ae H) : Away M x ae H' := by
  obtain ⟨⟨dx, at', h1, _⟩, ⟨vs, h2, _⟩, _⟩ := h
  refine ⟨fun C' dx' a' e => ?_, fun vs' e => ?_⟩
  · rw [S _ _ h1] at e
    exact w.1 _ _ _ (h1.trans e)
  · rw [S _ _ h2] at e
    exact w.2 _ (h2.trans e)
structure Keeps (x ae : Addr) (H H' : Hp) : Prop where
  keep : Keep0 x ae H H'
  moves : ∀ M o, H M = some o → M ≠ x → M ≠ ae → Away M x ae H → Away M x ae H'
theorem Keep0.trans {x ae : Addr} {H H1 H2 : Hp} (a : Keep0 x ae H H1) (b : Keep0 x ae H1 H2) : Keep0 x ae H H2 := fun c o h n1 n2 => b c o (a c o h n1 n2) n1 n2
theorem Keep0.of {x ae : Addr} {H H' : Hp} (s : Same H H') : Keep0 x ae H H' := fun b o h _ _ => s b o h
theorem Keep0.x {x ae : Addr} {H : Hp} {o : HO} : Keep0 x ae H (upd H x o) := fun b u h n _ => by rw [upd_ne n]; exact h
theorem Keep0.a {x ae : Addr} {H : Hp} {o : HO} : Keep0 x ae H (upd H ae o) := fun b u h _ n => by rw [upd_ne n]; exact h
theorem Keeps.of {C x ae : Addr} {H H' : Hp} {s : Vatrkj.State} (h : HeldAt C x ae H s) (S : Same H H') : Keeps x ae H H' := ⟨Keep0.of S, fun _ _ _ _ _ w => w.same h S⟩
theorem Keeps.trans {x ae : Addr} {H H1 H2 : Hp} (a : Keeps x ae H H1) (b : Keeps x ae H1 H2) : Keeps x ae H H2 := ⟨a.keep.trans b.keep, fun M o h n1 n2 w => b.moves M o (a.keep M o h n1 n2) n1 n2 (a.moves M o h n1 n2 w)⟩
/-- another text, at an address that was free -/
theorem Keeps.text {C x ae u dx at' : Addr} {H H2 : Hp} {s : Vatrkj.State} (h : HeldAt C x ae H s) (S : Same H H2) (nu : H u = none) (hx : H2 x = some (.ins C dx (hF at' ae))) : Keeps x ae H (upd H2 x (.ins C dx (putF "text" (.ref u) (hF at' ae)))) := by
  refine ⟨(Keep0.of S).trans Keep0.x, fun M o hM n1 n2 w => ⟨fun C' dx' a' e => ?_, fun vs e => ?_⟩⟩
  · rw [upd_same, hF_put] at e
    have e := Option.some.inj e
    injection e with _ _ e
    have : V.ref u = V.ref a' := congrArg (fun l => match l with | (_, v) :: _ => v | [] => V.non) e
    injection this with this
    rw [← this]
    rintro rfl
    rw [nu] at hM
    cases hM
  · obtain ⟨vs', h2, _⟩ := h.eds
    have h3 := S _ _ h2
    rw [upd_ne (ne_of h3 hx (by intro z; cases z))] at e
    exact (w.same h S).2 _ e
/-- another edit, at an address that was free -/
theorem Keeps.held {C x ae p : Addr} {H H1 H' : Hp} {s : Vatrkj.State} (h : HeldAt C x ae H s) (S : Same H H1) (np : H p = none) (k : Keep0 x ae H1 H') (mv : ∀ M, M ≠ p → Away M x ae H1 → Away M x ae H') : Keeps x ae H H' :=
  ⟨(Keep0.of S).trans k, fun M o hM n1 n2 w => mv M (fun z => by rw [z, np] at hM; cases hM) (w.same h S)⟩
/-- the edit in a list of the edits is replaced -/
theorem HeldAt.put {C x ae p : Addr} {H : Hp} {s : Vatrkj.State} {vs : List V} {e : Edit} {t : Int} (h : HeldAt C x ae H s) (hv : H ae = some (.lst vs)) (g : Ed H p e) : HeldAt C x ae (upd H ae (.lst (vs.set t.toNat (.ref p)))) (Vatrkj.withEdit s t e) := by
  have keep : ∀ q e, Ed H q e → Ed (upd H ae (.lst (vs.set t.toNat (.ref p)))) q e := fun q e k => Ls.updO hv (by intro r z; cases z) (h.ne k) k
  obtain ⟨⟨dx, at', h1, h2⟩, ⟨ws, h3, h4⟩, h5⟩ := h
  have h0 : HeldAt C x ae H s := ⟨⟨dx, at', h1, h2⟩, ⟨ws, h3, h4⟩, h5⟩
  rw [h3] at hv
  obtain rfl : ws = vs := by injection (Option.some.inj hv)
  refine ⟨⟨dx, at', ?_, Ls.updO h3 (by intro r z; cases z) (h0.ne h2) h2⟩, ⟨_, upd_same, ?_⟩, ?_⟩
  · rw [upd_ne (ne_of h1 h3 (by intro z; cases z))]; exact h1
  · exact (h4.imp keep).set (keep _ _ g) _
  · show (s.edits.set _ _).length = 10
    rw [List.length_set]; exact h5
theorem HeldAt.text {C x ae p at' dx : Addr} {H : Hp} {s : Vatrkj.State} {t : Text} (h : HeldAt C x ae H s) (hx : H x = some (.ins C dx (hF at' ae))) (g : Tx H p t) : HeldAt C x ae (upd H x (.ins C dx (putF "text" (.ref p) (hF at' ae)))) { s with text := t } := by
  have nl : ∀ q rs, Ls H q rs → q ≠ x := fun q rs ⟨us, k, _⟩ => ne_of k hx (by intro z; cases z)
  obtain ⟨⟨dx', at'', h1, h2⟩, ⟨ws, h3, h4⟩, h5⟩ := h
  refine ⟨⟨dx, p, by rw [upd_same, hF_put], Ls.updO hx (by intro r z; cases z) (nl _ _ g) g⟩, ⟨ws, ?_, h4.imp fun q e k => Ls.updO hx (by intro r z; cases z) (nl _ _ k) k⟩, h5⟩
  rw [upd_ne (ne_of h3 hx (by intro z; cases z))]; exact h3
structure Good (s : Vatrkj.State) : Prop where
  ten : s.edits.length = 10
  eds : ∀ e ∈ s.edits, Vatrkj.oldLength e ≤ 2000 ∧ Vatrkj.newLength e ≤ 2000
  txt : s.text.length ≤ 2000
theorem Good.put {s : Vatrkj.State} {t : Int} {e : Edit} (g : Good s) (h1 : Vatrkj.oldLength e ≤ 2000) (h2 : Vatrkj.newLength e ≤ 2000) : Good (Vatrkj.withEdit s t e) := by
  refine ⟨by show (s.edits.set _ _).length = 10; rw [List.length_set]; exact g.ten, fun e' he => ?_, g.txt⟩
  rcases List.mem_or_eq_of_mem_set he with h | rfl
  · exact g.eds e' h
  · exact ⟨h1, h2⟩
theorem name_lt {z : Int} (h : Vatrkj.isName z = true) : 0 ≤ z ∧ z ≤ 9 := by
  have h' : (decide (0 ≤ z) && decide (z ≤ 9)) = true := h
  rw [Bool.and_eq_true, decide_eq_true_eq, decide_eq_true_eq] at h'
  exact h'
theorem edit_get {s : Vatrkj.State} {z : Int} (ten : s.edits.length = 10) (h : Vatrkj.isName z = true) : s.edits[z.toNat]? = some (Vatrkj.edit s z) := by
  have := name_lt h
  obtain ⟨e, he⟩ := get_of (l := s.edits) (i := z.toNat) (by omega)
  rw [he]
  unfold Vatrkj.edit
  rw [List.getD_eq_getElem?_getD, he]
  rfl
theorem Good.edit {s : Vatrkj.State} {z : Int} (g : Good s) (h : Vatrkj.isName z = true) : Vatrkj.oldLength (Vatrkj.edit s z) ≤ 2000 ∧ Vatrkj.newLength (Vatrkj.edit s z) ≤ 2000 ∧ (Vatrkj.edit s z).length ≤ 4000 := by
  have h1 := g.eds _ (List.mem_of_getElem? (edit_get g.ten h))
  have h2 := len_le (Vatrkj.edit s z)
  exact ⟨h1.1, h1.2, by omega⟩
theorem HeldAt.edit {C x ae : Addr} {H : Hp} {s : Vatrkj.State} {z : Int} (h : HeldAt C x ae H s) (hz : Vatrkj.isName z = true) : ∃ p vs, Ed H p (Vatrkj.edit s z) ∧ H ae = some (.lst vs) ∧ vs.length = 10 ∧ atI vs z = some (.ref p) := by
  obtain ⟨_, ⟨vs, h3, h4⟩, h5⟩ := h
  obtain ⟨p, h6, h7⟩ := h4.get (edit_get h5 hz)
  have := name_lt hz
  exact ⟨p, vs, h7, h3, by rw [h4.length, h5], at_of (j := z.toNat) (by omega) h6⟩
theorem ev_fld {K : PySem.W.Frag} {σ : L2.St} {H : Hp} {ta : TE} {x C dx : Addr} {fs : List (Str × V)} {f : Str} {v : V} (ha : Evs ta σ H (.ref x)) (hx : H x = some (.ins C dx fs)) (c : Cls K C) (n : NoAttr K C f) (l : fs.lookup f = some v) : Evs (tFld K ta f) σ H v :=
  fun _ q => ha _ ⟨x, C, dx, fs, v, rfl, hx, c, n, l, q⟩
section
variable {K : PySem.W.Frag} {mg : Str → Option Value} {a : Ad}
/-- self.text -/
theorem ev_text {σ : L2.St} {H : Hp} {ta : TE} {x ae : Addr} {s : Vatrkj.State} (T : Txt K mg a) (ha : Evs ta σ H (.ref x)) (h : HeldAt a.k_Held x ae H s) : ∃ p, Evs (tFld K ta "text") σ H (.ref p) ∧ Tx H p s.text := by
  obtain ⟨⟨dx, at', h1, h2⟩, _, _⟩ := h
  exact ⟨at', ev_fld ha h1 T.cl_Held T.na_Held_text (hF_text _ _), h2⟩
/-- self.edits[r] -/
theorem ev_edit {σ : L2.St} {H : Hp} {ta tb : TE} {x ae : Addr} {s : Vatrkj.State} {z : Int} (T : Txt K mg a) (ha : Evs ta σ H (.ref x)) (hb : Evs tb σ H (.int z)) (h : HeldAt a.k_Held x ae H s) (hz : Vatrkj.isName z = true) : ∃ p, Evs (tOp (rIxL K) (tFld K ta "edits") tb) σ H (.ref p) ∧ Ed H p (Vatrkj.edit s z) := by
  obtain ⟨p, vs, h7, h3, _, h8⟩ := h.edit hz
  obtain ⟨⟨dx, at', h1, h2⟩, _, _⟩ := h
  exact ⟨p, ev_ixL (ev_fld ha h1 T.cl_Held T.na_Held_edits (hF_edits _ _)) hb (SqL.of h3) h8, h7⟩
end
def enc (x : Vatrkj.Answer) : List Int := VatrkjNeutral.encode x
/-- what a call of the object leaves: the state and the answer that the specification tells -/
def Left (C x ae : Addr) (H : Hp) (r : Vatrkj.State × Vatrkj.Answer) (Q : VK) : Prop :=
  ∀ H' q, HeldAt C x ae H' r.1 → Good r.1 → Keeps x ae H H' → H q = none → H' q = some (.lst ((enc r.2).map V.int)) → Q (.ref q) H'
/-- a refusal: a new list of one number -/
theorem Left.no {C x ae q : Addr} {H H' : Hp} {s : Vatrkj.State} {n : Nat} {i : Int} {Q : VK} (k : Left C x ae H (s, .refused n) Q) (h : HeldAt C x ae H s) (g : Good s) (S : Same H H') (hq : H' q = none) (e : i = -(n : Int)) : Q (.ref q) (upd H' q (.lst [.int i])) := by
  have S' := S.trans (Same.new (o := .lst [.int i]) hq)
  refine k _ _ (h.mono S') g (Keeps.of h S') (S.free hq) ?_
  rw [upd_same, e]; rfl
def sp_Held_hold (K : PySem.W.Frag) (a : Ad) : Sp := sp3 fun v0 v1 v2 H Q => ∃ (x ae p : Addr) (s : Vatrkj.State) (t : Int) (e : Edit), v0 = .ref x ∧ HeldAt a.k_Held x ae H s ∧ v1 = .int t ∧ Vatrkj.isName t = true ∧ v2 = .ref p ∧ Ed H p e ∧ e.length ≤ 16000 ∧
  ∀ H' q, HeldAt a.k_Held x ae H' (Vatrkj.withEdit s t e) → Keep0 x ae H H' → (∀ M, M ≠ p → Away M x ae H → Away M x ae H') → H q = none → H' q = some (.lst (((Vatrkj.lengths e).map Int.ofNat).map V.int)) → Q (.ref q) H'
theorem use_Held_hold {P : Program} {w : World} {K : PySem.W.Frag} {mg : Str → Option Value} {base : Heap} {a : Ad} (T : Txt K mg a) (D : DfnM K a.k_Held "hold" "Held.hold" s_Held_hold ["self", "t", "steps"]) (U_old_length : Use P w K mg base 1 "old_length" ["steps"] (sp_old_length K a)) (U_new_length : Use P w K mg base 1 "new_length" ["steps"] (sp_new_length K a)) : UseM P w K mg base a.k_Held 2 "hold" ["self", "t", "steps"] (sp_Held_hold K a) := by
  obtain ⟨f, fd, F, mf, bf⟩ := D
  obtain ⟨f_old_length, fd_old_length, g_old_length, k_old_length, b_old_length, G_old_length⟩ := U_old_length
  obtain ⟨f_new_length, fd_new_length, g_new_length, k_new_length, b_new_length, G_new_length⟩ := U_new_length
  refine ⟨f, fd, mf, bf, F.ok (k := 1) sc_Held_hold (fun vs H Q E h => h.len) (fun cdv A outer s H vs Q E hr h => ?_)⟩
  refine ⟨_, (pss_cons (ps_asg (pv 2) (pg_sub (pe_fld (pv 0) rfl) (pv 1) set_list))
       (pss_one (ps_ret (pe_lst (pa_cons (pe_call G_old_length (hr.mono (by decide)) rfl g_old_length k_old_length b_old_length .nil pass0 (pa_cons (pv 2) pa_nil)) (pa_cons (pe_call G_new_length (hr.mono (by decide)) rfl g_new_length k_new_length b_new_length .nil pass0 (pa_cons (pv 2) pa_nil)) pa_nil)))))), ?_⟩
  obtain ⟨v0, v1, v2, rfl, h⟩ := h
  obtain ⟨x, ae, p, s, t, e, rfl, hH, rfl, ht, rfl, hE, hl, k⟩ := h
  obtain ⟨_, vs, _, h3, h10, _⟩ := hH.edit ht
  obtain ⟨dx, at', h1, _⟩ := hH.ins
  have hn := name_lt ht
  refine ⟨_, rfl, ev_fld (K := K) (ev_var rfl) h1 T.cl_Held T.na_Held_edits (hF_edits _ _) _ ?_⟩
  refine ⟨_, rfl, ae, vs, t, t.toNat, rfl, rfl, h3, ?_, ?_⟩
  · unfold ixN
    rw [if_pos hn.1, if_pos (by omega)]
  have hH1 := hH.put (t := t) h3 hE
  have hE1 : Ed (upd H ae (.lst (vs.set t.toNat (.ref p)))) p e := Ls.updO h3 (by intro r z; cases z) (hH.ne hE) hE
  refine ⟨_, rfl, _, rfl, p, e, rfl, hE1, by omega, fun H2 s2 => ?_⟩
  refine ⟨_, rfl, _, rfl, p, e, rfl, hE1.mono s2, by omega, fun H3 s3 => ⟨sz2, fun q hq => ?_⟩⟩
  have S := (s2.trans s3).trans (Same.new (o := .lst [V.int (Vatrkj.oldLength e), V.int (Vatrkj.newLength e)]) hq)
  refine k _ _ (hH1.mono S) ((Keep0.a).trans (Keep0.of S)) (fun M nM w => Away.same hH1 S ⟨fun C' dx' a' e' => ?_, fun vs' e' => ?_⟩) ?_ (by rw [upd_same]; rfl)
  · rw [upd_ne (ne_of h1 h3 (by intro z; cases z))] at e'
    exact w.1 _ _ _ e'
  · rw [upd_same] at e'
    obtain rfl : vs.set t.toNat (.ref p) = vs' := by injection (Option.some.inj e')
    intro z
    rcases List.mem_or_eq_of_mem_set z with z | z
    · exact w.2 _ h3 z
    · exact nM (by injection z)
  have := (s2.trans s3).free hq
  by_cases z : q = ae
  · rw [z, upd_same] at this; cases this
  · rw [upd_ne z] at this; exact this
def sp_Held___init__ (K : PySem.W.Frag) (a : Ad) : Sp := sp1 fun v H Q => ∃ x dx, v = .ref x ∧ H x = some (.ins a.k_Held dx []) ∧ ∀ H' ae, HeldAt a.k_Held x ae H' Vatrkj.start → (∀ b o, H b = some o → b ≠ x → H' b = some o) → Q .non H'
theorem use_Held___init__ {P : Program} {w : World} {K : PySem.W.Frag} {mg : Str → Option Value} {base : Heap} {a : Ad} (T : Txt K mg a) (D : DfnI K a.k_Held "Held.__init__" s_Held___init__ ["self"])  : UseI P w K mg base a.k_Held 1 ["self"] (sp_Held___init__ K a) := by
  obtain ⟨f, fd, F, mf, bf⟩ := D
  refine ⟨f, fd, mf, bf, F.ok (k := 0) sc_Held___init__ (fun vs H Q E h => h.len) (fun cdv A outer s H vs Q E hr h => ?_)⟩
  refine ⟨_, (pss_cons (ps_fld (pv 0) (pe_lst pa_nil) rfl)
       (pss_one (ps_fld (pv 0) (pe_lc (own := [("name", 1)]) (g := gName 1) (tt := tYes) rfl sc_Held___init__.nd (pi_range1 rfl T.n_range (pa_cons (pe_glob (v := .int 10) rfl T.c_EDITS ⟨_, rfl⟩) pa_nil)) (blkOk_by (own := [("name", 1)]) (N := ["self", "name"]) (sc := defScope s_Held___init__) (by decide +kernel)) (fun _ _ _ _ _ => pg_name (i := 1) sc_Held___init__.nd rfl (Or.inl rfl)) (fun _ _ _ _ _ => pts_nil) (fun _ _ _ _ _ => (pe_lst pa_nil))) rfl))), ?_⟩
  obtain ⟨v0, rfl, h⟩ := h
  obtain ⟨x, dx, rfl, hx, k⟩ := h
  refine ⟨sz0, fun t ht => ?_⟩
  have st := Same.new (o := .lst []) ht
  refine ⟨_, rfl, x, a.k_Held, dx, [], rfl, st _ _ hx, T.cl_Held, T.na_Held_text, by show 0 < 1000; decide, ?_⟩
  have hx1 := st _ _ hx
  refine ⟨10, rfl, by decide, by decide, fun D hD => lc_range (lo := 0) (n := 10) (fun i H' => Same (upd (upd H t (.lst [])) x (.ins a.k_Held dx (putF "text" (.ref t) []))) H' ∧ ∃ acc, H' D = some (.lst acc) ∧ acc.length = i ∧ Eds H' acc (List.replicate i [])) ⟨Same.new hD, [], upd_same, rfl, .nil⟩ ?_ ?_⟩
  · rintro i H' hi ⟨s, acc, hacc, la, ra⟩
    refine ⟨rfl, ?_⟩
    refine yes_of ?_
    refine ⟨sz0, fun q hq => ?_⟩
    have sq := Same.new (o := .lst []) hq
    refine ⟨acc, sq _ _ hacc, lt_size (by omega), (s.trans sq).upd hD, _, upd_same, by rw [List.length_append, la]; rfl, ?_⟩
    have nD : ∀ p, Ed (upd H' q (.lst [])) p [] → (acc = [] ∨ p ≠ D) := fun p ⟨us, h1, h2⟩ => by
      cases acc with
      | nil => exact .inl rfl
      | cons v acc =>
        refine .inr fun z => ?_
        rw [z, sq _ _ hacc] at h1
        have := h2.length
        have e := Option.some.inj h1
        injection e with e
        rw [← e] at this
        cases this
    have qD : q ≠ D := fun z => by rw [z, hacc] at hq; cases hq
    have step : ∀ (ws : List V) (n : Nat), Eds (upd H' q (.lst [])) ws (List.replicate n []) → (acc = [] → ws = []) → Eds (upd (upd H' q (.lst [])) D (.lst (acc ++ [V.ref q]))) (ws ++ [.ref q]) (List.replicate n [] ++ [[]]) := by
      intro ws n
      induction n generalizing ws with
      | zero =>
        intro h _
        cases h
        exact .cons ⟨[], by rw [upd_ne qD]; exact upd_same, .nil⟩ .nil
      | succ n ih =>
        intro h hz
        cases h with
        | cons h1 h2 =>
          refine .cons ?_ (ih _ h2 fun z => absurd (hz z) (by simp))
          rcases nD _ h1 with z | z
          · exact absurd (hz z) (by simp)
          · exact Ls.updL h1 (sq _ _ hacc) z
    have := step acc i (ra.mono sq) fun z => z
    rw [List.replicate_succ']
    exact this
  · rintro H' ⟨s, acc, hacc, la, ra⟩
    have hx2 : H' x = some (.ins a.k_Held dx (putF "text" (.ref t) [])) := s _ _ upd_same
    refine ⟨_, rfl, x, a.k_Held, dx, _, rfl, hx2, T.cl_Held, T.na_Held_edits, by show 1 < 1000; decide, ?_⟩
    have nx : ∀ q rs, Ls H' q rs → q ≠ x := fun q rs ⟨us, k, _⟩ => ne_of k hx2 (by intro z; cases z)
    have ntx : t ≠ x := fun z => by rw [← z, ht] at hx; cases hx
    have tt : Tx H' t [] := ⟨[], s _ _ (by rw [upd_ne ntx]; exact upd_same), .nil⟩
    refine k _ D ⟨⟨dx, t, by rw [upd_same, hF_new], Ls.updO hx2 (by intro r z; cases z) ntx tt⟩, ⟨acc, ?_, ra.imp fun q e g => Ls.updO hx2 (by intro r z; cases z) (nx _ _ g) g⟩, rfl⟩ fun b o hb nb => ?_
    · rw [upd_ne (ne_of hacc hx2 (by intro z; cases z))]; exact hacc
    · rw [upd_ne nb]
      exact s _ _ (by rw [upd_ne nb]; exact st _ _ hb)
end Ev

/-! # Two rules more: a chain of three comparisons, a list extended by a tuple -/
namespace Ev
open PySem PySem.Spec PyProof.Rows L2
section
variable {X : Cx}
/-- a op1 b op2 c op3 d -/
def tCh3 (r1 r2 r3 : R2) (ta tb tc td : TE) : TE := fun σ H Q => ta σ H fun x H1 => tb σ H1 fun y H2 => r1 x y H2 fun z H3 => ∃ k, z = .bl k ∧
  (if k = true then tc σ H3 fun u H4 => r2 y u H4 fun z' H5 => ∃ k', z' = .bl k' ∧ (if k' = true then td σ H5 fun w' H6 => r3 u w' H6 Q else Q (.bl false) H5) else Q (.bl false) H3)
theorem pe_chain3 {a b c d : Expr} {pos : Pos} {ta tb tc td : TE} {o1 o2 o3 : CmpOp} {r1 r2 r3 : R2} (h1 : OpR X (compareOp o1) r1) (h2 : OpR X (compareOp o2) r2) (h3 : OpR X (compareOp o3) r3) (ha : PE X a ta) (hb : PE X b tb) (hc : PE X c tc) (hd : PE X d td)
    (hm : lastMarks [o1, o2, o3] [b, c, d] = false := by with_unfolding_all rfl) : PE X (.Compare a [o1, o2, o3] [b, c, d] pos) (tCh3 r1 r2 r3 ta tb tc td) := by
  refine ⟨fun ps st σ' G Z inv hh => ?_⟩
  refine Compare_chain (thn (ha.run ps st σ' G _ inv hh) fun v s1 ⟨x, G1, i1, e1, q1⟩ => chain_link (thn (hb.run ps s1 σ' G1 _ i1 q1) fun u s2 ⟨y, G2, i2, e2, q2⟩ =>
    thn (h1 ps s2 σ' G2 x y v u _ i2 e1 e2 q2) fun f s3 ⟨z, G3, i3, e3, k, ez, q3⟩ => ?_)) hm
  subst ez
  cases e3
  refine wpAny_truthy_bool ?_
  cases k with
  | false => exact ite_ff ⟨.bl false, G3, i3, rfl, q3⟩
  | true =>
    refine ite_tt (chain_link (thn (hc.run ps s3 σ' G3 _ i3 q3) fun g s4 ⟨z1, G4, i4, e4, q4⟩ => thn (h2 ps s4 σ' G4 y z1 u g _ i4 e2 e4 q4) fun f' s5 ⟨z2, G5, i5, e5, k2, ez2, q5⟩ => ?_))
    subst ez2
    cases e5
    refine wpAny_truthy_bool ?_
    cases k2 with
    | false => exact ite_ff ⟨.bl false, G5, i5, rfl, q5⟩
    | true => exact ite_tt (chain_last (thn (hd.run ps s5 σ' G5 _ i5 q5) fun g' s6 ⟨z3, G6, i6, e6, q6⟩ => h3 ps s6 σ' G6 z1 z3 g g' Z i6 e4 e6 q6))
/-- l.extend(t), t a tuple -/
def rExtT : V → List V → Hp → VK → Prop := fun x vs H Q => ∃ l b xs zs, x = .ref l ∧ vs = [.ref b] ∧ H l = some (.lst xs) ∧ H b = some (.tup zs) ∧ xs.length + zs.length ≤ sizeLine ∧ Q .non (upd H l (.lst (xs ++ zs)))
theorem ext_tup (l : Addr) (xs : Array Value) (n : Nat) (b : Addr) (ys : Array Value) (m : Nat) (dd : Option Addr) (sl : Array (Option Value)) (g0 : ¬(!xs.isEmpty && Builtin.List.listTooLong (xs.size + ys.size)) = true) (g1 : xs.size ≤ sizeLine) (g2 : xs.size + ys.size ≤ sizeLine + 1) :
    Meets (Builtin.«list.extend» ⟨[.ref l, .ref b], []⟩) (fun _ R s => s.heap.get? l = some { cls := .type "list", dict := none, data := .seq xs n, slots := #[] } ∧ s.heap.get? b = some { cls := .type "tuple", dict := dd, data := .seq ys m, slots := sl } ∧ R (.ok (.ret Value.none)) { s with heap := s.heap.update l (Obj.mapSeq fun x => x ++ ys), toks := s.toks }) :=
  .of_wp fun prog w' A R s h => by
    obtain ⟨hp, g, d, tk, os⟩ := s
    obtain ⟨hl, hb, h⟩ := h
    have f2 := sub_tuple_tuple
    have f3 := sub_list_list
    have f4 := sub_tuple_list
    have f5 := sub_list_tuple
    have hz' : (xs ++ ys).size ≤ sizeLine + 1 := by rw [Array.size_append]; exact g2
    wp_walk using (wpAny_updateSeq hl rfl (hz := g1) (_hz' := hz')), wpAny_loadPart' hl, wpAny_loadPart' hb
    exact ⟨_, rfl, h⟩
theorem mt_extendT : MtM X "list.extend" rExtT := by
  intro ps st σ' G x vs v us Z inv rx rv h
  obtain ⟨l, b, xs, ys, rfl, rfl, hH, hB, hz, q⟩ := h
  cases rx
  obtain ⟨u, rfl, ru⟩ := rv.one
  cases ru
  obtain ⟨z, its, n, r, hl, e⟩ := inv.lstM hH
  obtain ⟨its2, r2, ⟨⟨cl, dd, da, sl⟩, e2, hc2, m, hd2⟩, hl2⟩ := inv.tuple (SqT.of hB)
  simp only at hc2 hd2
  subst hc2 hd2
  have l2 := r2.length
  have hsz : its.toArray.size + its2.toArray.size ≤ sizeLine := by rw [List.size_toArray, List.size_toArray]; omega
  have hlong : ¬ (!its.toArray.isEmpty && Builtin.List.listTooLong (its.toArray.size + its2.toArray.size)) = true := by
    rw [notLongL hsz, Bool.and_false]; decide
  refine call_meets F.slot_list_extend ⟨_, e, rfl⟩ F.entry_list_extend (F.args_list_extend_2 _ _) (ext_tup l its.toArray n b its2.toArray m dd sl hlong (by rw [List.size_toArray]; omega) (by omega)) ⟨e, e2, ?_⟩
  refine ⟨.non, _, inv.lset (its' := its ++ its2) hH e (by simp) (r.append r2) ?_, rfl, q⟩
  rw [List.length_append]; omega
end
end Ev

namespace Ev
open PySem PySem.Spec PyProof.Rows L2
open Vatrkj (Letter Edit Text)
/-! ### the calls of the object -/
theorem Left.mono {C x ae : Addr} {H H1 : Hp} {s : Vatrkj.State} {r : Vatrkj.State × Vatrkj.Answer} {Q : VK} (k : Left C x ae H r Q) (h : HeldAt C x ae H s) (S : Same H H1) : Left C x ae H1 r Q :=
  fun H' q a b c n d => k H' q a b ((Keeps.of h S).trans c) (S.free n) d
theorem Keeps.free {C x ae q : Addr} {H H' : Hp} {s : Vatrkj.State} (k : Keeps x ae H H') (h : HeldAt C x ae H' s) (hq : H' q = none) : H q = none := by
  cases e : H q with
  | none => rfl
  | some o =>
    obtain ⟨dx, at', h1, _⟩ := h.ins
    obtain ⟨vs, h2, _⟩ := h.eds
    have := k.keep q o e (fun z => by rw [z, h1] at hq; cases hq) (fun z => by rw [z, h2] at hq; cases hq)
    rw [this] at hq
    cases hq
/-- an answer: a new list of these numbers, the state as it was -/
theorem Left.yes {C x ae q : Addr} {H H' : Hp} {s : Vatrkj.State} {l : List Nat} {Q : VK} {vs : List V} (k : Left C x ae H (s, .told l) Q) (h : HeldAt C x ae H' s) (g : Good s) (S : Keeps x ae H H') (hq : H' q = none) (e : vs = (l.map Int.ofNat).map V.int) : Q (.ref q) (upd H' q (.lst vs)) := by
  have S' := Same.new (o := .lst vs) hq
  refine k _ _ (h.mono S') g (S.trans (Keeps.of h S')) (S.free h hq) ?_
  rw [upd_same, e]; rfl
theorem one_name (z : Int) : [z].all Vatrkj.isName = Vatrkj.isName z := by simp
theorem not_t {b : Bool} (h : (!b) = true) : b = false := by simpa using h
theorem not_f {b : Bool} (h : (!b) = false) : b = true := by simpa using h
def sp_Held_call_text (K : PySem.W.Frag) (a : Ad) : Sp := sp2 fun v0 v1 H Q => ∃ (x ae p : Addr) (s : Vatrkj.State) (l : List Int), v0 = .ref x ∧ HeldAt a.k_Held x ae H s ∧ Good s ∧ v1 = .ref p ∧ Is K H p l ∧ l.length ≤ 16000 ∧ Left a.k_Held x ae H (Vatrkj.stepText s l) Q
theorem use_Held_call_text {P : Program} {w : World} {K : PySem.W.Frag} {mg : Str → Option Value} {base : Heap} {a : Ad} (T : Txt K mg a) (D : DfnM K a.k_Held "call_text" "Held.call_text" s_Held_call_text ["self", "row"]) (U_letters_told : Use P w K mg base 2 "letters_told" ["numbers"] (sp_letters_told K a)) : UseM P w K mg base a.k_Held 3 "call_text" ["self", "row"] (sp_Held_call_text K a) := by
  obtain ⟨f, fd, F, mf, bf⟩ := D
  obtain ⟨f_letters_told, fd_letters_told, g_letters_told, k_letters_told, b_letters_told, G_letters_told⟩ := U_letters_told
  refine ⟨f, fd, mf, bf, F.ok (k := 2) sc_Held_call_text (fun vs H Q E h => h.len) (fun cdv A outer s H vs Q E hr h => ?_)⟩
  refine ⟨_, (pss_cons (ps_set (i := 2) sc_Held_call_text.nd rfl (Or.inl rfl) (pe_call G_letters_told (hr.mono (by decide)) rfl g_letters_told k_letters_told b_letters_told .nil pass0 (pa_cons (pv 1) pa_nil)))
       (pss_cons (ps_if (pt_cmpR op_isN (pv 2) pe_non (nomark _)) (pss_one (ps_ret (pe_lst (pa_cons (pe_un un_neg pe_int) pa_nil)))) pss_nil)
       (pss_cons (ps_if (pt_cmpR op_gt (pe_callB call_len_seq rfl T.n_len PySem.boot_len (pa_cons (pv 2) pa_nil)) (pe_glob (v := .int 2000) rfl T.c_MOST ⟨_, rfl⟩) (nomark _)) (pss_one (ps_ret (pe_lst (pa_cons (pe_un un_neg pe_int) pa_nil)))) pss_nil)
       (pss_cons (ps_fld (pv 0) (pv 2) rfl)
       (pss_one (ps_ret (pe_lst (pa_cons (pe_callB call_len_seq rfl T.n_len PySem.boot_len (pa_cons (pv 2) pa_nil)) pa_nil)))))))), ?_⟩
  obtain ⟨v0, v1, rfl, h⟩ := h
  obtain ⟨x, ae, p, s, l, rfl, hH, hG, rfl, hI, hl, k⟩ := h
  refine ⟨_, rfl, _, rfl, p, l, rfl, hI, hl, fun H1 v s1 hv => ?_⟩
  have hH1 := hH.mono s1
  have k1 := k.mono hH s1
  refine ⟨_, rfl, rfl, _, rfl, ?_⟩
  cases e : Vatrkj.lettersOf l with
  | none =>
    rw [e] at hv
    obtain rfl : v = .non := hv
    have e1 : Vatrkj.stepText s l = (s, .refused 1) := by unfold Vatrkj.stepText; rw [e]
    rw [e1] at k1
    exact iteP rfl ⟨_, rfl, sz1, fun q hq => k1.no hH1 hG (Same.refl _) hq rfl⟩
  | some t =>
    rw [e] at hv
    obtain ⟨u, rfl, nu, us, hu, ru⟩ := hv
    have lu := ru.length
    rw [List.length_map] at lu
    refine iteN (by intro z; cases z) ?_
    refine ev_if (ev_test (ev_gt (ev_len (K := K) (ev_var rfl) (SqL.of hu)) ev_c)) (fun c => ?_) fun c => ?_
    · have c' := of_decide_eq_true c
      have e1 : Vatrkj.stepText s l = (s, .refused 5) := by
        unfold Vatrkj.stepText; rw [e]
        exact if_pos (show 2000 < t.length by omega)
      rw [e1] at k1
      exact ⟨_, rfl, sz1, fun q hq => k1.no hH1 hG (Same.refl _) hq rfl⟩
    · have c' := of_decide_eq_false c
      have e1 : Vatrkj.stepText s l = ({ s with text := t }, .told [t.length]) := by
        unfold Vatrkj.stepText; rw [e]
        exact if_neg (show ¬ 2000 < t.length by omega)
      rw [e1] at k
      obtain ⟨dx, at', h1, _⟩ := hH1.ins
      have hT : Tx H1 u t := ⟨us, hu, ru⟩
      refine ⟨_, rfl, _, rfl, x, a.k_Held, dx, _, rfl, h1, T.cl_Held, T.na_Held_text, by show 2 < 1000; decide, ?_⟩
      have hH2 := hH1.text h1 hT
      have hu2 : (upd H1 x (.ins a.k_Held dx (putF "text" (.ref u) (hF at' ae)))) u = some (.lst us) := by rw [upd_ne (ne_of hu h1 (by intro z; cases z))]; exact hu
      refine ⟨_, rfl, u, us, rfl, .inl (SqL.of hu2), sz1, fun q hq => ?_⟩
      exact k.yes hH2 ⟨hG.ten, hG.eds, by show t.length ≤ 2000; omega⟩ (Keeps.text hH s1 nu h1) hq (by rw [lu]; rfl)
def sp_Held_call_set (K : PySem.W.Frag) (a : Ad) : Sp := sp3 fun v0 v1 v2 H Q => ∃ (x ae p : Addr) (s : Vatrkj.State) (r : Int) (l : List Int), v0 = .ref x ∧ HeldAt a.k_Held x ae H s ∧ Good s ∧ v1 = .int r ∧ v2 = .ref p ∧ Is K H p l ∧ l.length ≤ 16000 ∧ Left a.k_Held x ae H (Vatrkj.stepSet s r l) Q
theorem use_Held_call_set {P : Program} {w : World} {K : PySem.W.Frag} {mg : Str → Option Value} {base : Heap} {a : Ad} (T : Txt K mg a) (D : DfnM K a.k_Held "call_set" "Held.call_set" s_Held_call_set ["self", "r", "row"]) (U_parts_told : Use P w K mg base 5 "parts_told" ["numbers"] (sp_parts_told K a)) (U_Held_hold : UseM P w K mg base a.k_Held 2 "hold" ["self", "t", "steps"] (sp_Held_hold K a)) (U_name_edits : Use P w K mg base 1 "name_edits" ["names"] (sp_name_edits K a)) (U_in_form : Use P w K mg base 1 "in_form" ["steps"] (sp_in_form K a)) (U_old_length_told : Use P w K mg base 2 "old_length_told" ["parts"] (sp_old_length_told K a)) (U_new_length_told : Use P w K mg base 2 "new_length_told" ["parts"] (sp_new_length_told K a)) (U_steps_of_parts : Use P w K mg base 4 "steps_of_parts" ["parts"] (sp_steps_of_parts K a)) : UseM P w K mg base a.k_Held 6 "call_set" ["self", "r", "row"] (sp_Held_call_set K a) := by
  obtain ⟨f, fd, F, mf, bf⟩ := D
  obtain ⟨f_parts_told, fd_parts_told, g_parts_told, k_parts_told, b_parts_told, G_parts_told⟩ := U_parts_told
  obtain ⟨f_Held_hold, fd_Held_hold, m_Held_hold, b_Held_hold, G_Held_hold⟩ := U_Held_hold
  obtain ⟨f_name_edits, fd_name_edits, g_name_edits, k_name_edits, b_name_edits, G_name_edits⟩ := U_name_edits
  obtain ⟨f_in_form, fd_in_form, g_in_form, k_in_form, b_in_form, G_in_form⟩ := U_in_form
  obtain ⟨f_old_length_told, fd_old_length_told, g_old_length_told, k_old_length_told, b_old_length_told, G_old_length_told⟩ := U_old_length_told
  obtain ⟨f_new_length_told, fd_new_length_told, g_new_length_told, k_new_length_told, b_new_length_told, G_new_length_told⟩ := U_new_length_told
  obtain ⟨f_steps_of_parts, fd_steps_of_parts, g_steps_of_parts, k_steps_of_parts, b_steps_of_parts, G_steps_of_parts⟩ := U_steps_of_parts
  refine ⟨f, fd, mf, bf, F.ok (k := 5) sc_Held_call_set (fun vs H Q E h => h.len) (fun cdv A outer s H vs Q E hr h => ?_)⟩
  refine ⟨_, (pss_cons (ps_if (pt_not (pt_val (pe_call G_name_edits (hr.mono (by decide)) rfl g_name_edits k_name_edits b_name_edits .nil pass0 (pa_cons (pe_lst (pa_cons (pv 1) pa_nil)) pa_nil)))) (pss_one (ps_ret (pe_lst (pa_cons (pe_un un_neg pe_int) pa_nil)))) pss_nil)
       (pss_cons (ps_set (i := 3) sc_Held_call_set.nd rfl (Or.inl rfl) (pe_call G_parts_told (hr.mono (by decide)) rfl g_parts_told k_parts_told b_parts_told .nil pass0 (pa_cons (pv 2) pa_nil)))
       (pss_cons (ps_if (pt_cmpR op_isN (pv 3) pe_non (nomark _)) (pss_one (ps_ret (pe_lst (pa_cons (pe_un un_neg pe_int) pa_nil)))) pss_nil)
       (pss_cons (ps_if (PW.pt (pw_or (pt_cmpR op_gt (pe_call G_old_length_told (hr.mono (by decide)) rfl g_old_length_told k_old_length_told b_old_length_told .nil pass0 (pa_cons (pv 3) pa_nil)) (pe_glob (v := .int 2000) rfl T.c_MOST ⟨_, rfl⟩) (nomark _)) (pw_or1 (pt_cmpR op_gt (pe_call G_new_length_told (hr.mono (by decide)) rfl g_new_length_told k_new_length_told b_new_length_told .nil pass0 (pa_cons (pv 3) pa_nil)) (pe_glob (v := .int 2000) rfl T.c_MOST ⟨_, rfl⟩) (nomark _))))) (pss_one (ps_ret (pe_lst (pa_cons (pe_un un_neg pe_int) pa_nil)))) pss_nil)
       (pss_one (ps_ret (pe_meth (pv 0) T.cl_Held m_Held_hold G_Held_hold (hr.mono (by decide)) b_Held_hold .nil pass0 (pa_cons (pv 1) (pa_cons (pe_call G_in_form (hr.mono (by decide)) rfl g_in_form k_in_form b_in_form .nil pass0 (pa_cons (pe_call G_steps_of_parts (hr.mono (by decide)) rfl g_steps_of_parts k_steps_of_parts b_steps_of_parts .nil pass0 (pa_cons (pv 3) pa_nil)) pa_nil)) pa_nil))))))))), ?_⟩
  obtain ⟨v0, v1, v2, rfl, h⟩ := h
  obtain ⟨x, ae, p, s, r, l, rfl, hH, hG, rfl, rfl, hI, hl, k⟩ := h
  refine ⟨_, rfl, sz1, fun n hn => ⟨_, rfl, n, [r], rfl, upd_same, by show 1 ≤ 1000; decide, fun H1 s0' => ⟨_, rfl, ?_⟩⟩⟩
  have s1 := (Same.new (o := .lst [V.int r]) hn).trans s0'
  have hH1 := hH.mono s1
  have k1 := k.mono hH s1
  have hI1 := hI.mono s1
  rw [one_name]
  refine iteB (fun c => ?_) fun c => ?_
  · have e1 : Vatrkj.stepSet s r l = (s, .refused 2) := if_pos (not_t c)
    rw [e1] at k1
    exact ⟨_, rfl, sz1, fun q hq => k1.no hH1 hG (Same.refl _) hq rfl⟩
  have hn' := not_f c
  refine ⟨_, rfl, _, rfl, p, l, rfl, hI1, hl, fun H2 v s2 hv => ?_⟩
  have hH2 := hH1.mono s2
  have k2 := k1.mono hH1 s2
  refine ⟨_, rfl, rfl, _, rfl, ?_⟩
  have es : Vatrkj.stepSet s r l = match Vatrkj.editOf l with
    | none => (s, .refused 1)
    | some e => if 2000 < Vatrkj.oldLength e ∨ 2000 < Vatrkj.newLength e then (s, .refused 5) else Vatrkj.holds s r e := if_neg (by rw [hn']; decide)
  rw [editOf_is] at es
  cases e : prs l with
  | none =>
    rw [e] at hv es
    obtain rfl : v = .non := hv
    have e1 : Vatrkj.stepSet s r l = (s, .refused 1) := es
    rw [e1] at k2
    exact iteP rfl ⟨_, rfl, sz1, fun q hq => k2.no hH2 hG (Same.refl _) hq rfl⟩
  | some E0 =>
    rw [e] at hv es
    have es' : Vatrkj.stepSet s r l = if 2000 < Vatrkj.oldLength (Vatrkj.formed E0) ∨ 2000 < Vatrkj.newLength (Vatrkj.formed E0) then (s, .refused 5) else Vatrkj.holds s r (Vatrkj.formed E0) := es
    rw [formed_old, formed_new] at es'
    obtain ⟨u, P', rfl, hP, hPl, hPr⟩ := hv
    refine iteN (by intro z; cases z) ?_
    refine ⟨_, rfl, _, rfl, u, P', E0, rfl, hP, hPl, hPr, fun H3 s3 => ⟨_, _, rfl, rfl, _, rfl, ?_⟩⟩
    refine iteB (fun c1 => ?_) fun c1 => ?_
    · have c1' := of_decide_eq_true c1
      rw [if_pos (.inl (by omega))] at es'
      have k3 := k2.mono hH2 s3
      rw [es'] at k3
      exact iteT ⟨_, rfl, sz1, fun q hq => k3.no (hH2.mono s3) hG (Same.refl _) hq rfl⟩
    have c1' := of_decide_eq_false c1
    refine ⟨_, rfl, _, rfl, u, P', E0, rfl, hP.mono s3, hPl, hPr, fun H4 s4 => ⟨_, _, rfl, rfl, _, rfl, ?_⟩⟩
    have k4 := (k2.mono hH2 s3).mono (hH2.mono s3) s4
    have hH4 := (hH2.mono s3).mono s4
    refine iteB (fun c2 => ?_) fun c2 => ?_
    · have c2' := of_decide_eq_true c2
      rw [if_pos (.inr (by omega))] at es'
      rw [es'] at k4
      exact ⟨_, rfl, sz1, fun q hq => k4.no hH4 hG (Same.refl _) hq rfl⟩
    have c2' := of_decide_eq_false c2
    rw [if_neg (by omega)] at es'
    rw [es'] at k4
    have hEl := len_le E0
    obtain ⟨dx, at', h1, _⟩ := hH4.ins
    refine ⟨_, rfl, x, dx, _, rfl, h1, hF_none (by decide +kernel) (by decide +kernel), _, rfl, _, rfl, _, rfl, u, P', E0, rfl, (hP.mono s3).mono s4, hPr, by omega, fun H5 b s5 hb => ?_⟩
    refine ⟨_, rfl, b, E0, rfl, hb, by omega, fun H6 d s6 nd hd => ?_⟩
    have hfl := len_le (Vatrkj.formed E0)
    rw [formed_old, formed_new] at hfl
    refine ⟨_, _, _, rfl, x, ae, d, s, r, Vatrkj.formed E0, rfl, (hH4.mono s5).mono s6, rfl, hn', rfl, hd, by omega, fun H' q hH' kp mv nq hq => ?_⟩
    exact (k4.mono hH4 s5) H' q hH' (hG.put (by rw [formed_old]; omega) (by rw [formed_new]; omega)) (Keeps.held (hH4.mono s5) s6 nd kp mv) (s6.free nq) hq
def sp_Held_call_get (K : PySem.W.Frag) (a : Ad) : Sp := sp2 fun v0 v1 H Q => ∃ (x ae : Addr) (s : Vatrkj.State) (r : Int), v0 = .ref x ∧ HeldAt a.k_Held x ae H s ∧ Good s ∧ v1 = .int r ∧ Left a.k_Held x ae H (s, Vatrkj.look s (.get r)) Q
theorem use_Held_call_get {P : Program} {w : World} {K : PySem.W.Frag} {mg : Str → Option Value} {base : Heap} {a : Ad} (T : Txt K mg a) (D : DfnM K a.k_Held "call_get" "Held.call_get" s_Held_call_get ["self", "r"]) (U_numbers_of_steps : Use P w K mg base 3 "numbers_of_steps" ["steps"] (sp_numbers_of_steps K a)) (U_name_edits : Use P w K mg base 1 "name_edits" ["names"] (sp_name_edits K a)) : UseM P w K mg base a.k_Held 4 "call_get" ["self", "r"] (sp_Held_call_get K a) := by
  obtain ⟨f, fd, F, mf, bf⟩ := D
  obtain ⟨f_numbers_of_steps, fd_numbers_of_steps, g_numbers_of_steps, k_numbers_of_steps, b_numbers_of_steps, G_numbers_of_steps⟩ := U_numbers_of_steps
  obtain ⟨f_name_edits, fd_name_edits, g_name_edits, k_name_edits, b_name_edits, G_name_edits⟩ := U_name_edits
  refine ⟨f, fd, mf, bf, F.ok (k := 3) sc_Held_call_get (fun vs H Q E h => h.len) (fun cdv A outer s H vs Q E hr h => ?_)⟩
  refine ⟨_, (pss_cons (ps_if (pt_not (pt_val (pe_call G_name_edits (hr.mono (by decide)) rfl g_name_edits k_name_edits b_name_edits .nil pass0 (pa_cons (pe_lst (pa_cons (pv 1) pa_nil)) pa_nil)))) (pss_one (ps_ret (pe_lst (pa_cons (pe_un un_neg pe_int) pa_nil)))) pss_nil)
       (pss_cons (ps_set (i := 2) sc_Held_call_get.nd rfl (Or.inl rfl) (pe_call G_numbers_of_steps (hr.mono (by decide)) rfl g_numbers_of_steps k_numbers_of_steps b_numbers_of_steps .nil pass0 (pa_cons (pe_ix (ix_list : IxR _ (rIxL K)) (pe_fld (pv 0) rfl) (pv 1) (fun _ _ => rfl)) pa_nil)))
       (pss_one (ps_ret (pe_op op_cat (pe_lst (pa_cons (pe_callB call_len_seq rfl T.n_len PySem.boot_len (pa_cons (pv 2) pa_nil)) pa_nil)) (pv 2)))))), ?_⟩
  obtain ⟨v0, v1, rfl, h⟩ := h
  obtain ⟨x, ae, s, r, rfl, hH, hG, rfl, k⟩ := h
  refine ⟨_, rfl, sz1, fun n hn => ⟨_, rfl, n, [r], rfl, upd_same, by show 1 ≤ 1000; decide, fun H1 s0' => ⟨_, rfl, ?_⟩⟩⟩
  have s1 := (Same.new (o := .lst [V.int r]) hn).trans s0'
  have hH1 := hH.mono s1
  have k1 := k.mono hH s1
  rw [one_name]
  refine iteB (fun c => ?_) fun c => ?_
  · have e1 : Vatrkj.look s (.get r) = .refused 2 := if_neg (by rw [not_t c]; decide)
    rw [e1] at k1
    exact ⟨_, rfl, sz1, fun q hq => k1.no hH1 hG (Same.refl _) hq rfl⟩
  have hn' := not_f c
  have e1 : Vatrkj.look s (.get r) = .told ((Vatrkj.toldEdit (Vatrkj.edit s r)).length :: Vatrkj.toldEdit (Vatrkj.edit s r)) := if_pos hn'
  rw [e1] at k1
  obtain ⟨p, ep, hE⟩ := ev_edit (σ := [some (.ref x), some (.int r), none]) (ta := tVar 0) (tb := tVar 1) T (ev_var rfl) (ev_var rfl) hH1 hn'
  have hb := hG.edit hn'
  refine ep _ ⟨_, rfl, p, _, rfl, hE, by omega, fun H2 q s2 hlen hq => ?_⟩
  have hln : (toldI (Vatrkj.edit s r)).length = (Vatrkj.toldEdit (Vatrkj.edit s r)).length := List.length_map ..
  refine ⟨_, rfl, q, _, rfl, .inl (SqL.of hq), sz1, fun b hb' => ?_⟩
  have sb := Same.new (o := .lst [V.int (((toldI (Vatrkj.edit s r)).map V.int).length : Nat)]) hb'
  refine ⟨_, rfl, b, q, _, _, rfl, rfl, upd_same, sb _ _ hq, le_size (by rw [List.length_map]; show 1 + _ ≤ _; omega), fun d hd => ?_⟩
  refine k1.yes ((hH1.mono s2).mono sb) hG (Keeps.of hH1 (s2.trans sb)) hd ?_
  rw [List.length_map, hln]; rfl
def sp_Held_call_show (K : PySem.W.Frag) (a : Ad) : Sp := sp1 fun v0 H Q => ∃ (x ae : Addr) (s : Vatrkj.State), v0 = .ref x ∧ HeldAt a.k_Held x ae H s ∧ Good s ∧ Left a.k_Held x ae H (s, Vatrkj.look s .show) Q
theorem use_Held_call_show {P : Program} {w : World} {K : PySem.W.Frag} {mg : Str → Option Value} {base : Heap} {a : Ad} (T : Txt K mg a) (D : DfnM K a.k_Held "call_show" "Held.call_show" s_Held_call_show ["self"]) (U_numbers_of_letters : Use P w K mg base 1 "numbers_of_letters" ["letters"] (sp_numbers_of_letters K a)) : UseM P w K mg base a.k_Held 2 "call_show" ["self"] (sp_Held_call_show K a) := by
  obtain ⟨f, fd, F, mf, bf⟩ := D
  obtain ⟨f_numbers_of_letters, fd_numbers_of_letters, g_numbers_of_letters, k_numbers_of_letters, b_numbers_of_letters, G_numbers_of_letters⟩ := U_numbers_of_letters
  refine ⟨f, fd, mf, bf, F.ok (k := 1) sc_Held_call_show (fun vs H Q E h => h.len) (fun cdv A outer s H vs Q E hr h => ?_)⟩
  refine ⟨_, (pss_one (ps_ret (pe_op op_cat (pe_lst (pa_cons (pe_callB call_len_seq rfl T.n_len PySem.boot_len (pa_cons (pe_fld (pv 0) rfl) pa_nil)) pa_nil)) (pe_call G_numbers_of_letters (hr.mono (by decide)) rfl g_numbers_of_letters k_numbers_of_letters b_numbers_of_letters .nil pass0 (pa_cons (pe_fld (pv 0) rfl) pa_nil))))), ?_⟩
  obtain ⟨v0, rfl, h⟩ := h
  obtain ⟨x, ae, s, rfl, hH, hG, k⟩ := h
  obtain ⟨t0, et, us, hus, ru⟩ := ev_text (σ := [some (.ref x)]) (ta := tVar 0) T (ev_var rfl) hH
  have lu := ru.length
  rw [List.length_map] at lu
  have ht := hG.txt
  have e1 : Vatrkj.look s .show = .told (Vatrkj.toldText s.text) := rfl
  rw [e1] at k
  refine et _ ⟨t0, us, rfl, .inl (SqL.of hus), sz1, fun b hb => ?_⟩
  have sb := Same.new (o := .lst [V.int (us.length : Nat)]) hb
  have hH1 := hH.mono sb
  obtain ⟨t1, et1, hT1⟩ := ev_text (σ := [some (.ref x)]) (ta := tVar 0) T (ev_var rfl) hH1
  refine et1 _ ⟨_, rfl, t1, s.text, rfl, hT1, by omega, fun H2 d s2 hd => ?_⟩
  refine ⟨b, d, _, _, rfl, rfl, s2 _ _ upd_same, hd, le_size (by rw [List.length_map, tl_len]; show 1 + _ ≤ _; omega), fun w' hw' => ?_⟩
  refine k.yes (hH1.mono s2) hG (Keeps.of hH (sb.trans s2)) hw' ?_
  rw [lu]; rfl
def sp_Held_call_apply (K : PySem.W.Frag) (a : Ad) : Sp := sp2 fun v0 v1 H Q => ∃ (x ae : Addr) (s : Vatrkj.State) (r : Int), v0 = .ref x ∧ HeldAt a.k_Held x ae H s ∧ Good s ∧ v1 = .int r ∧ Left a.k_Held x ae H (Vatrkj.stepApply s r) Q
theorem use_Held_call_apply {P : Program} {w : World} {K : PySem.W.Frag} {mg : Str → Option Value} {base : Heap} {a : Ad} (T : Txt K mg a) (D : DfnM K a.k_Held "call_apply" "Held.call_apply" s_Held_call_apply ["self", "r"]) (U_applied : Use P w K mg base 2 "applied" ["steps", "text"] (sp_applied K a)) (U_Held_call_show : UseM P w K mg base a.k_Held 2 "call_show" ["self"] (sp_Held_call_show K a)) (U_name_edits : Use P w K mg base 1 "name_edits" ["names"] (sp_name_edits K a)) : UseM P w K mg base a.k_Held 3 "call_apply" ["self", "r"] (sp_Held_call_apply K a) := by
  obtain ⟨f, fd, F, mf, bf⟩ := D
  obtain ⟨f_applied, fd_applied, g_applied, k_applied, b_applied, G_applied⟩ := U_applied
  obtain ⟨f_Held_call_show, fd_Held_call_show, m_Held_call_show, b_Held_call_show, G_Held_call_show⟩ := U_Held_call_show
  obtain ⟨f_name_edits, fd_name_edits, g_name_edits, k_name_edits, b_name_edits, G_name_edits⟩ := U_name_edits
  refine ⟨f, fd, mf, bf, F.ok (k := 2) sc_Held_call_apply (fun vs H Q E h => h.len) (fun cdv A outer s H vs Q E hr h => ?_)⟩
  refine ⟨_, (pss_cons (ps_if (pt_not (pt_val (pe_call G_name_edits (hr.mono (by decide)) rfl g_name_edits k_name_edits b_name_edits .nil pass0 (pa_cons (pe_lst (pa_cons (pv 1) pa_nil)) pa_nil)))) (pss_one (ps_ret (pe_lst (pa_cons (pe_un un_neg pe_int) pa_nil)))) pss_nil)
       (pss_cons (ps_set (i := 2) sc_Held_call_apply.nd rfl (Or.inl rfl) (pe_call G_applied (hr.mono (by decide)) rfl g_applied k_applied b_applied .nil pass0 (pa_cons (pe_ix (ix_list : IxR _ (rIxL K)) (pe_fld (pv 0) rfl) (pv 1) (fun _ _ => rfl)) (pa_cons (pe_fld (pv 0) rfl) pa_nil))))
       (pss_cons (ps_if (pt_cmpR op_isN (pv 2) pe_non (nomark _)) (pss_one (ps_ret (pe_lst (pa_cons (pe_un un_neg pe_int) pa_nil)))) pss_nil)
       (pss_cons (ps_fld (pv 0) (pv 2) rfl)
       (pss_one (ps_ret (pe_meth0 (pv 0) T.cl_Held m_Held_call_show G_Held_call_show (hr.mono (by decide)) b_Held_call_show .nil pass0))))))), ?_⟩
  obtain ⟨v0, v1, rfl, h⟩ := h
  obtain ⟨x, ae, s, r, rfl, hH, hG, rfl, k⟩ := h
  refine ⟨_, rfl, sz1, fun n hn => ⟨_, rfl, n, [r], rfl, upd_same, by show 1 ≤ 1000; decide, fun H1 s0' => ⟨_, rfl, ?_⟩⟩⟩
  have s1 := (Same.new (o := .lst [V.int r]) hn).trans s0'
  have hH1 := hH.mono s1
  have k1 := k.mono hH s1
  rw [one_name]
  refine iteB (fun c => ?_) fun c => ?_
  · have e1 : Vatrkj.stepApply s r = (s, .refused 2) := if_pos (not_t c)
    rw [e1] at k1
    exact ⟨_, rfl, sz1, fun q hq => k1.no hH1 hG (Same.refl _) hq rfl⟩
  have hn' := not_f c
  have es : Vatrkj.stepApply s r = match Vatrkj.applied (Vatrkj.edit s r) s.text with
    | none => (s, .refused 3)
    | some t => ({ s with text := t }, .told (Vatrkj.toldText t)) := if_neg (by rw [hn']; decide)
  obtain ⟨p, ep, hE⟩ := ev_edit (σ := [some (.ref x), some (.int r), none]) (ta := tVar 0) (tb := tVar 1) T (ev_var rfl) (ev_var rfl) hH1 hn'
  obtain ⟨t0, et, hT⟩ := ev_text (σ := [some (.ref x), some (.int r), none]) (ta := tVar 0) T (ev_var rfl) hH1
  have hb := hG.edit hn'
  have ht := hG.txt
  refine ep _ ?_
  refine et _ ⟨_, _, rfl, p, _, t0, _, rfl, hE, rfl, hT, by omega, by omega, fun H2 v s2 hv => ?_⟩
  have hH2 := hH1.mono s2
  have k2 := k1.mono hH1 s2
  refine ⟨_, rfl, rfl, _, rfl, ?_⟩
  cases e : Vatrkj.applied (Vatrkj.edit s r) s.text with
  | none =>
    rw [e] at hv es
    obtain rfl : v = .non := hv
    have e1 : Vatrkj.stepApply s r = (s, .refused 3) := es
    rw [e1] at k2
    exact iteP rfl ⟨_, rfl, sz1, fun q hq => k2.no hH2 hG (Same.refl _) hq rfl⟩
  | some t =>
    rw [e] at hv es
    have e1 : Vatrkj.stepApply s r = ({ s with text := t }, .told (Vatrkj.toldText t)) := es
    rw [e1] at k1
    obtain ⟨u, rfl, nu, hu⟩ := hv
    have hlt := (applied_some _ _ _ e).2
    refine iteN (by intro z; cases z) ?_
    obtain ⟨dx, at', h1, _⟩ := hH2.ins
    refine ⟨_, rfl, _, rfl, x, a.k_Held, dx, _, rfl, h1, T.cl_Held, T.na_Held_text, by show 2 < 1000; decide, ?_⟩
    have hH3 := hH2.text h1 hu
    have h3 : (upd H2 x (.ins a.k_Held dx (putF "text" (.ref u) (hF at' ae)))) x = some (.ins a.k_Held dx (hF u ae)) := by rw [upd_same, hF_put]
    refine ⟨_, rfl, x, dx, _, rfl, h3, hF_none (by decide +kernel) (by decide +kernel), ?_⟩
    refine ⟨_, rfl, x, ae, _, rfl, hH3, ⟨hG.ten, hG.eds, by show t.length ≤ 2000; omega⟩, fun H' q a1 a2 a3 a4 a5 => ?_⟩
    exact k1 H' q a1 a2 ((Keeps.text hH1 s2 nu h1).trans a3) ((Keeps.text hH1 s2 nu h1).free hH3 a4) a5
def sp_Held_call_compose (K : PySem.W.Frag) (a : Ad) : Sp := sp4 fun v0 v1 v2 v3 H Q => ∃ (x ae : Addr) (s : Vatrkj.State) (r q t : Int), v0 = .ref x ∧ HeldAt a.k_Held x ae H s ∧ Good s ∧ v1 = .int r ∧ v2 = .int q ∧ v3 = .int t ∧ Left a.k_Held x ae H (Vatrkj.stepCompose s r q t) Q
theorem three_names (r q t : Int) : [r, q, t].all Vatrkj.isName = (Vatrkj.isName r && (Vatrkj.isName q && Vatrkj.isName t)) := by simp
theorem two_names (r q : Int) : [r, q].all Vatrkj.isName = (Vatrkj.isName r && Vatrkj.isName q) := by simp
theorem four_names (r q t u : Int) : [r, q, t, u].all Vatrkj.isName = (Vatrkj.isName r && (Vatrkj.isName q && (Vatrkj.isName t && Vatrkj.isName u))) := by simp
theorem use_Held_call_compose {P : Program} {w : World} {K : PySem.W.Frag} {mg : Str → Option Value} {base : Heap} {a : Ad} (T : Txt K mg a) (D : DfnM K a.k_Held "call_compose" "Held.call_compose" s_Held_call_compose ["self", "r", "s", "t"]) (U_composed : Use P w K mg base 3 "composed" ["r", "s"] (sp_composed K a)) (U_Held_hold : UseM P w K mg base a.k_Held 2 "hold" ["self", "t", "steps"] (sp_Held_hold K a)) (U_name_edits : Use P w K mg base 1 "name_edits" ["names"] (sp_name_edits K a)) : UseM P w K mg base a.k_Held 4 "call_compose" ["self", "r", "s", "t"] (sp_Held_call_compose K a) := by
  obtain ⟨f, fd, F, mf, bf⟩ := D
  obtain ⟨f_composed, fd_composed, g_composed, k_composed, b_composed, G_composed⟩ := U_composed
  obtain ⟨f_Held_hold, fd_Held_hold, m_Held_hold, b_Held_hold, G_Held_hold⟩ := U_Held_hold
  obtain ⟨f_name_edits, fd_name_edits, g_name_edits, k_name_edits, b_name_edits, G_name_edits⟩ := U_name_edits
  refine ⟨f, fd, mf, bf, F.ok (k := 3) sc_Held_call_compose (fun vs H Q E h => h.len) (fun cdv A outer s H vs Q E hr h => ?_)⟩
  refine ⟨_, (pss_cons (ps_if (pt_not (pt_val (pe_call G_name_edits (hr.mono (by decide)) rfl g_name_edits k_name_edits b_name_edits .nil pass0 (pa_cons (pe_lst (pa_cons (pv 1) (pa_cons (pv 2) (pa_cons (pv 3) pa_nil)))) pa_nil)))) (pss_one (ps_ret (pe_lst (pa_cons (pe_un un_neg pe_int) pa_nil)))) pss_nil)
       (pss_cons (ps_set (i := 4) sc_Held_call_compose.nd rfl (Or.inl rfl) (pe_call G_composed (hr.mono (by decide)) rfl g_composed k_composed b_composed .nil pass0 (pa_cons (pe_ix (ix_list : IxR _ (rIxL K)) (pe_fld (pv 0) rfl) (pv 1) (fun _ _ => rfl)) (pa_cons (pe_ix (ix_list : IxR _ (rIxL K)) (pe_fld (pv 0) rfl) (pv 2) (fun _ _ => rfl)) pa_nil))))
       (pss_cons (ps_if (pt_cmpR op_isN (pv 4) pe_non (nomark _)) (pss_one (ps_ret (pe_lst (pa_cons (pe_un un_neg pe_int) pa_nil)))) pss_nil)
       (pss_one (ps_ret (pe_meth (pv 0) T.cl_Held m_Held_hold G_Held_hold (hr.mono (by decide)) b_Held_hold .nil pass0 (pa_cons (pv 3) (pa_cons (pv 4) pa_nil)))))))), ?_⟩
  obtain ⟨v0, v1, v2, v3, rfl, h⟩ := h
  obtain ⟨x, ae, s, r, q0, t, rfl, hH, hG, rfl, rfl, rfl, k⟩ := h
  refine ⟨_, rfl, _, rfl, _, rfl, sz3, fun n hn => ⟨_, rfl, n, [r, q0, t], rfl, upd_same, by show 3 ≤ 1000; decide, fun H1 s0' => ⟨_, rfl, ?_⟩⟩⟩
  have s1 := (Same.new (o := .lst [V.int r, V.int q0, V.int t]) hn).trans s0'
  have hH1 := hH.mono s1
  have k1 := k.mono hH s1
  rw [three_names]
  refine iteB (fun c => ?_) fun c => ?_
  · have e1 : Vatrkj.stepCompose s r q0 t = (s, .refused 2) := if_pos (not_t c)
    rw [e1] at k1
    exact ⟨_, rfl, sz1, fun q hq => k1.no hH1 hG (Same.refl _) hq rfl⟩
  have hn' := not_f c
  have es : Vatrkj.stepCompose s r q0 t = match Vatrkj.compose (Vatrkj.edit s r) (Vatrkj.edit s q0) with
    | none => (s, .refused 3)
    | some e => Vatrkj.holds s t e := if_neg (by rw [hn']; decide)
  rw [Bool.and_eq_true, Bool.and_eq_true] at hn'
  obtain ⟨p, ep, hE⟩ := ev_edit (σ := [some (.ref x), some (.int r), some (.int q0), some (.int t), none]) (ta := tVar 0) (tb := tVar 1) T (ev_var rfl) (ev_var rfl) hH1 hn'.1
  obtain ⟨p2, ep2, hE2⟩ := ev_edit (σ := [some (.ref x), some (.int r), some (.int q0), some (.int t), none]) (ta := tVar 0) (tb := tVar 2) T (ev_var rfl) (ev_var rfl) hH1 hn'.2.1
  have hb := hG.edit hn'.1
  have hb2 := hG.edit hn'.2.1
  refine ep _ ?_
  refine ep2 _ ⟨_, _, rfl, p, _, p2, _, rfl, hE, rfl, hE2, by omega, by omega, fun H2 v s2 hv => ?_⟩
  have hH2 := hH1.mono s2
  have k2 := k1.mono hH1 s2
  refine ⟨_, rfl, rfl, _, rfl, ?_⟩
  cases e : Vatrkj.compose (Vatrkj.edit s r) (Vatrkj.edit s q0) with
  | none =>
    rw [e] at hv es
    obtain rfl : v = .non := hv
    have e1 : Vatrkj.stepCompose s r q0 t = (s, .refused 3) := es
    rw [e1] at k2
    exact iteP rfl ⟨_, rfl, sz1, fun q hq => k2.no hH2 hG (Same.refl _) hq rfl⟩
  | some e0 =>
    rw [e] at hv es
    have e1 : Vatrkj.stepCompose s r q0 t = Vatrkj.holds s t e0 := es
    rw [e1] at k1
    obtain ⟨u, rfl, nu, hu⟩ := hv
    have hl := compose_len e
    have hl2 := len_le e0
    refine iteN (by intro z; cases z) ?_
    obtain ⟨dx, at', h1, _⟩ := hH2.ins
    refine ⟨_, rfl, x, dx, _, rfl, h1, hF_none (by decide +kernel) (by decide +kernel), _, rfl, _, rfl, ?_⟩
    refine ⟨_, _, _, rfl, x, ae, u, s, t, e0, rfl, hH2, rfl, hn'.2.2, rfl, hu, by omega, fun H' q hH' kp mv nq hq => ?_⟩
    exact k1 H' q hH' (hG.put (by omega) (by omega)) (Keeps.held hH1 s2 nu kp mv) (s2.free nq) hq
def sp_Held_call_turn (K : PySem.W.Frag) (a : Ad) : Sp := sp3 fun v0 v1 v2 H Q => ∃ (x ae : Addr) (s : Vatrkj.State) (r t : Int), v0 = .ref x ∧ HeldAt a.k_Held x ae H s ∧ Good s ∧ v1 = .int r ∧ v2 = .int t ∧ Left a.k_Held x ae H (Vatrkj.step s (.turn r t)) Q
theorem use_Held_call_turn {P : Program} {w : World} {K : PySem.W.Frag} {mg : Str → Option Value} {base : Heap} {a : Ad} (T : Txt K mg a) (D : DfnM K a.k_Held "call_turn" "Held.call_turn" s_Held_call_turn ["self", "r", "t"]) (U_Held_hold : UseM P w K mg base a.k_Held 2 "hold" ["self", "t", "steps"] (sp_Held_hold K a)) (U_name_edits : Use P w K mg base 1 "name_edits" ["names"] (sp_name_edits K a)) (U_turned : Use P w K mg base 2 "turned" ["steps"] (sp_turned K a)) : UseM P w K mg base a.k_Held 3 "call_turn" ["self", "r", "t"] (sp_Held_call_turn K a) := by
  obtain ⟨f, fd, F, mf, bf⟩ := D
  obtain ⟨f_Held_hold, fd_Held_hold, m_Held_hold, b_Held_hold, G_Held_hold⟩ := U_Held_hold
  obtain ⟨f_name_edits, fd_name_edits, g_name_edits, k_name_edits, b_name_edits, G_name_edits⟩ := U_name_edits
  obtain ⟨f_turned, fd_turned, g_turned, k_turned, b_turned, G_turned⟩ := U_turned
  refine ⟨f, fd, mf, bf, F.ok (k := 2) sc_Held_call_turn (fun vs H Q E h => h.len) (fun cdv A outer s H vs Q E hr h => ?_)⟩
  refine ⟨_, (pss_cons (ps_if (pt_not (pt_val (pe_call G_name_edits (hr.mono (by decide)) rfl g_name_edits k_name_edits b_name_edits .nil pass0 (pa_cons (pe_lst (pa_cons (pv 1) (pa_cons (pv 2) pa_nil))) pa_nil)))) (pss_one (ps_ret (pe_lst (pa_cons (pe_un un_neg pe_int) pa_nil)))) pss_nil)
       (pss_one (ps_ret (pe_meth (pv 0) T.cl_Held m_Held_hold G_Held_hold (hr.mono (by decide)) b_Held_hold .nil pass0 (pa_cons (pv 2) (pa_cons (pe_call G_turned (hr.mono (by decide)) rfl g_turned k_turned b_turned .nil pass0 (pa_cons (pe_ix (ix_list : IxR _ (rIxL K)) (pe_fld (pv 0) rfl) (pv 1) (fun _ _ => rfl)) pa_nil)) pa_nil)))))), ?_⟩
  obtain ⟨v0, v1, v2, rfl, h⟩ := h
  obtain ⟨x, ae, s, r, t, rfl, hH, hG, rfl, rfl, k⟩ := h
  refine ⟨_, rfl, _, rfl, sz2, fun n hn => ⟨_, rfl, n, [r, t], rfl, upd_same, by show 2 ≤ 1000; decide, fun H1 s0' => ⟨_, rfl, ?_⟩⟩⟩
  have s1 := (Same.new (o := .lst [V.int r, V.int t]) hn).trans s0'
  have hH1 := hH.mono s1
  have k1 := k.mono hH s1
  rw [two_names]
  refine iteB (fun c => ?_) fun c => ?_
  · have e1 : Vatrkj.step s (.turn r t) = (s, .refused 2) := if_neg (by rw [not_t c]; decide)
    rw [e1] at k1
    exact ⟨_, rfl, sz1, fun q hq => k1.no hH1 hG (Same.refl _) hq rfl⟩
  have hn' := not_f c
  have e1 : Vatrkj.step s (.turn r t) = Vatrkj.holds s t (Vatrkj.turned (Vatrkj.edit s r)) := if_pos hn'
  rw [e1] at k1
  rw [Bool.and_eq_true] at hn'
  obtain ⟨p, ep, hE⟩ := ev_edit (σ := [some (.ref x), some (.int r), some (.int t)]) (ta := tVar 0) (tb := tVar 1) T (ev_var rfl) (ev_var rfl) hH1 hn'.1
  have hb := hG.edit hn'.1
  obtain ⟨dx, at', h1, _⟩ := hH1.ins
  refine ⟨_, rfl, x, dx, _, rfl, h1, hF_none (by decide +kernel) (by decide +kernel), _, rfl, ep _ ⟨_, rfl, p, _, rfl, hE, by omega, fun H2 u s2 nu hu => ?_⟩⟩
  have hl := turned_len (Vatrkj.edit s r)
  have hl2 := len_le (Vatrkj.turned (Vatrkj.edit s r))
  refine ⟨_, _, _, rfl, x, ae, u, s, t, _, rfl, hH1.mono s2, rfl, hn'.2, rfl, hu, by omega, fun H' q hH' kp mv nq hq => ?_⟩
  exact k1 H' q hH' (hG.put (by omega) (by omega)) (Keeps.held hH1 s2 nu kp mv) (s2.free nq) hq
def sp_Held_call_rebase (K : PySem.W.Frag) (a : Ad) : Sp := sp6 fun v0 v1 v2 v3 v4 v5 H Q => ∃ (x ae : Addr) (s : Vatrkj.State) (r q t u f : Int), v0 = .ref x ∧ HeldAt a.k_Held x ae H s ∧ Good s ∧ v1 = .int r ∧ v2 = .int q ∧ v3 = .int t ∧ v4 = .int u ∧ v5 = .int f ∧ Left a.k_Held x ae H (Vatrkj.stepRebase s r q t u f) Q
theorem Keep0.ls {x ae b C dx : Addr} {H H' : Hp} {fs : List (Str × V)} {rs : List (List Int)} {vs : List V} {es : List Edit} (k : Keep0 x ae H H') (hx : H x = some (.ins C dx fs)) (ha : H ae = some (.lst vs)) (h : Ls H b rs) (n2 : b ≠ ae) : Ls H' b rs := by
  obtain ⟨us, h1, r⟩ := h
  refine ⟨us, k _ _ h1 (ne_of h1 hx (by intro z; cases z)) n2, ?_⟩
  clear h1
  induction r with
  | nil => exact .nil
  | cons h _ ih => exact .cons (k _ _ h (ne_of h hx (by intro z; cases z)) (ne_of h ha (by intro z; cases z))) ih
theorem use_Held_call_rebase {P : Program} {w : World} {K : PySem.W.Frag} {mg : Str → Option Value} {base : Heap} {a : Ad} (T : Txt K mg a) (D : DfnM K a.k_Held "call_rebase" "Held.call_rebase" s_Held_call_rebase ["self", "r", "s", "t", "u", "first"]) (U_rebased : Use P w K mg base 3 "rebased" ["r", "s", "r_first"] (sp_rebased K a)) (U_Held_hold : UseM P w K mg base a.k_Held 2 "hold" ["self", "t", "steps"] (sp_Held_hold K a)) (U_name_edits : Use P w K mg base 1 "name_edits" ["names"] (sp_name_edits K a)) (U_new_length : Use P w K mg base 1 "new_length" ["steps"] (sp_new_length K a)) : UseM P w K mg base a.k_Held 4 "call_rebase" ["self", "r", "s", "t", "u", "first"] (sp_Held_call_rebase K a) := by
  obtain ⟨f, fd, F, mf, bf⟩ := D
  obtain ⟨f_rebased, fd_rebased, g_rebased, k_rebased, b_rebased, G_rebased⟩ := U_rebased
  obtain ⟨f_Held_hold, fd_Held_hold, m_Held_hold, b_Held_hold, G_Held_hold⟩ := U_Held_hold
  obtain ⟨f_name_edits, fd_name_edits, g_name_edits, k_name_edits, b_name_edits, G_name_edits⟩ := U_name_edits
  obtain ⟨f_new_length, fd_new_length, g_new_length, k_new_length, b_new_length, G_new_length⟩ := U_new_length
  refine ⟨f, fd, mf, bf, F.ok (k := 3) sc_Held_call_rebase (fun vs H Q E h => h.len) (fun cdv A outer s H vs Q E hr h => ?_)⟩
  refine ⟨_, (pss_cons (ps_if (PW.pt (pw_or (pt_not (pt_val (pe_call G_name_edits (hr.mono (by decide)) rfl g_name_edits k_name_edits b_name_edits .nil pass0 (pa_cons (pe_lst (pa_cons (pv 1) (pa_cons (pv 2) (pa_cons (pv 3) (pa_cons (pv 4) pa_nil))))) pa_nil)))) (pw_or (pt_cmpR op_lt (pv 5) pe_int (nomark _)) (pw_or (pt_cmpR op_gt (pv 5) pe_int (nomark _)) (pw_or1 (pt_cmpR op_eq (pv 3) (pv 4) (nomark _))))))) (pss_one (ps_ret (pe_lst (pa_cons (pe_un un_neg pe_int) pa_nil)))) pss_nil)
       (pss_cons (ps_set (i := 6) sc_Held_call_rebase.nd rfl (Or.inl rfl) (pe_call G_rebased (hr.mono (by decide)) rfl g_rebased k_rebased b_rebased .nil pass0 (pa_cons (pe_ix (ix_list : IxR _ (rIxL K)) (pe_fld (pv 0) rfl) (pv 1) (fun _ _ => rfl)) (pa_cons (pe_ix (ix_list : IxR _ (rIxL K)) (pe_fld (pv 0) rfl) (pv 2) (fun _ _ => rfl)) (pa_cons (pe_cmpR op_eq (pv 5) pe_int (nomark _)) pa_nil)))))
       (pss_cons (ps_if (pt_cmpR op_isN (pv 6) pe_non (nomark _)) (pss_one (ps_ret (pe_lst (pa_cons (pe_un un_neg pe_int) pa_nil)))) pss_nil)
       (pss_cons (ps_if (PW.pt (pw_or (pt_cmpR op_gt (pe_call G_new_length (hr.mono (by decide)) rfl g_new_length k_new_length b_new_length .nil pass0 (pa_cons (pe_ix (ix_tup : IxR _ (rIxT K)) (pv 6) pe_int (fun _ _ => rfl)) pa_nil)) (pe_glob (v := .int 2000) rfl T.c_MOST ⟨_, rfl⟩) (nomark _)) (pw_or1 (pt_cmpR op_gt (pe_call G_new_length (hr.mono (by decide)) rfl g_new_length k_new_length b_new_length .nil pass0 (pa_cons (pe_ix (ix_tup : IxR _ (rIxT K)) (pv 6) pe_int (fun _ _ => rfl)) pa_nil)) (pe_glob (v := .int 2000) rfl T.c_MOST ⟨_, rfl⟩) (nomark _))))) (pss_one (ps_ret (pe_lst (pa_cons (pe_un un_neg pe_int) pa_nil)))) pss_nil)
       (pss_one (ps_ret (pe_op op_cat (pe_meth (pv 0) T.cl_Held m_Held_hold G_Held_hold (hr.mono (by decide)) b_Held_hold .nil pass0 (pa_cons (pv 3) (pa_cons (pe_ix (ix_tup : IxR _ (rIxT K)) (pv 6) pe_int (fun _ _ => rfl)) pa_nil))) (pe_meth (pv 0) T.cl_Held m_Held_hold G_Held_hold (hr.mono (by decide)) b_Held_hold .nil pass0 (pa_cons (pv 4) (pa_cons (pe_ix (ix_tup : IxR _ (rIxT K)) (pv 6) pe_int (fun _ _ => rfl)) pa_nil)))))))))), ?_⟩
  obtain ⟨v0, v1, v2, v3, v4, v5, rfl, h⟩ := h
  obtain ⟨x, ae, s, r, q0, t, u, f', rfl, hH, hG, rfl, rfl, rfl, rfl, rfl, k⟩ := h
  have er : ∀ H', EvB (tOr (tTest (tOp (rI0 fun i j => .bl (decide (i < j))) (tVar 5) (tC (.int 0)))) (tOr (tTest (tOp (rI0 fun i j => .bl (decide (j < i))) (tVar 5) (tC (.int 1)))) (tTest (tOp rEq (tVar 3) (tVar 4))))) [some (.ref x), some (.int r), some (.int q0), some (.int t), some (.int u), some (.int f'), none] H' (decide (f' < 0) || (decide (1 < f') || decide (t = u))) :=
    fun H' => ev_or (ev_test (ev_lt (ev_var rfl) ev_c)) fun _ => ev_or (ev_test (ev_gt (ev_var rfl) ev_c)) fun _ => ev_test (ev_eq (ev_var rfl) (ev_var rfl))
  refine ⟨_, rfl, _, rfl, _, rfl, _, rfl, le_size (by show 4 ≤ _; omega), fun n hn => ⟨_, rfl, n, [r, q0, t, u], rfl, upd_same, by show 4 ≤ 1000; decide, fun H1 s0' => ⟨_, rfl, ?_⟩⟩⟩
  have s1 := (Same.new (o := .lst [V.int r, V.int q0, V.int t, V.int u]) hn).trans s0'
  have hH1 := hH.mono s1
  have k1 := k.mono hH s1
  rw [four_names]
  have ew : Vatrkj.within f' 0 1 = (decide (0 ≤ f') && decide (f' ≤ 1)) := rfl
  refine iteB (fun c => ?_) fun c => ?_
  · have c' := not_t c
    have e1 : Vatrkj.stepRebase s r q0 t u f' = (s, .refused 2) := by
      refine if_pos ?_
      revert c'
      cases Vatrkj.isName r <;> cases Vatrkj.isName q0 <;> cases Vatrkj.isName t <;> cases Vatrkj.isName u <;> simp
    rw [e1] at k1
    exact iteT ⟨_, rfl, sz1, fun q hq => k1.no hH1 hG (Same.refl _) hq rfl⟩
  have hn' := not_f c
  refine ev_if (er H1) (fun d => ?_) fun d => ?_
  · have e1 : Vatrkj.stepRebase s r q0 t u f' = (s, .refused 2) := by
      unfold Vatrkj.stepRebase
      by_cases z : (Vatrkj.isName r && (Vatrkj.isName q0 && (Vatrkj.isName t && (Vatrkj.isName u && Vatrkj.within f' 0 1)))) = false
      · rw [if_pos z]
      · rw [if_neg z]
        by_cases w' : t = u
        · rw [if_pos w']
        · exfalso
          apply z
          have : Vatrkj.within f' 0 1 = false := by
            rw [ew]
            rw [decide_eq_false w', Bool.or_false, Bool.or_eq_true, decide_eq_true_eq, decide_eq_true_eq] at d
            rw [Bool.and_eq_false_iff, decide_eq_false_iff_not, decide_eq_false_iff_not]
            omega
          rw [this]; simp
    rw [e1] at k1
    exact ⟨_, rfl, sz1, fun q hq => k1.no hH1 hG (Same.refl _) hq rfl⟩
  rw [Bool.or_eq_false_iff, Bool.or_eq_false_iff, decide_eq_false_iff_not, decide_eq_false_iff_not, decide_eq_false_iff_not] at d
  have ed : decide (f' = 0) = (f' == 0) := rfl
  have es : Vatrkj.stepRebase s r q0 t u f' = match Vatrkj.rebase (f' == 0) (Vatrkj.edit s r) (Vatrkj.edit s q0) with
    | none => (s, .refused 3)
    | some (a, b) => if 2000 < Vatrkj.newLength a ∨ 2000 < Vatrkj.newLength b then (s, .refused 5) else (Vatrkj.withEdit (Vatrkj.withEdit s t a) u b, .told (Vatrkj.lengths a ++ Vatrkj.lengths b)) := by
    unfold Vatrkj.stepRebase
    have : Vatrkj.within f' 0 1 = true := by
      rw [ew, Bool.and_eq_true, decide_eq_true_eq, decide_eq_true_eq]; omega
    rw [if_neg, if_neg d.2.2]
    · rfl
    · rw [this, Bool.and_true, hn']; decide
  rw [Bool.and_eq_true, Bool.and_eq_true, Bool.and_eq_true] at hn'
  obtain ⟨p, ep, hE⟩ := ev_edit (σ := [some (.ref x), some (.int r), some (.int q0), some (.int t), some (.int u), some (.int f'), none]) (ta := tVar 0) (tb := tVar 1) T (ev_var rfl) (ev_var rfl) hH1 hn'.1
  obtain ⟨p2, ep2, hE2⟩ := ev_edit (σ := [some (.ref x), some (.int r), some (.int q0), some (.int t), some (.int u), some (.int f'), none]) (ta := tVar 0) (tb := tVar 2) T (ev_var rfl) (ev_var rfl) hH1 hn'.2.1
  have hb := hG.edit hn'.1
  have hb2 := hG.edit hn'.2.1
  refine ep _ ?_
  refine ep2 _ ?_
  refine ev_eq (ev_var rfl) ev_c _ ⟨_, _, _, rfl, p, _, p2, _, f' == 0, rfl, hE, rfl, hE2, rfl, by omega, by omega, fun H2 v s2 hv => ?_⟩
  have hH2 := hH1.mono s2
  have k2 := k1.mono hH1 s2
  refine ⟨_, rfl, rfl, _, rfl, ?_⟩
  cases e : Vatrkj.rebase (f' == 0) (Vatrkj.edit s r) (Vatrkj.edit s q0) with
  | none =>
    rw [e] at hv es
    obtain rfl : v = .non := hv
    have e1 : Vatrkj.stepRebase s r q0 t u f' = (s, .refused 3) := es
    rw [e1] at k2
    exact iteP rfl ⟨_, rfl, sz1, fun q hq => k2.no hH2 hG (Same.refl _) hq rfl⟩
  | some ab =>
    obtain ⟨ea, eb⟩ := ab
    rw [e] at hv es
    have es' : Vatrkj.stepRebase s r q0 t u f' = if 2000 < Vatrkj.newLength ea ∨ 2000 < Vatrkj.newLength eb then (s, .refused 5) else (Vatrkj.withEdit (Vatrkj.withEdit s t ea) u eb, .told (Vatrkj.lengths ea ++ Vatrkj.lengths eb)) := es
    obtain ⟨b, p1, q1, rfl, hb0, np1, nq1, hEa, hEb⟩ := hv
    refine iteN (by intro z; cases z) ?_
    have hsz := rebase_size e
    have hln := rebase_len e
    have hs1 : ea.length ≤ 8000 := by have h : ea.length ≤ (Vatrkj.edit s r).length + (Vatrkj.edit s q0).length := hsz.1; omega
    have hs2 : eb.length ≤ 8000 := by have h : eb.length ≤ (Vatrkj.edit s r).length + (Vatrkj.edit s q0).length := hsz.2; omega
    have ho1 : Vatrkj.oldLength ea ≤ 2000 := by have h : Vatrkj.oldLength ea = Vatrkj.newLength (Vatrkj.edit s q0) := hln.1; omega
    have ho2 : Vatrkj.oldLength eb ≤ 2000 := by have h : Vatrkj.oldLength eb = Vatrkj.newLength (Vatrkj.edit s r) := hln.2; omega
    refine ev_ixT (K := K) (ev_var rfl) ev_c (SqT.of hb0) (v := .ref p1) rfl _ ⟨_, rfl, p1, ea, rfl, hEa, by omega, fun H3 s3 => ⟨_, _, rfl, rfl, _, rfl, ?_⟩⟩
    have k3 := k2.mono hH2 s3
    have hH3 := hH2.mono s3
    refine iteB (fun c1 => ?_) fun c1 => ?_
    · have c1' := of_decide_eq_true c1
      rw [if_pos (.inl (by omega))] at es'
      rw [es'] at k3
      exact iteT ⟨_, rfl, sz1, fun q hq => k3.no hH3 hG (Same.refl _) hq rfl⟩
    have c1' := of_decide_eq_false c1
    refine ev_ixT (K := K) (ev_var rfl) ev_c (SqT.of (s3 _ _ hb0)) (v := .ref q1) rfl _ ⟨_, rfl, q1, eb, rfl, hEb.mono s3, by omega, fun H4 s4 => ⟨_, _, rfl, rfl, _, rfl, ?_⟩⟩
    have k4 := k3.mono hH3 s4
    have hH4 := hH3.mono s4
    refine iteB (fun c2 => ?_) fun c2 => ?_
    · have c2' := of_decide_eq_true c2
      rw [if_pos (.inr (by omega))] at es'
      rw [es'] at k4
      exact ⟨_, rfl, sz1, fun q hq => k4.no hH4 hG (Same.refl _) hq rfl⟩
    have c2' := of_decide_eq_false c2
    rw [if_neg (by omega)] at es'
    rw [es'] at k1
    have s34 := s3.trans s4
    have hb4 := s34 _ _ hb0
    obtain ⟨dx, at', h1, _⟩ := hH4.ins
    obtain ⟨ws, h2, _⟩ := hH4.eds
    refine ⟨_, rfl, x, dx, _, rfl, h1, hF_none (by decide +kernel) (by decide +kernel), _, rfl, ev_ixT (K := K) (ev_var rfl) ev_c (SqT.of hb4) (v := .ref p1) rfl _ ?_⟩
    refine ⟨_, _, _, rfl, x, ae, p1, s, t, ea, rfl, hH4, rfl, hn'.2.2.1, rfl, hEa.mono s34, by omega, fun H5 q5 hH5 kp5 mv5 _ hq5 => ?_⟩
    obtain ⟨dx5, at5, h5, _⟩ := hH5.ins
    have hb5 : H5 b = some (.tup [.ref p1, .ref q1]) := kp5 _ _ hb4 (ne_of hb4 h1 (by intro z; cases z)) (ne_of hb4 h2 (by intro z; cases z))
    have hEb4 := hEb.mono s34
    have hEb5 : Ed H5 q1 eb := Keep0.ls (es := []) kp5 h1 h2 hEb4 (hH4.ne hEb4)
    refine ⟨_, rfl, x, dx5, _, rfl, h5, hF_none (by decide +kernel) (by decide +kernel), _, rfl, ev_ixT (K := K) (ev_var rfl) ev_c (SqT.of hb5) (v := .ref q1) rfl _ ?_⟩
    refine ⟨_, _, _, rfl, x, ae, q1, _, u, eb, rfl, hH5, rfl, hn'.2.2.2, rfl, hEb5, by omega, fun H6 q6 hH6 kp6 mv6 _ hq6 => ?_⟩
    have hq56 : H6 q5 = some (.lst (((Vatrkj.lengths ea).map Int.ofNat).map V.int)) := kp6 _ _ hq5 (ne_of hq5 h5 (by intro z; cases z)) (hH5.ne' hq5)
    refine ⟨q5, q6, _, _, rfl, rfl, hq56, hq6, le_size (by show 2 + 2 ≤ _; omega), fun w' hw' => ?_⟩
    refine k1.yes hH6 ((hG.put ho1 (by omega)).put ho2 (by omega)) ⟨(Keep0.of (s2.trans s34)).trans (kp5.trans kp6), fun M o hM n1 n2 w => mv6 M (fun z => by rw [z, nq1] at hM; cases hM) (mv5 M (fun z => by rw [z, np1] at hM; cases hM) (w.same hH1 (s2.trans s34)))⟩ hw' ?_
    rw [List.map_append, List.map_append]
end Ev

namespace Ev
open PySem PySem.Spec PyProof.Rows L2
open Vatrkj (Letter Edit Text)
/-! ### kept letters, places, stretches -/
def pI (x : Nat × Nat) : List Int := [(x.1 : Int), (x.2 : Int)]
def tI (x : Nat × Nat × Nat) : List Int := [(x.1 : Int), (x.2.1 : Int), (x.2.2 : Int)]
def Kp (H : Hp) (a : Addr) (l : List (Nat × Nat)) : Prop := Ls H a (l.map pI)
theorem kf_put (x : Letter) (i j : Nat) (r : Edit) : Vatrkj.keptFrom i j (.put x :: r) = Vatrkj.keptFrom i (j + 1) r := rfl
theorem kf_drop (x : Letter) (i j : Nat) (r : Edit) : Vatrkj.keptFrom i j (.drop x :: r) = Vatrkj.keptFrom (i + 1) j r := rfl
theorem kf_keep (i j : Nat) (r : Edit) : Vatrkj.keptFrom i j (.keep :: r) = (i, j) :: Vatrkj.keptFrom (i + 1) (j + 1) r := rfl
theorem kf_paint (f g i j : Nat) (r : Edit) : Vatrkj.keptFrom i j (.paint f g :: r) = (i, j) :: Vatrkj.keptFrom (i + 1) (j + 1) r := rfl
theorem kf_len : ∀ (e : Edit) (i j : Nat), (Vatrkj.keptFrom i j e).length ≤ e.length
  | [], _, _ => Nat.le_refl _
  | .put x :: r, i, j => by have := kf_len r i (j + 1); rw [kf_put, List.length_cons]; omega
  | .drop x :: r, i, j => by have := kf_len r (i + 1) j; rw [kf_drop, List.length_cons]; omega
  | .keep :: r, i, j => by have := kf_len r (i + 1) (j + 1); rw [kf_keep, List.length_cons, List.length_cons]; omega
  | .paint f g :: r, i, j => by have := kf_len r (i + 1) (j + 1); rw [kf_paint, List.length_cons, List.length_cons]; omega
theorem kept_len (e : Edit) : (Vatrkj.kept e).length ≤ e.length := kf_len e 0 0
def sp_kept_letters (K : PySem.W.Frag) (_ : Ad) : Sp := sp1 fun v H Q => ∃ p e, v = .ref p ∧ Ed H p e ∧ e.length ≤ 16000 ∧ ∀ H' q, Same H H' → H q = none → Kp H' q (Vatrkj.kept e) → Q (.ref q) H'
theorem use_kept_letters {P : Program} {w : World} {K : PySem.W.Frag} {mg : Str → Option Value} {base : Heap} {a : Ad} (T : Txt K mg a) (D : Dfn K mg "kept_letters" "kept_letters" s_kept_letters ["steps"])  : Use P w K mg base 1 "kept_letters" ["steps"] (sp_kept_letters K a) := by
  obtain ⟨f, fd, F, gf, bf⟩ := D
  refine ⟨f, fd, gf, F.kp, bf, F.ok (k := 0) sc_kept_letters (fun vs H Q E h => h.len) (fun cdv A outer s H vs Q E hr h => ?_)⟩
  refine ⟨_, (pss_cons (ps_set (i := 1) sc_kept_letters.nd rfl (Or.inl rfl) (pe_lst pa_nil))
       (pss_cons (ps_set (i := 2) sc_kept_letters.nd rfl (Or.inl rfl) pe_int)
       (pss_cons (ps_set (i := 3) sc_kept_letters.nd rfl (Or.inl rfl) pe_int)
       (pss_cons (ps_for PassesOwn.never rfl (pi_list (pv 0)) (pg_name (i := 4) sc_kept_letters.nd rfl (Or.inl rfl)) (pss_one (ps_if (pt_cmpR op_eq (pe_ix (ix_tup : IxR _ (rIxT K)) (pv 4) pe_int (fun _ _ => rfl)) (pe_glob (v := .int 3) rfl T.c_PUT ⟨_, rfl⟩) (nomark _)) (pss_one (ps_aug (i := 3) sc_kept_letters.nd rfl (Or.inl rfl) pe_int ip_add)) (pss_one (ps_if (pt_cmpR op_eq (pe_ix (ix_tup : IxR _ (rIxT K)) (pv 4) pe_int (fun _ _ => rfl)) (pe_glob (v := .int 2) rfl T.c_DROP ⟨_, rfl⟩) (nomark _)) (pss_one (ps_aug (i := 2) sc_kept_letters.nd rfl (Or.inl rfl) pe_int ip_add)) (pss_cons (ps_expr (pe_bm PySem.F.plainAttrs_list PySem.F.slot_list_append PySem.F.type_list_append mt_append (pv 1) (pa_cons (pe_tup (pa_cons (pv 2) (pa_cons (pv 3) pa_nil))) pa_nil)))
       (pss_cons (ps_aug (i := 2) sc_kept_letters.nd rfl (Or.inl rfl) pe_int ip_add)
       (pss_one (ps_aug (i := 3) sc_kept_letters.nd rfl (Or.inl rfl) pe_int ip_add)))))))))
       (pss_one (ps_ret (pv 1))))))), ?_⟩
  obtain ⟨v0, rfl, h⟩ := h
  obtain ⟨p, e, rfl, ⟨vs, hp, hr'⟩, hl, k⟩ := h
  have lv := hr'.length
  rw [List.length_map] at lv
  refine ⟨sz0, fun M hM => ?_⟩
  have sM := Same.new (o := .lst []) hM
  refine ⟨_, rfl, p, rfl, ⟨_, SqL.of (sM _ _ hp)⟩, for_list (K := K) (a := p) (xs := vs) (fun i σ H' => ∃ (v : Option V) (o n : Nat) (acc : List (Nat × Nat)), σ = [some (.ref p), some (.ref M), some (.int (o : Int)), some (.int (n : Int)), v] ∧ Same H H' ∧ Kp H' M acc ∧ acc.length ≤ i ∧ acc ++ Vatrkj.keptFrom o n (e.drop i) = Vatrkj.kept e) ⟨none, 0, 0, [], rfl, sM, ⟨[], upd_same, .nil⟩, Nat.le_refl _, rfl⟩ (fun i σ H' _ ⟨_, _, _, _, _, s, _⟩ => SqL.of (s _ _ hp)) ?_ ?_⟩
  · rintro i x σ H' hi ⟨v, o, n, acc, rfl, s, ⟨as, ha, ra⟩, hal, hq⟩
    obtain ⟨t, r, rfl, hri, ht⟩ := (hr'.mono s).get' hi
    obtain ⟨y, hy, rfl⟩ := map_get hri
    have hi' := ix_lt hy
    rw [drop_more hy] at hq
    have la := ra.length
    rw [List.length_map] at la
    have kp : ∀ y' : Stp, y = y' → (∀ r, Vatrkj.keptFrom o n (y' :: r) = (o, n) :: Vatrkj.keptFrom (o + 1) (n + 1) r) → (acc ++ [(o, n)]) ++ Vatrkj.keptFrom (o + 1) (n + 1) (e.drop (i + 1)) = Vatrkj.kept e := fun y' h1 h2 => by
      rw [h1, h2] at hq
      rw [← hq, List.append_assoc]; rfl
    refine ev_if (ev_test (ev_eq (ev_s0 (ev_var rfl) ht) ev_c)) (fun c => ?_) fun c => ?_
    · obtain ⟨z, rfl⟩ := s0_put (of_decide_eq_true c)
      exact ⟨_, rfl, _, _, rfl, rfl, some (.ref t), o, n + 1, acc, rfl, s, ⟨as, ha, ra⟩, by omega, hq⟩
    refine ev_if (ev_test (ev_eq (ev_s0 (ev_var rfl) ht) ev_c)) (fun d => ?_) fun d => ?_
    · obtain ⟨z, rfl⟩ := s0_drop (of_decide_eq_true d)
      exact ⟨_, rfl, _, _, rfl, rfl, some (.ref t), o + 1, n, acc, rfl, s, ⟨as, ha, ra⟩, by omega, hq⟩
    have hq' : (acc ++ [(o, n)]) ++ Vatrkj.keptFrom (o + 1) (n + 1) (e.drop (i + 1)) = Vatrkj.kept e := by
      cases y with
      | keep => exact kp _ rfl fun r => rfl
      | paint f g => exact kp _ rfl fun r => rfl
      | drop z => exact no_tf d
      | put z => exact no_tf c
    refine ⟨_, rfl, .inl ⟨rfl, _, SqL.of ha⟩, _, rfl, _, rfl, sz2, fun b hb => ?_⟩
    have sb := Same.new (o := .tup ((pI (o, n)).map V.int)) hb
    refine ⟨M, as, _, rfl, rfl, sb _ _ ha, lt_size (by omega), ?_⟩
    refine ⟨_, rfl, _, _, rfl, rfl, _, rfl, _, _, rfl, rfl, some (.ref t), o + 1, n + 1, acc ++ [(o, n)], rfl, (s.trans sb).upd hM, ⟨_, upd_same, ?_⟩, ?_, hq'⟩
    · rw [List.map_append]
      exact ((ra.updN hb).snoc (r := pI (o, n)) upd_same).updL (sb _ _ ha)
    · rw [List.length_append]; show acc.length + 1 ≤ _; omega
  · rintro σ H' ⟨v, o, n, acc, rfl, s, hK, hal, hq⟩
    rw [lv, List.drop_length] at hq
    have e0 : Vatrkj.keptFrom o n [] = [] := rfl
    rw [e0, List.append_nil] at hq
    refine ⟨_, rfl, k _ _ s hM ?_⟩
    rw [← hq]; exact hK
/-- a place carried backward, by the kept letters -/
def bk (l : List (Nat × Nat)) (p : Nat) : Nat := match (l.filter fun x => decide (x.1 < p)).getLast? with
  | some x => x.2 + 1
  | none => 0
theorem bk_yes {l : List (Nat × Nat)} {i p : Nat} {x : Nat × Nat} (h : l[i]? = some x) (c : x.1 < p) : bk (l.take (i + 1)) p = x.2 + 1 := by
  unfold bk
  have e : [x].filter (fun x => decide (x.1 < p)) = [x] := by simp [c]
  rw [take_more h, List.filter_append, e, List.getLast?_concat]
theorem bk_no {l : List (Nat × Nat)} {i p : Nat} {x : Nat × Nat} (h : l[i]? = some x) (c : ¬ x.1 < p) : bk (l.take (i + 1)) p = bk (l.take i) p := by
  unfold bk
  have e : [x].filter (fun x => decide (x.1 < p)) = [] := by simp [c]
  rw [take_more h, List.filter_append, e, List.append_nil]
def sp_backward (K : PySem.W.Frag) (_ : Ad) : Sp := sp2 fun v0 v1 H Q => ∃ (p : Addr) (e : Edit) (n : Nat), v0 = .ref p ∧ Ed H p e ∧ e.length ≤ 16000 ∧ v1 = .int (n : Int) ∧ ∀ H', Same H H' → Q (.int ((Vatrkj.backward e n : Nat) : Int)) H'
theorem use_backward {P : Program} {w : World} {K : PySem.W.Frag} {mg : Str → Option Value} {base : Heap} {a : Ad} (T : Txt K mg a) (D : Dfn K mg "backward" "backward" s_backward ["steps", "p"]) (U_kept_letters : Use P w K mg base 1 "kept_letters" ["steps"] (sp_kept_letters K a)) : Use P w K mg base 2 "backward" ["steps", "p"] (sp_backward K a) := by
  obtain ⟨f, fd, F, gf, bf⟩ := D
  obtain ⟨f_kept_letters, fd_kept_letters, g_kept_letters, k_kept_letters, b_kept_letters, G_kept_letters⟩ := U_kept_letters
  refine ⟨f, fd, gf, F.kp, bf, F.ok (k := 1) sc_backward (fun vs H Q E h => h.len) (fun cdv A outer s H vs Q E hr h => ?_)⟩
  refine ⟨_, (pss_cons (ps_set (i := 2) sc_backward.nd rfl (Or.inl rfl) pe_int)
       (pss_cons (ps_for PassesOwn.never rfl (pi_list (pe_call G_kept_letters (hr.mono (by decide)) rfl g_kept_letters k_kept_letters b_kept_letters .nil pass0 (pa_cons (pv 0) pa_nil))) (pg_name (i := 3) sc_backward.nd rfl (Or.inl rfl)) (pss_one (ps_if (pt_cmpR op_lt (pe_ix (ix_tup : IxR _ (rIxT K)) (pv 3) pe_int (fun _ _ => rfl)) (pv 1) (nomark _)) (pss_one (ps_set (i := 2) sc_backward.nd rfl (Or.inl rfl) (pe_op op_add (pe_ix (ix_tup : IxR _ (rIxT K)) (pv 3) pe_int (fun _ _ => rfl)) pe_int))) pss_nil)))
       (pss_one (ps_ret (pv 2))))), ?_⟩
  obtain ⟨v0, v1, rfl, h⟩ := h
  obtain ⟨p, e, n, rfl, hE, hl, rfl, k⟩ := h
  refine ⟨_, rfl, _, rfl, p, e, rfl, hE, hl, fun H1 q s1 _ ⟨vs, hv, rv⟩ => ?_⟩
  have lv := rv.length
  rw [List.length_map] at lv
  refine ⟨q, rfl, ⟨_, SqL.of hv⟩, for_list (K := K) (a := q) (xs := vs) (fun i σ H' => ∃ (v : Option V) (b : Nat), b = bk ((Vatrkj.kept e).take i) n ∧ σ = [some (.ref p), some (.int (n : Int)), some (.int (b : Int)), v] ∧ H' = H1) ⟨none, 0, rfl, rfl, rfl⟩ (fun i σ H' _ ⟨_, _, _, _, s⟩ => by rw [s]; exact SqL.of hv) ?_ ?_⟩
  · rintro i x σ H' hi ⟨v, b, hb, rfl, rfl⟩
    obtain ⟨t, r, rfl, hri, ht⟩ := rv.get' hi
    obtain ⟨y, hy, rfl⟩ := map_get hri
    refine ev_if (ev_test (ev_lt (ev_ixT (K := K) (ev_var rfl) ev_c (SqT.of ht) (v := .int (y.1 : Int)) rfl) (ev_var rfl))) (fun c => ?_) fun c => ?_
    · have c' := of_decide_eq_true c
      refine ev_add (ev_ixT (K := K) (ev_var rfl) ev_c (SqT.of ht) (v := .int (y.2 : Int)) rfl) ev_c _ ?_
      exact ⟨some (.ref t), y.2 + 1, (bk_yes hy (by omega)).symm, rfl, rfl⟩
    · have c' := of_decide_eq_false c
      exact ⟨some (.ref t), b, by rw [bk_no hy (by omega)]; exact hb, rfl, rfl⟩
  · rintro σ H' ⟨v, b, hb, rfl, rfl⟩
    rw [lv, List.take_length] at hb
    have e1 : Vatrkj.backward e n = b := hb.symm
    rw [e1] at k
    exact ⟨_, rfl, k _ s1⟩
def sp_forward (K : PySem.W.Frag) (_ : Ad) : Sp := sp2 fun v0 v1 H Q => ∃ (p : Addr) (e : Edit) (n : Nat), v0 = .ref p ∧ Ed H p e ∧ e.length ≤ 16000 ∧ v1 = .int (n : Int) ∧ ∀ H', Same H H' → Q (.int ((Vatrkj.forward e n : Nat) : Int)) H'
theorem use_forward {P : Program} {w : World} {K : PySem.W.Frag} {mg : Str → Option Value} {base : Heap} {a : Ad} (T : Txt K mg a) (D : Dfn K mg "forward" "forward" s_forward ["steps", "p"]) (U_kept_letters : Use P w K mg base 1 "kept_letters" ["steps"] (sp_kept_letters K a)) (U_new_length : Use P w K mg base 1 "new_length" ["steps"] (sp_new_length K a)) : Use P w K mg base 2 "forward" ["steps", "p"] (sp_forward K a) := by
  obtain ⟨f, fd, F, gf, bf⟩ := D
  obtain ⟨f_kept_letters, fd_kept_letters, g_kept_letters, k_kept_letters, b_kept_letters, G_kept_letters⟩ := U_kept_letters
  obtain ⟨f_new_length, fd_new_length, g_new_length, k_new_length, b_new_length, G_new_length⟩ := U_new_length
  refine ⟨f, fd, gf, F.kp, bf, F.ok (k := 1) sc_forward (fun vs H Q E h => h.len) (fun cdv A outer s H vs Q E hr h => ?_)⟩
  refine ⟨_, (pss_cons (ps_for PassesOwn.never rfl (pi_list (pe_call G_kept_letters (hr.mono (by decide)) rfl g_kept_letters k_kept_letters b_kept_letters .nil pass0 (pa_cons (pv 0) pa_nil))) (pg_name (i := 2) sc_forward.nd rfl (Or.inl rfl)) (pss_one (ps_if (pt_cmpR op_ge (pe_ix (ix_tup : IxR _ (rIxT K)) (pv 2) pe_int (fun _ _ => rfl)) (pv 1) (nomark _)) (pss_one (ps_ret (pe_ix (ix_tup : IxR _ (rIxT K)) (pv 2) pe_int (fun _ _ => rfl)))) pss_nil)))
       (pss_one (ps_ret (pe_call G_new_length (hr.mono (by decide)) rfl g_new_length k_new_length b_new_length .nil pass0 (pa_cons (pv 0) pa_nil))))), ?_⟩
  obtain ⟨v0, v1, rfl, h⟩ := h
  obtain ⟨p, e, n, rfl, hE, hl, rfl, k⟩ := h
  refine ⟨_, rfl, _, rfl, p, e, rfl, hE, hl, fun H1 q s1 _ ⟨vs, hv, rv⟩ => ?_⟩
  have lv := rv.length
  rw [List.length_map] at lv
  refine ⟨q, rfl, ⟨_, SqL.of hv⟩, for_list (K := K) (a := q) (xs := vs) (fun i σ H' => ∃ (v : Option V), σ = [some (.ref p), some (.int (n : Int)), v] ∧ H' = H1 ∧ (Vatrkj.kept e).find? (fun x => decide (n ≤ x.1)) = ((Vatrkj.kept e).drop i).find? (fun x => decide (n ≤ x.1))) ⟨none, rfl, rfl, rfl⟩ (fun i σ H' _ ⟨_, _, s, _⟩ => by rw [s]; exact SqL.of hv) ?_ ?_⟩
  · rintro i x σ H' hi ⟨v, rfl, rfl, hq⟩
    obtain ⟨t, r, rfl, hri, ht⟩ := rv.get' hi
    obtain ⟨y, hy, rfl⟩ := map_get hri
    rw [drop_more hy] at hq
    refine ev_if (ev_test (ev_ge (ev_ixT (K := K) (ev_var rfl) ev_c (SqT.of ht) (v := .int (y.1 : Int)) rfl) (ev_var rfl))) (fun c => ?_) fun c => ?_
    · have c' := of_decide_eq_true c
      have c2 : n ≤ y.1 := by omega
      have e1 : Vatrkj.forward e n = y.2 := by
        unfold Vatrkj.forward
        rw [hq, List.find?_cons_of_pos (by simpa using c2)]
      rw [e1] at k
      exact ev_ixT (K := K) (ev_var rfl) ev_c (SqT.of ht) (v := .int (y.2 : Int)) rfl _ (k _ s1)
    · have c' := of_decide_eq_false c
      have c2 : ¬ n ≤ y.1 := by omega
      rw [List.find?_cons_of_neg (by simpa using c2)] at hq
      exact ⟨some (.ref t), rfl, rfl, hq⟩
  · rintro σ H' ⟨v, rfl, rfl, hq⟩
    rw [lv, List.drop_length] at hq
    have e1 : Vatrkj.forward e n = Vatrkj.newLength e := by
      unfold Vatrkj.forward
      rw [hq]; rfl
    rw [e1] at k
    exact ⟨_, rfl, _, rfl, p, e, rfl, hE.mono s1, by omega, fun H2 s2 => k _ (s1.trans s2)⟩
/-- a stretch carried, by what grows -/
def cr (e : Edit) (p q : Nat) (b c : Bool) : Nat × Nat :=
  ((if (if c = true then Vatrkj.forward e q else Vatrkj.backward e q) < (if b = true then Vatrkj.backward e p else Vatrkj.forward e p) then (if c = true then Vatrkj.forward e q else Vatrkj.backward e q) else (if b = true then Vatrkj.backward e p else Vatrkj.forward e p)), (if c = true then Vatrkj.forward e q else Vatrkj.backward e q))
theorem min_nat (i j : Nat) : (if (j : Int) < (i : Int) then (j : Int) else (i : Int)) = ((if j < i then j else i : Nat) : Int) := by
  by_cases h : j < i
  · rw [if_pos h, if_pos (by omega)]
  · rw [if_neg h, if_neg (by omega)]
def sp_carried_stretch (K : PySem.W.Frag) (_ : Ad) : Sp := sp5 fun v0 v1 v2 v3 v4 H Q => ∃ (p : Addr) (e : Edit) (n m : Nat) (b c : Bool), v0 = .ref p ∧ Ed H p e ∧ e.length ≤ 16000 ∧ v1 = .int (n : Int) ∧ v2 = .int (m : Int) ∧ v3 = .bl b ∧ v4 = .bl c ∧ ∀ H' t, Same H H' → H' t = some (.tup [.int ((cr e n m b c).1 : Nat), .int ((cr e n m b c).2 : Nat)]) → Q (.ref t) H'
theorem use_carried_stretch {P : Program} {w : World} {K : PySem.W.Frag} {mg : Str → Option Value} {base : Heap} {a : Ad} (T : Txt K mg a) (D : Dfn K mg "carried_stretch" "carried_stretch" s_carried_stretch ["steps", "p", "q", "grows_at_beginning", "grows_at_end"]) (U_backward : Use P w K mg base 2 "backward" ["steps", "p"] (sp_backward K a)) (U_forward : Use P w K mg base 2 "forward" ["steps", "p"] (sp_forward K a)) : Use P w K mg base 3 "carried_stretch" ["steps", "p", "q", "grows_at_beginning", "grows_at_end"] (sp_carried_stretch K a) := by
  obtain ⟨f, fd, F, gf, bf⟩ := D
  obtain ⟨f_backward, fd_backward, g_backward, k_backward, b_backward, G_backward⟩ := U_backward
  obtain ⟨f_forward, fd_forward, g_forward, k_forward, b_forward, G_forward⟩ := U_forward
  refine ⟨f, fd, gf, F.kp, bf, F.ok (k := 2) sc_carried_stretch (fun vs H Q E h => h.len) (fun cdv A outer s H vs Q E hr h => ?_)⟩
  refine ⟨_, (pss_cons (ps_set (i := 5) sc_carried_stretch.nd rfl (Or.inl rfl) (pe_ifExp (pt_val (pv 3)) (pe_call G_backward (hr.mono (by decide)) rfl g_backward k_backward b_backward .nil pass0 (pa_cons (pv 0) (pa_cons (pv 1) pa_nil))) (pe_call G_forward (hr.mono (by decide)) rfl g_forward k_forward b_forward .nil pass0 (pa_cons (pv 0) (pa_cons (pv 1) pa_nil)))))
       (pss_cons (ps_set (i := 6) sc_carried_stretch.nd rfl (Or.inl rfl) (pe_ifExp (pt_val (pv 4)) (pe_call G_forward (hr.mono (by decide)) rfl g_forward k_forward b_forward .nil pass0 (pa_cons (pv 0) (pa_cons (pv 2) pa_nil))) (pe_call G_backward (hr.mono (by decide)) rfl g_backward k_backward b_backward .nil pass0 (pa_cons (pv 0) (pa_cons (pv 2) pa_nil)))))
       (pss_one (ps_ret (pe_tup (pa_cons (pe_callB (call_min2 rfl) rfl T.n_min (by decide +kernel) (pa_cons (pv 5) (pa_cons (pv 6) pa_nil))) (pa_cons (pv 6) pa_nil))))))), ?_⟩
  obtain ⟨v0, v1, v2, v3, v4, rfl, h⟩ := h
  obtain ⟨p, e, n, m, b, c, rfl, hE, hl, rfl, rfl, rfl, rfl, k⟩ := h
  refine ev_if (ev_tB (ev_var rfl)) (fun c1 => ?_) fun c1 => ?_
  all_goals
    refine ⟨_, rfl, _, rfl, _, _, rfl, p, e, n, rfl, hE, hl, rfl, fun H1 s1 => ?_⟩
    refine ⟨_, rfl, _, rfl, iteB (fun c2 => ?_) fun c2 => ?_⟩
    all_goals
      refine ⟨_, rfl, _, rfl, _, _, rfl, p, e, m, rfl, hE.mono s1, hl, rfl, fun H2 s2 => ?_⟩
      refine ⟨_, rfl, _, rfl, _, _, rfl, _, rfl, sz2, fun t ht => k _ _ ((s1.trans s2).trans (Same.new ht)) ?_⟩
      rw [upd_same, c1, c2, min_nat]
      rfl
def cnt (e : Edit) (n m : Nat) : Nat := ((Vatrkj.kept e).filter fun x => decide (n ≤ x.1) && decide (x.1 < m)).length
def sp_count_kept (K : PySem.W.Frag) (_ : Ad) : Sp := sp3 fun v0 v1 v2 H Q => ∃ (p : Addr) (e : Edit) (n m : Nat), v0 = .ref p ∧ Ed H p e ∧ e.length ≤ 16000 ∧ v1 = .int (n : Int) ∧ v2 = .int (m : Int) ∧ ∀ H', Same H H' → Q (.int (cnt e n m : Nat)) H'
theorem dle {n m : Nat} : decide ((n : Int) ≤ (m : Int)) = decide (n ≤ m) := by
  by_cases h : n ≤ m
  · simp [h]
  · have : ¬ (n : Int) ≤ m := by omega
    simp [h, this]
theorem use_count_kept {P : Program} {w : World} {K : PySem.W.Frag} {mg : Str → Option Value} {base : Heap} {a : Ad} (T : Txt K mg a) (D : Dfn K mg "count_kept" "count_kept" s_count_kept ["steps", "p", "q"]) (U_kept_letters : Use P w K mg base 1 "kept_letters" ["steps"] (sp_kept_letters K a)) : Use P w K mg base 2 "count_kept" ["steps", "p", "q"] (sp_count_kept K a) := by
  obtain ⟨f, fd, F, gf, bf⟩ := D
  obtain ⟨f_kept_letters, fd_kept_letters, g_kept_letters, k_kept_letters, b_kept_letters, G_kept_letters⟩ := U_kept_letters
  refine ⟨f, fd, gf, F.kp, bf, F.ok (k := 1) sc_count_kept (fun vs H Q E h => h.len) (fun cdv A outer s H vs Q E hr h => ?_)⟩
  refine ⟨_, (pss_one (ps_ret (pe_callB call_len_seq rfl T.n_len PySem.boot_len (pa_cons (pe_lc (own := [("letter", 3)]) (g := gName 3) rfl sc_count_kept.nd (pi_list (pe_call G_kept_letters (hr.mono (by decide)) rfl g_kept_letters k_kept_letters b_kept_letters .nil pass0 (pa_cons (pv 0) pa_nil))) (blkOk_by (own := [("letter", 3)]) (N := ["steps", "p", "q", "letter"]) (sc := defScope s_count_kept) (by decide +kernel)) (fun _ _ _ _ _ => pg_name (i := 3) sc_count_kept.nd rfl (Or.inl rfl)) (fun _ _ _ _ _ => pts_one (pt_chain op_le op_lt (pv 1) (pe_ix (ix_tup : IxR _ (rIxT K)) (pv 3) pe_int (fun _ _ => rfl)) (pv 2))) (fun _ _ _ _ _ => (pv 3))) pa_nil)))), ?_⟩
  obtain ⟨v0, v1, v2, rfl, h⟩ := h
  obtain ⟨p, e, n, m, rfl, hE, hl, rfl, rfl, k⟩ := h
  refine ⟨_, rfl, _, rfl, p, e, rfl, hE, hl, fun H1 q s1 _ ⟨vs, hv, rv⟩ => ?_⟩
  have lv := rv.length
  rw [List.length_map] at lv
  have hkl := kept_len e
  refine ⟨q, rfl, ⟨_, SqL.of hv⟩, fun D hD => lc_list (K := K) (a := q) (xs := vs) (fun i H' => Same H1 H' ∧ ∃ acc, H' D = some (.lst acc) ∧ acc.length = (((Vatrkj.kept e).take i).filter fun x => decide (n ≤ x.1) && decide (x.1 < m)).length) ⟨Same.new hD, [], upd_same, rfl⟩ (fun i H' _ ⟨s, _⟩ => SqL.of (s _ _ hv)) ?_ ?_⟩
  · rintro i x H' hi ⟨s, acc, hacc, la⟩
    obtain ⟨t, r, rfl, hri, ht⟩ := (rv.mono s).get' hi
    obtain ⟨y, hy, rfl⟩ := map_get hri
    have hi' := ix_lt hy
    have fm := filt_more (f := fun x : Nat × Nat => decide (n ≤ x.1) && decide (x.1 < m)) hy
    have hb : (((Vatrkj.kept e).take i).filter fun x => decide (n ≤ x.1) && decide (x.1 < m)).length ≤ 16000 := Nat.le_trans (List.length_filter_le ..) (Nat.le_trans (List.length_take_le ..) (by omega))
    refine ⟨rfl, ?_⟩
    refine ev_if (ev_test (ev_chain (r := rI0 fun i j => .bl (decide (i ≤ j))) (r' := rI0 fun i j => .bl (decide (i < j))) (x := .int (n : Int)) (y := .int (y.1 : Int)) (z := .int (m : Int)) (ev_var rfl) (ev_ixT (K := K) (ev_var rfl) ev_c (SqT.of ht) (v := .int (y.1 : Int)) rfl) (ev_var rfl) (fun Q q => ⟨_, _, rfl, rfl, q⟩) (fun Q q => ⟨_, _, rfl, rfl, q⟩))) (fun c => ?_) fun c => ?_
    · rw [dle, dlt] at c
      have c' : (fun x : Nat × Nat => decide (n ≤ x.1) && decide (x.1 < m)) y = true := c
      rw [if_pos c'] at fm
      exact ⟨_, rfl, acc, hacc, lt_size (by omega), s.upd hD, _, upd_same, by rw [fm, List.length_append, la]; rfl⟩
    · rw [dle, dlt] at c
      have c' : (fun x : Nat × Nat => decide (n ≤ x.1) && decide (x.1 < m)) y = false := c
      rw [if_neg (by rw [c]; decide)] at fm
      exact ⟨s, acc, hacc, by rw [fm]; exact la⟩
  · rintro H' ⟨s, acc, hacc, la⟩
    refine ⟨D, acc, rfl, .inl (SqL.of hacc), ?_⟩
    rw [lv, List.take_length] at la
    have e1 : acc.length = cnt e n m := la
    rw [e1]
    exact k H' (s1.trans s)
/-- how many of the kept letters go on from the first without a gap -/
def runLen : List (Nat × Nat) → Nat
  | [] => 0
  | [_] => 1
  | x :: y :: r => if y.1 = x.1 + 1 ∧ y.2 = x.2 + 1 then runLen (y :: r) + 1 else 1
theorem runLen_two (x y : Nat × Nat) (r : List (Nat × Nat)) : runLen (x :: y :: r) = if y.1 = x.1 + 1 ∧ y.2 = x.2 + 1 then runLen (y :: r) + 1 else 1 := by rw [runLen]
theorem runs_run : ∀ (r : List (Nat × Nat)) (x : Nat × Nat), Vatrkj.keptRuns (x :: r) = (x.1, x.2, runLen (x :: r)) :: Vatrkj.keptRuns ((x :: r).drop (runLen (x :: r)))
  | [], x => rfl
  | y :: r, x => by
    have ih := runs_run r y
    have e0 : Vatrkj.keptRuns (x :: y :: r) = match Vatrkj.keptRuns (y :: r) with
      | (a, b, n) :: g => if a = x.1 + 1 ∧ b = x.2 + 1 then (x.1, x.2, n + 1) :: g else (x.1, x.2, 1) :: (a, b, n) :: g
      | [] => [(x.1, x.2, 1)] := rfl
    rw [e0, runLen_two]
    by_cases c : y.1 = x.1 + 1 ∧ y.2 = x.2 + 1
    · rw [if_pos c, ih]
      show (if y.1 = x.1 + 1 ∧ y.2 = x.2 + 1 then _ else _) = _
      rw [if_pos c, List.drop_succ_cons]
    · rw [if_neg c]
      have e1 : (x :: y :: r).drop 1 = y :: r := rfl
      rw [e1]
      rw [ih]
      show (if y.1 = x.1 + 1 ∧ y.2 = x.2 + 1 then _ else _) = _
      rw [if_neg c]
theorem runLen_le : ∀ l : List (Nat × Nat), runLen l ≤ l.length
  | [] => Nat.le_refl _
  | [_] => Nat.le_refl _
  | x :: y :: r => by
    have ih := runLen_le (y :: r)
    rw [runLen_two]
    split
    · rw [List.length_cons]; omega
    · rw [List.length_cons]; omega
theorem runLen_pos (x : Nat × Nat) : ∀ r : List (Nat × Nat), 1 ≤ runLen (x :: r)
  | [] => Nat.le_refl _
  | y :: r => by
    rw [runLen_two]
    split <;> omega
def sp_stretch_end (K : PySem.W.Frag) (_ : Ad) : Sp := sp2 fun v0 v1 H Q => ∃ (p : Addr) (l : List (Nat × Nat)) (i : Nat), v0 = .ref p ∧ Kp H p l ∧ l.length ≤ 16000 ∧ v1 = .int (i : Int) ∧ i < l.length ∧ ∀ H', Same H H' → Q (.int ((i + runLen (l.drop i) : Nat) : Int)) H'
theorem pI_next {x y : Nat × Nat} : pI y = [(x.1 : Int) + 1, (x.2 : Int) + 1] ↔ y.1 = x.1 + 1 ∧ y.2 = x.2 + 1 := by
  constructor
  · intro h
    have h1 : (y.1 : Int) = (x.1 : Int) + 1 := (List.cons.inj h).1
    have h2 : (y.2 : Int) = (x.2 : Int) + 1 := (List.cons.inj (List.cons.inj h).2).1
    omega
  · rintro ⟨h1, h2⟩
    show [(y.1 : Int), (y.2 : Int)] = _
    rw [h1, h2]; rfl
theorem use_stretch_end {P : Program} {w : World} {K : PySem.W.Frag} {mg : Str → Option Value} {base : Heap} {a : Ad} (T : Txt K mg a) (D : Dfn K mg "stretch_end" "stretch_end" s_stretch_end ["letters", "at"])  : Use P w K mg base 1 "stretch_end" ["letters", "at"] (sp_stretch_end K a) := by
  obtain ⟨f, fd, F, gf, bf⟩ := D
  refine ⟨f, fd, gf, F.kp, bf, F.ok (k := 0) sc_stretch_end (fun vs H Q E h => h.len) (fun cdv A outer s H vs Q E hr h => ?_)⟩
  refine ⟨_, (pss_cons (ps_set (i := 2) sc_stretch_end.nd rfl (Or.inl rfl) (pe_op op_add (pv 1) pe_int))
       (pss_cons (ps_while PassesOwn.never (PW.pt (pw_and (pt_cmpR op_lt (pv 2) (pe_callB call_len_seq rfl T.n_len PySem.boot_len (pa_cons (pv 0) pa_nil)) (nomark _)) (pw_and1 (pt_cmpR (op_eqD hr.units : OpR _ (compareOp .Eq) (rEqD K)) (pe_ix (ix_list : IxR _ (rIxL K)) (pv 0) (pv 2) (fun _ _ => rfl)) (pe_tup (pa_cons (pe_op op_add (pe_ix (ix_tup : IxR _ (rIxT K)) (pe_ix (ix_list : IxR _ (rIxL K)) (pv 0) (pe_op op_sub (pv 2) pe_int) (fun _ _ => rfl)) pe_int (fun _ _ => rfl)) pe_int) (pa_cons (pe_op op_add (pe_ix (ix_tup : IxR _ (rIxT K)) (pe_ix (ix_list : IxR _ (rIxL K)) (pv 0) (pe_op op_sub (pv 2) pe_int) (fun _ _ => rfl)) pe_int (fun _ _ => rfl)) pe_int) pa_nil))) (nomark _))))) (pss_one (ps_aug (i := 2) sc_stretch_end.nd rfl (Or.inl rfl) pe_int ip_add)))
       (pss_one (ps_ret (pv 2))))), ?_⟩
  obtain ⟨v0, v1, rfl, h⟩ := h
  obtain ⟨p, l, i, rfl, ⟨vs, hp, hr'⟩, hl, rfl, hi, k⟩ := h
  have lv := hr'.length
  rw [List.length_map] at lv
  refine ⟨_, rfl, _, _, rfl, rfl, ?_⟩
  refine ⟨fun m σ H' => ∃ j : Nat, m = l.length - j ∧ σ = [some (.ref p), some (.int i), some (.int ((j + 1 : Nat) : Int))] ∧ Same H H' ∧ j < l.length ∧ i + runLen (l.drop i) = j + runLen (l.drop j), ⟨_, i, rfl, rfl, Same.refl _, hi, rfl⟩, ?_⟩
  rintro m σ H' ⟨j, rfl, rfl, s, hj, hq⟩
  have hs : SqL K H' p vs := SqL.of (s _ _ hp)
  have rr := hr'.mono s
  obtain ⟨x, hx⟩ := get_of hj
  obtain ⟨t, h1, h2⟩ := rr.get (i := j) (r := pI x) (by rw [List.getElem?_map, hx]; rfl)
  refine ev_test (ev_lt (ev_var rfl) (ev_len (K := K) (ev_var rfl) hs)) _ ?_
  by_cases c : j + 1 < l.length
  · refine iteP (by rw [lv]; omega) ?_
    obtain ⟨y, hy⟩ := get_of c
    obtain ⟨u, g1, g2⟩ := rr.get (i := j + 1) (r := pI y) (by rw [List.getElem?_map, hy]; rfl)
    rw [drop_more hx, drop_more hy, runLen_two] at hq
    refine ev_at (K := K) (ev_var rfl) (ev_var rfl) hs g1 _ ?_
    refine ev_add (ev_ixT (K := K) (ev_ixL (K := K) (ev_var rfl) (ev_sub (ev_var rfl) ev_c) hs (at_of (j := j) (by omega) h1)) ev_c (SqT.of h2) (v := .int (x.1 : Int)) rfl) ev_c _ ?_
    refine ev_add (ev_ixT (K := K) (ev_ixL (K := K) (ev_var rfl) (ev_sub (ev_var rfl) ev_c) hs (at_of (j := j) (by omega) h1)) ev_c (SqT.of h2) (v := .int (x.2 : Int)) rfl) ev_c _ ?_
    refine ⟨sz2, fun b hb => ?_⟩
    have sb := Same.new (o := .tup ([(x.1 : Int) + 1, (x.2 : Int) + 1].map V.int)) hb
    refine rEqD_of (r := pI y) (q := [(x.1 : Int) + 1, (x.2 : Int) + 1]) (sb _ _ g2) upd_same ⟨_, rfl, ?_⟩
    by_cases d : y.1 = x.1 + 1 ∧ y.2 = x.2 + 1
    · refine iteP (pI_next.mpr d) ⟨_, fun _ _ h => h, ⟨_, rfl, _, _, rfl, rfl, ?_⟩⟩
      rw [if_pos d] at hq
      exact ⟨_, by omega, j + 1, rfl, rfl, s.trans sb, c, by rw [drop_more hy]; omega⟩
    · refine iteN (fun z => d (pI_next.mp z)) ⟨_, rfl, ?_⟩
      rw [if_neg d] at hq
      rw [hq] at k
      exact k _ (s.trans sb)
  · refine iteN (by rw [lv]; omega) ⟨_, rfl, ?_⟩
    have e1 : runLen (l.drop j) = 1 := by
      rw [drop_more hx, drop_none (by omega : l.length ≤ j + 1)]; rfl
    rw [e1] at hq
    rw [hq] at k
    exact k _ s
def sp_kept_stretches (K : PySem.W.Frag) (_ : Ad) : Sp := sp1 fun v H Q => ∃ p e, v = .ref p ∧ Ed H p e ∧ e.length ≤ 16000 ∧ ∀ H' q, Same H H' → H q = none → (Vatrkj.keptRuns (Vatrkj.kept e)).length ≤ e.length → Ls H' q ((Vatrkj.keptRuns (Vatrkj.kept e)).map tI) → Q (.ref q) H'
theorem use_kept_stretches {P : Program} {w : World} {K : PySem.W.Frag} {mg : Str → Option Value} {base : Heap} {a : Ad} (T : Txt K mg a) (D : Dfn K mg "kept_stretches" "kept_stretches" s_kept_stretches ["steps"]) (U_kept_letters : Use P w K mg base 1 "kept_letters" ["steps"] (sp_kept_letters K a)) (U_stretch_end : Use P w K mg base 1 "stretch_end" ["letters", "at"] (sp_stretch_end K a)) : Use P w K mg base 2 "kept_stretches" ["steps"] (sp_kept_stretches K a) := by
  obtain ⟨f, fd, F, gf, bf⟩ := D
  obtain ⟨f_kept_letters, fd_kept_letters, g_kept_letters, k_kept_letters, b_kept_letters, G_kept_letters⟩ := U_kept_letters
  obtain ⟨f_stretch_end, fd_stretch_end, g_stretch_end, k_stretch_end, b_stretch_end, G_stretch_end⟩ := U_stretch_end
  refine ⟨f, fd, gf, F.kp, bf, F.ok (k := 1) sc_kept_stretches (fun vs H Q E h => h.len) (fun cdv A outer s H vs Q E hr h => ?_)⟩
  refine ⟨_, (pss_cons (ps_set (i := 1) sc_kept_stretches.nd rfl (Or.inl rfl) (pe_lst pa_nil))
       (pss_cons (ps_set (i := 2) sc_kept_stretches.nd rfl (Or.inl rfl) (pe_call G_kept_letters (hr.mono (by decide)) rfl g_kept_letters k_kept_letters b_kept_letters .nil pass0 (pa_cons (pv 0) pa_nil)))
       (pss_cons (ps_set (i := 3) sc_kept_stretches.nd rfl (Or.inl rfl) pe_int)
       (pss_cons (ps_while PassesOwn.never (pt_cmpR op_lt (pv 3) (pe_callB call_len_seq rfl T.n_len PySem.boot_len (pa_cons (pv 2) pa_nil)) (nomark _)) (pss_cons (ps_set (i := 4) sc_kept_stretches.nd rfl (Or.inl rfl) (pe_call G_stretch_end (hr.mono (by decide)) rfl g_stretch_end k_stretch_end b_stretch_end .nil pass0 (pa_cons (pv 2) (pa_cons (pv 3) pa_nil))))
       (pss_cons (ps_expr (pe_bm PySem.F.plainAttrs_list PySem.F.slot_list_append PySem.F.type_list_append mt_append (pv 1) (pa_cons (pe_tup (pa_cons (pe_ix (ix_tup : IxR _ (rIxT K)) (pe_ix (ix_list : IxR _ (rIxL K)) (pv 2) (pv 3) (fun _ _ => rfl)) pe_int (fun _ _ => rfl)) (pa_cons (pe_ix (ix_tup : IxR _ (rIxT K)) (pe_ix (ix_list : IxR _ (rIxL K)) (pv 2) (pv 3) (fun _ _ => rfl)) pe_int (fun _ _ => rfl)) (pa_cons (pe_op op_sub (pv 4) (pv 3)) pa_nil)))) pa_nil)))
       (pss_one (ps_set (i := 3) sc_kept_stretches.nd rfl (Or.inl rfl) (pv 4))))))
       (pss_one (ps_ret (pv 1))))))), ?_⟩
  obtain ⟨v0, rfl, h⟩ := h
  obtain ⟨p, e, rfl, hE, hl, k⟩ := h
  refine ⟨sz0, fun M hM => ?_⟩
  have sM := Same.new (o := .lst []) hM
  refine ⟨_, rfl, _, rfl, p, e, rfl, hE.mono sM, hl, fun H1 q s1 nq hK => ?_⟩
  have hkl := kept_len e
  have nM : q ≠ M := fun z => by rw [z, upd_same] at nq; cases nq
  generalize Vatrkj.kept e = l at hK hkl k
  refine ⟨fun m σ H' => ∃ (i : Nat) (v : Option V) (acc : List (Nat × Nat × Nat)), m = l.length - i ∧ σ = [some (.ref p), some (.ref M), some (.ref q), some (.int i), v] ∧ Same H H' ∧ Kp H' q l ∧ Ls H' M (acc.map tI) ∧ acc.length ≤ i ∧ i ≤ l.length ∧ acc ++ Vatrkj.keptRuns (l.drop i) = Vatrkj.keptRuns l, ⟨_, 0, none, [], rfl, rfl, sM.trans s1, hK, ⟨[], s1 _ _ upd_same, .nil⟩, Nat.le_refl _, Nat.zero_le _, rfl⟩, ?_⟩
  rintro m σ H' ⟨i, v, acc, rfl, rfl, s, hK', ⟨as, ha, ra⟩, hal, hi, hq⟩
  have hK2 := hK'
  obtain ⟨vs, hv, rv⟩ := hK'
  have lv := rv.length
  have la := ra.length
  rw [List.length_map] at lv la
  refine ev_test (ev_lt (ev_var rfl) (ev_len (K := K) (ev_var rfl) (SqL.of hv))) _ ?_
  by_cases c : i < l.length
  case neg =>
    refine iteN (by rw [lv]; omega) ⟨_, rfl, ?_⟩
    rw [drop_none (by omega : l.length ≤ i)] at hq
    have e0 : Vatrkj.keptRuns [] = [] := rfl
    rw [e0, List.append_nil] at hq
    refine k _ _ s hM (by rw [← hq]; omega) ?_
    rw [← hq]; exact ⟨as, ha, ra⟩
  refine iteP (by rw [lv]; omega) ⟨_, fun _ _ h => h, ?_⟩
  obtain ⟨x, hx⟩ := get_of c
  have hpos := runLen_pos x (l.drop (i + 1))
  have hle := runLen_le (l.drop i)
  rw [List.length_drop] at hle
  rw [← drop_more hx] at hpos
  refine ⟨_, rfl, _, rfl, _, _, rfl, q, l, i, rfl, hK2, by omega, rfl, c, fun H2 s2 => ?_⟩
  have rv2 := rv.mono s2
  have hv2 := s2 _ _ hv
  have ha2 := s2 _ _ ha
  obtain ⟨t, h1, h2⟩ := rv2.get (i := i) (r := pI x) (by rw [List.getElem?_map, hx]; rfl)
  refine ⟨_, rfl, .inl ⟨rfl, _, SqL.of ha2⟩, ?_⟩
  refine ev_ixT (K := K) (ev_at (K := K) (ev_var rfl) (ev_var rfl) (SqL.of hv2) h1) ev_c (SqT.of h2) (v := .int (x.1 : Int)) rfl _ ?_
  refine ev_ixT (K := K) (ev_at (K := K) (ev_var rfl) (ev_var rfl) (SqL.of hv2) h1) ev_c (SqT.of h2) (v := .int (x.2 : Int)) rfl _ ?_
  have e3 : (((i + runLen (l.drop i) : Nat) : Int) - (i : Int)) = ((runLen (l.drop i) : Nat) : Int) := by omega
  refine ev_sub (ev_var rfl) (ev_var rfl) _ ?_
  rw [e3]
  refine ⟨sz3, fun b hb => ?_⟩
  have sb := Same.new (o := .tup ((tI (x.1, x.2, runLen (l.drop i))).map V.int)) hb
  have ha3 := sb _ _ ha2
  refine ⟨M, as, _, rfl, rfl, ha3, lt_size (by omega), ?_⟩
  refine ⟨_, rfl, _, ?_, i + runLen (l.drop i), _, acc ++ [(x.1, x.2, runLen (l.drop i))], rfl, rfl, ((s.trans s2).trans sb).upd hM, Ls.updL (Ls.mono (s2.trans sb) hK2) ha3 nM, ⟨_, upd_same, ?_⟩, ?_, by omega, ?_⟩
  · omega
  · rw [List.map_append]
    exact (((ra.mono s2).updN hb).snoc (r := tI (x.1, x.2, runLen (l.drop i))) upd_same).updL ha3
  · rw [List.length_append]; show acc.length + 1 ≤ _; omega
  · rw [← hq, ← List.drop_drop, List.append_assoc]
    have e4 := runs_run (l.drop (i + 1)) x
    rw [← drop_more hx] at e4
    rw [e4]
    rfl
def sp_is_stretch (K : PySem.W.Frag) (_ : Ad) : Sp := sp3 fun v0 v1 v2 H Q => ∃ (p q n : Int), v0 = .int p ∧ v1 = .int q ∧ v2 = .int n ∧ Q (.bl (decide (0 ≤ p) && (decide (p ≤ q) && decide (q ≤ n)))) H
theorem use_is_stretch {P : Program} {w : World} {K : PySem.W.Frag} {mg : Str → Option Value} {base : Heap} {a : Ad} (T : Txt K mg a) (D : Dfn K mg "is_stretch" "is_stretch" s_is_stretch ["p", "q", "length"])  : Use P w K mg base 1 "is_stretch" ["p", "q", "length"] (sp_is_stretch K a) := by
  obtain ⟨f, fd, F, gf, bf⟩ := D
  refine ⟨f, fd, gf, F.kp, bf, F.ok (k := 0) sc_is_stretch (fun vs H Q E h => h.len) (fun cdv A outer s H vs Q E hr h => ?_)⟩
  refine ⟨_, (pss_one (ps_ret (pe_chain3 op_le op_le op_le pe_int (pv 0) (pv 1) (pv 2)))), ?_⟩
  obtain ⟨v0, v1, v2, rfl, h⟩ := h
  obtain ⟨p, q, n, rfl, rfl, rfl, k⟩ := h
  refine ⟨_, rfl, _, _, rfl, rfl, _, rfl, iteB (fun c => ?_) fun c => ?_⟩
  · rw [c, Bool.true_and] at k
    refine ⟨_, rfl, _, _, rfl, rfl, _, rfl, iteB (fun d => ?_) fun d => ?_⟩
    · rw [d, Bool.true_and] at k
      exact ⟨_, rfl, _, _, rfl, rfl, k⟩
    · rw [d, Bool.false_and] at k
      exact k
  · rw [c, Bool.false_and] at k
    exact k
end Ev

namespace Ev
open PySem PySem.Spec PyProof.Rows L2
open Vatrkj (Letter Edit Text)
/-! ### edits made from a text -/
def pst (f g : Nat) : Stp := if f = g then .keep else .paint f g
def sp_painting (K : PySem.W.Frag) (_ : Ad) : Sp := sp2 fun v0 v1 H Q => ∃ f g : Nat, v0 = .int (f : Int) ∧ v1 = .int (g : Int) ∧ ∀ t, H t = none → Q (.ref t) (upd H t (.tup ((sI (pst f g)).map V.int)))
theorem use_painting {P : Program} {w : World} {K : PySem.W.Frag} {mg : Str → Option Value} {base : Heap} {a : Ad} (T : Txt K mg a) (D : Dfn K mg "painting" "painting" s_painting ["f", "g"])  : Use P w K mg base 1 "painting" ["f", "g"] (sp_painting K a) := by
  obtain ⟨f, fd, F, gf, bf⟩ := D
  refine ⟨f, fd, gf, F.kp, bf, F.ok (k := 0) sc_painting (fun vs H Q E h => h.len) (fun cdv A outer s H vs Q E hr h => ?_)⟩
  refine ⟨_, (pss_one (ps_ret (pe_ifExp (pt_cmpR op_eq (pv 0) (pv 1) (nomark _)) (pe_tup (pa_cons (pe_glob (v := .int 0) rfl T.c_KEEP ⟨_, rfl⟩) (pa_cons pe_int (pa_cons pe_int pa_nil)))) (pe_tup (pa_cons (pe_glob (v := .int 1) rfl T.c_PAINT ⟨_, rfl⟩) (pa_cons (pv 0) (pa_cons (pv 1) pa_nil))))))), ?_⟩
  obtain ⟨v0, v1, rfl, h⟩ := h
  obtain ⟨f', g', rfl, rfl, k⟩ := h
  refine ev_if (ev_test (ev_eq (ev_var rfl) (ev_var rfl))) (fun c => ?_) fun c => ?_
  · have c' := of_decide_eq_true c
    have e1 : pst f' g' = .keep := if_pos (by omega)
    rw [e1] at k
    exact ⟨sz3, fun t ht => k t ht⟩
  · have c' := of_decide_eq_false c
    have e1 : pst f' g' = .paint f' g' := if_neg (by omega)
    rw [e1] at k
    exact ⟨_, rfl, _, rfl, sz3, fun t ht => k t ht⟩
/-- what replace makes -/
def repl (t u : Text) (n m : Nat) : Edit := List.replicate n .keep ++ (u.map .put ++ (((t.take m).drop n).map .drop ++ List.replicate (t.length - m) .keep))
/-- what repaint makes -/
def rept (t : Text) (n m g : Nat) : Edit := List.replicate n .keep ++ (((t.take m).drop n).map (fun x => pst x.look g) ++ List.replicate (t.length - m) .keep)
def zr (p q g : Nat) : Nat → Text → Edit
  | _, [] => []
  | k, x :: t => Vatrkj.repaintStep p q g (k, x) :: zr p q g (k + 1) t
theorem zr_is (p q g : Nat) : ∀ (t : Text) (k : Nat), ((List.range' k t.length).zip t).map (Vatrkj.repaintStep p q g) = zr p q g k t
  | [], k => by simp [zr]
  | x :: t, k => by
    rw [List.length_cons, List.range'_succ, List.zip_cons_cons, List.map_cons, zr_is p q g t (k + 1)]
    rfl
theorem zr_parts {p q g : Nat} (h : p ≤ q) : ∀ (t : Text) (k : Nat), q ≤ k + t.length → zr p q g k t = List.replicate (p - k) .keep ++ (((t.take (q - k)).drop (p - k)).map (fun x => pst x.look g) ++ List.replicate (t.length - (q - k)) .keep)
  | [], k, hk => by
    have h1 : q ≤ k := hk
    have e1 : p - k = 0 := by omega
    have e2 : q - k = 0 := by omega
    rw [e1, e2]; rfl
  | x :: t, k, hk => by
    rw [List.length_cons] at hk
    have ih := zr_parts (g := g) h t (k + 1) (by omega)
    show Vatrkj.repaintStep p q g (k, x) :: zr p q g (k + 1) t = _
    rw [ih, List.length_cons]
    by_cases c1 : k < p
    · have e0 : Vatrkj.repaintStep p q g (k, x) = .keep := if_neg fun z => by have := z.1; omega
      have e1 : p - k = (p - (k + 1)) + 1 := by omega
      have e2 : q - k = (q - (k + 1)) + 1 := by omega
      have e3 : t.length + 1 - (q - (k + 1) + 1) = t.length - (q - (k + 1)) := by omega
      rw [e0, e1, e2, e3, List.replicate_succ, List.take_succ_cons, List.drop_succ_cons]
      rfl
    · have e1 : p - k = 0 := by omega
      have e1' : p - (k + 1) = 0 := by omega
      by_cases c2 : k < q
      · have e0 : Vatrkj.repaintStep p q g (k, x) = pst x.look g := by
          by_cases c3 : x.look = g
          · have e4 : Vatrkj.repaintStep p q g (k, x) = .keep := if_neg fun z => z.2.2 c3
            rw [e4]; exact (if_pos c3).symm
          · have e4 : Vatrkj.repaintStep p q g (k, x) = .paint x.look g := if_pos ⟨by omega, c2, c3⟩
            rw [e4]; exact (if_neg c3).symm
        have e2 : q - k = (q - (k + 1)) + 1 := by omega
        have e3 : t.length + 1 - (q - (k + 1) + 1) = t.length - (q - (k + 1)) := by omega
        rw [e0, e1, e1', e2, e3, List.take_succ_cons]
        rfl
      · have e0 : Vatrkj.repaintStep p q g (k, x) = .keep := if_neg fun z => by have := z.2.1; omega
        have e2 : q - k = 0 := by omega
        have e2' : q - (k + 1) = 0 := by omega
        rw [e0, e1, e1', e2, e2', List.take_zero, List.take_zero]
        rfl
theorem rept_is {t : Text} {p q g : Nat} (h : p ≤ q) (h2 : q ≤ t.length) : ((List.range t.length).zip t).map (Vatrkj.repaintStep p q g) = rept t p q g := by
  rw [List.range_eq_range', zr_is, zr_parts h t 0 (by omega)]
  rfl
theorem cut_text {t : Text} {n m : Nat} : (t.drop n).take (m - n) = (t.take m).drop n := (List.drop_take ..).symm
def sp_replacing (K : PySem.W.Frag) (_ : Ad) : Sp := sp4 fun v0 v1 v2 v3 H Q => ∃ (p q : Addr) (t u : Text) (n m : Nat), v0 = .ref p ∧ Tx H p t ∧ t.length ≤ 2000 ∧ v1 = .int (n : Int) ∧ v2 = .int (m : Int) ∧ n ≤ m ∧ m ≤ t.length ∧ v3 = .ref q ∧ Tx H q u ∧ u.length ≤ 16000 ∧ ∀ H' b, Same H H' → H b = none → Ed H' b (repl t u n m) → Q (.ref b) H'
theorem Ed.cat {H : Hp} {vs ws : List V} {e f : Edit} (h : Rws H vs (e.map sI)) (g : Rws H ws (f.map sI)) : Rws H (vs ++ ws) ((e ++ f).map sI) := by
  rw [List.map_append]; exact h.append g
theorem keeps_rws {H : Hp} {b : Addr} {n : Nat} (h : H b = some (.tup ((sI .keep).map V.int))) : Rws H (List.replicate n [V.ref b]).flatten ((List.replicate n (.keep : Stp)).map sI) := by
  rw [map_rep]; exact Rws.rep h n
theorem use_replacing {P : Program} {w : World} {K : PySem.W.Frag} {mg : Str → Option Value} {base : Heap} {a : Ad} (T : Txt K mg a) (D : Dfn K mg "replacing" "replacing" s_replacing ["text", "p", "q", "letters"])  : Use P w K mg base 1 "replacing" ["text", "p", "q", "letters"] (sp_replacing K a) := by
  obtain ⟨f, fd, F, gf, bf⟩ := D
  refine ⟨f, fd, gf, F.kp, bf, F.ok (k := 0) sc_replacing (fun vs H Q E h => h.len) (fun cdv A outer s H vs Q E hr h => ?_)⟩
  refine ⟨_, (pss_cons (ps_set (i := 4) sc_replacing.nd rfl (Or.inl rfl) (pe_op op_rep (pe_lst (pa_cons (pe_tup (pa_cons (pe_glob (v := .int 0) rfl T.c_KEEP ⟨_, rfl⟩) (pa_cons pe_int (pa_cons pe_int pa_nil)))) pa_nil)) (pv 1)))
       (pss_cons (ps_setLc (i := 5) (own := [("letter", 8)]) (g := gName 8) (tt := tYes) rfl sc_replacing.nd rfl rfl (sw_true rfl rfl rfl (by decide +kernel)) (pi_list (pv 3)) (blkOk_by (own := [("letter", 8)]) (N := ["text", "p", "q", "letters", "before", "puts", "drops", "behind", "letter"]) (sc := defScope s_replacing) (by decide +kernel)) (fun _ _ _ _ _ => pg_name (i := 8) sc_replacing.nd rfl (Or.inl rfl)) (fun _ _ _ _ _ => pts_nil) (fun _ _ _ _ _ => (pe_tup (pa_cons (pe_glob (v := .int 3) rfl T.c_PUT ⟨_, rfl⟩) (pa_cons (pe_ix (ix_tup : IxR _ (rIxT K)) (pv 8) pe_int (fun _ _ => rfl)) (pa_cons (pe_ix (ix_tup : IxR _ (rIxT K)) (pv 8) pe_int (fun _ _ => rfl)) pa_nil))))))
       (pss_cons (ps_setLc (i := 6) (own := [("letter", 8)]) (g := gName 8) (tt := tYes) rfl sc_replacing.nd rfl rfl (sw_true rfl rfl rfl (by decide +kernel)) (pi_list (pe_slice sl_list (pv 0) (po_some (pv 1)) (po_some (pv 2)))) (blkOk_by (own := [("letter", 8)]) (N := ["text", "p", "q", "letters", "before", "puts", "drops", "behind", "letter"]) (sc := defScope s_replacing) (by decide +kernel)) (fun _ _ _ _ _ => pg_name (i := 8) sc_replacing.nd rfl (Or.inl rfl)) (fun _ _ _ _ _ => pts_nil) (fun _ _ _ _ _ => (pe_tup (pa_cons (pe_glob (v := .int 2) rfl T.c_DROP ⟨_, rfl⟩) (pa_cons (pe_ix (ix_tup : IxR _ (rIxT K)) (pv 8) pe_int (fun _ _ => rfl)) (pa_cons (pe_ix (ix_tup : IxR _ (rIxT K)) (pv 8) pe_int (fun _ _ => rfl)) pa_nil))))))
       (pss_cons (ps_set (i := 7) sc_replacing.nd rfl (Or.inl rfl) (pe_op op_rep (pe_lst (pa_cons (pe_tup (pa_cons (pe_glob (v := .int 0) rfl T.c_KEEP ⟨_, rfl⟩) (pa_cons pe_int (pa_cons pe_int pa_nil)))) pa_nil)) (pe_op op_sub (pe_callB call_len_seq rfl T.n_len PySem.boot_len (pa_cons (pv 0) pa_nil)) (pv 2))))
       (pss_one (ps_ret (pe_op op_cat (pe_op op_cat (pe_op op_cat (pv 4) (pv 5)) (pv 6)) (pv 7)))))))), ?_⟩
  obtain ⟨v0, v1, v2, v3, rfl, h⟩ := h
  obtain ⟨p, q, t, u, n, m, rfl, ⟨vs, hp, hr'⟩, htl, rfl, rfl, hnm, hmt, rfl, ⟨ws, hw, rw'⟩, hul, k⟩ := h
  have lv := hr'.length
  have lw := rw'.length
  rw [List.length_map] at lv lw
  refine ⟨sz3, fun b0 hb0 => ⟨sz1, fun c0 hc0 => ?_⟩⟩
  have t0 := Same.new (o := .tup ((sI .keep).map V.int)) hb0
  have t1 := Same.new (o := .lst [V.ref b0]) hc0
  refine ⟨_, rfl, c0, _, [V.ref b0], rfl, rfl, upd_same, by omega, by omega, by rw [Int.toNat_natCast]; exact le_size (by simp; omega), fun d0 hd0 => ?_⟩
  rw [Int.toNat_natCast]
  have t2 := Same.new (o := .lst (List.replicate n [V.ref b0]).flatten) hd0
  have S0 := (t0.trans t1).trans t2
  have R0 := keeps_rws (n := n) (t2 _ _ (t1 _ _ upd_same))
  refine ⟨_, rfl, q, rfl, ⟨_, SqL.of (S0 _ _ hw)⟩, fun D hD => lc_list (K := K) (a := q) (xs := ws) (fun i H' => Same _ H' ∧ Ed H' D ((u.take i).map .put)) ⟨Same.new hD, [], upd_same, .nil⟩ (fun i H' _ ⟨s, _⟩ => SqL.of (s _ _ (S0 _ _ hw))) ?_ ?_⟩
  · rintro i x H' hi ⟨s, acc, hacc, ra⟩
    obtain ⟨w', r', rfl, hri, hw'⟩ := ((rw'.mono S0).mono s).get' hi
    obtain ⟨y, hy, rfl⟩ := map_get hri
    have hi' := ix_lt hy
    have la := ra.length
    rw [List.length_map, List.length_map, List.length_take] at la
    refine ⟨rfl, ?_⟩
    refine yes_of ?_
    refine ev_l0 (ev_var rfl) hw' _ ?_
    refine ev_l1 (ev_var rfl) hw' _ ⟨sz3, fun z hz => ?_⟩
    have sz := Same.new (o := .tup ((sI (.put y)).map V.int)) hz
    refine ⟨acc, sz _ _ hacc, lt_size (by omega), (s.trans sz).upd hD, _, upd_same, ?_⟩
    rw [take_more hy, List.map_append, List.map_append]
    exact ((ra.updN hz).snoc (r := sI (.put y)) upd_same).updL (sz _ _ hacc)
  rintro H1 ⟨s1, hE1⟩
  rw [lw, List.take_length] at hE1
  have S1 := S0.trans s1
  have hcut : cutV vs (some (n : Int)) (some ((m : Nat) : Int)) = (vs.drop n).take (m - n) := cut_nat (by omega) (by omega)
  refine ⟨_, rfl, _, rfl, _, rfl, _, rfl, _, rfl, p, _, rfl, SqL.of (S1 _ _ hp), fun x0 hx0 => ?_⟩
  rw [hcut]
  have sx := Same.new (o := .lst ((vs.drop n).take (m - n))) hx0
  have rx : Rws (upd H1 x0 (.lst ((vs.drop n).take (m - n)))) ((vs.drop n).take (m - n)) (((t.take m).drop n).map lI) := by
    rw [← cut_text, List.map_take, List.map_drop]
    exact (((hr'.mono S1).mono sx).drop n).take _
  have lx := rx.length
  rw [List.length_map] at lx
  refine ⟨x0, rfl, ⟨_, SqL.of upd_same⟩, fun D2 hD2 => lc_list (K := K) (a := x0) (xs := (vs.drop n).take (m - n)) (fun i H' => Same _ H' ∧ Ed H' D2 ((((t.take m).drop n).take i).map .drop)) ⟨Same.new hD2, [], upd_same, .nil⟩ (fun i H' _ ⟨s, _⟩ => SqL.of (s _ _ upd_same)) ?_ ?_⟩
  · rintro i x H' hi ⟨s, acc, hacc, ra⟩
    obtain ⟨w', r', rfl, hri, hw'⟩ := (rx.mono s).get' hi
    obtain ⟨y, hy, rfl⟩ := map_get hri
    have hi' := ix_lt hy
    have hk : ((t.take m).drop n).length ≤ 2000 := by rw [List.length_drop, List.length_take]; omega
    have la := ra.length
    rw [List.length_map, List.length_map, List.length_take] at la
    refine ⟨rfl, ?_⟩
    refine yes_of ?_
    refine ev_l0 (ev_var rfl) hw' _ ?_
    refine ev_l1 (ev_var rfl) hw' _ ⟨sz3, fun z hz => ?_⟩
    have sz := Same.new (o := .tup ((sI (.drop y)).map V.int)) hz
    refine ⟨acc, sz _ _ hacc, lt_size (by omega), (s.trans sz).upd hD2, _, upd_same, ?_⟩
    rw [take_more hy, List.map_append, List.map_append]
    exact ((ra.updN hz).snoc (r := sI (.drop y)) upd_same).updL (sz _ _ hacc)
  rintro H2 ⟨s2, hE2⟩
  rw [lx, List.take_length] at hE2
  have S2 := S1.trans (sx.trans s2)
  refine ⟨sz3, fun b3 hb3 => ⟨sz1, fun c3 hc3 => ?_⟩⟩
  have t3 := Same.new (o := .tup ((sI .keep).map V.int)) hb3
  have t4 := Same.new (o := .lst [V.ref b3]) hc3
  have e1 : ((vs.length : Nat) : Int) - (m : Int) = ((t.length - m : Nat) : Int) := by omega
  have hs3 : SqL K (upd (upd H2 b3 (.tup ((sI .keep).map V.int))) c3 (.lst [V.ref b3])) p vs := SqL.of (((S2.trans t3).trans t4) _ _ hp)
  have es := ev_sub (σ := [some (.ref p), some (.int (n : Int)), some (.int (m : Int)), some (.ref q), some (.ref d0), some (.ref D), some (.ref D2), none, none]) (ev_len (K := K) (ev_var (i := 0) rfl) hs3) (ev_var (i := 2) rfl)
  rw [e1] at es
  refine es _ ?_
  refine ⟨c3, _, [V.ref b3], rfl, rfl, upd_same, by omega, by omega, by rw [Int.toNat_natCast]; exact le_size (by simp; omega), fun d3 hd3 => ?_⟩
  rw [Int.toNat_natCast]
  have t5 := Same.new (o := .lst (List.replicate (t.length - m) [V.ref b3]).flatten) hd3
  have S3 := (t3.trans t4).trans t5
  have R3 := keeps_rws (n := t.length - m) (t5 _ _ (t4 _ _ upd_same))
  have U0 := (s1.trans (sx.trans s2)).trans S3
  have U1 := (sx.trans s2).trans S3
  obtain ⟨as, ha, ra⟩ := hE1
  obtain ⟨bs, hb, rb⟩ := hE2
  have l0 := (R0.mono U0).length
  have l1 := ra.length
  have l2 := rb.length
  have l3 := R3.length
  rw [List.length_map, List.length_replicate] at l0 l3
  rw [List.length_map, List.length_map] at l1 l2
  have hk : ((t.take m).drop n).length ≤ 2000 := by rw [List.length_drop, List.length_take]; omega
  refine ⟨_, rfl, _, rfl, d0, D, _, _, rfl, rfl, U0 _ _ upd_same, U1 _ _ ha, le_size (by omega), fun f0 hf0 => ?_⟩
  have v0 := Same.new (o := .lst ((List.replicate n [V.ref b0]).flatten ++ as)) hf0
  refine ⟨_, rfl, f0, D2, _, _, rfl, rfl, upd_same, v0 _ _ (S3 _ _ hb), le_size (by rw [List.length_append]; omega), fun f1 hf1 => ?_⟩
  have v1 := Same.new (o := .lst ((List.replicate n [V.ref b0]).flatten ++ as ++ bs)) hf1
  refine ⟨_, rfl, f1, d3, _, _, rfl, rfl, upd_same, v1 _ _ (v0 _ _ upd_same), le_size (by rw [List.length_append, List.length_append]; omega), fun f2 hf2 => ?_⟩
  have v2 := Same.new (o := .lst ((List.replicate n [V.ref b0]).flatten ++ as ++ bs ++ (List.replicate (t.length - m) [V.ref b3]).flatten)) hf2
  have vv := (v0.trans v1).trans v2
  have SA := (S2.trans S3).trans (v0.trans v1)
  refine k _ f2 (SA.trans v2) (SA.free hf2) ⟨_, upd_same, ?_⟩
  have ee : repl t u n m = ((List.replicate n .keep ++ u.map .put) ++ ((t.take m).drop n).map .drop) ++ List.replicate (t.length - m) .keep := by
    unfold repl; rw [List.append_assoc, List.append_assoc]
  rw [ee]
  exact Ed.cat (Ed.cat (Ed.cat ((R0.mono U0).mono vv) ((ra.mono U1).mono vv)) ((rb.mono S3).mono vv)) (R3.mono vv)
def sp_repainting (K : PySem.W.Frag) (_ : Ad) : Sp := sp4 fun v0 v1 v2 v3 H Q => ∃ (p : Addr) (t : Text) (n m g : Nat), v0 = .ref p ∧ Tx H p t ∧ t.length ≤ 2000 ∧ v1 = .int (n : Int) ∧ v2 = .int (m : Int) ∧ n ≤ m ∧ m ≤ t.length ∧ v3 = .int (g : Int) ∧ ∀ H' b, Same H H' → H b = none → Ed H' b (rept t n m g) → Q (.ref b) H'
theorem use_repainting {P : Program} {w : World} {K : PySem.W.Frag} {mg : Str → Option Value} {base : Heap} {a : Ad} (T : Txt K mg a) (D : Dfn K mg "repainting" "repainting" s_repainting ["text", "p", "q", "g"]) (U_painting : Use P w K mg base 1 "painting" ["f", "g"] (sp_painting K a)) : Use P w K mg base 2 "repainting" ["text", "p", "q", "g"] (sp_repainting K a) := by
  obtain ⟨f, fd, F, gf, bf⟩ := D
  obtain ⟨f_painting, fd_painting, g_painting, k_painting, b_painting, G_painting⟩ := U_painting
  refine ⟨f, fd, gf, F.kp, bf, F.ok (k := 1) sc_repainting (fun vs H Q E h => h.len) (fun cdv A outer s H vs Q E hr h => ?_)⟩
  refine ⟨_, (pss_cons (ps_set (i := 4) sc_repainting.nd rfl (Or.inl rfl) (pe_op op_rep (pe_lst (pa_cons (pe_tup (pa_cons (pe_glob (v := .int 0) rfl T.c_KEEP ⟨_, rfl⟩) (pa_cons pe_int (pa_cons pe_int pa_nil)))) pa_nil)) (pv 1)))
       (pss_cons (ps_setLc (i := 5) (own := [("letter", 7)]) (g := gName 7) (tt := tYes) rfl sc_repainting.nd rfl rfl (sw_true rfl rfl rfl (by decide +kernel)) (pi_list (pe_slice sl_list (pv 0) (po_some (pv 1)) (po_some (pv 2)))) (blkOk_by (own := [("letter", 7)]) (N := ["text", "p", "q", "g", "before", "between", "behind", "letter"]) (sc := defScope s_repainting) (by decide +kernel)) (fun _ _ _ _ _ => pg_name (i := 7) sc_repainting.nd rfl (Or.inl rfl)) (fun _ _ _ _ _ => pts_nil) (fun _ _ _ _ _ => (pe_call G_painting (hr.mono (by decide)) rfl g_painting k_painting b_painting .nil pass0 (pa_cons (pe_ix (ix_tup : IxR _ (rIxT K)) (pv 7) pe_int (fun _ _ => rfl)) (pa_cons (pv 3) pa_nil)))))
       (pss_cons (ps_set (i := 6) sc_repainting.nd rfl (Or.inl rfl) (pe_op op_rep (pe_lst (pa_cons (pe_tup (pa_cons (pe_glob (v := .int 0) rfl T.c_KEEP ⟨_, rfl⟩) (pa_cons pe_int (pa_cons pe_int pa_nil)))) pa_nil)) (pe_op op_sub (pe_callB call_len_seq rfl T.n_len PySem.boot_len (pa_cons (pv 0) pa_nil)) (pv 2))))
       (pss_one (ps_ret (pe_op op_cat (pe_op op_cat (pv 4) (pv 5)) (pv 6))))))), ?_⟩
  obtain ⟨v0, v1, v2, v3, rfl, h⟩ := h
  obtain ⟨p, t, n, m, g, rfl, ⟨vs, hp, hr'⟩, htl, rfl, rfl, hnm, hmt, rfl, k⟩ := h
  have lv := hr'.length
  rw [List.length_map] at lv
  refine ⟨sz3, fun b0 hb0 => ⟨sz1, fun c0 hc0 => ?_⟩⟩
  have t0 := Same.new (o := .tup ((sI .keep).map V.int)) hb0
  have t1 := Same.new (o := .lst [V.ref b0]) hc0
  refine ⟨_, rfl, c0, _, [V.ref b0], rfl, rfl, upd_same, by omega, by omega, by rw [Int.toNat_natCast]; exact le_size (by simp; omega), fun d0 hd0 => ?_⟩
  rw [Int.toNat_natCast]
  have t2 := Same.new (o := .lst (List.replicate n [V.ref b0]).flatten) hd0
  have S0 := (t0.trans t1).trans t2
  have R0 := keeps_rws (n := n) (t2 _ _ (t1 _ _ upd_same))
  have hcut : cutV vs (some (n : Int)) (some ((m : Nat) : Int)) = (vs.drop n).take (m - n) := cut_nat (by omega) (by omega)
  refine ⟨_, rfl, _, rfl, _, rfl, _, rfl, _, rfl, p, _, rfl, SqL.of (S0 _ _ hp), fun x0 hx0 => ?_⟩
  rw [hcut]
  have sx := Same.new (o := .lst ((vs.drop n).take (m - n))) hx0
  have rx := (((hr'.mono S0).mono sx).drop n).take (m - n)
  rw [← List.map_drop, ← List.map_take, cut_text] at rx
  have lx := rx.length
  rw [List.length_map] at lx
  refine ⟨x0, rfl, ⟨_, SqL.of upd_same⟩, fun D2 hD2 => lc_list (K := K) (a := x0) (xs := (vs.drop n).take (m - n)) (fun i H' => Same _ H' ∧ Ed H' D2 ((((t.take m).drop n).take i).map fun x => pst x.look g)) ⟨Same.new hD2, [], upd_same, .nil⟩ (fun i H' _ ⟨s, _⟩ => SqL.of (s _ _ upd_same)) ?_ ?_⟩
  · rintro i x H' hi ⟨s, acc, hacc, ra⟩
    obtain ⟨w', r', rfl, hri, hw'⟩ := (rx.mono s).get' hi
    obtain ⟨y, hy, rfl⟩ := map_get hri
    have hi' := ix_lt hy
    have hk : ((t.take m).drop n).length ≤ 2000 := by rw [List.length_drop, List.length_take]; omega
    have la := ra.length
    rw [List.length_map, List.length_map, List.length_take] at la
    refine ⟨rfl, ?_⟩
    refine yes_of ?_
    refine ev_l1 (ev_var rfl) hw' _ ?_
    refine ⟨_, rfl, _, _, rfl, y.look, g, rfl, rfl, fun z hz => ?_⟩
    have sz := Same.new (o := .tup ((sI (pst y.look g)).map V.int)) hz
    refine ⟨acc, sz _ _ hacc, lt_size (by omega), (s.trans sz).upd hD2, _, upd_same, ?_⟩
    rw [take_more hy, List.map_append, List.map_append]
    exact ((ra.updN hz).snoc (r := sI (pst y.look g)) upd_same).updL (sz _ _ hacc)
  rintro H2 ⟨s2, hE2⟩
  rw [lx, List.take_length] at hE2
  have S2 := S0.trans (sx.trans s2)
  refine ⟨sz3, fun b3 hb3 => ⟨sz1, fun c3 hc3 => ?_⟩⟩
  have t3 := Same.new (o := .tup ((sI .keep).map V.int)) hb3
  have t4 := Same.new (o := .lst [V.ref b3]) hc3
  have e1 : ((vs.length : Nat) : Int) - (m : Int) = ((t.length - m : Nat) : Int) := by omega
  have hs3 : SqL K (upd (upd H2 b3 (.tup ((sI .keep).map V.int))) c3 (.lst [V.ref b3])) p vs := SqL.of (((S2.trans t3).trans t4) _ _ hp)
  have es := ev_sub (σ := [some (.ref p), some (.int (n : Int)), some (.int (m : Int)), some (.int (g : Int)), some (.ref d0), some (.ref D2), none, none]) (ev_len (K := K) (ev_var (i := 0) rfl) hs3) (ev_var (i := 2) rfl)
  rw [e1] at es
  refine es _ ?_
  refine ⟨c3, _, [V.ref b3], rfl, rfl, upd_same, by omega, by omega, by rw [Int.toNat_natCast]; exact le_size (by simp; omega), fun d3 hd3 => ?_⟩
  rw [Int.toNat_natCast]
  have t5 := Same.new (o := .lst (List.replicate (t.length - m) [V.ref b3]).flatten) hd3
  have S3 := (t3.trans t4).trans t5
  have R3 := keeps_rws (n := t.length - m) (t5 _ _ (t4 _ _ upd_same))
  have U0 := (sx.trans s2).trans S3
  obtain ⟨bs, hb, rb⟩ := hE2
  have l0 := (R0.mono U0).length
  have l2 := rb.length
  have l3 := R3.length
  rw [List.length_map, List.length_replicate] at l0 l3
  rw [List.length_map, List.length_map] at l2
  have hk : ((t.take m).drop n).length ≤ 2000 := by rw [List.length_drop, List.length_take]; omega
  refine ⟨_, rfl, _, rfl, d0, D2, _, _, rfl, rfl, U0 _ _ upd_same, S3 _ _ hb, le_size (by omega), fun f0 hf0 => ?_⟩
  have v0 := Same.new (o := .lst ((List.replicate n [V.ref b0]).flatten ++ bs)) hf0
  refine ⟨_, rfl, f0, d3, _, _, rfl, rfl, upd_same, v0 _ _ upd_same, le_size (by rw [List.length_append]; omega), fun f2 hf2 => ?_⟩
  have v2 := Same.new (o := .lst ((List.replicate n [V.ref b0]).flatten ++ bs ++ (List.replicate (t.length - m) [V.ref b3]).flatten)) hf2
  have vv := v0.trans v2
  have SA := (S2.trans S3).trans v0
  refine k _ f2 (SA.trans v2) (SA.free hf2) ⟨_, upd_same, ?_⟩
  have ee : rept t n m g = (List.replicate n .keep ++ ((t.take m).drop n).map (fun x => pst x.look g)) ++ List.replicate (t.length - m) .keep := by
    unfold rept; rw [List.append_assoc]
  rw [ee]
  exact Ed.cat (Ed.cat ((R0.mono U0).mono vv) ((rb.mono S3).mono vv)) (R3.mono vv)
end Ev

namespace Ev
open PySem PySem.Spec PyProof.Rows L2
open Vatrkj (Letter Edit Text)
/-! ### == of lists of tuples -/
section
variable {K : PySem.W.Frag} {H : Hp}
theorem rws_dp : ∀ {vs : List V} {rs : List (List Int)}, Rws H vs rs → DpAll K H vs (rs.map dT)
  | _, _, .nil => .nil
  | _, _, .cons h k => .cons (dT_dp h) (rws_dp k)
theorem dL_lay : ∀ rs : List (List Int), PyData.canLayAll0 (rs.map dT) = true
  | [] => by simp [PyData.canLayAll0]
  | r :: rs => by simp [PyData.canLayAll0, PyData.canLay0, dT, dT_lay, ← dL_lay rs]
theorem dL_depth : ∀ rs : List (List Int), PyData.depthAll (rs.map dT) ≤ 1
  | [] => by simp [PyData.depthAll]
  | r :: rs => by
    have := dL_depth rs
    simp only [List.map_cons, PyData.depthAll, dT, PyData.depth, dT_depth]
    exact Nat.max_le.mpr ⟨by omega, this⟩
theorem dL_shaped (rs : List (List Int)) : SeqAt.shaped (.list (rs.map dT)) = true := by
  have h1 := dL_lay rs
  have h2 := dL_depth rs
  simp only [SeqAt.shaped, PyData.canLay0, PyData.depth, h1, Bool.true_and]
  exact decide_eq_true (by omega)
theorem dL_eqvA : ∀ r q : List (List Int), PyData.eqvAll (r.map dT) (q.map dT) = decide (r = q)
  | [], [] => by simp [PyData.eqvAll]
  | [], _ :: _ => by simp [PyData.eqvAll]
  | _ :: _, [] => by simp [PyData.eqvAll]
  | i :: r, j :: q => by
    simp only [List.map_cons, PyData.eqvAll, dT_eqv, dL_eqvA r q]
    by_cases h1 : i = j <;> by_cases h2 : r = q <;> simp [h1, h2]
theorem mapI_eq (e f : Edit) : decide (e.map sI = f.map sI) = decide (e = f) := by
  have inj : ∀ e f : Edit, e.map sI = f.map sI → e = f := by
    intro e
    induction e with
    | nil => intro f h; cases f with
      | nil => rfl
      | cons y f => cases h
    | cons x e ih => intro f h; cases f with
      | nil => cases h
      | cons y f =>
        have h' := List.cons.inj h
        rw [sI_inj h'.1, ih f h'.2]
  by_cases h : e = f
  · simp [h]
  · have : ¬ e.map sI = f.map sI := fun z => h (inj e f z)
    simp [h, this]
theorem rEqL_of {p q : Addr} {e f : Edit} {Q : VK} (h : Ed H p e) (g : Ed H q f) (k : Q (.bl (decide (e = f))) H) : rEqD K (.ref p) (.ref q) H Q := by
  obtain ⟨vs, h1, h2⟩ := h
  obtain ⟨ws, g1, g2⟩ := g
  refine ⟨.list ((e.map sI).map dT), .list ((f.map sI).map dT), .lst (SqL.of h1) (rws_dp h2), .lst (SqL.of g1) (rws_dp g2), dL_shaped _, dL_shaped _, ?_⟩
  rw [show PyData.eqv (.list ((e.map sI).map dT)) (.list ((f.map sI).map dT)) = PyData.eqvAll ((e.map sI).map dT) ((f.map sI).map dT) by simp only [PyData.eqv], dL_eqvA, mapI_eq]
  exact k
end
/-! ### the calls that only look -/
def sp_Held_call_same (K : PySem.W.Frag) (a : Ad) : Sp := sp3 fun v0 v1 v2 H Q => ∃ (x ae : Addr) (s : Vatrkj.State) (r q : Int), v0 = .ref x ∧ HeldAt a.k_Held x ae H s ∧ Good s ∧ v1 = .int r ∧ v2 = .int q ∧ Left a.k_Held x ae H (s, Vatrkj.look s (.same r q)) Q
theorem use_Held_call_same {P : Program} {w : World} {K : PySem.W.Frag} {mg : Str → Option Value} {base : Heap} {a : Ad} (T : Txt K mg a) (D : DfnM K a.k_Held "call_same" "Held.call_same" s_Held_call_same ["self", "r", "s"]) (U_name_edits : Use P w K mg base 1 "name_edits" ["names"] (sp_name_edits K a)) : UseM P w K mg base a.k_Held 2 "call_same" ["self", "r", "s"] (sp_Held_call_same K a) := by
  obtain ⟨f, fd, F, mf, bf⟩ := D
  obtain ⟨f_name_edits, fd_name_edits, g_name_edits, k_name_edits, b_name_edits, G_name_edits⟩ := U_name_edits
  refine ⟨f, fd, mf, bf, F.ok (k := 1) sc_Held_call_same (fun vs H Q E h => h.len) (fun cdv A outer s H vs Q E hr h => ?_)⟩
  refine ⟨_, (pss_cons (ps_if (pt_not (pt_val (pe_call G_name_edits (hr.mono (by decide)) rfl g_name_edits k_name_edits b_name_edits .nil pass0 (pa_cons (pe_lst (pa_cons (pv 1) (pa_cons (pv 2) pa_nil))) pa_nil)))) (pss_one (ps_ret (pe_lst (pa_cons (pe_un un_neg pe_int) pa_nil)))) pss_nil)
       (pss_one (ps_ret (pe_lst (pa_cons (pe_ifExp (pt_cmpR (op_eqD hr.units : OpR _ (compareOp .Eq) (rEqD K)) (pe_ix (ix_list : IxR _ (rIxL K)) (pe_fld (pv 0) rfl) (pv 1) (fun _ _ => rfl)) (pe_ix (ix_list : IxR _ (rIxL K)) (pe_fld (pv 0) rfl) (pv 2) (fun _ _ => rfl)) (nomark _)) pe_int pe_int) pa_nil))))), ?_⟩
  obtain ⟨v0, v1, v2, rfl, h⟩ := h
  obtain ⟨x, ae, s, r, q0, rfl, hH, hG, rfl, rfl, k⟩ := h
  refine ⟨_, rfl, _, rfl, sz2, fun n hn => ⟨_, rfl, n, [r, q0], rfl, upd_same, by show 2 ≤ 1000; decide, fun H1 s0' => ⟨_, rfl, ?_⟩⟩⟩
  have s1 := (Same.new (o := .lst [V.int r, V.int q0]) hn).trans s0'
  have hH1 := hH.mono s1
  have k1 := k.mono hH s1
  rw [two_names]
  refine iteB (fun c => ?_) fun c => ?_
  · have e1 : Vatrkj.look s (.same r q0) = .refused 2 := if_neg (by rw [not_t c]; decide)
    rw [e1] at k1
    exact ⟨_, rfl, sz1, fun q hq => k1.no hH1 hG (Same.refl _) hq rfl⟩
  have hn' := not_f c
  have e1 : Vatrkj.look s (.same r q0) = .told [if Vatrkj.edit s r = Vatrkj.edit s q0 then 1 else 0] := if_pos hn'
  rw [e1] at k1
  rw [Bool.and_eq_true] at hn'
  obtain ⟨p, ep, hE⟩ := ev_edit (σ := [some (.ref x), some (.int r), some (.int q0)]) (ta := tVar 0) (tb := tVar 1) T (ev_var rfl) (ev_var rfl) hH1 hn'.1
  obtain ⟨p2, ep2, hE2⟩ := ev_edit (σ := [some (.ref x), some (.int r), some (.int q0)]) (ta := tVar 0) (tb := tVar 2) T (ev_var rfl) (ev_var rfl) hH1 hn'.2
  refine ep _ ?_
  refine ep2 _ ?_
  refine rEqL_of hE hE2 ⟨_, rfl, iteB (fun d => ?_) fun d => ?_⟩
  · rw [if_pos (of_decide_eq_true d)] at k1
    exact ⟨sz1, fun q hq => k1.yes hH1 hG (Keeps.of hH1 (Same.refl _)) hq rfl⟩
  · rw [if_neg (of_decide_eq_false d)] at k1
    exact ⟨sz1, fun q hq => k1.yes hH1 hG (Keeps.of hH1 (Same.refl _)) hq rfl⟩
theorem nat_int {z : Int} (h : 0 ≤ z) : V.int z = V.int ((z.toNat : Nat) : Int) := congrArg V.int (Int.toNat_of_nonneg h).symm
def sp_Held_call_place (K : PySem.W.Frag) (a : Ad) : Sp := sp3 fun v0 v1 v2 H Q => ∃ (x ae : Addr) (s : Vatrkj.State) (r p : Int), v0 = .ref x ∧ HeldAt a.k_Held x ae H s ∧ Good s ∧ v1 = .int r ∧ v2 = .int p ∧ Left a.k_Held x ae H (s, Vatrkj.look s (.place r p)) Q
theorem use_Held_call_place {P : Program} {w : World} {K : PySem.W.Frag} {mg : Str → Option Value} {base : Heap} {a : Ad} (T : Txt K mg a) (D : DfnM K a.k_Held "call_place" "Held.call_place" s_Held_call_place ["self", "r", "p"]) (U_name_edits : Use P w K mg base 1 "name_edits" ["names"] (sp_name_edits K a)) (U_backward : Use P w K mg base 2 "backward" ["steps", "p"] (sp_backward K a)) (U_forward : Use P w K mg base 2 "forward" ["steps", "p"] (sp_forward K a)) (U_old_length : Use P w K mg base 1 "old_length" ["steps"] (sp_old_length K a)) : UseM P w K mg base a.k_Held 3 "call_place" ["self", "r", "p"] (sp_Held_call_place K a) := by
  obtain ⟨f, fd, F, mf, bf⟩ := D
  obtain ⟨f_name_edits, fd_name_edits, g_name_edits, k_name_edits, b_name_edits, G_name_edits⟩ := U_name_edits
  obtain ⟨f_backward, fd_backward, g_backward, k_backward, b_backward, G_backward⟩ := U_backward
  obtain ⟨f_forward, fd_forward, g_forward, k_forward, b_forward, G_forward⟩ := U_forward
  obtain ⟨f_old_length, fd_old_length, g_old_length, k_old_length, b_old_length, G_old_length⟩ := U_old_length
  refine ⟨f, fd, mf, bf, F.ok (k := 2) sc_Held_call_place (fun vs H Q E h => h.len) (fun cdv A outer s H vs Q E hr h => ?_)⟩
  refine ⟨_, (pss_cons (ps_if (pt_not (pt_val (pe_call G_name_edits (hr.mono (by decide)) rfl g_name_edits k_name_edits b_name_edits .nil pass0 (pa_cons (pe_lst (pa_cons (pv 1) pa_nil)) pa_nil)))) (pss_one (ps_ret (pe_lst (pa_cons (pe_un un_neg pe_int) pa_nil)))) pss_nil)
       (pss_cons (ps_set (i := 3) sc_Held_call_place.nd rfl (Or.inl rfl) (pe_ix (ix_list : IxR _ (rIxL K)) (pe_fld (pv 0) rfl) (pv 1) (fun _ _ => rfl)))
       (pss_cons (ps_if (PW.pt (pw_or (pt_cmpR op_lt (pv 2) pe_int (nomark _)) (pw_or1 (pt_cmpR op_gt (pv 2) (pe_call G_old_length (hr.mono (by decide)) rfl g_old_length k_old_length b_old_length .nil pass0 (pa_cons (pv 3) pa_nil)) (nomark _))))) (pss_one (ps_ret (pe_lst (pa_cons (pe_un un_neg pe_int) pa_nil)))) pss_nil)
       (pss_one (ps_ret (pe_lst (pa_cons (pe_call G_backward (hr.mono (by decide)) rfl g_backward k_backward b_backward .nil pass0 (pa_cons (pv 3) (pa_cons (pv 2) pa_nil))) (pa_cons (pe_call G_forward (hr.mono (by decide)) rfl g_forward k_forward b_forward .nil pass0 (pa_cons (pv 3) (pa_cons (pv 2) pa_nil))) pa_nil)))))))), ?_⟩
  obtain ⟨v0, v1, v2, rfl, h⟩ := h
  obtain ⟨x, ae, s, r, z, rfl, hH, hG, rfl, rfl, k⟩ := h
  refine ⟨_, rfl, sz1, fun n hn => ⟨_, rfl, n, [r], rfl, upd_same, by show 1 ≤ 1000; decide, fun H1 s0' => ⟨_, rfl, ?_⟩⟩⟩
  have s1 := (Same.new (o := .lst [V.int r]) hn).trans s0'
  have hH1 := hH.mono s1
  have k1 := k.mono hH s1
  rw [one_name]
  refine iteB (fun c => ?_) fun c => ?_
  · have e1 : Vatrkj.look s (.place r z) = .refused 2 := if_pos (not_t c)
    rw [e1] at k1
    exact ⟨_, rfl, sz1, fun q hq => k1.no hH1 hG (Same.refl _) hq rfl⟩
  have hn' := not_f c
  have es : Vatrkj.look s (.place r z) = if Vatrkj.within z 0 (Vatrkj.oldLength (Vatrkj.edit s r)) = false then .refused 1 else .told [Vatrkj.backward (Vatrkj.edit s r) z.toNat, Vatrkj.forward (Vatrkj.edit s r) z.toNat] := if_neg (by rw [hn']; decide)
  have ew : Vatrkj.within z 0 (Vatrkj.oldLength (Vatrkj.edit s r)) = (decide (0 ≤ z) && decide (z ≤ (Vatrkj.oldLength (Vatrkj.edit s r) : Int))) := rfl
  obtain ⟨p, ep, hE⟩ := ev_edit (σ := [some (.ref x), some (.int r), some (.int z), none]) (ta := tVar 0) (tb := tVar 1) T (ev_var rfl) (ev_var rfl) hH1 hn'
  have hb := hG.edit hn'
  refine ep _ ?_
  refine ⟨_, rfl, _, _, rfl, rfl, _, rfl, iteB (fun c1 => ?_) fun c1 => ?_⟩
  · have c1' := of_decide_eq_true c1
    rw [if_pos (by rw [ew, decide_eq_false (by omega), Bool.false_and])] at es
    rw [es] at k1
    exact iteT ⟨_, rfl, sz1, fun q hq => k1.no hH1 hG (Same.refl _) hq rfl⟩
  have c1' := of_decide_eq_false c1
  refine ⟨_, rfl, _, rfl, _, rfl, p, _, rfl, hE, by omega, fun H2 s2 => ⟨_, _, rfl, rfl, _, rfl, iteB (fun c2 => ?_) fun c2 => ?_⟩⟩
  · have c2' := of_decide_eq_true c2
    rw [if_pos (by rw [ew, Bool.and_eq_false_iff, decide_eq_false_iff_not, decide_eq_false_iff_not]; omega)] at es
    rw [es] at k1
    have k2 := k1.mono hH1 s2
    exact ⟨_, rfl, sz1, fun q hq => k2.no (hH1.mono s2) hG (Same.refl _) hq rfl⟩
  have c2' := of_decide_eq_false c2
  rw [if_neg (by rw [ew, Bool.and_eq_false_iff, decide_eq_false_iff_not, decide_eq_false_iff_not]; omega)] at es
  rw [es] at k1
  refine ⟨_, rfl, _, rfl, _, _, rfl, p, _, z.toNat, rfl, hE.mono s2, by omega, nat_int (by omega), fun H3 s3 => ?_⟩
  refine ⟨_, rfl, _, rfl, _, _, rfl, p, _, z.toNat, rfl, (hE.mono s2).mono s3, by omega, nat_int (by omega), fun H4 s4 => ⟨sz2, fun q hq => ?_⟩⟩
  have S := (s2.trans s3).trans s4
  exact k1.yes (hH1.mono S) hG (Keeps.of hH1 S) hq rfl
theorem in13 {g : Int} (h0 : 0 ≤ g) (h3 : g ≤ 3) : inV (.int g) [.int 1, .int 3] = decide (g.toNat = 1 ∨ g.toNat = 3) := by
  have : g = 0 ∨ g = 1 ∨ g = 2 ∨ g = 3 := by omega
  rcases this with rfl | rfl | rfl | rfl <;> decide
theorem in23 {g : Int} (h0 : 0 ≤ g) (h3 : g ≤ 3) : inV (.int g) [.int 2, .int 3] = decide (g.toNat = 2 ∨ g.toNat = 3) := by
  have : g = 0 ∨ g = 1 ∨ g = 2 ∨ g = 3 := by omega
  rcases this with rfl | rfl | rfl | rfl <;> decide
theorem cr_is (e : Edit) (n m g : Nat) : cr e n m (decide (g = 1 ∨ g = 3)) (decide (g = 2 ∨ g = 3)) = Vatrkj.carried e n m g := by
  unfold cr Vatrkj.carried
  by_cases h1 : g = 1 ∨ g = 3 <;> by_cases h2 : g = 2 ∨ g = 3 <;> simp [h1, h2]
def sp_Held_call_stretch (K : PySem.W.Frag) (a : Ad) : Sp := sp5 fun v0 v1 v2 v3 v4 H Q => ∃ (x ae : Addr) (s : Vatrkj.State) (r p q g : Int), v0 = .ref x ∧ HeldAt a.k_Held x ae H s ∧ Good s ∧ v1 = .int r ∧ v2 = .int p ∧ v3 = .int q ∧ v4 = .int g ∧ Left a.k_Held x ae H (s, Vatrkj.look s (.stretch r p q g)) Q
theorem use_Held_call_stretch {P : Program} {w : World} {K : PySem.W.Frag} {mg : Str → Option Value} {base : Heap} {a : Ad} (T : Txt K mg a) (D : DfnM K a.k_Held "call_stretch" "Held.call_stretch" s_Held_call_stretch ["self", "r", "p", "q", "grows"]) (U_carried_stretch : Use P w K mg base 3 "carried_stretch" ["steps", "p", "q", "grows_at_beginning", "grows_at_end"] (sp_carried_stretch K a)) (U_is_stretch : Use P w K mg base 1 "is_stretch" ["p", "q", "length"] (sp_is_stretch K a)) (U_count_kept : Use P w K mg base 2 "count_kept" ["steps", "p", "q"] (sp_count_kept K a)) (U_name_edits : Use P w K mg base 1 "name_edits" ["names"] (sp_name_edits K a)) (U_old_length : Use P w K mg base 1 "old_length" ["steps"] (sp_old_length K a)) : UseM P w K mg base a.k_Held 4 "call_stretch" ["self", "r", "p", "q", "grows"] (sp_Held_call_stretch K a) := by
  obtain ⟨f, fd, F, mf, bf⟩ := D
  obtain ⟨f_carried_stretch, fd_carried_stretch, g_carried_stretch, k_carried_stretch, b_carried_stretch, G_carried_stretch⟩ := U_carried_stretch
  obtain ⟨f_is_stretch, fd_is_stretch, g_is_stretch, k_is_stretch, b_is_stretch, G_is_stretch⟩ := U_is_stretch
  obtain ⟨f_count_kept, fd_count_kept, g_count_kept, k_count_kept, b_count_kept, G_count_kept⟩ := U_count_kept
  obtain ⟨f_name_edits, fd_name_edits, g_name_edits, k_name_edits, b_name_edits, G_name_edits⟩ := U_name_edits
  obtain ⟨f_old_length, fd_old_length, g_old_length, k_old_length, b_old_length, G_old_length⟩ := U_old_length
  refine ⟨f, fd, mf, bf, F.ok (k := 3) sc_Held_call_stretch (fun vs H Q E h => h.len) (fun cdv A outer s H vs Q E hr h => ?_)⟩
  refine ⟨_, (pss_cons (ps_if (PW.pt (pw_or (pt_not (pt_val (pe_call G_name_edits (hr.mono (by decide)) rfl g_name_edits k_name_edits b_name_edits .nil pass0 (pa_cons (pe_lst (pa_cons (pv 1) pa_nil)) pa_nil)))) (pw_or (pt_cmpR op_lt (pv 4) pe_int (nomark _)) (pw_or1 (pt_cmpR op_gt (pv 4) pe_int (nomark _)))))) (pss_one (ps_ret (pe_lst (pa_cons (pe_un un_neg pe_int) pa_nil)))) pss_nil)
       (pss_cons (ps_set (i := 5) sc_Held_call_stretch.nd rfl (Or.inl rfl) (pe_ix (ix_list : IxR _ (rIxL K)) (pe_fld (pv 0) rfl) (pv 1) (fun _ _ => rfl)))
       (pss_cons (ps_if (pt_not (pt_val (pe_call G_is_stretch (hr.mono (by decide)) rfl g_is_stretch k_is_stretch b_is_stretch .nil pass0 (pa_cons (pv 2) (pa_cons (pv 3) (pa_cons (pe_call G_old_length (hr.mono (by decide)) rfl g_old_length k_old_length b_old_length .nil pass0 (pa_cons (pv 5) pa_nil)) pa_nil)))))) (pss_one (ps_ret (pe_lst (pa_cons (pe_un un_neg pe_int) pa_nil)))) pss_nil)
       (pss_cons (ps_set (i := 6) sc_Held_call_stretch.nd rfl (Or.inl rfl) (pe_call G_carried_stretch (hr.mono (by decide)) rfl g_carried_stretch k_carried_stretch b_carried_stretch .nil pass0 (pa_cons (pv 5) (pa_cons (pv 2) (pa_cons (pv 3) (pa_cons (pe_cmpR (op_in_seq : OpR _ (compareOp .In) (rIn K false)) (pv 4) (pe_tup (pa_cons pe_int (pa_cons pe_int pa_nil))) rfl) (pa_cons (pe_cmpR (op_in_seq : OpR _ (compareOp .In) (rIn K false)) (pv 4) (pe_tup (pa_cons pe_int (pa_cons pe_int pa_nil))) rfl) pa_nil)))))))
       (pss_one (ps_ret (pe_lst (pa_cons (pe_ix (ix_tup : IxR _ (rIxT K)) (pv 6) pe_int (fun _ _ => rfl)) (pa_cons (pe_ix (ix_tup : IxR _ (rIxT K)) (pv 6) pe_int (fun _ _ => rfl)) (pa_cons (pe_call G_count_kept (hr.mono (by decide)) rfl g_count_kept k_count_kept b_count_kept .nil pass0 (pa_cons (pv 5) (pa_cons (pv 2) (pa_cons (pv 3) pa_nil)))) pa_nil)))))))))), ?_⟩
  obtain ⟨v0, v1, v2, v3, v4, rfl, h⟩ := h
  obtain ⟨x, ae, s, r, z1, z2, g', rfl, hH, hG, rfl, rfl, rfl, rfl, k⟩ := h
  have er : ∀ H', EvB (tOr (tTest (tOp (rI0 fun i j => .bl (decide (i < j))) (tVar 4) (tC (.int 0)))) (tTest (tOp (rI0 fun i j => .bl (decide (j < i))) (tVar 4) (tC (.int 3))))) [some (.ref x), some (.int r), some (.int z1), some (.int z2), some (.int g'), none, none] H' (decide (g' < 0) || decide (3 < g')) :=
    fun H' => ev_or (ev_test (ev_lt (ev_var rfl) ev_c)) fun _ => ev_test (ev_gt (ev_var rfl) ev_c)
  refine ⟨_, rfl, sz1, fun n hn => ⟨_, rfl, n, [r], rfl, upd_same, by show 1 ≤ 1000; decide, fun H1 s0' => ⟨_, rfl, ?_⟩⟩⟩
  have s1 := (Same.new (o := .lst [V.int r]) hn).trans s0'
  have hH1 := hH.mono s1
  have k1 := k.mono hH s1
  rw [one_name]
  refine iteB (fun c => ?_) fun c => ?_
  · have e1 : Vatrkj.look s (.stretch r z1 z2 g') = .refused 2 := if_neg (by rw [not_t c]; decide)
    rw [e1] at k1
    exact iteT ⟨_, rfl, sz1, fun q hq => k1.no hH1 hG (Same.refl _) hq rfl⟩
  have hn' := not_f c
  have e0 : Vatrkj.look s (.stretch r z1 z2 g') = Vatrkj.stepStretch (Vatrkj.edit s r) z1 z2 g' := if_pos hn'
  rw [e0] at k1
  have ew : Vatrkj.within g' 0 3 = (decide (0 ≤ g') && decide (g' ≤ 3)) := rfl
  refine ev_if (er H1) (fun d => ?_) fun d => ?_
  · have e1 : Vatrkj.stepStretch (Vatrkj.edit s r) z1 z2 g' = .refused 2 := by
      refine if_pos ?_
      rw [Bool.or_eq_true, decide_eq_true_eq, decide_eq_true_eq] at d
      rw [ew, Bool.and_eq_false_iff, decide_eq_false_iff_not, decide_eq_false_iff_not]
      omega
    rw [e1] at k1
    exact ⟨_, rfl, sz1, fun q hq => k1.no hH1 hG (Same.refl _) hq rfl⟩
  rw [Bool.or_eq_false_iff, decide_eq_false_iff_not, decide_eq_false_iff_not] at d
  have es : Vatrkj.stepStretch (Vatrkj.edit s r) z1 z2 g' = if (decide (0 ≤ z1) && (decide (z1 ≤ z2) && decide (z2 ≤ (Vatrkj.oldLength (Vatrkj.edit s r) : Int)))) = false then .refused 1 else .told [(Vatrkj.carried (Vatrkj.edit s r) z1.toNat z2.toNat g'.toNat).1, (Vatrkj.carried (Vatrkj.edit s r) z1.toNat z2.toNat g'.toNat).2, cnt (Vatrkj.edit s r) z1.toNat z2.toNat] := by
    refine if_neg ?_
    rw [ew, Bool.and_eq_false_iff, decide_eq_false_iff_not, decide_eq_false_iff_not]
    omega
  obtain ⟨p, ep, hE⟩ := ev_edit (σ := [some (.ref x), some (.int r), some (.int z1), some (.int z2), some (.int g'), none, none]) (ta := tVar 0) (tb := tVar 1) T (ev_var rfl) (ev_var rfl) hH1 hn'
  have hb := hG.edit hn'
  refine ep _ ?_
  refine ⟨_, rfl, _, rfl, _, rfl, _, rfl, p, _, rfl, hE, by omega, fun H2 s2 => ⟨_, _, _, rfl, z1, z2, _, rfl, rfl, rfl, _, rfl, ?_⟩⟩
  refine iteB (fun c1 => ?_) fun c1 => ?_
  · rw [if_pos (not_t c1)] at es
    rw [es] at k1
    have k2 := k1.mono hH1 s2
    exact ⟨_, rfl, sz1, fun q hq => k2.no (hH1.mono s2) hG (Same.refl _) hq rfl⟩
  have c1' := not_f c1
  rw [if_neg (by rw [c1']; decide)] at es
  rw [es] at k1
  rw [Bool.and_eq_true, Bool.and_eq_true, decide_eq_true_eq, decide_eq_true_eq, decide_eq_true_eq] at c1'
  refine ⟨_, rfl, _, rfl, _, rfl, _, rfl, sz2, fun b1 hb1 => ⟨b1, _, rfl, .inr (SqT.of upd_same), rfl, rfl, ?_⟩⟩
  refine ⟨_, rfl, sz2, fun b2 hb2 => ⟨b2, _, rfl, .inr (SqT.of upd_same), rfl, rfl, ?_⟩⟩
  have t1 := Same.new (o := .tup [V.int 1, V.int 3]) hb1
  have t2 := Same.new (o := .tup [V.int 2, V.int 3]) hb2
  have S2 := s2.trans (t1.trans t2)
  refine ⟨_, _, _, _, _, rfl, p, _, z1.toNat, z2.toNat, _, _, rfl, hE.mono S2, by omega, nat_int (by omega), nat_int (by omega), rfl, rfl, fun H3 t s3 ht => ?_⟩
  have e13 : (if false = true then !inV (.int g') [.int 1, .int 3] else inV (.int g') [.int 1, .int 3]) = decide (g'.toNat = 1 ∨ g'.toNat = 3) := in13 (by omega) (by omega)
  have e23 : (if false = true then !inV (.int g') [.int 2, .int 3] else inV (.int g') [.int 2, .int 3]) = decide (g'.toNat = 2 ∨ g'.toNat = 3) := in23 (by omega) (by omega)
  rw [e13, e23, cr_is] at ht
  refine ev_ixT (K := K) (ev_var rfl) ev_c (SqT.of ht) (v := .int ((Vatrkj.carried (Vatrkj.edit s r) z1.toNat z2.toNat g'.toNat).1 : Nat)) rfl _ ?_
  refine ev_ixT (K := K) (ev_var rfl) ev_c (SqT.of ht) (v := .int ((Vatrkj.carried (Vatrkj.edit s r) z1.toNat z2.toNat g'.toNat).2 : Nat)) rfl _ ?_
  refine ⟨_, rfl, _, rfl, _, rfl, _, _, _, rfl, p, _, z1.toNat, z2.toNat, rfl, (hE.mono S2).mono s3, by omega, nat_int (by omega), nat_int (by omega), fun H4 s4 => ⟨sz3, fun q hq => ?_⟩⟩
  have S := (S2.trans s3).trans s4
  exact k1.yes (hH1.mono S) hG (Keeps.of hH1 S) hq rfl
theorem flat_is : ∀ rs : List (Nat × Nat × Nat), (rs.flatMap fun x => [x.1, x.2.1, x.2.2]).map Int.ofNat = rs.flatMap tI
  | [] => rfl
  | x :: rs => by
    rw [List.flatMap_cons, List.flatMap_cons, List.map_append, flat_is rs]; rfl
theorem flat_len : ∀ rs : List (Nat × Nat × Nat), (rs.flatMap tI).length = 3 * rs.length
  | [] => rfl
  | x :: rs => by
    rw [List.flatMap_cons, List.length_append, flat_len rs, List.length_cons]
    show 3 + _ = _
    omega
def sp_Held_call_kept (K : PySem.W.Frag) (a : Ad) : Sp := sp2 fun v0 v1 H Q => ∃ (x ae : Addr) (s : Vatrkj.State) (r : Int), v0 = .ref x ∧ HeldAt a.k_Held x ae H s ∧ Good s ∧ v1 = .int r ∧ Left a.k_Held x ae H (s, Vatrkj.look s (.kept r)) Q
theorem use_Held_call_kept {P : Program} {w : World} {K : PySem.W.Frag} {mg : Str → Option Value} {base : Heap} {a : Ad} (T : Txt K mg a) (D : DfnM K a.k_Held "call_kept" "Held.call_kept" s_Held_call_kept ["self", "r"]) (U_kept_stretches : Use P w K mg base 2 "kept_stretches" ["steps"] (sp_kept_stretches K a)) (U_name_edits : Use P w K mg base 1 "name_edits" ["names"] (sp_name_edits K a)) : UseM P w K mg base a.k_Held 3 "call_kept" ["self", "r"] (sp_Held_call_kept K a) := by
  obtain ⟨f, fd, F, mf, bf⟩ := D
  obtain ⟨f_kept_stretches, fd_kept_stretches, g_kept_stretches, k_kept_stretches, b_kept_stretches, G_kept_stretches⟩ := U_kept_stretches
  obtain ⟨f_name_edits, fd_name_edits, g_name_edits, k_name_edits, b_name_edits, G_name_edits⟩ := U_name_edits
  refine ⟨f, fd, mf, bf, F.ok (k := 2) sc_Held_call_kept (fun vs H Q E h => h.len) (fun cdv A outer s H vs Q E hr h => ?_)⟩
  refine ⟨_, (pss_cons (ps_if (pt_not (pt_val (pe_call G_name_edits (hr.mono (by decide)) rfl g_name_edits k_name_edits b_name_edits .nil pass0 (pa_cons (pe_lst (pa_cons (pv 1) pa_nil)) pa_nil)))) (pss_one (ps_ret (pe_lst (pa_cons (pe_un un_neg pe_int) pa_nil)))) pss_nil)
       (pss_cons (ps_set (i := 2) sc_Held_call_kept.nd rfl (Or.inl rfl) (pe_call G_kept_stretches (hr.mono (by decide)) rfl g_kept_stretches k_kept_stretches b_kept_stretches .nil pass0 (pa_cons (pe_ix (ix_list : IxR _ (rIxL K)) (pe_fld (pv 0) rfl) (pv 1) (fun _ _ => rfl)) pa_nil)))
       (pss_cons (ps_set (i := 3) sc_Held_call_kept.nd rfl (Or.inl rfl) (pe_lst (pa_cons (pe_callB call_len_seq rfl T.n_len PySem.boot_len (pa_cons (pv 2) pa_nil)) pa_nil)))
       (pss_cons (ps_for PassesOwn.never rfl (pi_list (pv 2)) (pg_name (i := 4) sc_Held_call_kept.nd rfl (Or.inl rfl)) (pss_one (ps_expr (pe_bm PySem.F.plainAttrs_list PySem.F.slot_list_extend PySem.F.type_list_extend mt_extendT (pv 3) (pa_cons (pv 4) pa_nil)))))
       (pss_one (ps_ret (pv 3))))))), ?_⟩
  obtain ⟨v0, v1, rfl, h⟩ := h
  obtain ⟨x, ae, s, r, rfl, hH, hG, rfl, k⟩ := h
  refine ⟨_, rfl, sz1, fun n hn => ⟨_, rfl, n, [r], rfl, upd_same, by show 1 ≤ 1000; decide, fun H1 s0' => ⟨_, rfl, ?_⟩⟩⟩
  have s1 := (Same.new (o := .lst [V.int r]) hn).trans s0'
  have hH1 := hH.mono s1
  have k1 := k.mono hH s1
  rw [one_name]
  refine iteB (fun c => ?_) fun c => ?_
  · have e1 : Vatrkj.look s (.kept r) = .refused 2 := if_neg (by rw [not_t c]; decide)
    rw [e1] at k1
    exact ⟨_, rfl, sz1, fun q hq => k1.no hH1 hG (Same.refl _) hq rfl⟩
  have hn' := not_f c
  have e1 : Vatrkj.look s (.kept r) = .told ((Vatrkj.keptRuns (Vatrkj.kept (Vatrkj.edit s r))).length :: (Vatrkj.keptRuns (Vatrkj.kept (Vatrkj.edit s r))).flatMap fun x => [x.1, x.2.1, x.2.2]) := if_pos hn'
  rw [e1] at k1
  obtain ⟨p, ep, hE⟩ := ev_edit (σ := [some (.ref x), some (.int r), none, none, none]) (ta := tVar 0) (tb := tVar 1) T (ev_var rfl) (ev_var rfl) hH1 hn'
  have hb := hG.edit hn'
  refine ep _ ⟨_, rfl, p, _, rfl, hE, by omega, fun H2 q s2 _ hrl ⟨vs, hv, rv⟩ => ?_⟩
  generalize Vatrkj.keptRuns (Vatrkj.kept (Vatrkj.edit s r)) = R at k1 hrl rv
  have lv := rv.length
  rw [List.length_map] at lv
  refine ⟨_, rfl, q, vs, rfl, .inl (SqL.of hv), sz1, fun M hM => ?_⟩
  have sM := Same.new (o := .lst [V.int (vs.length : Nat)]) hM
  refine ⟨_, rfl, q, rfl, ⟨_, SqL.of (sM _ _ hv)⟩, for_list (K := K) (a := q) (xs := vs) (fun i σ H' => ∃ (v : Option V), σ = [some (.ref x), some (.int r), some (.ref q), some (.ref M), v] ∧ Same H2 H' ∧ H' M = some (.lst (((R.length : Int) :: (R.take i).flatMap tI).map V.int))) ⟨none, rfl, sM, by rw [upd_same, lv]; rfl⟩ (fun i σ H' _ ⟨_, _, s, _⟩ => SqL.of (s _ _ hv)) ?_ ?_⟩
  · rintro i z σ H' hi ⟨v, rfl, s', ha⟩
    obtain ⟨u, r', rfl, hri, hu⟩ := (rv.mono s').get' hi
    obtain ⟨y, hy, rfl⟩ := map_get hri
    have hi' := ix_lt hy
    refine ⟨_, rfl, .inl ⟨rfl, _, SqL.of ha⟩, _, rfl, M, u, _, _, rfl, rfl, ha, hu, le_size ?_, ?_⟩
    · rw [List.length_map, List.length_cons, flat_len, List.length_take, List.length_map]
      show _ + 1 + 3 ≤ _
      omega
    refine ⟨some (.ref u), rfl, s'.upd hM, ?_⟩
    rw [upd_same, take_more hy, List.flatMap_append, ← List.map_append]
    simp
  · rintro σ H' ⟨v, rfl, s', ha⟩
    rw [lv, List.take_length] at ha
    refine ⟨_, rfl, ?_⟩
    have S := s2.trans s'
    refine k1 H' M (hH1.mono S) hG (Keeps.of hH1 S) (s2.free hM) ?_
    rw [ha]
    show _ = some (HO.lst (((R.length :: R.flatMap fun x => [x.1, x.2.1, x.2.2]).map Int.ofNat).map V.int))
    rw [List.map_cons (f := Int.ofNat), flat_is]
    rfl
/-! ### the calls that make an edit -/
theorem repl_len (t u : Text) {n m : Nat} (h : n ≤ m) (h2 : m ≤ t.length) : (repl t u n m).length = t.length + u.length := by
  unfold repl
  rw [List.length_append, List.length_append, List.length_append, List.length_replicate, List.length_replicate, List.length_map, List.length_map, List.length_drop, List.length_take]
  omega
theorem repl_old (t u : Text) {n m : Nat} (h : n ≤ m) (h2 : m ≤ t.length) : Vatrkj.oldLength (repl t u n m) = t.length := by
  unfold repl
  rw [oldLength_append, oldLength_append, oldLength_append, old_rep .keep rfl, old_rep .keep rfl, (old_put u).1, (old_drop _).1, List.length_drop, List.length_take]
  omega
theorem rept_len (t : Text) (g : Nat) {n m : Nat} (h : n ≤ m) (h2 : m ≤ t.length) : (rept t n m g).length = t.length := by
  unfold rept
  rw [List.length_append, List.length_append, List.length_replicate, List.length_replicate, List.length_map, List.length_drop, List.length_take]
  omega
theorem len_two (e : Edit) : Vatrkj.oldLength e ≤ e.length ∧ Vatrkj.newLength e ≤ e.length := ⟨List.length_filter_le .., List.length_filter_le ..⟩
def sp_Held_call_replace (K : PySem.W.Frag) (a : Ad) : Sp := sp5 fun v0 v1 v2 v3 v4 H Q => ∃ (x ae pr : Addr) (s : Vatrkj.State) (t p q : Int) (l : List Int), v0 = .ref x ∧ HeldAt a.k_Held x ae H s ∧ Good s ∧ v1 = .int t ∧ v2 = .int p ∧ v3 = .int q ∧ v4 = .ref pr ∧ Is K H pr l ∧ l.length ≤ 16000 ∧ Left a.k_Held x ae H (Vatrkj.stepReplace s t p q l) Q
theorem use_Held_call_replace {P : Program} {w : World} {K : PySem.W.Frag} {mg : Str → Option Value} {base : Heap} {a : Ad} (T : Txt K mg a) (D : DfnM K a.k_Held "call_replace" "Held.call_replace" s_Held_call_replace ["self", "t", "p", "q", "row"]) (U_letters_told : Use P w K mg base 2 "letters_told" ["numbers"] (sp_letters_told K a)) (U_replacing : Use P w K mg base 1 "replacing" ["text", "p", "q", "letters"] (sp_replacing K a)) (U_Held_hold : UseM P w K mg base a.k_Held 2 "hold" ["self", "t", "steps"] (sp_Held_hold K a)) (U_name_edits : Use P w K mg base 1 "name_edits" ["names"] (sp_name_edits K a)) (U_is_stretch : Use P w K mg base 1 "is_stretch" ["p", "q", "length"] (sp_is_stretch K a)) (U_new_length : Use P w K mg base 1 "new_length" ["steps"] (sp_new_length K a)) : UseM P w K mg base a.k_Held 3 "call_replace" ["self", "t", "p", "q", "row"] (sp_Held_call_replace K a) := by
  obtain ⟨f, fd, F, mf, bf⟩ := D
  obtain ⟨f_letters_told, fd_letters_told, g_letters_told, k_letters_told, b_letters_told, G_letters_told⟩ := U_letters_told
  obtain ⟨f_replacing, fd_replacing, g_replacing, k_replacing, b_replacing, G_replacing⟩ := U_replacing
  obtain ⟨f_Held_hold, fd_Held_hold, m_Held_hold, b_Held_hold, G_Held_hold⟩ := U_Held_hold
  obtain ⟨f_name_edits, fd_name_edits, g_name_edits, k_name_edits, b_name_edits, G_name_edits⟩ := U_name_edits
  obtain ⟨f_is_stretch, fd_is_stretch, g_is_stretch, k_is_stretch, b_is_stretch, G_is_stretch⟩ := U_is_stretch
  obtain ⟨f_new_length, fd_new_length, g_new_length, k_new_length, b_new_length, G_new_length⟩ := U_new_length
  refine ⟨f, fd, mf, bf, F.ok (k := 2) sc_Held_call_replace (fun vs H Q E h => h.len) (fun cdv A outer s H vs Q E hr h => ?_)⟩
  refine ⟨_, (pss_cons (ps_if (pt_not (pt_val (pe_call G_name_edits (hr.mono (by decide)) rfl g_name_edits k_name_edits b_name_edits .nil pass0 (pa_cons (pe_lst (pa_cons (pv 1) pa_nil)) pa_nil)))) (pss_one (ps_ret (pe_lst (pa_cons (pe_un un_neg pe_int) pa_nil)))) pss_nil)
       (pss_cons (ps_if (pt_not (pt_val (pe_call G_is_stretch (hr.mono (by decide)) rfl g_is_stretch k_is_stretch b_is_stretch .nil pass0 (pa_cons (pv 2) (pa_cons (pv 3) (pa_cons (pe_callB call_len_seq rfl T.n_len PySem.boot_len (pa_cons (pe_fld (pv 0) rfl) pa_nil)) pa_nil)))))) (pss_one (ps_ret (pe_lst (pa_cons (pe_un un_neg pe_int) pa_nil)))) pss_nil)
       (pss_cons (ps_set (i := 5) sc_Held_call_replace.nd rfl (Or.inl rfl) (pe_call G_letters_told (hr.mono (by decide)) rfl g_letters_told k_letters_told b_letters_told .nil pass0 (pa_cons (pv 4) pa_nil)))
       (pss_cons (ps_if (pt_cmpR op_isN (pv 5) pe_non (nomark _)) (pss_one (ps_ret (pe_lst (pa_cons (pe_un un_neg pe_int) pa_nil)))) pss_nil)
       (pss_cons (ps_set (i := 6) sc_Held_call_replace.nd rfl (Or.inl rfl) (pe_call G_replacing (hr.mono (by decide)) rfl g_replacing k_replacing b_replacing .nil pass0 (pa_cons (pe_fld (pv 0) rfl) (pa_cons (pv 2) (pa_cons (pv 3) (pa_cons (pv 5) pa_nil))))))
       (pss_cons (ps_if (pt_cmpR op_gt (pe_call G_new_length (hr.mono (by decide)) rfl g_new_length k_new_length b_new_length .nil pass0 (pa_cons (pv 6) pa_nil)) (pe_glob (v := .int 2000) rfl T.c_MOST ⟨_, rfl⟩) (nomark _)) (pss_one (ps_ret (pe_lst (pa_cons (pe_un un_neg pe_int) pa_nil)))) pss_nil)
       (pss_one (ps_ret (pe_meth (pv 0) T.cl_Held m_Held_hold G_Held_hold (hr.mono (by decide)) b_Held_hold .nil pass0 (pa_cons (pv 1) (pa_cons (pv 6) pa_nil))))))))))), ?_⟩
  obtain ⟨v0, v1, v2, v3, v4, rfl, h⟩ := h
  obtain ⟨x, ae, pr, s, t', z1, z2, l, rfl, hH, hG, rfl, rfl, rfl, rfl, hI, hl, k⟩ := h
  refine ⟨_, rfl, sz1, fun n hn => ⟨_, rfl, n, [t'], rfl, upd_same, by show 1 ≤ 1000; decide, fun H1 s0' => ⟨_, rfl, ?_⟩⟩⟩
  have s1 := (Same.new (o := .lst [V.int t']) hn).trans s0'
  have hH1 := hH.mono s1
  have k1 := k.mono hH s1
  have hI1 := hI.mono s1
  rw [one_name]
  refine iteB (fun c => ?_) fun c => ?_
  · have e1 : Vatrkj.stepReplace s t' z1 z2 l = (s, .refused 2) := if_pos (not_t c)
    rw [e1] at k1
    exact ⟨_, rfl, sz1, fun q hq => k1.no hH1 hG (Same.refl _) hq rfl⟩
  have hn' := not_f c
  have es : Vatrkj.stepReplace s t' z1 z2 l = if (decide (0 ≤ z1) && (decide (z1 ≤ z2) && decide (z2 ≤ (s.text.length : Int)))) = false then (s, .refused 1) else match Vatrkj.lettersOf l with
    | none => (s, .refused 4)
    | some new => if 2000 < Vatrkj.newLength (repl s.text new z1.toNat z2.toNat) then (s, .refused 5) else Vatrkj.holds s t' (repl s.text new z1.toNat z2.toNat) := if_neg (by rw [hn']; decide)
  obtain ⟨t0, et, hT⟩ := ev_text (σ := [some (.ref x), some (.int t'), some (.int z1), some (.int z2), some (.ref pr), none, none]) (ta := tVar 0) T (ev_var rfl) hH1
  have hT0 := hT
  obtain ⟨us, hus, ru⟩ := hT0
  have lu := ru.length
  rw [List.length_map] at lu
  have htx := hG.txt
  refine ⟨_, rfl, _, rfl, et _ ⟨t0, us, rfl, .inl (SqL.of hus), _, _, _, rfl, z1, z2, _, rfl, rfl, rfl, _, rfl, ?_⟩⟩
  rw [lu]
  refine iteB (fun c1 => ?_) fun c1 => ?_
  · rw [if_pos (not_t c1)] at es
    rw [es] at k1
    exact ⟨_, rfl, sz1, fun q hq => k1.no hH1 hG (Same.refl _) hq rfl⟩
  have c1' := not_f c1
  rw [if_neg (by rw [c1']; decide)] at es
  rw [Bool.and_eq_true, Bool.and_eq_true, decide_eq_true_eq, decide_eq_true_eq, decide_eq_true_eq] at c1'
  refine ⟨_, rfl, _, rfl, pr, l, rfl, hI1, hl, fun H2 v s2 hv => ?_⟩
  have hH2 := hH1.mono s2
  have k2 := k1.mono hH1 s2
  refine ⟨_, rfl, rfl, _, rfl, ?_⟩
  cases e : Vatrkj.lettersOf l with
  | none =>
    rw [e] at hv es
    obtain rfl : v = .non := hv
    have e1 : Vatrkj.stepReplace s t' z1 z2 l = (s, .refused 4) := es
    rw [e1] at k2
    exact iteP rfl ⟨_, rfl, sz1, fun q hq => k2.no hH2 hG (Same.refl _) hq rfl⟩
  | some new =>
    rw [e] at hv es
    have es' : Vatrkj.stepReplace s t' z1 z2 l = if 2000 < Vatrkj.newLength (repl s.text new z1.toNat z2.toNat) then (s, .refused 5) else Vatrkj.holds s t' (repl s.text new z1.toNat z2.toNat) := es
    have hnl := lettersOf_len l new e
    obtain ⟨u, rfl, nu, hu⟩ := hv
    refine iteN (by intro z; cases z) ?_
    obtain ⟨dx2, t2, h2x, hT2⟩ := hH2.ins
    refine ⟨_, rfl, x, a.k_Held, dx2, _, _, rfl, h2x, T.cl_Held, T.na_Held_text, hF_text _ _, _, rfl, _, rfl, _, rfl, _, _, _, _, rfl, t2, u, s.text, new, z1.toNat, z2.toNat, rfl, hT2, htx, nat_int (by omega), nat_int (by omega), by omega, by omega, rfl, hu, by omega, fun H3 b s3 nb hE => ?_⟩
    have hrl := repl_len s.text new (n := z1.toNat) (m := z2.toNat) (by omega) (by omega)
    have hro := repl_old s.text new (n := z1.toNat) (m := z2.toNat) (by omega) (by omega)
    refine ⟨_, rfl, _, rfl, b, _, rfl, hE, by omega, fun H4 s4 => ⟨_, _, rfl, rfl, _, rfl, iteB (fun c2 => ?_) fun c2 => ?_⟩⟩
    · have c2' := of_decide_eq_true c2
      rw [if_pos (by omega)] at es'
      rw [es'] at k2
      have k4 := (k2.mono hH2 s3).mono (hH2.mono s3) s4
      exact ⟨_, rfl, sz1, fun q hq => k4.no ((hH2.mono s3).mono s4) hG (Same.refl _) hq rfl⟩
    have c2' := of_decide_eq_false c2
    rw [if_neg (by omega)] at es'
    rw [es'] at k2
    have S := s3.trans s4
    have hH4 := hH2.mono S
    obtain ⟨dx, at', h1, _⟩ := hH4.ins
    refine ⟨_, rfl, x, dx, _, rfl, h1, hF_none (by decide +kernel) (by decide +kernel), _, rfl, _, rfl, ?_⟩
    refine ⟨_, _, _, rfl, x, ae, b, s, t', _, rfl, hH4, rfl, hn', rfl, hE.mono s4, by omega, fun H' q hH' kp mv nq hq => ?_⟩
    exact k2 H' q hH' (hG.put (by omega) (by omega)) (Keeps.held hH2 S nb kp mv) (S.free nq) hq
def sp_Held_call_repaint (K : PySem.W.Frag) (a : Ad) : Sp := sp5 fun v0 v1 v2 v3 v4 H Q => ∃ (x ae : Addr) (s : Vatrkj.State) (t p q g : Int), v0 = .ref x ∧ HeldAt a.k_Held x ae H s ∧ Good s ∧ v1 = .int t ∧ v2 = .int p ∧ v3 = .int q ∧ v4 = .int g ∧ Left a.k_Held x ae H (Vatrkj.stepRepaint s t p q g) Q
theorem use_Held_call_repaint {P : Program} {w : World} {K : PySem.W.Frag} {mg : Str → Option Value} {base : Heap} {a : Ad} (T : Txt K mg a) (D : DfnM K a.k_Held "call_repaint" "Held.call_repaint" s_Held_call_repaint ["self", "t", "p", "q", "g"]) (U_Held_hold : UseM P w K mg base a.k_Held 2 "hold" ["self", "t", "steps"] (sp_Held_hold K a)) (U_is_stretch : Use P w K mg base 1 "is_stretch" ["p", "q", "length"] (sp_is_stretch K a)) (U_repainting : Use P w K mg base 2 "repainting" ["text", "p", "q", "g"] (sp_repainting K a)) (U_name_edits : Use P w K mg base 1 "name_edits" ["names"] (sp_name_edits K a)) (U_is_look : Use P w K mg base 1 "is_look" ["number"] (sp_is_look K a)) : UseM P w K mg base a.k_Held 3 "call_repaint" ["self", "t", "p", "q", "g"] (sp_Held_call_repaint K a) := by
  obtain ⟨f, fd, F, mf, bf⟩ := D
  obtain ⟨f_Held_hold, fd_Held_hold, m_Held_hold, b_Held_hold, G_Held_hold⟩ := U_Held_hold
  obtain ⟨f_is_stretch, fd_is_stretch, g_is_stretch, k_is_stretch, b_is_stretch, G_is_stretch⟩ := U_is_stretch
  obtain ⟨f_repainting, fd_repainting, g_repainting, k_repainting, b_repainting, G_repainting⟩ := U_repainting
  obtain ⟨f_name_edits, fd_name_edits, g_name_edits, k_name_edits, b_name_edits, G_name_edits⟩ := U_name_edits
  obtain ⟨f_is_look, fd_is_look, g_is_look, k_is_look, b_is_look, G_is_look⟩ := U_is_look
  refine ⟨f, fd, mf, bf, F.ok (k := 2) sc_Held_call_repaint (fun vs H Q E h => h.len) (fun cdv A outer s H vs Q E hr h => ?_)⟩
  refine ⟨_, (pss_cons (ps_if (PW.pt (pw_or (pt_not (pt_val (pe_call G_name_edits (hr.mono (by decide)) rfl g_name_edits k_name_edits b_name_edits .nil pass0 (pa_cons (pe_lst (pa_cons (pv 1) pa_nil)) pa_nil)))) (pw_or1 (pt_not (pt_val (pe_call G_is_look (hr.mono (by decide)) rfl g_is_look k_is_look b_is_look .nil pass0 (pa_cons (pv 4) pa_nil))))))) (pss_one (ps_ret (pe_lst (pa_cons (pe_un un_neg pe_int) pa_nil)))) pss_nil)
       (pss_cons (ps_if (pt_not (pt_val (pe_call G_is_stretch (hr.mono (by decide)) rfl g_is_stretch k_is_stretch b_is_stretch .nil pass0 (pa_cons (pv 2) (pa_cons (pv 3) (pa_cons (pe_callB call_len_seq rfl T.n_len PySem.boot_len (pa_cons (pe_fld (pv 0) rfl) pa_nil)) pa_nil)))))) (pss_one (ps_ret (pe_lst (pa_cons (pe_un un_neg pe_int) pa_nil)))) pss_nil)
       (pss_one (ps_ret (pe_meth (pv 0) T.cl_Held m_Held_hold G_Held_hold (hr.mono (by decide)) b_Held_hold .nil pass0 (pa_cons (pv 1) (pa_cons (pe_call G_repainting (hr.mono (by decide)) rfl g_repainting k_repainting b_repainting .nil pass0 (pa_cons (pe_fld (pv 0) rfl) (pa_cons (pv 2) (pa_cons (pv 3) (pa_cons (pv 4) pa_nil))))) pa_nil))))))), ?_⟩
  obtain ⟨v0, v1, v2, v3, v4, rfl, h⟩ := h
  obtain ⟨x, ae, s, t', z1, z2, g', rfl, hH, hG, rfl, rfl, rfl, rfl, k⟩ := h
  refine ⟨_, rfl, sz1, fun n hn => ⟨_, rfl, n, [t'], rfl, upd_same, by show 1 ≤ 1000; decide, fun H1 s0' => ⟨_, rfl, ?_⟩⟩⟩
  have s1 := (Same.new (o := .lst [V.int t']) hn).trans s0'
  have hH1 := hH.mono s1
  have k1 := k.mono hH s1
  rw [one_name]
  have ew : Vatrkj.within g' 0 99 = Vatrkj.isLook g' := rfl
  refine iteB (fun c => ?_) fun c => ?_
  · have e1 : Vatrkj.stepRepaint s t' z1 z2 g' = (s, .refused 2) := if_pos (by rw [not_t c, Bool.false_and])
    rw [e1] at k1
    exact iteT ⟨_, rfl, sz1, fun q hq => k1.no hH1 hG (Same.refl _) hq rfl⟩
  have hn' := not_f c
  refine ⟨_, rfl, _, rfl, g', rfl, _, rfl, iteB (fun d => ?_) fun d => ?_⟩
  · have e1 : Vatrkj.stepRepaint s t' z1 z2 g' = (s, .refused 2) := if_pos (by rw [ew, not_t d, Bool.and_false])
    rw [e1] at k1
    exact ⟨_, rfl, sz1, fun q hq => k1.no hH1 hG (Same.refl _) hq rfl⟩
  have d' := not_f d
  have es : Vatrkj.stepRepaint s t' z1 z2 g' = if (decide (0 ≤ z1) && (decide (z1 ≤ z2) && decide (z2 ≤ (s.text.length : Int)))) = false then (s, .refused 1) else Vatrkj.holds s t' (((List.range s.text.length).zip s.text).map (Vatrkj.repaintStep z1.toNat z2.toNat g'.toNat)) := if_neg (by rw [ew, hn', d']; decide)
  obtain ⟨t0, et, hT⟩ := ev_text (σ := [some (.ref x), some (.int t'), some (.int z1), some (.int z2), some (.int g')]) (ta := tVar 0) T (ev_var rfl) hH1
  have hT0 := hT
  obtain ⟨us, hus, ru⟩ := hT0
  have lu := ru.length
  rw [List.length_map] at lu
  have htx := hG.txt
  refine ⟨_, rfl, _, rfl, et _ ⟨t0, us, rfl, .inl (SqL.of hus), _, _, _, rfl, z1, z2, _, rfl, rfl, rfl, _, rfl, ?_⟩⟩
  rw [lu]
  refine iteB (fun c1 => ?_) fun c1 => ?_
  · rw [if_pos (not_t c1)] at es
    rw [es] at k1
    exact ⟨_, rfl, sz1, fun q hq => k1.no hH1 hG (Same.refl _) hq rfl⟩
  have c1' := not_f c1
  rw [if_neg (by rw [c1']; decide)] at es
  rw [Bool.and_eq_true, Bool.and_eq_true, decide_eq_true_eq, decide_eq_true_eq, decide_eq_true_eq] at c1'
  rw [rept_is (by omega) (by omega)] at es
  rw [es] at k1
  have hg : V.int g' = V.int ((g'.toNat : Nat) : Int) := congrArg V.int (look_nat d').symm
  obtain ⟨dx, at', h1, hT1⟩ := hH1.ins
  refine ⟨_, rfl, x, dx, _, rfl, h1, hF_none (by decide +kernel) (by decide +kernel), _, rfl, ?_⟩
  refine ⟨_, rfl, x, a.k_Held, dx, _, _, rfl, h1, T.cl_Held, T.na_Held_text, hF_text _ _, _, rfl, _, rfl, _, rfl, _, _, _, _, rfl, at', s.text, z1.toNat, z2.toNat, g'.toNat, rfl, hT1, htx, nat_int (by omega), nat_int (by omega), by omega, by omega, hg, fun H2 b s2 nb hE => ?_⟩
  have hrl := rept_len s.text g'.toNat (n := z1.toNat) (m := z2.toNat) (by omega) (by omega)
  have h2 := len_two (rept s.text z1.toNat z2.toNat g'.toNat)
  refine ⟨_, _, _, rfl, x, ae, b, s, t', _, rfl, hH1.mono s2, rfl, hn', rfl, hE, by omega, fun H' q hH' kp mv nq hq => ?_⟩
  exact k1 H' q hH' (hG.put (by omega) (by omega)) (Keeps.held hH1 s2 nb kp mv) (s2.free nq) hq
end Ev

namespace Ev
open PySem PySem.Spec PyProof.Rows L2
open Vatrkj (Letter Edit Text)
/-! ### the walk over the calls -/
/-- the shape of a call, as the table tells it -/
theorem shapes_get {K : PySem.W.Frag} {mg : Str → Option Value} {a : Ad} (T : Txt K mg a) {p : Int} {n k : Nat} (h : PyVatrkj.shape p = some (n, k)) (hp : p ≤ 13) : ∃ sl ad, (∀ H, SqT K H a.a_SHAPES sl) ∧ atI sl p = some (.ref ad) ∧ ∀ H, SqT K H ad [.int n, .bl (decide (k = 1))] := by
  rcases shape_forms h with ⟨rfl, rfl, rfl⟩ | ⟨rfl, rfl, rfl⟩ | ⟨rfl, rfl, rfl⟩ | ⟨rfl, rfl, rfl⟩ | ⟨rfl, rfl, rfl⟩ | ⟨rfl, rfl, rfl⟩ | ⟨rfl, rfl, rfl⟩ | ⟨rfl, rfl, rfl⟩ | ⟨rfl, rfl, rfl⟩ | ⟨rfl, rfl, rfl⟩ | ⟨rfl, rfl, rfl⟩ | ⟨rfl, rfl, rfl⟩ | ⟨rfl, rfl, rfl⟩ | ⟨rfl, rfl, rfl⟩
  · exact ⟨_, _, T.h_SHAPES, rfl, T.h_SHAPES_0⟩
  · exact ⟨_, _, T.h_SHAPES, rfl, T.h_SHAPES_1⟩
  · exact ⟨_, _, T.h_SHAPES, rfl, T.h_SHAPES_2⟩
  · exact ⟨_, _, T.h_SHAPES, rfl, T.h_SHAPES_3⟩
  · exact ⟨_, _, T.h_SHAPES, rfl, T.h_SHAPES_4⟩
  · exact ⟨_, _, T.h_SHAPES, rfl, T.h_SHAPES_5⟩
  · exact ⟨_, _, T.h_SHAPES, rfl, T.h_SHAPES_6⟩
  · exact ⟨_, _, T.h_SHAPES, rfl, T.h_SHAPES_7⟩
  · exact ⟨_, _, T.h_SHAPES, rfl, T.h_SHAPES_8⟩
  · exact ⟨_, _, T.h_SHAPES, rfl, T.h_SHAPES_9⟩
  · exact ⟨_, _, T.h_SHAPES, rfl, T.h_SHAPES_10⟩
  · exact ⟨_, _, T.h_SHAPES, rfl, T.h_SHAPES_11⟩
  · exact ⟨_, _, T.h_SHAPES, rfl, T.h_SHAPES_12⟩
  · exact ⟨_, _, T.h_SHAPES, rfl, T.h_SHAPES_13⟩
def sp_answer_of (K : PySem.W.Frag) (a : Ad) : Sp := sp4 fun v0 v1 v2 v3 H Q => ∃ (x ae pn pr : Addr) (s : Vatrkj.State) (p : Int) (xs l : List Int) (kk : Vatrkj.Call), v0 = .ref x ∧ HeldAt a.k_Held x ae H s ∧ Good s ∧ v1 = .int p ∧ v2 = .ref pn ∧ Is K H pn xs ∧ v3 = .ref pr ∧ Is K H pr l ∧ l.length ≤ 16000 ∧ CallIs p xs l kk ∧ p ≤ 13 ∧ Left a.k_Held x ae H (Vatrkj.step s kk) Q
theorem use_answer_of {P : Program} {w : World} {K : PySem.W.Frag} {mg : Str → Option Value} {base : Heap} {a : Ad} (T : Txt K mg a) (D : Dfn K mg "answer_of" "answer_of" s_answer_of ["held", "call", "numbers", "row"]) (U_Held_call_show : UseM P w K mg base a.k_Held 2 "call_show" ["self"] (sp_Held_call_show K a)) (U_Held_call_text : UseM P w K mg base a.k_Held 3 "call_text" ["self", "row"] (sp_Held_call_text K a)) (U_Held_call_set : UseM P w K mg base a.k_Held 6 "call_set" ["self", "r", "row"] (sp_Held_call_set K a)) (U_Held_call_get : UseM P w K mg base a.k_Held 4 "call_get" ["self", "r"] (sp_Held_call_get K a)) (U_Held_call_apply : UseM P w K mg base a.k_Held 3 "call_apply" ["self", "r"] (sp_Held_call_apply K a)) (U_Held_call_compose : UseM P w K mg base a.k_Held 4 "call_compose" ["self", "r", "s", "t"] (sp_Held_call_compose K a)) (U_Held_call_turn : UseM P w K mg base a.k_Held 3 "call_turn" ["self", "r", "t"] (sp_Held_call_turn K a)) (U_Held_call_rebase : UseM P w K mg base a.k_Held 4 "call_rebase" ["self", "r", "s", "t", "u", "first"] (sp_Held_call_rebase K a)) (U_Held_call_same : UseM P w K mg base a.k_Held 2 "call_same" ["self", "r", "s"] (sp_Held_call_same K a)) (U_Held_call_place : UseM P w K mg base a.k_Held 3 "call_place" ["self", "r", "p"] (sp_Held_call_place K a)) (U_Held_call_stretch : UseM P w K mg base a.k_Held 4 "call_stretch" ["self", "r", "p", "q", "grows"] (sp_Held_call_stretch K a)) (U_Held_call_kept : UseM P w K mg base a.k_Held 3 "call_kept" ["self", "r"] (sp_Held_call_kept K a)) (U_Held_call_replace : UseM P w K mg base a.k_Held 3 "call_replace" ["self", "t", "p", "q", "row"] (sp_Held_call_replace K a)) (U_Held_call_repaint : UseM P w K mg base a.k_Held 3 "call_repaint" ["self", "t", "p", "q", "g"] (sp_Held_call_repaint K a)) : Use P w K mg base 7 "answer_of" ["held", "call", "numbers", "row"] (sp_answer_of K a) := by
  obtain ⟨f, fd, F, gf, bf⟩ := D
  obtain ⟨f_Held_call_show, fd_Held_call_show, m_Held_call_show, b_Held_call_show, G_Held_call_show⟩ := U_Held_call_show
  obtain ⟨f_Held_call_text, fd_Held_call_text, m_Held_call_text, b_Held_call_text, G_Held_call_text⟩ := U_Held_call_text
  obtain ⟨f_Held_call_set, fd_Held_call_set, m_Held_call_set, b_Held_call_set, G_Held_call_set⟩ := U_Held_call_set
  obtain ⟨f_Held_call_get, fd_Held_call_get, m_Held_call_get, b_Held_call_get, G_Held_call_get⟩ := U_Held_call_get
  obtain ⟨f_Held_call_apply, fd_Held_call_apply, m_Held_call_apply, b_Held_call_apply, G_Held_call_apply⟩ := U_Held_call_apply
  obtain ⟨f_Held_call_compose, fd_Held_call_compose, m_Held_call_compose, b_Held_call_compose, G_Held_call_compose⟩ := U_Held_call_compose
  obtain ⟨f_Held_call_turn, fd_Held_call_turn, m_Held_call_turn, b_Held_call_turn, G_Held_call_turn⟩ := U_Held_call_turn
  obtain ⟨f_Held_call_rebase, fd_Held_call_rebase, m_Held_call_rebase, b_Held_call_rebase, G_Held_call_rebase⟩ := U_Held_call_rebase
  obtain ⟨f_Held_call_same, fd_Held_call_same, m_Held_call_same, b_Held_call_same, G_Held_call_same⟩ := U_Held_call_same
  obtain ⟨f_Held_call_place, fd_Held_call_place, m_Held_call_place, b_Held_call_place, G_Held_call_place⟩ := U_Held_call_place
  obtain ⟨f_Held_call_stretch, fd_Held_call_stretch, m_Held_call_stretch, b_Held_call_stretch, G_Held_call_stretch⟩ := U_Held_call_stretch
  obtain ⟨f_Held_call_kept, fd_Held_call_kept, m_Held_call_kept, b_Held_call_kept, G_Held_call_kept⟩ := U_Held_call_kept
  obtain ⟨f_Held_call_replace, fd_Held_call_replace, m_Held_call_replace, b_Held_call_replace, G_Held_call_replace⟩ := U_Held_call_replace
  obtain ⟨f_Held_call_repaint, fd_Held_call_repaint, m_Held_call_repaint, b_Held_call_repaint, G_Held_call_repaint⟩ := U_Held_call_repaint
  refine ⟨f, fd, gf, F.kp, bf, F.ok (k := 6) sc_answer_of (fun vs H Q E h => h.len) (fun cdv A outer s H vs Q E hr h => ?_)⟩
  refine ⟨_, (pss_cons (ps_if (pt_cmpR op_eq (pv 1) pe_int (nomark _)) (pss_one (ps_ret (pe_meth (pv 0) T.cl_Held m_Held_call_text G_Held_call_text (hr.mono (by decide)) b_Held_call_text .nil pass0 (pa_cons (pv 3) pa_nil)))) pss_nil)
       (pss_cons (ps_if (pt_cmpR op_eq (pv 1) pe_int (nomark _)) (pss_one (ps_ret (pe_meth (pv 0) T.cl_Held m_Held_call_set G_Held_call_set (hr.mono (by decide)) b_Held_call_set .nil pass0 (pa_cons (pe_ix (ix_list : IxR _ (rIxL K)) (pv 2) pe_int (fun _ _ => rfl)) (pa_cons (pv 3) pa_nil))))) pss_nil)
       (pss_cons (ps_if (pt_cmpR op_eq (pv 1) pe_int (nomark _)) (pss_one (ps_ret (pe_meth (pv 0) T.cl_Held m_Held_call_get G_Held_call_get (hr.mono (by decide)) b_Held_call_get .nil pass0 (pa_cons (pe_ix (ix_list : IxR _ (rIxL K)) (pv 2) pe_int (fun _ _ => rfl)) pa_nil)))) pss_nil)
       (pss_cons (ps_if (pt_cmpR op_eq (pv 1) pe_int (nomark _)) (pss_one (ps_ret (pe_meth (pv 0) T.cl_Held m_Held_call_apply G_Held_call_apply (hr.mono (by decide)) b_Held_call_apply .nil pass0 (pa_cons (pe_ix (ix_list : IxR _ (rIxL K)) (pv 2) pe_int (fun _ _ => rfl)) pa_nil)))) pss_nil)
       (pss_cons (ps_if (pt_cmpR op_eq (pv 1) pe_int (nomark _)) (pss_one (ps_ret (pe_meth (pv 0) T.cl_Held m_Held_call_compose G_Held_call_compose (hr.mono (by decide)) b_Held_call_compose .nil pass0 (pa_cons (pe_ix (ix_list : IxR _ (rIxL K)) (pv 2) pe_int (fun _ _ => rfl)) (pa_cons (pe_ix (ix_list : IxR _ (rIxL K)) (pv 2) pe_int (fun _ _ => rfl)) (pa_cons (pe_ix (ix_list : IxR _ (rIxL K)) (pv 2) pe_int (fun _ _ => rfl)) pa_nil)))))) pss_nil)
       (pss_cons (ps_if (pt_cmpR op_eq (pv 1) pe_int (nomark _)) (pss_one (ps_ret (pe_meth (pv 0) T.cl_Held m_Held_call_turn G_Held_call_turn (hr.mono (by decide)) b_Held_call_turn .nil pass0 (pa_cons (pe_ix (ix_list : IxR _ (rIxL K)) (pv 2) pe_int (fun _ _ => rfl)) (pa_cons (pe_ix (ix_list : IxR _ (rIxL K)) (pv 2) pe_int (fun _ _ => rfl)) pa_nil))))) pss_nil)
       (pss_cons (ps_if (pt_cmpR op_eq (pv 1) pe_int (nomark _)) (pss_one (ps_ret (pe_meth (pv 0) T.cl_Held m_Held_call_rebase G_Held_call_rebase (hr.mono (by decide)) b_Held_call_rebase .nil pass0 (pa_cons (pe_ix (ix_list : IxR _ (rIxL K)) (pv 2) pe_int (fun _ _ => rfl)) (pa_cons (pe_ix (ix_list : IxR _ (rIxL K)) (pv 2) pe_int (fun _ _ => rfl)) (pa_cons (pe_ix (ix_list : IxR _ (rIxL K)) (pv 2) pe_int (fun _ _ => rfl)) (pa_cons (pe_ix (ix_list : IxR _ (rIxL K)) (pv 2) pe_int (fun _ _ => rfl)) (pa_cons (pe_ix (ix_list : IxR _ (rIxL K)) (pv 2) pe_int (fun _ _ => rfl)) pa_nil)))))))) pss_nil)
       (pss_cons (ps_if (pt_cmpR op_eq (pv 1) pe_int (nomark _)) (pss_one (ps_ret (pe_meth (pv 0) T.cl_Held m_Held_call_same G_Held_call_same (hr.mono (by decide)) b_Held_call_same .nil pass0 (pa_cons (pe_ix (ix_list : IxR _ (rIxL K)) (pv 2) pe_int (fun _ _ => rfl)) (pa_cons (pe_ix (ix_list : IxR _ (rIxL K)) (pv 2) pe_int (fun _ _ => rfl)) pa_nil))))) pss_nil)
       (pss_cons (ps_if (pt_cmpR op_eq (pv 1) pe_int (nomark _)) (pss_one (ps_ret (pe_meth (pv 0) T.cl_Held m_Held_call_place G_Held_call_place (hr.mono (by decide)) b_Held_call_place .nil pass0 (pa_cons (pe_ix (ix_list : IxR _ (rIxL K)) (pv 2) pe_int (fun _ _ => rfl)) (pa_cons (pe_ix (ix_list : IxR _ (rIxL K)) (pv 2) pe_int (fun _ _ => rfl)) pa_nil))))) pss_nil)
       (pss_cons (ps_if (pt_cmpR op_eq (pv 1) pe_int (nomark _)) (pss_one (ps_ret (pe_meth (pv 0) T.cl_Held m_Held_call_stretch G_Held_call_stretch (hr.mono (by decide)) b_Held_call_stretch .nil pass0 (pa_cons (pe_ix (ix_list : IxR _ (rIxL K)) (pv 2) pe_int (fun _ _ => rfl)) (pa_cons (pe_ix (ix_list : IxR _ (rIxL K)) (pv 2) pe_int (fun _ _ => rfl)) (pa_cons (pe_ix (ix_list : IxR _ (rIxL K)) (pv 2) pe_int (fun _ _ => rfl)) (pa_cons (pe_ix (ix_list : IxR _ (rIxL K)) (pv 2) pe_int (fun _ _ => rfl)) pa_nil))))))) pss_nil)
       (pss_cons (ps_if (pt_cmpR op_eq (pv 1) pe_int (nomark _)) (pss_one (ps_ret (pe_meth (pv 0) T.cl_Held m_Held_call_kept G_Held_call_kept (hr.mono (by decide)) b_Held_call_kept .nil pass0 (pa_cons (pe_ix (ix_list : IxR _ (rIxL K)) (pv 2) pe_int (fun _ _ => rfl)) pa_nil)))) pss_nil)
       (pss_cons (ps_if (pt_cmpR op_eq (pv 1) pe_int (nomark _)) (pss_one (ps_ret (pe_meth (pv 0) T.cl_Held m_Held_call_replace G_Held_call_replace (hr.mono (by decide)) b_Held_call_replace .nil pass0 (pa_cons (pe_ix (ix_list : IxR _ (rIxL K)) (pv 2) pe_int (fun _ _ => rfl)) (pa_cons (pe_ix (ix_list : IxR _ (rIxL K)) (pv 2) pe_int (fun _ _ => rfl)) (pa_cons (pe_ix (ix_list : IxR _ (rIxL K)) (pv 2) pe_int (fun _ _ => rfl)) (pa_cons (pv 3) pa_nil))))))) pss_nil)
       (pss_cons (ps_if (pt_cmpR op_eq (pv 1) pe_int (nomark _)) (pss_one (ps_ret (pe_meth (pv 0) T.cl_Held m_Held_call_repaint G_Held_call_repaint (hr.mono (by decide)) b_Held_call_repaint .nil pass0 (pa_cons (pe_ix (ix_list : IxR _ (rIxL K)) (pv 2) pe_int (fun _ _ => rfl)) (pa_cons (pe_ix (ix_list : IxR _ (rIxL K)) (pv 2) pe_int (fun _ _ => rfl)) (pa_cons (pe_ix (ix_list : IxR _ (rIxL K)) (pv 2) pe_int (fun _ _ => rfl)) (pa_cons (pe_ix (ix_list : IxR _ (rIxL K)) (pv 2) pe_int (fun _ _ => rfl)) pa_nil))))))) pss_nil)
       (pss_one (ps_ret (pe_meth0 (pv 0) T.cl_Held m_Held_call_show G_Held_call_show (hr.mono (by decide)) b_Held_call_show .nil pass0)))))))))))))))), ?_⟩
  obtain ⟨v0, v1, v2, v3, rfl, h⟩ := h
  obtain ⟨x, ae, pn, pr, s, p, xs, l, kk, rfl, hH, hG, rfl, rfl, hN, rfl, hR, hl, hc, hp, k⟩ := h
  obtain ⟨dx, at', h1, _⟩ := hH.ins
  cases hc with
  | text l =>
    refine ev_if (ev_test (ev_eq (ev_var rfl) ev_c)) (fun _ => ?_) fun c => ?_
    case' refine_2 => exact no_tf c
    refine ⟨_, rfl, x, dx, _, rfl, h1, hF_none (by decide +kernel) (by decide +kernel), ?_⟩
    exact ⟨_, rfl, _, _, rfl, x, ae, pr, s, l, rfl, hH, hG, rfl, hR, hl, k⟩
  | set a0 l =>
    refine ev_if (ev_test (ev_eq (ev_var rfl) ev_c)) (fun c => ?_) fun _ => ?_
    · exact no_ft c
    refine ev_if (ev_test (ev_eq (ev_var rfl) ev_c)) (fun _ => ?_) fun c => ?_
    case' refine_2 => exact no_tf c
    refine ⟨_, rfl, x, dx, _, rfl, h1, hF_none (by decide +kernel) (by decide +kernel), ?_⟩
    refine ev_int (i := 0) (ev_var rfl) ev_c hN rfl rfl _ ?_
    exact ⟨_, rfl, _, _, _, rfl, x, ae, pr, s, a0, l, rfl, hH, hG, rfl, rfl, hR, hl, k⟩
  | get a0 l =>
    refine ev_if (ev_test (ev_eq (ev_var rfl) ev_c)) (fun c => ?_) fun _ => ?_
    · exact no_ft c
    refine ev_if (ev_test (ev_eq (ev_var rfl) ev_c)) (fun c => ?_) fun _ => ?_
    · exact no_ft c
    refine ev_if (ev_test (ev_eq (ev_var rfl) ev_c)) (fun _ => ?_) fun c => ?_
    case' refine_2 => exact no_tf c
    refine ⟨_, rfl, x, dx, _, rfl, h1, hF_none (by decide +kernel) (by decide +kernel), ?_⟩
    refine ev_int (i := 0) (ev_var rfl) ev_c hN rfl rfl _ ?_
    exact ⟨_, _, rfl, x, ae, s, a0, rfl, hH, hG, rfl, k⟩
  | apply a0 l =>
    refine ev_if (ev_test (ev_eq (ev_var rfl) ev_c)) (fun c => ?_) fun _ => ?_
    · exact no_ft c
    refine ev_if (ev_test (ev_eq (ev_var rfl) ev_c)) (fun c => ?_) fun _ => ?_
    · exact no_ft c
    refine ev_if (ev_test (ev_eq (ev_var rfl) ev_c)) (fun c => ?_) fun _ => ?_
    · exact no_ft c
    refine ev_if (ev_test (ev_eq (ev_var rfl) ev_c)) (fun _ => ?_) fun c => ?_
    case' refine_2 => exact no_tf c
    refine ⟨_, rfl, x, dx, _, rfl, h1, hF_none (by decide +kernel) (by decide +kernel), ?_⟩
    refine ev_int (i := 0) (ev_var rfl) ev_c hN rfl rfl _ ?_
    exact ⟨_, _, rfl, x, ae, s, a0, rfl, hH, hG, rfl, k⟩
  | compose a0 a1 a2 l =>
    refine ev_if (ev_test (ev_eq (ev_var rfl) ev_c)) (fun c => ?_) fun _ => ?_
    · exact no_ft c
    refine ev_if (ev_test (ev_eq (ev_var rfl) ev_c)) (fun c => ?_) fun _ => ?_
    · exact no_ft c
    refine ev_if (ev_test (ev_eq (ev_var rfl) ev_c)) (fun c => ?_) fun _ => ?_
    · exact no_ft c
    refine ev_if (ev_test (ev_eq (ev_var rfl) ev_c)) (fun c => ?_) fun _ => ?_
    · exact no_ft c
    refine ev_if (ev_test (ev_eq (ev_var rfl) ev_c)) (fun _ => ?_) fun c => ?_
    case' refine_2 => exact no_tf c
    refine ⟨_, rfl, x, dx, _, rfl, h1, hF_none (by decide +kernel) (by decide +kernel), ?_⟩
    refine ev_int (i := 0) (ev_var rfl) ev_c hN rfl rfl _ ?_
    refine ev_int (i := 1) (ev_var rfl) ev_c hN rfl rfl _ ?_
    refine ev_int (i := 2) (ev_var rfl) ev_c hN rfl rfl _ ?_
    exact ⟨_, _, _, _, rfl, x, ae, s, a0, a1, a2, rfl, hH, hG, rfl, rfl, rfl, k⟩
  | turn a0 a1 l =>
    refine ev_if (ev_test (ev_eq (ev_var rfl) ev_c)) (fun c => ?_) fun _ => ?_
    · exact no_ft c
    refine ev_if (ev_test (ev_eq (ev_var rfl) ev_c)) (fun c => ?_) fun _ => ?_
    · exact no_ft c
    refine ev_if (ev_test (ev_eq (ev_var rfl) ev_c)) (fun c => ?_) fun _ => ?_
    · exact no_ft c
    refine ev_if (ev_test (ev_eq (ev_var rfl) ev_c)) (fun c => ?_) fun _ => ?_
    · exact no_ft c
    refine ev_if (ev_test (ev_eq (ev_var rfl) ev_c)) (fun c => ?_) fun _ => ?_
    · exact no_ft c
    refine ev_if (ev_test (ev_eq (ev_var rfl) ev_c)) (fun _ => ?_) fun c => ?_
    case' refine_2 => exact no_tf c
    refine ⟨_, rfl, x, dx, _, rfl, h1, hF_none (by decide +kernel) (by decide +kernel), ?_⟩
    refine ev_int (i := 0) (ev_var rfl) ev_c hN rfl rfl _ ?_
    refine ev_int (i := 1) (ev_var rfl) ev_c hN rfl rfl _ ?_
    exact ⟨_, _, _, rfl, x, ae, s, a0, a1, rfl, hH, hG, rfl, rfl, k⟩
  | rebase a0 a1 a2 a3 a4 l =>
    refine ev_if (ev_test (ev_eq (ev_var rfl) ev_c)) (fun c => ?_) fun _ => ?_
    · exact no_ft c
    refine ev_if (ev_test (ev_eq (ev_var rfl) ev_c)) (fun c => ?_) fun _ => ?_
    · exact no_ft c
    refine ev_if (ev_test (ev_eq (ev_var rfl) ev_c)) (fun c => ?_) fun _ => ?_
    · exact no_ft c
    refine ev_if (ev_test (ev_eq (ev_var rfl) ev_c)) (fun c => ?_) fun _ => ?_
    · exact no_ft c
    refine ev_if (ev_test (ev_eq (ev_var rfl) ev_c)) (fun c => ?_) fun _ => ?_
    · exact no_ft c
    refine ev_if (ev_test (ev_eq (ev_var rfl) ev_c)) (fun c => ?_) fun _ => ?_
    · exact no_ft c
    refine ev_if (ev_test (ev_eq (ev_var rfl) ev_c)) (fun _ => ?_) fun c => ?_
    case' refine_2 => exact no_tf c
    refine ⟨_, rfl, x, dx, _, rfl, h1, hF_none (by decide +kernel) (by decide +kernel), ?_⟩
    refine ev_int (i := 0) (ev_var rfl) ev_c hN rfl rfl _ ?_
    refine ev_int (i := 1) (ev_var rfl) ev_c hN rfl rfl _ ?_
    refine ev_int (i := 2) (ev_var rfl) ev_c hN rfl rfl _ ?_
    refine ev_int (i := 3) (ev_var rfl) ev_c hN rfl rfl _ ?_
    refine ev_int (i := 4) (ev_var rfl) ev_c hN rfl rfl _ ?_
    exact ⟨_, _, _, _, _, _, rfl, x, ae, s, a0, a1, a2, a3, a4, rfl, hH, hG, rfl, rfl, rfl, rfl, rfl, k⟩
  | same a0 a1 l =>
    refine ev_if (ev_test (ev_eq (ev_var rfl) ev_c)) (fun c => ?_) fun _ => ?_
    · exact no_ft c
    refine ev_if (ev_test (ev_eq (ev_var rfl) ev_c)) (fun c => ?_) fun _ => ?_
    · exact no_ft c
    refine ev_if (ev_test (ev_eq (ev_var rfl) ev_c)) (fun c => ?_) fun _ => ?_
    · exact no_ft c
    refine ev_if (ev_test (ev_eq (ev_var rfl) ev_c)) (fun c => ?_) fun _ => ?_
    · exact no_ft c
    refine ev_if (ev_test (ev_eq (ev_var rfl) ev_c)) (fun c => ?_) fun _ => ?_
    · exact no_ft c
    refine ev_if (ev_test (ev_eq (ev_var rfl) ev_c)) (fun c => ?_) fun _ => ?_
    · exact no_ft c
    refine ev_if (ev_test (ev_eq (ev_var rfl) ev_c)) (fun c => ?_) fun _ => ?_
    · exact no_ft c
    refine ev_if (ev_test (ev_eq (ev_var rfl) ev_c)) (fun _ => ?_) fun c => ?_
    case' refine_2 => exact no_tf c
    refine ⟨_, rfl, x, dx, _, rfl, h1, hF_none (by decide +kernel) (by decide +kernel), ?_⟩
    refine ev_int (i := 0) (ev_var rfl) ev_c hN rfl rfl _ ?_
    refine ev_int (i := 1) (ev_var rfl) ev_c hN rfl rfl _ ?_
    exact ⟨_, _, _, rfl, x, ae, s, a0, a1, rfl, hH, hG, rfl, rfl, k⟩
  | place a0 a1 l =>
    refine ev_if (ev_test (ev_eq (ev_var rfl) ev_c)) (fun c => ?_) fun _ => ?_
    · exact no_ft c
    refine ev_if (ev_test (ev_eq (ev_var rfl) ev_c)) (fun c => ?_) fun _ => ?_
    · exact no_ft c
    refine ev_if (ev_test (ev_eq (ev_var rfl) ev_c)) (fun c => ?_) fun _ => ?_
    · exact no_ft c
    refine ev_if (ev_test (ev_eq (ev_var rfl) ev_c)) (fun c => ?_) fun _ => ?_
    · exact no_ft c
    refine ev_if (ev_test (ev_eq (ev_var rfl) ev_c)) (fun c => ?_) fun _ => ?_
    · exact no_ft c
    refine ev_if (ev_test (ev_eq (ev_var rfl) ev_c)) (fun c => ?_) fun _ => ?_
    · exact no_ft c
    refine ev_if (ev_test (ev_eq (ev_var rfl) ev_c)) (fun c => ?_) fun _ => ?_
    · exact no_ft c
    refine ev_if (ev_test (ev_eq (ev_var rfl) ev_c)) (fun c => ?_) fun _ => ?_
    · exact no_ft c
    refine ev_if (ev_test (ev_eq (ev_var rfl) ev_c)) (fun _ => ?_) fun c => ?_
    case' refine_2 => exact no_tf c
    refine ⟨_, rfl, x, dx, _, rfl, h1, hF_none (by decide +kernel) (by decide +kernel), ?_⟩
    refine ev_int (i := 0) (ev_var rfl) ev_c hN rfl rfl _ ?_
    refine ev_int (i := 1) (ev_var rfl) ev_c hN rfl rfl _ ?_
    exact ⟨_, _, _, rfl, x, ae, s, a0, a1, rfl, hH, hG, rfl, rfl, k⟩
  | stretch a0 a1 a2 a3 l =>
    refine ev_if (ev_test (ev_eq (ev_var rfl) ev_c)) (fun c => ?_) fun _ => ?_
    · exact no_ft c
    refine ev_if (ev_test (ev_eq (ev_var rfl) ev_c)) (fun c => ?_) fun _ => ?_
    · exact no_ft c
    refine ev_if (ev_test (ev_eq (ev_var rfl) ev_c)) (fun c => ?_) fun _ => ?_
    · exact no_ft c
    refine ev_if (ev_test (ev_eq (ev_var rfl) ev_c)) (fun c => ?_) fun _ => ?_
    · exact no_ft c
    refine ev_if (ev_test (ev_eq (ev_var rfl) ev_c)) (fun c => ?_) fun _ => ?_
    · exact no_ft c
    refine ev_if (ev_test (ev_eq (ev_var rfl) ev_c)) (fun c => ?_) fun _ => ?_
    · exact no_ft c
    refine ev_if (ev_test (ev_eq (ev_var rfl) ev_c)) (fun c => ?_) fun _ => ?_
    · exact no_ft c
    refine ev_if (ev_test (ev_eq (ev_var rfl) ev_c)) (fun c => ?_) fun _ => ?_
    · exact no_ft c
    refine ev_if (ev_test (ev_eq (ev_var rfl) ev_c)) (fun c => ?_) fun _ => ?_
    · exact no_ft c
    refine ev_if (ev_test (ev_eq (ev_var rfl) ev_c)) (fun _ => ?_) fun c => ?_
    case' refine_2 => exact no_tf c
    refine ⟨_, rfl, x, dx, _, rfl, h1, hF_none (by decide +kernel) (by decide +kernel), ?_⟩
    refine ev_int (i := 0) (ev_var rfl) ev_c hN rfl rfl _ ?_
    refine ev_int (i := 1) (ev_var rfl) ev_c hN rfl rfl _ ?_
    refine ev_int (i := 2) (ev_var rfl) ev_c hN rfl rfl _ ?_
    refine ev_int (i := 3) (ev_var rfl) ev_c hN rfl rfl _ ?_
    exact ⟨_, _, _, _, _, rfl, x, ae, s, a0, a1, a2, a3, rfl, hH, hG, rfl, rfl, rfl, rfl, k⟩
  | kept a0 l =>
    refine ev_if (ev_test (ev_eq (ev_var rfl) ev_c)) (fun c => ?_) fun _ => ?_
    · exact no_ft c
    refine ev_if (ev_test (ev_eq (ev_var rfl) ev_c)) (fun c => ?_) fun _ => ?_
    · exact no_ft c
    refine ev_if (ev_test (ev_eq (ev_var rfl) ev_c)) (fun c => ?_) fun _ => ?_
    · exact no_ft c
    refine ev_if (ev_test (ev_eq (ev_var rfl) ev_c)) (fun c => ?_) fun _ => ?_
    · exact no_ft c
    refine ev_if (ev_test (ev_eq (ev_var rfl) ev_c)) (fun c => ?_) fun _ => ?_
    · exact no_ft c
    refine ev_if (ev_test (ev_eq (ev_var rfl) ev_c)) (fun c => ?_) fun _ => ?_
    · exact no_ft c
    refine ev_if (ev_test (ev_eq (ev_var rfl) ev_c)) (fun c => ?_) fun _ => ?_
    · exact no_ft c
    refine ev_if (ev_test (ev_eq (ev_var rfl) ev_c)) (fun c => ?_) fun _ => ?_
    · exact no_ft c
    refine ev_if (ev_test (ev_eq (ev_var rfl) ev_c)) (fun c => ?_) fun _ => ?_
    · exact no_ft c
    refine ev_if (ev_test (ev_eq (ev_var rfl) ev_c)) (fun c => ?_) fun _ => ?_
    · exact no_ft c
    refine ev_if (ev_test (ev_eq (ev_var rfl) ev_c)) (fun _ => ?_) fun c => ?_
    case' refine_2 => exact no_tf c
    refine ⟨_, rfl, x, dx, _, rfl, h1, hF_none (by decide +kernel) (by decide +kernel), ?_⟩
    refine ev_int (i := 0) (ev_var rfl) ev_c hN rfl rfl _ ?_
    exact ⟨_, _, rfl, x, ae, s, a0, rfl, hH, hG, rfl, k⟩
  | replace a0 a1 a2 l =>
    refine ev_if (ev_test (ev_eq (ev_var rfl) ev_c)) (fun c => ?_) fun _ => ?_
    · exact no_ft c
    refine ev_if (ev_test (ev_eq (ev_var rfl) ev_c)) (fun c => ?_) fun _ => ?_
    · exact no_ft c
    refine ev_if (ev_test (ev_eq (ev_var rfl) ev_c)) (fun c => ?_) fun _ => ?_
    · exact no_ft c
    refine ev_if (ev_test (ev_eq (ev_var rfl) ev_c)) (fun c => ?_) fun _ => ?_
    · exact no_ft c
    refine ev_if (ev_test (ev_eq (ev_var rfl) ev_c)) (fun c => ?_) fun _ => ?_
    · exact no_ft c
    refine ev_if (ev_test (ev_eq (ev_var rfl) ev_c)) (fun c => ?_) fun _ => ?_
    · exact no_ft c
    refine ev_if (ev_test (ev_eq (ev_var rfl) ev_c)) (fun c => ?_) fun _ => ?_
    · exact no_ft c
    refine ev_if (ev_test (ev_eq (ev_var rfl) ev_c)) (fun c => ?_) fun _ => ?_
    · exact no_ft c
    refine ev_if (ev_test (ev_eq (ev_var rfl) ev_c)) (fun c => ?_) fun _ => ?_
    · exact no_ft c
    refine ev_if (ev_test (ev_eq (ev_var rfl) ev_c)) (fun c => ?_) fun _ => ?_
    · exact no_ft c
    refine ev_if (ev_test (ev_eq (ev_var rfl) ev_c)) (fun c => ?_) fun _ => ?_
    · exact no_ft c
    refine ev_if (ev_test (ev_eq (ev_var rfl) ev_c)) (fun _ => ?_) fun c => ?_
    case' refine_2 => exact no_tf c
    refine ⟨_, rfl, x, dx, _, rfl, h1, hF_none (by decide +kernel) (by decide +kernel), ?_⟩
    refine ev_int (i := 0) (ev_var rfl) ev_c hN rfl rfl _ ?_
    refine ev_int (i := 1) (ev_var rfl) ev_c hN rfl rfl _ ?_
    refine ev_int (i := 2) (ev_var rfl) ev_c hN rfl rfl _ ?_
    exact ⟨_, rfl, _, _, _, _, _, rfl, x, ae, pr, s, a0, a1, a2, l, rfl, hH, hG, rfl, rfl, rfl, rfl, hR, hl, k⟩
  | repaint a0 a1 a2 a3 l =>
    refine ev_if (ev_test (ev_eq (ev_var rfl) ev_c)) (fun c => ?_) fun _ => ?_
    · exact no_ft c
    refine ev_if (ev_test (ev_eq (ev_var rfl) ev_c)) (fun c => ?_) fun _ => ?_
    · exact no_ft c
    refine ev_if (ev_test (ev_eq (ev_var rfl) ev_c)) (fun c => ?_) fun _ => ?_
    · exact no_ft c
    refine ev_if (ev_test (ev_eq (ev_var rfl) ev_c)) (fun c => ?_) fun _ => ?_
    · exact no_ft c
    refine ev_if (ev_test (ev_eq (ev_var rfl) ev_c)) (fun c => ?_) fun _ => ?_
    · exact no_ft c
    refine ev_if (ev_test (ev_eq (ev_var rfl) ev_c)) (fun c => ?_) fun _ => ?_
    · exact no_ft c
    refine ev_if (ev_test (ev_eq (ev_var rfl) ev_c)) (fun c => ?_) fun _ => ?_
    · exact no_ft c
    refine ev_if (ev_test (ev_eq (ev_var rfl) ev_c)) (fun c => ?_) fun _ => ?_
    · exact no_ft c
    refine ev_if (ev_test (ev_eq (ev_var rfl) ev_c)) (fun c => ?_) fun _ => ?_
    · exact no_ft c
    refine ev_if (ev_test (ev_eq (ev_var rfl) ev_c)) (fun c => ?_) fun _ => ?_
    · exact no_ft c
    refine ev_if (ev_test (ev_eq (ev_var rfl) ev_c)) (fun c => ?_) fun _ => ?_
    · exact no_ft c
    refine ev_if (ev_test (ev_eq (ev_var rfl) ev_c)) (fun c => ?_) fun _ => ?_
    · exact no_ft c
    refine ev_if (ev_test (ev_eq (ev_var rfl) ev_c)) (fun _ => ?_) fun c => ?_
    case' refine_2 => exact no_tf c
    refine ⟨_, rfl, x, dx, _, rfl, h1, hF_none (by decide +kernel) (by decide +kernel), ?_⟩
    refine ev_int (i := 0) (ev_var rfl) ev_c hN rfl rfl _ ?_
    refine ev_int (i := 1) (ev_var rfl) ev_c hN rfl rfl _ ?_
    refine ev_int (i := 2) (ev_var rfl) ev_c hN rfl rfl _ ?_
    refine ev_int (i := 3) (ev_var rfl) ev_c hN rfl rfl _ ?_
    exact ⟨_, _, _, _, _, rfl, x, ae, s, a0, a1, a2, a3, rfl, hH, hG, rfl, rfl, rfl, rfl, k⟩
  | «show» l =>
    refine ev_if (ev_test (ev_eq (ev_var rfl) ev_c)) (fun c => ?_) fun _ => ?_
    · exact no_ft c
    refine ev_if (ev_test (ev_eq (ev_var rfl) ev_c)) (fun c => ?_) fun _ => ?_
    · exact no_ft c
    refine ev_if (ev_test (ev_eq (ev_var rfl) ev_c)) (fun c => ?_) fun _ => ?_
    · exact no_ft c
    refine ev_if (ev_test (ev_eq (ev_var rfl) ev_c)) (fun c => ?_) fun _ => ?_
    · exact no_ft c
    refine ev_if (ev_test (ev_eq (ev_var rfl) ev_c)) (fun c => ?_) fun _ => ?_
    · exact no_ft c
    refine ev_if (ev_test (ev_eq (ev_var rfl) ev_c)) (fun c => ?_) fun _ => ?_
    · exact no_ft c
    refine ev_if (ev_test (ev_eq (ev_var rfl) ev_c)) (fun c => ?_) fun _ => ?_
    · exact no_ft c
    refine ev_if (ev_test (ev_eq (ev_var rfl) ev_c)) (fun c => ?_) fun _ => ?_
    · exact no_ft c
    refine ev_if (ev_test (ev_eq (ev_var rfl) ev_c)) (fun c => ?_) fun _ => ?_
    · exact no_ft c
    refine ev_if (ev_test (ev_eq (ev_var rfl) ev_c)) (fun c => ?_) fun _ => ?_
    · exact no_ft c
    refine ev_if (ev_test (ev_eq (ev_var rfl) ev_c)) (fun c => ?_) fun _ => ?_
    · exact no_ft c
    refine ev_if (ev_test (ev_eq (ev_var rfl) ev_c)) (fun c => ?_) fun _ => ?_
    · exact no_ft c
    refine ev_if (ev_test (ev_eq (ev_var rfl) ev_c)) (fun c => ?_) fun _ => ?_
    · exact no_ft c
    refine ⟨_, rfl, x, dx, _, rfl, h1, hF_none (by decide +kernel) (by decide +kernel), ?_⟩
    exact ⟨_, rfl, x, ae, s, rfl, hH, hG, k⟩
def sp_call_end (K : PySem.W.Frag) (_ : Ad) : Sp := sp3 fun v0 v1 v2 H Q => ∃ (pc : Addr) (L : List Int) (i j : Nat) (p : Int) (n k : Nat), v0 = .ref pc ∧ Is K H pc L ∧ v1 = .int i ∧ L[i]? = some p ∧ PyVatrkj.shape p = some (n, k) ∧ p ≤ 13 ∧ v2 = .int j ∧ ∃ en : Nat, (k = 1 → ∃ m : Nat, L[j]? = some (m : Int) ∧ en = j + 1 + m) ∧ (k ≠ 1 → en = j) ∧ Q (.int (en : Int)) H
theorem use_call_end {P : Program} {w : World} {K : PySem.W.Frag} {mg : Str → Option Value} {base : Heap} {a : Ad} (T : Txt K mg a) (D : Dfn K mg "call_end" "call_end" s_call_end ["calls", "at", "row_at"])  : Use P w K mg base 1 "call_end" ["calls", "at", "row_at"] (sp_call_end K a) := by
  obtain ⟨f, fd, F, gf, bf⟩ := D
  refine ⟨f, fd, gf, F.kp, bf, F.ok (k := 0) sc_call_end (fun vs H Q E h => h.len) (fun cdv A outer s H vs Q E hr h => ?_)⟩
  refine ⟨_, (pss_cons (ps_if (pt_val (pe_ix (ix_tup : IxR _ (rIxT K)) (pe_ix (ix_tup : IxR _ (rIxT K)) (pe_glob (v := .ref a.a_SHAPES) rfl T.c_SHAPES rfl) (pe_ix (ix_list : IxR _ (rIxL K)) (pv 0) (pv 1) (fun _ _ => rfl)) (fun _ _ => rfl)) pe_int (fun _ _ => rfl))) (pss_one (ps_ret (pe_op op_add (pe_op op_add (pv 2) pe_int) (pe_ix (ix_list : IxR _ (rIxL K)) (pv 0) (pv 2) (fun _ _ => rfl))))) pss_nil)
       (pss_one (ps_ret (pv 2)))), ?_⟩
  obtain ⟨v0, v1, v2, rfl, h⟩ := h
  obtain ⟨pc, L, i, j, p, n, kk, rfl, hL, rfl, hi, hs, hp, rfl, en, k1, k0, q⟩ := h
  obtain ⟨sl, ad, h1, h2, h3⟩ := shapes_get T hs hp
  refine ev_if (ev_tB (ev_ixT (K := K) (ev_ixT (K := K) ev_c (ev_int (ev_var rfl) (ev_var rfl) hL rfl hi) (h1 H) h2) ev_c (h3 H) (v := .bl (decide (kk = 1))) rfl)) (fun c => ?_) fun c => ?_
  · obtain ⟨m, hm, rfl⟩ := k1 (of_decide_eq_true c)
    refine ev_add (ev_add (ev_var rfl) ev_c) (ev_int (ev_var rfl) (ev_var rfl) hL rfl hm) _ ?_
    have e : ((j : Int) + 1 + (m : Int)) = ((j + 1 + m : Nat) : Int) := by omega
    rw [e]
    exact q
  · have e := k0 (of_decide_eq_false c)
    rw [e] at q
    exact ⟨_, rfl, q⟩
theorem Is.keeps {K : PySem.W.Frag} {C x ae p : Addr} {H H' : Hp} {s : Vatrkj.State} {l : List Int} (h : HeldAt C x ae H s) (k : Keeps x ae H H') (g : Is K H p l) : Is K H' p l := by
  obtain ⟨dx, at', h1, _⟩ := h.ins
  obtain ⟨vs, h2, _⟩ := h.eds
  rcases g with (g | ⟨o, g⟩) | g
  · exact .inl (.inl (k.keep _ _ g (ne_of g h1 (by intro z; cases z)) (h.ne' g)))
  · exact .inl (.inr ⟨o, k.keep _ _ g (ne_of g h1 (by intro z; cases z)) (ne_of g h2 (by intro z; cases z))⟩)
  · exact .inr g
theorem good_start : Good Vatrkj.start := ⟨rfl, fun e he => by
  have : e = [] := List.eq_of_mem_replicate he
  subst this
  exact ⟨Nat.zero_le _, Nat.zero_le _⟩, Nat.zero_le _⟩
theorem Eds.mem {H : Hp} {p : Addr} : ∀ {vs : List V} {es : List Edit}, Eds H vs es → V.ref p ∈ vs → ∃ e, Ed H p e
  | _, _, .nil, h => by cases h
  | _, _, .cons g k, h => by
    rcases List.mem_cons.mp h with h | h
    · injection h with h
      subst h
      exact ⟨_, g⟩
    · exact k.mem h
theorem away_new {C x ae M : Addr} {H : Hp} {s : Vatrkj.State} (h : HeldAt C x ae H s) (hM : H M = none) : Away M x ae H := by
  obtain ⟨⟨dx, at', h1, ⟨ts, h2, _⟩⟩, ⟨vs, h3, h4⟩, _⟩ := h
  refine ⟨fun C' dx' a' e => ?_, fun vs' e z => ?_⟩
  · rw [h1] at e
    have e := Option.some.inj e
    injection e with _ _ e
    have e : V.ref at' = V.ref a' := congrArg (fun l => match l with | (_, v) :: _ => v | [] => V.non) e
    injection e with e
    rw [← e]
    rintro rfl
    rw [hM] at h2
    cases h2
  · rw [h3] at e
    obtain rfl : vs = vs' := by injection (Option.some.inj e)
    obtain ⟨e', us, h5, _⟩ := h4.mem z
    rw [hM] at h5
    cases h5
/-- another list is written beside the object -/
theorem HeldAt.updM {C x ae M : Addr} {H : Hp} {s : Vatrkj.State} {xs : List V} {o : HO} (h : HeldAt C x ae H s) (w : Away M x ae H) (hM : H M = some (.lst xs)) (n1 : M ≠ x) (n2 : M ≠ ae) : HeldAt C x ae (upd H M o) s ∧ Away M x ae (upd H M o) := by
  obtain ⟨⟨dx, at', h1, h2⟩, ⟨vs, h3, h4⟩, h5⟩ := h
  have hx : (upd H M o) x = some (.ins C dx (hF at' ae)) := by rw [upd_ne n1.symm]; exact h1
  have ha : (upd H M o) ae = some (.lst vs) := by rw [upd_ne n2.symm]; exact h3
  have all : ∀ {ws : List V} {es : List Edit}, Eds H ws es → V.ref M ∉ ws → Eds (upd H M o) ws es := by
    intro ws es k
    induction k with
    | nil => exact fun _ => .nil
    | cons g _ ih =>
      intro z
      refine .cons (Ls.updL g hM fun e => z ?_) (ih fun y => z (List.mem_cons_of_mem _ y))
      rw [e]
      exact List.mem_cons_self
  refine ⟨⟨⟨dx, at', hx, Ls.updL h2 hM (w.1 _ _ _ h1)⟩, ⟨vs, ha, all h4 (w.2 _ h3)⟩, h5⟩, fun C' dx' a' e => ?_, fun vs' e => ?_⟩
  · rw [upd_ne n1.symm] at e
    exact w.1 _ _ _ e
  · rw [upd_ne n2.symm] at e
    exact w.2 _ e
/-- the calls that the program has -/
def Lim (cs : List (List (List Int))) : Prop := ∀ c ∈ cs, ∀ p xs tl, c = (p :: xs) :: tl → p ≤ 13
def pAns (K : PySem.W.Frag) : V → Hp → VK → Prop := fun v H Q => ∃ (pc : Addr) (L : List Int) (cs : List (List (List Int))), v = .ref pc ∧ Is K H pc L ∧ L.length ≤ 16000 ∧ pcs L = some cs ∧ Lim cs ∧ (PyVatrkj.answers L).length ≤ 10000000 ∧ ∀ H' q, H' q = some (.lst ((PyVatrkj.answers L).map V.int)) → Q (.ref q) H'
def spAns (K : PySem.W.Frag) : Sp := sp1 (pAns K)
def sp_answers (K : PySem.W.Frag) (_ : Ad) : Sp := sp1 (pAns K)
theorem use_answers {P : Program} {w : World} {K : PySem.W.Frag} {mg : Str → Option Value} {base : Heap} {a : Ad} (T : Txt K mg a) {f : Addr} {fd : FuncData} (F : Fun K "answers" "answers" s_answers f fd) (U_Held___init__ : UseI P w K mg base a.k_Held 1 ["self"] (sp_Held___init__ K a)) (U_call_end : Use P w K mg base 1 "call_end" ["calls", "at", "row_at"] (sp_call_end K a)) (U_answer_of : Use P w K mg base 7 "answer_of" ["held", "call", "numbers", "row"] (sp_answer_of K a)) : FnOk P w K mg base CX0 8 f fd ["calls"] (sp_answers K a) := by
  obtain ⟨f_Held___init__, fd_Held___init__, m_Held___init__, b_Held___init__, G_Held___init__⟩ := U_Held___init__
  obtain ⟨f_call_end, fd_call_end, g_call_end, k_call_end, b_call_end, G_call_end⟩ := U_call_end
  obtain ⟨f_answer_of, fd_answer_of, g_answer_of, k_answer_of, b_answer_of, G_answer_of⟩ := U_answer_of
  refine F.ok (k := 7) sc_answers (fun vs H Q E h => h.len) (fun cdv A outer s H vs Q E hr h => ?_)
  refine ⟨_, (pss_cons (ps_set (i := 1) sc_answers.nd rfl (Or.inl rfl) (pe_make0 m_Held___init__ G_Held___init__ (hr.mono (by decide)) rfl T.c_Held b_Held___init__ .nil pass0))
       (pss_cons (ps_set (i := 2) sc_answers.nd rfl (Or.inl rfl) (pe_lst pa_nil))
       (pss_cons (ps_set (i := 3) sc_answers.nd rfl (Or.inl rfl) pe_int)
       (pss_cons (ps_while PassesOwn.never (pt_cmpR op_lt (pv 3) (pe_callB call_len_seq rfl T.n_len PySem.boot_len (pa_cons (pv 0) pa_nil)) (nomark _)) (pss_cons (ps_set (i := 4) sc_answers.nd rfl (Or.inl rfl) (pe_op op_add (pe_op op_add (pv 3) pe_int) (pe_ix (ix_tup : IxR _ (rIxT K)) (pe_ix (ix_tup : IxR _ (rIxT K)) (pe_glob (v := .ref a.a_SHAPES) rfl T.c_SHAPES rfl) (pe_ix (ix_list : IxR _ (rIxL K)) (pv 0) (pv 3) (fun _ _ => rfl)) (fun _ _ => rfl)) pe_int (fun _ _ => rfl))))
       (pss_cons (ps_set (i := 5) sc_answers.nd rfl (Or.inl rfl) (pe_call G_call_end (hr.mono (by decide)) rfl g_call_end k_call_end b_call_end .nil pass0 (pa_cons (pv 0) (pa_cons (pv 3) (pa_cons (pv 4) pa_nil)))))
       (pss_cons (ps_set (i := 6) sc_answers.nd rfl (Or.inl rfl) (pe_call G_answer_of (hr.mono (by decide)) rfl g_answer_of k_answer_of b_answer_of .nil pass0 (pa_cons (pv 1) (pa_cons (pe_ix (ix_list : IxR _ (rIxL K)) (pv 0) (pv 3) (fun _ _ => rfl)) (pa_cons (pe_slice sl_list (pv 0) (po_some (pe_op op_add (pv 3) pe_int)) (po_some (pv 4))) (pa_cons (pe_slice sl_list (pv 0) (po_some (pe_op op_add (pv 4) pe_int)) (po_some (pv 5))) pa_nil))))))
       (pss_cons (ps_expr (pe_bm PySem.F.plainAttrs_list PySem.F.slot_list_append PySem.F.type_list_append mt_append (pv 2) (pa_cons (pe_callB call_len_seq rfl T.n_len PySem.boot_len (pa_cons (pv 6) pa_nil)) pa_nil)))
       (pss_cons (ps_expr (pe_bm PySem.F.plainAttrs_list PySem.F.slot_list_extend PySem.F.type_list_extend mt_extend (pv 2) (pa_cons (pv 6) pa_nil)))
       (pss_one (ps_set (i := 3) sc_answers.nd rfl (Or.inl rfl) (pv 5)))))))))
       (pss_one (ps_ret (pv 2))))))), ?_⟩
  obtain ⟨v0, rfl, h⟩ := h
  obtain ⟨pc, L, cs0, rfl, hL, hl, hcs, hlim, hbig, k⟩ := h
  intro x dx nx nd ne
  refine ⟨_, rfl, x, dx, rfl, upd_same, fun H1 ae hH1 kp1 => ⟨rfl, ?_⟩⟩
  have s1 : Same H H1 := Same.made nx nd kp1
  refine ⟨sz0, fun M hM => ?_⟩
  have sM := Same.new (o := .lst []) hM
  have hpcK : (∃ o, H pc = some o) → pc ≠ M := fun ⟨o, ho⟩ z => by rw [z] at ho; rw [s1 _ _ ho] at hM; cases hM
  rw [answers_is hcs] at hbig k
  refine ⟨fun m σ H' => ∃ (i : Nat) (u1 u2 u3 : Option V) (ns : List Int) (s : Vatrkj.State) (rest : List (List (List Int))), m = L.length - i ∧ σ = [some (.ref pc), some (.ref x), some (.ref M), some (.int i), u1, u2, u3] ∧ Is K H' pc L ∧ HeldAt a.k_Held x ae H' s ∧ Away M x ae H' ∧ Good s ∧ H' M = some (.lst (ns.map V.int)) ∧ i ≤ L.length ∧ pcs (L.drop i) = some rest ∧ Lim rest ∧ toldFrom Vatrkj.start cs0 = ns ++ toldFrom s rest, ⟨_, 0, none, none, none, [], Vatrkj.start, cs0, rfl, rfl, (hL.mono s1).mono sM, hH1.mono sM, (away_new hH1 hM).same hH1 sM, good_start, upd_same, Nat.zero_le _, hcs, hlim, rfl⟩, ?_⟩
  rintro m σ H' ⟨i, u1, u2, u3, ns, s, rest, rfl, rfl, hL', hH', hW, hG, hM', hi, hrest, hlim', hq⟩
  have lL : (L.map V.int).length = L.length := List.length_map ..
  refine ev_if (ev_test (ev_lt (ev_var rfl) (ev_len (K := K) (ev_var rfl) hL'))) (fun c => ?_) fun c => ?_
  case refine_2 =>
    have c' := of_decide_eq_false c
    rw [lL] at c'
    rw [List.drop_eq_nil_of_le (by omega : L.length ≤ i)] at hrest
    obtain rfl : rest = [] := (Option.some.inj hrest).symm
    rw [toldFrom_nil, List.append_nil] at hq
    refine ⟨_, rfl, k _ _ ?_⟩
    rw [hq]
    exact hM'
  have c' := of_decide_eq_true c
  rw [lL] at c'
  obtain ⟨p, hp⟩ := get_of (l := L) (i := i) (by omega)
  rw [drop_more hp] at hrest
  obtain ⟨cc, t, rest', hcall, hpt, rfl, htl⟩ := pcs_cons hrest
  obtain ⟨n, kd, hs, hn, hform⟩ := call_forms hcall
  have hlr : (L.drop (i + 1)).length = L.length - (i + 1) := List.length_drop ..
  have hxl : ((L.drop (i + 1)).take n).length = n := by rw [List.length_take]; omega
  have hp6 : p ≤ 13 := by
    rcases hform with ⟨_, hc, _⟩ | ⟨_, m', _, _, hc, _⟩
    · exact hlim' cc List.mem_cons_self _ _ _ hc
    · exact hlim' cc List.mem_cons_self _ _ _ hc
  have hlim2 : Lim rest' := fun c hc => hlim' c (List.mem_cons_of_mem _ hc)
  obtain ⟨sl, ad, t1, t2, t3⟩ := shapes_get T hs hp6
  refine ⟨_, fun _ _ h => h, ?_⟩
  have ej : ((i + 1 + n : Nat) : Int) = ((i : Int) + 1 + (n : Int)) := by omega
  have e4 : Evs (tOp (rI0 fun i j => .int (i + j)) (tOp (rI0 fun i j => .int (i + j)) (tVar 3) (tC (.int 1))) (tOp (rIxT K) (tOp (rIxT K) (tC (.ref a.a_SHAPES)) (tOp (rIxL K) (tVar 0) (tVar 3))) (tC (.int 0)))) [some (.ref pc), some (.ref x), some (.ref M), some (.int i), u1, u2, u3] H' (.int ((i + 1 + n : Nat) : Int)) := by
    rw [ej]
    exact ev_add (ev_add (ev_var rfl) ev_c) (ev_ixT (K := K) (ev_ixT (K := K) ev_c (ev_int (ev_var rfl) (ev_var rfl) hL' rfl hp) (t1 H') t2) ev_c (t3 H') (v := .int n) rfl)
  refine e4 _ ?_
  -- what the call is, where it ends
  obtain ⟨row, en, hen, hen2, hrow, hk1, hk0, hw⟩ : ∃ (row : List Int) (en : Nat), i + 1 + n ≤ en ∧ en ≤ L.length ∧ cutV (L.map V.int) (some ((i + 1 + n + 1 : Nat) : Int)) (some (en : Int)) = row.map V.int ∧ (kd = 1 → ∃ m : Nat, L[i + 1 + n]? = some (m : Int) ∧ en = i + 1 + n + 1 + m) ∧ (kd ≠ 1 → en = i + 1 + n) ∧ (t = L.drop en ∧ cc = (p :: (L.drop (i + 1)).take n) :: (if kd = 1 then [row] else []) ∧ row.length ≤ 16000) := by
    rcases hform with ⟨rfl, hc, ht⟩ | ⟨rfl, m', hm, hml, hc, ht⟩
    · refine ⟨[], i + 1 + n, Nat.le_refl _, by omega, ?_, fun z => absurd z (by decide), fun _ => rfl, ?_, hc, Nat.zero_le _⟩
      · unfold cutV
        rw [HT.sIx_nat, HT.sIx_nat, List.length_map]
        have e0 : min (i + 1 + n) L.length - min (i + 1 + n + 1) L.length = 0 := by omega
        rw [e0, List.take_zero]; rfl
      · rw [ht, List.drop_drop]
    · have hm2 : L[i + 1 + n]? = some (m' : Int) := by rw [← hm, List.getElem?_drop]
      refine ⟨(L.drop (i + 1 + n + 1)).take m', i + 1 + n + 1 + m', by omega, by omega, ?_, fun _ => ⟨m', hm2, rfl⟩, fun z => absurd rfl z, ?_, ?_, by rw [List.length_take, List.length_drop]; omega⟩
      · rw [cut_nat (by rw [List.length_map]; omega) (by rw [List.length_map]; omega), Nat.add_sub_cancel_left, List.map_take, List.map_drop]
      · rw [ht, List.drop_drop]; congr 1; omega
      · rw [hc, List.drop_drop]; rfl
  obtain ⟨ht, hcc, hrl⟩ := hw
  obtain ⟨kk, hck, hco⟩ := callIs_of (row := row) hs hxl
  rw [← hcc] at hco
  rw [toldFrom_cons hco] at hq
  refine ⟨_, rfl, _, rfl, _, rfl, _, _, _, rfl, pc, L, i, i + 1 + n, p, n, kd, rfl, hL', rfl, hp, hs, hp6, rfl, en, hk1, hk0, ?_⟩
  refine ⟨_, rfl, ev_int (ev_var rfl) (ev_var rfl) hL' rfl hp _ ?_⟩
  refine ⟨_, rfl, _, rfl, _, _, rfl, rfl, _, rfl, _, rfl, _, rfl, pc, _, rfl, hL', fun q1 hq1 => ?_⟩
  have sq1 := Same.new (o := .lst (cutV (L.map V.int) (some ((i : Int) + 1)) (some ((i + 1 + n : Nat) : Int)))) hq1
  have hcut : cutV (L.map V.int) (some ((i : Int) + 1)) (some ((i + 1 + n : Nat) : Int)) = ((L.drop (i + 1)).take n).map V.int := by
    have e : ((i : Int) + 1) = ((i + 1 : Nat) : Int) := by omega
    rw [e, cut_nat (by rw [List.length_map]; omega) (by rw [List.length_map]; omega), Nat.add_sub_cancel_left, List.map_take, List.map_drop]
  refine ⟨_, rfl, _, rfl, _, _, rfl, rfl, _, rfl, _, rfl, _, rfl, pc, _, rfl, hL'.mono sq1, fun q2 hq2 => ?_⟩
  have sq2 := Same.new (o := .lst (cutV (L.map V.int) (some (((i + 1 + n : Nat) : Int) + 1)) (some (en : Int)))) hq2
  have hcut2 : cutV (L.map V.int) (some (((i + 1 + n : Nat) : Int) + 1)) (some (en : Int)) = row.map V.int := hrow
  have s12 := sq1.trans sq2
  have i1 : Is K (upd (upd H' q1 (.lst (cutV (L.map V.int) (some ((i : Int) + 1)) (some ((i + 1 + n : Nat) : Int))))) q2 (.lst (cutV (L.map V.int) (some (((i + 1 + n : Nat) : Int) + 1)) (some (en : Int))))) q1 ((L.drop (i + 1)).take n) := Is.of (sq2 _ _ (by rw [upd_same, hcut]))
  have i2 : Is K (upd (upd H' q1 (.lst (cutV (L.map V.int) (some ((i : Int) + 1)) (some ((i + 1 + n : Nat) : Int))))) q2 (.lst (cutV (L.map V.int) (some (((i + 1 + n : Nat) : Int) + 1)) (some (en : Int))))) q2 row := Is.of (by rw [upd_same, hcut2])
  refine ⟨_, _, _, _, rfl, x, ae, q1, q2, s, p, _, row, kk, rfl, hH'.mono s12, hG, rfl, rfl, i1, rfl, i2, hrl, hck, hp6, fun H3 qa hH3 hG3 kp3 nqa hqa => ?_⟩
  obtain ⟨dx', at', hx', _⟩ := hH'.ins
  have hM2 := s12 _ _ hM'
  have hM3 : H3 M = some (.lst (ns.map V.int)) := kp3.keep _ _ hM2 (ne_of hM' hx' (by intro z; cases z)) (hH'.ne' hM')
  have hL3 : Is K H3 pc L := Is.keeps (hH'.mono s12) kp3 (hL'.mono s12)
  have nqM : qa ≠ M := fun z => by rw [z, hM2] at nqa; cases nqa
  have hlen2 : ns.length + (1 + (enc (Vatrkj.step s kk).2).length) ≤ 10000000 := by
    rw [hq] at hbig
    simp only [List.length_append, List.length_cons] at hbig
    have : (enc (Vatrkj.step s kk).2).length = (VatrkjNeutral.encode (Vatrkj.step s kk).2).length := rfl
    omega
  refine ⟨_, rfl, .inl ⟨rfl, _, SqL.of hM3⟩, _, rfl, qa, _, rfl, .inl (SqL.of hqa), M, _, _, rfl, rfl, hM3, lt_size (by rw [List.length_map]; omega), ?_⟩
  have hqa3 : (upd H3 M (.lst (ns.map V.int ++ [V.int (((enc (Vatrkj.step s kk).2).map V.int).length : Nat)]))) qa = some (.lst ((enc (Vatrkj.step s kk).2).map V.int)) := by rw [upd_ne nqM]; exact hqa
  refine ⟨_, rfl, .inl ⟨rfl, _, SqL.of upd_same⟩, _, rfl, M, qa, _, _, rfl, rfl, upd_same, hqa3, le_size (by rw [List.length_append, List.length_map, List.length_map]; show ns.length + 1 + _ ≤ _; omega), ?_⟩
  rw [upd_upd]
  refine ⟨_, rfl, ?_⟩
  obtain ⟨dx3, at3, hx3, _⟩ := hH3.ins
  have nMx : M ≠ x := ne_of hM3 hx3 (by intro z; cases z)
  have nMa : M ≠ ae := hH3.ne' hM3
  have hW3 : Away M x ae H3 := kp3.moves M _ hM2 (ne_of hM' hx' (by intro z; cases z)) (hH'.ne' hM') (hW.same hH' s12)
  obtain ⟨hH4, hW4⟩ := hH3.updM (o := .lst ((ns.map V.int ++ [V.int (((enc (Vatrkj.step s kk).2).map V.int).length : Nat)]) ++ (enc (Vatrkj.step s kk).2).map V.int)) hW3 hM3 nMx nMa
  have hL4 : Is K (upd H3 M (.lst ((ns.map V.int ++ [V.int (((enc (Vatrkj.step s kk).2).map V.int).length : Nat)]) ++ (enc (Vatrkj.step s kk).2).map V.int))) pc L := by
    rcases hL with (g | ⟨o, g⟩) | g
    · have hpM := hpcK ⟨_, g⟩
      rcases hL3 with (g | ⟨o, g⟩) | g
      · exact .inl (.inl (by rw [upd_ne hpM]; exact g))
      · exact .inl (.inr ⟨o, by rw [upd_ne hpM]; exact g⟩)
      · exact .inr g
    · have hpM := hpcK ⟨_, g⟩
      rcases hL3 with (g | ⟨o, g⟩) | g
      · exact .inl (.inl (by rw [upd_ne hpM]; exact g))
      · exact .inl (.inr ⟨o, by rw [upd_ne hpM]; exact g⟩)
      · exact .inr g
    · exact .inr g
  rw [ht] at hpt
  refine ⟨_, ?_, en, _, _, _, ns ++ ((enc (Vatrkj.step s kk).2).length : Int) :: enc (Vatrkj.step s kk).2, _, rest', rfl, rfl, hL4, hH4, hW4, hG3, ?_, hen2, hpt, hlim2, ?_⟩
  · omega
  · rw [upd_same, List.length_map]
    simp
  · rw [hq, List.append_assoc]
    rfl
end Ev

namespace Ev
open PySem PySem.Spec PyProof.Rows L2
open PySem.W (Codec)
section
variable {K : PySem.W.Frag} {h : Heap} {mg : Str → Option Value}
theorem dfn_mk {x qual : Str} {st : Stmt} {ps : List Str} {f : Addr} {oc : Value} {od an : Option Addr} {osl : Array (Option Value)} {kV doc pm cdv ct : Value} (X : K.In h) (G : h.Ns mainGlobals mg) (av : PySem.W.nsIn K mainGlobals x = some (some (.ref f)))
    (l : K.lookup f = some ⟨oc, od, .func (PySem.W.fnOf x qual (defArgs st) (defBody st) (defScope st) .none kV doc pm an cdv ct), osl⟩) (c : PySem.W.codeIn K cdv qual = true) (k : PySem.W.keepIn K (.ref f) = true)
    (hb : ∀ (kV doc pm : Value) (an : Option Addr) (cdv ct : Value) (us : List Value), us.length = ps.length → bindArgs (PySem.W.fnOf x qual (defArgs st) (defBody st) (defScope st) .none kV doc pm an cdv ct) ⟨us, []⟩ = pure (ps.zip us)) : Dfn K mg x qual st ps :=
  ⟨f, _, fun_mk l c k, PySem.W.mg_of X G av, (fun_mk l c k).binds hb⟩
theorem dfnM_mk {C : Addr} {x qual : Str} {st : Stmt} {ps : List Str} {f : Addr} {oc : Value} {od an : Option Addr} {osl : Array (Option Value)} {kV doc pm cdv ct : Value} (av : PySem.W.findIn K (.ref C) x = some (some (.ref f))) (i : PySem.W.isFn K (.ref f) = true)
    (l : K.lookup f = some ⟨oc, od, .func (PySem.W.fnOf x qual (defArgs st) (defBody st) (defScope st) .none kV doc pm an cdv ct), osl⟩) (c : PySem.W.codeIn K cdv qual = true) (k : PySem.W.keepIn K (.ref f) = true)
    (hb : ∀ (kV doc pm : Value) (an : Option Addr) (cdv ct : Value) (us : List Value), us.length = ps.length → bindArgs (PySem.W.fnOf x qual (defArgs st) (defBody st) (defScope st) .none kV doc pm an cdv ct) ⟨us, []⟩ = pure (ps.zip us)) : DfnM K C x qual st ps :=
  ⟨f, _, fun_mk l c k, ⟨av, i, k⟩, (fun_mk l c k).binds hb⟩
theorem dfnI_mk {C : Addr} {qual : Str} {st : Stmt} {ps : List Str} {f : Addr} {oc : Value} {od an : Option Addr} {osl : Array (Option Value)} {kV doc pm cdv ct : Value} (mk : PySem.W.makesIn K C = true) (kc : PySem.W.keepIn K (.ref C) = true) (av : PySem.W.findIn K (.ref C) "__init__" = some (some (.ref f))) (i : PySem.W.isFn K (.ref f) = true)
    (l : K.lookup f = some ⟨oc, od, .func (PySem.W.fnOf "__init__" qual (defArgs st) (defBody st) (defScope st) .none kV doc pm an cdv ct), osl⟩) (c : PySem.W.codeIn K cdv qual = true) (k : PySem.W.keepIn K (.ref f) = true)
    (hb : ∀ (kV doc pm : Value) (an : Option Addr) (cdv ct : Value) (us : List Value), us.length = ps.length → bindArgs (PySem.W.fnOf "__init__" qual (defArgs st) (defBody st) (defScope st) .none kV doc pm an cdv ct) ⟨us, []⟩ = pure (ps.zip us)) : DfnI K C qual st ps :=
  ⟨f, _, fun_mk l c k, ⟨mk, av, i, kc⟩, (fun_mk l c k).binds hb⟩
end
theorem chain {P : Program} {w : World} {K : PySem.W.Frag} {mg : Str → Option Value} {base : Heap} {a : Ad} {f : Addr} {fd : FuncData} (T : Txt K mg a)
    (D_Held___init__ : DfnI K a.k_Held "Held.__init__" s_Held___init__ ["self"])
    (D_call_end : Dfn K mg "call_end" "call_end" s_call_end ["calls", "at", "row_at"])
    (D_numbers_of_letters : Dfn K mg "numbers_of_letters" "numbers_of_letters" s_numbers_of_letters ["letters"])
    (D_Held_call_show : DfnM K a.k_Held "call_show" "Held.call_show" s_Held_call_show ["self"])
    (D_is_sign : Dfn K mg "is_sign" "is_sign" s_is_sign ["number"])
    (D_is_look : Dfn K mg "is_look" "is_look" s_is_look ["number"])
    (D_letters_told : Dfn K mg "letters_told" "letters_told" s_letters_told ["numbers"])
    (D_Held_call_text : DfnM K a.k_Held "call_text" "Held.call_text" s_Held_call_text ["self", "row"])
    (D_letters_end : Dfn K mg "letters_end" "letters_end" s_letters_end ["numbers", "at", "n"])
    (D_is_paint : Dfn K mg "is_paint" "is_paint" s_is_paint ["f", "g"])
    (D_part_end : Dfn K mg "part_end" "part_end" s_part_end ["numbers", "at"])
    (D_parts_told : Dfn K mg "parts_told" "parts_told" s_parts_told ["numbers"])
    (D_old_length : Dfn K mg "old_length" "old_length" s_old_length ["steps"])
    (D_new_length : Dfn K mg "new_length" "new_length" s_new_length ["steps"])
    (D_Held_hold : DfnM K a.k_Held "hold" "Held.hold" s_Held_hold ["self", "t", "steps"])
    (D_name_edits : Dfn K mg "name_edits" "name_edits" s_name_edits ["names"])
    (D_in_form : Dfn K mg "in_form" "in_form" s_in_form ["steps"])
    (D_part_n : Dfn K mg "part_n" "part_n" s_part_n ["part"])
    (D_old_length_told : Dfn K mg "old_length_told" "old_length_told" s_old_length_told ["parts"])
    (D_new_length_told : Dfn K mg "new_length_told" "new_length_told" s_new_length_told ["parts"])
    (D_steps_of_part : Dfn K mg "steps_of_part" "steps_of_part" s_steps_of_part ["part"])
    (D_steps_of_parts : Dfn K mg "steps_of_parts" "steps_of_parts" s_steps_of_parts ["parts"])
    (D_Held_call_set : DfnM K a.k_Held "call_set" "Held.call_set" s_Held_call_set ["self", "r", "row"])
    (D_share_part : Dfn K mg "share_part" "share_part" s_share_part ["one", "other"])
    (D_run_end : Dfn K mg "run_end" "run_end" s_run_end ["steps", "at"])
    (D_part_of_run : Dfn K mg "part_of_run" "part_of_run" s_part_of_run ["run"])
    (D_numbers_of_steps : Dfn K mg "numbers_of_steps" "numbers_of_steps" s_numbers_of_steps ["steps"])
    (D_Held_call_get : DfnM K a.k_Held "call_get" "Held.call_get" s_Held_call_get ["self", "r"])
    (D_takes : Dfn K mg "takes" "takes" s_takes ["step", "letter"])
    (D_brought : Dfn K mg "brought" "brought" s_brought ["step", "letter"])
    (D_applied : Dfn K mg "applied" "applied" s_applied ["steps", "text"])
    (D_Held_call_apply : DfnM K a.k_Held "call_apply" "Held.call_apply" s_Held_call_apply ["self", "r"])
    (D_made_of_put : Dfn K mg "made_of_put" "made_of_put" s_made_of_put ["sign", "g", "takes"])
    (D_made_of_painted : Dfn K mg "made_of_painted" "made_of_painted" s_made_of_painted ["f", "g", "takes"])
    (D_made_of : Dfn K mg "made_of" "made_of" s_made_of ["brings", "takes"])
    (D_composed : Dfn K mg "composed" "composed" s_composed ["r", "s"])
    (D_Held_call_compose : DfnM K a.k_Held "call_compose" "Held.call_compose" s_Held_call_compose ["self", "r", "s", "t"])
    (D_turned_step : Dfn K mg "turned_step" "turned_step" s_turned_step ["step"])
    (D_turned : Dfn K mg "turned" "turned" s_turned ["steps"])
    (D_Held_call_turn : DfnM K a.k_Held "call_turn" "Held.call_turn" s_Held_call_turn ["self", "r", "t"])
    (D_both_painted : Dfn K mg "both_painted" "both_painted" s_both_painted ["one", "other", "one_first"])
    (D_dropped_painted : Dfn K mg "dropped_painted" "dropped_painted" s_dropped_painted ["paint", "drop"])
    (D_kept_beside : Dfn K mg "kept_beside" "kept_beside" s_kept_beside ["other"])
    (D_carried : Dfn K mg "carried" "carried" s_carried ["one", "other", "one_first"])
    (D_rebased : Dfn K mg "rebased" "rebased" s_rebased ["r", "s", "r_first"])
    (D_Held_call_rebase : DfnM K a.k_Held "call_rebase" "Held.call_rebase" s_Held_call_rebase ["self", "r", "s", "t", "u", "first"])
    (D_Held_call_same : DfnM K a.k_Held "call_same" "Held.call_same" s_Held_call_same ["self", "r", "s"])
    (D_kept_letters : Dfn K mg "kept_letters" "kept_letters" s_kept_letters ["steps"])
    (D_backward : Dfn K mg "backward" "backward" s_backward ["steps", "p"])
    (D_forward : Dfn K mg "forward" "forward" s_forward ["steps", "p"])
    (D_Held_call_place : DfnM K a.k_Held "call_place" "Held.call_place" s_Held_call_place ["self", "r", "p"])
    (D_carried_stretch : Dfn K mg "carried_stretch" "carried_stretch" s_carried_stretch ["steps", "p", "q", "grows_at_beginning", "grows_at_end"])
    (D_is_stretch : Dfn K mg "is_stretch" "is_stretch" s_is_stretch ["p", "q", "length"])
    (D_count_kept : Dfn K mg "count_kept" "count_kept" s_count_kept ["steps", "p", "q"])
    (D_Held_call_stretch : DfnM K a.k_Held "call_stretch" "Held.call_stretch" s_Held_call_stretch ["self", "r", "p", "q", "grows"])
    (D_stretch_end : Dfn K mg "stretch_end" "stretch_end" s_stretch_end ["letters", "at"])
    (D_kept_stretches : Dfn K mg "kept_stretches" "kept_stretches" s_kept_stretches ["steps"])
    (D_Held_call_kept : DfnM K a.k_Held "call_kept" "Held.call_kept" s_Held_call_kept ["self", "r"])
    (D_replacing : Dfn K mg "replacing" "replacing" s_replacing ["text", "p", "q", "letters"])
    (D_Held_call_replace : DfnM K a.k_Held "call_replace" "Held.call_replace" s_Held_call_replace ["self", "t", "p", "q", "row"])
    (D_painting : Dfn K mg "painting" "painting" s_painting ["f", "g"])
    (D_repainting : Dfn K mg "repainting" "repainting" s_repainting ["text", "p", "q", "g"])
    (D_Held_call_repaint : DfnM K a.k_Held "call_repaint" "Held.call_repaint" s_Held_call_repaint ["self", "t", "p", "q", "g"])
    (D_answer_of : Dfn K mg "answer_of" "answer_of" s_answer_of ["held", "call", "numbers", "row"])
    (F : Fun K "answers" "answers" s_answers f fd) : FnOk P w K mg base CX0 8 f fd ["calls"] (spAns K) := by
  have U_Held___init__ := use_Held___init__ (P := P) (w := w) (base := base) T D_Held___init__ 
  have U_call_end := use_call_end (P := P) (w := w) (base := base) T D_call_end 
  have U_numbers_of_letters := use_numbers_of_letters (P := P) (w := w) (base := base) T D_numbers_of_letters 
  have U_Held_call_show := use_Held_call_show (P := P) (w := w) (base := base) T D_Held_call_show U_numbers_of_letters
  have U_is_sign := use_is_sign (P := P) (w := w) (base := base) T D_is_sign 
  have U_is_look := use_is_look (P := P) (w := w) (base := base) T D_is_look 
  have U_letters_told := use_letters_told (P := P) (w := w) (base := base) T D_letters_told U_is_sign U_is_look
  have U_Held_call_text := use_Held_call_text (P := P) (w := w) (base := base) T D_Held_call_text U_letters_told
  have U_letters_end := use_letters_end (P := P) (w := w) (base := base) T D_letters_end U_letters_told
  have U_is_paint := use_is_paint (P := P) (w := w) (base := base) T D_is_paint U_is_look
  have U_part_end := use_part_end (P := P) (w := w) (base := base) T D_part_end U_letters_end U_is_paint
  have U_parts_told := use_parts_told (P := P) (w := w) (base := base) T D_parts_told U_part_end
  have U_old_length := use_old_length (P := P) (w := w) (base := base) T D_old_length 
  have U_new_length := use_new_length (P := P) (w := w) (base := base) T D_new_length 
  have U_Held_hold := use_Held_hold (P := P) (w := w) (base := base) T D_Held_hold U_old_length U_new_length
  have U_name_edits := use_name_edits (P := P) (w := w) (base := base) T D_name_edits 
  have U_in_form := use_in_form (P := P) (w := w) (base := base) T D_in_form 
  have U_part_n := use_part_n (P := P) (w := w) (base := base) T D_part_n 
  have U_old_length_told := use_old_length_told (P := P) (w := w) (base := base) T D_old_length_told U_part_n
  have U_new_length_told := use_new_length_told (P := P) (w := w) (base := base) T D_new_length_told U_part_n
  have U_steps_of_part := use_steps_of_part (P := P) (w := w) (base := base) T D_steps_of_part U_part_n U_letters_told
  have U_steps_of_parts := use_steps_of_parts (P := P) (w := w) (base := base) T D_steps_of_parts U_steps_of_part
  have U_Held_call_set := use_Held_call_set (P := P) (w := w) (base := base) T D_Held_call_set U_parts_told U_Held_hold U_name_edits U_in_form U_old_length_told U_new_length_told U_steps_of_parts
  have U_share_part := use_share_part (P := P) (w := w) (base := base) T D_share_part 
  have U_run_end := use_run_end (P := P) (w := w) (base := base) T D_run_end U_share_part
  have U_part_of_run := use_part_of_run (P := P) (w := w) (base := base) T D_part_of_run 
  have U_numbers_of_steps := use_numbers_of_steps (P := P) (w := w) (base := base) T D_numbers_of_steps U_run_end U_part_of_run
  have U_Held_call_get := use_Held_call_get (P := P) (w := w) (base := base) T D_Held_call_get U_numbers_of_steps U_name_edits
  have U_takes := use_takes (P := P) (w := w) (base := base) T D_takes 
  have U_brought := use_brought (P := P) (w := w) (base := base) T D_brought 
  have U_applied := use_applied (P := P) (w := w) (base := base) T D_applied U_old_length U_takes U_brought
  have U_Held_call_apply := use_Held_call_apply (P := P) (w := w) (base := base) T D_Held_call_apply U_applied U_Held_call_show U_name_edits
  have U_made_of_put := use_made_of_put (P := P) (w := w) (base := base) T D_made_of_put 
  have U_made_of_painted := use_made_of_painted (P := P) (w := w) (base := base) T D_made_of_painted 
  have U_made_of := use_made_of (P := P) (w := w) (base := base) T D_made_of U_made_of_put U_made_of_painted
  have U_composed := use_composed (P := P) (w := w) (base := base) T D_composed U_in_form U_made_of
  have U_Held_call_compose := use_Held_call_compose (P := P) (w := w) (base := base) T D_Held_call_compose U_composed U_Held_hold U_name_edits
  have U_turned_step := use_turned_step (P := P) (w := w) (base := base) T D_turned_step 
  have U_turned := use_turned (P := P) (w := w) (base := base) T D_turned U_in_form U_turned_step
  have U_Held_call_turn := use_Held_call_turn (P := P) (w := w) (base := base) T D_Held_call_turn U_Held_hold U_name_edits U_turned
  have U_both_painted := use_both_painted (P := P) (w := w) (base := base) T D_both_painted 
  have U_dropped_painted := use_dropped_painted (P := P) (w := w) (base := base) T D_dropped_painted 
  have U_kept_beside := use_kept_beside (P := P) (w := w) (base := base) T D_kept_beside 
  have U_carried := use_carried (P := P) (w := w) (base := base) T D_carried U_both_painted U_dropped_painted U_kept_beside
  have U_rebased := use_rebased (P := P) (w := w) (base := base) T D_rebased U_in_form U_carried
  have U_Held_call_rebase := use_Held_call_rebase (P := P) (w := w) (base := base) T D_Held_call_rebase U_rebased U_Held_hold U_name_edits U_new_length
  have U_Held_call_same := use_Held_call_same (P := P) (w := w) (base := base) T D_Held_call_same U_name_edits
  have U_kept_letters := use_kept_letters (P := P) (w := w) (base := base) T D_kept_letters 
  have U_backward := use_backward (P := P) (w := w) (base := base) T D_backward U_kept_letters
  have U_forward := use_forward (P := P) (w := w) (base := base) T D_forward U_kept_letters U_new_length
  have U_Held_call_place := use_Held_call_place (P := P) (w := w) (base := base) T D_Held_call_place U_name_edits U_backward U_forward U_old_length
  have U_carried_stretch := use_carried_stretch (P := P) (w := w) (base := base) T D_carried_stretch U_backward U_forward
  have U_is_stretch := use_is_stretch (P := P) (w := w) (base := base) T D_is_stretch 
  have U_count_kept := use_count_kept (P := P) (w := w) (base := base) T D_count_kept U_kept_letters
  have U_Held_call_stretch := use_Held_call_stretch (P := P) (w := w) (base := base) T D_Held_call_stretch U_carried_stretch U_is_stretch U_count_kept U_name_edits U_old_length
  have U_stretch_end := use_stretch_end (P := P) (w := w) (base := base) T D_stretch_end 
  have U_kept_stretches := use_kept_stretches (P := P) (w := w) (base := base) T D_kept_stretches U_kept_letters U_stretch_end
  have U_Held_call_kept := use_Held_call_kept (P := P) (w := w) (base := base) T D_Held_call_kept U_kept_stretches U_name_edits
  have U_replacing := use_replacing (P := P) (w := w) (base := base) T D_replacing 
  have U_Held_call_replace := use_Held_call_replace (P := P) (w := w) (base := base) T D_Held_call_replace U_letters_told U_replacing U_Held_hold U_name_edits U_is_stretch U_new_length
  have U_painting := use_painting (P := P) (w := w) (base := base) T D_painting 
  have U_repainting := use_repainting (P := P) (w := w) (base := base) T D_repainting U_painting
  have U_Held_call_repaint := use_Held_call_repaint (P := P) (w := w) (base := base) T D_Held_call_repaint U_Held_hold U_is_stretch U_repainting U_name_edits U_is_look
  have U_answer_of := use_answer_of (P := P) (w := w) (base := base) T D_answer_of U_Held_call_show U_Held_call_text U_Held_call_set U_Held_call_get U_Held_call_apply U_Held_call_compose U_Held_call_turn U_Held_call_rebase U_Held_call_same U_Held_call_place U_Held_call_stretch U_Held_call_kept U_Held_call_replace U_Held_call_repaint
  exact use_answers T F U_Held___init__ U_call_end U_answer_of
theorem txt_mk {K : PySem.W.Frag} {h : Heap} {mg : Str → Option Value} {t_KEEP : Tok} {t_PAINT : Tok} {t_DROP : Tok} {t_PUT : Tok} {t_MOST : Tok} {a_HEADS : Addr} {oc_HEADS : Option Addr} {n_HEADS : Nat} {sl_HEADS : Array (Option Value)} {t_HEADS_0 : Tok} {t_HEADS_1 : Tok} {t_HEADS_2 : Tok} {t_HEADS_3 : Tok} {t_MOST_IN_PART : Tok} {t_EDITS : Tok} {a_SHAPES : Addr} {oc_SHAPES : Option Addr} {n_SHAPES : Nat} {sl_SHAPES : Array (Option Value)} {a_SHAPES_0 : Addr} {a_SHAPES_1 : Addr} {a_SHAPES_2 : Addr} {a_SHAPES_3 : Addr} {a_SHAPES_4 : Addr} {a_SHAPES_5 : Addr} {a_SHAPES_6 : Addr} {a_SHAPES_7 : Addr} {a_SHAPES_8 : Addr} {a_SHAPES_9 : Addr} {a_SHAPES_10 : Addr} {a_SHAPES_11 : Addr} {a_SHAPES_12 : Addr} {a_SHAPES_13 : Addr} {t_SHAPES_0_0 : Tok} {oc_SHAPES_0 : Option Addr} {n_SHAPES_0 : Nat} {sl_SHAPES_0 : Array (Option Value)} {t_SHAPES_1_0 : Tok} {oc_SHAPES_1 : Option Addr} {n_SHAPES_1 : Nat} {sl_SHAPES_1 : Array (Option Value)} {t_SHAPES_2_0 : Tok} {oc_SHAPES_2 : Option Addr} {n_SHAPES_2 : Nat} {sl_SHAPES_2 : Array (Option Value)} {t_SHAPES_3_0 : Tok} {oc_SHAPES_3 : Option Addr} {n_SHAPES_3 : Nat} {sl_SHAPES_3 : Array (Option Value)} {t_SHAPES_4_0 : Tok} {oc_SHAPES_4 : Option Addr} {n_SHAPES_4 : Nat} {sl_SHAPES_4 : Array (Option Value)} {t_SHAPES_5_0 : Tok} {oc_SHAPES_5 : Option Addr} {n_SHAPES_5 : Nat} {sl_SHAPES_5 : Array (Option Value)} {t_SHAPES_6_0 : Tok} {oc_SHAPES_6 : Option Addr} {n_SHAPES_6 : Nat} {sl_SHAPES_6 : Array (Option Value)} {t_SHAPES_7_0 : Tok} {oc_SHAPES_7 : Option Addr} {n_SHAPES_7 : Nat} {sl_SHAPES_7 : Array (Option Value)} {t_SHAPES_8_0 : Tok} {oc_SHAPES_8 : Option Addr} {n_SHAPES_8 : Nat} {sl_SHAPES_8 : Array (Option Value)} {t_SHAPES_9_0 : Tok} {oc_SHAPES_9 : Option Addr} {n_SHAPES_9 : Nat} {sl_SHAPES_9 : Array (Option Value)} {t_SHAPES_10_0 : Tok} {oc_SHAPES_10 : Option Addr} {n_SHAPES_10 : Nat} {sl_SHAPES_10 : Array (Option Value)} {t_SHAPES_11_0 : Tok} {oc_SHAPES_11 : Option Addr} {n_SHAPES_11 : Nat} {sl_SHAPES_11 : Array (Option Value)} {t_SHAPES_12_0 : Tok} {oc_SHAPES_12 : Option Addr} {n_SHAPES_12 : Nat} {sl_SHAPES_12 : Array (Option Value)} {t_SHAPES_13_0 : Tok} {oc_SHAPES_13 : Option Addr} {n_SHAPES_13 : Nat} {sl_SHAPES_13 : Array (Option Value)} {k_Held : Addr} (X : K.In h) (G : h.Ns mainGlobals mg)
    (z_len : PySem.W.nsIn K mainGlobals "len" = some none)
    (z_range : PySem.W.nsIn K mainGlobals "range" = some none)
    (z_sum : PySem.W.nsIn K mainGlobals "sum" = some none)
    (z_all : PySem.W.nsIn K mainGlobals "all" = some none)
    (z_min : PySem.W.nsIn K mainGlobals "min" = some none)
    (g_KEEP : PySem.W.nsIn K mainGlobals "KEEP" = some (some (.int 0 t_KEEP)))
    (g_PAINT : PySem.W.nsIn K mainGlobals "PAINT" = some (some (.int 1 t_PAINT)))
    (g_DROP : PySem.W.nsIn K mainGlobals "DROP" = some (some (.int 2 t_DROP)))
    (g_PUT : PySem.W.nsIn K mainGlobals "PUT" = some (some (.int 3 t_PUT)))
    (g_MOST : PySem.W.nsIn K mainGlobals "MOST" = some (some (.int 2000 t_MOST)))
    (g_HEADS : PySem.W.nsIn K mainGlobals "HEADS" = some (some (.ref a_HEADS)))
    (l_HEADS : K.lookup a_HEADS = some ⟨.type "tuple", oc_HEADS, .seq #[.int 2 t_HEADS_0, .int 4 t_HEADS_1, .int 2 t_HEADS_2, .int 2 t_HEADS_3] n_HEADS, sl_HEADS⟩)
    (g_MOST_IN_PART : PySem.W.nsIn K mainGlobals "MOST_IN_PART" = some (some (.int 2000 t_MOST_IN_PART)))
    (g_EDITS : PySem.W.nsIn K mainGlobals "EDITS" = some (some (.int 10 t_EDITS)))
    (g_SHAPES : PySem.W.nsIn K mainGlobals "SHAPES" = some (some (.ref a_SHAPES)))
    (l_SHAPES : K.lookup a_SHAPES = some ⟨.type "tuple", oc_SHAPES, .seq #[.ref a_SHAPES_0, .ref a_SHAPES_1, .ref a_SHAPES_2, .ref a_SHAPES_3, .ref a_SHAPES_4, .ref a_SHAPES_5, .ref a_SHAPES_6, .ref a_SHAPES_7, .ref a_SHAPES_8, .ref a_SHAPES_9, .ref a_SHAPES_10, .ref a_SHAPES_11, .ref a_SHAPES_12, .ref a_SHAPES_13] n_SHAPES, sl_SHAPES⟩)
    (l_SHAPES_0 : K.lookup a_SHAPES_0 = some ⟨.type "tuple", oc_SHAPES_0, .seq #[.int 0 t_SHAPES_0_0, .bool true] n_SHAPES_0, sl_SHAPES_0⟩)
    (l_SHAPES_1 : K.lookup a_SHAPES_1 = some ⟨.type "tuple", oc_SHAPES_1, .seq #[.int 1 t_SHAPES_1_0, .bool true] n_SHAPES_1, sl_SHAPES_1⟩)
    (l_SHAPES_2 : K.lookup a_SHAPES_2 = some ⟨.type "tuple", oc_SHAPES_2, .seq #[.int 1 t_SHAPES_2_0, .bool false] n_SHAPES_2, sl_SHAPES_2⟩)
    (l_SHAPES_3 : K.lookup a_SHAPES_3 = some ⟨.type "tuple", oc_SHAPES_3, .seq #[.int 1 t_SHAPES_3_0, .bool false] n_SHAPES_3, sl_SHAPES_3⟩)
    (l_SHAPES_4 : K.lookup a_SHAPES_4 = some ⟨.type "tuple", oc_SHAPES_4, .seq #[.int 3 t_SHAPES_4_0, .bool false] n_SHAPES_4, sl_SHAPES_4⟩)
    (l_SHAPES_5 : K.lookup a_SHAPES_5 = some ⟨.type "tuple", oc_SHAPES_5, .seq #[.int 2 t_SHAPES_5_0, .bool false] n_SHAPES_5, sl_SHAPES_5⟩)
    (l_SHAPES_6 : K.lookup a_SHAPES_6 = some ⟨.type "tuple", oc_SHAPES_6, .seq #[.int 5 t_SHAPES_6_0, .bool false] n_SHAPES_6, sl_SHAPES_6⟩)
    (l_SHAPES_7 : K.lookup a_SHAPES_7 = some ⟨.type "tuple", oc_SHAPES_7, .seq #[.int 2 t_SHAPES_7_0, .bool false] n_SHAPES_7, sl_SHAPES_7⟩)
    (l_SHAPES_8 : K.lookup a_SHAPES_8 = some ⟨.type "tuple", oc_SHAPES_8, .seq #[.int 2 t_SHAPES_8_0, .bool false] n_SHAPES_8, sl_SHAPES_8⟩)
    (l_SHAPES_9 : K.lookup a_SHAPES_9 = some ⟨.type "tuple", oc_SHAPES_9, .seq #[.int 4 t_SHAPES_9_0, .bool false] n_SHAPES_9, sl_SHAPES_9⟩)
    (l_SHAPES_10 : K.lookup a_SHAPES_10 = some ⟨.type "tuple", oc_SHAPES_10, .seq #[.int 1 t_SHAPES_10_0, .bool false] n_SHAPES_10, sl_SHAPES_10⟩)
    (l_SHAPES_11 : K.lookup a_SHAPES_11 = some ⟨.type "tuple", oc_SHAPES_11, .seq #[.int 3 t_SHAPES_11_0, .bool true] n_SHAPES_11, sl_SHAPES_11⟩)
    (l_SHAPES_12 : K.lookup a_SHAPES_12 = some ⟨.type "tuple", oc_SHAPES_12, .seq #[.int 4 t_SHAPES_12_0, .bool false] n_SHAPES_12, sl_SHAPES_12⟩)
    (l_SHAPES_13 : K.lookup a_SHAPES_13 = some ⟨.type "tuple", oc_SHAPES_13, .seq #[.int 0 t_SHAPES_13_0, .bool false] n_SHAPES_13, sl_SHAPES_13⟩)
    (g_Held : PySem.W.nsIn K mainGlobals "Held" = some (some (.ref k_Held)))
    (pg_Held : PySem.W.plainGet K k_Held Str.empty = true)
    (hd_Held : PySem.W.hasDictIn K k_Held = true)
    (po_Held : PySem.W.plainOver K k_Held = true)
    (sa_Held : PySem.W.findIn K (.ref k_Held) "__setattr__" = some (some (.builtin "object.__setattr__")))
    (na_Held_text : PySem.W.findIn K (.ref k_Held) "text" = some none)
    (na_Held_edits : PySem.W.findIn K (.ref k_Held) "edits" = some none) : Txt K mg ⟨t_KEEP, t_PAINT, t_DROP, t_PUT, t_MOST, a_HEADS, t_MOST_IN_PART, t_EDITS, a_SHAPES, a_SHAPES_0, a_SHAPES_1, a_SHAPES_2, a_SHAPES_3, a_SHAPES_4, a_SHAPES_5, a_SHAPES_6, a_SHAPES_7, a_SHAPES_8, a_SHAPES_9, a_SHAPES_10, a_SHAPES_11, a_SHAPES_12, a_SHAPES_13, k_Held⟩ :=
  ⟨PySem.W.mg_none_of X G z_len,
    PySem.W.mg_none_of X G z_range,
    PySem.W.mg_none_of X G z_sum,
    PySem.W.mg_none_of X G z_all,
    PySem.W.mg_none_of X G z_min,
    PySem.W.mg_of X G g_KEEP,
    PySem.W.mg_of X G g_PAINT,
    PySem.W.mg_of X G g_DROP,
    PySem.W.mg_of X G g_PUT,
    PySem.W.mg_of X G g_MOST,
    PySem.W.mg_of X G g_HEADS,
    fun H => .inr ⟨_, _, _, l_HEADS, rfl, rfl, by show 4 ≤ sizeLine; decide, .cons ⟨_, rfl⟩ (.cons ⟨_, rfl⟩ (.cons ⟨_, rfl⟩ (.cons ⟨_, rfl⟩ (.nil))))⟩,
    PySem.W.mg_of X G g_MOST_IN_PART,
    PySem.W.mg_of X G g_EDITS,
    PySem.W.mg_of X G g_SHAPES,
    fun H => .inr ⟨_, _, _, l_SHAPES_0, rfl, rfl, by show 2 ≤ sizeLine; decide, .cons ⟨_, rfl⟩ (.cons rfl (.nil))⟩,
    fun H => .inr ⟨_, _, _, l_SHAPES_1, rfl, rfl, by show 2 ≤ sizeLine; decide, .cons ⟨_, rfl⟩ (.cons rfl (.nil))⟩,
    fun H => .inr ⟨_, _, _, l_SHAPES_2, rfl, rfl, by show 2 ≤ sizeLine; decide, .cons ⟨_, rfl⟩ (.cons rfl (.nil))⟩,
    fun H => .inr ⟨_, _, _, l_SHAPES_3, rfl, rfl, by show 2 ≤ sizeLine; decide, .cons ⟨_, rfl⟩ (.cons rfl (.nil))⟩,
    fun H => .inr ⟨_, _, _, l_SHAPES_4, rfl, rfl, by show 2 ≤ sizeLine; decide, .cons ⟨_, rfl⟩ (.cons rfl (.nil))⟩,
    fun H => .inr ⟨_, _, _, l_SHAPES_5, rfl, rfl, by show 2 ≤ sizeLine; decide, .cons ⟨_, rfl⟩ (.cons rfl (.nil))⟩,
    fun H => .inr ⟨_, _, _, l_SHAPES_6, rfl, rfl, by show 2 ≤ sizeLine; decide, .cons ⟨_, rfl⟩ (.cons rfl (.nil))⟩,
    fun H => .inr ⟨_, _, _, l_SHAPES_7, rfl, rfl, by show 2 ≤ sizeLine; decide, .cons ⟨_, rfl⟩ (.cons rfl (.nil))⟩,
    fun H => .inr ⟨_, _, _, l_SHAPES_8, rfl, rfl, by show 2 ≤ sizeLine; decide, .cons ⟨_, rfl⟩ (.cons rfl (.nil))⟩,
    fun H => .inr ⟨_, _, _, l_SHAPES_9, rfl, rfl, by show 2 ≤ sizeLine; decide, .cons ⟨_, rfl⟩ (.cons rfl (.nil))⟩,
    fun H => .inr ⟨_, _, _, l_SHAPES_10, rfl, rfl, by show 2 ≤ sizeLine; decide, .cons ⟨_, rfl⟩ (.cons rfl (.nil))⟩,
    fun H => .inr ⟨_, _, _, l_SHAPES_11, rfl, rfl, by show 2 ≤ sizeLine; decide, .cons ⟨_, rfl⟩ (.cons rfl (.nil))⟩,
    fun H => .inr ⟨_, _, _, l_SHAPES_12, rfl, rfl, by show 2 ≤ sizeLine; decide, .cons ⟨_, rfl⟩ (.cons rfl (.nil))⟩,
    fun H => .inr ⟨_, _, _, l_SHAPES_13, rfl, rfl, by show 2 ≤ sizeLine; decide, .cons ⟨_, rfl⟩ (.cons rfl (.nil))⟩,
    fun H => .inr ⟨_, _, _, l_SHAPES, rfl, rfl, by show 14 ≤ sizeLine; decide, .cons rfl (.cons rfl (.cons rfl (.cons rfl (.cons rfl (.cons rfl (.cons rfl (.cons rfl (.cons rfl (.cons rfl (.cons rfl (.cons rfl (.cons rfl (.cons rfl (.nil))))))))))))))⟩,
    PySem.W.mg_of X G g_Held,
    ⟨pg_Held, hd_Held, po_Held, sa_Held⟩,
    na_Held_text,
    na_Held_edits⟩
theorem all_mk {P : Program} {w : World} {K : PySem.W.Frag} {h : Heap} {mg : Str → Option Value} {fa : Addr} {t_KEEP : Tok} {t_PAINT : Tok} {t_DROP : Tok} {t_PUT : Tok} {t_MOST : Tok} {a_HEADS : Addr} {oc_HEADS : Option Addr} {n_HEADS : Nat} {sl_HEADS : Array (Option Value)} {t_HEADS_0 : Tok} {t_HEADS_1 : Tok} {t_HEADS_2 : Tok} {t_HEADS_3 : Tok} {t_MOST_IN_PART : Tok} {t_EDITS : Tok} {a_SHAPES : Addr} {oc_SHAPES : Option Addr} {n_SHAPES : Nat} {sl_SHAPES : Array (Option Value)} {a_SHAPES_0 : Addr} {a_SHAPES_1 : Addr} {a_SHAPES_2 : Addr} {a_SHAPES_3 : Addr} {a_SHAPES_4 : Addr} {a_SHAPES_5 : Addr} {a_SHAPES_6 : Addr} {a_SHAPES_7 : Addr} {a_SHAPES_8 : Addr} {a_SHAPES_9 : Addr} {a_SHAPES_10 : Addr} {a_SHAPES_11 : Addr} {a_SHAPES_12 : Addr} {a_SHAPES_13 : Addr} {t_SHAPES_0_0 : Tok} {oc_SHAPES_0 : Option Addr} {n_SHAPES_0 : Nat} {sl_SHAPES_0 : Array (Option Value)} {t_SHAPES_1_0 : Tok} {oc_SHAPES_1 : Option Addr} {n_SHAPES_1 : Nat} {sl_SHAPES_1 : Array (Option Value)} {t_SHAPES_2_0 : Tok} {oc_SHAPES_2 : Option Addr} {n_SHAPES_2 : Nat} {sl_SHAPES_2 : Array (Option Value)} {t_SHAPES_3_0 : Tok} {oc_SHAPES_3 : Option Addr} {n_SHAPES_3 : Nat} {sl_SHAPES_3 : Array (Option Value)} {t_SHAPES_4_0 : Tok} {oc_SHAPES_4 : Option Addr} {n_SHAPES_4 : Nat} {sl_SHAPES_4 : Array (Option Value)} {t_SHAPES_5_0 : Tok} {oc_SHAPES_5 : Option Addr} {n_SHAPES_5 : Nat} {sl_SHAPES_5 : Array (Option Value)} {t_SHAPES_6_0 : Tok} {oc_SHAPES_6 : Option Addr} {n_SHAPES_6 : Nat} {sl_SHAPES_6 : Array (Option Value)} {t_SHAPES_7_0 : Tok} {oc_SHAPES_7 : Option Addr} {n_SHAPES_7 : Nat} {sl_SHAPES_7 : Array (Option Value)} {t_SHAPES_8_0 : Tok} {oc_SHAPES_8 : Option Addr} {n_SHAPES_8 : Nat} {sl_SHAPES_8 : Array (Option Value)} {t_SHAPES_9_0 : Tok} {oc_SHAPES_9 : Option Addr} {n_SHAPES_9 : Nat} {sl_SHAPES_9 : Array (Option Value)} {t_SHAPES_10_0 : Tok} {oc_SHAPES_10 : Option Addr} {n_SHAPES_10 : Nat} {sl_SHAPES_10 : Array (Option Value)} {t_SHAPES_11_0 : Tok} {oc_SHAPES_11 : Option Addr} {n_SHAPES_11 : Nat} {sl_SHAPES_11 : Array (Option Value)} {t_SHAPES_12_0 : Tok} {oc_SHAPES_12 : Option Addr} {n_SHAPES_12 : Nat} {sl_SHAPES_12 : Array (Option Value)} {t_SHAPES_13_0 : Tok} {oc_SHAPES_13 : Option Addr} {n_SHAPES_13 : Nat} {sl_SHAPES_13 : Array (Option Value)} {k_Held : Addr}
    {f_Held___init__ : Addr} {oc_Held___init__ : Value} {od_Held___init__ an_Held___init__ : Option Addr} {sl_Held___init__ : Array (Option Value)} {kV_Held___init__ dc_Held___init__ pm_Held___init__ cd_Held___init__ ct_Held___init__ : Value}
    {f_call_end : Addr} {oc_call_end : Value} {od_call_end an_call_end : Option Addr} {sl_call_end : Array (Option Value)} {kV_call_end dc_call_end pm_call_end cd_call_end ct_call_end : Value}
    {f_numbers_of_letters : Addr} {oc_numbers_of_letters : Value} {od_numbers_of_letters an_numbers_of_letters : Option Addr} {sl_numbers_of_letters : Array (Option Value)} {kV_numbers_of_letters dc_numbers_of_letters pm_numbers_of_letters cd_numbers_of_letters ct_numbers_of_letters : Value}
    {f_Held_call_show : Addr} {oc_Held_call_show : Value} {od_Held_call_show an_Held_call_show : Option Addr} {sl_Held_call_show : Array (Option Value)} {kV_Held_call_show dc_Held_call_show pm_Held_call_show cd_Held_call_show ct_Held_call_show : Value}
    {f_is_sign : Addr} {oc_is_sign : Value} {od_is_sign an_is_sign : Option Addr} {sl_is_sign : Array (Option Value)} {kV_is_sign dc_is_sign pm_is_sign cd_is_sign ct_is_sign : Value}
    {f_is_look : Addr} {oc_is_look : Value} {od_is_look an_is_look : Option Addr} {sl_is_look : Array (Option Value)} {kV_is_look dc_is_look pm_is_look cd_is_look ct_is_look : Value}
    {f_letters_told : Addr} {oc_letters_told : Value} {od_letters_told an_letters_told : Option Addr} {sl_letters_told : Array (Option Value)} {kV_letters_told dc_letters_told pm_letters_told cd_letters_told ct_letters_told : Value}
    {f_Held_call_text : Addr} {oc_Held_call_text : Value} {od_Held_call_text an_Held_call_text : Option Addr} {sl_Held_call_text : Array (Option Value)} {kV_Held_call_text dc_Held_call_text pm_Held_call_text cd_Held_call_text ct_Held_call_text : Value}
    {f_letters_end : Addr} {oc_letters_end : Value} {od_letters_end an_letters_end : Option Addr} {sl_letters_end : Array (Option Value)} {kV_letters_end dc_letters_end pm_letters_end cd_letters_end ct_letters_end : Value}
    {f_is_paint : Addr} {oc_is_paint : Value} {od_is_paint an_is_paint : Option Addr} {sl_is_paint : Array (Option Value)} {kV_is_paint dc_is_paint pm_is_paint cd_is_paint ct_is_paint : Value}
    {f_part_end : Addr} {oc_part_end : Value} {od_part_end an_part_end : Option Addr} {sl_part_end : Array (Option Value)} {kV_part_end dc_part_end pm_part_end cd_part_end ct_part_end : Value}
    {f_parts_told : Addr} {oc_parts_told : Value} {od_parts_told an_parts_told : Option Addr} {sl_parts_told : Array (Option Value)} {kV_parts_told dc_parts_told pm_parts_told cd_parts_told ct_parts_told : Value}
    {f_old_length : Addr} {oc_old_length : Value} {od_old_length an_old_length : Option Addr} {sl_old_length : Array (Option Value)} {kV_old_length dc_old_length pm_old_length cd_old_length ct_old_length : Value}
    {f_new_length : Addr} {oc_new_length : Value} {od_new_length an_new_length : Option Addr} {sl_new_length : Array (Option Value)} {kV_new_length dc_new_length pm_new_length cd_new_length ct_new_length : Value}
    {f_Held_hold : Addr} {oc_Held_hold : Value} {od_Held_hold an_Held_hold : Option Addr} {sl_Held_hold : Array (Option Value)} {kV_Held_hold dc_Held_hold pm_Held_hold cd_Held_hold ct_Held_hold : Value}
    {f_name_edits : Addr} {oc_name_edits : Value} {od_name_edits an_name_edits : Option Addr} {sl_name_edits : Array (Option Value)} {kV_name_edits dc_name_edits pm_name_edits cd_name_edits ct_name_edits : Value}
    {f_in_form : Addr} {oc_in_form : Value} {od_in_form an_in_form : Option Addr} {sl_in_form : Array (Option Value)} {kV_in_form dc_in_form pm_in_form cd_in_form ct_in_form : Value}
    {f_part_n : Addr} {oc_part_n : Value} {od_part_n an_part_n : Option Addr} {sl_part_n : Array (Option Value)} {kV_part_n dc_part_n pm_part_n cd_part_n ct_part_n : Value}
    {f_old_length_told : Addr} {oc_old_length_told : Value} {od_old_length_told an_old_length_told : Option Addr} {sl_old_length_told : Array (Option Value)} {kV_old_length_told dc_old_length_told pm_old_length_told cd_old_length_told ct_old_length_told : Value}
    {f_new_length_told : Addr} {oc_new_length_told : Value} {od_new_length_told an_new_length_told : Option Addr} {sl_new_length_told : Array (Option Value)} {kV_new_length_told dc_new_length_told pm_new_length_told cd_new_length_told ct_new_length_told : Value}
    {f_steps_of_part : Addr} {oc_steps_of_part : Value} {od_steps_of_part an_steps_of_part : Option Addr} {sl_steps_of_part : Array (Option Value)} {kV_steps_of_part dc_steps_of_part pm_steps_of_part cd_steps_of_part ct_steps_of_part : Value}
    {f_steps_of_parts : Addr} {oc_steps_of_parts : Value} {od_steps_of_parts an_steps_of_parts : Option Addr} {sl_steps_of_parts : Array (Option Value)} {kV_steps_of_parts dc_steps_of_parts pm_steps_of_parts cd_steps_of_parts ct_steps_of_parts : Value}
    {f_Held_call_set : Addr} {oc_Held_call_set : Value} {od_Held_call_set an_Held_call_set : Option Addr} {sl_Held_call_set : Array (Option Value)} {kV_Held_call_set dc_Held_call_set pm_Held_call_set cd_Held_call_set ct_Held_call_set : Value}
    {f_share_part : Addr} {oc_share_part : Value} {od_share_part an_share_part : Option Addr} {sl_share_part : Array (Option Value)} {kV_share_part dc_share_part pm_share_part cd_share_part ct_share_part : Value}
    {f_run_end : Addr} {oc_run_end : Value} {od_run_end an_run_end : Option Addr} {sl_run_end : Array (Option Value)} {kV_run_end dc_run_end pm_run_end cd_run_end ct_run_end : Value}
    {f_part_of_run : Addr} {oc_part_of_run : Value} {od_part_of_run an_part_of_run : Option Addr} {sl_part_of_run : Array (Option Value)} {kV_part_of_run dc_part_of_run pm_part_of_run cd_part_of_run ct_part_of_run : Value}
    {f_numbers_of_steps : Addr} {oc_numbers_of_steps : Value} {od_numbers_of_steps an_numbers_of_steps : Option Addr} {sl_numbers_of_steps : Array (Option Value)} {kV_numbers_of_steps dc_numbers_of_steps pm_numbers_of_steps cd_numbers_of_steps ct_numbers_of_steps : Value}
    {f_Held_call_get : Addr} {oc_Held_call_get : Value} {od_Held_call_get an_Held_call_get : Option Addr} {sl_Held_call_get : Array (Option Value)} {kV_Held_call_get dc_Held_call_get pm_Held_call_get cd_Held_call_get ct_Held_call_get : Value}
    {f_takes : Addr} {oc_takes : Value} {od_takes an_takes : Option Addr} {sl_takes : Array (Option Value)} {kV_takes dc_takes pm_takes cd_takes ct_takes : Value}
    {f_brought : Addr} {oc_brought : Value} {od_brought an_brought : Option Addr} {sl_brought : Array (Option Value)} {kV_brought dc_brought pm_brought cd_brought ct_brought : Value}
    {f_applied : Addr} {oc_applied : Value} {od_applied an_applied : Option Addr} {sl_applied : Array (Option Value)} {kV_applied dc_applied pm_applied cd_applied ct_applied : Value}
    {f_Held_call_apply : Addr} {oc_Held_call_apply : Value} {od_Held_call_apply an_Held_call_apply : Option Addr} {sl_Held_call_apply : Array (Option Value)} {kV_Held_call_apply dc_Held_call_apply pm_Held_call_apply cd_Held_call_apply ct_Held_call_apply : Value}
    {f_made_of_put : Addr} {oc_made_of_put : Value} {od_made_of_put an_made_of_put : Option Addr} {sl_made_of_put : Array (Option Value)} {kV_made_of_put dc_made_of_put pm_made_of_put cd_made_of_put ct_made_of_put : Value}
    {f_made_of_painted : Addr} {oc_made_of_painted : Value} {od_made_of_painted an_made_of_painted : Option Addr} {sl_made_of_painted : Array (Option Value)} {kV_made_of_painted dc_made_of_painted pm_made_of_painted cd_made_of_painted ct_made_of_painted : Value}
    {f_made_of : Addr} {oc_made_of : Value} {od_made_of an_made_of : Option Addr} {sl_made_of : Array (Option Value)} {kV_made_of dc_made_of pm_made_of cd_made_of ct_made_of : Value}
    {f_composed : Addr} {oc_composed : Value} {od_composed an_composed : Option Addr} {sl_composed : Array (Option Value)} {kV_composed dc_composed pm_composed cd_composed ct_composed : Value}
    {f_Held_call_compose : Addr} {oc_Held_call_compose : Value} {od_Held_call_compose an_Held_call_compose : Option Addr} {sl_Held_call_compose : Array (Option Value)} {kV_Held_call_compose dc_Held_call_compose pm_Held_call_compose cd_Held_call_compose ct_Held_call_compose : Value}
    {f_turned_step : Addr} {oc_turned_step : Value} {od_turned_step an_turned_step : Option Addr} {sl_turned_step : Array (Option Value)} {kV_turned_step dc_turned_step pm_turned_step cd_turned_step ct_turned_step : Value}
    {f_turned : Addr} {oc_turned : Value} {od_turned an_turned : Option Addr} {sl_turned : Array (Option Value)} {kV_turned dc_turned pm_turned cd_turned ct_turned : Value}
    {f_Held_call_turn : Addr} {oc_Held_call_turn : Value} {od_Held_call_turn an_Held_call_turn : Option Addr} {sl_Held_call_turn : Array (Option Value)} {kV_Held_call_turn dc_Held_call_turn pm_Held_call_turn cd_Held_call_turn ct_Held_call_turn : Value}
    {f_both_painted : Addr} {oc_both_painted : Value} {od_both_painted an_both_painted : Option Addr} {sl_both_painted : Array (Option Value)} {kV_both_painted dc_both_painted pm_both_painted cd_both_painted ct_both_painted : Value}
    {f_dropped_painted : Addr} {oc_dropped_painted : Value} {od_dropped_painted an_dropped_painted : Option Addr} {sl_dropped_painted : Array (Option Value)} {kV_dropped_painted dc_dropped_painted pm_dropped_painted cd_dropped_painted ct_dropped_painted : Value}
    {f_kept_beside : Addr} {oc_kept_beside : Value} {od_kept_beside an_kept_beside : Option Addr} {sl_kept_beside : Array (Option Value)} {kV_kept_beside dc_kept_beside pm_kept_beside cd_kept_beside ct_kept_beside : Value}
    {f_carried : Addr} {oc_carried : Value} {od_carried an_carried : Option Addr} {sl_carried : Array (Option Value)} {kV_carried dc_carried pm_carried cd_carried ct_carried : Value}
    {f_rebased : Addr} {oc_rebased : Value} {od_rebased an_rebased : Option Addr} {sl_rebased : Array (Option Value)} {kV_rebased dc_rebased pm_rebased cd_rebased ct_rebased : Value}
    {f_Held_call_rebase : Addr} {oc_Held_call_rebase : Value} {od_Held_call_rebase an_Held_call_rebase : Option Addr} {sl_Held_call_rebase : Array (Option Value)} {kV_Held_call_rebase dc_Held_call_rebase pm_Held_call_rebase cd_Held_call_rebase ct_Held_call_rebase : Value}
    {f_Held_call_same : Addr} {oc_Held_call_same : Value} {od_Held_call_same an_Held_call_same : Option Addr} {sl_Held_call_same : Array (Option Value)} {kV_Held_call_same dc_Held_call_same pm_Held_call_same cd_Held_call_same ct_Held_call_same : Value}
    {f_kept_letters : Addr} {oc_kept_letters : Value} {od_kept_letters an_kept_letters : Option Addr} {sl_kept_letters : Array (Option Value)} {kV_kept_letters dc_kept_letters pm_kept_letters cd_kept_letters ct_kept_letters : Value}
    {f_backward : Addr} {oc_backward : Value} {od_backward an_backward : Option Addr} {sl_backward : Array (Option Value)} {kV_backward dc_backward pm_backward cd_backward ct_backward : Value}
    {f_forward : Addr} {oc_forward : Value} {od_forward an_forward : Option Addr} {sl_forward : Array (Option Value)} {kV_forward dc_forward pm_forward cd_forward ct_forward : Value}
    {f_Held_call_place : Addr} {oc_Held_call_place : Value} {od_Held_call_place an_Held_call_place : Option Addr} {sl_Held_call_place : Array (Option Value)} {kV_Held_call_place dc_Held_call_place pm_Held_call_place cd_Held_call_place ct_Held_call_place : Value}
    {f_carried_stretch : Addr} {oc_carried_stretch : Value} {od_carried_stretch an_carried_stretch : Option Addr} {sl_carried_stretch : Array (Option Value)} {kV_carried_stretch dc_carried_stretch pm_carried_stretch cd_carried_stretch ct_carried_stretch : Value}
    {f_is_stretch : Addr} {oc_is_stretch : Value} {od_is_stretch an_is_stretch : Option Addr} {sl_is_stretch : Array (Option Value)} {kV_is_stretch dc_is_stretch pm_is_stretch cd_is_stretch ct_is_stretch : Value}
    {f_count_kept : Addr} {oc_count_kept : Value} {od_count_kept an_count_kept : Option Addr} {sl_count_kept : Array (Option Value)} {kV_count_kept dc_count_kept pm_count_kept cd_count_kept ct_count_kept : Value}
    {f_Held_call_stretch : Addr} {oc_Held_call_stretch : Value} {od_Held_call_stretch an_Held_call_stretch : Option Addr} {sl_Held_call_stretch : Array (Option Value)} {kV_Held_call_stretch dc_Held_call_stretch pm_Held_call_stretch cd_Held_call_stretch ct_Held_call_stretch : Value}
    {f_stretch_end : Addr} {oc_stretch_end : Value} {od_stretch_end an_stretch_end : Option Addr} {sl_stretch_end : Array (Option Value)} {kV_stretch_end dc_stretch_end pm_stretch_end cd_stretch_end ct_stretch_end : Value}
    {f_kept_stretches : Addr} {oc_kept_stretches : Value} {od_kept_stretches an_kept_stretches : Option Addr} {sl_kept_stretches : Array (Option Value)} {kV_kept_stretches dc_kept_stretches pm_kept_stretches cd_kept_stretches ct_kept_stretches : Value}
    {f_Held_call_kept : Addr} {oc_Held_call_kept : Value} {od_Held_call_kept an_Held_call_kept : Option Addr} {sl_Held_call_kept : Array (Option Value)} {kV_Held_call_kept dc_Held_call_kept pm_Held_call_kept cd_Held_call_kept ct_Held_call_kept : Value}
    {f_replacing : Addr} {oc_replacing : Value} {od_replacing an_replacing : Option Addr} {sl_replacing : Array (Option Value)} {kV_replacing dc_replacing pm_replacing cd_replacing ct_replacing : Value}
    {f_Held_call_replace : Addr} {oc_Held_call_replace : Value} {od_Held_call_replace an_Held_call_replace : Option Addr} {sl_Held_call_replace : Array (Option Value)} {kV_Held_call_replace dc_Held_call_replace pm_Held_call_replace cd_Held_call_replace ct_Held_call_replace : Value}
    {f_painting : Addr} {oc_painting : Value} {od_painting an_painting : Option Addr} {sl_painting : Array (Option Value)} {kV_painting dc_painting pm_painting cd_painting ct_painting : Value}
    {f_repainting : Addr} {oc_repainting : Value} {od_repainting an_repainting : Option Addr} {sl_repainting : Array (Option Value)} {kV_repainting dc_repainting pm_repainting cd_repainting ct_repainting : Value}
    {f_Held_call_repaint : Addr} {oc_Held_call_repaint : Value} {od_Held_call_repaint an_Held_call_repaint : Option Addr} {sl_Held_call_repaint : Array (Option Value)} {kV_Held_call_repaint dc_Held_call_repaint pm_Held_call_repaint cd_Held_call_repaint ct_Held_call_repaint : Value}
    {f_answer_of : Addr} {oc_answer_of : Value} {od_answer_of an_answer_of : Option Addr} {sl_answer_of : Array (Option Value)} {kV_answer_of dc_answer_of pm_answer_of cd_answer_of ct_answer_of : Value}
    {f_answers : Addr} {oc_answers : Value} {od_answers an_answers : Option Addr} {sl_answers : Array (Option Value)} {kV_answers dc_answers pm_answers cd_answers ct_answers : Value}
    (X : K.In h) (G : h.Ns mainGlobals mg) (hfa : mg "answers" = some (.ref fa))
    (z_len : PySem.W.nsIn K mainGlobals "len" = some none)
    (z_range : PySem.W.nsIn K mainGlobals "range" = some none)
    (z_sum : PySem.W.nsIn K mainGlobals "sum" = some none)
    (z_all : PySem.W.nsIn K mainGlobals "all" = some none)
    (z_min : PySem.W.nsIn K mainGlobals "min" = some none)
    (g_KEEP : PySem.W.nsIn K mainGlobals "KEEP" = some (some (.int 0 t_KEEP)))
    (g_PAINT : PySem.W.nsIn K mainGlobals "PAINT" = some (some (.int 1 t_PAINT)))
    (g_DROP : PySem.W.nsIn K mainGlobals "DROP" = some (some (.int 2 t_DROP)))
    (g_PUT : PySem.W.nsIn K mainGlobals "PUT" = some (some (.int 3 t_PUT)))
    (g_MOST : PySem.W.nsIn K mainGlobals "MOST" = some (some (.int 2000 t_MOST)))
    (g_HEADS : PySem.W.nsIn K mainGlobals "HEADS" = some (some (.ref a_HEADS)))
    (l_HEADS : K.lookup a_HEADS = some ⟨.type "tuple", oc_HEADS, .seq #[.int 2 t_HEADS_0, .int 4 t_HEADS_1, .int 2 t_HEADS_2, .int 2 t_HEADS_3] n_HEADS, sl_HEADS⟩)
    (g_MOST_IN_PART : PySem.W.nsIn K mainGlobals "MOST_IN_PART" = some (some (.int 2000 t_MOST_IN_PART)))
    (g_EDITS : PySem.W.nsIn K mainGlobals "EDITS" = some (some (.int 10 t_EDITS)))
    (g_SHAPES : PySem.W.nsIn K mainGlobals "SHAPES" = some (some (.ref a_SHAPES)))
    (l_SHAPES : K.lookup a_SHAPES = some ⟨.type "tuple", oc_SHAPES, .seq #[.ref a_SHAPES_0, .ref a_SHAPES_1, .ref a_SHAPES_2, .ref a_SHAPES_3, .ref a_SHAPES_4, .ref a_SHAPES_5, .ref a_SHAPES_6, .ref a_SHAPES_7, .ref a_SHAPES_8, .ref a_SHAPES_9, .ref a_SHAPES_10, .ref a_SHAPES_11, .ref a_SHAPES_12, .ref a_SHAPES_13] n_SHAPES, sl_SHAPES⟩)
    (l_SHAPES_0 : K.lookup a_SHAPES_0 = some ⟨.type "tuple", oc_SHAPES_0, .seq #[.int 0 t_SHAPES_0_0, .bool true] n_SHAPES_0, sl_SHAPES_0⟩)
    (l_SHAPES_1 : K.lookup a_SHAPES_1 = some ⟨.type "tuple", oc_SHAPES_1, .seq #[.int 1 t_SHAPES_1_0, .bool true] n_SHAPES_1, sl_SHAPES_1⟩)
    (l_SHAPES_2 : K.lookup a_SHAPES_2 = some ⟨.type "tuple", oc_SHAPES_2, .seq #[.int 1 t_SHAPES_2_0, .bool false] n_SHAPES_2, sl_SHAPES_2⟩)
    (l_SHAPES_3 : K.lookup a_SHAPES_3 = some ⟨.type "tuple", oc_SHAPES_3, .seq #[.int 1 t_SHAPES_3_0, .bool false] n_SHAPES_3, sl_SHAPES_3⟩)
    (l_SHAPES_4 : K.lookup a_SHAPES_4 = some ⟨.type "tuple", oc_SHAPES_4, .seq #[.int 3 t_SHAPES_4_0, .bool false] n_SHAPES_4, sl_SHAPES_4⟩)
    (l_SHAPES_5 : K.lookup a_SHAPES_5 = some ⟨.type "tuple", oc_SHAPES_5, .seq #[.int 2 t_SHAPES_5_0, .bool false] n_SHAPES_5, sl_SHAPES_5⟩)
    (l_SHAPES_6 : K.lookup a_SHAPES_6 = some ⟨.type "tuple", oc_SHAPES_6, .seq #[.int 5 t_SHAPES_6_0, .bool false] n_SHAPES_6, sl_SHAPES_6⟩)
    (l_SHAPES_7 : K.lookup a_SHAPES_7 = some ⟨.type "tuple", oc_SHAPES_7, .seq #[.int 2 t_SHAPES_7_0, .bool false] n_SHAPES_7, sl_SHAPES_7⟩)
    (l_SHAPES_8 : K.lookup a_SHAPES_8 = some ⟨.type "tuple", oc_SHAPES_8, .seq #[.int 2 t_SHAPES_8_0, .bool false] n_SHAPES_8, sl_SHAPES_8⟩)
    (l_SHAPES_9 : K.lookup a_SHAPES_9 = some ⟨.type "tuple", oc_SHAPES_9, .seq #[.int 4 t_SHAPES_9_0, .bool false] n_SHAPES_9, sl_SHAPES_9⟩)
    (l_SHAPES_10 : K.lookup a_SHAPES_10 = some ⟨.type "tuple", oc_SHAPES_10, .seq #[.int 1 t_SHAPES_10_0, .bool false] n_SHAPES_10, sl_SHAPES_10⟩)
    (l_SHAPES_11 : K.lookup a_SHAPES_11 = some ⟨.type "tuple", oc_SHAPES_11, .seq #[.int 3 t_SHAPES_11_0, .bool true] n_SHAPES_11, sl_SHAPES_11⟩)
    (l_SHAPES_12 : K.lookup a_SHAPES_12 = some ⟨.type "tuple", oc_SHAPES_12, .seq #[.int 4 t_SHAPES_12_0, .bool false] n_SHAPES_12, sl_SHAPES_12⟩)
    (l_SHAPES_13 : K.lookup a_SHAPES_13 = some ⟨.type "tuple", oc_SHAPES_13, .seq #[.int 0 t_SHAPES_13_0, .bool false] n_SHAPES_13, sl_SHAPES_13⟩)
    (g_Held : PySem.W.nsIn K mainGlobals "Held" = some (some (.ref k_Held)))
    (pg_Held : PySem.W.plainGet K k_Held Str.empty = true)
    (hd_Held : PySem.W.hasDictIn K k_Held = true)
    (po_Held : PySem.W.plainOver K k_Held = true)
    (sa_Held : PySem.W.findIn K (.ref k_Held) "__setattr__" = some (some (.builtin "object.__setattr__")))
    (na_Held_text : PySem.W.findIn K (.ref k_Held) "text" = some none)
    (na_Held_edits : PySem.W.findIn K (.ref k_Held) "edits" = some none)
    (mk_Held___init__ : PySem.W.makesIn K k_Held = true) (kc_Held___init__ : PySem.W.keepIn K (.ref k_Held) = true)
    (a_Held___init__ : PySem.W.findIn K (.ref k_Held) "__init__" = some (some (.ref f_Held___init__))) (i_Held___init__ : PySem.W.isFn K (.ref f_Held___init__) = true)
    (l_Held___init__ : K.lookup f_Held___init__ = some ⟨oc_Held___init__, od_Held___init__, .func (PySem.W.fnOf "__init__" "Held.__init__" (defArgs s_Held___init__) (defBody s_Held___init__) (defScope s_Held___init__) .none kV_Held___init__ dc_Held___init__ pm_Held___init__ an_Held___init__ cd_Held___init__ ct_Held___init__), sl_Held___init__⟩) (c_Held___init__ : PySem.W.codeIn K cd_Held___init__ "Held.__init__" = true) (k_Held___init__ : PySem.W.keepIn K (.ref f_Held___init__) = true)
    (a_call_end : PySem.W.nsIn K mainGlobals "call_end" = some (some (.ref f_call_end)))
    (l_call_end : K.lookup f_call_end = some ⟨oc_call_end, od_call_end, .func (PySem.W.fnOf "call_end" "call_end" (defArgs s_call_end) (defBody s_call_end) (defScope s_call_end) .none kV_call_end dc_call_end pm_call_end an_call_end cd_call_end ct_call_end), sl_call_end⟩) (c_call_end : PySem.W.codeIn K cd_call_end "call_end" = true) (k_call_end : PySem.W.keepIn K (.ref f_call_end) = true)
    (a_numbers_of_letters : PySem.W.nsIn K mainGlobals "numbers_of_letters" = some (some (.ref f_numbers_of_letters)))
    (l_numbers_of_letters : K.lookup f_numbers_of_letters = some ⟨oc_numbers_of_letters, od_numbers_of_letters, .func (PySem.W.fnOf "numbers_of_letters" "numbers_of_letters" (defArgs s_numbers_of_letters) (defBody s_numbers_of_letters) (defScope s_numbers_of_letters) .none kV_numbers_of_letters dc_numbers_of_letters pm_numbers_of_letters an_numbers_of_letters cd_numbers_of_letters ct_numbers_of_letters), sl_numbers_of_letters⟩) (c_numbers_of_letters : PySem.W.codeIn K cd_numbers_of_letters "numbers_of_letters" = true) (k_numbers_of_letters : PySem.W.keepIn K (.ref f_numbers_of_letters) = true)
    (a_Held_call_show : PySem.W.findIn K (.ref k_Held) "call_show" = some (some (.ref f_Held_call_show))) (i_Held_call_show : PySem.W.isFn K (.ref f_Held_call_show) = true)
    (l_Held_call_show : K.lookup f_Held_call_show = some ⟨oc_Held_call_show, od_Held_call_show, .func (PySem.W.fnOf "call_show" "Held.call_show" (defArgs s_Held_call_show) (defBody s_Held_call_show) (defScope s_Held_call_show) .none kV_Held_call_show dc_Held_call_show pm_Held_call_show an_Held_call_show cd_Held_call_show ct_Held_call_show), sl_Held_call_show⟩) (c_Held_call_show : PySem.W.codeIn K cd_Held_call_show "Held.call_show" = true) (k_Held_call_show : PySem.W.keepIn K (.ref f_Held_call_show) = true)
    (a_is_sign : PySem.W.nsIn K mainGlobals "is_sign" = some (some (.ref f_is_sign)))
    (l_is_sign : K.lookup f_is_sign = some ⟨oc_is_sign, od_is_sign, .func (PySem.W.fnOf "is_sign" "is_sign" (defArgs s_is_sign) (defBody s_is_sign) (defScope s_is_sign) .none kV_is_sign dc_is_sign pm_is_sign an_is_sign cd_is_sign ct_is_sign), sl_is_sign⟩) (c_is_sign : PySem.W.codeIn K cd_is_sign "is_sign" = true) (k_is_sign : PySem.W.keepIn K (.ref f_is_sign) = true)
    (a_is_look : PySem.W.nsIn K mainGlobals "is_look" = some (some (.ref f_is_look)))
    (l_is_look : K.lookup f_is_look = some ⟨oc_is_look, od_is_look, .func (PySem.W.fnOf "is_look" "is_look" (defArgs s_is_look) (defBody s_is_look) (defScope s_is_look) .none kV_is_look dc_is_look pm_is_look an_is_look cd_is_look ct_is_look), sl_is_look⟩) (c_is_look : PySem.W.codeIn K cd_is_look "is_look" = true) (k_is_look : PySem.W.keepIn K (.ref f_is_look) = true)
    (a_letters_told : PySem.W.nsIn K mainGlobals "letters_told" = some (some (.ref f_letters_told)))
    (l_letters_told : K.lookup f_letters_told = some ⟨oc_letters_told, od_letters_told, .func (PySem.W.fnOf "letters_told" "letters_told" (defArgs s_letters_told) (defBody s_letters_told) (defScope s_letters_told) .none kV_letters_told dc_letters_told pm_letters_told an_letters_told cd_letters_told ct_letters_told), sl_letters_told⟩) (c_letters_told : PySem.W.codeIn K cd_letters_told "letters_told" = true) (k_letters_told : PySem.W.keepIn K (.ref f_letters_told) = true)
    (a_Held_call_text : PySem.W.findIn K (.ref k_Held) "call_text" = some (some (.ref f_Held_call_text))) (i_Held_call_text : PySem.W.isFn K (.ref f_Held_call_text) = true)
    (l_Held_call_text : K.lookup f_Held_call_text = some ⟨oc_Held_call_text, od_Held_call_text, .func (PySem.W.fnOf "call_text" "Held.call_text" (defArgs s_Held_call_text) (defBody s_Held_call_text) (defScope s_Held_call_text) .none kV_Held_call_text dc_Held_call_text pm_Held_call_text an_Held_call_text cd_Held_call_text ct_Held_call_text), sl_Held_call_text⟩) (c_Held_call_text : PySem.W.codeIn K cd_Held_call_text "Held.call_text" = true) (k_Held_call_text : PySem.W.keepIn K (.ref f_Held_call_text) = true)
    (a_letters_end : PySem.W.nsIn K mainGlobals "letters_end" = some (some (.ref f_letters_end)))
    (l_letters_end : K.lookup f_letters_end = some ⟨oc_letters_end, od_letters_end, .func (PySem.W.fnOf "letters_end" "letters_end" (defArgs s_letters_end) (defBody s_letters_end) (defScope s_letters_end) .none kV_letters_end dc_letters_end pm_letters_end an_letters_end cd_letters_end ct_letters_end), sl_letters_end⟩) (c_letters_end : PySem.W.codeIn K cd_letters_end "letters_end" = true) (k_letters_end : PySem.W.keepIn K (.ref f_letters_end) = true)
    (a_is_paint : PySem.W.nsIn K mainGlobals "is_paint" = some (some (.ref f_is_paint)))
    (l_is_paint : K.lookup f_is_paint = some ⟨oc_is_paint, od_is_paint, .func (PySem.W.fnOf "is_paint" "is_paint" (defArgs s_is_paint) (defBody s_is_paint) (defScope s_is_paint) .none kV_is_paint dc_is_paint pm_is_paint an_is_paint cd_is_paint ct_is_paint), sl_is_paint⟩) (c_is_paint : PySem.W.codeIn K cd_is_paint "is_paint" = true) (k_is_paint : PySem.W.keepIn K (.ref f_is_paint) = true)
    (a_part_end : PySem.W.nsIn K mainGlobals "part_end" = some (some (.ref f_part_end)))
    (l_part_end : K.lookup f_part_end = some ⟨oc_part_end, od_part_end, .func (PySem.W.fnOf "part_end" "part_end" (defArgs s_part_end) (defBody s_part_end) (defScope s_part_end) .none kV_part_end dc_part_end pm_part_end an_part_end cd_part_end ct_part_end), sl_part_end⟩) (c_part_end : PySem.W.codeIn K cd_part_end "part_end" = true) (k_part_end : PySem.W.keepIn K (.ref f_part_end) = true)
    (a_parts_told : PySem.W.nsIn K mainGlobals "parts_told" = some (some (.ref f_parts_told)))
    (l_parts_told : K.lookup f_parts_told = some ⟨oc_parts_told, od_parts_told, .func (PySem.W.fnOf "parts_told" "parts_told" (defArgs s_parts_told) (defBody s_parts_told) (defScope s_parts_told) .none kV_parts_told dc_parts_told pm_parts_told an_parts_told cd_parts_told ct_parts_told), sl_parts_told⟩) (c_parts_told : PySem.W.codeIn K cd_parts_told "parts_told" = true) (k_parts_told : PySem.W.keepIn K (.ref f_parts_told) = true)
    (a_old_length : PySem.W.nsIn K mainGlobals "old_length" = some (some (.ref f_old_length)))
    (l_old_length : K.lookup f_old_length = some ⟨oc_old_length, od_old_length, .func (PySem.W.fnOf "old_length" "old_length" (defArgs s_old_length) (defBody s_old_length) (defScope s_old_length) .none kV_old_length dc_old_length pm_old_length an_old_length cd_old_length ct_old_length), sl_old_length⟩) (c_old_length : PySem.W.codeIn K cd_old_length "old_length" = true) (k_old_length : PySem.W.keepIn K (.ref f_old_length) = true)
    (a_new_length : PySem.W.nsIn K mainGlobals "new_length" = some (some (.ref f_new_length)))
    (l_new_length : K.lookup f_new_length = some ⟨oc_new_length, od_new_length, .func (PySem.W.fnOf "new_length" "new_length" (defArgs s_new_length) (defBody s_new_length) (defScope s_new_length) .none kV_new_length dc_new_length pm_new_length an_new_length cd_new_length ct_new_length), sl_new_length⟩) (c_new_length : PySem.W.codeIn K cd_new_length "new_length" = true) (k_new_length : PySem.W.keepIn K (.ref f_new_length) = true)
    (a_Held_hold : PySem.W.findIn K (.ref k_Held) "hold" = some (some (.ref f_Held_hold))) (i_Held_hold : PySem.W.isFn K (.ref f_Held_hold) = true)
    (l_Held_hold : K.lookup f_Held_hold = some ⟨oc_Held_hold, od_Held_hold, .func (PySem.W.fnOf "hold" "Held.hold" (defArgs s_Held_hold) (defBody s_Held_hold) (defScope s_Held_hold) .none kV_Held_hold dc_Held_hold pm_Held_hold an_Held_hold cd_Held_hold ct_Held_hold), sl_Held_hold⟩) (c_Held_hold : PySem.W.codeIn K cd_Held_hold "Held.hold" = true) (k_Held_hold : PySem.W.keepIn K (.ref f_Held_hold) = true)
    (a_name_edits : PySem.W.nsIn K mainGlobals "name_edits" = some (some (.ref f_name_edits)))
    (l_name_edits : K.lookup f_name_edits = some ⟨oc_name_edits, od_name_edits, .func (PySem.W.fnOf "name_edits" "name_edits" (defArgs s_name_edits) (defBody s_name_edits) (defScope s_name_edits) .none kV_name_edits dc_name_edits pm_name_edits an_name_edits cd_name_edits ct_name_edits), sl_name_edits⟩) (c_name_edits : PySem.W.codeIn K cd_name_edits "name_edits" = true) (k_name_edits : PySem.W.keepIn K (.ref f_name_edits) = true)
    (a_in_form : PySem.W.nsIn K mainGlobals "in_form" = some (some (.ref f_in_form)))
    (l_in_form : K.lookup f_in_form = some ⟨oc_in_form, od_in_form, .func (PySem.W.fnOf "in_form" "in_form" (defArgs s_in_form) (defBody s_in_form) (defScope s_in_form) .none kV_in_form dc_in_form pm_in_form an_in_form cd_in_form ct_in_form), sl_in_form⟩) (c_in_form : PySem.W.codeIn K cd_in_form "in_form" = true) (k_in_form : PySem.W.keepIn K (.ref f_in_form) = true)
    (a_part_n : PySem.W.nsIn K mainGlobals "part_n" = some (some (.ref f_part_n)))
    (l_part_n : K.lookup f_part_n = some ⟨oc_part_n, od_part_n, .func (PySem.W.fnOf "part_n" "part_n" (defArgs s_part_n) (defBody s_part_n) (defScope s_part_n) .none kV_part_n dc_part_n pm_part_n an_part_n cd_part_n ct_part_n), sl_part_n⟩) (c_part_n : PySem.W.codeIn K cd_part_n "part_n" = true) (k_part_n : PySem.W.keepIn K (.ref f_part_n) = true)
    (a_old_length_told : PySem.W.nsIn K mainGlobals "old_length_told" = some (some (.ref f_old_length_told)))
    (l_old_length_told : K.lookup f_old_length_told = some ⟨oc_old_length_told, od_old_length_told, .func (PySem.W.fnOf "old_length_told" "old_length_told" (defArgs s_old_length_told) (defBody s_old_length_told) (defScope s_old_length_told) .none kV_old_length_told dc_old_length_told pm_old_length_told an_old_length_told cd_old_length_told ct_old_length_told), sl_old_length_told⟩) (c_old_length_told : PySem.W.codeIn K cd_old_length_told "old_length_told" = true) (k_old_length_told : PySem.W.keepIn K (.ref f_old_length_told) = true)
    (a_new_length_told : PySem.W.nsIn K mainGlobals "new_length_told" = some (some (.ref f_new_length_told)))
    (l_new_length_told : K.lookup f_new_length_told = some ⟨oc_new_length_told, od_new_length_told, .func (PySem.W.fnOf "new_length_told" "new_length_told" (defArgs s_new_length_told) (defBody s_new_length_told) (defScope s_new_length_told) .none kV_new_length_told dc_new_length_told pm_new_length_told an_new_length_told cd_new_length_told ct_new_length_told), sl_new_length_told⟩) (c_new_length_told : PySem.W.codeIn K cd_new_length_told "new_length_told" = true) (k_new_length_told : PySem.W.keepIn K (.ref f_new_length_told) = true)
    (a_steps_of_part : PySem.W.nsIn K mainGlobals "steps_of_part" = some (some (.ref f_steps_of_part)))
    (l_steps_of_part : K.lookup f_steps_of_part = some ⟨oc_steps_of_part, od_steps_of_part, .func (PySem.W.fnOf "steps_of_part" "steps_of_part" (defArgs s_steps_of_part) (defBody s_steps_of_part) (defScope s_steps_of_part) .none kV_steps_of_part dc_steps_of_part pm_steps_of_part an_steps_of_part cd_steps_of_part ct_steps_of_part), sl_steps_of_part⟩) (c_steps_of_part : PySem.W.codeIn K cd_steps_of_part "steps_of_part" = true) (k_steps_of_part : PySem.W.keepIn K (.ref f_steps_of_part) = true)
    (a_steps_of_parts : PySem.W.nsIn K mainGlobals "steps_of_parts" = some (some (.ref f_steps_of_parts)))
    (l_steps_of_parts : K.lookup f_steps_of_parts = some ⟨oc_steps_of_parts, od_steps_of_parts, .func (PySem.W.fnOf "steps_of_parts" "steps_of_parts" (defArgs s_steps_of_parts) (defBody s_steps_of_parts) (defScope s_steps_of_parts) .none kV_steps_of_parts dc_steps_of_parts pm_steps_of_parts an_steps_of_parts cd_steps_of_parts ct_steps_of_parts), sl_steps_of_parts⟩) (c_steps_of_parts : PySem.W.codeIn K cd_steps_of_parts "steps_of_parts" = true) (k_steps_of_parts : PySem.W.keepIn K (.ref f_steps_of_parts) = true)
    (a_Held_call_set : PySem.W.findIn K (.ref k_Held) "call_set" = some (some (.ref f_Held_call_set))) (i_Held_call_set : PySem.W.isFn K (.ref f_Held_call_set) = true)
    (l_Held_call_set : K.lookup f_Held_call_set = some ⟨oc_Held_call_set, od_Held_call_set, .func (PySem.W.fnOf "call_set" "Held.call_set" (defArgs s_Held_call_set) (defBody s_Held_call_set) (defScope s_Held_call_set) .none kV_Held_call_set dc_Held_call_set pm_Held_call_set an_Held_call_set cd_Held_call_set ct_Held_call_set), sl_Held_call_set⟩) (c_Held_call_set : PySem.W.codeIn K cd_Held_call_set "Held.call_set" = true) (k_Held_call_set : PySem.W.keepIn K (.ref f_Held_call_set) = true)
    (a_share_part : PySem.W.nsIn K mainGlobals "share_part" = some (some (.ref f_share_part)))
    (l_share_part : K.lookup f_share_part = some ⟨oc_share_part, od_share_part, .func (PySem.W.fnOf "share_part" "share_part" (defArgs s_share_part) (defBody s_share_part) (defScope s_share_part) .none kV_share_part dc_share_part pm_share_part an_share_part cd_share_part ct_share_part), sl_share_part⟩) (c_share_part : PySem.W.codeIn K cd_share_part "share_part" = true) (k_share_part : PySem.W.keepIn K (.ref f_share_part) = true)
    (a_run_end : PySem.W.nsIn K mainGlobals "run_end" = some (some (.ref f_run_end)))
    (l_run_end : K.lookup f_run_end = some ⟨oc_run_end, od_run_end, .func (PySem.W.fnOf "run_end" "run_end" (defArgs s_run_end) (defBody s_run_end) (defScope s_run_end) .none kV_run_end dc_run_end pm_run_end an_run_end cd_run_end ct_run_end), sl_run_end⟩) (c_run_end : PySem.W.codeIn K cd_run_end "run_end" = true) (k_run_end : PySem.W.keepIn K (.ref f_run_end) = true)
    (a_part_of_run : PySem.W.nsIn K mainGlobals "part_of_run" = some (some (.ref f_part_of_run)))
    (l_part_of_run : K.lookup f_part_of_run = some ⟨oc_part_of_run, od_part_of_run, .func (PySem.W.fnOf "part_of_run" "part_of_run" (defArgs s_part_of_run) (defBody s_part_of_run) (defScope s_part_of_run) .none kV_part_of_run dc_part_of_run pm_part_of_run an_part_of_run cd_part_of_run ct_part_of_run), sl_part_of_run⟩) (c_part_of_run : PySem.W.codeIn K cd_part_of_run "part_of_run" = true) (k_part_of_run : PySem.W.keepIn K (.ref f_part_of_run) = true)
    (a_numbers_of_steps : PySem.W.nsIn K mainGlobals "numbers_of_steps" = some (some (.ref f_numbers_of_steps)))
    (l_numbers_of_steps : K.lookup f_numbers_of_steps = some ⟨oc_numbers_of_steps, od_numbers_of_steps, .func (PySem.W.fnOf "numbers_of_steps" "numbers_of_steps" (defArgs s_numbers_of_steps) (defBody s_numbers_of_steps) (defScope s_numbers_of_steps) .none kV_numbers_of_steps dc_numbers_of_steps pm_numbers_of_steps an_numbers_of_steps cd_numbers_of_steps ct_numbers_of_steps), sl_numbers_of_steps⟩) (c_numbers_of_steps : PySem.W.codeIn K cd_numbers_of_steps "numbers_of_steps" = true) (k_numbers_of_steps : PySem.W.keepIn K (.ref f_numbers_of_steps) = true)
    (a_Held_call_get : PySem.W.findIn K (.ref k_Held) "call_get" = some (some (.ref f_Held_call_get))) (i_Held_call_get : PySem.W.isFn K (.ref f_Held_call_get) = true)
    (l_Held_call_get : K.lookup f_Held_call_get = some ⟨oc_Held_call_get, od_Held_call_get, .func (PySem.W.fnOf "call_get" "Held.call_get" (defArgs s_Held_call_get) (defBody s_Held_call_get) (defScope s_Held_call_get) .none kV_Held_call_get dc_Held_call_get pm_Held_call_get an_Held_call_get cd_Held_call_get ct_Held_call_get), sl_Held_call_get⟩) (c_Held_call_get : PySem.W.codeIn K cd_Held_call_get "Held.call_get" = true) (k_Held_call_get : PySem.W.keepIn K (.ref f_Held_call_get) = true)
    (a_takes : PySem.W.nsIn K mainGlobals "takes" = some (some (.ref f_takes)))
    (l_takes : K.lookup f_takes = some ⟨oc_takes, od_takes, .func (PySem.W.fnOf "takes" "takes" (defArgs s_takes) (defBody s_takes) (defScope s_takes) .none kV_takes dc_takes pm_takes an_takes cd_takes ct_takes), sl_takes⟩) (c_takes : PySem.W.codeIn K cd_takes "takes" = true) (k_takes : PySem.W.keepIn K (.ref f_takes) = true)
    (a_brought : PySem.W.nsIn K mainGlobals "brought" = some (some (.ref f_brought)))
    (l_brought : K.lookup f_brought = some ⟨oc_brought, od_brought, .func (PySem.W.fnOf "brought" "brought" (defArgs s_brought) (defBody s_brought) (defScope s_brought) .none kV_brought dc_brought pm_brought an_brought cd_brought ct_brought), sl_brought⟩) (c_brought : PySem.W.codeIn K cd_brought "brought" = true) (k_brought : PySem.W.keepIn K (.ref f_brought) = true)
    (a_applied : PySem.W.nsIn K mainGlobals "applied" = some (some (.ref f_applied)))
    (l_applied : K.lookup f_applied = some ⟨oc_applied, od_applied, .func (PySem.W.fnOf "applied" "applied" (defArgs s_applied) (defBody s_applied) (defScope s_applied) .none kV_applied dc_applied pm_applied an_applied cd_applied ct_applied), sl_applied⟩) (c_applied : PySem.W.codeIn K cd_applied "applied" = true) (k_applied : PySem.W.keepIn K (.ref f_applied) = true)
    (a_Held_call_apply : PySem.W.findIn K (.ref k_Held) "call_apply" = some (some (.ref f_Held_call_apply))) (i_Held_call_apply : PySem.W.isFn K (.ref f_Held_call_apply) = true)
    (l_Held_call_apply : K.lookup f_Held_call_apply = some ⟨oc_Held_call_apply, od_Held_call_apply, .func (PySem.W.fnOf "call_apply" "Held.call_apply" (defArgs s_Held_call_apply) (defBody s_Held_call_apply) (defScope s_Held_call_apply) .none kV_Held_call_apply dc_Held_call_apply pm_Held_call_apply an_Held_call_apply cd_Held_call_apply ct_Held_call_apply), sl_Held_call_apply⟩) (c_Held_call_apply : PySem.W.codeIn K cd_Held_call_apply "Held.call_apply" = true) (k_Held_call_apply : PySem.W.keepIn K (.ref f_Held_call_apply) = true)
    (a_made_of_put : PySem.W.nsIn K mainGlobals "made_of_put" = some (some (.ref f_made_of_put)))
    (l_made_of_put : K.lookup f_made_of_put = some ⟨oc_made_of_put, od_made_of_put, .func (PySem.W.fnOf "made_of_put" "made_of_put" (defArgs s_made_of_put) (defBody s_made_of_put) (defScope s_made_of_put) .none kV_made_of_put dc_made_of_put pm_made_of_put an_made_of_put cd_made_of_put ct_made_of_put), sl_made_of_put⟩) (c_made_of_put : PySem.W.codeIn K cd_made_of_put "made_of_put" = true) (k_made_of_put : PySem.W.keepIn K (.ref f_made_of_put) = true)
    (a_made_of_painted : PySem.W.nsIn K mainGlobals "made_of_painted" = some (some (.ref f_made_of_painted)))
    (l_made_of_painted : K.lookup f_made_of_painted = some ⟨oc_made_of_painted, od_made_of_painted, .func (PySem.W.fnOf "made_of_painted" "made_of_painted" (defArgs s_made_of_painted) (defBody s_made_of_painted) (defScope s_made_of_painted) .none kV_made_of_painted dc_made_of_painted pm_made_of_painted an_made_of_painted cd_made_of_painted ct_made_of_painted), sl_made_of_painted⟩) (c_made_of_painted : PySem.W.codeIn K cd_made_of_painted "made_of_painted" = true) (k_made_of_painted : PySem.W.keepIn K (.ref f_made_of_painted) = true)
    (a_made_of : PySem.W.nsIn K mainGlobals "made_of" = some (some (.ref f_made_of)))
    (l_made_of : K.lookup f_made_of = some ⟨oc_made_of, od_made_of, .func (PySem.W.fnOf "made_of" "made_of" (defArgs s_made_of) (defBody s_made_of) (defScope s_made_of) .none kV_made_of dc_made_of pm_made_of an_made_of cd_made_of ct_made_of), sl_made_of⟩) (c_made_of : PySem.W.codeIn K cd_made_of "made_of" = true) (k_made_of : PySem.W.keepIn K (.ref f_made_of) = true)
    (a_composed : PySem.W.nsIn K mainGlobals "composed" = some (some (.ref f_composed)))
    (l_composed : K.lookup f_composed = some ⟨oc_composed, od_composed, .func (PySem.W.fnOf "composed" "composed" (defArgs s_composed) (defBody s_composed) (defScope s_composed) .none kV_composed dc_composed pm_composed an_composed cd_composed ct_composed), sl_composed⟩) (c_composed : PySem.W.codeIn K cd_composed "composed" = true) (k_composed : PySem.W.keepIn K (.ref f_composed) = true)
    (a_Held_call_compose : PySem.W.findIn K (.ref k_Held) "call_compose" = some (some (.ref f_Held_call_compose))) (i_Held_call_compose : PySem.W.isFn K (.ref f_Held_call_compose) = true)
    (l_Held_call_compose : K.lookup f_Held_call_compose = some ⟨oc_Held_call_compose, od_Held_call_compose, .func (PySem.W.fnOf "call_compose" "Held.call_compose" (defArgs s_Held_call_compose) (defBody s_Held_call_compose) (defScope s_Held_call_compose) .none kV_Held_call_compose dc_Held_call_compose pm_Held_call_compose an_Held_call_compose cd_Held_call_compose ct_Held_call_compose), sl_Held_call_compose⟩) (c_Held_call_compose : PySem.W.codeIn K cd_Held_call_compose "Held.call_compose" = true) (k_Held_call_compose : PySem.W.keepIn K (.ref f_Held_call_compose) = true)
    (a_turned_step : PySem.W.nsIn K mainGlobals "turned_step" = some (some (.ref f_turned_step)))
    (l_turned_step : K.lookup f_turned_step = some ⟨oc_turned_step, od_turned_step, .func (PySem.W.fnOf "turned_step" "turned_step" (defArgs s_turned_step) (defBody s_turned_step) (defScope s_turned_step) .none kV_turned_step dc_turned_step pm_turned_step an_turned_step cd_turned_step ct_turned_step), sl_turned_step⟩) (c_turned_step : PySem.W.codeIn K cd_turned_step "turned_step" = true) (k_turned_step : PySem.W.keepIn K (.ref f_turned_step) = true)
    (a_turned : PySem.W.nsIn K mainGlobals "turned" = some (some (.ref f_turned)))
    (l_turned : K.lookup f_turned = some ⟨oc_turned, od_turned, .func (PySem.W.fnOf "turned" "turned" (defArgs s_turned) (defBody s_turned) (defScope s_turned) .none kV_turned dc_turned pm_turned an_turned cd_turned ct_turned), sl_turned⟩) (c_turned : PySem.W.codeIn K cd_turned "turned" = true) (k_turned : PySem.W.keepIn K (.ref f_turned) = true)
    (a_Held_call_turn : PySem.W.findIn K (.ref k_Held) "call_turn" = some (some (.ref f_Held_call_turn))) (i_Held_call_turn : PySem.W.isFn K (.ref f_Held_call_turn) = true)
    (l_Held_call_turn : K.lookup f_Held_call_turn = some ⟨oc_Held_call_turn, od_Held_call_turn, .func (PySem.W.fnOf "call_turn" "Held.call_turn" (defArgs s_Held_call_turn) (defBody s_Held_call_turn) (defScope s_Held_call_turn) .none kV_Held_call_turn dc_Held_call_turn pm_Held_call_turn an_Held_call_turn cd_Held_call_turn ct_Held_call_turn), sl_Held_call_turn⟩) (c_Held_call_turn : PySem.W.codeIn K cd_Held_call_turn "Held.call_turn" = true) (k_Held_call_turn : PySem.W.keepIn K (.ref f_Held_call_turn) = true)
    (a_both_painted : PySem.W.nsIn K mainGlobals "both_painted" = some (some (.ref f_both_painted)))
    (l_both_painted : K.lookup f_both_painted = some ⟨oc_both_painted, od_both_painted, .func (PySem.W.fnOf "both_painted" "both_painted" (defArgs s_both_painted) (defBody s_both_painted) (defScope s_both_painted) .none kV_both_painted dc_both_painted pm_both_painted an_both_painted cd_both_painted ct_both_painted), sl_both_painted⟩) (c_both_painted : PySem.W.codeIn K cd_both_painted "both_painted" = true) (k_both_painted : PySem.W.keepIn K (.ref f_both_painted) = true)
    (a_dropped_painted : PySem.W.nsIn K mainGlobals "dropped_painted" = some (some (.ref f_dropped_painted)))
    (l_dropped_painted : K.lookup f_dropped_painted = some ⟨oc_dropped_painted, od_dropped_painted, .func (PySem.W.fnOf "dropped_painted" "dropped_painted" (defArgs s_dropped_painted) (defBody s_dropped_painted) (defScope s_dropped_painted) .none kV_dropped_painted dc_dropped_painted pm_dropped_painted an_dropped_painted cd_dropped_painted ct_dropped_painted), sl_dropped_painted⟩) (c_dropped_painted : PySem.W.codeIn K cd_dropped_painted "dropped_painted" = true) (k_dropped_painted : PySem.W.keepIn K (.ref f_dropped_painted) = true)
    (a_kept_beside : PySem.W.nsIn K mainGlobals "kept_beside" = some (some (.ref f_kept_beside)))
    (l_kept_beside : K.lookup f_kept_beside = some ⟨oc_kept_beside, od_kept_beside, .func (PySem.W.fnOf "kept_beside" "kept_beside" (defArgs s_kept_beside) (defBody s_kept_beside) (defScope s_kept_beside) .none kV_kept_beside dc_kept_beside pm_kept_beside an_kept_beside cd_kept_beside ct_kept_beside), sl_kept_beside⟩) (c_kept_beside : PySem.W.codeIn K cd_kept_beside "kept_beside" = true) (k_kept_beside : PySem.W.keepIn K (.ref f_kept_beside) = true)
    (a_carried : PySem.W.nsIn K mainGlobals "carried" = some (some (.ref f_carried)))
    (l_carried : K.lookup f_carried = some ⟨oc_carried, od_carried, .func (PySem.W.fnOf "carried" "carried" (defArgs s_carried) (defBody s_carried) (defScope s_carried) .none kV_carried dc_carried pm_carried an_carried cd_carried ct_carried), sl_carried⟩) (c_carried : PySem.W.codeIn K cd_carried "carried" = true) (k_carried : PySem.W.keepIn K (.ref f_carried) = true)
    (a_rebased : PySem.W.nsIn K mainGlobals "rebased" = some (some (.ref f_rebased)))
    (l_rebased : K.lookup f_rebased = some ⟨oc_rebased, od_rebased, .func (PySem.W.fnOf "rebased" "rebased" (defArgs s_rebased) (defBody s_rebased) (defScope s_rebased) .none kV_rebased dc_rebased pm_rebased an_rebased cd_rebased ct_rebased), sl_rebased⟩) (c_rebased : PySem.W.codeIn K cd_rebased "rebased" = true) (k_rebased : PySem.W.keepIn K (.ref f_rebased) = true)
    (a_Held_call_rebase : PySem.W.findIn K (.ref k_Held) "call_rebase" = some (some (.ref f_Held_call_rebase))) (i_Held_call_rebase : PySem.W.isFn K (.ref f_Held_call_rebase) = true)
    (l_Held_call_rebase : K.lookup f_Held_call_rebase = some ⟨oc_Held_call_rebase, od_Held_call_rebase, .func (PySem.W.fnOf "call_rebase" "Held.call_rebase" (defArgs s_Held_call_rebase) (defBody s_Held_call_rebase) (defScope s_Held_call_rebase) .none kV_Held_call_rebase dc_Held_call_rebase pm_Held_call_rebase an_Held_call_rebase cd_Held_call_rebase ct_Held_call_rebase), sl_Held_call_rebase⟩) (c_Held_call_rebase : PySem.W.codeIn K cd_Held_call_rebase "Held.call_rebase" = true) (k_Held_call_rebase : PySem.W.keepIn K (.ref f_Held_call_rebase) = true)
    (a_Held_call_same : PySem.W.findIn K (.ref k_Held) "call_same" = some (some (.ref f_Held_call_same))) (i_Held_call_same : PySem.W.isFn K (.ref f_Held_call_same) = true)
    (l_Held_call_same : K.lookup f_Held_call_same = some ⟨oc_Held_call_same, od_Held_call_same, .func (PySem.W.fnOf "call_same" "Held.call_same" (defArgs s_Held_call_same) (defBody s_Held_call_same) (defScope s_Held_call_same) .none kV_Held_call_same dc_Held_call_same pm_Held_call_same an_Held_call_same cd_Held_call_same ct_Held_call_same), sl_Held_call_same⟩) (c_Held_call_same : PySem.W.codeIn K cd_Held_call_same "Held.call_same" = true) (k_Held_call_same : PySem.W.keepIn K (.ref f_Held_call_same) = true)
    (a_kept_letters : PySem.W.nsIn K mainGlobals "kept_letters" = some (some (.ref f_kept_letters)))
    (l_kept_letters : K.lookup f_kept_letters = some ⟨oc_kept_letters, od_kept_letters, .func (PySem.W.fnOf "kept_letters" "kept_letters" (defArgs s_kept_letters) (defBody s_kept_letters) (defScope s_kept_letters) .none kV_kept_letters dc_kept_letters pm_kept_letters an_kept_letters cd_kept_letters ct_kept_letters), sl_kept_letters⟩) (c_kept_letters : PySem.W.codeIn K cd_kept_letters "kept_letters" = true) (k_kept_letters : PySem.W.keepIn K (.ref f_kept_letters) = true)
    (a_backward : PySem.W.nsIn K mainGlobals "backward" = some (some (.ref f_backward)))
    (l_backward : K.lookup f_backward = some ⟨oc_backward, od_backward, .func (PySem.W.fnOf "backward" "backward" (defArgs s_backward) (defBody s_backward) (defScope s_backward) .none kV_backward dc_backward pm_backward an_backward cd_backward ct_backward), sl_backward⟩) (c_backward : PySem.W.codeIn K cd_backward "backward" = true) (k_backward : PySem.W.keepIn K (.ref f_backward) = true)
    (a_forward : PySem.W.nsIn K mainGlobals "forward" = some (some (.ref f_forward)))
    (l_forward : K.lookup f_forward = some ⟨oc_forward, od_forward, .func (PySem.W.fnOf "forward" "forward" (defArgs s_forward) (defBody s_forward) (defScope s_forward) .none kV_forward dc_forward pm_forward an_forward cd_forward ct_forward), sl_forward⟩) (c_forward : PySem.W.codeIn K cd_forward "forward" = true) (k_forward : PySem.W.keepIn K (.ref f_forward) = true)
    (a_Held_call_place : PySem.W.findIn K (.ref k_Held) "call_place" = some (some (.ref f_Held_call_place))) (i_Held_call_place : PySem.W.isFn K (.ref f_Held_call_place) = true)
    (l_Held_call_place : K.lookup f_Held_call_place = some ⟨oc_Held_call_place, od_Held_call_place, .func (PySem.W.fnOf "call_place" "Held.call_place" (defArgs s_Held_call_place) (defBody s_Held_call_place) (defScope s_Held_call_place) .none kV_Held_call_place dc_Held_call_place pm_Held_call_place an_Held_call_place cd_Held_call_place ct_Held_call_place), sl_Held_call_place⟩) (c_Held_call_place : PySem.W.codeIn K cd_Held_call_place "Held.call_place" = true) (k_Held_call_place : PySem.W.keepIn K (.ref f_Held_call_place) = true)
    (a_carried_stretch : PySem.W.nsIn K mainGlobals "carried_stretch" = some (some (.ref f_carried_stretch)))
    (l_carried_stretch : K.lookup f_carried_stretch = some ⟨oc_carried_stretch, od_carried_stretch, .func (PySem.W.fnOf "carried_stretch" "carried_stretch" (defArgs s_carried_stretch) (defBody s_carried_stretch) (defScope s_carried_stretch) .none kV_carried_stretch dc_carried_stretch pm_carried_stretch an_carried_stretch cd_carried_stretch ct_carried_stretch), sl_carried_stretch⟩) (c_carried_stretch : PySem.W.codeIn K cd_carried_stretch "carried_stretch" = true) (k_carried_stretch : PySem.W.keepIn K (.ref f_carried_stretch) = true)
    (a_is_stretch : PySem.W.nsIn K mainGlobals "is_stretch" = some (some (.ref f_is_stretch)))
    (l_is_stretch : K.lookup f_is_stretch = some ⟨oc_is_stretch, od_is_stretch, .func (PySem.W.fnOf "is_stretch" "is_stretch" (defArgs s_is_stretch) (defBody s_is_stretch) (defScope s_is_stretch) .none kV_is_stretch dc_is_stretch pm_is_stretch an_is_stretch cd_is_stretch ct_is_stretch), sl_is_stretch⟩) (c_is_stretch : PySem.W.codeIn K cd_is_stretch "is_stretch" = true) (k_is_stretch : PySem.W.keepIn K (.ref f_is_stretch) = true)
    (a_count_kept : PySem.W.nsIn K mainGlobals "count_kept" = some (some (.ref f_count_kept)))
    (l_count_kept : K.lookup f_count_kept = some ⟨oc_count_kept, od_count_kept, .func (PySem.W.fnOf "count_kept" "count_kept" (defArgs s_count_kept) (defBody s_count_kept) (defScope s_count_kept) .none kV_count_kept dc_count_kept pm_count_kept an_count_kept cd_count_kept ct_count_kept), sl_count_kept⟩) (c_count_kept : PySem.W.codeIn K cd_count_kept "count_kept" = true) (k_count_kept : PySem.W.keepIn K (.ref f_count_kept) = true)
    (a_Held_call_stretch : PySem.W.findIn K (.ref k_Held) "call_stretch" = some (some (.ref f_Held_call_stretch))) (i_Held_call_stretch : PySem.W.isFn K (.ref f_Held_call_stretch) = true)
    (l_Held_call_stretch : K.lookup f_Held_call_stretch = some ⟨oc_Held_call_stretch, od_Held_call_stretch, .func (PySem.W.fnOf "call_stretch" "Held.call_stretch" (defArgs s_Held_call_stretch) (defBody s_Held_call_stretch) (defScope s_Held_call_stretch) .none kV_Held_call_stretch dc_Held_call_stretch pm_Held_call_stretch an_Held_call_stretch cd_Held_call_stretch ct_Held_call_stretch), sl_Held_call_stretch⟩) (c_Held_call_stretch : PySem.W.codeIn K cd_Held_call_stretch "Held.call_stretch" = true) (k_Held_call_stretch : PySem.W.keepIn K (.ref f_Held_call_stretch) = true)
    (a_stretch_end : PySem.W.nsIn K mainGlobals "stretch_end" = some (some (.ref f_stretch_end)))
    (l_stretch_end : K.lookup f_stretch_end = some ⟨oc_stretch_end, od_stretch_end, .func (PySem.W.fnOf "stretch_end" "stretch_end" (defArgs s_stretch_end) (defBody s_stretch_end) (defScope s_stretch_end) .none kV_stretch_end dc_stretch_end pm_stretch_end an_stretch_end cd_stretch_end ct_stretch_end), sl_stretch_end⟩) (c_stretch_end : PySem.W.codeIn K cd_stretch_end "stretch_end" = true) (k_stretch_end : PySem.W.keepIn K (.ref f_stretch_end) = true)
    (a_kept_stretches : PySem.W.nsIn K mainGlobals "kept_stretches" = some (some (.ref f_kept_stretches)))
    (l_kept_stretches : K.lookup f_kept_stretches = some ⟨oc_kept_stretches, od_kept_stretches, .func (PySem.W.fnOf "kept_stretches" "kept_stretches" (defArgs s_kept_stretches) (defBody s_kept_stretches) (defScope s_kept_stretches) .none kV_kept_stretches dc_kept_stretches pm_kept_stretches an_kept_stretches cd_kept_stretches ct_kept_stretches), sl_kept_stretches⟩) (c_kept_stretches : PySem.W.codeIn K cd_kept_stretches "kept_stretches" = true) (k_kept_stretches : PySem.W.keepIn K (.ref f_kept_stretches) = true)
    (a_Held_call_kept : PySem.W.findIn K (.ref k_Held) "call_kept" = some (some (.ref f_Held_call_kept))) (i_Held_call_kept : PySem.W.isFn K (.ref f_Held_call_kept) = true)
    (l_Held_call_kept : K.lookup f_Held_call_kept = some ⟨oc_Held_call_kept, od_Held_call_kept, .func (PySem.W.fnOf "call_kept" "Held.call_kept" (defArgs s_Held_call_kept) (defBody s_Held_call_kept) (defScope s_Held_call_kept) .none kV_Held_call_kept dc_Held_call_kept pm_Held_call_kept an_Held_call_kept cd_Held_call_kept ct_Held_call_kept), sl_Held_call_kept⟩) (c_Held_call_kept : PySem.W.codeIn K cd_Held_call_kept "Held.call_kept" = true) (k_Held_call_kept : PySem.W.keepIn K (.ref f_Held_call_kept) = true)
    (a_replacing : PySem.W.nsIn K mainGlobals "replacing" = some (some (.ref f_replacing)))
    (l_replacing : K.lookup f_replacing = some ⟨oc_replacing, od_replacing, .func (PySem.W.fnOf "replacing" "replacing" (defArgs s_replacing) (defBody s_replacing) (defScope s_replacing) .none kV_replacing dc_replacing pm_replacing an_replacing cd_replacing ct_replacing), sl_replacing⟩) (c_replacing : PySem.W.codeIn K cd_replacing "replacing" = true) (k_replacing : PySem.W.keepIn K (.ref f_replacing) = true)
    (a_Held_call_replace : PySem.W.findIn K (.ref k_Held) "call_replace" = some (some (.ref f_Held_call_replace))) (i_Held_call_replace : PySem.W.isFn K (.ref f_Held_call_replace) = true)
    (l_Held_call_replace : K.lookup f_Held_call_replace = some ⟨oc_Held_call_replace, od_Held_call_replace, .func (PySem.W.fnOf "call_replace" "Held.call_replace" (defArgs s_Held_call_replace) (defBody s_Held_call_replace) (defScope s_Held_call_replace) .none kV_Held_call_replace dc_Held_call_replace pm_Held_call_replace an_Held_call_replace cd_Held_call_replace ct_Held_call_replace), sl_Held_call_replace⟩) (c_Held_call_replace : PySem.W.codeIn K cd_Held_call_replace "Held.call_replace" = true) (k_Held_call_replace : PySem.W.keepIn K (.ref f_Held_call_replace) = true)
    (a_painting : PySem.W.nsIn K mainGlobals "painting" = some (some (.ref f_painting)))
    (l_painting : K.lookup f_painting = some ⟨oc_painting, od_painting, .func (PySem.W.fnOf "painting" "painting" (defArgs s_painting) (defBody s_painting) (defScope s_painting) .none kV_painting dc_painting pm_painting an_painting cd_painting ct_painting), sl_painting⟩) (c_painting : PySem.W.codeIn K cd_painting "painting" = true) (k_painting : PySem.W.keepIn K (.ref f_painting) = true)
    (a_repainting : PySem.W.nsIn K mainGlobals "repainting" = some (some (.ref f_repainting)))
    (l_repainting : K.lookup f_repainting = some ⟨oc_repainting, od_repainting, .func (PySem.W.fnOf "repainting" "repainting" (defArgs s_repainting) (defBody s_repainting) (defScope s_repainting) .none kV_repainting dc_repainting pm_repainting an_repainting cd_repainting ct_repainting), sl_repainting⟩) (c_repainting : PySem.W.codeIn K cd_repainting "repainting" = true) (k_repainting : PySem.W.keepIn K (.ref f_repainting) = true)
    (a_Held_call_repaint : PySem.W.findIn K (.ref k_Held) "call_repaint" = some (some (.ref f_Held_call_repaint))) (i_Held_call_repaint : PySem.W.isFn K (.ref f_Held_call_repaint) = true)
    (l_Held_call_repaint : K.lookup f_Held_call_repaint = some ⟨oc_Held_call_repaint, od_Held_call_repaint, .func (PySem.W.fnOf "call_repaint" "Held.call_repaint" (defArgs s_Held_call_repaint) (defBody s_Held_call_repaint) (defScope s_Held_call_repaint) .none kV_Held_call_repaint dc_Held_call_repaint pm_Held_call_repaint an_Held_call_repaint cd_Held_call_repaint ct_Held_call_repaint), sl_Held_call_repaint⟩) (c_Held_call_repaint : PySem.W.codeIn K cd_Held_call_repaint "Held.call_repaint" = true) (k_Held_call_repaint : PySem.W.keepIn K (.ref f_Held_call_repaint) = true)
    (a_answer_of : PySem.W.nsIn K mainGlobals "answer_of" = some (some (.ref f_answer_of)))
    (l_answer_of : K.lookup f_answer_of = some ⟨oc_answer_of, od_answer_of, .func (PySem.W.fnOf "answer_of" "answer_of" (defArgs s_answer_of) (defBody s_answer_of) (defScope s_answer_of) .none kV_answer_of dc_answer_of pm_answer_of an_answer_of cd_answer_of ct_answer_of), sl_answer_of⟩) (c_answer_of : PySem.W.codeIn K cd_answer_of "answer_of" = true) (k_answer_of : PySem.W.keepIn K (.ref f_answer_of) = true)
    (a_answers : PySem.W.nsIn K mainGlobals "answers" = some (some (.ref f_answers)))
    (l_answers : K.lookup f_answers = some ⟨oc_answers, od_answers, .func (PySem.W.fnOf "answers" "answers" (defArgs s_answers) (defBody s_answers) (defScope s_answers) .none kV_answers dc_answers pm_answers an_answers cd_answers ct_answers), sl_answers⟩) (c_answers : PySem.W.codeIn K cd_answers "answers" = true) (k_answers : PySem.W.keepIn K (.ref f_answers) = true) :
    ∃ fd : FuncData, (∀ (s : Shared) (us : List Value), us.length = (["calls"] : List Str).length → BindsTo s fd ⟨us, []⟩ ((["calls"] : List Str).zip us)) ∧ ∀ base : Heap, K.In base → base.Ns mainGlobals mg → FnOk P w K mg base CX0 8 fa fd ["calls"] (spAns K) := by
  have e := hfa.symm.trans (PySem.W.mg_of X G a_answers)
  cases e
  have T := txt_mk X G z_len z_range z_sum z_all z_min g_KEEP g_PAINT g_DROP g_PUT g_MOST g_HEADS l_HEADS g_MOST_IN_PART g_EDITS g_SHAPES l_SHAPES l_SHAPES_0 l_SHAPES_1 l_SHAPES_2 l_SHAPES_3 l_SHAPES_4 l_SHAPES_5 l_SHAPES_6 l_SHAPES_7 l_SHAPES_8 l_SHAPES_9 l_SHAPES_10 l_SHAPES_11 l_SHAPES_12 l_SHAPES_13 g_Held pg_Held hd_Held po_Held sa_Held na_Held_text na_Held_edits
  refine ⟨PySem.W.fnOf "answers" "answers" (defArgs s_answers) (defBody s_answers) (defScope s_answers) .none kV_answers dc_answers pm_answers an_answers cd_answers ct_answers, fun s us hu => match us, hu with | [_], _ => .of_eq rfl, fun base _ _ => ?_⟩
  exact chain T
    (dfnI_mk mk_Held___init__ kc_Held___init__ a_Held___init__ i_Held___init__ l_Held___init__ c_Held___init__ k_Held___init__ (fun _ _ _ _ _ _ us hl => match us, hl with | [_], _ => rfl))
    (dfn_mk X G a_call_end l_call_end c_call_end k_call_end (fun _ _ _ _ _ _ us hl => match us, hl with | [_, _, _], _ => rfl))
    (dfn_mk X G a_numbers_of_letters l_numbers_of_letters c_numbers_of_letters k_numbers_of_letters (fun _ _ _ _ _ _ us hl => match us, hl with | [_], _ => rfl))
    (dfnM_mk a_Held_call_show i_Held_call_show l_Held_call_show c_Held_call_show k_Held_call_show (fun _ _ _ _ _ _ us hl => match us, hl with | [_], _ => rfl))
    (dfn_mk X G a_is_sign l_is_sign c_is_sign k_is_sign (fun _ _ _ _ _ _ us hl => match us, hl with | [_], _ => rfl))
    (dfn_mk X G a_is_look l_is_look c_is_look k_is_look (fun _ _ _ _ _ _ us hl => match us, hl with | [_], _ => rfl))
    (dfn_mk X G a_letters_told l_letters_told c_letters_told k_letters_told (fun _ _ _ _ _ _ us hl => match us, hl with | [_], _ => rfl))
    (dfnM_mk a_Held_call_text i_Held_call_text l_Held_call_text c_Held_call_text k_Held_call_text (fun _ _ _ _ _ _ us hl => match us, hl with | [_, _], _ => rfl))
    (dfn_mk X G a_letters_end l_letters_end c_letters_end k_letters_end (fun _ _ _ _ _ _ us hl => match us, hl with | [_, _, _], _ => rfl))
    (dfn_mk X G a_is_paint l_is_paint c_is_paint k_is_paint (fun _ _ _ _ _ _ us hl => match us, hl with | [_, _], _ => rfl))
    (dfn_mk X G a_part_end l_part_end c_part_end k_part_end (fun _ _ _ _ _ _ us hl => match us, hl with | [_, _], _ => rfl))
    (dfn_mk X G a_parts_told l_parts_told c_parts_told k_parts_told (fun _ _ _ _ _ _ us hl => match us, hl with | [_], _ => rfl))
    (dfn_mk X G a_old_length l_old_length c_old_length k_old_length (fun _ _ _ _ _ _ us hl => match us, hl with | [_], _ => rfl))
    (dfn_mk X G a_new_length l_new_length c_new_length k_new_length (fun _ _ _ _ _ _ us hl => match us, hl with | [_], _ => rfl))
    (dfnM_mk a_Held_hold i_Held_hold l_Held_hold c_Held_hold k_Held_hold (fun _ _ _ _ _ _ us hl => match us, hl with | [_, _, _], _ => rfl))
    (dfn_mk X G a_name_edits l_name_edits c_name_edits k_name_edits (fun _ _ _ _ _ _ us hl => match us, hl with | [_], _ => rfl))
    (dfn_mk X G a_in_form l_in_form c_in_form k_in_form (fun _ _ _ _ _ _ us hl => match us, hl with | [_], _ => rfl))
    (dfn_mk X G a_part_n l_part_n c_part_n k_part_n (fun _ _ _ _ _ _ us hl => match us, hl with | [_], _ => rfl))
    (dfn_mk X G a_old_length_told l_old_length_told c_old_length_told k_old_length_told (fun _ _ _ _ _ _ us hl => match us, hl with | [_], _ => rfl))
    (dfn_mk X G a_new_length_told l_new_length_told c_new_length_told k_new_length_told (fun _ _ _ _ _ _ us hl => match us, hl with | [_], _ => rfl))
    (dfn_mk X G a_steps_of_part l_steps_of_part c_steps_of_part k_steps_of_part (fun _ _ _ _ _ _ us hl => match us, hl with | [_], _ => rfl))
    (dfn_mk X G a_steps_of_parts l_steps_of_parts c_steps_of_parts k_steps_of_parts (fun _ _ _ _ _ _ us hl => match us, hl with | [_], _ => rfl))
    (dfnM_mk a_Held_call_set i_Held_call_set l_Held_call_set c_Held_call_set k_Held_call_set (fun _ _ _ _ _ _ us hl => match us, hl with | [_, _, _], _ => rfl))
    (dfn_mk X G a_share_part l_share_part c_share_part k_share_part (fun _ _ _ _ _ _ us hl => match us, hl with | [_, _], _ => rfl))
    (dfn_mk X G a_run_end l_run_end c_run_end k_run_end (fun _ _ _ _ _ _ us hl => match us, hl with | [_, _], _ => rfl))
    (dfn_mk X G a_part_of_run l_part_of_run c_part_of_run k_part_of_run (fun _ _ _ _ _ _ us hl => match us, hl with | [_], _ => rfl))
    (dfn_mk X G a_numbers_of_steps l_numbers_of_steps c_numbers_of_steps k_numbers_of_steps (fun _ _ _ _ _ _ us hl => match us, hl with | [_], _ => rfl))
    (dfnM_mk a_Held_call_get i_Held_call_get l_Held_call_get c_Held_call_get k_Held_call_get (fun _ _ _ _ _ _ us hl => match us, hl with | [_, _], _ => rfl))
    (dfn_mk X G a_takes l_takes c_takes k_takes (fun _ _ _ _ _ _ us hl => match us, hl with | [_, _], _ => rfl))
    (dfn_mk X G a_brought l_brought c_brought k_brought (fun _ _ _ _ _ _ us hl => match us, hl with | [_, _], _ => rfl))
    (dfn_mk X G a_applied l_applied c_applied k_applied (fun _ _ _ _ _ _ us hl => match us, hl with | [_, _], _ => rfl))
    (dfnM_mk a_Held_call_apply i_Held_call_apply l_Held_call_apply c_Held_call_apply k_Held_call_apply (fun _ _ _ _ _ _ us hl => match us, hl with | [_, _], _ => rfl))
    (dfn_mk X G a_made_of_put l_made_of_put c_made_of_put k_made_of_put (fun _ _ _ _ _ _ us hl => match us, hl with | [_, _, _], _ => rfl))
    (dfn_mk X G a_made_of_painted l_made_of_painted c_made_of_painted k_made_of_painted (fun _ _ _ _ _ _ us hl => match us, hl with | [_, _, _], _ => rfl))
    (dfn_mk X G a_made_of l_made_of c_made_of k_made_of (fun _ _ _ _ _ _ us hl => match us, hl with | [_, _], _ => rfl))
    (dfn_mk X G a_composed l_composed c_composed k_composed (fun _ _ _ _ _ _ us hl => match us, hl with | [_, _], _ => rfl))
    (dfnM_mk a_Held_call_compose i_Held_call_compose l_Held_call_compose c_Held_call_compose k_Held_call_compose (fun _ _ _ _ _ _ us hl => match us, hl with | [_, _, _, _], _ => rfl))
    (dfn_mk X G a_turned_step l_turned_step c_turned_step k_turned_step (fun _ _ _ _ _ _ us hl => match us, hl with | [_], _ => rfl))
    (dfn_mk X G a_turned l_turned c_turned k_turned (fun _ _ _ _ _ _ us hl => match us, hl with | [_], _ => rfl))
    (dfnM_mk a_Held_call_turn i_Held_call_turn l_Held_call_turn c_Held_call_turn k_Held_call_turn (fun _ _ _ _ _ _ us hl => match us, hl with | [_, _, _], _ => rfl))
    (dfn_mk X G a_both_painted l_both_painted c_both_painted k_both_painted (fun _ _ _ _ _ _ us hl => match us, hl with | [_, _, _], _ => rfl))
    (dfn_mk X G a_dropped_painted l_dropped_painted c_dropped_painted k_dropped_painted (fun _ _ _ _ _ _ us hl => match us, hl with | [_, _], _ => rfl))
    (dfn_mk X G a_kept_beside l_kept_beside c_kept_beside k_kept_beside (fun _ _ _ _ _ _ us hl => match us, hl with | [_], _ => rfl))
    (dfn_mk X G a_carried l_carried c_carried k_carried (fun _ _ _ _ _ _ us hl => match us, hl with | [_, _, _], _ => rfl))
    (dfn_mk X G a_rebased l_rebased c_rebased k_rebased (fun _ _ _ _ _ _ us hl => match us, hl with | [_, _, _], _ => rfl))
    (dfnM_mk a_Held_call_rebase i_Held_call_rebase l_Held_call_rebase c_Held_call_rebase k_Held_call_rebase (fun _ _ _ _ _ _ us hl => match us, hl with | [_, _, _, _, _, _], _ => rfl))
    (dfnM_mk a_Held_call_same i_Held_call_same l_Held_call_same c_Held_call_same k_Held_call_same (fun _ _ _ _ _ _ us hl => match us, hl with | [_, _, _], _ => rfl))
    (dfn_mk X G a_kept_letters l_kept_letters c_kept_letters k_kept_letters (fun _ _ _ _ _ _ us hl => match us, hl with | [_], _ => rfl))
    (dfn_mk X G a_backward l_backward c_backward k_backward (fun _ _ _ _ _ _ us hl => match us, hl with | [_, _], _ => rfl))
    (dfn_mk X G a_forward l_forward c_forward k_forward (fun _ _ _ _ _ _ us hl => match us, hl with | [_, _], _ => rfl))
    (dfnM_mk a_Held_call_place i_Held_call_place l_Held_call_place c_Held_call_place k_Held_call_place (fun _ _ _ _ _ _ us hl => match us, hl with | [_, _, _], _ => rfl))
    (dfn_mk X G a_carried_stretch l_carried_stretch c_carried_stretch k_carried_stretch (fun _ _ _ _ _ _ us hl => match us, hl with | [_, _, _, _, _], _ => rfl))
    (dfn_mk X G a_is_stretch l_is_stretch c_is_stretch k_is_stretch (fun _ _ _ _ _ _ us hl => match us, hl with | [_, _, _], _ => rfl))
    (dfn_mk X G a_count_kept l_count_kept c_count_kept k_count_kept (fun _ _ _ _ _ _ us hl => match us, hl with | [_, _, _], _ => rfl))
    (dfnM_mk a_Held_call_stretch i_Held_call_stretch l_Held_call_stretch c_Held_call_stretch k_Held_call_stretch (fun _ _ _ _ _ _ us hl => match us, hl with | [_, _, _, _, _], _ => rfl))
    (dfn_mk X G a_stretch_end l_stretch_end c_stretch_end k_stretch_end (fun _ _ _ _ _ _ us hl => match us, hl with | [_, _], _ => rfl))
    (dfn_mk X G a_kept_stretches l_kept_stretches c_kept_stretches k_kept_stretches (fun _ _ _ _ _ _ us hl => match us, hl with | [_], _ => rfl))
    (dfnM_mk a_Held_call_kept i_Held_call_kept l_Held_call_kept c_Held_call_kept k_Held_call_kept (fun _ _ _ _ _ _ us hl => match us, hl with | [_, _], _ => rfl))
    (dfn_mk X G a_replacing l_replacing c_replacing k_replacing (fun _ _ _ _ _ _ us hl => match us, hl with | [_, _, _, _], _ => rfl))
    (dfnM_mk a_Held_call_replace i_Held_call_replace l_Held_call_replace c_Held_call_replace k_Held_call_replace (fun _ _ _ _ _ _ us hl => match us, hl with | [_, _, _, _, _], _ => rfl))
    (dfn_mk X G a_painting l_painting c_painting k_painting (fun _ _ _ _ _ _ us hl => match us, hl with | [_, _], _ => rfl))
    (dfn_mk X G a_repainting l_repainting c_repainting k_repainting (fun _ _ _ _ _ _ us hl => match us, hl with | [_, _, _, _], _ => rfl))
    (dfnM_mk a_Held_call_repaint i_Held_call_repaint l_Held_call_repaint c_Held_call_repaint k_Held_call_repaint (fun _ _ _ _ _ _ us hl => match us, hl with | [_, _, _, _, _], _ => rfl))
    (dfn_mk X G a_answer_of l_answer_of c_answer_of k_answer_of (fun _ _ _ _ _ _ us hl => match us, hl with | [_, _, _, _], _ => rfl))
    (fun_mk l_answers c_answers k_answers)
end Ev
open PySem PySem.W PyProof.Rows
set_option maxRecDepth 100000 in
set_option maxHeartbeats 0 in
theorem PySem.Challenge.cw_editvalues_s01_answers_holds : PySem.Challenge.rw_editvalues_s01_answers.Holds := by
  w_on; k_headS; (case hw => exact ⟨[.list [.int 13]], by decide +kernel, by decide +kernel⟩)
  k_fillS
  refine L2.walk_specK (r := PySem.Challenge.rw_editvalues_s01_answers) (k := 8) (CX := L2.CX0) (ps := ["calls"]) (sp := Ev.spAns) (by decide +kernel) rfl rfl ⟨rfl, by decide, by decide⟩ (fun w h Y => PySem.W.kIn_of Y) ?F ?S (fun _ _ _ _ z => z)
  case F =>
    intro w mg fa h Y KX G hmg
    refine' Ev.all_mk KX G hmg ?z_len ?z_range ?z_sum ?z_all ?z_min ?g_KEEP ?g_PAINT ?g_DROP ?g_PUT ?g_MOST ?g_HEADS ?l_HEADS ?g_MOST_IN_PART ?g_EDITS ?g_SHAPES ?l_SHAPES ?l_SHAPES_0 ?l_SHAPES_1 ?l_SHAPES_2 ?l_SHAPES_3 ?l_SHAPES_4 ?l_SHAPES_5 ?l_SHAPES_6 ?l_SHAPES_7 ?l_SHAPES_8 ?l_SHAPES_9 ?l_SHAPES_10 ?l_SHAPES_11 ?l_SHAPES_12 ?l_SHAPES_13 ?g_Held ?pg_Held ?hd_Held ?po_Held ?sa_Held ?na_Held_text ?na_Held_edits ?mk_Held___init__ ?kc_Held___init__ ?a_Held___init__ ?i_Held___init__ ?l_Held___init__ ?c_Held___init__ ?k_Held___init__ ?a_call_end ?l_call_end ?c_call_end ?k_call_end ?a_numbers_of_letters ?l_numbers_of_letters ?c_numbers_of_letters ?k_numbers_of_letters ?a_Held_call_show ?i_Held_call_show ?l_Held_call_show ?c_Held_call_show ?k_Held_call_show ?a_is_sign ?l_is_sign ?c_is_sign ?k_is_sign ?a_is_look ?l_is_look ?c_is_look ?k_is_look ?a_letters_told ?l_letters_told ?c_letters_told ?k_letters_told ?a_Held_call_text ?i_Held_call_text ?l_Held_call_text ?c_Held_call_text ?k_Held_call_text ?a_letters_end ?l_letters_end ?c_letters_end ?k_letters_end ?a_is_paint ?l_is_paint ?c_is_paint ?k_is_paint ?a_part_end ?l_part_end ?c_part_end ?k_part_end ?a_parts_told ?l_parts_told ?c_parts_told ?k_parts_told ?a_old_length ?l_old_length ?c_old_length ?k_old_length ?a_new_length ?l_new_length ?c_new_length ?k_new_length ?a_Held_hold ?i_Held_hold ?l_Held_hold ?c_Held_hold ?k_Held_hold ?a_name_edits ?l_name_edits ?c_name_edits ?k_name_edits ?a_in_form ?l_in_form ?c_in_form ?k_in_form ?a_part_n ?l_part_n ?c_part_n ?k_part_n ?a_old_length_told ?l_old_length_told ?c_old_length_told ?k_old_length_told ?a_new_length_told ?l_new_length_told ?c_new_length_told ?k_new_length_told ?a_steps_of_part ?l_steps_of_part ?c_steps_of_part ?k_steps_of_part ?a_steps_of_parts ?l_steps_of_parts ?c_steps_of_parts ?k_steps_of_parts ?a_Held_call_set ?i_Held_call_set ?l_Held_call_set ?c_Held_call_set ?k_Held_call_set ?a_share_part ?l_share_part ?c_share_part ?k_share_part ?a_run_end ?l_run_end ?c_run_end ?k_run_end ?a_part_of_run ?l_part_of_run ?c_part_of_run ?k_part_of_run ?a_numbers_of_steps ?l_numbers_of_steps ?c_numbers_of_steps ?k_numbers_of_steps ?a_Held_call_get ?i_Held_call_get ?l_Held_call_get ?c_Held_call_get ?k_Held_call_get ?a_takes ?l_takes ?c_takes ?k_takes ?a_brought ?l_brought ?c_brought ?k_brought ?a_applied ?l_applied ?c_applied ?k_applied ?a_Held_call_apply ?i_Held_call_apply ?l_Held_call_apply ?c_Held_call_apply ?k_Held_call_apply ?a_made_of_put ?l_made_of_put ?c_made_of_put ?k_made_of_put ?a_made_of_painted ?l_made_of_painted ?c_made_of_painted ?k_made_of_painted ?a_made_of ?l_made_of ?c_made_of ?k_made_of ?a_composed ?l_composed ?c_composed ?k_composed ?a_Held_call_compose ?i_Held_call_compose ?l_Held_call_compose ?c_Held_call_compose ?k_Held_call_compose ?a_turned_step ?l_turned_step ?c_turned_step ?k_turned_step ?a_turned ?l_turned ?c_turned ?k_turned ?a_Held_call_turn ?i_Held_call_turn ?l_Held_call_turn ?c_Held_call_turn ?k_Held_call_turn ?a_both_painted ?l_both_painted ?c_both_painted ?k_both_painted ?a_dropped_painted ?l_dropped_painted ?c_dropped_painted ?k_dropped_painted ?a_kept_beside ?l_kept_beside ?c_kept_beside ?k_kept_beside ?a_carried ?l_carried ?c_carried ?k_carried ?a_rebased ?l_rebased ?c_rebased ?k_rebased ?a_Held_call_rebase ?i_Held_call_rebase ?l_Held_call_rebase ?c_Held_call_rebase ?k_Held_call_rebase ?a_Held_call_same ?i_Held_call_same ?l_Held_call_same ?c_Held_call_same ?k_Held_call_same ?a_kept_letters ?l_kept_letters ?c_kept_letters ?k_kept_letters ?a_backward ?l_backward ?c_backward ?k_backward ?a_forward ?l_forward ?c_forward ?k_forward ?a_Held_call_place ?i_Held_call_place ?l_Held_call_place ?c_Held_call_place ?k_Held_call_place ?a_carried_stretch ?l_carried_stretch ?c_carried_stretch ?k_carried_stretch ?a_is_stretch ?l_is_stretch ?c_is_stretch ?k_is_stretch ?a_count_kept ?l_count_kept ?c_count_kept ?k_count_kept ?a_Held_call_stretch ?i_Held_call_stretch ?l_Held_call_stretch ?c_Held_call_stretch ?k_Held_call_stretch ?a_stretch_end ?l_stretch_end ?c_stretch_end ?k_stretch_end ?a_kept_stretches ?l_kept_stretches ?c_kept_stretches ?k_kept_stretches ?a_Held_call_kept ?i_Held_call_kept ?l_Held_call_kept ?c_Held_call_kept ?k_Held_call_kept ?a_replacing ?l_replacing ?c_replacing ?k_replacing ?a_Held_call_replace ?i_Held_call_replace ?l_Held_call_replace ?c_Held_call_replace ?k_Held_call_replace ?a_painting ?l_painting ?c_painting ?k_painting ?a_repainting ?l_repainting ?c_repainting ?k_repainting ?a_Held_call_repaint ?i_Held_call_repaint ?l_Held_call_repaint ?c_Held_call_repaint ?k_Held_call_repaint ?a_answer_of ?l_answer_of ?c_answer_of ?k_answer_of ?a_answers ?l_answers ?c_answers ?k_answers
    (case z_len => k_is)
    (case z_range => k_is)
    (case z_sum => k_is)
    (case z_all => k_is)
    (case z_min => k_is)
    (case g_KEEP => k_is)
    (case g_PAINT => k_is)
    (case g_DROP => k_is)
    (case g_PUT => k_is)
    (case g_MOST => k_is)
    (case g_HEADS => k_is)
    (case l_HEADS => k_is)
    (case g_MOST_IN_PART => k_is)
    (case g_EDITS => k_is)
    (case g_SHAPES => k_is)
    (case l_SHAPES => k_is)
    (case l_SHAPES_0 => k_is)
    (case l_SHAPES_1 => k_is)
    (case l_SHAPES_2 => k_is)
    (case l_SHAPES_3 => k_is)
    (case l_SHAPES_4 => k_is)
    (case l_SHAPES_5 => k_is)
    (case l_SHAPES_6 => k_is)
    (case l_SHAPES_7 => k_is)
    (case l_SHAPES_8 => k_is)
    (case l_SHAPES_9 => k_is)
    (case l_SHAPES_10 => k_is)
    (case l_SHAPES_11 => k_is)
    (case l_SHAPES_12 => k_is)
    (case l_SHAPES_13 => k_is)
    (case g_Held => k_is)
    (case pg_Held => k_is)
    (case hd_Held => k_is)
    (case po_Held => k_is)
    (case sa_Held => k_is)
    (case na_Held_text => k_is)
    (case na_Held_edits => k_is)
    (case mk_Held___init__ => k_is)
    (case kc_Held___init__ => k_is)
    (case a_Held___init__ => k_is)
    (case i_Held___init__ => k_is)
    (case l_Held___init__ => k_is)
    (case c_Held___init__ => k_is)
    (case k_Held___init__ => k_is)
    (case a_call_end => k_is)
    (case l_call_end => k_is)
    (case c_call_end => k_is)
    (case k_call_end => k_is)
    (case a_numbers_of_letters => k_is)
    (case l_numbers_of_letters => k_is)
    (case c_numbers_of_letters => k_is)
    (case k_numbers_of_letters => k_is)
    (case a_Held_call_show => k_is)
    (case i_Held_call_show => k_is)
    (case l_Held_call_show => k_is)
    (case c_Held_call_show => k_is)
    (case k_Held_call_show => k_is)
    (case a_is_sign => k_is)
    (case l_is_sign => k_is)
    (case c_is_sign => k_is)
    (case k_is_sign => k_is)
    (case a_is_look => k_is)
    (case l_is_look => k_is)
    (case c_is_look => k_is)
    (case k_is_look => k_is)
    (case a_letters_told => k_is)
    (case l_letters_told => k_is)
    (case c_letters_told => k_is)
    (case k_letters_told => k_is)
    (case a_Held_call_text => k_is)
    (case i_Held_call_text => k_is)
    (case l_Held_call_text => k_is)
    (case c_Held_call_text => k_is)
    (case k_Held_call_text => k_is)
    (case a_letters_end => k_is)
    (case l_letters_end => k_is)
    (case c_letters_end => k_is)
    (case k_letters_end => k_is)
    (case a_is_paint => k_is)
    (case l_is_paint => k_is)
    (case c_is_paint => k_is)
    (case k_is_paint => k_is)
    (case a_part_end => k_is)
    (case l_part_end => k_is)
    (case c_part_end => k_is)
    (case k_part_end => k_is)
    (case a_parts_told => k_is)
    (case l_parts_told => k_is)
    (case c_parts_told => k_is)
    (case k_parts_told => k_is)
    (case a_old_length => k_is)
    (case l_old_length => k_is)
    (case c_old_length => k_is)
    (case k_old_length => k_is)
    (case a_new_length => k_is)
    (case l_new_length => k_is)
    (case c_new_length => k_is)
    (case k_new_length => k_is)
    (case a_Held_hold => k_is)
    (case i_Held_hold => k_is)
    (case l_Held_hold => k_is)
    (case c_Held_hold => k_is)
    (case k_Held_hold => k_is)
    (case a_name_edits => k_is)
    (case l_name_edits => k_is)
    (case c_name_edits => k_is)
    (case k_name_edits => k_is)
    (case a_in_form => k_is)
    (case l_in_form => k_is)
    (case c_in_form => k_is)
    (case k_in_form => k_is)
    (case a_part_n => k_is)
    (case l_part_n => k_is)
    (case c_part_n => k_is)
    (case k_part_n => k_is)
    (case a_old_length_told => k_is)
    (case l_old_length_told => k_is)
    (case c_old_length_told => k_is)
    (case k_old_length_told => k_is)
    (case a_new_length_told => k_is)
    (case l_new_length_told => k_is)
    (case c_new_length_told => k_is)
    (case k_new_length_told => k_is)
    (case a_steps_of_part => k_is)
    (case l_steps_of_part => k_is)
    (case c_steps_of_part => k_is)
    (case k_steps_of_part => k_is)
    (case a_steps_of_parts => k_is)
    (case l_steps_of_parts => k_is)
    (case c_steps_of_parts => k_is)
    (case k_steps_of_parts => k_is)
    (case a_Held_call_set => k_is)
    (case i_Held_call_set => k_is)
    (case l_Held_call_set => k_is)
    (case c_Held_call_set => k_is)
    (case k_Held_call_set => k_is)
    (case a_share_part => k_is)
    (case l_share_part => k_is)
    (case c_share_part => k_is)
    (case k_share_part => k_is)
    (case a_run_end => k_is)
    (case l_run_end => k_is)
    (case c_run_end => k_is)
    (case k_run_end => k_is)
    (case a_part_of_run => k_is)
    (case l_part_of_run => k_is)
    (case c_part_of_run => k_is)
    (case k_part_of_run => k_is)
    (case a_numbers_of_steps => k_is)
    (case l_numbers_of_steps => k_is)
    (case c_numbers_of_steps => k_is)
    (case k_numbers_of_steps => k_is)
    (case a_Held_call_get => k_is)
    (case i_Held_call_get => k_is)
    (case l_Held_call_get => k_is)
    (case c_Held_call_get => k_is)
    (case k_Held_call_get => k_is)
    (case a_takes => k_is)
    (case l_takes => k_is)
    (case c_takes => k_is)
    (case k_takes => k_is)
    (case a_brought => k_is)
    (case l_brought => k_is)
    (case c_brought => k_is)
    (case k_brought => k_is)
    (case a_applied => k_is)
    (case l_applied => k_is)
    (case c_applied => k_is)
    (case k_applied => k_is)
    (case a_Held_call_apply => k_is)
    (case i_Held_call_apply => k_is)
    (case l_Held_call_apply => k_is)
    (case c_Held_call_apply => k_is)
    (case k_Held_call_apply => k_is)
    (case a_made_of_put => k_is)
    (case l_made_of_put => k_is)
    (case c_made_of_put => k_is)
    (case k_made_of_put => k_is)
    (case a_made_of_painted => k_is)
    (case l_made_of_painted => k_is)
    (case c_made_of_painted => k_is)
    (case k_made_of_painted => k_is)
    (case a_made_of => k_is)
    (case l_made_of => k_is)
    (case c_made_of => k_is)
    (case k_made_of => k_is)
    (case a_composed => k_is)
    (case l_composed => k_is)
    (case c_composed => k_is)
    (case k_composed => k_is)
    (case a_Held_call_compose => k_is)
    (case i_Held_call_compose => k_is)
    (case l_Held_call_compose => k_is)
    (case c_Held_call_compose => k_is)
    (case k_Held_call_compose => k_is)
    (case a_turned_step => k_is)
    (case l_turned_step => k_is)
    (case c_turned_step => k_is)
    (case k_turned_step => k_is)
    (case a_turned => k_is)
    (case l_turned => k_is)
    (case c_turned => k_is)
    (case k_turned => k_is)
    (case a_Held_call_turn => k_is)
    (case i_Held_call_turn => k_is)
    (case l_Held_call_turn => k_is)
    (case c_Held_call_turn => k_is)
    (case k_Held_call_turn => k_is)
    (case a_both_painted => k_is)
    (case l_both_painted => k_is)
    (case c_both_painted => k_is)
    (case k_both_painted => k_is)
    (case a_dropped_painted => k_is)
    (case l_dropped_painted => k_is)
    (case c_dropped_painted => k_is)
    (case k_dropped_painted => k_is)
    (case a_kept_beside => k_is)
    (case l_kept_beside => k_is)
    (case c_kept_beside => k_is)
    (case k_kept_beside => k_is)
    (case a_carried => k_is)
    (case l_carried => k_is)
    (case c_carried => k_is)
    (case k_carried => k_is)
    (case a_rebased => k_is)
    (case l_rebased => k_is)
    (case c_rebased => k_is)
    (case k_rebased => k_is)
    (case a_Held_call_rebase => k_is)
    (case i_Held_call_rebase => k_is)
    (case l_Held_call_rebase => k_is)
    (case c_Held_call_rebase => k_is)
    (case k_Held_call_rebase => k_is)
    (case a_Held_call_same => k_is)
    (case i_Held_call_same => k_is)
    (case l_Held_call_same => k_is)
    (case c_Held_call_same => k_is)
    (case k_Held_call_same => k_is)
    (case a_kept_letters => k_is)
    (case l_kept_letters => k_is)
    (case c_kept_letters => k_is)
    (case k_kept_letters => k_is)
    (case a_backward => k_is)
    (case l_backward => k_is)
    (case c_backward => k_is)
    (case k_backward => k_is)
    (case a_forward => k_is)
    (case l_forward => k_is)
    (case c_forward => k_is)
    (case k_forward => k_is)
    (case a_Held_call_place => k_is)
    (case i_Held_call_place => k_is)
    (case l_Held_call_place => k_is)
    (case c_Held_call_place => k_is)
    (case k_Held_call_place => k_is)
    (case a_carried_stretch => k_is)
    (case l_carried_stretch => k_is)
    (case c_carried_stretch => k_is)
    (case k_carried_stretch => k_is)
    (case a_is_stretch => k_is)
    (case l_is_stretch => k_is)
    (case c_is_stretch => k_is)
    (case k_is_stretch => k_is)
    (case a_count_kept => k_is)
    (case l_count_kept => k_is)
    (case c_count_kept => k_is)
    (case k_count_kept => k_is)
    (case a_Held_call_stretch => k_is)
    (case i_Held_call_stretch => k_is)
    (case l_Held_call_stretch => k_is)
    (case c_Held_call_stretch => k_is)
    (case k_Held_call_stretch => k_is)
    (case a_stretch_end => k_is)
    (case l_stretch_end => k_is)
    (case c_stretch_end => k_is)
    (case k_stretch_end => k_is)
    (case a_kept_stretches => k_is)
    (case l_kept_stretches => k_is)
    (case c_kept_stretches => k_is)
    (case k_kept_stretches => k_is)
    (case a_Held_call_kept => k_is)
    (case i_Held_call_kept => k_is)
    (case l_Held_call_kept => k_is)
    (case c_Held_call_kept => k_is)
    (case k_Held_call_kept => k_is)
    (case a_replacing => k_is)
    (case l_replacing => k_is)
    (case c_replacing => k_is)
    (case k_replacing => k_is)
    (case a_Held_call_replace => k_is)
    (case i_Held_call_replace => k_is)
    (case l_Held_call_replace => k_is)
    (case c_Held_call_replace => k_is)
    (case k_Held_call_replace => k_is)
    (case a_painting => k_is)
    (case l_painting => k_is)
    (case c_painting => k_is)
    (case k_painting => k_is)
    (case a_repainting => k_is)
    (case l_repainting => k_is)
    (case c_repainting => k_is)
    (case k_repainting => k_is)
    (case a_Held_call_repaint => k_is)
    (case i_Held_call_repaint => k_is)
    (case l_Held_call_repaint => k_is)
    (case c_Held_call_repaint => k_is)
    (case k_Held_call_repaint => k_is)
    (case a_answer_of => k_is)
    (case l_answer_of => k_is)
    (case c_answer_of => k_is)
    (case k_answer_of => k_is)
    (case a_answers => k_is)
    (case l_answers => k_is)
    (case c_answers => k_is)
    (case k_answers => k_is)
  case S =>
    intro K H xs a hO hwi hask hx
    cases hx with
    | cons h1 h2 =>
      cases h2
      cases h1 with
      | lst hs ha =>
        have e := L2.ints_dw a.1 _ ha
        subst e
        have q : ((Codec.inLen 0 16000 a.1 && a.1.all (Codec.inInt (-1000000000000000000) 1000000000000000000)) && true) = true := hwi
        rw [Bool.and_eq_true, Bool.and_eq_true] at q
        have hask' : PyVatrkj.answers_asked a.1 = true := hask
        obtain ⟨cs, hcs, hbig⟩ := Ev.asked_calls hask'
        exact ⟨_, rfl, _, a.1, cs, rfl, hs, (Codec.inNat_iff.mp q.1.1).2, hcs, (Ev.lim_all hcs), hbig, fun H' p hp => .lst (L2.SqL.of hp) (L2.dw_ints _)⟩
#print axioms PySem.Challenge.cw_editvalues_s01_answers_holds
