/-
  Layer 12, plain: a batch's bytes; written, read, cut, with more behind them.
  Laws of memory, of no program: what a step leaves as it was ('Keeps', by a set of blocks), and an append that says whether the row stays or is a new block.
-/
import Derived.Test.YtffjleceogablaaDoorP01
import Derived.Test.YtffjleceogablaaDoorP02
import Derived.Lib.FrozenHead
import Derived.Below
import Derived.WalkKit
import Derived.Lib.Hide
import Derived.Deep.QuietTactic
import Derived.BigQuiet
import Derived.Test.YtffjleceogablaaDoorProg
namespace Go.Proofs.YtffjleceogablaaDoor.Bt
open Go.Proofs.YtffjleceogablaaDoor.Tb
set_option maxRecDepth 100000

/-! ### Written -/
def opB (o : O) : Txt := if o.del then 1 :: textB o.key else 0 :: (textB o.key ++ textB o.val)
def opsB (ops : List O) : Txt := ops.flatMap opB
def encB (ops : List O) : Txt := Lib.uvarint ops.length ++ opsB ops
def Rise (ops : List O) : Prop := ∀ (k : Nat) (a b : O), ops[k]? = some a → ops[k + 1]? = some b → lt a.key b.key = true
def Bad (ops : List O) : Prop := ∃ o ∈ ops, o.del = true ∧ o.val ≠ []
open Classical in
/-- The error's number. -/
noncomputable def encE (ops : List O) : Nat := if Rise ops then (if Bad ops then 7 else 0) else 4
theorem encE_order {ops : List O} {k : Nat} {a b : O} (ha : ops[k]? = some a) (hb : ops[k + 1]? = some b) (h : lt a.key b.key = false) : encE ops = 4 := by
  unfold encE
  rw [if_neg]
  intro hr
  rw [hr k a b ha hb] at h
  cases h
theorem encE_form {ops : List O} (hr : Rise ops) {o : O} (ho : o ∈ ops) (hd : o.del = true) (hv : o.val ≠ []) : encE ops = 7 := by
  unfold encE
  rw [if_pos hr, if_pos ⟨o, ho, hd, hv⟩]
theorem encE_ok {ops : List O} (hr : Rise ops) (hn : ∀ o ∈ ops, o.del = true → o.val = []) : encE ops = 0 := by
  unfold encE
  rw [if_pos hr, if_neg]
  rintro ⟨o, ho, hd, hv⟩
  exact hv (hn o ho hd)
theorem encE_cases (ops : List O) : encE ops = 0 ∨ encE ops = 4 ∨ encE ops = 7 := by
  unfold encE
  split
  · split
    · exact .inr (.inr rfl)
    · exact .inl rfl
  · exact .inr (.inl rfl)
theorem rise_sorted : ∀ {ops : List O}, Rise ops → Sorted (codes ops)
  | [], _ => List.Pairwise.nil
  | [o], _ => List.pairwise_singleton _ _
  | o :: p :: ops, h => by
    have h1 : Sorted (codes (p :: ops)) := rise_sorted (ops := p :: ops) (fun k a b ha hb => h (k + 1) a b ha hb)
    have h0 : lt o.key p.key = true := h 0 o p rfl rfl
    refine rise_cons (fun q hq => ?_) h1
    rcases List.mem_cons.1 hq with rfl | hq
    · exact h0
    · exact lt_trans h0 ((List.pairwise_cons.1 h1).1 (code q) (List.mem_map.2 ⟨q, hq, rfl⟩))
theorem Norm.rises {ops : List O} (h : Norm ops) : Rise ops := fun _ _ _ ha hb => h.next ha hb
theorem clean_iff {o : O} : clean o = o ↔ (o.del = true → o.val = []) := by
  obtain ⟨d, k, v⟩ := o
  cases d
  · simp [clean]
  · simp [clean, eq_comm]
theorem Norm.enc {ops : List O} (h : Norm ops) : encE ops = 0 := encE_ok h.rises (fun o ho => clean_iff.1 (h.clean o ho))
theorem norm_of_enc {ops : List O} (h : encE ops = 0) : Norm ops := by
  unfold encE at h
  split at h
  · rename_i hr
    split at h
    · cases h
    · rename_i hb
      exact ⟨rise_sorted hr, fun o ho => clean_iff.2 fun hd => Classical.byContradiction fun hv => hb ⟨o, ho, hd, hv⟩⟩
  · cases h

open Classical in
/-- What Encode answers. -/
noncomputable def encT (ops : List O) : Txt := if encE ops = 0 then encB ops else []
theorem encT_ok {ops : List O} (h : encE ops = 0) : encT ops = encB ops := if_pos h
theorem encT_no {ops : List O} (h : encE ops ≠ 0) : encT ops = [] := if_neg h

/-! ### Read -/
def opD (fst : Bool) (before : Txt) : Txt → Nat ⊕ (O × Nat)
  | [] => .inl 1
  | b :: r => if 1 < b.toNat then .inl 7 else match textD 2147483647 r with
    | .inl e => .inl e
    | .inr (k, n) => if fst = false ∧ lt before k = false then .inl 4 else if b.toNat = 1 then .inr (⟨true, k, []⟩, 1 + n) else match textD 2147483647 (r.drop n) with
      | .inl e => .inl e
      | .inr (v, m) => .inr (⟨false, k, v⟩, 1 + n + m)
def opsD : Nat → Bool → Txt → Txt → Nat ⊕ (List O × Nat)
  | 0, _, _, _ => .inr ([], 0)
  | k + 1, fst, before, l => match opD fst before l with
    | .inl e => .inl e
    | .inr (o, n) => match opsD k false o.key (l.drop n) with
      | .inl e => .inl e
      | .inr (os, m) => .inr (o :: os, n + m)
def decD (l : Txt) : Nat ⊕ List O := match varintD l with
  | .inl e => .inl e
  | .inr (x, n) => match opsD x true [] (l.drop n) with
    | .inl e => .inl e
    | .inr (ops, m) => if n + m < l.length then .inl 5 else .inr ops
/-- Errors that reading answers. -/
def ErrN (e : Nat) : Prop := e = 1 ∨ e = 2 ∨ e = 3 ∨ e = 4 ∨ e = 5 ∨ e = 7
theorem text_errN {most : Int} {l : Txt} {e : Nat} (h : textD most l = .inl e) : ErrN e := by
  have := textD_err h
  unfold ErrN
  omega
theorem opD_err {fst : Bool} {before l : Txt} {e : Nat} (h : opD fst before l = .inl e) : ErrN e := by
  cases l with
  | nil => injection h with h; subst h; exact .inl rfl
  | cons b r =>
    rw [opD] at h
    split at h
    · injection h with h; subst h; simp [ErrN]
    · split at h
      · rename_i hd; injection h with h; subst h; exact text_errN hd
      · split at h
        · injection h with h; subst h; simp [ErrN]
        · split at h
          · cases h
          · split at h
            · rename_i hd; injection h with h; subst h; exact text_errN hd
            · cases h
theorem opsD_err : ∀ {k : Nat} {fst : Bool} {before l : Txt} {e : Nat}, opsD k fst before l = .inl e → ErrN e
  | 0, _, _, _, _, h => by cases h
  | k + 1, fst, before, l, e, h => by
    unfold opsD at h
    split at h
    · rename_i hd; injection h with h; subst h; exact opD_err hd
    · split at h
      · rename_i hd; injection h with h; subst h; exact opsD_err hd
      · cases h
theorem decD_err {l : Txt} {e : Nat} (h : decD l = .inl e) : ErrN e := by
  unfold decD at h
  split at h
  · rename_i hd
    injection h with h
    subst h
    have := vd_err _ _ _ _ hd
    unfold ErrN
    omega
  · split at h
    · rename_i hd; injection h with h; subst h; exact opsD_err hd
    · split at h
      · injection h with h; subst h; simp [ErrN]
      · cases h
/-- Texts that can be read. -/
def Fit (o : O) : Prop := o.key.length ≤ 2147483647 ∧ o.val.length ≤ 2147483647
theorem opD_enc {fst : Bool} {before : Txt} {o : O} (hf : Fit o) (hc : clean o = o) (hb : fst = true ∨ lt before o.key = true) (t : Txt) : opD fst before (opB o ++ t) = .inr (o, (opB o).length) := by
  obtain ⟨d, k, v⟩ := o
  have h1 : k.length ≤ 2147483647 := hf.1
  have h2 : v.length ≤ 2147483647 := hf.2
  have hb' : ¬ (fst = false ∧ lt before k = false) := by
    rintro ⟨e1, e2⟩
    rcases hb with e | e
    · rw [e] at e1; cases e1
    · rw [show lt before k = true from e] at e2; cases e2
  cases d with
  | true =>
    obtain rfl : v = [] := clean_iff.1 hc rfl
    show opD fst before (1 :: (textB k ++ t)) = _
    rw [opD]
    rw [if_neg (show ¬ 1 < (1 : UInt8).toNat by decide), textD_enc (by omega) (by omega)]
    simp only
    rw [if_neg hb', if_pos (show (1 : UInt8).toNat = 1 from rfl)]
    simp [opB]
    omega
  | false =>
    have e : opB ⟨false, k, v⟩ ++ t = 0 :: (textB k ++ (textB v ++ t)) := by simp [opB]
    rw [e]
    rw [opD]
    rw [if_neg (show ¬ 1 < (0 : UInt8).toNat by decide), textD_enc (by omega) (by omega)]
    simp only
    rw [if_neg hb', if_neg (show ¬ (0 : UInt8).toNat = 1 by decide), List.drop_left, textD_enc (by omega) (by omega)]
    simp [opB]
    omega
theorem opsD_enc (t : Txt) : ∀ {ops : List O} {fst : Bool} {before : Txt}, Norm ops → (∀ o ∈ ops, Fit o) → (fst = true ∨ ∀ o ∈ ops, lt before o.key = true) → opsD ops.length fst before (opsB ops ++ t) = .inr (ops, (opsB ops).length)
  | [], _, _, _, _, _ => rfl
  | o :: ops, fst, before, hn, hf, hb => by
    obtain ⟨h1, h2⟩ := List.pairwise_cons.1 hn.rise
    have hn' : Norm ops := ⟨h2, fun p hp => hn.clean p (by simp [hp])⟩
    have e : opsB (o :: ops) ++ t = opB o ++ (opsB ops ++ t) := by simp [opsB]
    have el : (opsB (o :: ops)).length = (opB o).length + (opsB ops).length := by simp [opsB]
    rw [e, List.length_cons, opsD, opD_enc (hf o (by simp)) (hn.clean o (by simp)) (hb.imp id (fun h => h o (by simp)))]
    simp only
    rw [List.drop_left, opsD_enc t (fst := false) (before := o.key) hn' (fun p hp => hf p (by simp [hp])) (.inr fun p hp => h1 (code p) (List.mem_map.2 ⟨p, hp, rfl⟩)), el]
theorem decD_enc {ops : List O} (hn : Norm ops) (hf : ∀ o ∈ ops, Fit o) (hl : ops.length < 18446744073709551616) (t : Txt) : decD (encB ops ++ t) = if t = [] then .inr ops else .inl 5 := by
  unfold decD encB
  rw [List.append_assoc, varintD_uvarint hl]
  simp only
  rw [List.drop_left, opsD_enc t hn hf (.inl rfl)]
  simp only [List.length_append]
  by_cases ht : t = []
  · subst ht
    rw [if_pos rfl, if_neg (by simp)]
  · rw [if_neg ht, if_pos (by have := List.length_pos_iff.2 ht; omega)]
/-- Cut anywhere ahead of its end it is too short. -/
theorem opD_cut {fst : Bool} {before : Txt} {o : O} (hf : Fit o) (hb : fst = true ∨ lt before o.key = true) {c : Nat} (hc : c < (opB o).length) : opD fst before ((opB o).take c) = .inl 1 := by
  obtain ⟨d, k, v⟩ := o
  have h1 : k.length ≤ 2147483647 := hf.1
  have h2 : v.length ≤ 2147483647 := hf.2
  have hb' : ¬ (fst = false ∧ lt before k = false) := by
    rintro ⟨e1, e2⟩
    rcases hb with e | e
    · rw [e] at e1; cases e1
    · rw [show lt before k = true from e] at e2; cases e2
  cases c with
  | zero => rfl
  | succ c =>
    cases d with
    | true =>
      have e : opB ⟨true, k, v⟩ = 1 :: textB k := by simp [opB]
      rw [e] at hc ⊢
      rw [List.take_succ_cons]
      rw [opD]
      rw [if_neg (show ¬ 1 < (1 : UInt8).toNat by decide), textD_cut (by omega) (by omega) (by simpa using hc)]
    | false =>
      have e : opB ⟨false, k, v⟩ = 0 :: (textB k ++ textB v) := by simp [opB]
      rw [e] at hc ⊢
      rw [List.take_succ_cons]
      rw [opD]
      rw [if_neg (show ¬ 1 < (0 : UInt8).toNat by decide), take_app]
      rw [List.length_cons, List.length_append] at hc
      by_cases hlt : c < (textB k).length
      · rw [if_pos hlt, textD_cut (by omega) (by omega) hlt]
      · rw [if_neg hlt, textD_enc (by omega) (by omega)]
        simp only
        rw [if_neg hb', if_neg (show ¬ (0 : UInt8).toNat = 1 by decide), List.drop_left, textD_cut (by omega) (by omega) (by omega)]
theorem opsD_cut : ∀ {ops : List O} {fst : Bool} {before : Txt} {c : Nat}, Norm ops → (∀ o ∈ ops, Fit o) → (fst = true ∨ ∀ o ∈ ops, lt before o.key = true) → c < (opsB ops).length → opsD ops.length fst before ((opsB ops).take c) = .inl 1
  | [], _, _, c, _, _, _, hc => by simp [opsB] at hc
  | o :: ops, fst, before, c, hn, hf, hb, hc => by
    obtain ⟨h1, h2⟩ := List.pairwise_cons.1 hn.rise
    have hn' : Norm ops := ⟨h2, fun p hp => hn.clean p (by simp [hp])⟩
    have e : opsB (o :: ops) = opB o ++ opsB ops := by simp [opsB]
    rw [e] at hc ⊢
    rw [List.length_append] at hc
    rw [List.length_cons, opsD, take_app]
    by_cases hlt : c < (opB o).length
    · rw [if_pos hlt, opD_cut (hf o (by simp)) (hb.imp id (fun h => h o (by simp))) hlt]
    · rw [if_neg hlt, opD_enc (hf o (by simp)) (hn.clean o (by simp)) (hb.imp id (fun h => h o (by simp)))]
      simp only
      rw [List.drop_left, opsD_cut (fst := false) (before := o.key) hn' (fun p hp => hf p (by simp [hp])) (.inr fun p hp => h1 (code p) (List.mem_map.2 ⟨p, hp, rfl⟩)) (by omega)]
theorem decD_cut {ops : List O} (hn : Norm ops) (hf : ∀ o ∈ ops, Fit o) (hl : ops.length < 18446744073709551616) {c : Nat} (hc : c < (encB ops).length) : decD ((encB ops).take c) = .inl 1 := by
  unfold encB at hc ⊢
  rw [List.length_append] at hc
  unfold decD
  rw [take_app]
  by_cases h1 : c < (Lib.uvarint ops.length).length
  · rw [if_pos h1, varintD_cut hl h1]
  · rw [if_neg h1, varintD_uvarint hl]
    simp only
    rw [List.drop_left, opsD_cut hn hf (.inl rfl) (by omega)]
/-- What is read without an error is just what is written. -/
theorem opD_inv {fst : Bool} {before l : Txt} {o : O} {n : Nat} (h : opD fst before l = .inr (o, n)) : n = (opB o).length ∧ (∃ t, l = opB o ++ t) ∧ clean o = o ∧ (fst = true ∨ lt before o.key = true) := by
  cases l with
  | nil => cases h
  | cons b r =>
    rw [opD] at h
    split at h
    · cases h
    · rename_i hb
      split at h
      · cases h
      · rename_i k m hk
        obtain ⟨rfl, t, rfl⟩ := textD_inv hk
        split at h
        · cases h
        · rename_i hlt
          have hlt' : fst = true ∨ lt before k = true := by
            cases fst with
            | true => exact .inl rfl
            | false =>
              cases e : lt before k with
              | true => exact .inr rfl
              | false => exact absurd ⟨rfl, e⟩ hlt
          split at h
          · rename_i h1
            simp only [Sum.inr.injEq, Prod.mk.injEq] at h
            obtain ⟨rfl, rfl⟩ := h
            have eb : b = 1 := UInt8.toNat_inj.1 h1
            subst eb
            exact ⟨by simp [opB]; omega, ⟨t, by simp [opB]⟩, rfl, hlt'⟩
          · rename_i h1
            have eb : b = 0 := UInt8.toNat_inj.1 (by simp; omega)
            subst eb
            rw [List.drop_left] at h
            split at h
            · cases h
            · rename_i v m hv
              obtain ⟨rfl, t', rfl⟩ := textD_inv hv
              simp only [Sum.inr.injEq, Prod.mk.injEq] at h
              obtain ⟨rfl, rfl⟩ := h
              exact ⟨by simp [opB]; omega, ⟨t', by simp [opB]⟩, rfl, hlt'⟩
theorem opsD_inv : ∀ {k : Nat} {fst : Bool} {before l : Txt} {os : List O} {m : Nat}, opsD k fst before l = .inr (os, m) → os.length = k ∧ m = (opsB os).length ∧ (∃ t, l = opsB os ++ t) ∧ Norm os ∧ (fst = true ∨ ∀ o ∈ os, lt before o.key = true)
  | 0, _, _, l, os, m, h => by
    simp only [opsD, Sum.inr.injEq, Prod.mk.injEq] at h
    obtain ⟨rfl, rfl⟩ := h
    exact ⟨rfl, rfl, ⟨l, rfl⟩, ⟨List.Pairwise.nil, fun o ho => by cases ho⟩, .inr fun o ho => by cases ho⟩
  | k + 1, fst, before, l, os, m, h => by
    unfold opsD at h
    split at h
    · cases h
    · rename_i o n ho
      split at h
      · cases h
      · rename_i os' m' hos
        simp only [Sum.inr.injEq, Prod.mk.injEq] at h
        obtain ⟨rfl, rfl⟩ := h
        obtain ⟨rfl, ⟨t, rfl⟩, hcl, hb⟩ := opD_inv ho
        rw [List.drop_left] at hos
        obtain ⟨rfl, rfl, ⟨t', rfl⟩, hn, hb'⟩ := opsD_inv hos
        have hb2 : ∀ p ∈ os', lt o.key p.key = true := hb'.resolve_left (by simp)
        refine ⟨rfl, by simp [opsB], ⟨t', by simp [opsB]⟩, ⟨rise_cons hb2 hn.rise, fun p hp => ?_⟩, hb.imp id fun h p hp => ?_⟩
        · rcases List.mem_cons.1 hp with rfl | hp
          · exact hcl
          · exact hn.clean p hp
        · rcases List.mem_cons.1 hp with rfl | hp
          · exact h
          · exact lt_trans h (hb2 p hp)
theorem decD_inv {l : Txt} {ops : List O} (h : decD l = .inr ops) : Norm ops ∧ encB ops = l := by
  unfold decD at h
  split at h
  · cases h
  · rename_i x n hx
    obtain ⟨_, rfl, t, rfl⟩ := varintD_inv hx
    rw [List.drop_left] at h
    split at h
    · cases h
    · rename_i os m ho
      obtain ⟨rfl, rfl, ⟨t', rfl⟩, hn, _⟩ := opsD_inv ho
      split at h
      · cases h
      · rename_i hl
        injection h with h
        subst h
        refine ⟨hn, ?_⟩
        have : t' = [] := by
          rw [List.length_append, List.length_append] at hl
          exact List.eq_nil_of_length_eq_zero (by omega)
        subst this
        simp [encB]
theorem opD_pos {fst : Bool} {before l : Txt} {o : O} {n : Nat} (h : opD fst before l = .inr (o, n)) : 2 ≤ n ∧ n ≤ l.length := by
  obtain ⟨rfl, ⟨t, rfl⟩, _, _⟩ := opD_inv h
  have h1 : ∀ x : Nat, 1 ≤ (Lib.uvarint x).length := fun x => by
    by_cases hx : x < 128
    · rw [Lib.uvarint_small hx]; simp
    · rw [Lib.uvarint_big (by omega)]; simp
  refine ⟨?_, by simp⟩
  unfold opB
  have := h1 o.key.length
  split
  · simp [textB]; omega
  · simp [textB]; omega
/-- What was read, ahead of what is still read. -/
def onto (us : List O) (d : Nat) : Nat ⊕ (List O × Nat) → Nat ⊕ (List O × Nat)
  | .inl e => .inl e
  | .inr (os, m) => .inr (us ++ os, d + m)
theorem onto_nil (r : Nat ⊕ (List O × Nat)) : onto [] 0 r = r := by
  rcases r with e | ⟨os, m⟩
  · rfl
  · simp [onto]
theorem onto_ok {us : List O} {d k n : Nat} {fst : Bool} {before l : Txt} {o : O} (h : opD fst before l = .inr (o, n)) : onto us d (opsD (k + 1) fst before l) = onto (us ++ [o]) (d + n) (opsD k false o.key (l.drop n)) := by
  rw [opsD, h]
  simp only
  cases opsD k false o.key (l.drop n) with
  | inl e => rfl
  | inr x => simp [onto, Nat.add_assoc]
theorem onto_err {us : List O} {d k e : Nat} {fst : Bool} {before l : Txt} (h : opD fst before l = .inl e) : onto us d (opsD (k + 1) fst before l) = .inl e := by
  rw [opsD, h]
  rfl
end Go.Proofs.YtffjleceogablaaDoor.Bt
namespace Go.Proofs.YtffjleceogablaaDoor
open Go.RowKit

/-- But for the blocks of S the old blocks are as they were; the streams too; no block has gone. -/
structure Keeps (S : Nat → Prop) (w w' : World) : Prop where
  os : w'.os = w.os
  tape : w'.tape = w.tape
  output : w'.output = w.output
  size : w.heap.size ≤ w'.heap.size
  block : ∀ k, k < w.heap.size → ¬ S k → w'.heap[k]? = w.heap[k]?

theorem Keeps.refl (S : Nat → Prop) (w : World) : Keeps S w w := ⟨rfl, rfl, rfl, Nat.le_refl _, fun _ _ _ => rfl⟩

theorem Keeps.trans {S T : Nat → Prop} {a b c : World} (h : Keeps S a b) (k : Keeps T b c) (hT : ∀ i, i < a.heap.size → T i → S i) : Keeps S a c :=
  ⟨k.os.trans h.os, k.tape.trans h.tape, k.output.trans h.output, Nat.le_trans h.size k.size, fun i hi hn =>
    (k.block i (Nat.lt_of_lt_of_le hi h.size) (fun t => hn (hT i hi t))).trans (h.block i hi hn)⟩

theorem Keeps.mono {S T : Nat → Prop} {w w' : World} (h : Keeps S w w') (hT : ∀ i, i < w.heap.size → S i → T i) : Keeps T w w' :=
  ⟨h.os, h.tape, h.output, h.size, fun i hi hn => h.block i hi (fun s => hn (hT i hi s))⟩

theorem Keeps.drew {S : Nat → Prop} {a w : World} (h : Keeps S a w) : Keeps S a w.drew := ⟨h.os, h.tape, h.output, h.size, h.block⟩
theorem Keeps.drewN {S : Nat → Prop} {a w : World} (h : Keeps S a w) (n : Nat) : Keeps S a (w.drewN n) := ⟨h.os, h.tape, h.output, h.size, h.block⟩

theorem Keeps.alloc {S : Nat → Prop} {a w : World} (h : Keeps S a w) (o : Obj) : Keeps S a (w.alloc o) :=
  h.trans (T := fun _ => False) ⟨rfl, rfl, rfl, by simp, fun k hk _ => Below.heap_alloc _ _ _ hk⟩ (fun _ _ h => h.elim)

theorem Keeps.setCell {S : Nat → Prop} {a w : World} (h : Keeps S a w) {p : Addr} (hp : p.block < a.heap.size → S p.block) (u : Value) : Keeps S a (w.setCell p u) :=
  h.trans (T := fun k => k = p.block) ⟨rfl, rfl, rfl, by simp [World.setCell], fun k _ hn => Below.heap_setCell _ _ _ _ hn⟩ (fun i hi e => by subst e; exact hp hi)

theorem Keeps.grown {S : Nat → Prop} {a w w' : World} {row : Option Nat} (h : Keeps S a w) (hg : w.grownBy w' row) (hr : ∀ k, k < a.heap.size → some k = row → S k) : Keeps S a w' :=
  h.trans (T := fun k => some k = row) ⟨hg.os, hg.tape, hg.output, hg.size, fun k hk hn => hg.block k hk hn⟩ hr

theorem Keeps.freeze {S : Nat → Prop} {a w : World} (h : Keeps S a w) {p : Addr} (hp : p.block < a.heap.size → S p.block) (n : Nat) : Keeps S a (w.freeze p n) := by
  refine h.trans (T := fun k => k = p.block) ?_ (fun i hi e => by subst e; exact hp hi)
  unfold World.freeze
  split
  · exact Keeps.refl _ _
  · refine ⟨rfl, rfl, rfl, by simp, fun k _ hn => ?_⟩
    simp only [Array.getElem?_modify]
    rw [if_neg (fun e => hn e.symm)]

theorem Keeps.cell {S : Nat → Prop} {w w' : World} (h : Keeps S w w') {p : Addr} (hp : p.block < w.heap.size) (hn : ¬ S p.block) : w'.cell? p = w.cell? p := World.cell?_of_block (w := w) (h.block p.block hp hn)
theorem Keeps.frozen {S : Nat → Prop} {w w' : World} (h : Keeps S w w') {p : Addr} (hp : p.block < w.heap.size) (hn : ¬ S p.block) : w'.frozen? p = w.frozen? p := World.frozen?_of_block (w := w) (h.block p.block hp hn)

theorem Keeps.below {S : Nat → Prop} {B : Nat} {w w' : World} (h : Keeps S w w') (hB : B ≤ w.heap.size) (hS : ∀ k, k < B → ¬ S k) : Below B w w' :=
  ⟨h.os, h.tape, h.output, h.size, fun k hk => h.block k (by omega) (hS k hk)⟩

theorem Keeps.of_below {B : Nat} {w w' : World} (h : Below B w w') : Keeps (fun k => B ≤ k) w w' :=
  ⟨h.os, h.tape, h.output, h.size, fun k _ hn => h.block k (by omega)⟩

theorem lt_of_block {w : World} {b : Nat} {o : Obj} (h : w.heap[b]? = some o) : b < w.heap.size := (Array.getElem?_eq_some_iff.1 h).1

/-- A row that is owned stays owned where its block is kept. -/
theorem ownsRowF_kept {S : Nat → Prop} {w w' : World} {base : Nat} {e : TypeId} {size : Nat} {v : Value} {n : Nat} {xs : List Value} (h : w.ownsRowF base e size v n xs) (hk : Keeps S w w') (hn : ∀ k, v.ownBlock = some k → ¬ S k) : w'.ownsRowF base e size v n xs := by
  refine ⟨h.1, ?_⟩
  rcases h.2 with h2 | ⟨g, cap, cur, fz, rfl, hb, hg, rest⟩
  · exact .inl h2
  · exact .inr ⟨g, cap, cur, fz, rfl, hb, by rw [hk.block g (lt_of_block hg) (hn g rfl)]; exact hg, rest⟩

theorem ownsRowF_lt {w : World} {base : Nat} {e : TypeId} {size : Nat} {v : Value} {n : Nat} {xs : List Value} (h : w.ownsRowF base e size v n xs) {k : Nat} (hk : v.ownBlock = some k) : k < w.heap.size := (h.lt k hk).2

/-- The row stays, or is a block that was not there. -/
def Later (w : World) (r r' : Option Nat) : Prop := r' = r ∨ ∃ g, r' = some g ∧ w.heap.size ≤ g

theorem Later.refl (w : World) (r : Option Nat) : Later w r r := .inl rfl
theorem Later.trans {w w1 : World} {r r1 r2 : Option Nat} (h : Later w r r1) (hs : w.heap.size ≤ w1.heap.size) (k : Later w1 r1 r2) : Later w r r2 := by
  rcases k with rfl | ⟨g, rfl, hg⟩
  · exact h
  · exact .inr ⟨g, rfl, by omega⟩
theorem Later.of_le {w w1 : World} {r r1 : Option Nat} (h : Later w1 r r1) (hs : w.heap.size ≤ w1.heap.size) : Later w r r1 := (Later.refl w r).trans hs h

section
variable {P : Program} (w : World)

/-- The arm with room, behind a frozen head, of cells. -/
theorem run_append_roomF (t ty e : TypeId) (i : TypeInfo) (ht : P.underlying t = some (.slice e)) (hi : P.info? e = some i)
    (g sLen sCap : Nat) (cur : Array Value) (fz : Nat × Nat) (hg : w.heap[g]? = some (.cells cur e fz)) (hfz : fz.2 ≤ sLen * i.size)
    (a : Addr) (m c : Nat) (news : List Value) (hl : news.length = m * i.size) (hnews : ∀ j u, news[j]? = some u → w.cell? (a.add j) = some u) (h1 : ∀ u ∈ news, u.oneCell' = true)
    (hroom : sLen + m ≤ sCap) (hfit : sLen * i.size + news.length ≤ cur.size) :
    (Builtin.append_ #[t, t] ty #[.slice (some ⟨g, 0, none⟩) sLen sCap, .slice (some a) m c]).run P w =
      .ok (.slice (some ⟨g, 0, none⟩) (sLen + m) sCap) (w.setRow g (cur.toList.take (sLen * i.size) ++ news ++ cur.toList.drop (sLen * i.size + news.length)).toArray) := by
  have hf := run_firstCells_some (P := P) w i.size m a m c news hl hnews
  have hst := run_storeCells_atF P g (sLen * i.size) e fz news 0 cur w hg (by simpa using hfz) (by simpa using hfit) h1
  simp only [Nat.add_zero] at hst
  simp [Builtin.append_, run_underlying ht, sizeOf, typeInfo, hi, Builtin.lenOf, hroom, hf, Addr.add_lit, hst]

/-- APPEND OF CELLS to an owned row: the row stays, or is a new block. -/
theorem run_append_cellsF (t ty e : TypeId) (i : TypeInfo) (z : Value) (size bytes : Nat) (ht : P.underlying t = some (.slice e)) (hi : P.info? e = some i) (hz : i.zero = some z)
    (hsize : i.size = size) (hby : i.bytes = bytes) (hzs : z.cells.size = size) (hsz : 0 < size)
    (v : Value) (n : Nat) (xs : List Value) (hown : w.ownsRowF 0 e size v n xs)
    (a : Addr) (m c : Nat) (news : List Value) (hl : news.length = m * size) (hnews : ∀ j u, news[j]? = some u → w.cell? (a.add j) = some u) (h1 : ∀ u ∈ news, u.oneCell' = true)
    (h63 : n + m ≤ maxLen) (hbytes : (n + m) * bytes ≤ 140737488355328) :
    ∃ v' w', (Builtin.append_ #[t, t] ty #[v, .slice (some a) m c]).run P w = .ok v' w' ∧ w'.ownsRowF 0 e size v' (n + m) (xs ++ news) ∧ w.grownBy w' v.ownBlock ∧ Later w v.ownBlock v'.ownBlock ∧
      (v' = .slice none 0 0 ↔ v = .slice none 0 0 ∧ m = 0) := by
  subst hsize
  subst hby
  have hsmall : n + m ≤ 9223372036854775807 := by simp only [maxLen] at h63; omega
  have hlen : (xs ++ news).length = (n + m) * i.size := by rw [List.length_append, hown.1, hl, Nat.add_mul]
  have grown : ∀ (old : Nat), old < n + m → ∀ (row : Option Nat),
      (w.drew.alloc (.cells (xs.toArray ++ news.toArray ++ Builtin.zeroCells z.cells (grownCap w (n + m) old e - (n + m))) e)).ownsRowF 0 e i.size
        (.slice (some ⟨w.heap.size, 0, none⟩) (n + m) (grownCap w (n + m) old e)) (n + m) (xs ++ news) ∧
      w.grownBy (w.drew.alloc (.cells (xs.toArray ++ news.toArray ++ Builtin.zeroCells z.cells (grownCap w (n + m) old e - (n + m))) e)) row := by
    intro old ho row
    have hge := grownCap_ge w (n + m) old e
    have hcm : grownCap w (n + m) old e ≤ maxLen := grownCap_le_maxLen w (n + m) old e h63
    refine ⟨⟨hlen, .inr ⟨w.heap.size, _, _, (0, 0), rfl, Nat.zero_le _, heap_alloc_new w.drew _, Nat.zero_le _, hge, hcm, ?_, ?_⟩⟩, ⟨rfl, rfl, rfl, by simp, fun k hk _ => Below.heap_alloc w.drew _ k hk⟩⟩
    · simp only [Array.size_append, List.size_toArray, size_zeroCells, hzs, hown.1, hl, ← Nat.add_mul]
      congr 1
      omega
    · simp only [Array.toList_append, List.append_assoc]
      rw [← List.append_assoc, ← hlen]
      exact List.take_left
  rcases hown.2 with ⟨rfl, rfl⟩ | ⟨g, cap, cur, fz, rfl, hbg, hg, hfz, hnc, hcm, hcs, htake⟩
  · have hx : xs = [] := List.eq_nil_of_length_eq_zero (by simpa using hown.1)
    subst hx
    by_cases hm : m = 0
    · subst hm
      have hn : news = [] := List.eq_nil_of_length_eq_zero (by simpa using hl)
      subst hn
      refine ⟨.slice none 0 0, w, ?_, World.ownsRowF_nil w 0 e i.size, ⟨rfl, rfl, rfl, Nat.le_refl _, fun _ _ _ => rfl⟩, .inl rfl, by simp⟩
      simp [Builtin.append_, run_underlying ht, sizeOf, typeInfo, hi, Builtin.lenOf, Builtin.firstCells, loadCells, loadCellsFrom]
    · have hr := run_append_nil (P := P) w t ty e i z ht hi hz a m c news hl hnews (by omega) (by omega) (by have hb := hbytes; simp only [Nat.zero_add] at hb; omega)
      have hgr := grown 0 (by omega) (Value.ownBlock (.slice none 0 0))
      simp only [Nat.zero_add, List.nil_append, Array.empty_append] at hgr ⊢
      exact ⟨_, _, hr, hgr.1, hgr.2, .inr ⟨_, rfl, Nat.le_refl _⟩, by simp [hm]⟩
  · by_cases hroom : n + m ≤ cap
    · have hfit : n * i.size + news.length ≤ cur.size := by rw [hl, hcs, ← Nat.add_mul]; exact Nat.mul_le_mul_right _ hroom
      have hr := run_append_roomF (P := P) w t ty e i ht hi g n cap cur fz hg hfz a m c news hl hnews h1 hroom hfit
      refine ⟨_, _, hr, ⟨hlen, .inr ⟨g, cap, _, fz, rfl, hbg, setRow_heap w g cur _ e _ hg, ?_, hroom, hcm, ?_, ?_⟩⟩, ⟨rfl, rfl, rfl, by simp, fun k _ hk => setRow_other w g k _ (fun e => hk (by simp [Value.ownBlock, e]))⟩, .inl rfl, by simp⟩
      · rw [Nat.add_mul]; omega
      · simp only [List.size_toArray, List.length_append, List.length_take, List.length_drop, Array.length_toList]
        omega
      · rw [htake, ← hlen]
        exact List.take_left
    · have holds : ∀ j u, xs[j]? = some u → w.cell? ((⟨g, 0, none⟩ : Addr).add j) = some u := hown.cells (g := g) rfl
      have hr := run_append_grow (P := P) w t ty e i z ht hi hz ⟨g, 0, none⟩ n cap xs hown.1 holds a m c news hl hnews (by omega) (by omega) (growslice_fits (by omega) hbytes)
      have hgr := grown cap (by omega) (Value.ownBlock (.slice (some ⟨g, 0, none⟩) n cap))
      exact ⟨_, _, hr, hgr.1, hgr.2, .inr ⟨_, rfl, Nat.le_refl _⟩, by simp⟩

theorem wpList_append_cellsF {ops : Array Oper} {rest : List Oper} {o : Oper} {a : Act} {Q : Exit → Act → World → Prop} (hgd : o.guard = none) (s x : Operand) (t : TypeId)
    (ho : o.op = .call { callee := .builtin .append, args := #[s, x], argTypes := #[t, t] })
    (e : TypeId) (i : TypeInfo) (z : Value) (size bytes : Nat) (ht : P.underlying t = some (.slice e)) (hi : P.info? e = some i) (hz : i.zero = some z)
    (hsize : i.size = size) (hby : i.bytes = bytes) (hzs : z.cells.size = size) (hsz : 0 < size)
    (v : Value) (n : Nat) (xs : List Value) (hs : a.eval s = v) (hown : w.ownsRowF 0 e size v n xs)
    (ad : Addr) (m c : Nat) (news : List Value) (hx : a.eval x = .slice (some ad) m c) (hl : news.length = m * size) (hnews : ∀ j u, news[j]? = some u → w.cell? (ad.add j) = some u) (h1 : ∀ u ∈ news, u.oneCell' = true)
    (h63 : n + m ≤ maxLen) (hbytes : (n + m) * bytes ≤ 140737488355328)
    (h : ∀ v' w', w'.ownsRowF 0 e size v' (n + m) (xs ++ news) → w.grownBy w' v.ownBlock → Later w v.ownBlock v'.ownBlock → (v' = .slice none 0 0 ↔ v = .slice none 0 0 ∧ m = 0) → wpList P ops Q rest (a.put o.dst v') w') : wpList P ops Q (o :: rest) a w := by
  refine wpList_plain hgd fun K hK => ?_
  obtain ⟨v', w', hr, h2, h3, h4, h5⟩ := run_append_cellsF (P := P) w t o.type e i z size bytes ht hi hz hsize hby hzs hsz v n xs hown ad m c news hl hnews h1 h63 hbytes
  unfold Oper.wp execOp
  simp only [ho, resolve, invoke, builtin, Sem.run_bind, Sem.run_pure, Result.andThen_ok, List.map_toArray, List.map_cons, List.map_nil, hs, hx, hr]
  exact hK _ _ (h v' w' h2 h3 h4 h5)

/-- APPEND OF A STRING's BYTES to an owned row. -/
theorem run_append_strF (t u ty e : TypeId) (i : TypeInfo) (ht : P.underlying t = some (.slice e)) (hu : P.underlying u = some .string) (hi : P.info? e = some i) (hz : i.zero = some (.int .u8 0))
    (hsize : i.size = 1) (hby : i.bytes = 1)
    (v : Value) (n : Nat) (xs : List Value) (hown : w.ownsRowF 0 e 1 v n xs) (s : ByteArray)
    (h63 : n + s.size ≤ maxLen) (hbytes : n + s.size ≤ 140737488355328) :
    ∃ v' w', (Builtin.append_ #[t, u] ty #[v, .string s]).run P w = .ok v' w' ∧ w'.ownsRowF 0 e 1 v' (n + s.size) (xs ++ Lib.strCells s) ∧ w.grownBy w' v.ownBlock ∧ Later w v.ownBlock v'.ownBlock ∧
      (v' = .slice none 0 0 ↔ v = .slice none 0 0 ∧ s.size = 0) := by
  have hsmall : n + s.size ≤ 9223372036854775807 := by simp only [maxLen] at h63; omega
  have hxl : xs.length = n := by simpa using hown.1
  have hlen : (xs ++ Lib.strCells s).length = (n + s.size) * 1 := by rw [List.length_append, hxl, Lib.strCells_length, Nat.mul_one]
  rcases hown.2 with ⟨rfl, rfl⟩ | ⟨g, cap, cur, fz, rfl, hbg, hg, hfz, hnc, hcm, hcs, htake⟩
  · have hx : xs = [] := List.eq_nil_of_length_eq_zero hxl
    subst hx
    -- the row is new: the elder law with the heap's size for its base
    obtain ⟨v', w', h1, h2, h3, h4⟩ := Lib.run_append_own_stringF (P := P) w w.heap.size t u ty e i ht hu hi hz hsize hby (.slice none 0 0) 0 [] ⟨by simp, .inl ⟨rfl, rfl⟩⟩ s h63 hbytes (Nat.le_refl _)
    refine ⟨v', w', h1, ⟨h2.1, ?_⟩, h3, ?_, h4⟩
    · rcases h2.2 with q | ⟨g, cap, cur, fz, hv, _, q⟩
      · exact .inl q
      · exact .inr ⟨g, cap, cur, fz, hv, Nat.zero_le _, q⟩
    · rcases h2.2 with ⟨rfl, _⟩ | ⟨g, cap, cur, fz, rfl, hb, q⟩
      · exact .inl rfl
      · exact .inr ⟨g, rfl, hb⟩
  · by_cases hroom : n + s.size ≤ cap
    · have hcs' : cur.size = cap := by simpa using hcs
      have hr := Lib.run_append_room_stringF (P := P) w t u ty e i ht hu hi hsize g n cap cur fz hg (by simpa using hfz) s hroom (by omega)
      refine ⟨_, _, hr, ⟨hlen, .inr ⟨g, cap, _, fz, rfl, hbg, setRow_heap w g cur _ e _ hg, by omega, hroom, hcm, ?_, ?_⟩⟩, ⟨rfl, rfl, rfl, by simp, fun k _ hk => setRow_other w g k _ (fun e => hk (by simp [Value.ownBlock, e]))⟩, .inl rfl, by simp⟩
      · simp only [List.size_toArray, List.length_append, List.length_take, List.length_drop, Array.length_toList, Lib.strCells_length]
        omega
      · have ht' : cur.toList.take n = xs := by simpa using htake
        rw [ht', ← hlen]
        exact List.take_left
    · have holds : ∀ j u, xs[j]? = some u → w.cell? ((⟨g, 0, none⟩ : Addr).add j) = some u := hown.cells (g := g) rfl
      have hr := Lib.run_append_grow_string (P := P) w t u ty e i (.int .u8 0) ht hu hi hz ⟨g, 0, none⟩ n cap xs (by rw [hsize]; simpa using hxl) holds s (by omega) (by omega) (by rw [hby]; exact growslice_fits (by omega) (by omega))
      have hge := grownCap_ge w (n + s.size) cap e
      have hcm2 : grownCap w (n + s.size) cap e ≤ maxLen := grownCap_le_maxLen w (n + s.size) cap e h63
      refine ⟨_, _, hr, ⟨hlen, .inr ⟨w.heap.size, _, _, (0, 0), rfl, Nat.zero_le _, heap_alloc_new w.drew _, Nat.zero_le _, hge, hcm2, ?_, ?_⟩⟩, ⟨rfl, rfl, rfl, by simp, fun k hk _ => Below.heap_alloc w.drew _ k hk⟩, .inr ⟨_, rfl, Nat.le_refl _⟩, by simp⟩
      · have hz1 : (Value.int IntKind.u8 0).cells.size = 1 := rfl
        simp only [Array.size_append, List.size_toArray, size_zeroCells, hz1, hxl, Lib.strCells_length]
        omega
      · simp only [Array.toList_append, List.append_assoc]
        rw [← List.append_assoc, ← hlen]
        exact List.take_left

theorem wpList_append_strF {ops : Array Oper} {rest : List Oper} {o : Oper} {a : Act} {Q : Exit → Act → World → Prop} (hgd : o.guard = none) (sl x : Operand) (t u : TypeId)
    (ho : o.op = .call { callee := .builtin .append, args := #[sl, x], argTypes := #[t, u] })
    (e : TypeId) (i : TypeInfo) (ht : P.underlying t = some (.slice e)) (hu : P.underlying u = some .string) (hi : P.info? e = some i) (hz : i.zero = some (.int .u8 0))
    (hsize : i.size = 1) (hby : i.bytes = 1)
    (v : Value) (n : Nat) (xs : List Value) (hs : a.eval sl = v) (hown : w.ownsRowF 0 e 1 v n xs) (s : ByteArray) (hx : a.eval x = .string s)
    (h63 : n + s.size ≤ maxLen) (hbytes : n + s.size ≤ 140737488355328)
    (h : ∀ v' w', w'.ownsRowF 0 e 1 v' (n + s.size) (xs ++ Lib.strCells s) → w.grownBy w' v.ownBlock → Later w v.ownBlock v'.ownBlock → (v' = .slice none 0 0 ↔ v = .slice none 0 0 ∧ s.size = 0) → wpList P ops Q rest (a.put o.dst v') w') : wpList P ops Q (o :: rest) a w := by
  refine wpList_plain hgd fun K hK => ?_
  obtain ⟨v', w', hr, h2, h3, h4, h5⟩ := run_append_strF (P := P) w t u o.type e i ht hu hi hz hsize hby v n xs hown s h63 hbytes
  unfold Oper.wp execOp
  simp only [ho, resolve, invoke, builtin, Sem.run_bind, Sem.run_pure, Result.andThen_ok, List.map_toArray, List.map_cons, List.map_nil, hs, hx, hr]
  exact hK _ _ (h v' w' h2 h3 h4 h5)


/-- THE STORE OF A WHOLE ROW into a block that is just it. -/
theorem wpList_store_row {ops : Array Oper} {rest : List Oper} {op : Oper} {a : Act} {Q : Exit → Act → World → Prop} (hgd : op.guard = none) (ty : TypeId) (x y : Operand) (ho : op.op = .store ty x y)
    (b : Nat) (cells old : Array Value) (t : TypeId) (hx : a.eval x = .pointer (some ⟨b, 0, none⟩)) (hy : a.eval y = .agg cells)
    (hb : w.heap[b]? = some (.cells old t (0, 0))) (hi : (P.info? ty).map (·.size) = some cells.size) (hs : old.size = cells.size) (h1 : cells.all (·.oneCell') = true)
    (h : wpList P ops Q rest (a.put op.dst undef) (w.setRow b cells)) : wpList P ops Q (op :: rest) a w := by
  refine wpList_plain hgd fun K hK => ?_
  unfold Oper.wp execOp
  simp only [ho, hx, hy, Instr.storeAt, Instr.sureAddr, Sem.run_bind, Sem.run_pure, Result.andThen_ok, run_storeVar_row (P := P) w b t ty old cells hb hi hs h1]
  exact hK _ _ h

theorem Keeps.setRow {S : Nat → Prop} {a w : World} (h : Keeps S a w) {g : Nat} (hg : g < a.heap.size → S g) (cs : Array Value) : Keeps S a (w.setRow g cs) :=
  h.trans (T := fun k => k = g) ⟨rfl, rfl, rfl, by simp, fun k _ hn => setRow_other w g k cs hn⟩ (fun i hi e => by subst e; exact hg hi)

end
end Go.Proofs.YtffjleceogablaaDoor
