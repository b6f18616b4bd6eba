/-
  Layer 12, plain: a batch's bytes; written, read, cut, with more behind them.
-/
import Derived.Test.YtffjleceogablaaDoorBSpec
import Derived.Test.YtffjleceogablaaDoorTextD
namespace Go.Proofs.YtffjleceogablaaDoor.Bt
open Go.Proofs.YtffjleceogablaaDoor.Tb
set_option maxRecDepth 100000

/-! ### Written -/
def opB (o : O) : Txt := if o.del then 1 :: textB o.key else 0 :: (textB o.key ++ textB o.val)
def opsB (ops : List O) : Txt := ops.flatMap opB
def encB (ops : List O) : Txt := Lib.uvarint ops.length ++ opsB ops
def Rise (ops : List O) : Prop := ∀ (k : Nat) (a b : O), ops[k]? = some a → ops[k + 1]? = some b → lt a.key b.key = true
def Bad (ops : List O) : Prop := ∃ o ∈ ops, o.del = true ∧ o.val ≠ []
open Classical in
/-- The error's number. -/
noncomputable def encE (ops : List O) : Nat := if Rise ops then (if Bad ops then 7 else 0) else 4
theorem encE_order {ops : List O} {k : Nat} {a b : O} (ha : ops[k]? = some a) (hb : ops[k + 1]? = some b) (h : lt a.key b.key = false) : encE ops = 4 := by
  unfold encE
  rw [if_neg]
  intro hr
  rw [hr k a b ha hb] at h
  cases h
theorem encE_form {ops : List O} (hr : Rise ops) {o : O} (ho : o ∈ ops) (hd : o.del = true) (hv : o.val ≠ []) : encE ops = 7 := by
  unfold encE
  rw [if_pos hr, if_pos ⟨o, ho, hd, hv⟩]
theorem encE_ok {ops : List O} (hr : Rise ops) (hn : ∀ o ∈ ops, o.del = true → o.val = []) : encE ops = 0 := by
  unfold encE
  rw [if_pos hr, if_neg]
  rintro ⟨o, ho, hd, hv⟩
  exact hv (hn o ho hd)
theorem encE_cases (ops : List O) : encE ops = 0 ∨ encE ops = 4 ∨ encE ops = 7 := by
  unfold encE
  split
  · split
    · exact .inr (.inr rfl)
    · exact .inl rfl
  · exact .inr (.inl rfl)
theorem rise_sorted : ∀ {ops : List O}, Rise ops → Sorted (codes ops)
  | [], _ => List.Pairwise.nil
  | [o], _ => List.pairwise_singleton _ _
  | o :: p :: ops, h => by
    have h1 : Sorted (codes (p :: ops)) := rise_sorted (ops := p :: ops) (fun k a b ha hb => h (k + 1) a b ha hb)
    have h0 : lt o.key p.key = true := h 0 o p rfl rfl
    refine rise_cons (fun q hq => ?_) h1
    rcases List.mem_cons.1 hq with rfl | hq
    · exact h0
    · exact lt_trans h0 ((List.pairwise_cons.1 h1).1 (code q) (List.mem_map.2 ⟨q, hq, rfl⟩))
theorem Norm.rises {ops : List O} (h : Norm ops) : Rise ops := fun _ _ _ ha hb => h.next ha hb
theorem clean_iff {o : O} : clean o = o ↔ (o.del = true → o.val = []) := by
  obtain ⟨d, k, v⟩ := o
  cases d
  · simp [clean]
  · simp [clean, eq_comm]
theorem Norm.enc {ops : List O} (h : Norm ops) : encE ops = 0 := encE_ok h.rises (fun o ho => clean_iff.1 (h.clean o ho))
theorem norm_of_enc {ops : List O} (h : encE ops = 0) : Norm ops := by
  unfold encE at h
  split at h
  · rename_i hr
    split at h
    · cases h
    · rename_i hb
      exact ⟨rise_sorted hr, fun o ho => clean_iff.2 fun hd => Classical.byContradiction fun hv => hb ⟨o, ho, hd, hv⟩⟩
  · cases h

open Classical in
/-- What Encode answers. -/
noncomputable def encT (ops : List O) : Txt := if encE ops = 0 then encB ops else []
theorem encT_ok {ops : List O} (h : encE ops = 0) : encT ops = encB ops := if_pos h
theorem encT_no {ops : List O} (h : encE ops ≠ 0) : encT ops = [] := if_neg h

/-! ### Read -/
def opD (fst : Bool) (before : Txt) : Txt → Nat ⊕ (O × Nat)
  | [] => .inl 1
  | b :: r => if 1 < b.toNat then .inl 7 else match textD 2147483647 r with
    | .inl e => .inl e
    | .inr (k, n) => if fst = false ∧ lt before k = false then .inl 4 else if b.toNat = 1 then .inr (⟨true, k, []⟩, 1 + n) else match textD 2147483647 (r.drop n) with
      | .inl e => .inl e
      | .inr (v, m) => .inr (⟨false, k, v⟩, 1 + n + m)
def opsD : Nat → Bool → Txt → Txt → Nat ⊕ (List O × Nat)
  | 0, _, _, _ => .inr ([], 0)
  | k + 1, fst, before, l => match opD fst before l with
    | .inl e => .inl e
    | .inr (o, n) => match opsD k false o.key (l.drop n) with
      | .inl e => .inl e
      | .inr (os, m) => .inr (o :: os, n + m)
def decD (l : Txt) : Nat ⊕ List O := match varintD l with
  | .inl e => .inl e
  | .inr (x, n) => match opsD x true [] (l.drop n) with
    | .inl e => .inl e
    | .inr (ops, m) => if n + m < l.length then .inl 5 else .inr ops
/-- Errors that reading answers. -/
def ErrN (e : Nat) : Prop := e = 1 ∨ e = 2 ∨ e = 3 ∨ e = 4 ∨ e = 5 ∨ e = 7
theorem text_errN {most : Int} {l : Txt} {e : Nat} (h : textD most l = .inl e) : ErrN e := by
  have := textD_err h
  unfold ErrN
  omega
theorem opD_err {fst : Bool} {before l : Txt} {e : Nat} (h : opD fst before l = .inl e) : ErrN e := by
  cases l with
  | nil => injection h with h; subst h; exact .inl rfl
  | cons b r =>
    rw [opD] at h
    split at h
    · injection h with h; subst h; simp [ErrN]
    · split at h
      · rename_i hd; injection h with h; subst h; exact text_errN hd
      · split at h
        · injection h with h; subst h; simp [ErrN]
        · split at h
          · cases h
          · split at h
            · rename_i hd; injection h with h; subst h; exact text_errN hd
            · cases h
theorem opsD_err : ∀ {k : Nat} {fst : Bool} {before l : Txt} {e : Nat}, opsD k fst before l = .inl e → ErrN e
  | 0, _, _, _, _, h => by cases h
  | k + 1, fst, before, l, e, h => by
    unfold opsD at h
    split at h
    · rename_i hd; injection h with h; subst h; exact opD_err hd
    · split at h
      · rename_i hd; injection h with h; subst h; exact opsD_err hd
      · cases h
theorem decD_err {l : Txt} {e : Nat} (h : decD l = .inl e) : ErrN e := by
  unfold decD at h
  split at h
  · rename_i hd
    injection h with h
    subst h
    have := vd_err _ _ _ _ hd
    unfold ErrN
    omega
  · split at h
    · rename_i hd; injection h with h; subst h; exact opsD_err hd
    · split at h
      · injection h with h; subst h; simp [ErrN]
      · cases h
/-- Texts that can be read. -/
def Fit (o : O) : Prop := o.key.length ≤ 2147483647 ∧ o.val.length ≤ 2147483647
theorem opD_enc {fst : Bool} {before : Txt} {o : O} (hf : Fit o) (hc : clean o = o) (hb : fst = true ∨ lt before o.key = true) (t : Txt) : opD fst before (opB o ++ t) = .inr (o, (opB o).length) := by
  obtain ⟨d, k, v⟩ := o
  have h1 : k.length ≤ 2147483647 := hf.1
  have h2 : v.length ≤ 2147483647 := hf.2
  have hb' : ¬ (fst = false ∧ lt before k = false) := by
    rintro ⟨e1, e2⟩
    rcases hb with e | e
    · rw [e] at e1; cases e1
    · rw [show lt before k = true from e] at e2; cases e2
  cases d with
  | true =>
    obtain rfl : v = [] := clean_iff.1 hc rfl
    show opD fst before (1 :: (textB k ++ t)) = _
    rw [opD]
    rw [if_neg (show ¬ 1 < (1 : UInt8).toNat by decide), textD_enc (by omega) (by omega)]
    simp only
    rw [if_neg hb', if_pos (show (1 : UInt8).toNat = 1 from rfl)]
    simp [opB]
    omega
  | false =>
    have e : opB ⟨false, k, v⟩ ++ t = 0 :: (textB k ++ (textB v ++ t)) := by simp [opB]
    rw [e]
    rw [opD]
    rw [if_neg (show ¬ 1 < (0 : UInt8).toNat by decide), textD_enc (by omega) (by omega)]
    simp only
    rw [if_neg hb', if_neg (show ¬ (0 : UInt8).toNat = 1 by decide), List.drop_left, textD_enc (by omega) (by omega)]
    simp [opB]
    omega
theorem opsD_enc (t : Txt) : ∀ {ops : List O} {fst : Bool} {before : Txt}, Norm ops → (∀ o ∈ ops, Fit o) → (fst = true ∨ ∀ o ∈ ops, lt before o.key = true) → opsD ops.length fst before (opsB ops ++ t) = .inr (ops, (opsB ops).length)
  | [], _, _, _, _, _ => rfl
  | o :: ops, fst, before, hn, hf, hb => by
    obtain ⟨h1, h2⟩ := List.pairwise_cons.1 hn.rise
    have hn' : Norm ops := ⟨h2, fun p hp => hn.clean p (by simp [hp])⟩
    have e : opsB (o :: ops) ++ t = opB o ++ (opsB ops ++ t) := by simp [opsB]
    have el : (opsB (o :: ops)).length = (opB o).length + (opsB ops).length := by simp [opsB]
    rw [e, List.length_cons, opsD, opD_enc (hf o (by simp)) (hn.clean o (by simp)) (hb.imp id (fun h => h o (by simp)))]
    simp only
    rw [List.drop_left, opsD_enc t (fst := false) (before := o.key) hn' (fun p hp => hf p (by simp [hp])) (.inr fun p hp => h1 (code p) (List.mem_map.2 ⟨p, hp, rfl⟩)), el]
theorem decD_enc {ops : List O} (hn : Norm ops) (hf : ∀ o ∈ ops, Fit o) (hl : ops.length < 18446744073709551616) (t : Txt) : decD (encB ops ++ t) = if t = [] then .inr ops else .inl 5 := by
  unfold decD encB
  rw [List.append_assoc, varintD_uvarint hl]
  simp only
  rw [List.drop_left, opsD_enc t hn hf (.inl rfl)]
  simp only [List.length_append]
  by_cases ht : t = []
  · subst ht
    rw [if_pos rfl, if_neg (by simp)]
  · rw [if_neg ht, if_pos (by have := List.length_pos_iff.2 ht; omega)]
/-- Cut anywhere ahead of its end it is too short. -/
theorem opD_cut {fst : Bool} {before : Txt} {o : O} (hf : Fit o) (hb : fst = true ∨ lt before o.key = true) {c : Nat} (hc : c < (opB o).length) : opD fst before ((opB o).take c) = .inl 1 := by
  obtain ⟨d, k, v⟩ := o
  have h1 : k.length ≤ 2147483647 := hf.1
  have h2 : v.length ≤ 2147483647 := hf.2
  have hb' : ¬ (fst = false ∧ lt before k = false) := by
    rintro ⟨e1, e2⟩
    rcases hb with e | e
    · rw [e] at e1; cases e1
    · rw [show lt before k = true from e] at e2; cases e2
  cases c with
  | zero => rfl
  | succ c =>
    cases d with
    | true =>
      have e : opB ⟨true, k, v⟩ = 1 :: textB k := by simp [opB]
      rw [e] at hc ⊢
      rw [List.take_succ_cons]
      rw [opD]
      rw [if_neg (show ¬ 1 < (1 : UInt8).toNat by decide), textD_cut (by omega) (by omega) (by simpa using hc)]
    | false =>
      have e : opB ⟨false, k, v⟩ = 0 :: (textB k ++ textB v) := by simp [opB]
      rw [e] at hc ⊢
      rw [List.take_succ_cons]
      rw [opD]
      rw [if_neg (show ¬ 1 < (0 : UInt8).toNat by decide), take_app]
      rw [List.length_cons, List.length_append] at hc
      by_cases hlt : c < (textB k).length
      · rw [if_pos hlt, textD_cut (by omega) (by omega) hlt]
      · rw [if_neg hlt, textD_enc (by omega) (by omega)]
        simp only
        rw [if_neg hb', if_neg (show ¬ (0 : UInt8).toNat = 1 by decide), List.drop_left, textD_cut (by omega) (by omega) (by omega)]
theorem opsD_cut : ∀ {ops : List O} {fst : Bool} {before : Txt} {c : Nat}, Norm ops → (∀ o ∈ ops, Fit o) → (fst = true ∨ ∀ o ∈ ops, lt before o.key = true) → c < (opsB ops).length → opsD ops.length fst before ((opsB ops).take c) = .inl 1
  | [], _, _, c, _, _, _, hc => by simp [opsB] at hc
  | o :: ops, fst, before, c, hn, hf, hb, hc => by
    obtain ⟨h1, h2⟩ := List.pairwise_cons.1 hn.rise
    have hn' : Norm ops := ⟨h2, fun p hp => hn.clean p (by simp [hp])⟩
    have e : opsB (o :: ops) = opB o ++ opsB ops := by simp [opsB]
    rw [e] at hc ⊢
    rw [List.length_append] at hc
    rw [List.length_cons, opsD, take_app]
    by_cases hlt : c < (opB o).length
    · rw [if_pos hlt, opD_cut (hf o (by simp)) (hb.imp id (fun h => h o (by simp))) hlt]
    · rw [if_neg hlt, opD_enc (hf o (by simp)) (hn.clean o (by simp)) (hb.imp id (fun h => h o (by simp)))]
      simp only
      rw [List.drop_left, opsD_cut (fst := false) (before := o.key) hn' (fun p hp => hf p (by simp [hp])) (.inr fun p hp => h1 (code p) (List.mem_map.2 ⟨p, hp, rfl⟩)) (by omega)]
theorem decD_cut {ops : List O} (hn : Norm ops) (hf : ∀ o ∈ ops, Fit o) (hl : ops.length < 18446744073709551616) {c : Nat} (hc : c < (encB ops).length) : decD ((encB ops).take c) = .inl 1 := by
  unfold encB at hc ⊢
  rw [List.length_append] at hc
  unfold decD
  rw [take_app]
  by_cases h1 : c < (Lib.uvarint ops.length).length
  · rw [if_pos h1, varintD_cut hl h1]
  · rw [if_neg h1, varintD_uvarint hl]
    simp only
    rw [List.drop_left, opsD_cut hn hf (.inl rfl) (by omega)]
/-- What is read without an error is just what is written. -/
theorem opD_inv {fst : Bool} {before l : Txt} {o : O} {n : Nat} (h : opD fst before l = .inr (o, n)) : n = (opB o).length ∧ (∃ t, l = opB o ++ t) ∧ clean o = o ∧ (fst = true ∨ lt before o.key = true) := by
  cases l with
  | nil => cases h
  | cons b r =>
    rw [opD] at h
    split at h
    · cases h
    · rename_i hb
      split at h
      · cases h
      · rename_i k m hk
        obtain ⟨rfl, t, rfl⟩ := textD_inv hk
        split at h
        · cases h
        · rename_i hlt
          have hlt' : fst = true ∨ lt before k = true := by
            cases fst with
            | true => exact .inl rfl
            | false =>
              cases e : lt before k with
              | true => exact .inr rfl
              | false => exact absurd ⟨rfl, e⟩ hlt
          split at h
          · rename_i h1
            simp only [Sum.inr.injEq, Prod.mk.injEq] at h
            obtain ⟨rfl, rfl⟩ := h
            have eb : b = 1 := UInt8.toNat_inj.1 h1
            subst eb
            exact ⟨by simp [opB]; omega, ⟨t, by simp [opB]⟩, rfl, hlt'⟩
          · rename_i h1
            have eb : b = 0 := UInt8.toNat_inj.1 (by simp; omega)
            subst eb
            rw [List.drop_left] at h
            split at h
            · cases h
            · rename_i v m hv
              obtain ⟨rfl, t', rfl⟩ := textD_inv hv
              simp only [Sum.inr.injEq, Prod.mk.injEq] at h
              obtain ⟨rfl, rfl⟩ := h
              exact ⟨by simp [opB]; omega, ⟨t', by simp [opB]⟩, rfl, hlt'⟩
theorem opsD_inv : ∀ {k : Nat} {fst : Bool} {before l : Txt} {os : List O} {m : Nat}, opsD k fst before l = .inr (os, m) → os.length = k ∧ m = (opsB os).length ∧ (∃ t, l = opsB os ++ t) ∧ Norm os ∧ (fst = true ∨ ∀ o ∈ os, lt before o.key = true)
  | 0, _, _, l, os, m, h => by
    simp only [opsD, Sum.inr.injEq, Prod.mk.injEq] at h
    obtain ⟨rfl, rfl⟩ := h
    exact ⟨rfl, rfl, ⟨l, rfl⟩, ⟨List.Pairwise.nil, fun o ho => by cases ho⟩, .inr fun o ho => by cases ho⟩
  | k + 1, fst, before, l, os, m, h => by
    unfold opsD at h
    split at h
    · cases h
    · rename_i o n ho
      split at h
      · cases h
      · rename_i os' m' hos
        simp only [Sum.inr.injEq, Prod.mk.injEq] at h
        obtain ⟨rfl, rfl⟩ := h
        obtain ⟨rfl, ⟨t, rfl⟩, hcl, hb⟩ := opD_inv ho
        rw [List.drop_left] at hos
        obtain ⟨rfl, rfl, ⟨t', rfl⟩, hn, hb'⟩ := opsD_inv hos
        have hb2 : ∀ p ∈ os', lt o.key p.key = true := hb'.resolve_left (by simp)
        refine ⟨rfl, by simp [opsB], ⟨t', by simp [opsB]⟩, ⟨rise_cons hb2 hn.rise, fun p hp => ?_⟩, hb.imp id fun h p hp => ?_⟩
        · rcases List.mem_cons.1 hp with rfl | hp
          · exact hcl
          · exact hn.clean p hp
        · rcases List.mem_cons.1 hp with rfl | hp
          · exact h
          · exact lt_trans h (hb2 p hp)
theorem decD_inv {l : Txt} {ops : List O} (h : decD l = .inr ops) : Norm ops ∧ encB ops = l := by
  unfold decD at h
  split at h
  · cases h
  · rename_i x n hx
    obtain ⟨_, rfl, t, rfl⟩ := varintD_inv hx
    rw [List.drop_left] at h
    split at h
    · cases h
    · rename_i os m ho
      obtain ⟨rfl, rfl, ⟨t', rfl⟩, hn, _⟩ := opsD_inv ho
      split at h
      · cases h
      · rename_i hl
        injection h with h
        subst h
        refine ⟨hn, ?_⟩
        have : t' = [] := by
          rw [List.length_append, List.length_append] at hl
          exact List.eq_nil_of_length_eq_zero (by omega)
        subst this
        simp [encB]
theorem opD_pos {fst : Bool} {before l : Txt} {o : O} {n : Nat} (h : opD fst before l = .inr (o, n)) : 2 ≤ n ∧ n ≤ l.length := by
  obtain ⟨rfl, ⟨t, rfl⟩, _, _⟩ := opD_inv h
  have h1 : ∀ x : Nat, 1 ≤ (Lib.uvarint x).length := fun x => by
    by_cases hx : x < 128
    · rw [Lib.uvarint_small hx]; simp
    · rw [Lib.uvarint_big (by omega)]; simp
  refine ⟨?_, by simp⟩
  unfold opB
  have := h1 o.key.length
  split
  · simp [textB]; omega
  · simp [textB]; omega
/-- What was read, ahead of what is still read. -/
def onto (us : List O) (d : Nat) : Nat ⊕ (List O × Nat) → Nat ⊕ (List O × Nat)
  | .inl e => .inl e
  | .inr (os, m) => .inr (us ++ os, d + m)
theorem onto_nil (r : Nat ⊕ (List O × Nat)) : onto [] 0 r = r := by
  rcases r with e | ⟨os, m⟩
  · rfl
  · simp [onto]
theorem onto_ok {us : List O} {d k n : Nat} {fst : Bool} {before l : Txt} {o : O} (h : opD fst before l = .inr (o, n)) : onto us d (opsD (k + 1) fst before l) = onto (us ++ [o]) (d + n) (opsD k false o.key (l.drop n)) := by
  rw [opsD, h]
  simp only
  cases opsD k false o.key (l.drop n) with
  | inl e => rfl
  | inr x => simp [onto, Nat.add_assoc]
theorem onto_err {us : List O} {d k e : Nat} {fst : Bool} {before l : Txt} (h : opD fst before l = .inl e) : onto us d (opsD (k + 1) fst before l) = .inl e := by
  rw [opsD, h]
  rfl
end Go.Proofs.YtffjleceogablaaDoor.Bt
