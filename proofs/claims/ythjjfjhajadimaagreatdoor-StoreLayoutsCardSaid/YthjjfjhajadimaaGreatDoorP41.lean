/-
  What a store's reading finds, plain: the version that a slot tells, the records' lengths, how many ops a record holds.
-/
import Derived.Test.YthjjfjhajadimaaGreatDoorP40
namespace Go.Proofs.YthjjfjhajadimaaGreatDoor
namespace So
open Tb
theorem best_in {a b : Option (Nat × List UInt8)} {p : Nat × List UInt8} (h : G.best a b = some p) : a = some p \/ b = some p := by
 cases a with
 | none => cases b with
  | none => cases h
  | some y => exact .inr h
 | some x => cases b with
  | none => exact .inl h
  | some y =>
   rw [G.best_some] at h
   split at h
   ·exact .inr h
   ·exact .inl h
theorem slots_ok {d : DS} (h : (d.slotsR 0).2.2 = 0) : d.off = false /\ 1 <= (d.slotsR 0).2.1 /\ (d.slotsR 0).2.1 <= 1099511627776 /\ (d.slotsR 0).1.length <= 234 := by
 unfold DS.slotsR at h ⊢
 split at h
 ·cases h
 ·split at h
  ·cases h
  ·rename_i hf ho
   rw [if_neg hf, if_neg ho]
   cases hb : G.best (G.slotV (d.read (0 : Int).toNat) 0) (G.slotV (d.read ((0 : Int).toNat + 1)) 1) with
   | none => rw [hb] at h; cases h
   | some p =>
    obtain ⟨v, t⟩ := p
    show d.off = false /\ 1 <= v /\ v <= 1099511627776 /\ t.length <= 234
    refine ⟨by simpa using ho, ?_⟩
    rcases best_in hb with e | e
    ·have k := G.slotV_some e; exact ⟨k.1, k.2.1, k.2.2.2.1⟩
    ·have k := G.slotV_some e; exact ⟨k.1, k.2.1, k.2.2.2.1⟩
theorem log_mem {s : Nat -> Option (List UInt8)} {n : Nat} : ∀ (f i : Nat) {t : List UInt8}, t ∈ J.log s n f i -> J.cost t.length <= n
 | 0, _, _, h => by cases h
 | f + 1, i, t, h => by
  rw [J.log] at h
  cases hr : J.rec s n i with
  | none => rw [hr] at h; cases h
  | some v =>
   rw [hr] at h
   rcases List.mem_cons.1 h with rfl | h
   ·have := (J.rec_whole hr).room; omega
   ·exact log_mem f _ h
theorem replay_ok {d : DS} {v : Nat} (h64 : 64 <= d.dur.length) (hm : d.dur.length <= 65536) (ho : d.off = false) (hv1 : 1 <= v) (hv2 : v <= 1099511627776) : (J.replay d (logAt d.dur.length) (many d.dur.length) v).2 = 0 /\ ∀ t ∈ (J.replay d (logAt d.dur.length) (many d.dur.length) v).1, t.length <= 8388608 := by
 rw [replay_yes (refE_yes (may_log h64 rfl hm hv1 hv2) ho)]
 refine ⟨rfl, fun t ht => ?_⟩
 have h1 := log_mem _ _ ht
 have h2 := J.cost_le t.length
 have h3 := J.cost_pos t.length
 obtain ⟨k, hk⟩ : ∃ k, J.cost t.length = k + 1 := ⟨J.cost t.length - 1, by omega⟩
 rw [hk] at h1 h2
 have h2 : t.length <= 229 + 233 * k := h2
 unfold many each at h1
 omega
theorem opB_newB (o : Bt.O) : newB o <= (Bt.opB o).length /\ 2 <= (Bt.opB o).length := by
 have h1 := Lib.uvarint_pos o.key.length
 unfold newB Bt.opB
 split
 ·simp [textB]; omega
 ·have e := rowB_length (o.key, o.val)
  simp only at e
  rw [e]
  simp [textB]
  omega
theorem opsB_two (ops : List Bt.O) : ops.length * 2 <= (Bt.opsB ops).length /\ opsN ops <= (Bt.opsB ops).length := by
 induction ops with
 | nil => exact ⟨Nat.zero_le _, Nat.zero_le _⟩
 | cons o os ih =>
  have e : Bt.opsB (o :: os) = Bt.opB o ++ Bt.opsB os := by simp [Bt.opsB]
  have h := opB_newB o
  have e2 : opsN (o :: os) = newB o + opsN os := by simp [opsN]
  rw [e, e2, List.length_append, List.length_cons]
  omega
theorem opsB_mem {ops : List Bt.O} {o : Bt.O} (h : o ∈ ops) : (Bt.opB o).length <= (Bt.opsB ops).length := by
 induction ops with
 | nil => cases h
 | cons a os ih =>
  have e : Bt.opsB (a :: os) = Bt.opB a ++ Bt.opsB os := by simp [Bt.opsB]
  rw [e, List.length_append]
  rcases List.mem_cons.1 h with rfl | h
  ·omega
  ·have := ih h; omega
theorem dec_small {t : Txt} {ops : List Bt.O} (h : Bt.decD t = .inr ops) (ht : t.length <= 8388608) : Bt.Norm ops /\ Bt.Small ops /\ opsN ops <= 8388608 := by
 obtain ⟨hn, he⟩ := Bt.decD_inv h
 have hl : (Bt.opsB ops).length <= t.length := by rw [<- he]; unfold Bt.encB; rw [List.length_append]; omega
 have h2 := opsB_two ops
 refine ⟨hn, ⟨by omega, fun o ho => ?_⟩, by omega⟩
 have h3 := opsB_mem ho
 have h4 : o.key.length <= (Bt.opB o).length := by unfold Bt.opB; split <;> simp [textB] <;> omega
 have h5 : o.del = false -> o.val.length <= (Bt.opB o).length := fun e => by unfold Bt.opB; rw [e]; simp [textB]; omega
 have h6 : o.del = true -> o.val = [] := Bt.clean_iff.1 (hn.clean o ho)
 refine ⟨by omega, ?_⟩
 cases hd : o.del with
 | true => rw [h6 hd]; simp
 | false => have := h5 hd; omega
end So
end Go.Proofs.YthjjfjhajadimaaGreatDoor
