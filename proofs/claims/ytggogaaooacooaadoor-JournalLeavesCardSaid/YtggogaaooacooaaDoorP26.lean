/-
  Layer 10, plain: a journal that no call has brought out of its place; what keeps it so.
  Frames behind a quiet call.
  What calls over a disk may turn: a set of blocks; disk's contracts by it.
-/
import Derived.Test.YtggogaaooacooaaDoorP07
import Derived.Test.YtggogaaooacooaaDoorP25
import Derived.Test.YtggogaaooacooaaDoorP09
import Derived.Test.YtggogaaooacooaaDoorP19
import Derived.Test.YtggogaaooacooaaDoorP22
namespace Go.Proofs.YtggogaaooacooaaDoor
set_option maxRecDepth 100000

namespace J
/-- Where a journal may stand over a disk; a dead one's power is off, or its disk has crashed. -/
structure Fine (j : JS) (d : DS) : Prop where
  used : j.used ≤ j.n
  fit : j.pos + j.n ≤ d.dur.length
  v1 : 1 ≤ j.ver
  v2 : j.ver ≤ 1099511627776
  dead : j.dead = true → d.off = true ∨ d.cr ≠ j.life
  life : j.life ≤ d.cr
section
variable {j : JS} {d : DS}
/-- The program's own way to ask. -/
def JS.gone (j : JS) (d : DS) : Bool := d.off || decide (d.cr ≠ j.life)
theorem Fine.down (h : Fine j d) : j.down d = j.gone d := by
  unfold JS.down JS.gone
  cases hd : j.dead with
  | false => simp
  | true =>
    rcases h.dead hd with e | e
    · rw [e]; simp
    · rw [decide_eq_true e]; simp
theorem gone_dead (h : j.gone d = true) : d.off = true ∨ d.cr ≠ j.life := by
  unfold JS.gone at h
  cases ho : d.off with
  | true => exact .inl rfl
  | false => rw [ho] at h; exact .inr (by simpa using h)
theorem gone_not (h : j.gone d = false) : d.off = false ∧ d.cr = j.life := by
  unfold JS.gone at h
  simp only [Bool.or_eq_false_iff] at h
  exact ⟨h.1, by simpa using h.2⟩
theorem Fine.kill (h : Fine j d) (hd : d.off = true ∨ d.cr ≠ j.life) : Fine { j with dead := true } d := ⟨h.used, h.fit, h.v1, h.v2, fun _ => hd, h.life⟩
theorem writeD_off (d : DS) (i : Int) (s : List UInt8) (h : d.off = true) : (d.writeD i s).off = true := by
  unfold DS.writeD
  repeat' split
  all_goals first | exact h | rfl
theorem writeD_cr (d : DS) (i : Int) (s : List UInt8) : (d.writeD i s).cr = d.cr := by
  unfold DS.writeD
  repeat' split
  all_goals rfl
theorem Fine.write (h : Fine j d) (i : Int) (s : List UInt8) : Fine j (d.writeD i s) :=
  ⟨h.used, by rw [writeD_size]; exact h.fit, h.v1, h.v2, fun k => by rw [writeD_cr]; exact (h.dead k).imp (writeD_off d i s) id, by rw [writeD_cr]; exact h.life⟩
theorem flushD_off (d : DS) (h : d.off = true) : d.flushD.off = true := by
  unfold DS.flushD
  rw [h]; exact h
theorem flushD_cr (d : DS) : d.flushD.cr = d.cr := by
  unfold DS.flushD
  repeat' split
  all_goals rfl
theorem Fine.flush (h : Fine j d) : Fine j d.flushD :=
  ⟨h.used, by rw [flushD_size]; exact h.fit, h.v1, h.v2, fun k => by rw [flushD_cr]; exact (h.dead k).imp (flushD_off d) id, by rw [flushD_cr]; exact h.life⟩
theorem Fine.arm (h : Fine j d) (k : Int) : Fine j (d.armD k) := ⟨h.used, h.fit, h.v1, h.v2, h.dead, h.life⟩
theorem Fine.crash (h : Fine j d) (f : FT) : Fine j (d.crashD f) := by
  have hl := h.life
  refine ⟨h.used, by rw [crashD_size]; exact h.fit, h.v1, h.v2, fun _ => .inr ?_, ?_⟩
  · show d.cr + 1 ≠ j.life
    omega
  · show j.life ≤ d.cr + 1
    omega
/-- The writes of a record: all of them, or the power went. -/
theorem go_fine {v : List UInt8} : ∀ (m k : Nat) (d : DS), d.off = false → j.used + (k + m) ≤ j.n → j.pos + j.n ≤ d.dur.length →
    ((j.go v m k d).1 = 0 ∨ ((j.go v m k d).1 = 12 ∧ (j.go v m k d).2.off = true)) ∧ (j.go v m k d).2.dur = d.dur ∧ (j.go v m k d).2.cr = d.cr
  | 0, k, d, ho, hn, hD => ⟨.inl rfl, rfl, rfl⟩
  | m + 1, k, d, ho, hn, hD => by
    have hr : d.reach ((j.pos + (j.used + k) : Nat) : Int) = 0 := DS.reach_calm ho (by omega)
    have hlen := E.sct_length (stamp j.ver (j.used + k)) (pay_le v k)
    rw [JS.go]
    by_cases h0 : d.armed = 0
    · have hE : j.putE v k d = 12 := by unfold JS.putE DS.writeE; rw [if_neg (by rw [hr]; simp), if_neg (by rw [hlen]; simp), if_pos h0]
      have hW : j.put v k d = { d with ways := d.ways ++ [(j.pos + (j.used + k), E.sct (stamp j.ver (j.used + k)) (pay v k))], off := true } := by
        unfold JS.put DS.writeD; rw [if_neg (by rw [hr]; simp), if_neg (by rw [hlen]; simp), if_pos h0]; rfl
      rw [if_pos (by rw [hE]; decide)]
      exact ⟨.inr ⟨hE, by rw [hW]⟩, by rw [hW], by rw [hW]⟩
    · have hE : j.putE v k d = 0 := by unfold JS.putE DS.writeE; rw [if_neg (by rw [hr]; simp), if_neg (by rw [hlen]; simp), if_neg h0]
      have hW : j.put v k d = { d with ways := d.ways ++ [(j.pos + (j.used + k), E.sct (stamp j.ver (j.used + k)) (pay v k))], armed := dec d.armed, wr := d.wr + 1 } := by
        unfold JS.put DS.writeD; rw [if_neg (by rw [hr]; simp), if_neg (by rw [hlen]; simp), if_neg h0]; rfl
      rw [if_neg (by rw [hE]; simp)]
      obtain ⟨r1, r2, r3⟩ := go_fine (v := v) m (k + 1) (j.put v k d) (by rw [hW]; exact ho) (by omega) (by rw [hW]; exact hD)
      exact ⟨r1, r2.trans (by rw [hW]), r3.trans (by rw [hW])⟩
theorem Fine.append (h : Fine j d) (v : List UInt8) : Fine (j.append d v).2.1 (j.append d v).2.2 ∧ (j.append d v).1 ≤ 37 := by
  unfold JS.append
  split
  · rename_i hd
    rw [h.down] at hd
    exact ⟨h.kill (gone_dead hd), (by decide : (12 : Nat) ≤ 37)⟩
  · rename_i hd
    split
    · exact ⟨h, (by decide : (17 : Nat) ≤ 37)⟩
    · rename_i hf
      have hg := gone_not (by rw [← h.down]; simpa using hd)
      obtain ⟨r1, r2, r3⟩ := go_fine (j := j) (v := v) (cost v.length) 0 d hg.1 (by omega) h.fit
      split
      · rename_i he
        rcases r1 with r1 | ⟨r1, ro⟩
        · exact absurd r1 he
        · exact ⟨⟨h.used, by rw [r2]; exact h.fit, h.v1, h.v2, fun _ => .inl ro, by rw [r3]; exact h.life⟩, by simp only [r1]; decide⟩
      · refine ⟨⟨?_, by rw [r2]; exact h.fit, h.v1, h.v2, fun k => ?_, by rw [r3]; exact h.life⟩, (by decide : (0 : Nat) ≤ 37)⟩
        · show j.used + cost v.length ≤ j.n
          omega
        · rcases h.dead k with e | e
          · rw [hg.1] at e; cases e
          · exact absurd hg.2 e
theorem Fine.sync (h : Fine j d) : Fine (j.sync d).2.1 (j.sync d).2.2 ∧ (j.sync d).1 ≤ 37 := by
  unfold JS.sync
  split
  · rename_i hd
    rw [h.down] at hd
    exact ⟨h.kill (gone_dead hd), (by decide : (12 : Nat) ≤ 37)⟩
  · rename_i hd
    have hg := gone_not (by rw [← h.down]; simpa using hd)
    split
    · rename_i he
      have h0 : d.armed = 0 := by
        unfold DS.flushE at he
        rw [hg.1, if_neg (by simp)] at he
        split at he
        · assumption
        · exact absurd rfl he
      have hF : d.flushD = { d with off := true } := by unfold DS.flushD; rw [hg.1, if_neg (by simp), if_pos h0]
      refine ⟨⟨h.used, by rw [flushD_size]; exact h.fit, h.v1, h.v2, fun _ => .inl (by rw [hF]), by rw [flushD_cr]; exact h.life⟩, ?_⟩
      have hE : d.flushE ≤ 37 := by
        unfold DS.flushE
        repeat' split
        all_goals decide
      exact hE
    · exact ⟨h.flush, (by decide : (0 : Nat) ≤ 37)⟩
theorem Fine.begin {i n v : Int} (h : refE d i n v = 0) : Fine ⟨i.toNat, n.toNat, v.toNat, 0, false, d.cr⟩ d := by
  unfold refE at h
  split at h
  · cases h
  · rename_i hm
    obtain ⟨a1, a2, a3, a4, a5, a6, a7⟩ := Decidable.not_not.1 hm
    exact ⟨Nat.zero_le _, by show i.toNat + n.toNat ≤ _; omega, by show 1 ≤ v.toNat; omega, by show v.toNat ≤ _; omega, fun k => (by cases k), Nat.le_refl _⟩
/-- Counts. -/
theorem go_few {f : Nat} {v : List UInt8} : ∀ (m k : Nat) (d : DS), d.FewN f → (j.go v m k d).2.FewN (f + m)
  | 0, k, d, h => h
  | m + 1, k, d, h => by
    rw [JS.go]
    have h1 : (j.put v k d).FewN (f + 1) := h.write _ _
    split
    · exact h1.mono (by omega)
    · exact (go_few m (k + 1) _ h1).mono (by omega)
theorem append_few {f : Nat} (h : d.FewN f) (v : List UInt8) : (j.append d v).2.2.FewN (f + cost v.length) := by
  unfold JS.append
  split
  · exact h.mono (by omega)
  · split
    · exact h.mono (by omega)
    · split
      · exact go_few _ _ _ h
      · exact go_few _ _ _ h
theorem sync_few {f : Nat} (h : d.FewN f) : (j.sync d).2.2.FewN (f + 1) := by
  unfold JS.sync
  split
  · exact h.mono (by omega)
  · split
    · exact h.flush
    · exact h.flush
theorem refE_le (d : DS) (i n v : Int) : refE d i n v ≤ 37 := by
  unfold refE
  repeat' split
  all_goals decide
theorem replay_le (d : DS) (i n v : Int) : (replay d i n v).2 ≤ 37 := by
  unfold replay
  split
  · exact refE_le d i n v
  · exact (by decide : (0 : Nat) ≤ 37)
theorem replay_len (d : DS) (i n v : Int) : (replay d i n v).1.length ≤ 65536 := by
  unfold replay
  split
  · exact Nat.zero_le _
  · rename_i h
    have h : refE d i n v = 0 := Decidable.not_not.1 h
    unfold refE at h
    split at h
    · cases h
    · rename_i hm
      obtain ⟨a1, a2, a3, a4, a5, a6, a7⟩ := Decidable.not_not.1 hm
      exact Nat.le_trans (log_length _ _) (by omega)
end
end J
end Go.Proofs.YtggogaaooacooaaDoor
namespace Go.Proofs.YtggogaaooacooaaDoor
open Go.RowKit
set_option maxRecDepth 100000

theorem keeps_qt {S : Nat → Prop} {w0 w w' : World} (h : Keeps S w0 w) (q : Qt w w') : Keeps S w0 w' := Keeps.trans h q (fun _ _ e => e.elim)
theorem since_qt {w0 w w' : World} (h : Since w0.heap.size w0 w) (q : Qt w w') : Since w0.heap.size w0 w' := keeps_qt h q
end Go.Proofs.YtggogaaooacooaaDoor
namespace Go.Proofs.YtggogaaooacooaaDoor
open Go.RowKit Go.WideShapes
set_option maxRecDepth 100000

/-- What may turn: S; all new blocks are of it, no error's variable, none of their texts and no table. -/
structure Room (ad : Nat → Addr) (S : Nat → Prop) (w0 : World) : Prop where
  errs : Errs ad w0
  tab : Tab w0
  off : OffErrs ad S
  offTab : ¬ S 38
  up : ∀ k, w0.heap.size ≤ k → S k
section
variable {ad : Nat → Addr} {S : Nat → Prop} {w0 w : World} {b : Nat} {d : DS}
theorem Room.errs' (R : Room ad S w0) (hS : Keeps S w0 w) : Errs ad w := R.errs.kept hS R.off
theorem Room.tab' (R : Room ad S w0) (hS : Keeps S w0 w) : Tab w := fun k hk => hS.cellv (R.tab k hk) R.offTab
theorem Room.of (hE : Errs ad w0) (hT : Tab w0) : Room ad (fun k => w0.heap.size ≤ k) w0 :=
  ⟨hE, hT, off_since hE, fun h => by have := World.block_lt_of_cell? w0 _ (hT 0 (by decide)); simp only at this; omega, fun _ h => h⟩
theorem Room.disk (R : Room ad S w0) {w' : World} (hS : Keeps S w0 w) (h : DiskAt w' b d (Grow S w w')) : DiskAt w' b d S :=
  h.mono (fun k hk => by
    rcases hk with hk | ⟨hk, _⟩
    · exact hk
    · exact R.up k (Nat.le_trans hS.size hk))
theorem Room.keeps {w' : World} (hS : Keeps S w0 w) (h : Keeps S w w') : Keeps S w0 w' := Keeps.trans hS h (fun _ _ e => e)
theorem room_arm (R : Room ad S w0) (hS : Keeps S w0 w) (h : DiskAt w b d S) (k : Int) (hk : k ≤ 9223372036854775807) :
    Calls Tryd.prog 36 #[.pointer (some ⟨b, 0, none⟩), .int .i64 k] w fun e w' => e = .returned (.tuple #[]) ∧ DiskAt w' b (d.armD k) S ∧ Keeps S w0 w' := by
  refine (arm_any h k hk).mono ?_
  rintro e w' ⟨he, hD, hK⟩
  exact ⟨he, R.disk hS hD, Room.keeps hS hK⟩
theorem room_write (R : Room ad S w0) (hS : Keeps S w0 w) (h : DiskAt w b d S) (hf : d.Few) (i : Int) (s : ByteArray) :
    Calls Tryd.prog 33 #[.pointer (some ⟨b, 0, none⟩), .int .i64 i, .string s] w fun e w' => e = .returned (errV ad (d.writeE i (strL s))) ∧ DiskAt w' b (d.writeD i (strL s)) S ∧ Keeps S w0 w' := by
  refine (write_any ad (R.errs' hS) R.off h hf i s).mono ?_
  rintro e w' ⟨he, hD, hK⟩
  exact ⟨he, R.disk hS hD, Room.keeps hS hK⟩
theorem room_flush (R : Room ad S w0) (hS : Keeps S w0 w) (h : DiskAt w b d S) (hf : d.Few) :
    Calls Tryd.prog 69 #[.pointer (some ⟨b, 0, none⟩)] w fun e w' => e = .returned (errV ad d.flushE) ∧ DiskAt w' b d.flushD S ∧ Keeps S w0 w' := by
  refine (flush_any ad (R.errs' hS) R.off h hf).mono ?_
  rintro e w' ⟨he, hD, hK⟩
  exact ⟨he, R.disk hS hD, Room.keeps hS hK⟩
theorem room_crash (R : Room ad S w0) (hS : Keeps S w0 w) (h : DiskAt w b d S) (hf : d.Few) (v : Value) (f : FT) (hv : Bools w v f.kept) (hb : ∀ a n c, v = .slice (some a) n c → n ≠ 0 → ¬ S a.block) :
    Calls Tryd.prog 38 #[.pointer (some ⟨b, 0, none⟩), fateV v f] w fun e w' => e = .returned (.tuple #[]) ∧ DiskAt w' b (d.crashD f) S ∧ Keeps S w0 w' := by
  refine (crash_any w b d _ h hf v f hv hb).mono ?_
  rintro e w' ⟨he, hD, hK⟩
  exact ⟨he, R.disk hS hD, Room.keeps hS hK⟩
theorem room_read (R : Room ad S w0) (hS : Keeps S w0 w) (h : DiskAt w b d S) (i : Int) :
    Calls Tryd.prog 92 #[.pointer (some ⟨b, 0, none⟩), .int .i64 i] w fun e w' => e = .returned (.tuple #[.string ⟨(d.readE i).toArray⟩, errV ad (d.reach i)]) ∧ w = w' := read_any ad (R.errs' hS) h i
end
end Go.Proofs.YtggogaaooacooaaDoor
