/-
  The contracts of slots' Read and Write, and of disk's calls, over a disk whose blocks are of a set S.
-/
import Derived.Test.YtnnkibhlildojaaDoorGWrite
import Derived.Test.YtnnkibhlildojaaDoorDOwn
import Derived.Test.YtnnkibhlildojaaDoorEOpen
import Derived.Test.YtnnkibhlildojaaDoorEErr
namespace Go.Proofs.YtnnkibhlildojaaDoor
open Go.RowKit Go.WideShapes
set_option maxRecDepth 100000

theorem slotH_any {ad : Nat → Addr} {w : World} (hE : Errs ad w) (hT : Tab w) : SlotH w := by
  intro s i hi W q
  refine openSlot_h (ad 7) s i hi W (fun W' q' => ?_) (fun st hst W' q' => ?_)
  · have h := ends_any (ad 6) (ad 3) (ad 7) s W' ((hE.kept (Qt.trans q q') (OffErrs.none ad)).e3) 
    exact h
  · have h := open_any (ad 6) (ad 3) (ad 7) st s W' hst ((hE.kept (Qt.trans q q') (OffErrs.none ad)).e3) (hT.qt (Qt.trans q q'))
    cases ho : E.openS st s.data.toList with
    | none => rw [ho] at h; exact h
    | some p => rw [ho] at h; exact h
theorem sealH_any {ad : Nat → Addr} {w : World} (hE : Errs ad w) (hT : Tab w) : SealH ad w := by
  intro st s hst W q
  have h := seal_any (ad 6) (ad 3) (ad 7) st s W hst ((hE.kept q (OffErrs.none ad)).e3) (hT.qt q)
  have hz : s.data.toList.length = s.size := by simp
  unfold E.sealR at h
  rw [hz] at h
  by_cases h0 : st = 0
  · rw [if_pos h0] at h ⊢; exact h
  · rw [if_neg h0] at h ⊢
    by_cases h1 : 234 < s.size
    · rw [if_pos h1] at h ⊢; exact h
    · rw [if_neg h1] at h ⊢; exact h

/-- What may turn: S; all new blocks are of it, no error's variable, none of their texts and no table. -/
structure Room (ad : Nat → Addr) (S : Nat → Prop) (w0 : World) : Prop where
  errs : Errs ad w0
  tab : Tab w0
  off : OffErrs ad S
  offTab : ¬ S 38
  up : ∀ k, w0.heap.size ≤ k → S k
section
variable {ad : Nat → Addr} {S : Nat → Prop} {w0 w : World} {b : Nat} {d : DS}
theorem Room.errs' (R : Room ad S w0) (hS : Keeps S w0 w) : Errs ad w := R.errs.kept hS R.off
theorem Room.tab' (R : Room ad S w0) (hS : Keeps S w0 w) : Tab w := fun k hk => hS.cellv (R.tab k hk) R.offTab
theorem Room.of (hE : Errs ad w0) (hT : Tab w0) : Room ad (fun k => w0.heap.size ≤ k) w0 :=
  ⟨hE, hT, off_since hE, fun h => by have := World.block_lt_of_cell? w0 _ (hT 0 (by decide)); simp only at this; omega, fun _ h => h⟩
theorem Room.disk (R : Room ad S w0) {w' : World} (hS : Keeps S w0 w) (h : DiskAt w' b d (Grow S w w')) : DiskAt w' b d S :=
  h.mono (fun k hk => by
    rcases hk with hk | ⟨hk, _⟩
    · exact hk
    · exact R.up k (Nat.le_trans hS.size hk))
theorem Room.keeps {w' : World} (hS : Keeps S w0 w) (h : Keeps S w w') : Keeps S w0 w' := Keeps.trans hS h (fun _ _ e => e)
theorem room_arm (R : Room ad S w0) (hS : Keeps S w0 w) (h : DiskAt w b d S) (k : Int) (hk : k ≤ 9223372036854775807) :
    Calls Tryd.prog 15 #[.pointer (some ⟨b, 0, none⟩), .int .i64 k] w fun e w' => e = .returned (.tuple #[]) ∧ DiskAt w' b (d.armD k) S ∧ Keeps S w0 w' := by
  refine (arm_any h k hk).mono ?_
  rintro e w' ⟨he, hD, hK⟩
  exact ⟨he, R.disk hS hD, Room.keeps hS hK⟩
theorem room_write (R : Room ad S w0) (hS : Keeps S w0 w) (h : DiskAt w b d S) (hf : d.Few) (i : Int) (s : ByteArray) :
    Calls Tryd.prog 32 #[.pointer (some ⟨b, 0, none⟩), .int .i64 i, .string s] w fun e w' => e = .returned (errV ad (d.writeE i (strL s))) ∧ DiskAt w' b (d.writeD i (strL s)) S ∧ Keeps S w0 w' := by
  refine (write_any ad (R.errs' hS) R.off h hf i s).mono ?_
  rintro e w' ⟨he, hD, hK⟩
  exact ⟨he, R.disk hS hD, Room.keeps hS hK⟩
theorem room_flush (R : Room ad S w0) (hS : Keeps S w0 w) (h : DiskAt w b d S) (hf : d.Few) :
    Calls Tryd.prog 33 #[.pointer (some ⟨b, 0, none⟩)] w fun e w' => e = .returned (errV ad d.flushE) ∧ DiskAt w' b d.flushD S ∧ Keeps S w0 w' := by
  refine (flush_any ad (R.errs' hS) R.off h hf).mono ?_
  rintro e w' ⟨he, hD, hK⟩
  exact ⟨he, R.disk hS hD, Room.keeps hS hK⟩
theorem room_crash (R : Room ad S w0) (hS : Keeps S w0 w) (h : DiskAt w b d S) (hf : d.Few) (v : Value) (f : FT) (hv : Bools w v f.kept) (hb : ∀ a n c, v = .slice (some a) n c → n ≠ 0 → ¬ S a.block) :
    Calls Tryd.prog 20 #[.pointer (some ⟨b, 0, none⟩), fateV v f] w fun e w' => e = .returned (.tuple #[]) ∧ DiskAt w' b (d.crashD f) S ∧ Keeps S w0 w' := by
  refine (crash_any w b d _ h hf v f hv hb).mono ?_
  rintro e w' ⟨he, hD, hK⟩
  exact ⟨he, R.disk hS hD, Room.keeps hS hK⟩
theorem room_read (R : Room ad S w0) (hS : Keeps S w0 w) (h : DiskAt w b d S) (i : Int) :
    Calls Tryd.prog 22 #[.pointer (some ⟨b, 0, none⟩), .int .i64 i] w fun e w' => e = .returned (.tuple #[.string ⟨(d.readE i).toArray⟩, errV ad (d.reach i)]) ∧ w = w' := read_any ad (R.errs' hS) h i
theorem room_slotsRead (R : Room ad S w0) (hS : Keeps S w0 w) (h : DiskAt w b d S) (i : Int) :
    Calls Tryd.prog 10 #[.pointer (some ⟨b, 0, none⟩), .int .i64 i] w fun e w' => e = .returned (readT ad (d.slotsR i)) ∧ DiskAt w' b d S ∧ Keeps S w0 w' := by
  refine (slotsRead_h ad (R.errs' hS) (slotH_any (R.errs' hS) (R.tab' hS)) h i).mono ?_
  rintro e w' ⟨he, q⟩
  exact ⟨he, h.qt q, keeps_qt hS q⟩
theorem room_slotsWrite (R : Room ad S w0) (hS : Keeps S w0 w) (h : DiskAt w b d S) (hf : d.Fewer) (i v : Int) (hv0 : -9223372036854775808 ≤ v) (hv1 : v ≤ 9223372036854775807) (s : ByteArray) :
    Calls Tryd.prog 16 #[.pointer (some ⟨b, 0, none⟩), .int .i64 i, .int .i64 v, .string s] w fun e w' => e = .returned (errV ad (d.slotsE i v s.data.toList)) ∧ DiskAt w' b (d.slotsD i v s.data.toList) S ∧ Keeps S w0 w' :=
  slotsWrite_h ad (R.errs' hS) hS (sealH_any (R.errs' hS) (R.tab' hS)) (fun _ _ hS h hf i s => room_write R hS h hf i ⟨s.toArray⟩) (fun _ _ hS h hf => room_flush R hS h hf) h hf i v hv0 hv1 s
end
section
variable {ad : Nat → Addr} {w0 w : World} {b : Nat} {d : DS}
theorem own_slotsRead (hE : Errs ad w0) (hT : Tab w0) (hS : Since w0.heap.size w0 w) (h : Own w0.heap.size w b d) (i : Int) :
    Calls Tryd.prog 10 #[.pointer (some ⟨b, 0, none⟩), .int .i64 i] w fun e w' => e = .returned (readT ad (d.slotsR i)) ∧ Own w0.heap.size w' b d ∧ Since w0.heap.size w0 w' ∧ Qt w w' := by
  refine (slotsRead_h ad (errs_since hE hS) (slotH_any (errs_since hE hS) (hT.qt hS.qt)) h i).mono ?_
  rintro e w' ⟨he, q⟩
  exact ⟨he, h.qt q, since_qt hS q, q⟩
theorem own_slotsWrite (hE : Errs ad w0) (hT : Tab w0) (hS : Since w0.heap.size w0 w) (h : Own w0.heap.size w b d) (hf : d.Fewer) (i v : Int) (hv0 : -9223372036854775808 ≤ v) (hv1 : v ≤ 9223372036854775807) (s : ByteArray) :
    Calls Tryd.prog 16 #[.pointer (some ⟨b, 0, none⟩), .int .i64 i, .int .i64 v, .string s] w fun e w' => e = .returned (errV ad (d.slotsE i v s.data.toList)) ∧ Own w0.heap.size w' b (d.slotsD i v s.data.toList) ∧ Since w0.heap.size w0 w' :=
  room_slotsWrite (Room.of hE hT) hS h hf i v hv0 hv1 s
end
end Go.Proofs.YtnnkibhlildojaaDoor
