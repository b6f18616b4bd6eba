/-
  The contract of remitmem.SpareInts.
-/
import Derived.Test.YtjjlpjfojgkpkaaGreatDoorAppList
import Derived.Test.YtjjlpjfojgkpkaaGreatDoorMark
import Derived.Test.YtjjlpjfojgkpkaaGreatDoorInts
import Derived.OwnWalk
import Derived.LoopTactic
import Derived.Laws.MakeOwn
namespace Go.Proofs.YtjjlpjfojgkpkaaGreatDoor
open Go.RowKit Go.WideShapes
set_option maxRecDepth 100000

abbrev intV (x : Int) : Value := .int .i64 x
theorem infoInt : (Tryz.prog.info? 3).map (fun i => (i.zero, i.size, i.bytes)) = some (some (.int .i64 0), 1, 8) := by kernel_rfl
noncomputable def marksI (k : Nat) : List Int := (List.range k).map fun j => markI 7 (j : Nat)
theorem marksI_length (k : Nat) : (marksI k).length = k := by simp [marksI]
theorem marksI_succ (k : Nat) : marksI (k + 1) = marksI k ++ [markI 7 (k : Nat)] := by simp [marksI, List.range_succ]
theorem marksI_get {k j : Nat} (h : j < k) : (marksI k)[j]? = some (markI 7 (j : Nat)) := by simp [marksI, h]
/-- A list of ints that the call has made. -/
structure NewInts (B : Nat) (w : World) (v : Value) (ss : List Int) : Prop where
  own : w.ownsRow 0 3 1 v ss.length (ss.map intV)
  new : ∀ g, v.ownBlock = some g → B ≤ g
theorem NewInts.kept {B : Nat} {S : Nat → Prop} {w w' : World} {v : Value} {ss : List Int} (h : NewInts B w v ss) (hk : Keeps S w w') (hn : ∀ k, v.ownBlock = some k → ¬ S k) : NewInts B w' v ss := ⟨ownsRow_kept h.own hk hn, h.new⟩

/-- SpareInts' loop: k marks behind the list. -/
def SpareIAt (ss : List Int) (w : World) (v i : Value) (wr : World) : Prop :=
  ∃ k : Nat, k ≤ 80 ∧ i = .int .i64 k ∧ NewInts w.heap.size wr v (ss ++ marksI k) ∧ Since w.heap.size w wr

theorem SpareIAt.more {ss : List Int} {k : Nat} {v v' : Value} {w wr w1 w2 w3 : World} (hlt : k < 80) (hn : NewInts w.heap.size wr v (ss ++ marksI k)) (hS : Since w.heap.size w wr)
    (k1 : Keeps (fun _ => False) wr w1) (k2 : Keeps (fun _ => False) w1 w2) (hg : w2.grownBy w3 v.ownBlock) (hl : Later w2 v.ownBlock v'.ownBlock)
    (hown : w3.ownsRow 0 3 1 v' ((ss ++ marksI k).length + 1) ((ss ++ marksI k).map intV ++ [intV (markI 7 (k : Nat))])) : SpareIAt ss w v' (.int .i64 ((k + 1 : Nat) : Int)) w3 := by
  have h0 := hS.size
  have h1 := k1.size
  have h2 := k2.size
  refine ⟨k + 1, hlt, rfl, ⟨?_, fun g hg' => ?_⟩, ?_⟩
  · rw [marksI_succ, ← List.append_assoc, List.map_append, List.length_append]
    exact hown
  · rcases hl with e | ⟨g', e, hge⟩
    · exact hn.new g (e ▸ hg')
    · rw [e] at hg'; injection hg' with hg'; omega
  · exact Keeps.grown ((hS.step k1 (fun _ h => h.elim)).step k2 (fun _ h => h.elim)) hg (fun j hj e => hn.new j e.symm)

theorem NewInts.form {B : Nat} {w : World} {v : Value} {ss : List Int} (h : NewInts B w v ss) (hn : 0 < ss.length) : ∃ g cap, v = .slice (some ⟨g, 0, none⟩) ss.length cap ∧ ss.length ≤ cap := by
  rcases h.own.2 with ⟨_, h0⟩ | ⟨g, cap, cur, rfl, _, hg, hnc, _⟩
  · omega
  · exact ⟨g, cap, rfl, hnc⟩

theorem IntsAt.news {w : World} {v : Value} {g o : Nat} {ss : List Int} (h : IntsAt .i64 w v g o ss) {a : Option Addr} (ha : ss ≠ [] → a = some ⟨g, o, none⟩) : ss.map intV ≠ [] → ∃ ad, a = some ad ∧ ∀ (j : Nat) u, (ss.map intV)[j]? = some u → w.cell? (ad.add j) = some u := by
  intro hne
  have hne' : ss ≠ [] := fun e => hne (by simp [e])
  refine ⟨_, ha hne', fun j u hj => ?_⟩
  rw [List.getElem?_map] at hj
  obtain ⟨s, hs, rfl⟩ := Option.map_eq_some_iff.1 hj
  rw [add_plain]
  exact h.cells j s hs

theorem intV_one (ss : List Int) : ∀ u ∈ ss.map intV, u.oneCell' = true := by
  intro u hu
  obtain ⟨s, _, rfl⟩ := List.mem_map.1 hu
  rfl

set_option maxHeartbeats 1600000 in
theorem spareInts_any (v : Value) (g o : Nat) (ss : List Int) (w : World) (hs : IntsAt .i64 w v g o ss) (hl : ss.length ≤ 17592186043904) :
    Calls Tryz.prog 20 #[v] w fun e w' => ∃ gf cap, e = .returned (.tuple #[.slice (some ⟨gf, 0, none⟩) ss.length cap, .slice (some ⟨gf, 0, none⟩) (ss.length + 80) cap]) ∧
      NewInts w.heap.size w' (.slice (some ⟨gf, 0, none⟩) (ss.length + 80) cap) (ss ++ marksI 80) ∧ Keeps (fun _ => False) w w' := by
  obtain ⟨i0, hi, hz0, hz1, hz2⟩ := info_parts infoInt
  obtain ⟨a, cap, rfl, ha⟩ := hs.val
  have HS := Lib.hid hs
  have Ha := Lib.hid ha
  clear hs ha
  go_enter Tryz.func20, Tryz.ntmps20
  go_wp2_with (at_make; refine wpList_make_own _ rfl _ _ 25 rfl 0 3 i0 (.int .i64 0) 1 Tryz.underlying25 hi hz0 hz1 .i64 .i64 _ (ss.length + 80) rfl rfl (by first | omega | simp) (by rw [hz2]; omega) (by unfold maxLen; omega) (Nat.zero_le _) ?_)
  intro W1 hown1 hgrow1
  have k1 := (Keeps.refl (fun _ => False) w).grown hgrow1 (fun k _ e => by cases e)
  have hnew := HS.out.qt k1
  have Hnews := Lib.hid (hnew.news Ha.out)
  have K1 := Lib.hid k1
  have hh : w.heap.size ≤ W1.heap.size := k1.size
  clear hnew k1 hgrow1
  go_wp2_with (at_builtin; refine wpList_append_list _ rfl _ _ 25 rfl 3 i0 (.int .i64 0) 8 Tryz.underlying25 hi hz0 hz1 hz2 rfl _ 0 [] rfl hown1 a ss.length cap (ss.map intV) rfl (by simp) Hnews.out (intV_one ss) (by simp; unfold maxLen; omega) (by simp; omega) ?_)
  intro v1 W2 hown2 hgrow2 hlat2
  have K2 := Lib.hid (K1.out.grown hgrow2 (fun k hk e => by simp [Value.ownBlock] at e; omega))
  have hs2 : W1.heap.size ≤ W2.heap.size := hgrow2.size
  have N2 : SpareIAt ss w v1 (.int .i64 0) W2 := ⟨0, by omega, rfl, ⟨by simpa [marksI] using hown2, fun k hk => by
    rcases hlat2 with e | ⟨k', e, he⟩
    · rw [e] at hk; simp [Value.ownBlock] at hk; omega
    · rw [e] at hk; injection hk with hk; omega⟩, K2.out.mono (fun _ _ h => h.elim)⟩
  clear hown1 hown2 hgrow2 hlat2 K1 K2 Hnews hs2 hh
  go_wp2
  go_loopw [4, 5] (fun v i wr => SpareIAt ss w v i wr) (fun _ i _ => 80 - (intOf i).toNat)
  case atStart => exact N2
  case round =>
    obtain ⟨k, hk, rfl, hn, hS⟩ := hrel
    clear N2
    have Hn := Lib.hid hn
    have HSr := Lib.hid hS
    by_cases hlt : k < 80
    · clear hn hS
      go_wp2_with fail
      refine (mark_spec 7 _ wr).mono ?_
      rintro e W3 ⟨rfl, rfl⟩
      have k3 : Keeps (fun _ => False) wr wr := Keeps.refl _ _
      have K3 := Lib.hid k3
      have hn3 := Hn.out.kept k3 (fun _ _ h => h)
      have own3 := hn3.own
      rw [show (ss ++ marksI k).length = ss.length + k by rw [List.length_append, marksI_length]] at own3
      clear k3 hn3
      go_wp2_with (at_builtin; refine wpList_append_cells0 _ rfl _ _ 25 rfl 3 i0 (.int .i64 0) 1 8 Tryz.underlying25 hi hz0 hz1 hz2 rfl (by decide) _ (ss.length + k) _ rfl (own3.alloc _) ⟨wr.heap.size, 0, none⟩ 1 1 [intV (markI 7 (k : Nat))] rfl rfl ?c1 (intV_one [_]) (by unfold maxLen; omega) (by omega) ?_)
      case c1 => exact World.news_of_block (cs := #[intV (markI 7 (k : Nat))]) (heap_alloc_new wr _)
      intro v' W4 hown4 hgrow4 hlat4 _
      have fin := Lib.hid (SpareIAt.more hlt Hn.out HSr.out K3.out ((Keeps.refl _ _).alloc _) hgrow4 hlat4 (by rw [show (ss ++ marksI k).length = ss.length + k by rw [List.length_append, marksI_length], List.map_append, List.append_assoc]; exact hown4))
      clear own3 hown4 hgrow4 hlat4
      go_wp2
      go_roundw
      case rel => exact fin.out
      case measure => simp [intOf]; omega
    · obtain rfl : k = 80 := by omega
      obtain ⟨gf, capf, rfl, hcap⟩ := hn.form (by simp [marksI_length])
      have hbl : w.heap.size ≤ gf := hn.new gf rfl
      have hle : (ss ++ marksI 80).length = ss.length + 80 := by rw [List.length_append, marksI_length]
      rw [hle] at hcap
      rw [hle] at Hn ⊢
      have h1 : (ss.length : Int) ≤ (capf : Int) := by omega
      have fin := Lib.hid (show ∃ gf' cap', Ending.returned (.tuple #[.slice (some ⟨gf, 0, none⟩) ss.length capf, .slice (some ⟨gf, 0, none⟩) (ss.length + 80) capf]) = .returned (.tuple #[.slice (some ⟨gf', 0, none⟩) ss.length cap', .slice (some ⟨gf', 0, none⟩) (ss.length + 80) cap']) ∧
        NewInts w.heap.size wr (.slice (some ⟨gf', 0, none⟩) (ss.length + 80) cap') (ss ++ marksI 80) ∧ Keeps (fun _ => False) w wr from ⟨gf, capf, rfl, Hn.out, Since.qt HSr.out⟩)
      clear hn hS hlt
      go_wp2
      go_ret2
      exact fin.out
end Go.Proofs.YtjjlpjfojgkpkaaGreatDoor
