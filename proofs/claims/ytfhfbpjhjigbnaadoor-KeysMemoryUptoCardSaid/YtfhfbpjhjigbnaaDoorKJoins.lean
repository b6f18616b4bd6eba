/-
  The contracts of lives, and of remitlaw02.KeysJoins: it answers true.
-/
import Derived.Test.YtfhfbpjhjigbnaaDoorKRefJoin
import Derived.Test.YtfhfbpjhjigbnaaDoorKCmp2
namespace Go.Proofs.YtfhfbpjhjigbnaaDoor
open Go.RowKit Go.WideShapes
set_option maxRecDepth 100000

theorem lives_key : K.joinB ([(⟨false, 0, ⟨#[97]⟩⟩ : PD), ⟨true, 1, ⟨#[]⟩⟩].map PD.part) = [2, 97, 0, 1, 1, 128, 0, 0, 0, 0, 0, 0, 1] := by decide

theorem Parts.nil (W : World) : Parts W (.slice none 0 0) 0 0 [] := ⟨⟨none, 0, rfl, fun h => absurd rfl h⟩, by simp, fun k p hk => by simp at hk⟩

set_option maxHeartbeats 800000 in
theorem lives_any (m : Int) (w : World) (hm : MaxL m w) : Calls Tryd.prog 9 #[] w fun e w' => e = .returned (.bool true) ∧ Qt w w' := by
  have HM := Lib.hid (fun (W : World) (k : Qt w W) => show MaxL m W from k.cellv hm)
  clear hm
  go_enter Tryd.func9, Tryd.ntmps9
  go_wp2_with fail
  refine (text_any ⟨#[97]⟩ _).mono ?_
  rintro e w1 ⟨rfl, k1⟩
  have K1 := Lib.hid k1; clear k1
  go_wp2_with fail
  refine (number_any 1 _).mono ?_
  rintro e w2 ⟨rfl, k2⟩
  have K2 := Lib.hid (Qt.trans K1.out k2); clear k2 K1
  have hp : Parts (w2.alloc (.cells #[.bool false, .int .i64 0, .string ⟨#[97]⟩, .bool true, .int .i64 1, .string ⟨#[]⟩] 25)) (.slice (some ⟨w2.heap.size, 0, none⟩) 2 2) w2.heap.size 0 [(⟨false, 0, ⟨#[97]⟩⟩ : PD), ⟨true, 1, ⟨#[]⟩⟩] := by
    refine ⟨⟨_, _, rfl, fun _ => rfl⟩, by simp, fun k p hk => ?_⟩
    have hc : ∀ j, (w2.alloc (.cells #[.bool false, .int .i64 0, .string ⟨#[97]⟩, .bool true, .int .i64 1, .string ⟨#[]⟩] 25)).cell? ⟨w2.heap.size, j, none⟩ = _ := fun j => cell_of_row _ _ _ _ _ _ (heap_alloc_new w2 _)
    match k, hk with
    | 0, hk => simp at hk; subst hk; rw [hc, hc, hc]; exact ⟨rfl, rfl, rfl⟩
    | 1, hk => simp at hk; subst hk; rw [hc, hc, hc]; exact ⟨rfl, rfl, rfl⟩
    | k + 2, hk => simp at hk
  have hok : ∀ p ∈ [(⟨false, 0, ⟨#[97]⟩⟩ : PD), ⟨true, 1, ⟨#[]⟩⟩], p.Ok := by
    intro p hp
    simp only [List.mem_cons, List.not_mem_nil, or_false] at hp
    rcases hp with rfl | rfl
    · exact ⟨by decide, by decide, by decide⟩
    · exact ⟨by decide, by decide, by decide⟩
  have Hp := Lib.hid hp
  have Hok := Lib.hid hok
  have KA := Lib.hid (fun o => (Keeps.refl (fun _ => False) w2).alloc o)
  clear hp hok
  go_wp2_with fail
  have q := join_any m _ _ _ _ _ (HM.out _ (Qt.trans K2.out (KA.out _))) Hp.out Hok.out (by rw [lives_key]; decide)
  rw [lives_key] at q
  refine q.mono ?_
  rintro e w3 ⟨rfl, k3⟩
  have K3 := Lib.hid (Qt.trans (Qt.trans K2.out (KA.out _)) k3)
  clear k3
  go_wp2_with fail
  have q := join_any m _ _ _ _ w3 (HM.out _ K3.out) (Parts.nil w3) (fun p hp => by cases hp) (by decide)
  refine q.mono ?_
  rintro e w4 ⟨rfl, k4⟩
  have K4 := Lib.hid (Qt.trans K3.out k4)
  clear k4
  go_wp2
  go_ret
  exact ⟨rfl, K4.out⟩

set_option maxHeartbeats 3200000 in
theorem joins_any (m : Int) (v v2 : Value) (g off g2 off2 : Nat) (ps qs : List PD) (w : World) (hm : MaxL m w) (hs : Parts w v g off ps) (ht : Parts w v2 g2 off2 qs) (hok : ∀ p ∈ ps, p.Ok) (hlen : (K.joinB (ps.map PD.part)).length ≤ 1099511627776) :
    Calls Tryd.prog 3 #[v, v2] w fun e w' => e = .returned (.bool true) ∧ Qt w w' := by
  obtain ⟨a, cap, rfl, ha⟩ := hs.val
  obtain ⟨a2, cap2, rfl, ha2⟩ := ht.val
  have hle := hs.le
  have HM := Lib.hid (fun (W : World) (k : Qt w W) => show MaxL m W from k.cellv hm)
  have HS := Lib.hid hs
  have HT := Lib.hid (fun (W : World) (k : Qt w W) => ht.qt k)
  have Hok := Lib.hid hok
  have Hlen := Lib.hid hlen
  clear hm hs ht hok ha ha2 hlen
  go_enter Tryd.func3, Tryd.ntmps3
  go_wp2_with fail
  refine (lives_any m w (HM.out _ (Qt.refl _))).mono ?_
  rintro e w1 ⟨rfl, k1⟩
  have K1 := Lib.hid k1
  clear k1
  go_wp2
  go_loopw [13] (fun i wr => ∃ k : Nat, k ≤ ps.length ∧ i = .int .i64 k ∧ Qt w wr) (fun i _ => ps.length - (intOf i).toNat)
  case atStart => exact ⟨0, Nat.zero_le _, rfl, K1.out⟩
  case round =>
    obtain ⟨k, hk, rfl, hq⟩ := hrel
    by_cases hlt : k < ps.length
    · obtain ⟨p, cap', hpk, hv⟩ := HS.out.elem hlt
      injection hv with hv q1 q2
      clear q1 q2
      subst hv
      obtain ⟨c0, c1, c2⟩ := (HS.out.qt hq).cells k p hpk
      have HQ := Lib.hid hq
      have hb := heap_alloc_new wr (.cells #[.bool p.b, .int .i64 p.n, .string p.s] 25)
      have HC := Lib.hid (fun (W' : World) (kq : Qt (wr.alloc (.cells #[.bool p.b, .int .i64 p.n, .string p.s] 25)).drew W') => show W'.cell? ⟨wr.heap.size, 1, none⟩ = some (.int .i64 p.n) ∧ W'.cell? ⟨wr.heap.size, 2, none⟩ = some (.string p.s) from
        ⟨kq.cellv (by show (wr.alloc _).cell? _ = _; rw [cell_of_row _ _ _ _ _ _ hb]; rfl), kq.cellv (by show (wr.alloc _).cell? _ = _; rw [cell_of_row _ _ _ _ _ _ hb]; rfl)⟩)
      have n1 := fun W => run_neq_part ⟨false, 0, p.s⟩ ⟨false, 0, p.s⟩ W
      have n2 := fun W => run_neq_part ⟨true, p.n, ⟨#[]⟩⟩ ⟨true, p.n, ⟨#[]⟩⟩ W
      simp only [PD.val, decide_true, Bool.not_true] at n1 n2
      clear hq hpk hb
      go_wp2
      go_region_held3 (fun W' => W'.cell? ⟨wr.heap.size, 1, none⟩ = some (.int .i64 p.n) ∧ W'.cell? ⟨wr.heap.size, 2, none⟩ = some (.string p.s))
        (first | go_keep | exact HC.out _ (Qt.trans kT kN) | exact HC.out _ kT)
        (first | (go_at_call 10; (with_reducible refine (text_any _ _).mono ?_); rintro e wT ⟨rfl, kT⟩) | (go_at_call 11; (with_reducible refine (number_any _ _).mono ?_); rintro e wN ⟨rfl, kN⟩))
      have fin := Lib.hid (Qt.trans (((HQ.out.alloc (.cells #[.bool p.b, .int .i64 p.n, .string p.s] 25))).drew) (Qt.trans kT kN))
      clear kT kN n1 n2 c0 c1 c2
      go_wp2
      go_roundw
      case rel => exact ⟨k + 1, by omega, by simp, fin.out⟩
      case measure => simp [intOf]; omega
    · obtain rfl : k = ps.length := by omega
      have HQ := Lib.hid hq
      clear hq hlt
      go_wp2_with fail
      refine (join_any m _ g off ps wr (HM.out _ HQ.out) (HS.out.qt HQ.out) Hok.out Hlen.out).mono ?_
      rintro e w2 ⟨rfl, k2⟩
      have K2 := Lib.hid (Qt.trans HQ.out k2)
      clear k2
      go_wp2_with fail
      refine (refJoin_any _ g off ps w2 (HS.out.qt K2.out) Hok.out Hlen.out).mono ?_
      rintro e w3 ⟨rfl, k3⟩
      have K3 := Lib.hid (Qt.trans K2.out k3)
      clear k3
      generalize (⟨(K.joinB (ps.map PD.part)).toArray⟩ : ByteArray) = X
      go_wp2_with fail
      refine (compare_any _ _ g off g2 off2 ps qs w3 (HS.out.qt K3.out) (HT.out _ K3.out)).mono ?_
      rintro e w4 ⟨rfl, k4⟩
      have K4 := Lib.hid (Qt.trans K3.out k4)
      clear k4
      go_wp2_with fail
      refine (refCompare_any _ _ g off g2 off2 ps qs w4 (HS.out.qt K4.out) (HT.out _ K4.out)).mono ?_
      rintro e w5 ⟨rfl, k5⟩
      have K5 := Lib.hid (Qt.trans K4.out k5)
      clear k5
      go_wp2
      go_ret
      exact ⟨by simp, K5.out⟩
end Go.Proofs.YtfhfbpjhjigbnaaDoor
