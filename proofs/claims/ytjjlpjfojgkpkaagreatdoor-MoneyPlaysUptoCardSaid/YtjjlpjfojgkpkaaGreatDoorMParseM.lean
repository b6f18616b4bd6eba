/-
  The contract of money's Parse.
-/
import Derived.Test.YtjjlpjfojgkpkaaGreatDoorMIsM
import Derived.Test.YtjjlpjfojgkpkaaGreatDoorMTextM
import Derived.Test.YtjjlpjfojgkpkaaGreatDoorMPort
import Derived.Lib.SmallJoins
namespace Go.Proofs.YtjjlpjfojgkpkaaGreatDoor
open Go.RowKit
set_option maxRecDepth 100000

theorem qt_bytesWorld4 (w : World) (e : TypeId) (s : ByteArray) : Qt w (Lib.bytesWorld w e s) := Qt.of_below (Joins.below_bytesWorld w.heap.size w e s (Nat.le_refl _))
abbrev VarR (w : World) : Prop := ∃ tp p, w.var? Tryz.prog "strconv.ErrRange" = some #[.iface tp p]
theorem VarR.qt {w w' : World} (h : VarR w) (q : Qt w w') : VarR w' := by
  obtain ⟨tp, p, h⟩ := h
  refine ⟨tp, p, ?_⟩
  have hg : Tryz.prog.globalNamed "strconv.ErrRange" = some 41 := by kernel_rfl
  unfold World.var? at h ⊢
  rw [hg] at h ⊢
  simp only [Option.bind_some] at h ⊢
  cases hb : w.heap[41]? with
  | none => rw [hb] at h; cases h
  | some o => rw [q.block _ (lt_of_block hb) (fun e => e), hb]; rw [hb] at h; exact h
theorem strike_len (l : List UInt8) : (Lib.replace l [46] [] 1).length ≤ l.length := by
  rcases M.point_or l with h | ⟨a, b, h, ha⟩
  · rw [M.strike_none h]; exact Nat.le_refl _
  · rw [h, M.strike_at ha]; simp
def parseM (ad : Nat → Addr) (s : List UInt8) (n : Int) : Value := .tuple #[.int .i64 (M.parseR s n).1, errV ad (M.parseR s n).2]
theorem may_yes (d : Nat) (w : World) (h : d ≤ 6) : Calls Tryz.prog 27 #[.int .i64 d] w fun e w' => e = .returned (.bool true) ∧ w = w' := by
  have h1 : decide (d ≤ 6) = true := decide_eq_true h
  have h2 : decide ((d : Int) ≤ 6) = true := decide_eq_true (by omega)
  clear h
  go_enter Tryz.func27, Tryz.ntmps27
  go_wp2
  go_ret
  exact ⟨rfl, rfl⟩
theorem may_no (n : Int) (w : World) (h : n < 0 ∨ 6 < n) (n0 : -9223372036854775808 ≤ n) (n1 : n < 9223372036854775808) : Calls Tryz.prog 27 #[.int .i64 n] w fun e w' => e = .returned (.bool false) ∧ w = w' := by
  rcases h with h | h
  · have h1 : decide (0 ≤ n) = false := decide_eq_false (by omega)
    clear h n0 n1
    go_enter Tryz.func27, Tryz.ntmps27
    go_wp2
    go_ret
    exact ⟨rfl, rfl⟩
  · have h1 : decide (0 ≤ n) = true := decide_eq_true (by omega)
    have h2 : decide (n ≤ 6) = false := decide_eq_false (by omega)
    clear h n0 n1
    go_enter Tryz.func27, Tryz.ntmps27
    go_wp2
    go_ret
    exact ⟨rfl, rfl⟩
set_option maxHeartbeats 800000 in
theorem parse_any (ad : Nat → Addr) (s : ByteArray) (n : Int) (m : Int) (w : World) (hE : Errs ad w) (hm : MaxL4 m w) (hR : VarR w) (hs : s.size ≤ 4194304) (n0 : -9223372036854775808 ≤ n) (n1 : n < 9223372036854775808) :
    Calls Tryz.prog 8 #[.string s, .int .i64 n] w fun e w' => e = .returned (parseM ad s.data.toList n) ∧ Qt w w' := by
  have c6 : w.cell? ⟨0, 0, none⟩ = some (.iface 158 (.pointer (some (ad 6)))) := hE.cells 5 _ rfl
  have HC7 := Lib.hid (fun W (q : Qt w W) => show W.cell? ⟨1, 0, none⟩ = some (.iface 158 (.pointer (some (ad 7)))) from q.cellv (hE.cells 6 _ rfl))
  have HC10 := Lib.hid (fun W (q : Qt w W) => show W.cell? ⟨2, 0, none⟩ = some (.iface 158 (.pointer (some (ad 10)))) from q.cellv (hE.cells 9 _ rfl))
  have MN := Lib.hid (fun W (h : n < 0 ∨ 6 < n) => may_no n W h n0 n1)
  by_cases hn : n < 0 ∨ 6 < n
  · have HR := Lib.hid (show parseM ad s.data.toList n = .tuple #[.int .i64 0, .iface 158 (.pointer (some (ad 6)))] by unfold parseM; rw [M.parseR_range hn]; rfl)
    clear hE HC7 HC10 hm hR
    generalize parseM ad s.data.toList n = V at *
    have MN := Lib.hid (fun W => MN.out W hn)
    clear hn
    go_enter Tryz.func8, Tryz.ntmps8
    go_wp2_with fail
    refine (MN.out _).mono ?_
    rintro e w1 ⟨rfl, rfl⟩
    go_wp2_with fail
    go_quiet (fail)
    go_wp2
    go_ret2
    exact ⟨by rw [HR.out]; rfl, (Qt.refl _).drewN _⟩
  · obtain ⟨d, rfl⟩ := Int.eq_ofNat_of_zero_le (show 0 ≤ n by omega)
    have hd : d ≤ 6 := by omega
    have MY := Lib.hid (fun W => may_yes d W hd)
    have IS := Lib.hid (fun W (q : Qt w W) => isText_any s d m W hs (q.cellv hm))
    clear c6 hn n0 n1 MN
    cases hB : M.isB d s.data.toList with
    | false =>
      have HR := Lib.hid (show parseM ad s.data.toList d = .tuple #[.int .i64 0, .iface 158 (.pointer (some (ad 7)))] by unfold parseM; rw [M.parseR_form hd hB]; rfl)
      rw [hB] at IS
      generalize parseM ad s.data.toList d = V at *
      clear hB hm hR hE HC10
      go_enter Tryz.func8, Tryz.ntmps8
      go_wp2_with fail
      refine (MY.out _).mono ?_
      rintro e w1 ⟨rfl, rfl⟩
      go_wp2_with fail
      refine (IS.out _ (Qt.refl _)).mono ?_
      rintro e w2 ⟨rfl, k2⟩
      have c7 := HC7.out _ k2
      have K2 := Lib.hid k2; clear k2
      go_wp2_with fail
      go_quiet (fail)
      go_wp2
      go_ret2
      exact ⟨by rw [HR.out]; rfl, K2.out.drewN _⟩
    | true =>
      rw [hB] at IS
      have hpt : (⟨#[46]⟩ : ByteArray).data.toList = [46] := rfl
      have hno : (⟨#[]⟩ : ByteArray).data.toList = [] := rfl
      have RE := Lib.hid (fun W (q : Qt w W) => Tryz.strings_Replace s ⟨#[46]⟩ ⟨#[]⟩ 1 m W (by omega) (q.cellv hm) (by decide) (by rw [show (⟨#[]⟩ : ByteArray).size = 0 from rfl]; omega))
      rw [hpt, hno] at RE
      have hsl : (Lib.replace s.data.toList [46] [] 1).length ≤ 4194304 := by
        have h1 := strike_len s.data.toList
        have h2 : s.data.toList.length = s.size := by simp
        omega
      obtain ⟨tp, p, hvr⟩ := hR
      have VR := Lib.hid (fun W (q : Qt w W) => VarR.qt ⟨tp, p, hvr⟩ q)
      rcases M.parseR_read hd hB with ⟨v, h1, h2⟩ | ⟨h1, h2⟩
      · have HR := Lib.hid (show parseM ad s.data.toList d = .tuple #[.int .i64 v, .nilIface] by unfold parseM; rw [h2]; rfl)
        generalize Lib.replace s.data.toList [46] [] 1 = L at *
        have PI := Lib.hid (fun W => Tryz.strconv_ParseInt_10_at64_ok ⟨L.toArray⟩ (by show L.length ≤ _; omega) v h1 W)
        generalize parseM ad s.data.toList d = V at *
        clear h1 h2 hB hm hvr hE hpt hno hsl VR HC7 HC10
        go_enter Tryz.func8, Tryz.ntmps8
        go_wp2_with fail
        refine (MY.out _).mono ?_
        rintro e w1 ⟨rfl, rfl⟩
        go_wp2_with fail
        refine (IS.out _ (Qt.refl _)).mono ?_
        rintro e w2 ⟨rfl, k2⟩
        have K2 := Lib.hid k2; clear k2
        go_wp2_with fail
        refine (RE.out _ K2.out).mono ?_
        rintro e w3 ⟨rfl, k3⟩
        have K3 := Lib.hid (Qt.trans K2.out (Qt.of_below k3)); clear k3
        go_wp2_with fail
        refine (PI.out _).mono ?_
        rintro e w4 ⟨rfl, k4⟩
        have K4 := Lib.hid (show Qt w w4 from by
          rcases k4 with rfl | ⟨t, rfl⟩
          · exact K3.out
          · exact Qt.trans K3.out (qt_bytesWorld4 _ _ _))
        clear k4
        go_wp2_with fail
        go_ret2
        exact ⟨by rw [HR.out]; rfl, K4.out⟩
      · have HR := Lib.hid (show parseM ad s.data.toList d = .tuple #[.int .i64 0, .iface 158 (.pointer (some (ad 10)))] by unfold parseM; rw [h2]; rfl)
        generalize Lib.replace s.data.toList [46] [] 1 = L at *
        have PI := Lib.hid (fun W tp p (h : W.var? Tryz.prog "strconv.ErrRange" = some #[.iface tp p]) => Tryz.strconv_ParseInt_10_at64_range_var ⟨L.toArray⟩ (by show L.length ≤ _; omega) h1 tp p W h)
        generalize parseM ad s.data.toList d = V at *
        clear h1 h2 hB hm hvr hE hpt hno hsl HC7
        go_enter Tryz.func8, Tryz.ntmps8
        go_wp2_with fail
        refine (MY.out _).mono ?_
        rintro e w1 ⟨rfl, rfl⟩
        go_wp2_with fail
        refine (IS.out _ (Qt.refl _)).mono ?_
        rintro e w2 ⟨rfl, k2⟩
        have K2 := Lib.hid k2; clear k2
        go_wp2_with fail
        refine (RE.out _ K2.out).mono ?_
        rintro e w3 ⟨rfl, k3⟩
        have K3 := Lib.hid (Qt.trans K2.out (Qt.of_below k3)); clear k3
        obtain ⟨tp3, p3, hv3⟩ := VR.out _ K3.out
        go_wp2_with fail
        refine (PI.out _ _ _ hv3).mono ?_
        rintro e w4 ⟨N, rfl, _, _, k4⟩
        have K4 := Lib.hid (Qt.trans K3.out (Qt.of_below k4))
        have c10 := HC10.out _ K4.out
        clear k4 hv3
        go_wp2_with fail
        go_quiet (fail)
        go_wp2
        go_ret2
        exact ⟨by rw [HR.out]; rfl, K4.out.drewN _⟩
end Go.Proofs.YtjjlpjfojgkpkaaGreatDoor
