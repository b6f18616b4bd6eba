/-
  The contract of remitlaw12.lives: the fixed facts.
-/
import Derived.Test.YtffjleceogablaaDoorBEncC
import Derived.Test.YtffjleceogablaaDoorBNormC
namespace Go.Proofs.YtffjleceogablaaDoor
open Go.RowKit Go.WideShapes
set_option maxRecDepth 100000

def lvA : List Bt.O := [⟨false, [97], [50]⟩, ⟨true, [98], []⟩]
def lvB : List Bt.O := [⟨false, [98], [49]⟩, ⟨true, [98], [120]⟩, ⟨false, [97], []⟩]
theorem lvB_normal : Bt.normal lvB = [⟨false, [97], []⟩, ⟨true, [98], []⟩] := by decide
theorem uvarint_small {x : Nat} (h : x < 128) : Lib.uvarint x = [x.toUInt8] := by
  rw [Lib.uvarint, dif_pos h]
theorem lvA_enc : Bt.encE lvA = 0 := Bt.encE_ok (fun k a b ha hb => by
  match k with
  | 0 =>
    obtain rfl : (⟨false, [97], [50]⟩ : Bt.O) = a := Option.some.inj ha
    obtain rfl : (⟨true, [98], []⟩ : Bt.O) = b := Option.some.inj hb
    decide
  | 1 => cases hb
  | k + 2 => cases ha) (fun o ho hd => by
  simp only [lvA, List.mem_cons, List.not_mem_nil, or_false] at ho
  rcases ho with rfl | rfl
  · cases hd
  · rfl)
theorem lvA_bytes : Bt.encB lvA = [2, 0, 1, 97, 1, 50, 1, 1, 98] := by
  unfold Bt.encB Bt.opsB lvA
  simp only [List.flatMap_cons, List.flatMap_nil, List.append_nil, Bt.opB, textB, List.length_cons, List.length_nil]
  rw [uvarint_small (by decide), uvarint_small (by decide)]
  rfl
/-- A list of ops that lies in a new block of its own. -/
theorem ops_lit (w : World) (l : List Bt.O) (h : l.length ≤ 17592186044416) (cs : Array Value) (hc : cs = (opsC l).toArray) : OpsIn (w.alloc (.cells cs 29)) (.slice (some ⟨w.heap.size, 0, none⟩) l.length l.length) w.heap.size 0 l := by
  subst hc
  refine ⟨⟨_, _, rfl, fun _ => rfl⟩, h, fun k o hk j u hj => ?_⟩
  rw [cell_of_row _ _ _ _ _ _ (heap_alloc_new w _), Nat.zero_add]
  have := cellsG_get opC_len hk hj
  simpa [opsC] using this
set_option maxHeartbeats 3200000 in
theorem lives12_any {ad : Nat → Addr} (w : World) (hE : E2 ad w) : Calls Tryd.prog 10 #[] w fun e w' => e = .returned (.bool true) ∧ Qt w w' := by
  obtain ⟨w1, hw1⟩ : ∃ W, w.alloc (.cells #[.bool false, .string ⟨#[97]⟩, .string ⟨#[50]⟩, .bool true, .string ⟨#[98]⟩, .string ⟨#[]⟩] 29) = W := ⟨_, rfl⟩
  have q1 : Qt w w1 := hw1 ▸ (Qt.refl w).alloc _
  have r1 := hw1 ▸ ops_lit w lvA (by decide) #[.bool false, .string ⟨#[97]⟩, .string ⟨#[50]⟩, .bool true, .string ⟨#[98]⟩, .string ⟨#[]⟩] rfl
  have EN := encode12_any w1 r1 (hE.qt q1) (fun a n c e => by injection e with e1 e2 e3; subst e2 e3; exact Nat.le_refl _) (by rw [lvA_bytes]; decide)
  rw [lvA_enc, errV_zero, Bt.encT_ok lvA_enc, lvA_bytes] at EN
  have Q1 := Lib.hid q1
  clear r1 hE
  go_enter Tryd.func10, Tryd.ntmps10
  go_wp2_with fail
  refine EN.mono ?_
  rintro e w2 ⟨rfl, q2⟩
  have NO := normal12_any (v := .slice (some ⟨w2.heap.size, 0, none⟩) 3 3) (w2.alloc (.cells #[.bool false, .string ⟨#[98]⟩, .string ⟨#[49]⟩, .bool true, .string ⟨#[98]⟩, .string ⟨#[120]⟩, .bool false, .string ⟨#[97]⟩, .string ⟨#[]⟩] 29)) (ops_lit w2 lvB (by decide) _ rfl) (by decide) (fun o ho => by
    simp only [lvB, List.mem_cons, List.not_mem_nil, or_false] at ho
    rcases ho with rfl | rfl | rfl <;> decide)
  rw [lvB_normal] at NO
  have Q2 := Lib.hid (Qt.trans Q1.out q2)
  rw [show strV [2, 0, 1, 97, 1, 50, 1, 1, 98] = .string ⟨#[2, 0, 1, 97, 1, 50, 1, 1, 98]⟩ from rfl]
  clear hw1 EN q1 q2
  go_wp2_with fail
  refine NO.mono ?_
  rintro e w3 ⟨v, rfl, N⟩
  obtain ⟨a, c, rfl⟩ := ownG_shape N.own
  obtain ⟨g, rfl⟩ := ownG_some N.own (by decide)
  have x1 : w3.cell? ⟨g, 1, none⟩ = some (.string ⟨#[97]⟩) := ownG_cell1 opC_len N.own (i := 0) rfl (j := 1) rfl
  have x3 : w3.cell? ⟨g, 3, none⟩ = some (.bool true) := ownG_cell1 opC_len N.own (i := 1) rfl (j := 0) rfl
  have x4 : w3.cell? ⟨g, 4, none⟩ = some (.string ⟨#[98]⟩) := ownG_cell1 opC_len N.own (i := 1) rfl (j := 1) rfl
  have x5 : w3.cell? ⟨g, 5, none⟩ = some (.string ⟨#[]⟩) := ownG_cell1 opC_len N.own (i := 1) rfl (j := 2) rfl
  have FIN := Lib.hid (Qt.trans (Qt.trans Q2.out ((Qt.refl w2).alloc _)) N.qt)
  have EQ := fun W => run_eql_op ⟨true, [98], []⟩ ⟨true, [98], []⟩ W
  rw [show opV (⟨true, [98], []⟩ : Bt.O) = .agg #[.bool true, .string ⟨#[98]⟩, .string ⟨#[]⟩] from rfl, decide_eq_true rfl] at EQ
  clear N NO
  go_wp2
  go_ret
  exact ⟨rfl, FIN.out⟩
end Go.Proofs.YtffjleceogablaaDoor
