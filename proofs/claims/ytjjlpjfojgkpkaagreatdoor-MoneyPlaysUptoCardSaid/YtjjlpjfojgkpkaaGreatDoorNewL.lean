/-
  Rows of numbers that the call has made: owned, of whatever element type; kept, stored into, read.
-/
import Derived.Test.YtjjlpjfojgkpkaaGreatDoorMSplitsS
import Derived.Test.YtjjlpjfojgkpkaaGreatDoorSpareInts
namespace Go.Proofs.YtjjlpjfojgkpkaaGreatDoor
open Go.RowKit Go.WideShapes
set_option maxRecDepth 100000

/-- A row of numbers that the call has made (nil, or a block from B on). -/
structure NewL (T : TypeId) (B : Nat) (w : World) (v : Value) (xs : List Int) : Prop where
  own : w.ownsRow 0 T 1 v xs.length (xs.map (Value.int .i64))
  new : ∀ g, v.ownBlock = some g → B ≤ g
theorem NewL.kept {T : TypeId} {B : Nat} {w w' : World} {v : Value} {xs : List Int} {S : Nat → Prop} (h : NewL T B w v xs) (k : Keeps S w w') (hn : ∀ g, v.ownBlock = some g → ¬ S g) : NewL T B w' v xs := ⟨ownsRow_kept h.own k hn, h.new⟩
theorem NewL.qt {T : TypeId} {B : Nat} {w w' : World} {v : Value} {xs : List Int} (h : NewL T B w v xs) (k : Qt w w') : NewL T B w' v xs := h.kept k (fun _ _ e => e)
theorem NewL.lt {T : TypeId} {B : Nat} {w : World} {v : Value} {xs : List Int} (h : NewL T B w v xs) {g : Nat} (hg : v.ownBlock = some g) : B ≤ g ∧ g < w.heap.size := ⟨h.new g hg, ownsRow_lt h.own hg⟩
theorem NewL.shape {T : TypeId} {B : Nat} {w : World} {v : Value} {xs : List Int} (h : NewL T B w v xs) : ∃ a cap, v = .slice a xs.length cap ∧ xs.length ≤ cap ∧ (xs ≠ [] → ∃ g, a = some ⟨g, 0, none⟩) := by
  rcases h.own.2 with ⟨rfl, h0⟩ | ⟨g, cap, cur, rfl, _, _, hn, _⟩
  · rw [h0]; exact ⟨none, 0, rfl, Nat.le_refl _, fun e => absurd (List.eq_nil_of_length_eq_zero h0) e⟩
  · exact ⟨some ⟨g, 0, none⟩, cap, rfl, hn, fun _ => ⟨g, rfl⟩⟩
theorem NewL.at {T : TypeId} {B : Nat} {w : World} {v : Value} {xs : List Int} (h : NewL T B w v xs) (hl : xs.length ≤ 17592186044416) : ∃ g, IntsAt .i64 w v g 0 xs := by
  rcases h.own.2 with ⟨rfl, h0⟩ | ⟨g, cap, cur, rfl, _, hg, hn, _⟩
  · obtain rfl := List.eq_nil_of_length_eq_zero h0
    exact ⟨0, ⟨none, 0, rfl, fun e => absurd rfl e⟩, by simp, fun a n c e => by injection e with _ e2 e3; omega, fun i x hx => by simp at hx⟩
  · refine ⟨g, ⟨some ⟨g, 0, none⟩, cap, rfl, fun _ => rfl⟩, hl, fun a n c e => by injection e with _ e2 e3; omega, fun i x hx => ?_⟩
    have := h.own.cells (g := g) rfl i (.int .i64 x) (by rw [List.getElem?_map, hx]; rfl)
    rw [add_plain] at this
    exact this
theorem NewL.atg {T : TypeId} {B : Nat} {w : World} {g n cap : Nat} {xs : List Int} (h : NewL T B w (.slice (some ⟨g, 0, none⟩) n cap) xs) (hl : xs.length ≤ 17592186044416) : IntsAt .i64 w (.slice (some ⟨g, 0, none⟩) n cap) g 0 xs := by
  rcases h.own.2 with ⟨e, h0⟩ | ⟨g', cap', cur, e, _, hg, hn, _⟩
  · cases e
  · injection e with e1 e2 e3
    injection e1 with e1
    injection e1 with e1
    subst e1 e2 e3
    refine ⟨⟨_, _, rfl, fun _ => rfl⟩, hl, fun a n c e => by injection e with _ e2 e3; omega, fun i x hx => ?_⟩
    have := h.own.cells (g := g) rfl i (.int .i64 x) (by rw [List.getElem?_map, hx]; rfl)
    rw [add_plain] at this
    exact this
theorem NewL.cell {T : TypeId} {B : Nat} {w : World} {g n cap : Nat} {xs : List Int} (h : NewL T B w (.slice (some ⟨g, 0, none⟩) n cap) xs) {i : Nat} {x : Int} (hx : xs[i]? = some x) : w.cell? ⟨g, i, none⟩ = some (.int .i64 x) := by
  have := h.own.cells (g := g) rfl i (.int .i64 x) (by rw [List.getElem?_map, hx]; rfl)
  rw [add_plain, Nat.zero_add] at this
  exact this
theorem NewL.frozen {T : TypeId} {B : Nat} {w : World} {g n cap : Nat} {xs : List Int} (h : NewL T B w (.slice (some ⟨g, 0, none⟩) n cap) xs) (i : Nat) : w.frozen? ⟨g, i, none⟩ = false := by
  rcases h.own.2 with ⟨e, h0⟩ | ⟨g', cap', cur, e, _, hg, hn, _⟩
  · cases e
  · injection e with e1 e2 e3
    injection e1 with e1
    injection e1 with e1
    subst e1
    simp [World.frozen?, hg]
theorem NewL.len {T : TypeId} {B : Nat} {w : World} {a : Option Addr} {n cap : Nat} {xs : List Int} (h : NewL T B w (.slice a n cap) xs) : n = xs.length := by
  rcases h.own.2 with ⟨e, h0⟩ | ⟨g', cap', cur, e, _, hg, hn, _⟩
  · injection e with e1 e2 e3; omega
  · injection e with e1 e2 e3
theorem NewL.store {T : TypeId} {B : Nat} {w : World} {g n cap : Nat} {xs : List Int} (h : NewL T B w (.slice (some ⟨g, 0, none⟩) n cap) xs) {i : Nat} (hi : i < n) (x : Int) : NewL T B (w.setCell ⟨g, i, none⟩ (.int .i64 x)) (.slice (some ⟨g, 0, none⟩) n cap) (xs.set i x) := by
  have hn := h.len
  subst hn
  refine ⟨?_, h.new⟩
  have := ownsRow_store h.own hi (.int .i64 x)
  rw [List.length_set, List.map_set]
  exact this
theorem NewL.of_ints {B : Nat} {w : World} {v : Value} {xs : List Int} (h : NewInts B w v xs) : NewL 3 B w v xs := ⟨h.own, h.new⟩
/-- What Split answers, as a list of the call's own. -/
def ansS (a : Int) (ws : List Int) : List Int := if M.splitE a ws = 0 then M.shares a.toNat (M.total ws ws.length) ws else []
theorem ansS_len (a : Int) (ws : List Int) : (ansS a ws).length ≤ ws.length := by
  unfold ansS
  split
  · rw [M.shares_length]; exact Nat.le_refl _
  · exact Nat.zero_le _
theorem NewL.take {T : TypeId} {B : Nat} {w : World} {g n cap : Nat} {xs ys : List Int} (h : NewL T B w (.slice (some ⟨g, 0, none⟩) n cap) (xs ++ ys)) (hl : (xs ++ ys).length ≤ 17592186044416) : IntsAt .i64 w (.slice (some ⟨g, 0, none⟩) xs.length cap) g 0 xs := by
  have hn := h.len
  have := (h.atg hl).take (n := xs.length) (by rw [hn, List.length_append]; omega)
  rw [List.take_left] at this
  exact this
theorem NewL.cap {T : TypeId} {B : Nat} {w : World} {a : Option Addr} {n cap : Nat} {xs : List Int} (h : NewL T B w (.slice a n cap) xs) : n ≤ cap := by
  rcases h.own.2 with ⟨e, h0⟩ | ⟨g', cap', cur, e, _, hg, hn, _⟩
  · injection e with e1 e2 e3; omega
  · injection e with e1 e2 e3; omega
theorem IntsAt.ptr {k : IntKind} {w : World} {a : Option Addr} {n c g off : Nat} {xs : List Int} (h : IntsAt k w (.slice a n c) g off xs) (hne : xs ≠ []) : a = some ⟨g, off, none⟩ := by
  obtain ⟨a', c', e, ha⟩ := h.val
  injection e with e1 e2 e3
  rw [e1]; exact ha hne
theorem IntsAt.newsI {w : World} {a : Option Addr} {n c g off : Nat} {xs : List Int} (h : IntsAt .i64 w (.slice a n c) g off xs) : xs.map intV ≠ [] → ∃ ad, a = some ad ∧ ∀ (j : Nat) u, (xs.map intV)[j]? = some u → w.cell? (ad.add j) = some u := h.news h.ptr
theorem own_empty (T : TypeId) (w : World) : (w.alloc (.cells #[] T)).ownsRow 0 T 1 (.slice (some ⟨w.heap.size, 0, none⟩) 0 0) 0 [] := World.ownsRow_made w #[] 0 (Nat.zero_le _) (Nat.zero_le _) rfl
theorem addr_zero0 (p : Option Addr) : p.map (fun x : Addr => x.add 0) = p := by
  cases p with
  | none => rfl
  | some a => rfl
theorem slice_low0 (pv : Option Addr) (n cap k : Nat) (hk : k ≤ cap) (W : World) : (Instr.slice 24 (.slice pv n cap) none (some (.int .i64 (k : Int))) none).run Tryz.prog W = .ok (.slice pv k cap) W := by
  rw [run_slice_h W 24 pv n cap Tryz.underlying24 .i64 (k : Int) (by omega) (by omega)]
  rw [show Tryz.prog.elem 24 = 2 by kernel_rfl, Tryz.sizeOf2]
  simp only [Result.andThen, sliced, Int.toNat_natCast, Nat.zero_mul, Nat.sub_zero]
  by_cases hc : cap = 0
  · rw [if_pos hc]
  · rw [if_neg hc, addr_zero0]
end Go.Proofs.YtjjlpjfojgkpkaaGreatDoor
