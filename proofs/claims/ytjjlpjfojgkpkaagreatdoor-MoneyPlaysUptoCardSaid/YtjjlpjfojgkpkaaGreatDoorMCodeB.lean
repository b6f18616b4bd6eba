/-
  What Code and Text answer, plain.
-/
import Derived.Test.YtjjlpjfojgkpkaaGreatDoorMSpec
import Derived.Lib.Strings
namespace Go.Proofs.YtjjlpjfojgkpkaaGreatDoor
set_option maxRecDepth 100000

def isCap (c : UInt8) : Bool := decide (65 ≤ c.toNat ∧ c.toNat ≤ 90)
/-- Is it a currency's code? -/
def codeB (s : List UInt8) : Bool := s.length == 3 && s.all isCap
theorem code_long {s : ByteArray} (h : ¬ s.size = 3) : codeB s.data.toList = false := by
  have e : s.data.toList.length = s.size := rfl
  unfold codeB
  rw [e, beq_eq_false_iff_ne.2 h]; rfl
theorem all_bad {s : ByteArray} {k : Nat} (h : k < s.size) (hc : isCap s[k] = false) : codeB s.data.toList = false := by
  unfold codeB
  have : s.data.toList.all isCap = false := by
    rw [List.all_eq_false]
    exact ⟨s.data.toList[k], List.getElem_mem _, by show ¬ isCap s[k] = true; rw [hc]; decide⟩
  rw [this, Bool.and_false]
theorem all_good {s : ByteArray} (h : s.size = 3) (hc : ∀ k, (hk : k < s.size) → isCap s[k] = true) : codeB s.data.toList = true := by
  have e : s.data.toList.length = s.size := rfl
  unfold codeB
  rw [e, h]
  show (true && _) = true
  rw [Bool.true_and, List.all_eq_true]
  intro c hm
  obtain ⟨k, hk, rfl⟩ := List.getElem_of_mem hm
  exact hc k hk

/-- What Text answers. -/
def textB (a n : Int) : ByteArray := if n < 0 ∨ 6 < n then ⟨#[]⟩ else ⟨(M.textI n.toNat a).toArray⟩
theorem str_list {s : ByteArray} {l : List UInt8} (h : s.data.toList = l) : s = ⟨l.toArray⟩ := by
  apply ByteArray.ext
  apply Array.toList_inj.1
  rw [h]
end Go.Proofs.YtjjlpjfojgkpkaaGreatDoor
