/-
  Layer 5, plain: the system's accounts.
-/
import Derived.Test.YtalopcbjcgbdfaaDoorITok
import Derived.Test.YtalopcbjcgbdfaaDoorMCodeB
namespace Go.Proofs.YtalopcbjcgbdfaaDoor.I

def sysV (k : Int) (c : List UInt8) : List UInt8 := if sysHead k ≠ [] ∧ codeB c = true then sysHead k ++ c else []
theorem sysHead_cases (k : Int) : (sysHead k = [] ∧ k ≠ 2 ∧ k ≠ 3 ∧ k ≠ 4 ∧ k ≠ 5) ∨ (k = 2 ∧ sysHead k = [111, 117, 116, 115, 105, 100, 101, 46]) ∨ (k = 3 ∧ sysHead k = [115, 117, 115, 112, 101, 110, 115, 101, 46]) ∨ (k = 4 ∧ sysHead k = [99, 108, 101, 97, 114, 105, 110, 103, 46]) ∨ (k = 5 ∧ sysHead k = [102, 101, 101, 115, 46]) := by
  unfold sysHead
  by_cases h2 : k = 2
  · rw [if_pos h2]; exact .inr (.inl ⟨h2, rfl⟩)
  · by_cases h3 : k = 3
    · rw [if_neg h2, if_pos h3]; exact .inr (.inr (.inl ⟨h3, rfl⟩))
    · by_cases h4 : k = 4
      · rw [if_neg h2, if_neg h3, if_pos h4]; exact .inr (.inr (.inr (.inl ⟨h4, rfl⟩)))
      · by_cases h5 : k = 5
        · rw [if_neg h2, if_neg h3, if_neg h4, if_pos h5]; exact .inr (.inr (.inr (.inr ⟨h5, rfl⟩)))
        · rw [if_neg h2, if_neg h3, if_neg h4, if_neg h5]; exact .inl ⟨rfl, h2, h3, h4, h5⟩
theorem sys_some {k : Int} {c : List UInt8} (h : sysV k c ≠ []) : sysHead k ≠ [] ∧ sysV k c = sysHead k ++ c := by
  unfold sysV at h ⊢
  by_cases q : sysHead k ≠ [] ∧ codeB c = true
  · rw [if_pos q]; exact ⟨q.1, rfl⟩
  · rw [if_neg q] at h; exact absurd rfl h
theorem sys_eq {k j : Int} {a b : List UInt8} (ha : sysV k a ≠ []) (hb : sysV j b ≠ []) : sysV k a = sysV j b ↔ k = j ∧ a = b := by
  obtain ⟨h1, e1⟩ := sys_some ha
  obtain ⟨h2, e2⟩ := sys_some hb
  constructor
  · intro h
    rw [e1, e2] at h
    rcases sysHead_cases k with ⟨q, _⟩ | ⟨rfl, q⟩ | ⟨rfl, q⟩ | ⟨rfl, q⟩ | ⟨rfl, q⟩
    · exact absurd q h1
    all_goals
      rcases sysHead_cases j with ⟨p, _⟩ | ⟨rfl, p⟩ | ⟨rfl, p⟩ | ⟨rfl, p⟩ | ⟨rfl, p⟩
      · exact absurd p h2
      all_goals
        first | (rw [q, p] at h; exfalso; simp at h; done) | (rw [q] at h; exact ⟨rfl, List.append_cancel_left h⟩)
  · rintro ⟨rfl, rfl⟩; rfl
theorem sys_chk {k : Int} {a : List UInt8} (h : sysV k a ≠ []) : chk (sysV k a) = 7 := by
  obtain ⟨h1, e1⟩ := sys_some h
  rw [e1]
  unfold chk
  rw [if_neg]
  intro hf
  have hc := (form_iff.1 hf).2.1
  have hc := (country_iff.1 hc).2
  rcases sysHead_cases k with ⟨q, _⟩ | ⟨_, q⟩ | ⟨_, q⟩ | ⟨_, q⟩ | ⟨_, q⟩
  · exact absurd q h1
  all_goals
    rw [q] at hc
    revert hc
    show ¬ (List.all [_, _] cap = true)
    decide
end Go.Proofs.YtalopcbjcgbdfaaDoor.I
