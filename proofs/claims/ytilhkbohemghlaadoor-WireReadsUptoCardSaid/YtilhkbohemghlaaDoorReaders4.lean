/-
  The contracts of package wire's Reader, on: texts, lists of texts.
-/
import Derived.Test.YtilhkbohemghlaaDoorReaders3
namespace Go.Proofs.YtilhkbohemghlaaDoor
open Go.RowKit
set_option maxRecDepth 100000

/-- THE READING OF A TEXT of at most 'most' bytes. -/
def textD (most : Int) (l : List UInt8) : Nat ⊕ (List UInt8 × Nat) :=
  match varintD l with
  | .inl e => .inl e
  | .inr (x, n) => if most < (x : Int) then .inl 3 else if l.length - n < x then .inl 1 else .inr ((l.drop n).take x, n + x)

def eachD (most : Int) : Nat → List UInt8 → Nat ⊕ (List (List UInt8) × Nat)
  | 0, _ => .inr ([], 0)
  | k + 1, l => match textD most l with
    | .inl e => .inl e
    | .inr (v, n) => match eachD most k (l.drop n) with
      | .inl e => .inl e
      | .inr (vs, m) => .inr (v :: vs, n + m)

def textsD (count most : Int) (l : List UInt8) : Nat ⊕ (List (List UInt8) × Nat) :=
  match varintD l with
  | .inl e => .inl e
  | .inr (x, n) => if count < (x : Int) then .inl 3 else match eachD most x (l.drop n) with
    | .inl e => .inl e
    | .inr (vs, m) => .inr (vs, n + m)

theorem textD_err {most : Int} {l : List UInt8} {e : Nat} (h : textD most l = .inl e) : 1 ≤ e ∧ e ≤ 3 := by
  unfold textD at h
  split at h
  · rename_i hd; injection h with h; have := vd_err _ _ _ _ hd; omega
  · split at h
    · injection h; omega
    · split at h
      · injection h; omega
      · cases h

theorem eachD_err {most : Int} : ∀ {k : Nat} {l : List UInt8} {e : Nat}, eachD most k l = .inl e → 1 ≤ e ∧ e ≤ 3
  | 0, l, e, h => by simp [eachD] at h
  | k + 1, l, e, h => by
    rw [eachD] at h
    split at h
    · rename_i hd; injection h with h; subst h; exact textD_err hd
    · split at h
      · rename_i hd; injection h with h; subst h; exact eachD_err hd
      · cases h

theorem textsD_err {count most : Int} {l : List UInt8} {e : Nat} (h : textsD count most l = .inl e) : 1 ≤ e ∧ e ≤ 3 := by
  unfold textsD at h
  split at h
  · rename_i hd; injection h with h; have := vd_err _ _ _ _ hd; omega
  · split at h
    · injection h; omega
    · split at h
      · rename_i hd; injection h with h; subst h; exact eachD_err hd
      · cases h

theorem textD_len {most : Int} {s : ByteArray} {p n : Nat} {v : List UInt8} (hp : p ≤ s.size) (h : textD most (rest s p) = .inr (v, n)) : p + n ≤ s.size ∧ 1 ≤ n ∧ v.length ≤ s.size := by
  unfold textD at h
  split at h
  · cases h
  · rename_i x m hd
    split at h
    · cases h
    · split at h
      · cases h
      · simp only [Sum.inr.injEq, Prod.mk.injEq] at h
        obtain ⟨rfl, rfl⟩ := h
        obtain ⟨_, h1, _⟩ := varintD_len hp hd
        obtain ⟨_, h2, _⟩ := varintD_inv hd
        have := Lib.uvarint_pos x
        rw [rest_length] at *
        refine ⟨by omega, by omega, ?_⟩
        rw [List.length_take, List.length_drop, rest_length]
        omega

set_option maxHeartbeats 800000 in
theorem rtext_err (ad : Nat → Addr) (b : Nat) (s : ByteArray) (p e : Nat) (most : Int) (w : World) (h : Rd b s p w) (hE : Errs ad w) (hO : OffErrs ad (fun k => k = b)) (hm1 : most ≤ 9223372036854775807) (hd : textD most (rest s p) = .inl e) :
    Calls Tryd.prog 58 #[.pointer (some ⟨b, 0, none⟩), .int .i64 most] w fun y w' => y = .returned (.tuple #[.string ⟨#[]⟩, .iface 131 (.pointer (some (ad e)))]) ∧ Moved b s p w w' := by
  have c1 := h.cell1
  have hle := h.le
  unfold textD at hd
  split at hd
  · rename_i e' hv
    injection hd with hd
    subst hd
    have hu := Lib.hid (rupto_err ad b s p e' most w h hE hv)
    clear h hE hO hv
    go_enter Tryd.func58, Tryd.ntmps58
    go_wp2_with fail
    refine hu.out.mono ?_
    rintro y w' ⟨rfl, hm⟩
    go_wp2
    go_ret2
    exact ⟨rfl, hm⟩
  · rename_i x n hv
    split at hd
    · rename_i hx
      injection hd with hd
      subst hd
      have hu := Lib.hid (rupto_limit ad b s p x n most w h hE hv hx hm1)
      clear h hE hO hv
      go_enter Tryd.func58, Tryd.ntmps58
      go_wp2_with fail
      refine hu.out.mono ?_
      rintro y w' ⟨rfl, hm⟩
      go_wp2
      go_ret2
      exact ⟨rfl, hm⟩
    · rename_i hx
      split at hd
      · rename_i hs
        injection hd with hd
        subst hd
        rw [rest_length] at hs
        have hu := Lib.hid (rupto_ok ad b s p x n most w h hE hv (by omega) hm1)
        obtain ⟨hx64, hpn, hn⟩ := varintD_len hle hv
        clear h hv
        go_enter Tryd.func58, Tryd.ntmps58
        go_wp2_with fail
        refine hu.out.mono ?_
        rintro y w1 ⟨rfl, hm⟩
        go_wp2_with fail
        refine (rtake_short ad b s (p + n) x _ hm.rd (hE.kept hm.keeps hO) (by omega)).mono ?_
        rintro y w2 ⟨rfl, hm2⟩
        have hm3 := hm.trans hm2
        have f1 := hm3.rd.frozen1
        have d1 := hm3.rd.cell1
        have fin := Lib.hid (hm3.back hle 0); clear hm hm2 hm3 hE hO
        go_wp2
        go_ret2
        exact ⟨rfl, fin.out⟩
      · cases hd

theorem string_of_list {t : ByteArray} {v : List UInt8} (h : t.data.toList = v) : t = ⟨v.toArray⟩ := by
  subst h; rfl

set_option maxHeartbeats 800000 in
theorem rtext_ok (ad : Nat → Addr) (b : Nat) (s : ByteArray) (p n : Nat) (v : List UInt8) (most : Int) (w : World) (h : Rd b s p w) (hE : Errs ad w) (hm1 : most ≤ 9223372036854775807) (hd : textD most (rest s p) = .inr (v, n)) :
    Calls Tryd.prog 58 #[.pointer (some ⟨b, 0, none⟩), .int .i64 most] w fun y w' => y = .returned (.tuple #[.string ⟨v.toArray⟩, .nilIface]) ∧ Moved b s (p + n) w w' := by
  have c1 := h.cell1
  have hle := h.le
  unfold textD at hd
  split at hd
  · cases hd
  · rename_i x m hv
    split at hd
    · cases hd
    · rename_i hx
      split at hd
      · cases hd
      · rename_i hs
        simp only [Sum.inr.injEq, Prod.mk.injEq] at hd
        obtain ⟨hd1, rfl⟩ := hd
        obtain ⟨hx64, hpn, hn⟩ := varintD_len hle hv
        rw [rest_length] at hs
        have ht : s.extract (p + m) (p + m + x) = ⟨v.toArray⟩ := string_of_list (by rw [extract_take, ← hd1, rest_drop])
        have hu := Lib.hid (rupto_ok ad b s p x m most w h hE hv (by omega) hm1)
        have hk := Lib.hid (fun w1 (h1 : Rd b s (p + m) w1) => rtake_ok b s (p + m) x w1 h1 (by omega))
        rw [ht] at hk
        clear h hv hE ht hd1
        go_enter Tryd.func58, Tryd.ntmps58
        go_wp2_with fail
        refine hu.out.mono ?_
        rintro y w1 ⟨rfl, hm⟩
        go_wp2_with fail
        refine (hk.out _ hm.rd).mono ?_
        rintro y w2 ⟨rfl, hm2⟩
        have fin := Lib.hid (hm.trans hm2); clear hm hm2
        go_wp2
        go_ret2
        exact ⟨rfl, by rw [← Nat.add_assoc]; exact fin.out⟩
end Go.Proofs.YtilhkbohemghlaaDoor
