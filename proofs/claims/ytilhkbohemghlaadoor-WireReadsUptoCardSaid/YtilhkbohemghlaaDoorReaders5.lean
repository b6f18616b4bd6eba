/-
  The contracts of package wire's Reader, on: lists of texts.
-/
import Derived.Test.YtilhkbohemghlaaDoorReaders4
import Derived.Test.YtilhkbohemghlaaDoorOwn2
namespace Go.Proofs.YtilhkbohemghlaaDoor
open Go.RowKit
set_option maxRecDepth 100000

def strV (s : List UInt8) : Value := .string ⟨s.toArray⟩

theorem infoString : (Tryd.prog.info? 9).map (fun i => (i.zero, i.size, i.bytes)) = some (some (.string ⟨#[]⟩), 1, 16) := by kernel_rfl

/-- A new []string value that reads as ss: its row, if any, lies in a block from B on. -/
structure NewStrs (B : Nat) (w : World) (v : Value) (ss : List (List UInt8)) : Prop where
  own : w.ownsRow 0 9 1 v ss.length (ss.map strV)
  new : ∀ g, v.ownBlock = some g → B ≤ g

theorem NewStrs.nil (B : Nat) (w : World) : NewStrs B w (.slice none 0 0) [] := ⟨World.ownsRow_nil _ _ _ _, fun g h => by simp [Value.ownBlock] at h⟩
theorem NewStrs.kept {B : Nat} {S : Nat → Prop} {w w' : World} {v : Value} {ss : List (List UInt8)} (h : NewStrs B w v ss) (hk : Keeps S w w') (hn : ∀ k, v.ownBlock = some k → ¬ S k) : NewStrs B w' v ss := ⟨ownsRow_kept h.own hk hn, h.new⟩
theorem NewStrs.mono {B C : Nat} {w : World} {v : Value} {ss : List (List UInt8)} (h : NewStrs B w v ss) (hC : C ≤ B) : NewStrs C w v ss := ⟨h.own, fun g hg => Nat.le_trans hC (h.new g hg)⟩

/-- It is a []string value. -/
theorem NewStrs.strs {B : Nat} {w : World} {v : Value} {ss : List (List UInt8)} (h : NewStrs B w v ss) (hl : ss.length ≤ 140737488355328) : ∃ g, Strs w v g 0 ss ∧ (ss ≠ [] → v.ownBlock = some g) := by
  rcases h.own.2 with ⟨rfl, h0⟩ | ⟨g, cap, cur, rfl, _, hg, hnc, hcm, hcs, htake⟩
  · obtain rfl : ss = [] := List.eq_nil_of_length_eq_zero h0
    exact ⟨0, ⟨⟨none, 0, rfl, fun h => absurd rfl h⟩, by simp, fun j s hj => by simp at hj⟩, fun h => absurd rfl h⟩
  · refine ⟨g, ⟨⟨_, cap, rfl, fun _ => rfl⟩, hl, fun j s hj => ?_⟩, fun _ => rfl⟩
    have := (World.ownsRowF_of h.own).cells (g := g) rfl j (strV s) (by simp [hj])
    rw [Nat.zero_add]
    have hadd : (⟨g, 0, none⟩ : Addr).add j = ⟨g, j, none⟩ := by unfold Addr.add; split <;> simp_all
    rw [hadd] at this
    exact this

/-- What is still to come, joined to what was read. -/
def onto (us : List (List UInt8)) (d : Nat) : Nat ⊕ (List (List UInt8) × Nat) → Nat ⊕ (List (List UInt8) × Nat)
  | .inl e => .inl e
  | .inr (vs, m) => .inr (us ++ vs, d + m)

theorem eachD_step_ok {most : Int} {s : ByteArray} {q n k d : Nat} {v : List UInt8} {us : List (List UInt8)} (h : textD most (rest s q) = .inr (v, n)) : onto us d (eachD most (k + 1) (rest s q)) = onto (us ++ [v]) (d + n) (eachD most k (rest s (q + n))) := by
  rw [eachD, h, ← rest_drop]
  simp only
  cases eachD most k ((rest s q).drop n) with
  | inl e => rfl
  | inr x => obtain ⟨vs, m⟩ := x; simp [onto, Nat.add_assoc]
theorem eachD_step_err {most : Int} {s : ByteArray} {q e k d : Nat} {us : List (List UInt8)} (h : textD most (rest s q) = .inl e) : onto us d (eachD most (k + 1) (rest s q)) = .inl e := by
  rw [eachD, h]; rfl

/-- The loop: i texts read, the Reader at q. -/
def TextsAt (b : Nat) (s : ByteArray) (p0 n : Nat) (most : Int) (w : World) (v i : Value) (wr : World) : Prop :=
  ∃ (k q : Nat) (us : List (List UInt8)), k ≤ n ∧ i = .int .i64 k ∧ us.length = k ∧ p0 + k ≤ q ∧ Moved b s q w wr ∧ NewStrs w.heap.size wr v us ∧ eachD most n (rest s p0) = onto us (q - p0) (eachD most (n - k) (rest s q))

theorem TextsAt.more {b : Nat} {s : ByteArray} {p0 n k q m : Nat} {most : Int} {v v' : Value} {x : List UInt8} {us : List (List UInt8)} {w wr w1 w2 w3 : World} (hlt : k < n) (hl : us.length = k) (hq : p0 + k ≤ q) (hn : NewStrs w.heap.size wr v us)
    (hr : eachD most n (rest s p0) = onto us (q - p0) (eachD most (n - k) (rest s q))) (hx : textD most (rest s q) = .inr (x, m)) (hm1 : 1 ≤ m) (hb : b < w.heap.size) (h0 : Moved b s q w wr)
    (hm : Moved b s (q + m) wr w1) (h12 : Keeps (fun _ => False) w1 w2) (hg : w2.grownBy w3 v.ownBlock) (hlat : Later w2 v.ownBlock v'.ownBlock) (hown : w3.ownsRow 0 9 1 v' (us.length + 1) (us.map strV ++ [strV x])) : TextsAt b s p0 n most w v' (.int .i64 ((k : Int) + 1)) w3 := by
  have hsz1 := h0.keeps.size
  have hsz2 := hm.keeps.size
  have hsz3 := h12.size
  have hne : ∀ g, some g = v.ownBlock → g ≠ b := fun g e e2 => by have := hn.new g e.symm; omega
  refine ⟨k + 1, q + m, us ++ [x], hlt, by simp, by simp [hl], by omega, ?_, ⟨by simpa using hown, ?_⟩, ?_⟩
  · refine ⟨?_, ?_⟩
    · have h2 := hm.rd.kept h12 (fun h => h)
      exact h2.kept (S := fun j => some j = v.ownBlock) ((Keeps.refl _ _).grown hg (fun _ _ h => h)) (fun h => hne b h rfl)
    · refine Keeps.grown ((h0.keeps.trans hm.keeps (fun _ _ h => h)).trans h12 (fun _ _ h => h.elim)) hg (fun j hj e => ?_)
      have := hn.new j e.symm
      omega
  · intro g hg'
    rcases hlat with e | ⟨g', e, hge⟩
    · exact hn.new g (e ▸ hg')
    · rw [e] at hg'; injection hg' with hg'; omega
  · rw [hr, show n - k = (n - (k + 1)) + 1 by omega, eachD_step_ok hx]
    congr 1
    omega

/-- What Texts answers where it takes a list. -/
def GaveStrs (b : Nat) (s : ByteArray) (q : Nat) (ss : List (List UInt8)) (w : World) (e : Ending) (w' : World) : Prop :=
  ∃ v, e = .returned (.tuple #[v, .nilIface]) ∧ NewStrs w.heap.size w' v ss ∧ Moved b s q w w'

theorem eachD_len {most : Int} {s : ByteArray} : ∀ {k q : Nat} {vs : List (List UInt8)} {m : Nat}, q ≤ s.size → eachD most k (rest s q) = .inr (vs, m) → q + m ≤ s.size ∧ vs.length = k ∧ k ≤ m
  | 0, q, vs, m, hq, h => by simp [eachD] at h; obtain ⟨rfl, rfl⟩ := h; simp; exact hq
  | k + 1, q, vs, m, hq, h => by
    rw [eachD] at h
    split at h
    · cases h
    · rename_i v n hv
      rw [rest_drop] at h
      split at h
      · cases h
      · rename_i us j hu
        simp only [Sum.inr.injEq, Prod.mk.injEq] at h
        obtain ⟨rfl, rfl⟩ := h
        obtain ⟨h1, h2, _⟩ := textD_len hq hv
        obtain ⟨h3, h4, h5⟩ := eachD_len h1 hu
        simp
        omega

set_option maxHeartbeats 800000 in
theorem rtexts_early (ad : Nat → Addr) (b : Nat) (s : ByteArray) (p e : Nat) (count most : Int) (w : World) (h : Rd b s p w) (hE : Errs ad w)
    (hu : Calls Tryd.prog 48 #[.pointer (some ⟨b, 0, none⟩), .int .i64 count] w fun x w' => x = .returned (.tuple #[.int .i64 0, .iface 131 (.pointer (some (ad e)))]) ∧ Moved b s p w w') :
    Calls Tryd.prog 28 #[.pointer (some ⟨b, 0, none⟩), .int .i64 count, .int .i64 most] w fun y w' => y = .returned (.tuple #[.slice none 0 0, .iface 131 (.pointer (some (ad e)))]) ∧ Moved b s p w w' := by
  have c1 := h.cell1
  have hu' := Lib.hid hu; clear hu h hE
  go_enter Tryd.func28, Tryd.ntmps28
  go_wp2_with fail
  refine hu'.out.mono ?_
  rintro y w' ⟨rfl, hm⟩
  go_wp2
  go_ret2
  exact ⟨rfl, hm⟩

theorem onto_nil (D : Nat ⊕ (List (List UInt8) × Nat)) : onto [] 0 D = D := by
  cases D with
  | inl e => rfl
  | inr x => obtain ⟨vs, m⟩ := x; simp [onto]

theorem TextsAt.start {b : Nat} {s : ByteArray} {p0 n : Nat} {most : Int} {w w1 : World} (hm : Moved b s p0 w w1) : TextsAt b s p0 n most w (.slice none 0 0) (.int .i64 0) w1 :=
  ⟨0, p0, [], Nat.zero_le _, rfl, rfl, by omega, hm, NewStrs.nil _ _, by rw [Nat.sub_zero, Nat.sub_self, onto_nil]⟩

/-- How the loop ends. -/
def TextsDone (ad : Nat → Addr) (b : Nat) (s : ByteArray) (p q : Nat) (D : Nat ⊕ (List (List UInt8) × Nat)) (w : World) (e : Ending) (w' : World) : Prop :=
  match D with
  | .inl x => e = .returned (.tuple #[.slice none 0 0, .iface 131 (.pointer (some (ad x)))]) ∧ Moved b s p w w'
  | .inr (vs, m) => GaveStrs b s (q + m) vs w e w'

set_option maxHeartbeats 1600000 in
theorem rtexts_loop (ad : Nat → Addr) (b : Nat) (s : ByteArray) (p x n : Nat) (count most : Int) (w : World) (h : Rd b s p w) (hE : Errs ad w) (hO : OffErrs ad (fun k => k = b)) (hs : s.size ≤ 1099511627776) (hm0 : count ≤ 9223372036854775807) (hm1 : most ≤ 9223372036854775807)
    (hv : varintD (rest s p) = .inr (x, n)) (hx : ¬ count < (x : Int)) :
    Calls Tryd.prog 28 #[.pointer (some ⟨b, 0, none⟩), .int .i64 count, .int .i64 most] w fun y w' => TextsDone ad b s p (p + n) (eachD most x (rest s (p + n))) w y w' := by
  obtain ⟨i0, hi, hz0, hz1, hz2⟩ := info_parts infoString
  have c1 := h.cell1
  have hle := h.le
  have hb := h.lt
  have hu := Lib.hid (rupto_ok ad b s p x n count w h hE hv (by omega) hm0)
  obtain ⟨hx64, hpn, hn10⟩ := varintD_len hle hv
  have hxi : (x : Int) ≤ 9223372036854775807 := by omega
  obtain ⟨D, HD⟩ : ∃ D, eachD most x (rest s (p + n)) = D := ⟨_, rfl⟩
  rw [HD]
  have HD := Lib.hid HD
  clear h hv hx
  go_enter Tryd.func28, Tryd.ntmps28
  go_wp2_with fail
  refine hu.out.mono ?_
  rintro y w1 ⟨rfl, hm⟩
  go_wp2
  go_loopw [11, 28] (fun v i wr => TextsAt b s (p + n) x most w v i wr) (fun _ i _ => x - (intOf i).toNat)
  case atStart => exact TextsAt.start hm
  case round =>
    obtain ⟨k, q, us, hkx, rfl, hul, hkq, hmv, hns, hrel⟩ := hrel
    have Hrel := Lib.hid hrel; clear hrel
    have Hul := Lib.hid hul; clear hul
    by_cases hlt : k < x
    · cases hT : textD most (rest s q) with
      | inl e' =>
        have he : D = .inl e' := by
          rw [← HD.out, Hrel.out, show x - k = (x - (k + 1)) + 1 by omega, eachD_step_err hT]
        have He := Lib.hid he; clear he
        go_wp2_with fail
        refine (rtext_err ad b s q e' most wr hmv.rd (hE.kept hmv.keeps hO) hO hm1 hT).mono ?_
        rintro y w2 ⟨rfl, hm2⟩
        have hm3 := hmv.trans hm2
        have f1 := hm3.rd.frozen1
        have d1 := hm3.rd.cell1
        have fin := Lib.hid (hm3.back hle 0); clear hm hm2 hm3 hmv
        have HT := Lib.hid hT; clear hT
        go_wp2
        go_ret2
        rw [He.out]
        exact ⟨rfl, fin.out⟩
      | inr z =>
        obtain ⟨t, m⟩ := z
        obtain ⟨hqm, h1m, htl⟩ := textD_len hmv.rd.le hT
        go_wp2_with fail
        refine (rtext_ok ad b s q m t most wr hmv.rd (hE.kept hmv.keeps hO) hm1 hT).mono ?_
        rintro y w2 ⟨rfl, hm2⟩
        have HT := Lib.hid hT; clear hT
        have hown2 : w2.ownsRow 0 9 1 u11 us.length (us.map strV) := (hns.kept hm2.keeps (fun g hg e => by have := hns.new g hg; omega)).own
        have hul : us.length ≤ 1099511627776 := by have := Hul.out; omega
        go_wp2_with (at_builtin; refine wpList_append_cells0 _ rfl _ _ 28 rfl 9 i0 (.string ⟨#[]⟩) 1 16 Tryd.underlying28 hi hz0 hz1 hz2 rfl (by decide) _ _ _ rfl (ownsRow_kept hown2 ((Keeps.refl (fun _ => False) _).alloc _) (fun _ _ h => h)) ⟨w2.heap.size, 0, none⟩ 1 1 [strV t] rfl rfl ?c1 ?c2 ?c3 ?c4 ?_)
        case c1 =>
          intro j u hj
          match j, hj with
          | 0, hj => simp at hj; subst hj; simp [Addr.add, strV]
        case c2 => intro u hu; simp at hu; subst hu; rfl
        case c3 => unfold maxLen; omega
        case c4 => omega
        intro v' w3 hown' hgrow hlater _
        have fin := Lib.hid (TextsAt.more hlt Hul.out hkq hns Hrel.out HT.out h1m hb hmv hm2 ((Keeps.refl _ _).alloc _) hgrow hlater hown')
        clear hown' hgrow hlater hown2 hm2 hmv hns
        go_wp2
        go_roundw
        case rel => exact fin.out
        case measure => simp [intOf]; omega
    · have he : D = .inr (us, q - (p + n)) := by
        rw [← HD.out, Hrel.out, show x - k = 0 by omega, eachD]
        simp [onto]
      have He := Lib.hid he; clear he
      go_wp2
      go_ret2
      rw [He.out]
      exact ⟨_, rfl, hns, by rw [show p + n + (q - (p + n)) = q by omega]; exact hmv⟩

theorem rtexts_err (ad : Nat → Addr) (b : Nat) (s : ByteArray) (p e : Nat) (count most : Int) (w : World) (h : Rd b s p w) (hE : Errs ad w) (hO : OffErrs ad (fun k => k = b)) (hs : s.size ≤ 1099511627776) (hm0 : count ≤ 9223372036854775807) (hm1 : most ≤ 9223372036854775807) (hd : textsD count most (rest s p) = .inl e) :
    Calls Tryd.prog 28 #[.pointer (some ⟨b, 0, none⟩), .int .i64 count, .int .i64 most] w fun y w' => y = .returned (.tuple #[.slice none 0 0, .iface 131 (.pointer (some (ad e)))]) ∧ Moved b s p w w' := by
  unfold textsD at hd
  split at hd
  · rename_i e' hv
    injection hd with hd
    subst hd
    exact rtexts_early ad b s p _ count most w h hE (rupto_err ad b s p _ count w h hE hv)
  · rename_i x n hv
    split at hd
    · rename_i hx
      injection hd with hd
      subst hd
      exact rtexts_early ad b s p _ count most w h hE (rupto_limit ad b s p x n count w h hE hv hx hm0)
    · rename_i hx
      have hd' : eachD most x (rest s (p + n)) = .inl e := by
        rw [← rest_drop]
        split at hd
        · rename_i e' hq; rw [hq]; injection hd with hd; rw [hd]
        · cases hd
      have q := rtexts_loop ad b s p x n count most w h hE hO hs hm0 hm1 hv hx
      rw [hd'] at q
      exact q

theorem rtexts_ok (ad : Nat → Addr) (b : Nat) (s : ByteArray) (p m : Nat) (vs : List (List UInt8)) (count most : Int) (w : World) (h : Rd b s p w) (hE : Errs ad w) (hO : OffErrs ad (fun k => k = b)) (hs : s.size ≤ 1099511627776) (hm0 : count ≤ 9223372036854775807) (hm1 : most ≤ 9223372036854775807) (hd : textsD count most (rest s p) = .inr (vs, m)) :
    Calls Tryd.prog 28 #[.pointer (some ⟨b, 0, none⟩), .int .i64 count, .int .i64 most] w fun y w' => GaveStrs b s (p + m) vs w y w' := by
  unfold textsD at hd
  split at hd
  · cases hd
  · rename_i x n hv
    split at hd
    · cases hd
    · rename_i hx
      obtain ⟨j, hd', hj⟩ : ∃ j, eachD most x (rest s (p + n)) = .inr (vs, j) ∧ m = n + j := by
        rw [← rest_drop]
        split at hd
        · cases hd
        · rename_i us j hq
          simp only [Sum.inr.injEq, Prod.mk.injEq] at hd
          obtain ⟨rfl, rfl⟩ := hd
          exact ⟨j, hq, rfl⟩
      have q := rtexts_loop ad b s p x n count most w h hE hO hs hm0 hm1 hv hx
      rw [hd'] at q
      subst hj
      rw [← Nat.add_assoc]
      exact q
end Go.Proofs.YtilhkbohemghlaaDoor
