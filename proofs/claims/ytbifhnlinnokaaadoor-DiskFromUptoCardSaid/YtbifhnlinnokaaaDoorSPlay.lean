/-
  The contract of remitlaw06.play: both disks are alike behind any script.
-/
import Derived.Test.YtbifhnlinnokaaaDoorSStep2
import Derived.Test.YtbifhnlinnokaaaDoorSStepW
import Derived.Test.YtbifhnlinnokaaaDoorSStepC
namespace Go.Proofs.YtbifhnlinnokaaaDoor
open Go.RowKit Go.WideShapes
set_option maxRecDepth 100000
section
variable {ad : Nat → Addr} {w0 w : World} {j b c k : Nat} {d : DS}

theorem step_any (hE : Errs ad w0) (h : Pair j w0 w b c d d) (hI : PlayI k d) (hk : k ≤ 3000000) (o : OpD) (ho : o.Ok) (hB : Bools w0 o.kv o.f.kept) :
    Calls Tryd.prog 24 #[.pointer (some ⟨b, 0, none⟩), .pointer (some ⟨c, 0, none⟩), o.val] w (StepP w0 b c k) := by
  obtain ⟨ka, kc, hkv, _⟩ := id hB
  obtain ⟨kind, i, s, fill, kv, f⟩ := o
  simp only at hkv hB
  subst hkv
  by_cases h0 : kind = 0
  · subst h0; exact step_read hE h hI hk i s fill _ f
  by_cases h1 : kind = 1
  · subst h1; exact step_write hE h hI hk i s fill ka kc f
  by_cases h2 : kind = 2
  · subst h2; exact step_flush hE h hI hk i s fill _ f
  by_cases h3 : kind = 3
  · subst h3; exact step_arm hE h hI hk i s fill _ f ho.i1
  by_cases h4 : kind = 4
  · subst h4; exact step_crash hE h hI hk i s fill ka kc f ho.kl hB
  by_cases h6 : kind = 6
  · subst h6; exact step_image hE h hI hk i s fill _ f
  exact step_ask kind h0 h1 h2 h3 h4 h6 hE h hI hk i s fill _ f
end

/-- What the loop keeps. -/
def PlayAt (w0 : World) (b c N : Nat) (iv : Value) (wr : World) : Prop := ∃ (n j : Nat) (d : DS), n ≤ N ∧ iv = .int .i64 n ∧ PlayI n d ∧ Pair j w0 wr b c d d
theorem PlayAt.next {w0 w' : World} {b c N n : Nat} {e : Ending} (hn : n < N) (h : StepP w0 b c n e w') : PlayAt w0 b c N (.int .i64 ((n : Int) + 1)) w' := by
  obtain ⟨_, j, d, hI, hP⟩ := h
  exact ⟨n + 1, j, d, hn, by push_cast; rfl, hI, hP⟩

set_option maxHeartbeats 3200000 in
theorem play_any (ad : Nat → Addr) {w0 w : World} {j b c : Nat} {d : DS} (v : Value) (g off : Nat) (os : List OpD) (hE : Errs ad w0) (h : Pair j w0 w b c d d) (hI : PlayI 0 d) (hs : Script w0 v g off os) :
    Calls Tryd.prog 9 #[.pointer (some ⟨b, 0, none⟩), .pointer (some ⟨c, 0, none⟩), v] w fun e w' => e = .returned (.bool true) ∧ Since w0.heap.size w0 w' := by
  have HE := Lib.hid hE
  have HSC := Lib.hid hs
  have hle := hs.le
  obtain ⟨va, vc, rfl, _⟩ := hs.val
  have START := Lib.hid (show PlayAt w0 b c os.length (.int .i64 0) w from ⟨0, j, d, Nat.zero_le _, rfl, hI, h⟩)
  clear hs hE h hI
  go_enter Tryd.func9, Tryd.ntmps9
  go_wp2
  go_loopw [12] (fun iv wr => PlayAt w0 b c os.length iv wr) (fun iv _ => os.length - (intOf iv).toNat)
  case atStart => exact START.out
  case round =>
    obtain ⟨n, jn, dn, hn, rfl, hI, hP⟩ := hrel
    by_cases hlt : n < os.length
    · obtain ⟨o, cap, ho, hval⟩ := HSC.out.elem hlt
      injection hval with hva _ hvc
      subst hva hvc
      have HEA := HSC.out.each n o ho
      have c0 : wr.cell? ⟨g, off + n * 7, none⟩ = some (.int .i64 o.kind) := HSC.out.since hP.since ho 0 (.int .i64 o.kind) rfl
      have c1 := HSC.out.since hP.since ho 1 (.int .i64 o.i) rfl
      have c2 := HSC.out.since hP.since ho 2 (.string o.s) rfl
      have c3 := HSC.out.since hP.since ho 3 (.int .u8 o.fill.toNat) rfl
      have c4 := HSC.out.since hP.since ho 4 o.kv rfl
      have c5 := HSC.out.since hP.since ho 5 (.int .i64 o.f.torn) rfl
      have c6 := HSC.out.since hP.since ho 6 (.int .i64 o.f.bytes) rfl
      obtain ⟨WA, hWA, qA, hCA⟩ := laid_op wr o
      obtain ⟨d0, d1, d2, d3, d4, d5, d6⟩ := hCA (fun _ => False) WA (fun e => e) (Qt.refl _)
      have HWA := Lib.hid hWA
      have ST := Lib.hid (step_any HE.out (hP.qt qA) hI (by omega) o HEA.1 HEA.2)
      have NX := Lib.hid (fun (e : Ending) (W : World) (h : StepP w0 b c n e W) => PlayAt.next hlt h)
      obtain ⟨ka, kc, hkv, _⟩ := HEA.2
      clear hWA qA hCA hP hI HEA ho
      obtain ⟨kind, i, s, fill, kv, f⟩ := o
      simp only at hkv
      subst hkv
      simp only at c0 c1 c2 c3 c4 c5 c6 d0 d1 d2 d3 d4 d5 d6 HWA
      unfold OpD.val at ST
      simp only at ST
      go_wp2_with fail
      rw [HWA.out]
      go_wp2_with fail
      refine ST.out.mono ?_
      rintro e w5 h5
      have FIN := Lib.hid (NX.out _ _ h5)
      obtain ⟨rfl, _⟩ := h5
      go_wp2
      exact ⟨FIN.out, by simp [intOf]; omega⟩
    · obtain rfl : n = os.length := by omega
      have hB0 : Bools w0 (.slice none 0 0) [] := ⟨none, 0, rfl, by simp, fun k x hx => by simp at hx⟩
      have ASK := step_any HE.out hP hI (by omega) ⟨5, 0, ⟨#[]⟩, 0, .slice none 0 0, ⟨[], 0, 0⟩⟩ ⟨by decide, by decide, by decide, by decide, by decide, by decide⟩ hB0
      have IMG := Lib.hid (fun (jj : Nat) (dd : DS) (W : World) (hP : Pair jj w0 W b c dd dd) (hI : PlayI (os.length + 1) dd) => step_any HE.out hP hI (by omega) ⟨6, 0, ⟨#[]⟩, 0, .slice none 0 0, ⟨[], 0, 0⟩⟩ ⟨by decide, by decide, by decide, by decide, by decide, by decide⟩ hB0)
      have AH := Lib.hid ASK
      clear ASK hP hI hlt
      unfold OpD.val at AH IMG
      go_wp2_with fail
      refine AH.out.mono ?_
      rintro e w5 ⟨rfl, j5, d5, I5, P5⟩
      have IH := Lib.hid (IMG.out j5 d5 w5 P5 I5)
      clear I5 P5 IMG
      go_wp2_with fail
      refine IH.out.mono ?_
      rintro e w6 ⟨rfl, j6, d6, I6, P6⟩
      have FIN := Lib.hid P6.since
      clear I6 P6 IH
      go_wp2
      go_ret
      exact ⟨rfl, FIN.out⟩
end Go.Proofs.YtbifhnlinnokaaaDoor
