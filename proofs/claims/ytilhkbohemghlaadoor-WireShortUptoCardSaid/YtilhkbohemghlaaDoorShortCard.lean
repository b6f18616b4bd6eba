/-
  WireShort (P1.4): whatever stands behind a value, it is read, and just it; cut anywhere ahead of its end it is too short, and nothing moves. Proved here: the second form's card: for every value, text and number of bulk at most 1048576 the law answers true and its arguments read as before.
-/
import Derived.Test.YtilhkbohemghlaaDoorShort
import Derived.Test.YtilhkbohemghlaaDoorLift
import Derived.Test.YtilhkbohemghlaaDoorCards
import Derived.Test.YtilhkbohemghlaaDoorTie
namespace Go.Proofs.YtilhkbohemghlaaDoor
open Go.ChangeShapes Go.WideShapes Go.ChangeAt Go.RowKit Go.WideMaps Go.WideElems
open Go.ChangeMaps (open_string shut_string)
set_option maxRecDepth 100000

theorem laidOut : laidOutB Tryd.prog = true := by kernel_rfl

theorem short_any (ad : Nat → Addr) (o : OpD) (tail : ByteArray) (cut : Int) (w : World) (hE : Errs ad w) (ho : o.Ok) (hsm : o.Small) (htl : tail.size ≤ 16777216) (hc0 : -9223372036854775808 ≤ cut) (hc1 : cut ≤ 9223372036854775807) (g g0 : Nat) (hst : Strs w o.v g g0 o.ss) :
    Calls Tryd.prog 7 #[o.val, .string tail, .int .i64 cut] w fun e w' => e = .returned (.bool true) ∧ Keeps (fun _ => False) w w' := by
  cases hy : o.enc with
  | none => exact short_none ad o tail cut w hE hy
  | some y => exact short_some ad o tail cut w hE y hy ho hsm htl hc0 hc1 g g0 hst

/-- What every law's post asks where the call only makes memory. -/
theorem short_contract (H : Type) (enc : TypeId × Value → H) (F : Stop.Interp) (W : World) (base : Nat) (args : Array Value) (ds gs : List (DataW H)) (before : List MemPlace)
    (hval0 : ∀ (j : Nat) t v, Tryd.f7.params[j]? = some t → args[j]? = some v → Value.okWide Tryd.prog W .any base t v)
    (hW : DataW.Whole enc Tryd.prog Tryd.f7.params.toList (Rows.OpenSpec.upto Rows.wireShortSpec).vars false W args.toList ds gs before) (hk : Rows.uptoSmall H (ds ++ gs) = true)
    (hL : laidMetH Tryd.prog Rows.wireShortUptoRow.laid W) :
    Calls Tryd.prog 7 args W fun e W' => ∃ v, e = .returned v ∧ ((Rows.OpenSpec.upto Rows.wireShortSpec).at F).post enc Tryd.prog Tryd.f7 false true false false W args v W' := by
  have hW' := hW
  have hval : ∀ (j : Nat) t v, Tryd.f7.params[j]? = some t → args[j]? = some v → Value.okWide Tryd.prog W .any base t v := hval0
  obtain ⟨p, q, hA0, hV, rfl, hfz, hnd⟩ := hW
  have hA : DataW.TrodAll enc Tryd.prog W 0 (fun _ => true) true Tryd.f7.params.toList args.toList ds p := hA0
  rw [Tryd.params7] at hA hval
  obtain ⟨v0, v1, v2, d0, d1, d2, p0, p1, p2, rfl, rfl, rfl, h0, h1, h2⟩ := trodAll_three hA
  obtain ⟨rfl, rfl⟩ := trodVars_none hV
  have h0k := h0
  have h1k := h1
  have h2k := h2
  have hb : Rows.uptoBulk d0 + (Rows.uptoBulk d1 + (Rows.uptoBulk d2 + 0)) ≤ 1048576 := by
    have h := of_decide_eq_true hk
    simpa only [List.append_nil, Rows.uptoBulkAll] using h
  obtain ⟨o, g, g0, rfl, ho, hsm, hst⟩ := open_op (hval 0 30 v0 rfl rfl) h0 (by omega)
  obtain ⟨tail, rfl, rfl, rfl, _⟩ := open_string Tryd.underlying9 (hval 1 9 v1 rfl rfl) h1
  obtain ⟨cut, rfl, rfl, rfl, wc⟩ := open_int Tryd.underlying3 (hval 2 3 v2 rfl rfl) h2
  obtain ⟨hc0, hc1⟩ := bounds_i64 wc
  obtain ⟨ad, hE⟩ := errs_of_laid hL
  have htl : tail.size ≤ 16777216 := by
    simp only [Rows.uptoBulk] at hb
    have : tail.size = tail.data.toList.length := rfl
    omega
  clear hA0 hval0
  simp only [List.append_nil] at hW'
  have hlt : ∀ x ∈ p0, x.block < W.heap.size := fun x hx => hW'.lt x hx
  refine (short_any ad o tail cut W hE ho hsm htl hc0 hc1 g g0 hst).mono ?_
  rintro e W' ⟨rfl, k⟩
  have bel : Below W.heap.size W W' := k.below (Nat.le_refl _) (fun _ _ h => h)
  refine ⟨_, rfl, _, _, _, [], p0 ++ ([] ++ []), [], hW', ?_, ?_, ?_, bel.frame _, fun h => by cases h⟩
  · exact trodAll_mk1 (shut_bool Tryd.underlying4 _)
  · exact trodAll_mk3 (Below.trod laidOut (by kernel_rfl) (of_decide_eq_true (by kernel_rfl)) h0k bel hlt) (Below.trod laidOut (by kernel_rfl) (of_decide_eq_true (by kernel_rfl)) h1k bel (fun x hx => by simp at hx)) (Below.trod laidOut (by kernel_rfl) (of_decide_eq_true (by kernel_rfl)) h2k bel (fun x hx => by simp at hx))
  · rfl

/-- The witness: the zero Op, no text, 0, in the heap that the door's own run leaves. -/
noncomputable def shortArgs : Array Value := #[.agg #[.int .i64 0, .bool false, .int .u64 0, .int .i64 0, .int .i64 0, .int .i64 0, .string ⟨#[]⟩, .slice none 0 0], .string ⟨#[]⟩, .int .i64 0]

theorem short_reads (os : Os) {H : Type} (enc : TypeId × Value → H) : (DataW.whole enc Tryd.prog ((World.doorLaid Tryd.prog 712 os).forCall (fun _ _ => 0) ⟨#[], shortArgs, []⟩).memory Tryd.f7.params.toList (Rows.OpenSpec.upto Rows.wireShortSpec).vars false shortArgs.toList 8).map (fun x => (x.1, x.2.1)) =
    some ([.agg [.lit (.int .i64 0), .lit (.bool false), .lit (.int .u64 0), .lit (.int .i64 0), .lit (.int .i64 0), .lit (.int .i64 0), .lit (.string []), .nil], .lit (.string []), .lit (.int .i64 0)], []) := by kernel_rfl

theorem short_lifted (os : Os) (started : os.Started) (H : Type) (enc : TypeId × Value → H) (F : Stop.Interp) :
    ReturnsInHanded {} Tryd.checked os 7 .any ((Rows.OpenSpec.upto Rows.wireShortSpec).preRow enc Tryd.prog Tryd.f7 Rows.wireShortUptoRow.domain false Rows.wireShortUptoRow.laid) (((Rows.OpenSpec.upto Rows.wireShortSpec).at F).post enc Tryd.prog Tryd.f7 false true false false) := by
  obtain ⟨⟨x1, x2, x3⟩, hx, hx1⟩ := Option.map_eq_some_iff.1 (short_reads os enc)
  simp only [Prod.mk.injEq] at hx1
  obtain ⟨rfl, rfl⟩ := hx1
  refine returnsInHanded_of_row (C := Tryd.checked) (s := Rows.OpenSpec.upto Rows.wireShortSpec) own started (by kernel_rfl) Tryd.func7
    (witness_row_atRef (enc := enc) (C := Tryd.checked) false (World.doorLaid Tryd.prog 712 os) shortArgs rfl (by kernel_rfl) (by kernel_rfl) (by kernel_rfl)
      (OpenSpec.preRow_of_cond 8 hx (by kernel_rfl) (fun k hk => by cases hk; kernel_rfl) (by kernel_rfl) (door_met os shortArgs))) ?_
  intro W base args ds gs before hval hW _ hcond _ hL _ _
  exact short_contract H enc F W base args ds gs before hval hW (hcond _ rfl) hL

theorem short_said : Rows.WireShortUptoSaid :=
  OpenClaim.holds_of_cond 7 Tryd.f7 rfl rfl rfl rfl rfl rfl rfl ⟨rfl, rfl, rfl, rfl, rfl⟩ rfl rfl rfl rfl rfl (by kernel_rfl) Tryd.func7 (by kernel_rfl)
    (of_decide_eq_true (by kernel_rfl)) (by unfold Func.isWrapper; rw [if_neg (of_decide_eq_false (by kernel_rfl))]; exact ⟨rfl, rfl⟩)
    (fun os started H enc _ F => by rw [OpenClaim.pre_eq_preRow]; exact short_lifted os started H enc F)

theorem short_plain (f : FuncId) (fn : Func) (hf : Tryd.pinned.checked.prog.funcNamed "remit/remitlaw01.WireShort" = some f) (hfn : Tryd.pinned.checked.prog.funcs[f]? = some fn) :
    true = Tryd.pinned.checked.prog.looks [] ∧ ∀ (j : Nat) t, fn.params[j]? = some t → Tryd.pinned.checked.prog.wantsStandIn t = false := by
  obtain rfl : f = 7 := Option.some.inj ((show Tryd.prog.funcNamed "remit/remitlaw01.WireShort" = some 7 by kernel_rfl).symm.trans hf) |>.symm
  obtain rfl : fn = Tryd.f7 := (Option.some.inj (Tryd.func7.symm.trans hfn)).symm
  refine ⟨by kernel_rfl, fun j t ht => ?_⟩
  rw [Tryd.params7] at ht
  have hm : t ∈ [30, 9, 3] := by simpa using Array.mem_of_getElem? ht
  have hall : ([30, 9, 3].all fun u => !Tryd.prog.wantsStandIn u) = true := by kernel_rfl
  exact (show Tryd.prog.wantsStandIn t = false by simpa using List.all_eq_true.1 hall t hm)

/-- THE SECOND FORM's CARD OF WireShort. -/
theorem wireShort_card : Rows.WireShortUptoCardSaid :=
  Claim7.holds_tied_plain_at .later [] _ _ _ _ short_said (fun _ h => by cases h) (by kernel_rfl) (fun _ h => by cases h) wireShortUpto_row_tie rfl ⟨rfl, rfl⟩ (by kernel_rfl) rfl short_plain (by kernel_rfl)
end Go.Proofs.YtilhkbohemghlaaDoor
