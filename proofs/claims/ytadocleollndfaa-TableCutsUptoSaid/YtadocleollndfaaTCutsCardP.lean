/-
  TableCuts (P11.3, P11.1): ranges are cut anywhere into two, Back is Range turned round, sizes are sums, the last row of each key is there. Proved here: the second form: for all rows and texts of bulk at most 1048576 the law answers true and its arguments read as before.
-/
import Derived.Test.YtadocleollndfaaP21
import Derived.Test.YtadocleollndfaaP19
import Derived.Test.YtadocleollndfaaP20
import Derived.Carry
import Derived.ChangeMaps5
import Derived.SizedLaws
namespace Go.Proofs.Ytadocleollndfaa
open Go.ChangeShapes Go.WideShapes Go.ChangeAt Go.RowKit Go.WideMaps Go.WideElems Go.Joins
open Go.ChangeMaps (open_string)
set_option maxRecDepth 100000

theorem cutsT_contract (H : Type) (enc : TypeId × Value → H) (F : Stop.Interp) (W : World) (base : Nat) (args : Array Value) (ds gs : List (DataW H)) (before : List MemPlace)
    (hval0 : ∀ (j : Nat) t v, Try.f3.params[j]? = some t → args[j]? = some v → Value.okWide Try.prog W .any base t v)
    (hW : DataW.Whole enc Try.prog Try.f3.params.toList (Rows.OpenSpec.upto Rows.tableCutsSpec).vars false W args.toList ds gs before)
    (hk : Rows.uptoSmall H (ds ++ gs) = true)
    (hR : (DataW.weightsEach Try.prog (Try.f3.params.toList ++ (Rows.OpenSpec.upto Rows.tableCutsSpec).bare.plain.varTypes Try.prog) (ds ++ gs)).all (· ≤ reachBytes) = true)
    (_ : laidMetH Try.prog Rows.tableCutsUptoRow.laid W) :
    Calls Try.prog 3 args W fun e W' => ∃ v, e = .returned v ∧ ((Rows.OpenSpec.upto Rows.tableCutsSpec).at F).post enc Try.prog Try.f3 false true false false W args v W' := by
  have hW' := hW
  have hval : ∀ (j : Nat) t v, Try.f3.params[j]? = some t → args[j]? = some v → Value.okWide Try.prog W .any base t v := hval0
  obtain ⟨p, q, hA0, hV, rfl, hfz, hnd⟩ := hW
  have hA : DataW.TrodAll enc Try.prog W 0 (fun _ => true) true Try.f3.params.toList args.toList ds p := hA0
  rw [Try.params3] at hA hval hR
  obtain ⟨v0, v1, v2, d0, d1, d2, p0, p1, p2, rfl, rfl, rfl, h0, h1, h2⟩ := trodAll_three hA
  obtain ⟨rfl, rfl⟩ := trodVars_none hV
  have h0k := h0
  have h1k := h1
  have h2k := h2
  have hb : Rows.uptoBulk d0 + (Rows.uptoBulk d1 + (Rows.uptoBulk d2 + 0)) ≤ 1048576 := by
    have h := of_decide_eq_true hk
    simpa only [List.append_nil, Rows.uptoBulkAll] using h
  obtain ⟨sa0, sl0, sc0, rfl⟩ := okWide_slice Try.underlying22 (hval 0 22 v0 rfl rfl)
  obtain ⟨n0, h0⟩ := h0
  obtain ⟨g0, o0, s0, hr0, hy0, hu0, ht0⟩ := rows_of_trod h0 (Reach.each hR (j := 0) rfl rfl)
  have hbk0 := hu0
  obtain ⟨s1, rfl, rfl, rfl, _⟩ := open_string Try.underlying9 (hval 1 9 v1 rfl rfl) h1
  have hz1 : s1.size ≤ 140737488351232 := by
    have h := sized_string hR (j := 1) (t := 9) rfl rfl
    simpa [reachBytes] using h
  obtain ⟨s2, rfl, rfl, rfl, _⟩ := open_string Try.underlying9 (hval 2 9 v2 rfl rfl) h2
  have hz2 : s2.size ≤ 140737488351232 := by
    have h := sized_string hR (j := 2) (t := 9) rfl rfl
    simpa [reachBytes] using h
  clear hA0 hval0 hR hk
  simp only [List.append_nil] at hW'
  refine (cuts_any tabH s1 s2 W hr0 (by have h := hbk0; simp only at h; omega) ht0).mono ?_
  rintro e W' ⟨rfl, k⟩
  have bel : Below W.heap.size W W' := k.below
  have hlt := fun x hx => hW'.lt x hx
  refine ⟨_, rfl, _, _, _, [], p0, [], hW', ?_, ?_, ?_, bel.frame _, fun h => by cases h⟩
  · exact trodAll_mk1 (shut_bool Try.underlying4 _)
  · have tm := trodAll_mk3 (Below.trod laidOut (by kernel_rfl) (of_decide_eq_true (by kernel_rfl)) h0k bel (fun x hx => hlt x (by first | exact hx | simp [hx]))) (Below.trod laidOut (by kernel_rfl) (of_decide_eq_true (by kernel_rfl)) h1k bel (fun x hx => by simp at hx)) (Below.trod laidOut (by kernel_rfl) (of_decide_eq_true (by kernel_rfl)) h2k bel (fun x hx => by simp at hx))
    first | exact tm | (simp only [List.append_nil] at tm ⊢; exact tm)
  · rfl

/-- The witness: nothing, in a start into which the listed variables are laid. -/
noncomputable def cutsTArgs : Array Value := #[.slice none 0 0, .string ⟨#[]⟩, .string ⟨#[]⟩]

theorem cutsT_reads (os : Os) {H : Type} (enc : TypeId × Value → H) : (DataW.whole enc Try.prog ((doorT os).forCall (fun _ _ => 0) ⟨#[], cutsTArgs, []⟩).memory Try.f3.params.toList (Rows.OpenSpec.upto Rows.tableCutsSpec).vars false cutsTArgs.toList 8).map (fun x => (x.1, x.2.1)) =
    some ([.nil, .lit (.string []), .lit (.string [])], []) := by kernel_rfl

theorem cutsT_lifted (os : Os) (started : os.Started) (H : Type) (enc : TypeId × Value → H) (F : Stop.Interp) :
    ReturnsInHanded {} Try.checked os 3 .any ((Rows.OpenSpec.upto Rows.tableCutsSpec).preRow enc Try.prog Try.f3 Rows.tableCutsUptoRow.domain false Rows.tableCutsUptoRow.laid) (((Rows.OpenSpec.upto Rows.tableCutsSpec).at F).post enc Try.prog Try.f3 false true false false) := by
  obtain ⟨⟨x1, x2, x3⟩, hx, hx1⟩ := Option.map_eq_some_iff.1 (cutsT_reads os enc)
  simp only [Prod.mk.injEq] at hx1
  obtain ⟨rfl, rfl⟩ := hx1
  refine returnsInHanded_of_row (C := Try.checked) (s := (Rows.OpenSpec.upto Rows.tableCutsSpec)) own' started (by kernel_rfl) Try.func3
    (witness_laid (enc := enc) (C := Try.checked) false (doorT os) cutsTArgs (World.laidAll_os _ _ _) (World.shaped_of_ZipB (by kernel_rfl) (by kernel_rfl)) (by kernel_rfl)
      (OpenSpec.preRow_of_cond 8 hx (by kernel_rfl) (fun k hk => by cases hk; kernel_rfl) (by kernel_rfl) (doorT_met os cutsTArgs))) ?_
  intro W base args ds gs before hval hW _ hcond hR hL _ _
  exact cutsT_contract H enc F W base args ds gs before hval hW (hcond _ rfl) hR hL

theorem cutsT_said : Rows.TableCutsUptoSaid :=
  OpenClaim.holds_of_cond 3 Try.f3 rfl rfl rfl rfl rfl rfl rfl ⟨rfl, rfl, rfl, rfl, rfl⟩ rfl rfl rfl rfl rfl (by kernel_rfl) Try.func3 (by kernel_rfl)
    (of_decide_eq_true (by kernel_rfl)) (by unfold Func.isWrapper; rw [if_neg (of_decide_eq_false (by kernel_rfl))]; exact ⟨rfl, rfl⟩)
    (fun os started H enc _ F => by rw [OpenClaim.pre_eq_preRow]; exact cutsT_lifted os started H enc F)

end Go.Proofs.Ytadocleollndfaa
