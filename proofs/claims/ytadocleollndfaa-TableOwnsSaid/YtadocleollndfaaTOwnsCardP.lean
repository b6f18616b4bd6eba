/-
  TableOwns (Rules, 5): rows handed in stay and aren't kept; Rows answers new memory. Proved here: the first form: for every list of rows the law answers true and its argument reads as before.
-/
import Derived.Test.YtadocleollndfaaP11
import Derived.Test.YtadocleollndfaaP19
import Derived.Test.YtadocleollndfaaP20
import Derived.Test.YtadocleollndfaaP21
import Derived.Carry
import Derived.ChangeMaps5
import Derived.SizedLaws
namespace Go.Proofs.Ytadocleollndfaa
open Go.ChangeShapes Go.WideShapes Go.ChangeAt Go.RowKit Go.WideMaps Go.WideElems Go.Joins
open Go.ChangeMaps (open_string)
set_option maxRecDepth 100000

theorem ownsT_contract (H : Type) (enc : TypeId × Value → H) (F : Stop.Interp) (W : World) (base : Nat) (args : Array Value) (ds gs : List (DataW H)) (before : List MemPlace)
    (hval0 : ∀ (j : Nat) t v, Try.f4.params[j]? = some t → args[j]? = some v → Value.okWide Try.prog W .any base t v)
    (hW : DataW.Whole enc Try.prog Try.f4.params.toList (OpenSpec.ofChange Rows.tableOwnsSpec).vars false W args.toList ds gs before)
    (hR : (DataW.weightsEach Try.prog (Try.f4.params.toList ++ (OpenSpec.ofChange Rows.tableOwnsSpec).bare.plain.varTypes Try.prog) (ds ++ gs)).all (· ≤ reachBytes) = true)
    (_ : laidMetH Try.prog Rows.tableOwnsRow.laid W) :
    Calls Try.prog 4 args W fun e W' => ∃ v, e = .returned v ∧ ((OpenSpec.ofChange Rows.tableOwnsSpec).at F).post enc Try.prog Try.f4 false true false false W args v W' := by
  have hW' := hW
  have hval : ∀ (j : Nat) t v, Try.f4.params[j]? = some t → args[j]? = some v → Value.okWide Try.prog W .any base t v := hval0
  obtain ⟨p, q, hA0, hV, rfl, hfz, hnd⟩ := hW
  have hA : DataW.TrodAll enc Try.prog W 0 (fun _ => true) true Try.f4.params.toList args.toList ds p := hA0
  rw [Try.params4] at hA hval hR
  obtain ⟨v0, d0, rfl, rfl, h0⟩ := trodAll_one hA
  obtain ⟨rfl, rfl⟩ := trodVars_none hV
  have h0k := h0
  obtain ⟨sa0, sl0, sc0, rfl⟩ := okWide_slice Try.underlying22 (hval 0 22 v0 rfl rfl)
  obtain ⟨n0, h0⟩ := h0
  obtain ⟨g0, o0, s0, hr0, hy0, hu0, ht0⟩ := rows_of_trod h0 (Reach.each hR (j := 0) rfl rfl)
  have hbk0 := hu0
  clear hA0 hval0 hR
  simp only [List.append_nil] at hW'
  refine (owns_any tabH W hr0 (by intro h; omega) ht0).mono ?_
  rintro e W' ⟨rfl, k⟩
  have bel : Below W.heap.size W W' := k.below
  have hlt := fun x hx => hW'.lt x hx
  refine ⟨_, rfl, _, _, _, [], p, [], hW', ?_, ?_, ?_, bel.frame _, fun h => by cases h⟩
  · exact trodAll_mk1 (shut_bool Try.underlying4 _)
  · have tm := trodAll_mk1 (Below.trod laidOut (by kernel_rfl) (of_decide_eq_true (by kernel_rfl)) h0k bel (fun x hx => hlt x (by first | exact hx | simp [hx])))
    first | exact tm | (simp only [List.append_nil] at tm ⊢; exact tm)
  · rfl

/-- The witness: nothing, in a start into which the listed variables are laid. -/
noncomputable def ownsTArgs : Array Value := #[.slice none 0 0]

theorem ownsT_reads (os : Os) {H : Type} (enc : TypeId × Value → H) : (DataW.whole enc Try.prog ((doorT os).forCall (fun _ _ => 0) ⟨#[], ownsTArgs, []⟩).memory Try.f4.params.toList (OpenSpec.ofChange Rows.tableOwnsSpec).vars false ownsTArgs.toList 8).map (fun x => (x.1, x.2.1)) =
    some ([.nil], []) := by kernel_rfl

theorem ownsT_lifted (os : Os) (started : os.Started) (H : Type) (enc : TypeId × Value → H) (F : Stop.Interp) :
    ReturnsInHanded {} Try.checked os 4 .any ((OpenSpec.ofChange Rows.tableOwnsSpec).preRow enc Try.prog Try.f4 Rows.tableOwnsRow.domain false Rows.tableOwnsRow.laid) (((OpenSpec.ofChange Rows.tableOwnsSpec).at F).post enc Try.prog Try.f4 false true false false) := by
  obtain ⟨⟨x1, x2, x3⟩, hx, hx1⟩ := Option.map_eq_some_iff.1 (ownsT_reads os enc)
  simp only [Prod.mk.injEq] at hx1
  obtain ⟨rfl, rfl⟩ := hx1
  refine returnsInHanded_of_row (C := Try.checked) (s := (OpenSpec.ofChange Rows.tableOwnsSpec)) own' started (by kernel_rfl) Try.func4
    (witness_laid (enc := enc) (C := Try.checked) false (doorT os) ownsTArgs (World.laidAll_os _ _ _) (World.shaped_of_ZipB (by kernel_rfl) (by kernel_rfl)) (by kernel_rfl)
      (OpenSpec.preRow_of_cond 8 hx (by kernel_rfl) (fun k hk => by cases hk) (by kernel_rfl) (doorT_met os ownsTArgs))) ?_
  intro W base args ds gs before hval hW _ _ hR hL _ _
  exact ownsT_contract H enc F W base args ds gs before hval hW hR hL

theorem ownsT_said : Rows.TableOwnsSaid :=
  OpenClaim.holds_of_cond 4 Try.f4 rfl rfl rfl rfl rfl rfl rfl ⟨rfl, rfl, rfl, rfl, rfl⟩ rfl rfl rfl rfl rfl (by kernel_rfl) Try.func4 (by kernel_rfl)
    (of_decide_eq_true (by kernel_rfl)) (by unfold Func.isWrapper; rw [if_neg (of_decide_eq_false (by kernel_rfl))]; exact ⟨rfl, rfl⟩)
    (fun os started H enc _ F => by rw [OpenClaim.pre_eq_preRow]; exact ownsT_lifted os started H enc F)

end Go.Proofs.Ytadocleollndfaa
