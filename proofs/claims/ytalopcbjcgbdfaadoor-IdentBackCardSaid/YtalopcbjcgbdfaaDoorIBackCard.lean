/-
  IdentBack (P5.2): what Make answers passes and is its own normal form, with blanks put in and its letters small too; other check digits don't pass. Proved here: the first form's card: for every country, body, lists of blanks and of letters to be small and every other digits the law answers true and its arguments read as before.
-/
import Derived.Test.YtalopcbjcgbdfaaDoorIBack
import Derived.Test.YtalopcbjcgbdfaaDoorILift
import Derived.Test.YtalopcbjcgbdfaaDoorIDoor
import Derived.Test.YtalopcbjcgbdfaaDoorTrod
import Derived.Test.YtalopcbjcgbdfaaDoorCards
import Derived.Test.YtalopcbjcgbdfaaDoorTie
import Derived.Carry
import Derived.ChangeMaps5
import Derived.SizedLaws
namespace Go.Proofs.YtalopcbjcgbdfaaDoor
open Go.ChangeShapes Go.WideShapes Go.ChangeAt Go.RowKit Go.WideMaps Go.WideElems
open Go.ChangeMaps (open_string)
set_option maxRecDepth 100000

theorem back5_contract (H : Type) (enc : TypeId × Value → H) (F : Stop.Interp) (W : World) (base : Nat) (args : Array Value) (ds gs : List (DataW H)) (before : List MemPlace)
    (hval0 : ∀ (j : Nat) t v, Tryd.f6.params[j]? = some t → args[j]? = some v → Value.okWide Tryd.prog W .any base t v)
    (hW : DataW.Whole enc Tryd.prog Tryd.f6.params.toList (OpenSpec.ofChange Rows.identBackSpec).vars false W args.toList ds gs before)
    (hR : (DataW.weightsEach Tryd.prog (Tryd.f6.params.toList ++ (OpenSpec.ofChange Rows.identBackSpec).bare.plain.varTypes Tryd.prog) (ds ++ gs)).all (· ≤ reachBytes) = true)
    (hL : laidMetH Tryd.prog Rows.identBackRow.laid W) :
    Calls Tryd.prog 6 args W fun e W' => ∃ v, e = .returned v ∧ ((OpenSpec.ofChange Rows.identBackSpec).at F).post enc Tryd.prog Tryd.f6 false true false false W args v W' := by
  have hW' := hW
  have hval : ∀ (j : Nat) t v, Tryd.f6.params[j]? = some t → args[j]? = some v → Value.okWide Tryd.prog W .any base t v := hval0
  obtain ⟨p, q, hA0, hV, rfl, hfz, hnd⟩ := hW
  have hA : DataW.TrodAll enc Tryd.prog W 0 (fun _ => true) true Tryd.f6.params.toList args.toList ds p := hA0
  rw [Tryd.params6] at hA hval hR
  obtain ⟨v0, v1, v2, v3, v4, d0, d1, d2, d3, d4, p0, p1, p2, p3, p4, rfl, rfl, rfl, h0, h1, h2, h3, h4⟩ := trodAll_five hA
  obtain ⟨rfl, rfl⟩ := trodVars_none hV
  have h0k := h0
  have h1k := h1
  have h2k := h2
  have h3k := h3
  have h4k := h4
  obtain ⟨s0, rfl, rfl, rfl, _⟩ := open_string Tryd.underlying9 (hval 0 9 v0 rfl rfl) h0
  obtain ⟨s1, rfl, rfl, rfl, _⟩ := open_string Tryd.underlying9 (hval 1 9 v1 rfl rfl) h1
  obtain ⟨sa2, sl2, sc2, rfl⟩ := okWide_slice Tryd.underlying45 (hval 2 45 v2 rfl rfl)
  obtain ⟨n2, h2⟩ := h2
  obtain ⟨g2, o2, s2, hst2, hxb2, hd2⟩ := open_list Tryd.underlying45 Tryd.underlying3 cellsInt (c := .slice sa2 sl2 sc2) h2
  have hlen2 := list_len hR (j := 2) (T := 45) (E := 3) (xs := s2) (d := d2) rfl Tryd.underlying45 bytesInt rfl hd2
  obtain ⟨sa3, sl3, sc3, rfl⟩ := okWide_slice Tryd.underlying46 (hval 3 46 v3 rfl rfl)
  obtain ⟨n3, h3⟩ := h3
  obtain ⟨g3, o3, s3, hst3⟩ := open_blist h3
  obtain ⟨s4, rfl, rfl, rfl, _⟩ := open_string Tryd.underlying9 (hval 4 9 v4 rfl rfl) h4
  have hz0 : s0.size ≤ 140737488351232 := by
    have h := sized_string hR (j := 0) (t := 9) rfl rfl
    simpa [reachBytes] using h
  have hz1 : s1.size ≤ 140737488351232 := by
    have h := sized_string hR (j := 1) (t := 9) rfl rfl
    simpa [reachBytes] using h
  have hz4 : s4.size ≤ 140737488351232 := by
    have h := sized_string hR (j := 4) (t := 9) rfl rfl
    simpa [reachBytes] using h
  obtain ⟨ef, ed, ei, hf, hd, hi⟩ := errs3 hL
  clear hA0 hval0 hR
  simp only [List.append_nil] at hW'
  refine (back_any ef ed ei s0 s1 s4 sa2 sa3 sl2 sl3 sc2 sc3 g2 g3 o2 o3 _ s3 W hz0 hz1 (ints_list (hst2 (by omega))) hst3 hf hd hi).mono ?_
  rintro e W' ⟨rfl, k⟩
  have bel : Below W.heap.size W W' := k.below
  have hlt := fun x hx => hW'.lt x hx
  refine ⟨_, rfl, _, _, _, [], p2 ++ p3, [], hW', ?_, ?_, ?_, bel.frame _, fun h => by cases h⟩
  · exact trodAll_mk1 (shut_bool Tryd.underlying4 _)
  · have tm := trodAll_mk5 (Below.trod laidOut (by kernel_rfl) (of_decide_eq_true (by kernel_rfl)) h0k bel (fun x hx => by simp at hx)) (Below.trod laidOut (by kernel_rfl) (of_decide_eq_true (by kernel_rfl)) h1k bel (fun x hx => by simp at hx)) (Below.trod laidOut (by kernel_rfl) (of_decide_eq_true (by kernel_rfl)) h2k bel (fun x hx => hlt x (by first | exact hx | simp [hx]))) (Below.trod laidOut (by kernel_rfl) (of_decide_eq_true (by kernel_rfl)) h3k bel (fun x hx => hlt x (by first | exact hx | simp [hx]))) (Below.trod laidOut (by kernel_rfl) (of_decide_eq_true (by kernel_rfl)) h4k bel (fun x hx => by simp at hx))
    simp only [List.append_nil] at tm
    exact tm
  · rfl

/-- The witness: nothing, in a start into which the listed variables are laid. -/
noncomputable def back5Args : Array Value := #[.string ⟨#[]⟩, .string ⟨#[]⟩, .slice none 0 0, .slice none 0 0, .string ⟨#[]⟩]

theorem back5_reads (os : Os) {H : Type} (enc : TypeId × Value → H) : (DataW.whole enc Tryd.prog ((doorB os).forCall (fun _ _ => 0) ⟨#[], back5Args, []⟩).memory Tryd.f6.params.toList (OpenSpec.ofChange Rows.identBackSpec).vars false back5Args.toList 8).map (fun x => (x.1, x.2.1)) =
    some ([.lit (.string []), .lit (.string []), .nil, .nil, .lit (.string [])], []) := by kernel_rfl

theorem back5_lifted (os : Os) (started : os.Started) (H : Type) (enc : TypeId × Value → H) (F : Stop.Interp) :
    ReturnsInHanded {} Tryd.checked os 6 .any ((OpenSpec.ofChange Rows.identBackSpec).preRow enc Tryd.prog Tryd.f6 Rows.identBackRow.domain false Rows.identBackRow.laid) (((OpenSpec.ofChange Rows.identBackSpec).at F).post enc Tryd.prog Tryd.f6 false true false false) := by
  obtain ⟨⟨x1, x2, x3⟩, hx, hx1⟩ := Option.map_eq_some_iff.1 (back5_reads os enc)
  simp only [Prod.mk.injEq] at hx1
  obtain ⟨rfl, rfl⟩ := hx1
  refine returnsInHanded_of_row (C := Tryd.checked) (s := (OpenSpec.ofChange Rows.identBackSpec)) own' started (by kernel_rfl) Tryd.func6
    (witness_laid (enc := enc) (C := Tryd.checked) false (doorB os) back5Args (World.laidAll_os _ _ _) (World.shaped_of_ZipB (by kernel_rfl) (by kernel_rfl)) (by kernel_rfl)
      (OpenSpec.preRow_of_cond 8 hx (by kernel_rfl) (fun k hk => by cases hk) (by kernel_rfl) (doorB_met os back5Args))) ?_
  intro W base args ds gs before hval hW _ _ hR hL _ _
  exact back5_contract H enc F W base args ds gs before hval hW hR hL

theorem back5_said : Rows.IdentBackSaid :=
  OpenClaim.holds_of_cond 6 Tryd.f6 rfl rfl rfl rfl rfl rfl rfl ⟨rfl, rfl, rfl, rfl, rfl⟩ rfl rfl rfl rfl rfl (by kernel_rfl) Tryd.func6 (by kernel_rfl)
    (of_decide_eq_true (by kernel_rfl)) (by unfold Func.isWrapper; rw [if_neg (of_decide_eq_false (by kernel_rfl))]; exact ⟨rfl, rfl⟩)
    (fun os started H enc _ F => by rw [OpenClaim.pre_eq_preRow]; exact back5_lifted os started H enc F)

theorem back5_plain (f : FuncId) (fn : Func) (hf : Tryd.pinned.checked.prog.funcNamed "remit/remitlaw05.IdentBack" = some f) (hfn : Tryd.pinned.checked.prog.funcs[f]? = some fn) :
    true = Tryd.pinned.checked.prog.looks [] ∧ ∀ (j : Nat) t, fn.params[j]? = some t → Tryd.pinned.checked.prog.wantsStandIn t = false := by
  obtain rfl : f = 6 := Option.some.inj ((show Tryd.prog.funcNamed "remit/remitlaw05.IdentBack" = some 6 by kernel_rfl).symm.trans hf) |>.symm
  obtain rfl : fn = Tryd.f6 := (Option.some.inj (Tryd.func6.symm.trans hfn)).symm
  refine ⟨by kernel_rfl, fun j t ht => ?_⟩
  rw [Tryd.params6] at ht
  have hm : t ∈ [9, 9, 45, 46, 9] := by simpa using Array.mem_of_getElem? ht
  have hall : ([9, 9, 45, 46, 9].all fun u => !Tryd.prog.wantsStandIn u) = true := by kernel_rfl
  exact (show Tryd.prog.wantsStandIn t = false by simpa using List.all_eq_true.1 hall t hm)

/-- THE FIRST FORM's CARD OF IdentBack. -/
theorem identBack_card : Rows.IdentBackCardSaid :=
  Claim7.holds_tied_plain_at .later [] _ _ _ _ back5_said (fun _ h => by cases h) (by kernel_rfl) (fun _ h => by cases h) identBack_row_tie rfl ⟨rfl, rfl⟩ (by kernel_rfl) rfl back5_plain (by kernel_rfl)
end Go.Proofs.YtalopcbjcgbdfaaDoor
