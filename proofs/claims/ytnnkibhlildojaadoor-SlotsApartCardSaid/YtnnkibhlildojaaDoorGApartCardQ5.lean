/-
  SlotsApart (P8.1): slots at one place don't see what is written at another one, and no write touches another sector. Proved here: the first form's card: for every lists of values and places the law answers true and its arguments read as before.
-/
import Derived.Test.YtnnkibhlildojaaDoorGApartQ5
import Derived.Test.YtnnkibhlildojaaDoorGDoorBQ5
import Derived.Test.YtnnkibhlildojaaDoorGLiftQ5
import Derived.Test.YtnnkibhlildojaaDoorTrod
import Derived.Test.YtnnkibhlildojaaDoorCards
import Derived.Test.YtnnkibhlildojaaDoorTie
import Derived.Carry
import Derived.ChangeMaps5
import Derived.SizedLaws
namespace Go.Proofs.YtnnkibhlildojaaDoor
open Go.ChangeShapes Go.WideShapes Go.ChangeAt Go.RowKit Go.WideMaps Go.WideElems
open Go.ChangeMaps (open_string)
set_option maxRecDepth 100000

theorem apart8_contract (H : Type) (enc : TypeId × Value → H) (F : Stop.Interp) (W : World) (base : Nat) (args : Array Value) (ds gs : List (DataW H)) (before : List MemPlace)
    (hval0 : ∀ (j : Nat) t v, Tryd.f6.params[j]? = some t → args[j]? = some v → Value.okWide Tryd.prog W .any base t v)
    (hW : DataW.Whole enc Tryd.prog Tryd.f6.params.toList (OpenSpec.ofChange Rows.slotsApartSpec).vars false W args.toList ds gs before)
    (hR : (DataW.weightsEach Tryd.prog (Tryd.f6.params.toList ++ (OpenSpec.ofChange Rows.slotsApartSpec).bare.plain.varTypes Tryd.prog) (ds ++ gs)).all (· ≤ reachBytes) = true)
    (hL : laidMetH Tryd.prog Rows.slotsApartRow.laid W) :
    Calls Tryd.prog 6 args W fun e W' => ∃ v, e = .returned v ∧ ((OpenSpec.ofChange Rows.slotsApartSpec).at F).post enc Tryd.prog Tryd.f6 false true false false W args v W' := by
  have hW' := hW
  have hval : ∀ (j : Nat) t v, Tryd.f6.params[j]? = some t → args[j]? = some v → Value.okWide Tryd.prog W .any base t v := hval0
  obtain ⟨p, q, hA0, hV, rfl, hfz, hnd⟩ := hW
  have hA : DataW.TrodAll enc Tryd.prog W 0 (fun _ => true) true Tryd.f6.params.toList args.toList ds p := hA0
  rw [Tryd.params6] at hA hval hR
  obtain ⟨v0, v1, d0, d1, p0, p1, rfl, rfl, rfl, h0, h1⟩ := trodAll_two hA
  obtain ⟨rfl, rfl⟩ := trodVars_none hV
  have h0k := h0
  have h1k := h1
  obtain ⟨sa0, sl0, sc0, rfl⟩ := okWide_slice Tryd.underlying53 (hval 0 53 v0 rfl rfl)
  obtain ⟨n0, h0⟩ := h0
  obtain ⟨g0, o0, s0, hok0, hst0, hd0⟩ := open_recs (f := (fun s : ByteArray => [Value.string s])) (P := (fun _ => True)) Tryd.underlying53 cellsStr (by decide) (fun o => rfl) text_of_trod (c := .slice sa0 sl0 sc0) h0
  have hlen0 := recs_len Tryd.underlying53 bytesStr (by decide) hR (j := 0) (xs := s0) (d := d0) rfl rfl hd0
  obtain ⟨sa1, sl1, sc1, rfl⟩ := okWide_slice Tryd.underlying44 (hval 1 44 v1 rfl rfl)
  obtain ⟨n1, h1⟩ := h1
  obtain ⟨l1, hB1⟩ := bools_of_trod8 h1
  obtain ⟨⟨ad, hE⟩, hT⟩ := errs_apart hL
  clear hA0 hval0 hR
  simp only [List.append_nil] at hW'
  refine (apart8_any ad _ _ g0 o0 s0 l1 W (hst0 hlen0) hB1 hE hT).mono ?_
  rintro e W' ⟨rfl, k⟩
  have bel : Below W.heap.size W W' := k.below
  have hlt := fun x hx => hW'.lt x hx
  refine ⟨_, rfl, _, _, _, [], p0 ++ p1, [], hW', ?_, ?_, ?_, bel.frame _, fun h => by cases h⟩
  · exact trodAll_mk1 (shut_bool Tryd.underlying4 _)
  · have tm := trodAll_mk2 (Below.trod laidOut (by kernel_rfl) (of_decide_eq_true (by kernel_rfl)) h0k bel (fun x hx => hlt x (by first | exact hx | simp [hx]))) (Below.trod laidOut (by kernel_rfl) (of_decide_eq_true (by kernel_rfl)) h1k bel (fun x hx => hlt x (by first | exact hx | simp [hx])))
    first | exact tm | (simp only [List.nil_append, List.append_nil, List.append_assoc] at tm ⊢; exact tm)
  · rfl

/-- The witness: nothing, in a start into which the listed variables are laid. -/
noncomputable def apart8Args : Array Value := #[.slice none 0 0, .slice none 0 0]

theorem apart8_reads (os : Os) {H : Type} (enc : TypeId × Value → H) : (DataW.whole enc Tryd.prog ((doorB os).forCall (fun _ _ => 0) ⟨#[], apart8Args, []⟩).memory Tryd.f6.params.toList (OpenSpec.ofChange Rows.slotsApartSpec).vars false apart8Args.toList 8).map (fun x => (x.1, x.2.1)) =
    some ([.nil, .nil], []) := by kernel_rfl

theorem apart8_lifted (os : Os) (started : os.Started) (H : Type) (enc : TypeId × Value → H) (F : Stop.Interp) :
    ReturnsInHanded {} Tryd.checked os 6 .any ((OpenSpec.ofChange Rows.slotsApartSpec).preRow enc Tryd.prog Tryd.f6 Rows.slotsApartRow.domain false Rows.slotsApartRow.laid) (((OpenSpec.ofChange Rows.slotsApartSpec).at F).post enc Tryd.prog Tryd.f6 false true false false) := by
  obtain ⟨⟨x1, x2, x3⟩, hx, hx1⟩ := Option.map_eq_some_iff.1 (apart8_reads os enc)
  simp only [Prod.mk.injEq] at hx1
  obtain ⟨rfl, rfl⟩ := hx1
  refine returnsInHanded_of_row (C := Tryd.checked) (s := (OpenSpec.ofChange Rows.slotsApartSpec)) own' started (by kernel_rfl) Tryd.func6
    (witness_laid (enc := enc) (C := Tryd.checked) false (doorB os) apart8Args (World.laidAll_os _ _ _) (World.shaped_of_ZipB (by kernel_rfl) (by kernel_rfl)) (by kernel_rfl)
      (OpenSpec.preRow_of_cond 8 hx (by kernel_rfl) (fun k hk => by cases hk) (by kernel_rfl) (doorB_met os apart8Args))) ?_
  intro W base args ds gs before hval hW _ _ hR hL _ _
  exact apart8_contract H enc F W base args ds gs before hval hW hR hL

theorem apart8_said : Rows.SlotsApartSaid :=
  OpenClaim.holds_of_cond 6 Tryd.f6 rfl rfl rfl rfl rfl rfl rfl ⟨rfl, rfl, rfl, rfl, rfl⟩ rfl rfl rfl rfl rfl (by kernel_rfl) Tryd.func6 (by kernel_rfl)
    (of_decide_eq_true (by kernel_rfl)) (by unfold Func.isWrapper; rw [if_neg (of_decide_eq_false (by kernel_rfl))]; exact ⟨rfl, rfl⟩)
    (fun os started H enc _ F => by rw [OpenClaim.pre_eq_preRow]; exact apart8_lifted os started H enc F)

theorem apart8_plain (f : FuncId) (fn : Func) (hf : Tryd.pinned.checked.prog.funcNamed "remit/remitlaw08.SlotsApart" = some f) (hfn : Tryd.pinned.checked.prog.funcs[f]? = some fn) :
    true = Tryd.pinned.checked.prog.looks [] ∧ ∀ (j : Nat) t, fn.params[j]? = some t → Tryd.pinned.checked.prog.wantsStandIn t = false := by
  obtain rfl : f = 6 := Option.some.inj ((show Tryd.prog.funcNamed "remit/remitlaw08.SlotsApart" = some 6 by kernel_rfl).symm.trans hf) |>.symm
  obtain rfl : fn = Tryd.f6 := (Option.some.inj (Tryd.func6.symm.trans hfn)).symm
  refine ⟨by kernel_rfl, fun j t ht => ?_⟩
  rw [Tryd.params6] at ht
  have hm : t ∈ [53, 44] := by simpa using Array.mem_of_getElem? ht
  have hall : ([53, 44].all fun u => !Tryd.prog.wantsStandIn u) = true := by kernel_rfl
  exact (show Tryd.prog.wantsStandIn t = false by simpa using List.all_eq_true.1 hall t hm)

/-- THE FIRST FORM's CARD OF SlotsApart. -/
theorem slotsApart_card : Rows.SlotsApartCardSaid :=
  Claim7.holds_tied_plain_at .later [] _ _ _ _ apart8_said (fun _ h => by cases h) (by kernel_rfl) (fun _ h => by cases h) slotsApart_row_tie rfl ⟨rfl, rfl⟩ (by kernel_rfl) rfl apart8_plain (by kernel_rfl)
end Go.Proofs.YtnnkibhlildojaaDoor
