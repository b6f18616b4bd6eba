/-
  SectorTears (P7.4): sectors are written one behind the other at one place, under rising stamps, whole or torn or not at all: at every moment what stands there counts under the last stamp just if it is the last sector; and no greater stamp counts. Proved here: the first form's card: for every list of writes and every probe the law answers true and its arguments read as before.
-/
import Derived.Test.YtojcpegdbnnmdaaDoorETears
import Derived.Test.YtojcpegdbnnmdaaDoorEDoor
import Derived.Test.YtojcpegdbnnmdaaDoorCards
import Derived.Test.YtojcpegdbnnmdaaDoorTie
import Derived.Carry
import Derived.ChangeMaps5
import Derived.SizedLaws
namespace Go.Proofs.YtojcpegdbnnmdaaDoor
open Go.ChangeShapes Go.WideShapes Go.ChangeAt Go.RowKit Go.WideMaps Go.WideElems
open Go.ChangeMaps (open_string)
set_option maxRecDepth 100000

theorem tears7_contract (H : Type) (enc : TypeId × Value → H) (F : Stop.Interp) (W : World) (base : Nat) (args : Array Value) (ds gs : List (DataW H)) (before : List MemPlace)
    (hval0 : ∀ (j : Nat) t v, Tryd.f6.params[j]? = some t → args[j]? = some v → Value.okWide Tryd.prog W .any base t v)
    (hW : DataW.Whole enc Tryd.prog Tryd.f6.params.toList (OpenSpec.ofChange Rows.sectorTearsSpec).vars false W args.toList ds gs before)
    (hR : (DataW.weightsEach Tryd.prog (Tryd.f6.params.toList ++ (OpenSpec.ofChange Rows.sectorTearsSpec).bare.plain.varTypes Tryd.prog) (ds ++ gs)).all (· ≤ reachBytes) = true)
    (hL : laidMetH Tryd.prog Rows.sectorTearsRow.laid W) :
    Calls Tryd.prog 6 args W fun e W' => ∃ v, e = .returned v ∧ ((OpenSpec.ofChange Rows.sectorTearsSpec).at F).post enc Tryd.prog Tryd.f6 false true false false W args v W' := by
  have hW' := hW
  have hval : ∀ (j : Nat) t v, Tryd.f6.params[j]? = some t → args[j]? = some v → Value.okWide Tryd.prog W .any base t v := hval0
  obtain ⟨p, q, hA0, hV, rfl, hfz, hnd⟩ := hW
  have hA : DataW.TrodAll enc Tryd.prog W 0 (fun _ => true) true Tryd.f6.params.toList args.toList ds p := hA0
  rw [Tryd.params6] at hA hval hR
  obtain ⟨v0, v1, d0, d1, p0, p1, rfl, rfl, rfl, h0, h1⟩ := trodAll_two hA
  obtain ⟨rfl, rfl⟩ := trodVars_none hV
  have h0k := h0
  have h1k := h1
  obtain ⟨sa0, sl0, sc0, rfl⟩ := okWide_slice Tryd.underlying54 (hval 0 54 v0 rfl rfl)
  obtain ⟨n0, h0⟩ := h0
  obtain ⟨g0, o0, s0, hok0, hst0, hd0⟩ := open_recs (f := Wr7.list) (P := Wr7.Ok) Tryd.underlying54 cellsWrite7 (by decide) (fun o => rfl) write_of_trod (c := .slice sa0 sl0 sc0) h0
  have hlen0 := recs_len Tryd.underlying54 bytesWrite7 (by decide) hR (j := 0) (xs := s0) (d := d0) rfl rfl hd0
  obtain ⟨s1, rfl, rfl, rfl, wf1⟩ := open_int Tryd.underlying24 (hval 1 24 v1 rfl rfl) h1
  obtain ⟨lo1, hi1⟩ := bounds_u64 wf1
  obtain ⟨n1, rfl⟩ := Int.eq_ofNat_of_zero_le lo1
  obtain ⟨⟨er, el, ef, hE⟩, hT⟩ := three_tears hL
  clear hA0 hval0 hR
  simp only [List.append_nil] at hW'
  refine (tears_any er el ef _ g0 o0 n1 s0 W (by omega) hok0 (hst0 hlen0) hE hT).mono ?_
  rintro e W' ⟨rfl, k⟩
  have bel : Below W.heap.size W W' := k.below
  have hlt := fun x hx => hW'.lt x hx
  refine ⟨_, rfl, _, _, _, [], p0, [], hW', ?_, ?_, ?_, bel.frame _, fun h => by cases h⟩
  · exact trodAll_mk1 (shut_bool Tryd.underlying4 _)
  · have tm := trodAll_mk2 (Below.trod laidOut (by kernel_rfl) (of_decide_eq_true (by kernel_rfl)) h0k bel (fun x hx => hlt x (by first | exact hx | simp [hx]))) (Below.trod laidOut (by kernel_rfl) (of_decide_eq_true (by kernel_rfl)) h1k bel (fun x hx => by simp at hx))
    simp only [List.append_nil] at tm
    exact tm
  · rfl

/-- The witness: nothing, in a start into which the listed variables are laid. -/
noncomputable def tears7Args : Array Value := #[.slice none 0 0, .int .u64 0]

theorem tears7_reads (os : Os) {H : Type} (enc : TypeId × Value → H) : (DataW.whole enc Tryd.prog ((doorB os).forCall (fun _ _ => 0) ⟨#[], tears7Args, []⟩).memory Tryd.f6.params.toList (OpenSpec.ofChange Rows.sectorTearsSpec).vars false tears7Args.toList 8).map (fun x => (x.1, x.2.1)) =
    some ([.nil, .lit (.int .u64 0)], []) := by kernel_rfl

theorem tears7_lifted (os : Os) (started : os.Started) (H : Type) (enc : TypeId × Value → H) (F : Stop.Interp) :
    ReturnsInHanded {} Tryd.checked os 6 .any ((OpenSpec.ofChange Rows.sectorTearsSpec).preRow enc Tryd.prog Tryd.f6 Rows.sectorTearsRow.domain false Rows.sectorTearsRow.laid) (((OpenSpec.ofChange Rows.sectorTearsSpec).at F).post enc Tryd.prog Tryd.f6 false true false false) := by
  obtain ⟨⟨x1, x2, x3⟩, hx, hx1⟩ := Option.map_eq_some_iff.1 (tears7_reads os enc)
  simp only [Prod.mk.injEq] at hx1
  obtain ⟨rfl, rfl⟩ := hx1
  refine returnsInHanded_of_row (C := Tryd.checked) (s := (OpenSpec.ofChange Rows.sectorTearsSpec)) own' started (by kernel_rfl) Tryd.func6
    (witness_laid (enc := enc) (C := Tryd.checked) false (doorB os) tears7Args (World.laidAll_os _ _ _) (World.shaped_of_ZipB (by kernel_rfl) (by kernel_rfl)) (by kernel_rfl)
      (OpenSpec.preRow_of_cond 8 hx (by kernel_rfl) (fun k hk => by cases hk) (by kernel_rfl) (doorB_met os tears7Args))) ?_
  intro W base args ds gs before hval hW _ _ hR hL _ _
  exact tears7_contract H enc F W base args ds gs before hval hW hR hL

theorem tears7_said : Rows.SectorTearsSaid :=
  OpenClaim.holds_of_cond 6 Tryd.f6 rfl rfl rfl rfl rfl rfl rfl ⟨rfl, rfl, rfl, rfl, rfl⟩ rfl rfl rfl rfl rfl (by kernel_rfl) Tryd.func6 (by kernel_rfl)
    (of_decide_eq_true (by kernel_rfl)) (by unfold Func.isWrapper; rw [if_neg (of_decide_eq_false (by kernel_rfl))]; exact ⟨rfl, rfl⟩)
    (fun os started H enc _ F => by rw [OpenClaim.pre_eq_preRow]; exact tears7_lifted os started H enc F)

theorem tears7_plain (f : FuncId) (fn : Func) (hf : Tryd.pinned.checked.prog.funcNamed "remit/remitlaw07.SectorTears" = some f) (hfn : Tryd.pinned.checked.prog.funcs[f]? = some fn) :
    true = Tryd.pinned.checked.prog.looks [] ∧ ∀ (j : Nat) t, fn.params[j]? = some t → Tryd.pinned.checked.prog.wantsStandIn t = false := by
  obtain rfl : f = 6 := Option.some.inj ((show Tryd.prog.funcNamed "remit/remitlaw07.SectorTears" = some 6 by kernel_rfl).symm.trans hf) |>.symm
  obtain rfl : fn = Tryd.f6 := (Option.some.inj (Tryd.func6.symm.trans hfn)).symm
  refine ⟨by kernel_rfl, fun j t ht => ?_⟩
  rw [Tryd.params6] at ht
  have hm : t ∈ [54, 24] := by simpa using Array.mem_of_getElem? ht
  have hall : ([54, 24].all fun u => !Tryd.prog.wantsStandIn u) = true := by kernel_rfl
  exact (show Tryd.prog.wantsStandIn t = false by simpa using List.all_eq_true.1 hall t hm)

/-- THE FIRST FORM's CARD OF SectorTears. -/
theorem sectorTears_card : Rows.SectorTearsCardSaid :=
  Claim7.holds_tied_plain_at .later [] _ _ _ _ tears7_said (fun _ h => by cases h) (by kernel_rfl) (fun _ h => by cases h) sectorTears_row_tie rfl ⟨rfl, rfl⟩ (by kernel_rfl) rfl tears7_plain (by kernel_rfl)
end Go.Proofs.YtojcpegdbnnmdaaDoor
