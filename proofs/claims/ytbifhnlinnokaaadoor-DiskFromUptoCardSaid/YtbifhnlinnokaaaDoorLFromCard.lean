/-
  DiskFrom (P6.1): every call over a disk of durable bytes answers what the document says, in every order of calls. Proved here: the second form's card: for every image and every script of bulk at most 1048576 the law answers true and its arguments read as before.
-/
import Derived.Test.YtbifhnlinnokaaaDoorLFrom
import Derived.Test.YtbifhnlinnokaaaDoorLLift
import Derived.Test.YtbifhnlinnokaaaDoorLDoor2
import Derived.Test.YtbifhnlinnokaaaDoorCards
import Derived.Test.YtbifhnlinnokaaaDoorTie
import Derived.Carry
import Derived.ChangeMaps5
import Derived.SizedLaws
namespace Go.Proofs.YtbifhnlinnokaaaDoor
open Go.ChangeShapes Go.WideShapes Go.ChangeAt Go.RowKit Go.WideMaps Go.WideElems Go.Joins
open Go.ChangeMaps (open_string)
set_option maxRecDepth 100000

theorem from6_contract (H : Type) (enc : TypeId × Value → H) (F : Stop.Interp) (W : World) (base : Nat) (args : Array Value) (ds gs : List (DataW H)) (before : List MemPlace)
    (hval0 : ∀ (j : Nat) t v, Tryd.f4.params[j]? = some t → args[j]? = some v → Value.okWide Tryd.prog W .any base t v)
    (hW : DataW.Whole enc Tryd.prog Tryd.f4.params.toList (Rows.OpenSpec.upto Rows.diskFromSpec).vars false W args.toList ds gs before) (hk : Rows.uptoSmall H (ds ++ gs) = true)
    (hL : laidMetH Tryd.prog Rows.diskFromUptoRow.laid W) :
    Calls Tryd.prog 4 args W fun e W' => ∃ v, e = .returned v ∧ ((Rows.OpenSpec.upto Rows.diskFromSpec).at F).post enc Tryd.prog Tryd.f4 false true false false W args v W' := by
  have hW' := hW
  have hval : ∀ (j : Nat) t v, Tryd.f4.params[j]? = some t → args[j]? = some v → Value.okWide Tryd.prog W .any base t v := hval0
  obtain ⟨p, q, hA0, hV, rfl, hfz, hnd⟩ := hW
  have hA : DataW.TrodAll enc Tryd.prog W 0 (fun _ => true) true Tryd.f4.params.toList args.toList ds p := hA0
  rw [Tryd.params4] at hA hval
  obtain ⟨v0, v1, d0, d1, p0, p1, rfl, rfl, rfl, h0, h1⟩ := trodAll_two hA
  obtain ⟨rfl, rfl⟩ := trodVars_none hV
  have h0k := h0
  have h1k := h1
  have hb : Rows.uptoBulk d0 + (Rows.uptoBulk d1 + 0) ≤ 1048576 := by
    have h := of_decide_eq_true hk
    simpa only [List.append_nil, Rows.uptoBulkAll] using h
  have bS0 : Rows.uptoBulk d0 ≤ 1048576 := by omega
  obtain ⟨s0, rfl, rfl, rfl, _⟩ := open_string Tryd.underlying9 (hval 0 9 v0 rfl rfl) h0
  have hz0 : s0.size ≤ 1048576 := by
    simp only [Rows.uptoBulk] at bS0
    have e : s0.size = s0.data.toList.length := rfl
    omega
  obtain ⟨sa1, sl1, sc1, rfl⟩ := okWide_slice Tryd.underlying22 (hval 1 22 v1 rfl rfl)
  obtain ⟨n1, h1⟩ := h1
  obtain ⟨g1, o1, s1, hst1⟩ := open_script (c := .slice sa1 sl1 sc1) h1 (by simp only; omega)
  obtain ⟨ad, hE⟩ := errs_From hL
  clear hA0 hval0 hk
  simp only [List.append_nil] at hW'
  refine (fromLaw_any ad s0 _ g1 o1 s1 W hz0 hE hst1).mono ?_
  rintro e W' ⟨rfl, k⟩
  have bel : Below W.heap.size W W' := k.below
  have hlt := fun x hx => hW'.lt x hx
  refine ⟨_, rfl, _, _, _, [], p1, [], hW', ?_, ?_, ?_, bel.frame _, fun h => by cases h⟩
  · exact trodAll_mk1 (shut_bool Tryd.underlying4 _)
  · have tm := trodAll_mk2 (Below.trod laidOut (by kernel_rfl) (of_decide_eq_true (by kernel_rfl)) h0k bel (fun x hx => by simp at hx)) (Below.trod laidOut (by kernel_rfl) (of_decide_eq_true (by kernel_rfl)) h1k bel (fun x hx => hlt x (by first | exact hx | simp [hx])))
    first | exact tm | (simp only [List.nil_append, List.append_nil, List.append_assoc] at tm ⊢; exact tm)
  · rfl

/-- The witness: nothing, in a start into which the listed variables are laid. -/
noncomputable def from6Args : Array Value := #[.string ⟨#[]⟩, .slice none 0 0]

theorem from6_reads (os : Os) {H : Type} (enc : TypeId × Value → H) : (DataW.whole enc Tryd.prog ((doorFrom os).forCall (fun _ _ => 0) ⟨#[], from6Args, []⟩).memory Tryd.f4.params.toList (Rows.OpenSpec.upto Rows.diskFromSpec).vars false from6Args.toList 8).map (fun x => (x.1, x.2.1)) =
    some ([.lit (.string []), .nil], []) := by kernel_rfl

theorem from6_lifted (os : Os) (started : os.Started) (H : Type) (enc : TypeId × Value → H) (F : Stop.Interp) :
    ReturnsInHanded {} Tryd.checked os 4 .any ((Rows.OpenSpec.upto Rows.diskFromSpec).preRow enc Tryd.prog Tryd.f4 Rows.diskFromUptoRow.domain false Rows.diskFromUptoRow.laid) (((Rows.OpenSpec.upto Rows.diskFromSpec).at F).post enc Tryd.prog Tryd.f4 false true false false) := by
  obtain ⟨⟨x1, x2, x3⟩, hx, hx1⟩ := Option.map_eq_some_iff.1 (from6_reads os enc)
  simp only [Prod.mk.injEq] at hx1
  obtain ⟨rfl, rfl⟩ := hx1
  refine returnsInHanded_of_row (C := Tryd.checked) (s := (Rows.OpenSpec.upto Rows.diskFromSpec)) own' started (by kernel_rfl) Tryd.func4
    (witness_laid (enc := enc) (C := Tryd.checked) false (doorFrom os) from6Args (World.laidAll_os _ _ _) (World.shaped_of_ZipB (by kernel_rfl) (by kernel_rfl)) (by kernel_rfl)
      (OpenSpec.preRow_of_cond 8 hx (by kernel_rfl) (fun k hk => by cases hk; kernel_rfl) (by kernel_rfl) (doorFrom_met os from6Args))) ?_
  intro W base args ds gs before hval hW _ hcond _ hL _ _
  exact from6_contract H enc F W base args ds gs before hval hW (hcond _ rfl) hL

theorem from6_said : Rows.DiskFromUptoSaid :=
  OpenClaim.holds_of_cond 4 Tryd.f4 rfl rfl rfl rfl rfl rfl rfl ⟨rfl, rfl, rfl, rfl, rfl⟩ rfl rfl rfl rfl rfl (by kernel_rfl) Tryd.func4 (by kernel_rfl)
    (of_decide_eq_true (by kernel_rfl)) (by unfold Func.isWrapper; rw [if_neg (of_decide_eq_false (by kernel_rfl))]; exact ⟨rfl, rfl⟩)
    (fun os started H enc _ F => by rw [OpenClaim.pre_eq_preRow]; exact from6_lifted os started H enc F)

theorem from6_plain (f : FuncId) (fn : Func) (hf : Tryd.pinned.checked.prog.funcNamed "remit/remitlaw06.DiskFrom" = some f) (hfn : Tryd.pinned.checked.prog.funcs[f]? = some fn) :
    true = Tryd.pinned.checked.prog.looks [] ∧ ∀ (j : Nat) t, fn.params[j]? = some t → Tryd.pinned.checked.prog.wantsStandIn t = false := by
  obtain rfl : f = 4 := Option.some.inj ((show Tryd.prog.funcNamed "remit/remitlaw06.DiskFrom" = some 4 by kernel_rfl).symm.trans hf) |>.symm
  obtain rfl : fn = Tryd.f4 := (Option.some.inj (Tryd.func4.symm.trans hfn)).symm
  refine ⟨by kernel_rfl, fun j t ht => ?_⟩
  rw [Tryd.params4] at ht
  have hm : t ∈ [9, 22] := by simpa using Array.mem_of_getElem? ht
  have hall : ([9, 22].all fun u => !Tryd.prog.wantsStandIn u) = true := by kernel_rfl
  exact (show Tryd.prog.wantsStandIn t = false by simpa using List.all_eq_true.1 hall t hm)

/-- THE SECOND FORM's CARD OF DiskFrom. -/
theorem diskFrom_card : Rows.DiskFromUptoCardSaid :=
  Claim7.holds_tied_plain_at .later [] _ _ _ _ from6_said (fun _ h => by cases h) (by kernel_rfl) (fun _ h => by cases h) diskFromUpto_row_tie rfl ⟨rfl, rfl⟩ (by kernel_rfl) rfl from6_plain (by kernel_rfl)
end Go.Proofs.YtbifhnlinnokaaaDoor
