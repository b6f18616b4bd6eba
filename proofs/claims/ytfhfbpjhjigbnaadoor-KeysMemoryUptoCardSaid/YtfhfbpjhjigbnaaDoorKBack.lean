/-
  The contract of remitlaw02.KeysBack: it answers true.
-/
import Derived.Test.YtfhfbpjhjigbnaaDoorKHeads
import Derived.Test.YtfhfbpjhjigbnaaDoorKSplit
import Derived.Test.YtfhfbpjhjigbnaaDoorKClean
import Derived.LaidEql
namespace Go.Proofs.YtfhfbpjhjigbnaaDoor
open Go.RowKit Go.WideShapes
set_option maxRecDepth 100000

theorem back_map (a : List K.PartD) : (a.map ofPart).map PD.part = a := by
  rw [List.map_map]
  conv => rhs; rw [← List.map_id a]
  apply List.map_congr_left
  intro p _
  exact part_ofPart p
theorem same_back (ps : List PD) : sameB ((ps.map PD.part).map ofPart) ps = true := by rw [sameB_iff, back_map]
theorem clean_back (a : List K.PartD) : ∀ p ∈ a.map ofPart, p.plain = p := by
  intro p hp
  obtain ⟨q, _, rfl⟩ := List.mem_map.1 hp
  exact plain_ofPart q
theorem form_le_join {a : List K.PartD} {p : K.PartD} (h : p ∈ a) : (K.formB p).length ≤ (K.joinB a).length := by
  induction a with
  | nil => cases h
  | cons q r ih =>
    rw [K.joinB, List.length_append]
    rcases List.mem_cons.1 h with rfl | h
    · omega
    · have := ih h; omega
theorem ok_ofPart {p : K.PartD} (h : p.Ok) (hl : (K.formB p).length ≤ 4194304) : (ofPart p).Ok := by
  cases p with
  | num n => exact ⟨h.1, h.2, by simp [ofPart, ByteArray.size]⟩
  | txt s =>
    refine ⟨by simp [ofPart], by simp [ofPart], ?_⟩
    have h1 := K.escB_length_ge s
    rw [formB_txt] at hl
    simp only [List.length_append, List.length_cons, List.length_nil] at hl
    show (⟨s.toArray⟩ : ByteArray).size ≤ 4194304
    rw [size_list]; omega
theorem ok_split {l : List UInt8} {a : List K.PartD} (h : K.splitB l = some a) (hl : l.length ≤ 4194304) : (∀ p ∈ a.map ofPart, p.Ok) ∧ l = K.joinB a := by
  obtain ⟨h1, h2⟩ := K.splitN_inv h
  refine ⟨fun p hp => ?_, h2⟩
  obtain ⟨q, hq, rfl⟩ := List.mem_map.1 hp
  exact ok_ofPart (h1 q hq) (by have := form_le_join hq; rw [← h2] at this; omega)

theorem NewParts.shape {B : Nat} {W : World} {v : Value} {ps : List PD} (h : NewParts B W v ps) : (ps = [] ∧ v = .slice none 0 0) ∨ ∃ g cap, v = .slice (some ⟨g, 0, none⟩) ps.length cap ∧ ps.length ≤ cap ∧ cap ≤ maxLen ∧ B ≤ g := by
  rcases h.own.2 with ⟨rfl, h0⟩ | ⟨g, cap, cur, rfl, _, hg, hnc, hcm, _⟩
  · exact .inl ⟨List.eq_nil_of_length_eq_zero h0, rfl⟩
  · exact .inr ⟨g, cap, rfl, hnc, hcm, h.new g rfl⟩
theorem NewParts.at_ {B : Nat} {W : World} {g cap : Nat} {ps : List PD} (h : NewParts B W (.slice (some ⟨g, 0, none⟩) ps.length cap) ps) (hl : ps.length ≤ 4194304) : Parts W (.slice (some ⟨g, 0, none⟩) ps.length cap) g 0 ps := by
  obtain ⟨g', hp, hg⟩ := h.parts hl
  by_cases hne : ps = []
  · subst hne; exact ⟨⟨_, cap, rfl, fun _ => rfl⟩, by simp, fun k p hk => by simp at hk⟩
  · have := hg hne
    injection this with this
    subst this
    exact hp

/-- What Split makes of a key. -/
theorem split_key (ef : Addr) (m : Int) (s : ByteArray) (a : List K.PartD) (hs : s.data.toList = K.joinB a) (ha : ∀ p ∈ a, p.Ok) (w : World) (hE : ErrF ef w) (hm : MaxL m w) (hl : s.size ≤ 4194304) :
    Calls Tryd.prog 16 #[.string s] w fun e w' => ∃ v, e = .returned (.tuple #[v, .nilIface]) ∧ NewParts w.heap.size w' v (a.map ofPart) ∧ a.length ≤ 4194304 ∧ Qt w w' := by
  refine (split_any ef m s w hE hm hl).mono ?_
  have hk : K.splitB s.data.toList = some a := by rw [hs]; exact K.splitB_join ha
  have hsz : s.data.toList.length = s.size := rfl
  rintro e w' ⟨k, ⟨ps, v, hp, hlp, hn, rfl⟩ | ⟨hn, _⟩⟩
  · rw [hk] at hp
    cases hp
    exact ⟨v, rfl, hn, by omega, k⟩
  · rw [hk] at hn; cases hn

set_option maxHeartbeats 6400000 in
theorem back_any (ef : Addr) (m : Int) (v v2 : Value) (g off g2 off2 : Nat) (ps qs : List PD) (key : ByteArray) (w : World) (hE : ErrF ef w) (hm : MaxL m w) (hs : Parts w v g off ps) (ht : Parts w v2 g2 off2 qs) (hp : ∀ p ∈ ps, p.Ok) (hq : ∀ p ∈ qs, p.Ok)
    (hl : (K.joinB (ps.map PD.part)).length + (K.joinB (qs.map PD.part)).length ≤ 4194304) (hk : key.size ≤ 4194304) (hpl : ps.length ≤ 1048576) (hql : qs.length ≤ 1048576) :
    Calls Tryd.prog 6 #[v, v2, .string key] w fun e w' => e = .returned (.bool true) ∧ Qt w w' := by
  obtain ⟨i, hi, hcmp⟩ := Option.map_eq_some_iff.1 compErr
  obtain ⟨j, hj, hjs⟩ := Option.map_eq_some_iff.1 sizeErr
  have HE := Lib.hid (fun W (k : Qt w W) => show ErrF ef W from k.cellv hE)
  have HM := Lib.hid (fun W (k : Qt w W) => show MaxL m W from k.cellv hm)
  have Ja := Lib.hid (fun W (k : Qt w W) => join_any m v g off ps W (k.cellv hm) (hs.qt k) hp (by omega))
  have Jb := Lib.hid (fun W (k : Qt w W) => join_any m v2 g2 off2 qs W (k.cellv hm) (ht.qt k) hq (by omega))
  have Li := Lib.hid (lives_any m w hm)
  have HS := Lib.hid (fun W (k : Qt w W) => hs.qt k)
  have HT := Lib.hid (fun W (k : Qt w W) => ht.qt k)
  have hx : (⟨(K.joinB (ps.map PD.part)).toArray⟩ : ByteArray).data.toList = K.joinB (ps.map PD.part) := rfl
  have hxy : ((⟨(K.joinB (ps.map PD.part)).toArray⟩ : ByteArray) ++ ⟨(K.joinB (qs.map PD.part)).toArray⟩).data.toList = K.joinB (ps.map PD.part ++ qs.map PD.part) := by rw [K.joinB_append]; simp
  have hxs : (⟨(K.joinB (ps.map PD.part)).toArray⟩ : ByteArray).size = (K.joinB (ps.map PD.part)).length := rfl
  have hxys : ((⟨(K.joinB (ps.map PD.part)).toArray⟩ : ByteArray) ++ ⟨(K.joinB (qs.map PD.part)).toArray⟩).size = (K.joinB (ps.map PD.part)).length + (K.joinB (qs.map PD.part)).length := by rw [ByteArray.size_append]; rfl
  have Sx := Lib.hid (fun W (k : Qt w W) => split_key ef m _ _ hx (ok_parts hp) W (k.cellv hE) (k.cellv hm) (by rw [hxs]; omega))
  have Sxy := Lib.hid (fun W (k : Qt w W) => split_key ef m _ _ hxy (by intro p hp'; rcases List.mem_append.1 hp' with h | h; exact ok_parts hp p h; exact ok_parts hq p h) W (k.cellv hE) (k.cellv hm) (by rw [hxys]; omega))
  have Sk := Lib.hid (fun W (k : Qt w W) => split_any ef m key W (k.cellv hE) (k.cellv hm) hk)
  obtain ⟨a, cap, rfl, ha⟩ := hs.val
  obtain ⟨a2, cap2, rfl, ha2⟩ := ht.val
  have hcat : (⟨(K.joinB (ps.map PD.part)).toArray⟩ : ByteArray).size + (⟨(K.joinB (qs.map PD.part)).toArray⟩ : ByteArray).size ≤ 4194304 := by rw [size_list, size_list]; exact hl
  generalize (⟨(K.joinB (ps.map PD.part)).toArray⟩ : ByteArray) = X at *
  generalize (⟨(K.joinB (qs.map PD.part)).toArray⟩ : ByteArray) = Y at *
  clear hE hm hs ht hp hq hx hxy hxs hxys ha ha2 hl hjs
  go_enter Tryd.func6, Tryd.ntmps6
  go_wp2_with fail
  refine Li.out.mono ?_
  rintro e w1 ⟨rfl, k1⟩
  have K1 := Lib.hid k1; clear k1
  go_wp2_with fail
  refine (Ja.out _ K1.out).mono ?_
  rintro e w2 ⟨rfl, k2⟩
  have K2 := Lib.hid (Qt.trans K1.out k2); clear k2 K1
  go_wp2_with fail
  refine (Sx.out _ K2.out).mono ?_
  rintro e w3 ⟨xv, rfl, hxn, hxl, k3⟩
  have K3 := Lib.hid (Qt.trans K2.out k3); clear k3 K2
  obtain ⟨gx, hxp, _⟩ := hxn.parts (by rw [List.length_map]; omega)
  have Hxp := Lib.hid hxp
  clear hxn hxp hxl
  go_wp2_with fail
  have q := same_any xv _ gx 0 g off _ ps w3 Hxp.out (HS.out _ K3.out)
  rw [same_back] at q
  refine q.mono ?_
  rintro e w4 ⟨rfl, k4⟩
  have K4 := Lib.hid k4; clear k4 q
  go_wp2_with fail
  refine (clean_any xv gx 0 _ w4 (Hxp.out.qt K4.out) (clean_back _)).mono ?_
  rintro e w5 ⟨rfl, k5⟩
  have K5 := Lib.hid (Qt.trans K3.out (Qt.trans K4.out k5)); clear k5 K4 K3 Hxp
  go_wp2_with fail
  refine (Ja.out _ K5.out).mono ?_
  rintro e w6 ⟨rfl, k6⟩
  have K6 := Lib.hid (Qt.trans K5.out k6); clear k6 K5
  go_wp2_with fail
  refine (Jb.out _ K6.out).mono ?_
  rintro e w7 ⟨rfl, k7⟩
  have K7 := Lib.hid (Qt.trans K6.out k7); clear k7 K6
  go_wp2_with fail
  refine (Sxy.out _ K7.out).mono ?_
  rintro e w8 ⟨yv, rfl, hyn, hyl, k8⟩
  have K8 := Lib.hid (Qt.trans K7.out k8); clear k8 K7
  clear Sx Sxy Ja Jb Li
  have hylen : ((ps.map PD.part ++ qs.map PD.part).map ofPart).length = ps.length + qs.length := by simp
  rcases hyn.shape with ⟨hnil, rfl⟩ | ⟨gy, capy, rfl, hcy, hcm, _⟩
  · have h1 : ps = [] := by simp at hnil; exact hnil.1
    have h2 : qs = [] := by simp at hnil; exact hnil.2
    subst h1 h2
    clear hnil hyn hyl hylen hcat
    go_wp2_with fail
    have q := same_any (.slice none 0 0) (.slice a 0 cap) 0 0 g off [] [] w8 (Parts.nil w8) (HS.out _ K8.out)
    refine q.mono ?_
    rintro e wa ⟨rfl, ka⟩
    have Ka := Lib.hid (Qt.trans K8.out ka)
    clear ka q
    rw [show sameB [] [] = true from rfl]
    go_wp2_with fail
    have q := same_any (.slice none 0 0) (.slice a2 0 cap2) 0 0 g2 off2 [] [] wa (Parts.nil wa) (HT.out _ Ka.out)
    refine q.mono ?_
    rintro e wb ⟨rfl, kb⟩
    have Kb := Lib.hid (Qt.trans Ka.out kb)
    clear kb q
    rw [show sameB [] [] = true from rfl]
    go_wp2_with fail
    refine (Sk.out _ Kb.out).mono ?_
    rintro e w9 ⟨k9, h⟩
    have K9 := Lib.hid (Qt.trans Kb.out k9)
    clear k9
    rcases h with ⟨zs, zv, hz, hzl, hzn, rfl⟩ | ⟨hz, rfl⟩
    · obtain ⟨hzok, hzk⟩ := ok_split hz (by have : key.data.toList.length = key.size := rfl; omega)
      obtain ⟨gz, hzp, _⟩ := hzn.parts (by rw [List.length_map]; have : key.data.toList.length = key.size := rfl; omega)
      have hzb : K.joinB ((zs.map ofPart).map PD.part) = key.data.toList := by rw [back_map, hzk]
      have Jz := Lib.hid (join_any m zv gz 0 (zs.map ofPart) w9 (HM.out _ K9.out) hzp hzok (by rw [hzb]; have : key.data.toList.length = key.size := rfl; omega))
      rw [hzb, str_data] at Jz
      have Hzp := Lib.hid hzp
      clear hz hzn hzp hzok hzk hzb hzl
      go_wp2_with fail
      refine Jz.out.mono ?_
      rintro e w10 ⟨rfl, k10⟩
      have K10 := Lib.hid k10
      clear k10
      go_wp2_with fail
      refine (clean_any zv gz 0 (zs.map ofPart) w10 (Hzp.out.qt K10.out) (clean_back zs)).mono ?_
      rintro e w11 ⟨rfl, k11⟩
      have K11 := Lib.hid (Qt.trans K9.out (Qt.trans K10.out k11))
      clear k11
      go_wp2
      go_ret
      exact ⟨rfl, K11.out⟩
    · have heq := run_eql_iface_ptr_same (P := Tryd.prog) w9 ef Tryd.underlying33 Tryd.underlying90 hi hcmp hj
      have hE9 := HE.out _ K9.out
      clear hz
      go_wp2
      go_ret
      exact ⟨rfl, K9.out⟩
  · have hyp := hyn.at_ (by rw [hylen]; omega)
    rw [hylen] at hcy
    have Ya := Lib.hid (fun W (k : Qt w8 W) c' => show Parts W (.slice (some ⟨gy, 0, none⟩) ps.length c') gy 0 ((ps.map PD.part).map ofPart) from by
      have q := Parts.take (cap' := c') (n := ps.length) (hyp.qt k) (by rw [hylen]; omega)
      have e : ((ps.map PD.part ++ qs.map PD.part).map ofPart).take ps.length = (ps.map PD.part).map ofPart := by
        rw [List.map_append]; exact List.take_left' (by simp)
      rwa [e] at q)
    have Yb := Lib.hid (fun W (k : Qt w8 W) c' => show Parts W (.slice (some ⟨gy, ps.length * 3, none⟩) qs.length c') gy (ps.length * 3) ((qs.map PD.part).map ofPart) from by
      have q := Parts.drop (cap' := c') (n := ps.length) (hyp.qt k)
      have e : ((ps.map PD.part ++ qs.map PD.part).map ofPart).drop ps.length = (qs.map PD.part).map ofPart := by
        rw [List.map_append]; exact List.drop_left' (by simp)
      rw [e, hylen, Nat.zero_add, show ps.length + qs.length - ps.length = qs.length by omega] at q
      exact q)
    rw [hylen]
    have hadd : IntKind.i64.wrap ((ps.length : Int) + (qs.length : Int)) = (ps.length : Int) + (qs.length : Int) := IntWalk.i64_in _ (by omega)
    unfold maxLen at hcm
    clear hyn hyl hylen hyp
    by_cases hpc : ps.length = capy
    · have h2 : qs = [] := List.eq_nil_of_length_eq_zero (by omega)
      subst h2
      subst hpc
      go_wp2_with fail
      have q := same_any (.slice (some ⟨gy, 0, none⟩) ps.length ps.length) (.slice a ps.length cap) gy 0 g off _ ps w8 (Ya.out _ (Qt.refl _) _) (HS.out _ K8.out)
      rw [same_back] at q
      refine q.mono ?_
      rintro e wa ⟨rfl, ka⟩
      have Ka := Lib.hid (Qt.trans K8.out ka)
      clear ka q
      go_wp2_with fail
      refine (same_any _ _ 0 0 g2 off2 [] [] wa (Parts.none' wa _ _) (HT.out _ Ka.out)).mono ?_
      rintro e wb ⟨rfl, kb⟩
      have Kb := Lib.hid (Qt.trans Ka.out kb)
      clear kb
      rw [show sameB [] [] = true from rfl]
      go_wp2_with fail
      refine (Sk.out _ Kb.out).mono ?_
      rintro e w9 ⟨k9, h⟩
      have K9 := Lib.hid (Qt.trans Kb.out k9)
      clear k9
      rcases h with ⟨zs, zv, hz, hzl, hzn, rfl⟩ | ⟨hz, rfl⟩
      · obtain ⟨hzok, hzk⟩ := ok_split hz (by have : key.data.toList.length = key.size := rfl; omega)
        obtain ⟨gz, hzp, _⟩ := hzn.parts (by rw [List.length_map]; have : key.data.toList.length = key.size := rfl; omega)
        have hzb : K.joinB ((zs.map ofPart).map PD.part) = key.data.toList := by rw [back_map, hzk]
        have Jz := Lib.hid (join_any m zv gz 0 (zs.map ofPart) w9 (HM.out _ K9.out) hzp hzok (by rw [hzb]; have : key.data.toList.length = key.size := rfl; omega))
        rw [hzb, str_data] at Jz
        have Hzp := Lib.hid hzp
        clear hz hzn hzp hzok hzk hzb hzl
        go_wp2_with fail
        refine Jz.out.mono ?_
        rintro e w10 ⟨rfl, k10⟩
        have K10 := Lib.hid k10
        clear k10
        go_wp2_with fail
        refine (clean_any zv gz 0 (zs.map ofPart) w10 (Hzp.out.qt K10.out) (clean_back zs)).mono ?_
        rintro e w11 ⟨rfl, k11⟩
        have K11 := Lib.hid (Qt.trans K9.out (Qt.trans K10.out k11))
        clear k11
        go_wp2
        go_ret
        exact ⟨rfl, K11.out⟩
      · have heq := run_eql_iface_ptr_same (P := Tryd.prog) w9 ef Tryd.underlying33 Tryd.underlying90 hi hcmp hj
        have hE9 := HE.out _ K9.out
        clear hz
        go_wp2
        go_ret
        exact ⟨rfl, K9.out⟩
    · have hlo : ps.length < capy := by omega
      have hpc' : ¬ capy = ps.length := fun e => hpc e.symm
      have hpi : ((ps.length : Int) == (capy : Int)) = false := by simp; omega
      go_wp2_with fail
      have q := same_any (.slice (some ⟨gy, 0, none⟩) ps.length capy) (.slice a ps.length cap) gy 0 g off _ ps w8 (Ya.out _ (Qt.refl _) _) (HS.out _ K8.out)
      rw [same_back] at q
      refine q.mono ?_
      rintro e wa ⟨rfl, ka⟩
      have Ka := Lib.hid (Qt.trans K8.out ka)
      have Kx := Lib.hid ka
      clear ka q
      go_wp2_with fail
      have q := same_any (.slice (some ⟨gy, ps.length * 3, none⟩) qs.length (capy - ps.length)) (.slice a2 qs.length cap2) gy (ps.length * 3) g2 off2 _ qs wa (Yb.out _ Kx.out _) (HT.out _ Ka.out)
      rw [same_back] at q
      refine q.mono ?_
      rintro e wb ⟨rfl, kb⟩
      have Kb := Lib.hid (Qt.trans Ka.out kb)
      clear kb q
      go_wp2_with fail
      refine (Sk.out _ Kb.out).mono ?_
      rintro e w9 ⟨k9, h⟩
      have K9 := Lib.hid (Qt.trans Kb.out k9)
      clear k9
      rcases h with ⟨zs, zv, hz, hzl, hzn, rfl⟩ | ⟨hz, rfl⟩
      · obtain ⟨hzok, hzk⟩ := ok_split hz (by have : key.data.toList.length = key.size := rfl; omega)
        obtain ⟨gz, hzp, _⟩ := hzn.parts (by rw [List.length_map]; have : key.data.toList.length = key.size := rfl; omega)
        have hzb : K.joinB ((zs.map ofPart).map PD.part) = key.data.toList := by rw [back_map, hzk]
        have Jz := Lib.hid (join_any m zv gz 0 (zs.map ofPart) w9 (HM.out _ K9.out) hzp hzok (by rw [hzb]; have : key.data.toList.length = key.size := rfl; omega))
        rw [hzb, str_data] at Jz
        have Hzp := Lib.hid hzp
        clear hz hzn hzp hzok hzk hzb hzl
        go_wp2_with fail
        refine Jz.out.mono ?_
        rintro e w10 ⟨rfl, k10⟩
        have K10 := Lib.hid k10
        clear k10
        go_wp2_with fail
        refine (clean_any zv gz 0 (zs.map ofPart) w10 (Hzp.out.qt K10.out) (clean_back zs)).mono ?_
        rintro e w11 ⟨rfl, k11⟩
        have K11 := Lib.hid (Qt.trans K9.out (Qt.trans K10.out k11))
        clear k11
        go_wp2
        go_ret
        exact ⟨rfl, K11.out⟩
      · have heq := run_eql_iface_ptr_same (P := Tryd.prog) w9 ef Tryd.underlying33 Tryd.underlying90 hi hcmp hj
        have hE9 := HE.out _ K9.out
        clear hz
        go_wp2
        go_ret
        exact ⟨rfl, K9.out⟩
end Go.Proofs.YtfhfbpjhjigbnaaDoor
