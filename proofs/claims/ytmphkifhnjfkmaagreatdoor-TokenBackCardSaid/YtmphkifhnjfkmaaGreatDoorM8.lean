/- TokenBack: the text of the tokens of a text has these tokens, and they have this text: the row and the card, for every text, with the listed variables as the program's text lays them. The wrap of a row that asks for listed variables and whose contract uses the world's shape. From the row's condition and the world's shape to what the walks read. The law TokenBack, whatever the text. The law TokenBack. same: two lists of tokens with the same kinds and texts. Scan of any text, by what stands in it. The variables that the functions of layer 1 read. Text of the tokens of a text. bare: tokens without places and lines. The examples of the chapter hold. How long what was read is; written of it. gap; written of what was read. Quote of the program. How one byte stands in a literal. isFloat of a float that was read. cutDigits, isFloat of what was read. -/
import Derived.Test.YtmphkifhnjfkmaaGreatDoorM7
import Derived.Shelf.Strings.SlTrimAscii
import Derived.Lib.BufferOwn
import Derived.Deep.RegionHeld3
import Derived.Test.YtmphkifhnjfkmaaGreatDoorRows
import Derived.PinnedBridge
import Derived.Lib.LaidU8T
import Derived.OpenShut
import Derived.Handed
import Derived.HandedShaped
import Derived.Test.YtmphkifhnjfkmaaGreatDoorTie
import Derived.Test.YtmphkifhnjfkmaaGreatDoorCards
import Derived.Test.YtmphkifhnjfkmaaGreatDoorChecked
import Derived.WalkKit
import Derived.ProofKit
import Derived.ChangeMaps5
import Derived.Lay
import Derived.LaidOnce
import Derived.SevenTiedAt
import Derived.Stop.Joined
namespace Go.Proofs.YtmphkifhnjfkmaaGreatDoor
open Go.ChangeShapes Go.WideShapes Go.ChangeAt Go.RowKit Go.WideMaps Go.Maps
namespace Tk

/-- cutDigits cuts digits off. -/
def CutTo (s t : ByteArray) : Prop := ∀ w : World, Calls Tryz.prog 66 #[.string s] w fun e w' => e = .returned (.tuple #[.string t, .bool true]) ∧ w.grownBy w' none

set_option maxHeartbeats 1000000 in
set_option maxRecDepth 100000 in
theorem cut_digits (D B : List UInt8) (hD : AllD D) (hne : D ≠ []) (hB : Stops B) (_ : (D ++ B).length ≤ 2000000) : CutTo (lB (D ++ B)) (lB B) := by
  intro w
  have h := Any.strings_TrimLeft_laid Tryz.lays161 (by kernel_rfl) (lB (D ++ B)) ⟨#[48, 49, 50, 51, 52, 53, 54, 55, 56, 57]⟩ w (by decide) (ascii_of_all (by decide))
  have e1 : Lib.trimLeftS (lB (D ++ B)).data.toList [48, 49, 50, 51, 52, 53, 54, 55, 56, 57] = B := drop_digits D B hD hB
  have h2 : Calls Tryz.prog 89 #[.string (lB (D ++ B)), .string ⟨#[48, 49, 50, 51, 52, 53, 54, 55, 56, 57]⟩] w fun e w' => e = .returned (.string (lB B)) ∧ Below w.heap.size w w' := by
    refine h.mono ?_
    rintro e w' ⟨rfl, hb⟩
    refine ⟨?_, hb⟩
    show Ending.returned (Value.string ⟨(Lib.trimLeftS (lB (D ++ B)).data.toList [48, 49, 50, 51, 52, 53, 54, 55, 56, 57]).toArray⟩) = _
    rw [e1]
    rfl
  have HC := Lib.hid h2
  have hl := lB_size B
  have hl2 := lB_size (D ++ B)
  have hd : 1 ≤ D.length := len_pos hne
  rw [List.length_append] at hl2
  obtain ⟨x, hx⟩ : ∃ x, x = lB (D ++ B) := ⟨_, rfl⟩
  obtain ⟨y, hy⟩ : ∃ y, y = lB B := ⟨_, rfl⟩
  rw [← hx, ← hy] at HC
  rw [← hx] at hl2 ⊢
  rw [← hy] at hl ⊢
  have i1 : (y.size : Int) < x.size := by omega
  clear h h2 e1 hx hy hD hB hne hl hl2
  go_enter Tryz.func66, Tryz.ntmps66
  go_wp2_with (go_at_call 89; refine HC.out.mono ?_; rintro e w' ⟨rfl, hb⟩)
  go_ret2
  exact ⟨rfl, Lib.grownBy_below (World.grownBy.refl _ _) hb⟩

set_option maxHeartbeats 1000000 in
set_option maxRecDepth 100000 in
theorem flt_p (w : World) (s0 s1 : ByteArray) (h0 : CutTo s0 s1) (s2 s3 : ByteArray) (hp : Lib.hasPrefix s1.data.toList (⟨#[46]⟩ : ByteArray).data.toList = true) (z1 : 1 ≤ s1.size) (e1 : s1.extract 1 s1.size = s2) (h2 : CutTo s2 s3) (he : Lib.hasPrefix s3.data.toList (⟨#[101]⟩ : ByteArray).data.toList = false) (e3 : s3.toList.isEmpty = true) :
    Calls Tryz.prog 43 #[.string s0] w fun e w' => e = .returned (.bool true) ∧ w.grownBy w' none := by
  have H0 := Lib.hid h0
  have HP := Lib.hid hp
  have H2 := Lib.hid h2
  have y1 : (1 : Int) ≤ s1.size := by omega
  have HE := Lib.hid he
  clear h0 hp h2 he
  go_enter Tryz.func43, Tryz.ntmps43
  go_wp2_with (first | (go_at_call 50; refine (Tryz.strings_HasPrefix _ _ _).mono ?_; rintro e w9 ⟨he, rfl⟩; first | (rw [HP.out] at he; subst he) | (rw [HE.out] at he; subst he)) | (go_at_call 66; refine (H0.out _).mono ?_; rintro e w1 ⟨rfl, g1⟩; clear H0) | (go_at_call 66; refine (H2.out _).mono ?_; rintro e w2 ⟨rfl, g2⟩; clear H2))
  go_ret
  exact ⟨rfl, (Lib.grownBy_trans g1 g2)⟩

set_option maxHeartbeats 1000000 in
set_option maxRecDepth 100000 in
theorem flt_peo (w : World) (s0 s1 : ByteArray) (h0 : CutTo s0 s1) (s2 s3 : ByteArray) (hp : Lib.hasPrefix s1.data.toList (⟨#[46]⟩ : ByteArray).data.toList = true) (z1 : 1 ≤ s1.size) (e1 : s1.extract 1 s1.size = s2) (h2 : CutTo s2 s3) (s4 : ByteArray) (he : Lib.hasPrefix s3.data.toList (⟨#[101]⟩ : ByteArray).data.toList = true) (z3 : 1 ≤ s3.size) (e4 : s3.extract 1 s3.size = s4) (z4 : 1 ≤ s4.size) (n1 : ((s4[0]'z4).toNat : Int) ≠ 43) (n2 : ((s4[0]'z4).toNat : Int) ≠ 45) (h5 : CutTo s4 ⟨#[]⟩) :
    Calls Tryz.prog 43 #[.string s0] w fun e w' => e = .returned (.bool true) ∧ w.grownBy w' none := by
  have H0 := Lib.hid h0
  have HP := Lib.hid hp
  have H2 := Lib.hid h2
  have y1 : (1 : Int) ≤ s1.size := by omega
  have HE := Lib.hid he
  have H5 := Lib.hid h5
  have y3 : (1 : Int) ≤ s3.size := by omega
  have y4 : (1 : Int) ≤ s4.size := by omega
  have y5 : (0 : Int) < s4.size := by omega
  have y6 : s4.toList.isEmpty = false := bytes_some z4
  have y7 : (((s4[0]'z4).toNat : Int) == 43) = false := by simpa using n1
  have y8 : (((s4[0]'z4).toNat : Int) == 45) = false := by simpa using n2
  clear h0 hp h2 he h5
  go_enter Tryz.func43, Tryz.ntmps43
  go_wp2_with (first | (go_at_call 50; refine (Tryz.strings_HasPrefix _ _ _).mono ?_; rintro e w9 ⟨he, rfl⟩; first | (rw [HP.out] at he; subst he) | (rw [HE.out] at he; subst he)) | (go_at_call 66; refine (H0.out _).mono ?_; rintro e w1 ⟨rfl, g1⟩; clear H0) | (go_at_call 66; refine (H2.out _).mono ?_; rintro e w2 ⟨rfl, g2⟩; clear H2) | (go_at_call 66; refine (H5.out _).mono ?_; rintro e w3 ⟨rfl, g3⟩; clear H5))
  go_ret
  exact ⟨rfl, (Lib.grownBy_trans (Lib.grownBy_trans g1 g2) g3)⟩

set_option maxHeartbeats 1000000 in
set_option maxRecDepth 100000 in
theorem flt_eo (w : World) (s0 s1 : ByteArray) (h0 : CutTo s0 s1) (hp : Lib.hasPrefix s1.data.toList (⟨#[46]⟩ : ByteArray).data.toList = false) (s4 : ByteArray) (he : Lib.hasPrefix s1.data.toList (⟨#[101]⟩ : ByteArray).data.toList = true) (z3 : 1 ≤ s1.size) (e4 : s1.extract 1 s1.size = s4) (z4 : 1 ≤ s4.size) (n1 : ((s4[0]'z4).toNat : Int) ≠ 43) (n2 : ((s4[0]'z4).toNat : Int) ≠ 45) (h5 : CutTo s4 ⟨#[]⟩) :
    Calls Tryz.prog 43 #[.string s0] w fun e w' => e = .returned (.bool true) ∧ w.grownBy w' none := by
  have H0 := Lib.hid h0
  have HP := Lib.hid hp
  have HE := Lib.hid he
  have H5 := Lib.hid h5
  have y3 : (1 : Int) ≤ s1.size := by omega
  have y4 : (1 : Int) ≤ s4.size := by omega
  have y5 : (0 : Int) < s4.size := by omega
  have y6 : s4.toList.isEmpty = false := bytes_some z4
  have y7 : (((s4[0]'z4).toNat : Int) == 43) = false := by simpa using n1
  have y8 : (((s4[0]'z4).toNat : Int) == 45) = false := by simpa using n2
  clear h0 hp he h5
  go_enter Tryz.func43, Tryz.ntmps43
  go_wp2_with (first | (go_at_call 50; refine (Tryz.strings_HasPrefix _ _ _).mono ?_; rintro e w9 ⟨he, rfl⟩; first | (rw [HP.out] at he; subst he) | (rw [HE.out] at he; subst he)) | (go_at_call 66; refine (H0.out _).mono ?_; rintro e w1 ⟨rfl, g1⟩; clear H0) | (go_at_call 66; refine (H5.out _).mono ?_; rintro e w2 ⟨rfl, g2⟩; clear H5))
  go_ret
  exact ⟨rfl, (Lib.grownBy_trans g1 g2)⟩

set_option maxHeartbeats 1000000 in
set_option maxRecDepth 100000 in
theorem flt_pep (w : World) (s0 s1 : ByteArray) (h0 : CutTo s0 s1) (s2 s3 : ByteArray) (hp : Lib.hasPrefix s1.data.toList (⟨#[46]⟩ : ByteArray).data.toList = true) (z1 : 1 ≤ s1.size) (e1 : s1.extract 1 s1.size = s2) (h2 : CutTo s2 s3) (s4 : ByteArray) (he : Lib.hasPrefix s3.data.toList (⟨#[101]⟩ : ByteArray).data.toList = true) (z3 : 1 ≤ s3.size) (e4 : s3.extract 1 s3.size = s4) (z4 : 1 ≤ s4.size) (n1 : ((s4[0]'z4).toNat : Int) = 43) (s5 : ByteArray) (e5 : s4.extract 1 s4.size = s5) (h5 : CutTo s5 ⟨#[]⟩) :
    Calls Tryz.prog 43 #[.string s0] w fun e w' => e = .returned (.bool true) ∧ w.grownBy w' none := by
  have H0 := Lib.hid h0
  have HP := Lib.hid hp
  have H2 := Lib.hid h2
  have y1 : (1 : Int) ≤ s1.size := by omega
  have HE := Lib.hid he
  have H5 := Lib.hid h5
  have y3 : (1 : Int) ≤ s3.size := by omega
  have y4 : (1 : Int) ≤ s4.size := by omega
  have y5 : (0 : Int) < s4.size := by omega
  have y6 : s4.toList.isEmpty = false := bytes_some z4
  clear h0 hp h2 he h5
  go_enter Tryz.func43, Tryz.ntmps43
  go_wp2_with (first | (go_at_call 50; refine (Tryz.strings_HasPrefix _ _ _).mono ?_; rintro e w9 ⟨he, rfl⟩; first | (rw [HP.out] at he; subst he) | (rw [HE.out] at he; subst he)) | (go_at_call 66; refine (H0.out _).mono ?_; rintro e w1 ⟨rfl, g1⟩; clear H0) | (go_at_call 66; refine (H2.out _).mono ?_; rintro e w2 ⟨rfl, g2⟩; clear H2) | (go_at_call 66; refine (H5.out _).mono ?_; rintro e w3 ⟨rfl, g3⟩; clear H5))
  go_ret
  exact ⟨rfl, (Lib.grownBy_trans (Lib.grownBy_trans g1 g2) g3)⟩

set_option maxHeartbeats 1000000 in
set_option maxRecDepth 100000 in
theorem flt_ep (w : World) (s0 s1 : ByteArray) (h0 : CutTo s0 s1) (hp : Lib.hasPrefix s1.data.toList (⟨#[46]⟩ : ByteArray).data.toList = false) (s4 : ByteArray) (he : Lib.hasPrefix s1.data.toList (⟨#[101]⟩ : ByteArray).data.toList = true) (z3 : 1 ≤ s1.size) (e4 : s1.extract 1 s1.size = s4) (z4 : 1 ≤ s4.size) (n1 : ((s4[0]'z4).toNat : Int) = 43) (s5 : ByteArray) (e5 : s4.extract 1 s4.size = s5) (h5 : CutTo s5 ⟨#[]⟩) :
    Calls Tryz.prog 43 #[.string s0] w fun e w' => e = .returned (.bool true) ∧ w.grownBy w' none := by
  have H0 := Lib.hid h0
  have HP := Lib.hid hp
  have HE := Lib.hid he
  have H5 := Lib.hid h5
  have y3 : (1 : Int) ≤ s1.size := by omega
  have y4 : (1 : Int) ≤ s4.size := by omega
  have y5 : (0 : Int) < s4.size := by omega
  have y6 : s4.toList.isEmpty = false := bytes_some z4
  clear h0 hp he h5
  go_enter Tryz.func43, Tryz.ntmps43
  go_wp2_with (first | (go_at_call 50; refine (Tryz.strings_HasPrefix _ _ _).mono ?_; rintro e w9 ⟨he, rfl⟩; first | (rw [HP.out] at he; subst he) | (rw [HE.out] at he; subst he)) | (go_at_call 66; refine (H0.out _).mono ?_; rintro e w1 ⟨rfl, g1⟩; clear H0) | (go_at_call 66; refine (H5.out _).mono ?_; rintro e w2 ⟨rfl, g2⟩; clear H5))
  go_ret
  exact ⟨rfl, (Lib.grownBy_trans g1 g2)⟩

set_option maxHeartbeats 1000000 in
set_option maxRecDepth 100000 in
theorem flt_pem (w : World) (s0 s1 : ByteArray) (h0 : CutTo s0 s1) (s2 s3 : ByteArray) (hp : Lib.hasPrefix s1.data.toList (⟨#[46]⟩ : ByteArray).data.toList = true) (z1 : 1 ≤ s1.size) (e1 : s1.extract 1 s1.size = s2) (h2 : CutTo s2 s3) (s4 : ByteArray) (he : Lib.hasPrefix s3.data.toList (⟨#[101]⟩ : ByteArray).data.toList = true) (z3 : 1 ≤ s3.size) (e4 : s3.extract 1 s3.size = s4) (z4 : 1 ≤ s4.size) (n1 : ((s4[0]'z4).toNat : Int) = 45) (s5 : ByteArray) (e5 : s4.extract 1 s4.size = s5) (h5 : CutTo s5 ⟨#[]⟩) :
    Calls Tryz.prog 43 #[.string s0] w fun e w' => e = .returned (.bool true) ∧ w.grownBy w' none := by
  have H0 := Lib.hid h0
  have HP := Lib.hid hp
  have H2 := Lib.hid h2
  have y1 : (1 : Int) ≤ s1.size := by omega
  have HE := Lib.hid he
  have H5 := Lib.hid h5
  have y3 : (1 : Int) ≤ s3.size := by omega
  have y4 : (1 : Int) ≤ s4.size := by omega
  have y5 : (0 : Int) < s4.size := by omega
  have y6 : s4.toList.isEmpty = false := bytes_some z4
  have y7 : (((s4[0]'z4).toNat : Int) == 43) = false := by rw [n1]; rfl
  clear h0 hp h2 he h5
  go_enter Tryz.func43, Tryz.ntmps43
  go_wp2_with (first | (go_at_call 50; refine (Tryz.strings_HasPrefix _ _ _).mono ?_; rintro e w9 ⟨he, rfl⟩; first | (rw [HP.out] at he; subst he) | (rw [HE.out] at he; subst he)) | (go_at_call 66; refine (H0.out _).mono ?_; rintro e w1 ⟨rfl, g1⟩; clear H0) | (go_at_call 66; refine (H2.out _).mono ?_; rintro e w2 ⟨rfl, g2⟩; clear H2) | (go_at_call 66; refine (H5.out _).mono ?_; rintro e w3 ⟨rfl, g3⟩; clear H5))
  go_ret
  exact ⟨rfl, (Lib.grownBy_trans (Lib.grownBy_trans g1 g2) g3)⟩

set_option maxHeartbeats 1000000 in
set_option maxRecDepth 100000 in
theorem flt_em (w : World) (s0 s1 : ByteArray) (h0 : CutTo s0 s1) (hp : Lib.hasPrefix s1.data.toList (⟨#[46]⟩ : ByteArray).data.toList = false) (s4 : ByteArray) (he : Lib.hasPrefix s1.data.toList (⟨#[101]⟩ : ByteArray).data.toList = true) (z3 : 1 ≤ s1.size) (e4 : s1.extract 1 s1.size = s4) (z4 : 1 ≤ s4.size) (n1 : ((s4[0]'z4).toNat : Int) = 45) (s5 : ByteArray) (e5 : s4.extract 1 s4.size = s5) (h5 : CutTo s5 ⟨#[]⟩) :
    Calls Tryz.prog 43 #[.string s0] w fun e w' => e = .returned (.bool true) ∧ w.grownBy w' none := by
  have H0 := Lib.hid h0
  have HP := Lib.hid hp
  have HE := Lib.hid he
  have H5 := Lib.hid h5
  have y3 : (1 : Int) ≤ s1.size := by omega
  have y4 : (1 : Int) ≤ s4.size := by omega
  have y5 : (0 : Int) < s4.size := by omega
  have y6 : s4.toList.isEmpty = false := bytes_some z4
  have y7 : (((s4[0]'z4).toNat : Int) == 43) = false := by rw [n1]; rfl
  clear h0 hp he h5
  go_enter Tryz.func43, Tryz.ntmps43
  go_wp2_with (first | (go_at_call 50; refine (Tryz.strings_HasPrefix _ _ _).mono ?_; rintro e w9 ⟨he, rfl⟩; first | (rw [HP.out] at he; subst he) | (rw [HE.out] at he; subst he)) | (go_at_call 66; refine (H0.out _).mono ?_; rintro e w1 ⟨rfl, g1⟩; clear H0) | (go_at_call 66; refine (H5.out _).mono ?_; rintro e w2 ⟨rfl, g2⟩; clear H5))
  go_ret
  exact ⟨rfl, (Lib.grownBy_trans g1 g2)⟩

end Tk
end Go.Proofs.YtmphkifhnjfkmaaGreatDoor

namespace Go.Proofs.YtmphkifhnjfkmaaGreatDoor
open Go.ChangeShapes Go.WideShapes Go.ChangeAt Go.RowKit Go.WideMaps Go.Maps
namespace Tk

theorem lB_pre (b c : UInt8) (l : List UInt8) : Lib.hasPrefix (lB (b :: l)).data.toList (⟨#[c]⟩ : ByteArray).data.toList = (c == b) := by
  show (c == b && ([] : List UInt8).isPrefixOf l) = _
  simp

theorem cut_end {D : List UInt8} (hD : AllD D) (hne : D ≠ []) (hz : D.length ≤ 2000000) : CutTo (lB D) ⟨#[]⟩ := by
  have h := cut_digits D [] hD hne stops_nil (by rw [List.append_nil]; exact hz)
  rw [List.append_nil] at h
  exact h

theorem lB_get (b : UInt8) (l : List UInt8) (h : 1 ≤ (lB (b :: l)).size) : (((lB (b :: l))[0]'h).toNat : Int) = b.toNat := rfl

theorem lB_one (b : UInt8) (l : List UInt8) : 1 ≤ (lB (b :: l)).size := by rw [lB_size, List.length_cons]; omega

theorem digit_head {D : List UInt8} (hD : AllD D) (hne : D ≠ []) : ∃ b t, D = b :: t ∧ (b.toNat : Int) ≠ 43 ∧ (b.toNat : Int) ≠ 45 := by
  cases D with
  | nil => exact absurd rfl hne
  | cons b t =>
    have := hD b (.head _)
    exact ⟨b, t, rfl, by omega, by omega⟩

theorem isFloat_true (l : List UInt8) (h : FloatL l) (hz : l.length ≤ 2000000) (w : World) :
    Calls Tryz.prog 43 #[.string (lB l)] w fun e w' => e = .returned (.bool true) ∧ w.grownBy w' none := by
  obtain ⟨D1, T, rfl, hD1, hne1, hT⟩ := h
  rw [List.length_append] at hz
  rcases hT with ⟨D2, E, rfl, hD2, hne2, hE⟩ | ⟨hE, hTne⟩
  · have h0 := cut_digits D1 (46 :: (D2 ++ E)) hD1 hne1 (stops_46 _) (by rw [List.length_append]; exact hz)
    rw [List.length_cons, List.length_append] at hz
    rcases hE with rfl | ⟨sg, D3, rfl, hs, hD3, hne3⟩
    · refine flt_p w _ _ h0 _ _ (lB_pre 46 46 _) (lB_one _ _) (lB_tail _ _) (cut_digits D2 [] hD2 hne2 stops_nil (by simp only [List.length_append, List.length_nil] at hz ⊢; omega)) rfl ?_
      show (ByteArray.toList ⟨#[]⟩).isEmpty = true
      rw [ByteArray.toList_mk]
      rfl
    · have h2 := cut_digits D2 (101 :: (sg ++ D3)) hD2 hne2 (stops_101 _) (by simp only [List.length_append, List.length_cons] at hz ⊢; omega)
      have hz3 : D3.length ≤ 2000000 := by simp only [List.length_append, List.length_cons] at hz; omega
      rcases hs with rfl | rfl | rfl
      · obtain ⟨b, t, rfl, n1, n2⟩ := digit_head hD3 hne3
        exact flt_peo w _ _ h0 _ _ (lB_pre 46 46 _) (lB_one _ _) (lB_tail _ _) h2 _ (lB_pre 101 101 _) (lB_one _ _) (lB_tail _ _) (lB_one _ _) n1 n2 (cut_end hD3 hne3 hz3)
      · exact flt_pep w _ _ h0 _ _ (lB_pre 46 46 _) (lB_one _ _) (lB_tail _ _) h2 _ (lB_pre 101 101 _) (lB_one _ _) (lB_tail _ _) (lB_one _ _) (lB_get _ _ _) _ (lB_tail _ _) (cut_end hD3 hne3 hz3)
      · exact flt_pem w _ _ h0 _ _ (lB_pre 46 46 _) (lB_one _ _) (lB_tail _ _) h2 _ (lB_pre 101 101 _) (lB_one _ _) (lB_tail _ _) (lB_one _ _) (lB_get _ _ _) _ (lB_tail _ _) (cut_end hD3 hne3 hz3)
  · rcases hE with rfl | ⟨sg, D3, rfl, hs, hD3, hne3⟩
    · exact absurd rfl hTne
    · have h0 := cut_digits D1 (101 :: (sg ++ D3)) hD1 hne1 (stops_101 _) (by rw [List.length_append]; exact hz)
      have hz3 : D3.length ≤ 2000000 := by simp only [List.length_append, List.length_cons] at hz; omega
      rcases hs with rfl | rfl | rfl
      · obtain ⟨b, t, rfl, n1, n2⟩ := digit_head hD3 hne3
        exact flt_eo w _ _ h0 (lB_pre 101 46 _) _ (lB_pre 101 101 _) (lB_one _ _) (lB_tail _ _) (lB_one _ _) n1 n2 (cut_end hD3 hne3 hz3)
      · exact flt_ep w _ _ h0 (lB_pre 101 46 _) _ (lB_pre 101 101 _) (lB_one _ _) (lB_tail _ _) (lB_one _ _) (lB_get _ _ _) _ (lB_tail _ _) (cut_end hD3 hne3 hz3)
      · exact flt_em w _ _ h0 (lB_pre 101 46 _) _ (lB_pre 101 101 _) (lB_one _ _) (lB_tail _ _) (lB_one _ _) (lB_get _ _ _) _ (lB_tail _ _) (cut_end hD3 hne3 hz3)

end Tk
end Go.Proofs.YtmphkifhnjfkmaaGreatDoor

namespace Go.Proofs.YtmphkifhnjfkmaaGreatDoor
open Go.ChangeShapes Go.WideShapes Go.ChangeAt Go.RowKit
namespace Tk

theorem ret_str {a b : ByteArray} (h : a = b) : Ending.returned (.string a) = .returned (.string b) := by rw [h]

/-- The bytes that are written otherwise, but for those with a digit of base 16. -/
theorem quoted_six (x : UInt8) (hx : x = 10 ∨ x = 9 ∨ x = 13 ∨ x = 0 ∨ x = 34 ∨ x = 92) (w : World) :
    Calls Tryz.prog 68 #[.string ⟨#[x]⟩] w fun e w' => e = .returned (.string ⟨(quoteOne x).toArray⟩) ∧ ∃ n, w' = w.drewN n := by
  rcases hx with rfl | rfl | rfl | rfl | rfl | rfl
  all_goals
    go_enter Tryz.func68, Tryz.ntmps68
    go_wp2_with fail
    go_ret
    exact ⟨ret_str (by kernel_rfl), 0, rfl⟩

set_option maxHeartbeats 4000000 in
theorem quoted_hex (x : UInt8) (hx : x = 1 ∨ x = 2 ∨ x = 3 ∨ x = 4 ∨ x = 5 ∨ x = 6 ∨ x = 7 ∨ x = 8 ∨ x = 11 ∨ x = 12 ∨ x = 14 ∨ x = 15 ∨ x = 16 ∨ x = 17 ∨ x = 18 ∨ x = 19 ∨ x = 20 ∨ x = 21 ∨ x = 22 ∨ x = 23 ∨ x = 24 ∨ x = 25 ∨ x = 26 ∨ x = 27 ∨ x = 28 ∨ x = 29 ∨ x = 30 ∨ x = 31 ∨ x = 127) (w : World) :
    Calls Tryz.prog 68 #[.string ⟨#[x]⟩] w fun e w' => e = .returned (.string ⟨(quoteOne x).toArray⟩) ∧ ∃ n, w' = w.drewN n := by
  have hidx : ∀ w : World, (Instr.index 9 (.string ⟨#[x]⟩) (.int .i64 0)).run Tryz.prog w = .ok (.int .u8 x.toNat) w := fun w => by simp [go_sem]; rfl
  rcases hx with rfl | rfl | rfl | rfl | rfl | rfl | rfl | rfl | rfl | rfl | rfl | rfl | rfl | rfl | rfl | rfl | rfl | rfl | rfl | rfl | rfl | rfl | rfl | rfl | rfl | rfl | rfl | rfl | rfl
  all_goals
    go_enter Tryz.func68, Tryz.ntmps68
    go_wp2_with fail
    go_quiet (fail)
    go_wp2_with fail
    go_ret
    exact ⟨ret_str (by kernel_rfl), _, rfl⟩

theorem quoted_plain (x : UInt8) (h10 : x ≠ 10) (h9 : x ≠ 9) (h13 : x ≠ 13) (h0 : x ≠ 0) (h34 : x ≠ 34) (h92 : x ≠ 92) (h32 : ¬ x.toNat < 32) (h127 : x.toNat ≠ 127) (w : World) :
    Calls Tryz.prog 68 #[.string ⟨#[x]⟩] w fun e w' => e = .returned (.string ⟨(quoteOne x).toArray⟩) ∧ ∃ n, w' = w.drewN n := by
  have q10 : (x == 10) = false := by simpa using h10
  have q9 : (x == 9) = false := by simpa using h9
  have q13 : (x == 13) = false := by simpa using h13
  have q0 : (x == 0) = false := by simpa using h0
  have q34 : (x == 34) = false := by simpa using h34
  have q92 : (x == 92) = false := by simpa using h92
  have hidx : ∀ w : World, (Instr.index 9 (.string ⟨#[x]⟩) (.int .i64 0)).run Tryz.prog w = .ok (.int .u8 x.toNat) w := fun w => by simp [go_sem]; rfl
  have hq : quoteOne x = [x] := by
    unfold quoteOne
    rw [q10, q9, q13, q0, q34, q92]
    simp [h127]
    omega
  have HQ := Lib.hid hq
  have l32 : ¬ (x.toNat : Int) < 32 := by omega
  have l127 : ((x.toNat : Int) == 127) = false := by simp; omega
  clear hq h10 h9 h13 h0 h34 h92 h32 h127
  go_enter Tryz.func68, Tryz.ntmps68
  go_wp2_with fail
  go_ret
  exact ⟨ret_str (by rw [HQ.out]), 0, rfl⟩

theorem quoted_any (x : UInt8) (w : World) :
    Calls Tryz.prog 68 #[.string ⟨#[x]⟩] w fun e w' => e = .returned (.string ⟨(quoteOne x).toArray⟩) ∧ ∃ n, w' = w.drewN n := by
  by_cases h6 : x = 10 ∨ x = 9 ∨ x = 13 ∨ x = 0 ∨ x = 34 ∨ x = 92
  · exact quoted_six x h6 w
  · by_cases hh : x.toNat < 32 ∨ x.toNat = 127
    · refine quoted_hex x ?_ w
      have hall : ((List.range 256).all fun n => decide (¬ (n < 32 ∨ n = 127)) || decide (n ∈ [10, 9, 13, 0, 34, 92]) || decide (n ∈ [1, 2, 3, 4, 5, 6, 7, 8, 11, 12, 14, 15, 16, 17, 18, 19, 20, 21, 22, 23, 24, 25, 26, 27, 28, 29, 30, 31, 127])) = true := by decide +kernel
      have := List.all_eq_true.1 hall x.toNat (List.mem_range.2 x.toNat_lt)
      have hx : ∀ k : UInt8, x.toNat = k.toNat → x = k := fun k h => UInt8.toNat_inj.1 h
      simp only [Bool.or_eq_true, decide_eq_true_eq, List.mem_cons, List.not_mem_nil, or_false] at this
      rcases this with (h | h) | h
      · exact absurd hh h
      · exfalso
        apply h6
        rcases h with h | h | h | h | h | h
        · exact .inl (hx 10 h)
        · exact .inr (.inl (hx 9 h))
        · exact .inr (.inr (.inl (hx 13 h)))
        · exact .inr (.inr (.inr (.inl (hx 0 h))))
        · exact .inr (.inr (.inr (.inr (.inl (hx 34 h)))))
        · exact .inr (.inr (.inr (.inr (.inr (hx 92 h)))))
      · rcases h with h | h | h | h | h | h | h | h | h | h | h | h | h | h | h | h | h | h | h | h | h | h | h | h | h | h | h | h | h
        all_goals (have := UInt8.toNat_inj.1 (show x.toNat = UInt8.toNat (UInt8.ofNat x.toNat) by rw [UInt8.toNat_ofNat']; omega); rw [h] at this; subst this; decide)
    · have h1 : ¬ x.toNat < 32 := fun h => hh (.inl h)
      have h2 : x.toNat ≠ 127 := fun h => hh (.inr h)
      simp only [not_or] at h6
      exact quoted_plain x h6.1 h6.2.1 h6.2.2.1 h6.2.2.2.1 h6.2.2.2.2.1 h6.2.2.2.2.2 h1 h2 w

end Tk
end Go.Proofs.YtmphkifhnjfkmaaGreatDoor

namespace Go.Proofs.YtmphkifhnjfkmaaGreatDoor
open Go.ChangeShapes Go.WideShapes Go.ChangeAt Go.RowKit
namespace Tk

theorem builder_same {T e : TypeId} {B b : Nat} {bs : List Value} {w : World} (h : Lib.IsBuilderF T e B b bs w) {n : Nat} : Lib.IsBuilderF T e B b bs (w.drewN n) := h

theorem strCells_bytes (l : List UInt8) : Lib.strCells ⟨l.toArray⟩ = Lib.byteCells l := rfl

theorem quoteOne_len (x : UInt8) : (quoteOne x).length ≤ 4 := by
  unfold quoteOne
  repeat' split
  all_goals simp

theorem flat_len (l : List UInt8) : (l.flatMap quoteOne).length ≤ 4 * l.length := by
  induction l with
  | nil => simp
  | cons x r ih =>
    have := quoteOne_len x
    simp only [List.flatMap_cons, List.length_append, List.length_cons]
    omega

theorem extract_one (s : ByteArray) (k : Nat) (h : k < s.size) : s.extract k (k + 1) = ⟨#[s[k]'h]⟩ := by
  obtain ⟨⟨l⟩⟩ := s
  have hl : k < l.length := h
  apply ByteArray.ext
  apply Array.ext'
  simp only [ByteArray.data_extract, Array.toList_extract, List.extract_eq_take_drop]
  rw [show k + 1 - k = 1 by omega]
  rw [List.drop_eq_getElem_cons hl]
  rfl

set_option maxHeartbeats 2000000 in
set_option maxRecDepth 100000 in
theorem quote_any (s : ByteArray) (w : World) (hs : s.size ≤ 2000000) (hT : Utf8T w) :
    Calls Tryz.prog 44 #[.string s] w fun e w' => e = .returned (if Lib.validD s.data.toList then .tuple #[.string ⟨(quoteAll s.data.toList).toArray⟩, .int .i64 0] else .tuple #[.string ⟨#[]⟩, .int .i64 2]) ∧ Below w.heap.size w w' := by
  have HT := Lib.hid hT
  clear hT
  cases hv : Lib.validD s.data.toList
  · have HV := Lib.hid hv
    clear hv
    go_enter Tryz.func44, Tryz.ntmps44
    go_wp2_with (go_at_call 51; refine (valid_any s _ hs HT.out).mono ?_; rintro e w1 ⟨he, hb1⟩; rw [HV.out] at he; subst he)
    go_ret2
    exact ⟨rfl, hb1⟩
  · have HV := Lib.hid hv
    have hlen : s.data.toList.length = s.size := by rw [Array.length_toList]; rfl
    obtain ⟨l, hl⟩ : ∃ l, l = s.data.toList := ⟨_, rfl⟩
    rw [← hl] at hlen ⊢
    have HL := Lib.hid hl
    have HLen := Lib.hid hlen
    clear hv hl hlen
    go_enter Tryz.func44, Tryz.ntmps44
    go_upto_region 3 with (go_at_call 51; refine (valid_any s _ hs HT.out).mono ?_; rintro e w1 ⟨he, hb1⟩; rw [HV.out] at he; subst he)
    have HB1 := Lib.hid hb1
    clear hb1
    obtain ⟨wx, hwx⟩ : ∃ wx, wx = w1.alloc (.cells #[.pointer none, .slice none 0 0] 46) := ⟨_, rfl⟩
    have hsx : wx.heap.size = w1.heap.size + 1 := by rw [hwx]; simp
    have HBx : Hid (Lib.IsBuilderF 46 5 w1.heap.size w1.heap.size (Lib.byteCells []) wx) := by
      rw [hwx]
      exact .inl ⟨Nat.le_refl _, .slice none 0 0, World.alloc_heap_new w1 _, World.ownsRowF_nil _ _ _ _, by simp [Value.ownBlock]⟩
    have HGx : Hid (Below w1.heap.size w1 wx) := by rw [hwx]; exact (Below.refl _ _).alloc (Nat.le_refl _) _
    have HWx := Lib.hid hwx
    have HSx := Lib.hid hsx
    clear hwx hsx
    go_upto_region 4 with (fail)
    rw [← HWx.out]
    go_wp2_with fail
    refine (writeByte_any w1.heap.size w1.heap.size (Lib.byteCells []) 34 _ HBx.out (by simp [Lib.byteCells]) (by rw [HSx.out]; omega)).mono ?_
    rintro e w2 ⟨rfl, hb2, hl2, _⟩
    have HB2 : Hid (Lib.IsBuilderF 46 5 w1.heap.size w1.heap.size (Lib.byteCells [34]) w2) := .inr hb2
    have HG2 : Hid (Below w1.heap.size w1 w2) := HGx.out.trans hl2
    clear hb2 hl2
    go_wp2_with fail
    go_loopw [12] (fun i wr => ∃ k : Nat, k ≤ s.size ∧ i = .int .i64 k ∧ Lib.IsBuilderF 46 5 w1.heap.size w1.heap.size (Lib.byteCells (34 :: (l.take k).flatMap quoteOne)) wr ∧ Below w1.heap.size w1 wr) (fun i _ => s.size - (intOf i).toNat)
    case atStart => exact ⟨0, Nat.zero_le _, rfl, HB2.out, HG2.out⟩
    case round =>
      obtain ⟨k, hk, rfl, hbk, hgk⟩ := hrel
      have HBk := Lib.hid hbk
      have HGk := Lib.hid hgk
      have hzk := hgk.size
      have hfl := flat_len (l.take k)
      have hlt' : (l.take k).length ≤ 2000000 := by rw [List.length_take, HLen.out]; omega
      clear hbk hgk HB2 HG2
      by_cases hlt : k < s.size
      · have l1 : (k : Int) < s.size := by omega
        have l2 : (k : Int) + 1 ≤ s.size := by omega
        have l3 : (0 : Int) ≤ k := by omega
        have l5 : (k : Int) ≤ (k : Int) + 1 := by omega
        have e1 : IntKind.i64.wrap ((k : Int) + 1) = (k : Int) + 1 := IntWalk.i64_in _ (by omega)
        have hfl2 := Lib.hid hfl
        have hlt2 := Lib.hid hlt'
        clear hfl hlt'
        obtain ⟨x, hx⟩ : ∃ x, x = s[k]'hlt := ⟨_, rfl⟩
        have hex : s.extract k (k + 1) = ⟨#[x]⟩ := by rw [hx]; exact extract_one s k hlt
        have HX := Lib.hid hx
        have HEx := Lib.hid hex
        clear hx hex
        go_wp2_with fail
        rw [HEx.out]
        refine (quoted_any x _).mono ?_
        rintro e w3 ⟨rfl, n, rfl⟩
        obtain ⟨y, hy⟩ : ∃ y : List UInt8, y = quoteOne x := ⟨_, rfl⟩
        rw [← hy]
        have HY := Lib.hid hy
        clear hy
        go_wp2_with fail
        refine (writeString_any w1.heap.size w1.heap.size (Lib.byteCells (34 :: (l.take k).flatMap quoteOne)) _ _ (builder_same HBk.out (n := n)) ?_ (by simp; omega)).mono ?_
        · have := quoteOne_len x
          have := hfl2.out
          have := hlt2.out
          rw [Lib.byteCells_length, List.length_cons]
          show _ + y.length ≤ _
          rw [HY.out]
          omega
        rintro e w4 ⟨rfl, hb4, hl4, _⟩
        have HB4 := Lib.hid hb4
        have HG4 : Hid (Below w1.heap.size w1 w4) := (HGk.out.trans (below_drewN _ _ _)).trans hl4
        clear hb4 hl4
        go_wp2_with fail
        refine ⟨⟨k + 1, by omega, by go_num, .inr ?_, HG4.out⟩, by simp [intOf]; omega⟩
        have hkl : k < l.length := by rw [HLen.out]; exact hlt
        have ht : l.take (k + 1) = l.take k ++ [x] := by
          rw [List.take_succ_eq_append_getElem hkl, HX.out]
          congr 2
          simp only [HL.out]
          rfl
        have h4 := HB4.out
        rw [strCells_bytes, ← Lib.byteCells_append, HY.out] at h4
        rw [ht, List.flatMap_append]
        simpa using h4
      · obtain rfl : k = s.size := by omega
        have l1 : decide ((s.size : Int) < s.size) = false := by simp
        go_wp2_with fail
        refine (writeByte_any w1.heap.size w1.heap.size _ 34 _ HBk.out (by rw [Lib.byteCells_length, List.length_cons]; omega) (by omega)).mono ?_
        rintro e w5 ⟨rfl, hb5, hl5, _⟩
        have hz5 := hl5.size
        have hall : l.take s.size = l := List.take_of_length_le (by rw [HLen.out]; exact Nat.le_refl _)
        rw [hall] at hb5
        have hB5 : Lib.IsBuilderF 46 5 w1.heap.size w1.heap.size (Lib.byteCells (quoteAll l)) w5 := by
          right
          unfold quoteAll
          rw [← List.cons_append, Lib.byteCells_append]
          exact hb5
        have HB5 := Lib.hid hB5
        have HG5 : Hid (Below w1.heap.size w1 w5) := HGk.out.trans hl5
        clear hb5 hl5 hall hB5
        go_wp2_with fail
        refine (Tryz.Builder_String_any_k w1.heap.size w1.heap.size (quoteAll l) _ HB5.out (by omega)).mono ?_
        rintro e w6 ⟨rfl, _, hl6, _⟩
        go_wp2_with fail
        go_ret2
        exact ⟨rfl, HB1.out.trans ((HG5.out.trans hl6).mono HB1.out.size)⟩

end Tk
end Go.Proofs.YtmphkifhnjfkmaaGreatDoor

namespace Go.Proofs.YtmphkifhnjfkmaaGreatDoor
open Go.ChangeShapes Go.WideShapes Go.ChangeAt Go.RowKit Go.WideMaps Go.Maps
namespace Tk

def gapS (line : Bool) : ByteArray := if line then ⟨#[10]⟩ else ⟨#[32]⟩

theorem gap_any (k : Int) (x : ByteArray) (p : Int) (line : Bool) (w : World) :
    Calls Tryz.prog 14 #[.agg #[.int .i64 k, .string x, .int .i64 p, .bool line]] w fun e w' => e = .returned (.string (gapS line)) ∧ w.grownBy w' none := by
  cases line
  all_goals
    go_enter Tryz.func14, Tryz.ntmps14
    go_wp2_with fail
    go_ret
    exact ⟨rfl, World.grownBy_alloc w _ none⟩

theorem same_q {f : Nat} {args : Array Value} {w : World} {v v' : Value} (h : Calls Tryz.prog f args w fun e w' => e = .returned v ∧ w = w') (hv : v = v') : Calls Tryz.prog f args w fun e w' => e = .returned v' ∧ w' = w :=
  h.mono fun _ _ ⟨h1, h2⟩ => ⟨hv ▸ h1, h2.symm⟩

set_option maxHeartbeats 1000000 in
theorem written_word (k : Int) (x : ByteArray) (p : Int) (line : Bool) (w : World) (hk : k = 1 ∨ k = 2) (hr : refP x = true) (hc : kwWords.contains x.data.toList = decide (k = 2)) (hz : x.size ≤ 20000) (hM : MaxL w) :
    Calls Tryz.prog 12 #[.agg #[.int .i64 k, .string x, .int .i64 p, .bool line]] w fun e w' => e = .returned (.tuple #[.string x, .bool true]) ∧ w.grownBy w' none := by
  obtain ⟨mm, hm⟩ := hM
  have hw : wordP x.data.toList = true := by rw [word_same]; exact hr
  have hkw := keyword_same _ (word_blank _ hw)
  rw [hc] at hkw
  have hb : ∀ o, ∀ n : Nat, ((w.alloc o).drewN n).cell? ⟨5, 0, none⟩ = some (.int .i64 mm) := fun o n => cell_grown hm ((World.grownBy_alloc w o none).trans (grown_drewN _ n _)) (by simp)
  have HW : Hid (∀ w : World, Calls Tryz.prog 40 #[.string x] w fun e w' => e = .returned (.bool true) ∧ w' = w) := by
    show ∀ w : World, _
    intro w
    exact same_q (isWord_any x w hz) (by rw [hw])
  have HK : Hid (∀ o, ∀ n : Nat, Calls Tryz.prog 41 #[.string x] ((w.alloc o).drewN n) fun e w' => e = .returned (.bool (decide (k = 2))) ∧ w' = (w.alloc o).drewN n) := by
    show ∀ o, ∀ n : Nat, _
    intro o n
    exact same_q (isKeyword_any x _ mm hz (hb o n)) (by rw [hkw])
  clear hw hkw hb hm hc hr
  rcases hk with rfl | rfl
  all_goals
    go_enter Tryz.func12, Tryz.ntmps12
    go_wp2_with fail
    go_quiet ((first | (go_at_call 40; exact Calls.quiet_of_same (HW.out _)) | (go_at_call 41; exact Calls.quiet_of_same (HK.out _ _))))
    go_wp2_with fail
    go_ret2
    exact ⟨rfl, (World.grownBy_alloc w _ none).trans (grown_drewN _ _ _)⟩

set_option maxHeartbeats 2000000 in
set_option maxRecDepth 100000 in
theorem written_isint (x : ByteArray) (p : Int) (line : Bool) (w : World) (h : ∀ w : World, Calls Tryz.prog 42 #[.string x] w fun e w' => e = .returned (.bool true) ∧ w.grownBy w' none) :
    Calls Tryz.prog 12 #[.agg #[.int .i64 3, .string x, .int .i64 p, .bool line]] w fun e w' => e = .returned (.tuple #[.string x, .bool true]) ∧ w.grownBy w' none := by
  have HI := Lib.hid h
  obtain ⟨w0, hw0⟩ : ∃ w0, w0 = w.alloc (.cells #[.int .i64 3, .string x, .int .i64 p, .bool line] 31) := ⟨_, rfl⟩
  have HG0 : Hid (w.grownBy w0 none) := by rw [hw0]; exact World.grownBy_alloc w _ none
  have hn := World.alloc_heap_new w (.cells #[.int .i64 3, .string x, .int .i64 p, .bool line] 31)
  rw [← hw0] at hn
  have c1 : w0.cell? ⟨w.heap.size, 1, none⟩ = some (.string x) := by rw [Lib.cell_of_heap hn]; rfl
  have HC1 := Lib.hid c1
  have HW := Lib.hid hw0
  clear h hw0 hn c1
  go_enter Tryz.func12, Tryz.ntmps12
  go_upto_region 7 with (fail)
  rw [← HW.out]
  have c1 := HC1.out
  go_region_held3 (fun w' => w'.cell? ⟨w.heap.size, 1, none⟩ = some (.string x)) (first | exact c1 | exact c2)
    (first | (go_at_call 42; refine (HI.out _).mono ?_; rintro e w3 ⟨rfl, hg3⟩; have c2 : w3.cell? ⟨w.heap.size, 1, none⟩ = some (.string x) := cell_grown (by exact HC1.out) hg3 (by simp); have HG3 := Lib.hid hg3; clear hg3; go_simp))
  have HGo : Hid (w0.grownBy w3 none) := ⟨HG3.out.os, HG3.out.tape, HG3.out.output, HG3.out.size, HG3.out.block⟩
  go_wp2_with fail
  go_ret2
  exact ⟨rfl, HG0.out.trans HGo.out⟩

set_option maxHeartbeats 2000000 in
set_option maxRecDepth 100000 in
theorem written_isfloat (x : ByteArray) (p : Int) (line : Bool) (w : World) (h : ∀ w : World, Calls Tryz.prog 43 #[.string x] w fun e w' => e = .returned (.bool true) ∧ w.grownBy w' none) :
    Calls Tryz.prog 12 #[.agg #[.int .i64 4, .string x, .int .i64 p, .bool line]] w fun e w' => e = .returned (.tuple #[.string x, .bool true]) ∧ w.grownBy w' none := by
  have HI := Lib.hid h
  obtain ⟨w0, hw0⟩ : ∃ w0, w0 = w.alloc (.cells #[.int .i64 4, .string x, .int .i64 p, .bool line] 31) := ⟨_, rfl⟩
  have HG0 : Hid (w.grownBy w0 none) := by rw [hw0]; exact World.grownBy_alloc w _ none
  have hn := World.alloc_heap_new w (.cells #[.int .i64 4, .string x, .int .i64 p, .bool line] 31)
  rw [← hw0] at hn
  have c1 : w0.cell? ⟨w.heap.size, 1, none⟩ = some (.string x) := by rw [Lib.cell_of_heap hn]; rfl
  have HC1 := Lib.hid c1
  have HW := Lib.hid hw0
  clear h hw0 hn c1
  go_enter Tryz.func12, Tryz.ntmps12
  go_upto_region 9 with (fail)
  rw [← HW.out]
  have c1 := HC1.out
  go_region_held3 (fun w' => w'.cell? ⟨w.heap.size, 1, none⟩ = some (.string x)) (first | exact c1 | exact c2)
    (first | (go_at_call 43; refine (HI.out _).mono ?_; rintro e w3 ⟨rfl, hg3⟩; have c2 : w3.cell? ⟨w.heap.size, 1, none⟩ = some (.string x) := cell_grown (by exact HC1.out) hg3 (by simp); have HG3 := Lib.hid hg3; clear hg3; go_simp))
  have HGo : Hid (w0.grownBy w3 none) := ⟨HG3.out.os, HG3.out.tape, HG3.out.output, HG3.out.size, HG3.out.block⟩
  go_wp2_with fail
  go_ret2
  exact ⟨rfl, HG0.out.trans HGo.out⟩

theorem syms_alloc {w : World} (h : Syms w) (o : Obj) : Syms (w.alloc o) := by
  obtain ⟨tt, fr, hb⟩ := h.block
  refine ⟨tt, fr, ?_⟩
  have h0w : 1 < w.heap.size := by
    rcases Nat.lt_or_ge 1 w.heap.size with h1 | h1
    · exact h1
    · rw [Array.getElem?_eq_none h1] at hb; cases hb
  rw [heap_alloc_old _ _ h0w]
  exact hb

theorem symB_at {x : ByteArray} (h : x ∈ symB) : ∃ K, K < 43 ∧ x = symB.getD K ⟨#[]⟩ := by
  obtain ⟨K, hK, e⟩ := List.getElem_of_mem h
  rw [symB_len] at hK
  refine ⟨K, hK, ?_⟩
  rw [List.getD_eq_getElem?_getD, List.getElem?_eq_getElem (by rw [symB_len]; exact hK)]
  exact e.symm

set_option maxHeartbeats 1000000 in
theorem written_sym (x : ByteArray) (p : Int) (line : Bool) (w : World) (hx : x ∈ symB) (hS : Syms w) :
    Calls Tryz.prog 12 #[.agg #[.int .i64 6, .string x, .int .i64 p, .bool line]] w fun e w' => e = .returned (.tuple #[.string x, .bool true]) ∧ w.grownBy w' none := by
  obtain ⟨K, hK, hxe⟩ := symB_at hx
  have HK : Hid (∀ o, ∀ n : Nat, Calls Tryz.prog 45 #[.string x] ((w.alloc o).drewN n) fun e w' => e = .returned (.bool true) ∧ w' = (w.alloc o).drewN n) := by
    show ∀ o, ∀ n : Nat, _
    intro o n
    rw [hxe]
    exact same_q (isSymbol_true _ K hK ((syms_alloc hS o).drew n)) rfl
  clear hxe hx hS
  go_enter Tryz.func12, Tryz.ntmps12
  go_wp2_with fail
  go_quiet ((first | (go_at_call 45; exact Calls.quiet_of_same (HK.out _ _))  | (go_at_call 45; exact Calls.quiet_of_same (HK.out _ 0))))
  go_wp2_with fail
  go_ret2
  exact ⟨rfl, (World.grownBy_alloc w _ none).trans (grown_drewN _ _ _)⟩

set_option maxHeartbeats 1000000 in
theorem written_str (x : ByteArray) (p : Int) (line : Bool) (w : World) (hv : Lib.validD x.data.toList = true) (hz : x.size ≤ 2000000) (hT : Utf8T w) :
    Calls Tryz.prog 12 #[.agg #[.int .i64 5, .string x, .int .i64 p, .bool line]] w fun e w' => e = .returned (.tuple #[.string (lB (quoteAll x.data.toList)), .bool true]) ∧ w.grownBy w' none := by
  have HQ : Hid (∀ o, Calls Tryz.prog 44 #[.string x] (w.alloc o) fun e w' => e = .returned (.tuple #[.string (lB (quoteAll x.data.toList)), .int .i64 0]) ∧ Below (w.alloc o).heap.size (w.alloc o) w') := by
    show ∀ o, _
    intro o
    refine (quote_any x (w.alloc o) hz (utf8_grown hT (World.grownBy_alloc w o none) (by simp) (by simp))).mono ?_
    rintro e w' ⟨rfl, hb⟩
    rw [if_pos hv]
    exact ⟨rfl, hb⟩
  clear hv hT
  go_enter Tryz.func12, Tryz.ntmps12
  go_wp2_with (go_at_call 44; refine (HQ.out _).mono ?_; rintro e w' ⟨rfl, hb⟩)
  go_ret2
  exact ⟨rfl, Lib.grownBy_below (World.grownBy_alloc w _ none) hb⟩

end Tk
end Go.Proofs.YtmphkifhnjfkmaaGreatDoor

namespace Go.Proofs.YtmphkifhnjfkmaaGreatDoor
open Go.ChangeShapes Go.WideShapes Go.ChangeAt Go.RowKit Go.WideMaps Go.Maps
namespace Tk

theorem rune_len (r : Int) : (Lib.encodeRune r).length ≤ 4 := by
  have := (Lib.encodeRuneZ_length r).2
  simp [Lib.encodeRune]
  omega

theorem text_len : ∀ rs : List Int, (textOf rs).length ≤ 4 * rs.length
  | [] => Nat.zero_le _
  | r :: rs => by
    have h1 := rune_len r
    have h2 := text_len rs
    show (Lib.encodeRune r ++ textOf rs).length ≤ _
    rw [List.length_append, List.length_cons]
    omega

theorem litF_len (s : ByteArray) : ∀ (n p : Nat) (rs : List Int) (q : Nat), litF s n p = some (rs, q) → rs.length ≤ n
  | 0, _, _, _, h => by cases h
  | n + 1, p, rs, q, h => by
    unfold litF at h
    split at h
    · cases h
      exact Nat.zero_le _
    · split at h
      · cases h
      · rename_i r p2 _
        cases hx : litF s n p2 with
        | none => rw [hx] at h; cases h
        | some v =>
          obtain ⟨rs', q'⟩ := v
          rw [hx] at h
          cases h
          have := litF_len s n p2 rs' _ hx
          show rs'.length + 1 ≤ n + 1
          omega

theorem flt_one (b : UInt8) : (flt [b]).length ≤ 1 := by
  have h : ((List.range 256).all fun n => decide ((flt [n.toUInt8]).length ≤ 1)) = true := by decide +kernel
  have h1 := List.all_eq_true.1 h b.toNat (List.mem_range.2 b.toNat_lt)
  have h2 : b.toNat.toUInt8 = b := by simp
  rw [h2] at h1
  exact of_decide_eq_true h1

theorem flt_len : ∀ l : List UInt8, (flt l).length ≤ l.length
  | [] => Nat.le_refl _
  | b :: l => by
    have e : flt (b :: l) = flt [b] ++ flt l := flt_app [b] l
    have h1 := flt_one b
    have h2 := flt_len l
    rw [e, List.length_append, List.length_cons]
    omega

theorem dec_small {N : Nat} (h : N < 340282366920938463463374607431768211456) : (decB N).size ≤ 39 := by
  rw [decB_size]
  exact nd_le 38 N (Nat.lt_of_lt_of_le h (by decide))

theorem num_size {s : ByteArray} {p q : Nat} {k : Int} {tx : ByteArray} {r : Option (Int × ByteArray × Nat)} (hN : NumAt s p r) (hr : r = some (k, tx, q)) (hs : s.size ≤ 20000) : tx.size ≤ 20000 := by
  cases hN with
  | hexBad _ _ _ _ _ => cases hr
  | hexOver _ _ _ _ _ => cases hr
  | binBad _ _ _ _ _ _ => cases hr
  | binOver _ _ _ _ _ _ => cases hr
  | decBad _ _ _ _ _ _ => cases hr
  | decFrac _ _ _ _ _ _ => cases hr
  | decOver _ _ _ _ _ _ _ _ => cases hr
  | hexOk h0 N hR hN hv => cases hr; rw [intT_dec]; exact Nat.le_trans (dec_small (numW_lt _ _ _ _)) (by decide)
  | binOk h0 hb N hR hN hv => cases hr; rw [intT_dec]; exact Nat.le_trans (dec_small (numW_lt _ _ _ _)) (by decide)
  | decOk h0 hb N q' hR hN hF hv => cases hr; rw [intT_dec]; exact Nat.le_trans (dec_small (numW_lt _ _ _ _)) (by decide)
  | decFloat h0 hb N q' hR hN hF =>
    cases hr
    rw [float_text]
    show (flt (s.extract p q).data.toList).toArray.size ≤ _
    rw [List.size_toArray]
    have h1 : (flt (s.extract p q).data.toList).length ≤ (s.extract p q).data.toList.length := flt_len _
    rw [size_list, ByteArray.size_extract] at h1
    omega

theorem ext_small (s : ByteArray) (a b : Nat) : (s.extract a b).size ≤ s.size := by rw [ByteArray.size_extract]; omega

set_option maxRecDepth 20000 in
theorem tok_size {s : ByteArray} {p q : Nat} {k : Int} {tx : ByteArray} {r : (Int × ByteArray × Nat) ⊕ Int} (hp : p < s.size) (hT : TokAt s p r) (hr : r = .inl (k, tx, q)) (hs : s.size ≤ 20000) : (k ≠ 5 → tx.size ≤ 20000) ∧ tx.size ≤ 2000000 := by
  have small : tx.size ≤ 20000 → (k ≠ 5 → tx.size ≤ 20000) ∧ tx.size ≤ 2000000 := fun h => ⟨fun _ => h, by omega⟩
  cases hT with
  | word hl =>
    simp only [Sum.inl.injEq, Prod.mk.injEq] at hr
    obtain ⟨rfl, rfl, rfl⟩ := hr
    exact small (Nat.le_trans (ext_small _ _ _) hs)
  | under hl h95 =>
    simp only [Sum.inl.injEq, Prod.mk.injEq] at hr
    obtain ⟨rfl, rfl, rfl⟩ := hr
    exact small (Nat.le_trans (ext_small _ _ _) hs)
  | num hl hd h95 _ _ _ hN he =>
    simp only [Sum.inl.injEq, Prod.mk.injEq] at hr
    obtain ⟨rfl, rfl, rfl⟩ := hr
    exact small (num_size hN rfl hs)
  | char hl hd h95 h39 r0 _ hm he =>
    simp only [Sum.inl.injEq, Prod.mk.injEq] at hr
    obtain ⟨rfl, rfl, rfl⟩ := hr
    obtain ⟨_, _, c0, c1⟩ := chrM_range hp hm
    refine small ?_
    rw [itoa_dec c0]
    exact Nat.le_trans (dec_small (by omega)) (by decide)
  | block hl hd h95 h39 h34 h3 q0 hm =>
    simp only [Sum.inl.injEq, Prod.mk.injEq] at hr
    obtain ⟨rfl, rfl, rfl⟩ := hr
    exact small (Nat.le_trans (ext_small _ _ _) hs)
  | line h34 h3 rs q0 hm =>
    simp only [Sum.inl.injEq, Prod.mk.injEq] at hr
    obtain ⟨rfl, rfl, rfl⟩ := hr
    have h1 := litF_len _ _ _ _ _ hm
    have h2 := text_len rs
    refine ⟨fun h => absurd rfl h, ?_⟩
    show (textOf rs).toArray.size ≤ _
    rw [List.size_toArray]
    omega
  | symbol hl hd h95 h39 h34 h3 hn =>
    simp only [Sum.inl.injEq, Prod.mk.injEq] at hr
    obtain ⟨rfl, rfl, rfl⟩ := hr
    exact small (Nat.le_trans (best_size s p 43 (Nat.le_refl _)) (by decide))
  | numPart _ _ _ _ _ _ _ _ => cases hr
  | numBad _ _ _ _ => cases hr
  | charPart _ _ _ _ _ _ _ => cases hr
  | charBad _ _ _ _ _ => cases hr
  | blockBad _ _ _ _ _ _ _ => cases hr
  | lineBad _ _ _ => cases hr
  | symbolBad _ _ _ _ _ _ _ => cases hr

/-- What a token that was read is. -/
structure Fine (k : Int) (x : ByteArray) : Prop where
  good : Good k x
  small : k ≠ 5 → x.size ≤ 20000
  size : x.size ≤ 2000000

theorem toksA_fine {s : ByteArray} {p : Nat} {f : Bool} {ts : List Tok} {res : Option (Nat × Int)} (h : ToksA s p f ts res) (hs : s.size ≤ 20000) : ∀ t ∈ ts, Fine t.kind t.text := by
  have hg := toksA_good h
  induction h with
  | last => intro t ht; cases ht
  | badSkip => intro t ht; cases ht
  | badRead => intro t ht; cases ht
  | tok p f b k tx q ts res h hb hr h1 h2 hn ih =>
    intro t ht
    have hgt := hg t ht
    rcases List.mem_cons.1 ht with rfl | ht
    · obtain ⟨z1, z2⟩ := tok_size hb hr rfl hs
      exact ⟨hgt, z1, z2⟩
    · exact ih (fun t ht => hg t (.tail _ ht)) t ht

theorem fine_key {r r' : List Tok} (h : r.map Tok.key = r'.map Tok.key) (hf : ∀ t ∈ r, Fine t.kind t.text) : ∀ t ∈ r', Fine t.kind t.text := by
  intro t ht
  have h1 : t.key ∈ r.map Tok.key := by rw [h]; exact List.mem_map_of_mem ht
  obtain ⟨u, hu, e⟩ := List.mem_map.1 h1
  have k1 : u.kind = t.kind := congrArg (fun x => x.1) e
  have k2 : u.text = t.text := congrArg (fun x => x.2.1) e
  have := hf u hu
  rwa [k1, k2] at this

theorem written_any (k : Int) (x : ByteArray) (p : Int) (line : Bool) (w : World) (h : Fine k x) (hM : MaxL w) (hS : Syms w) (hT : Utf8T w) :
    Calls Tryz.prog 12 #[.agg #[.int .i64 k, .string x, .int .i64 p, .bool line]] w fun e w' => e = .returned (.tuple #[.string (wtx k x), .bool true]) ∧ w.grownBy w' none := by
  obtain ⟨hg, h1, h2⟩ := h
  cases hg with
  | word x hr =>
    have hk := wordKind_ne x.data.toList
    have hr2 := (good_ref (.word x hr) hk.2).2
    unfold wtx
    rw [if_neg hk.1]
    exact written_word _ x p line w hk.2 hr hr2 (h1 hk.1) hM
  | int N hN => exact written_isint _ p line w fun w => isInt_dec w N hN
  | float l hl => exact written_isfloat _ p line w fun w => isFloat_true l hl (by rw [lB_size] at h2; exact h2) w
  | str x hv => exact written_str x p line w hv h2 hT
  | sym x hx => exact written_sym x p line w hx hS

end Tk
end Go.Proofs.YtmphkifhnjfkmaaGreatDoor

namespace Go.Proofs.YtmphkifhnjfkmaaGreatDoor
open Go.ChangeShapes Go.WideShapes Go.ChangeAt Go.RowKit Go.WideMaps Go.Maps
namespace Tk

abbrev Spaces (w : World) : Prop := Lib.TabIs Tryz.prog w "strings.asciiSpace" .u8 Lib.asciiSpaceTab

theorem syms_below {w w' : World} (h : Syms w) (hb : Below w.heap.size w w') : Syms w' := by
  obtain ⟨t, fr, hs⟩ := h.block
  exact ⟨t, fr, (hb.block _ (Array.getElem?_eq_some_iff.1 hs).1).trans hs⟩

/-- What a scanned list holds. -/
theorem row_cell {w : World} {base g cap n : Nat} {xs : List Value} (h : w.ownsRow base 31 4 (.slice (some ⟨g, 0, none⟩) n cap) n xs) (j : Nat) (u : Value) (hj : xs[j]? = some u) : w.cell? ⟨g, j, none⟩ = some u := by
  have := (World.ownsRowF_of h).cells (g := g) rfl j u hj
  rwa [show ((⟨g, 0, none⟩ : Addr).add j) = ⟨g, j, none⟩ by simp [Addr.add]; exact fun h => h.symm] at this

set_option maxHeartbeats 2000000 in
set_option maxRecDepth 100000 in
theorem awake_any (w : World) (hspace : Spaces w) (hsy : Syms w) (hpo : Pow10 w) (hu : Utf8T w) (hml : MaxL w) :
    Calls Tryz.prog 5 #[] w fun e w' => e = .returned (.bool true) ∧ Below w.heap.size w w' := by
  have HS := Lib.hid hspace
  have HY := Lib.hid hsy
  have HP := Lib.hid hpo
  have HU := Lib.hid hu
  have HM := Lib.hid hml
  clear hspace hsy hpo hu hml
  go_enter Tryz.func5, Tryz.ntmps5
  go_wp2_with fail
  refine (scan_any w text1 toks1 (by decide) toks1_ok HS.out HY.out HP.out HU.out HM.out).mono ?_
  rintro e w1 ⟨v1, rfl, hr1, hb1⟩
  have HB1 := Lib.hid hb1
  have HR1 := Lib.hid hr1
  clear hb1 hr1
  go_wp2_with fail
  refine (scan_any w1 text2 toks2 (by decide) toks2_ok (tabIs_below HS.out HB1.out) (syms_below HY.out HB1.out) (tabIs_below HP.out HB1.out) (utf8_below HU.out HB1.out) (maxL_below HM.out HB1.out)).mono ?_
  rintro e w2 ⟨v2, rfl, hr2, hb2⟩
  obtain ⟨g1, c1, rfl⟩ := ownsRow_succ (k := 3) HR1.out
  obtain ⟨g2, c2, rfl⟩ := ownsRow_succ (k := 6) hr2
  have hg1 : g1 < w1.heap.size := (HR1.out.lt g1 rfl).2
  have hc1 : ∀ j u, (cellsOf toks1)[j]? = some u → w2.cell? ⟨g1, j, none⟩ = some u := fun j u h => (World.cell?_of_block (hb2.block g1 hg1)).trans (row_cell HR1.out j u h)
  have hc2 : ∀ j u, (cellsOf toks2)[j]? = some u → w2.cell? ⟨g2, j, none⟩ = some u := fun j u h => row_cell hr2 j u h
  have a0 := hc1 0 (.int .i64 2) rfl
  have a1 := hc1 1 (.string ⟨#[108, 101, 116]⟩) rfl
  have a2 := hc1 2 (.int .i64 0) rfl
  have a3 := hc1 3 (.bool true) rfl
  have a5 := hc1 5 (.string ⟨#[120, 39]⟩) rfl
  have a13 := hc1 13 (.string ⟨#[50, 53, 53]⟩) rfl
  have d5 := hc2 5 (.string ⟨#[46]⟩) rfl
  have d17 := hc2 17 (.string ⟨#[46, 62]⟩) rfl
  have d24 := hc2 24 (.int .i64 5) rfl
  have d25 := hc2 25 (.string ⟨#[97, 65]⟩) rfl
  have d26 := hc2 26 (.int .i64 9) rfl
  have d27 := hc2 27 (.bool false) rfl
  have HB2 := Lib.hid hb2
  clear hc1 hc2 hr2 hb2 hg1
  go_wp2_with fail
  go_ret
  exact ⟨rfl, HB1.out.trans (HB2.out.mono HB1.out.size)⟩

end Tk
end Go.Proofs.YtmphkifhnjfkmaaGreatDoor

namespace Go.Proofs.YtmphkifhnjfkmaaGreatDoor
open Go.ChangeShapes Go.WideShapes Go.ChangeAt Go.RowKit Go.WideMaps Go.Maps
namespace Tk

def Tok.bareT (t : Tok) : Tok := ⟨t.kind, t.text, 0, false⟩

/-- A list of tokens in memory: the cells of a block. -/
structure TokMem (w : World) (ao : Option Addr) (g : Nat) (ts : List Tok) : Prop where
  at0 : 0 < ts.length → ao = some ⟨g, 0, none⟩
  cells : ∀ j u, (cellsOf ts)[j]? = some u → w.cell? ⟨g, j, none⟩ = some u

theorem cellsOf_at (ts : List Tok) : ∀ (k : Nat) (h : k < ts.length) (j : Nat) (_ : j < 4), (cellsOf ts)[4 * k + j]? = (ts[k]'h).cells[j]? := by
  induction ts with
  | nil => intro k h; exact absurd h (by simp)
  | cons t r ih =>
    intro k h j hj
    have e : cellsOf (t :: r) = t.cells ++ cellsOf r := by simp [cellsOf]
    have l4 : t.cells.length = 4 := rfl
    cases k with
    | zero =>
      rw [e, List.getElem?_append_left (by omega), Nat.mul_zero, Nat.zero_add]
      rfl
    | succ k =>
      rw [e, List.getElem?_append_right (by omega), l4, show 4 * (k + 1) + j - 4 = 4 * k + j by omega]
      exact ih k (by simpa using h) j hj

theorem TokMem.cell {w : World} {ao : Option Addr} {g : Nat} {ts : List Tok} (h : TokMem w ao g ts) (k : Nat) (hk : k < ts.length) (j : Nat) (hj : j < 4) {u : Value} (hu : (ts[k]'hk).cells[j]? = some u) : w.cell? ⟨g, k * 4 + j, none⟩ = some u := by
  rw [Nat.mul_comm k 4]
  exact h.cells _ _ ((cellsOf_at ts k hk j hj).trans hu)

theorem TokMem.below {w w' : World} {ao : Option Addr} {g : Nat} {ts : List Tok} (h : TokMem w ao g ts) (hb : Below w.heap.size w w') : TokMem w' ao g ts :=
  ⟨h.at0, fun j u hj => (World.cell?_of_block (hb.block g (lt_cell (h.cells j u hj)))).trans (h.cells j u hj)⟩

theorem TokMem.take {w : World} {ao : Option Addr} {g : Nat} {ts : List Tok} (h : TokMem w ao g ts) (k : Nat) (h0 : 0 < ts.length) : TokMem w ao g (ts.take k) := by
  refine ⟨fun _ => h.at0 h0, fun j u hj => h.cells j u ?_⟩
  have e : cellsOf ts = cellsOf (ts.take k) ++ cellsOf (ts.drop k) := by
    unfold cellsOf
    rw [← List.flatMap_append, List.take_append_drop]
  rw [e]
  have hlt : j < (cellsOf (ts.take k)).length := (List.getElem?_eq_some_iff.1 hj).1
  rw [List.getElem?_append_left hlt]
  exact hj

set_option maxHeartbeats 4000000 in
set_option maxRecDepth 100000 in
theorem bare_any (w : World) (ao : Option Addr) (g cap : Nat) (ts : List Tok) (hM : TokMem w ao g ts) (hn : ts.length ≤ 20000) :
    Calls Tryz.prog 17 #[.slice ao ts.length cap] w fun e w' => ∃ v, e = .returned v ∧ w'.ownsRow w.heap.size 31 4 v ts.length (cellsOf (ts.map Tok.bareT)) ∧ Below w.heap.size w w' := by
  have HM := Lib.hid hM
  clear hM
  obtain ⟨N, hN⟩ : ∃ N, N = ts.length := ⟨_, rfl⟩
  have HN := Lib.hid hN
  rw [← hN] at hn ⊢
  clear hN
  go_enter Tryz.func17, Tryz.ntmps17
  go_wp2_with fail
  go_loopw [3, 8] (fun out iv wr => ∃ (k cp : Nat) (bo : Option Addr), k ≤ N ∧ iv = .int .i64 k ∧ out = .slice bo k cp ∧ wr.ownsRow w.heap.size 31 4 (.slice bo k cp) k (cellsOf ((ts.take k).map Tok.bareT)) ∧ Below w.heap.size w wr) (fun _ iv _ => N - (intOf iv).toNat)
  case atStart => exact ⟨0, 0, none, Nat.zero_le _, rfl, rfl, World.ownsRow_nil _ _ _ _, Below.refl _ _⟩
  case round =>
    obtain ⟨k, cp, bo, hk, rfl, rfl, hrow, hb⟩ := hrel
    have HR := Lib.hid hrow
    have HB := Lib.hid hb
    clear hrow hb
    by_cases hlt : k < N
    · have i1 : (k : Int) < N := by omega
      have hkl : k < ts.length := by rw [← HN.out]; exact hlt
      have i2 : IntKind.i64.wrap ((k : Int) + 1) = (k : Int) + 1 := IntWalk.i64_in _ (by omega)
      have HMr : TokMem wr ao g ts := HM.out.below HB.out
      obtain rfl : ao = some ⟨g, 0, none⟩ := HMr.at0 (by omega)
      obtain ⟨t, ht⟩ : ∃ t, t = ts[k]'hkl := ⟨_, rfl⟩
      have a0 : wr.cell? ⟨g, k * 4, none⟩ = some (.int .i64 t.kind) := HMr.cell k hkl 0 (by decide) (u := .int .i64 t.kind) (by rw [ht]; rfl)
      have a1 := HMr.cell k hkl 1 (by decide) (u := .string t.text) (by rw [ht]; rfl)
      have a2 := HMr.cell k hkl 2 (by decide) (u := .int .i64 t.pos) (by rw [ht]; rfl)
      have a3 := HMr.cell k hkl 3 (by decide) (u := .bool t.line) (by rw [ht]; rfl)
      obtain ⟨i0, hi, hz0, hz1, hz2⟩ := info_parts infoTok
      have HT := Lib.hid ht
      clear HMr ht
      have HB2 : Hid (Below w.heap.size w ((wr.alloc (.cells #[.int .i64 t.kind, .string t.text, .int .i64 t.pos, .bool t.line] 31)).alloc (.cells #[.int .i64 t.kind, .string t.text, .int .i64 0, .bool false] 31))) := by
        have hz := HB.out.size
        exact (HB.out.alloc hz _).alloc (by simp; omega) _
      go_wp2_with (at_builtin; refine wpList_append_own _ rfl _ _ 22 rfl w.heap.size 31 i0 zeroTok 4 40 Tryz.underlying22 hi hz0 hz1 hz2 rfl (by decide) _ _ _ rfl ((HR.out.alloc _).alloc _) ⟨wr.heap.size + 1, 0, none⟩ 1 1 [.int .i64 t.kind, .string t.text, .int .i64 0, .bool false] rfl rfl (new_cells wr _ _ _) (by intro u hu; simp at hu; rcases hu with rfl | rfl | rfl | rfl <;> rfl) (by unfold maxLen; omega) (by omega) (by have := HB.out.size; simp; omega) ?_)
      intro v' w5 hown' hgrow _
      obtain ⟨g', cap', rfl⟩ := ownsRow_succ hown'
      have HO := Lib.hid hown'
      have HGr := Lib.hid hgrow
      clear hown' hgrow
      go_wp2_with fail
      have e1 : (ts.take (k + 1)).map Tok.bareT = (ts.take k).map Tok.bareT ++ [Tok.bareT t] := by
        rw [List.take_add_one, List.getElem?_eq_getElem hkl, List.map_append, HT.out]
        rfl
      refine ⟨⟨k + 1, cap', _, by omega, by go_num, rfl, ?_, HB2.out.grown HGr.out ?_ ?_⟩, ?_⟩
      · rw [e1, cellsOf_snoc, List.map_take]
        exact HO.out
      · simp
        have := HB.out.size
        omega
      · intro r hr
        have := (HR.out.lt r hr).1
        omega
      · simp [intOf]
        omega
    · obtain rfl : k = N := by omega
      have i1 : ¬ (k : Int) < k := by omega
      have e1 : (ts.take k).map Tok.bareT = ts.map Tok.bareT := by rw [HN.out, List.take_length]
      have HE := Lib.hid e1
      clear e1
      go_wp2_with fail
      go_ret
      refine ⟨_, rfl, ?_, HB.out⟩
      rw [← HE.out]
      exact HR.out

end Tk
end Go.Proofs.YtmphkifhnjfkmaaGreatDoor

namespace Go.Proofs.YtmphkifhnjfkmaaGreatDoor
open Go.ChangeShapes Go.WideShapes Go.ChangeAt Go.RowKit Go.WideMaps Go.Maps
namespace Tk

theorem join_snoc : ∀ (l : List Tok) (t : Tok), joinT (l ++ [t]) = joinT l ++ gapB t.line :: (wtx t.kind t.text).data.toList
  | [], t => by
    show gapB t.line :: ((wtx t.kind t.text).data.toList ++ []) = _
    rw [List.append_nil]
    rfl
  | u :: l, t => by
    show gapB u.line :: ((wtx u.kind u.text).data.toList ++ joinT (l ++ [t])) = gapB u.line :: ((wtx u.kind u.text).data.toList ++ joinT l) ++ _
    rw [join_snoc l t]
    simp

theorem text_snoc {l : List Tok} (h : l ≠ []) (t : Tok) : textT (l ++ [t]) = textT l ++ gapB t.line :: (wtx t.kind t.text).data.toList := by
  cases l with
  | nil => exact absurd rfl h
  | cons u l =>
    show (wtx u.kind u.text).data.toList ++ joinT (l ++ [t]) = ((wtx u.kind u.text).data.toList ++ joinT l) ++ _
    rw [join_snoc l t, List.append_assoc]

theorem text_one (t : Tok) : textT [t] = (wtx t.kind t.text).data.toList := by
  show (wtx t.kind t.text).data.toList ++ [] = _
  rw [List.append_nil]

theorem join_app : ∀ (a b : List Tok), joinT (a ++ b) = joinT a ++ joinT b
  | [], _ => rfl
  | u :: a, b => by
    show gapB u.line :: ((wtx u.kind u.text).data.toList ++ joinT (a ++ b)) = gapB u.line :: ((wtx u.kind u.text).data.toList ++ joinT a) ++ _
    rw [join_app a b]
    simp

theorem text_take (ts : List Tok) (k : Nat) : (textT (ts.take k)).length ≤ (textT ts).length := by
  cases ts with
  | nil => rw [List.take_nil]; exact Nat.le_refl _
  | cons u l =>
    cases k with
    | zero => exact Nat.zero_le _
    | succ k =>
      show ((wtx u.kind u.text).data.toList ++ joinT (l.take k)).length ≤ ((wtx u.kind u.text).data.toList ++ joinT l).length
      have h := join_app (l.take k) (l.drop k)
      rw [List.take_append_drop] at h
      rw [h]
      simp only [List.length_append]
      omega

/-- What Text returns. -/
def textV (ts : List Tok) : Value := if (textT ts).length ≤ 20000 then .tuple #[.string (lB (textT ts)), .int .i64 0] else .tuple #[.string ⟨#[]⟩, .int .i64 16]

theorem below_none {w w' : World} (h : w.grownBy w' none) : Below w.heap.size w w' := ⟨h.os, h.tape, h.output, h.size, fun i hi => h.block i hi (by simp)⟩

theorem gapS_cells (l : Bool) : Lib.strCells (gapS l) = Lib.byteCells [gapB l] := by cases l <;> rfl
theorem gapS_size (l : Bool) : (gapS l).size = 1 := by cases l <;> rfl
theorem bytes_cells (x : ByteArray) : Lib.strCells x = Lib.byteCells x.data.toList := rfl

theorem wtx_size {k : Int} {x : ByteArray} (h : x.size ≤ 2000000) : (wtx k x).size ≤ 8000002 := by
  unfold wtx
  split
  · rw [lB_size]
    have h1 := flat_len x.data.toList
    have h2 : x.data.toList.length = x.size := size_list x
    unfold quoteAll
    simp only [List.length_cons, List.length_append, List.length_nil]
    omega
  · omega

set_option maxHeartbeats 8000000 in
set_option maxRecDepth 100000 in
theorem text_tokens (w : World) (ao : Option Addr) (g cap : Nat) (ts : List Tok) (hM : TokMem w ao g ts) (hn : ts.length ≤ 20000) (hF : ∀ t ∈ ts, Fine t.kind t.text) (hl : ∀ t, ts.head? = some t → t.line = true) (hX : MaxL w) (hS : Syms w) (hU : Utf8T w) :
    Calls Tryz.prog 6 #[.slice ao ts.length cap] w fun e w' => e = .returned (textV ts) ∧ Below w.heap.size w w' := by
  have h0 : 0 < w.heap.size := Nat.lt_of_le_of_lt (Nat.zero_le _) (maxL_lt hX)
  have HM := Lib.hid hM
  have HF := Lib.hid hF
  have HL := Lib.hid hl
  have HX := Lib.hid hX
  have HS := Lib.hid hS
  have HU := Lib.hid hU
  clear hM hF hl hX hS hU
  obtain ⟨N, hN⟩ : ∃ N, N = ts.length := ⟨_, rfl⟩
  have HN := Lib.hid hN
  rw [← hN] at hn ⊢
  clear hN
  obtain ⟨wx, hwx⟩ : ∃ wx, wx = w.alloc (.cells #[.pointer none, .slice none 0 0] 46) := ⟨_, rfl⟩
  have HBx : Hid (Lib.IsBuilderF 46 5 w.heap.size w.heap.size (Lib.byteCells []) wx) := by
    rw [hwx]
    exact .inl ⟨Nat.le_refl _, .slice none 0 0, World.alloc_heap_new w _, World.ownsRowF_nil _ _ _ _, by simp [Value.ownBlock]⟩
  have HGx : Hid (Below w.heap.size w wx) := by rw [hwx]; exact (Below.refl _ _).alloc (Nat.le_refl _) _
  have HWx := Lib.hid hwx
  clear hwx
  go_enter Tryz.func6, Tryz.ntmps6
  go_wp2_with fail
  rw [← HWx.out]
  go_loopw [11] (fun iv wr => ∃ k : Nat, k ≤ N ∧ iv = .int .i64 k ∧ Lib.IsBuilderF 46 5 w.heap.size w.heap.size (Lib.byteCells (textT (ts.take k))) wr ∧ (textT (ts.take k)).length ≤ 20000 ∧ Below w.heap.size w wr) (fun iv _ => N - (intOf iv).toNat)
  case atStart => exact ⟨0, Nat.zero_le _, rfl, HBx.out, Nat.zero_le _, HGx.out⟩
  case round =>
    obtain ⟨k, hk, rfl, hbk, hlen, hgk⟩ := hrel
    have HBk := Lib.hid hbk
    have HGk := Lib.hid hgk
    have HLk := Lib.hid hlen
    clear hbk hgk hlen HBx HGx HWx
    have hzk := HGk.out.size
    by_cases hlt : k < N
    · have i1 : (k : Int) < N := by omega
      have hkl : k < ts.length := by rw [← HN.out]; exact hlt
      have i2 : IntKind.i64.wrap ((k : Int) + 1) = (k : Int) + 1 := IntWalk.i64_in _ (by omega)
      have HMr : TokMem wr ao g ts := HM.out.below HGk.out
      obtain rfl : ao = some ⟨g, 0, none⟩ := HMr.at0 (by omega)
      obtain ⟨t, ht⟩ : ∃ t, t = ts[k]'hkl := ⟨_, rfl⟩
      have a0 : wr.cell? ⟨g, k * 4, none⟩ = some (.int .i64 t.kind) := HMr.cell k hkl 0 (by decide) (u := .int .i64 t.kind) (by rw [ht]; rfl)
      have a1 := HMr.cell k hkl 1 (by decide) (u := .string t.text) (by rw [ht]; rfl)
      have a2 := HMr.cell k hkl 2 (by decide) (u := .int .i64 t.pos) (by rw [ht]; rfl)
      have a3 := HMr.cell k hkl 3 (by decide) (u := .bool t.line) (by rw [ht]; rfl)
      have hft := HF.out t (by rw [ht]; exact List.getElem_mem _)
      have HFt := Lib.hid hft
      have htk : ts.take (k + 1) = ts.take k ++ [t] := by rw [List.take_add_one, List.getElem?_eq_getElem hkl, ht]; rfl
      have HTk := Lib.hid htk
      have HTh : Hid (k = 0 → ts[0]? = some t) := by
        show k = 0 → _
        intro e
        subst e
        rw [List.getElem?_eq_getElem hkl, ht]
      have HT := Lib.hid ht
      clear HMr ht hft htk
      go_upto_region 5 with (fail)
      obtain ⟨w1, hw1⟩ : ∃ w1, w1 = wr.alloc (.cells #[.int .i64 t.kind, .string t.text, .int .i64 t.pos, .bool t.line] 31) := ⟨_, rfl⟩
      have hnw := World.alloc_heap_new wr (.cells #[.int .i64 t.kind, .string t.text, .int .i64 t.pos, .bool t.line] 31)
      rw [← hw1] at hnw
      have b0 : w1.cell? ⟨wr.heap.size, 0, none⟩ = some (.int .i64 t.kind) := by rw [Lib.cell_of_heap hnw]; rfl
      have b1 : w1.cell? ⟨wr.heap.size, 1, none⟩ = some (.string t.text) := by rw [Lib.cell_of_heap hnw]; rfl
      have b2 : w1.cell? ⟨wr.heap.size, 2, none⟩ = some (.int .i64 t.pos) := by rw [Lib.cell_of_heap hnw]; rfl
      have b3 : w1.cell? ⟨wr.heap.size, 3, none⟩ = some (.bool t.line) := by rw [Lib.cell_of_heap hnw]; rfl
      have HB1 : Hid (Lib.IsBuilderF 46 5 w.heap.size w.heap.size (Lib.byteCells (textT (ts.take k))) w1) := by rw [hw1]; exact HBk.out.alloc _
      have HG1 : Hid (Below w.heap.size w w1) := by rw [hw1]; exact HGk.out.alloc hzk _
      have HX1 : Hid (MaxL w1) := maxL_below HX.out HG1.out
      have HS1 : Hid (Syms w1) := syms_below HS.out HG1.out
      have HU1 : Hid (Utf8T w1) := utf8_below HU.out HG1.out
      rw [← hw1]
      clear hw1 hnw a0 a1 a2 a3
      have hz1 := HG1.out.size
      have hzx := wtx_size (k := t.kind) HFt.out.size
      by_cases hk0 : k = 0
      · have hline : t.line = true := HL.out t (by rw [List.head?_eq_getElem?, HTh.out hk0])
        have e0 : ((k : Int) == 0) = true := by simp [hk0]
        have i3 : ¬ (0 : Int) < k := by omega
        rw [hline] at b3
        have HLn := Lib.hid hline
        clear hline
        go_upto_region 8 with (go_at_call 12; refine (written_any _ _ _ _ _ HFt.out HX1.out HS1.out HU1.out).mono ?_; rintro e w2 ⟨rfl, hg2⟩)
        have HB2 := Lib.hid (builder_kept HB1.out (grown_row hg2 0) h0)
        have HG2 : Hid (Below w.heap.size w w2) := HG1.out.grown hg2 hz1 (by intro r hr; cases hr)
        have hz2 := HG2.out.size
        clear b0 b1 b2 b3 hg2
        obtain ⟨x, hx⟩ : ∃ x, x = wtx t.kind t.text := ⟨_, rfl⟩
        rw [← hx] at hzx ⊢
        have HXx := Lib.hid hx
        clear hx
        go_wp2_with fail
        refine (writeString_any w.heap.size w.heap.size (Lib.byteCells (textT (ts.take k))) x _ HB2.out (by have := HLk.out; rw [Lib.byteCells_length]; omega) hz2).mono ?_
        rintro e w5 ⟨rfl, hb5, hl5, _⟩
        have HG5 : Hid (Below w.heap.size w w5) := HG2.out.trans hl5
        have hb5' : Lib.IsBuilderF 46 5 w.heap.size w.heap.size (Lib.byteCells (textT (ts.take (k + 1)))) w5 := by
          refine .inr ?_
          rw [HTk.out, hk0]
          show Lib.BuilderAtF _ _ _ _ _ (Lib.byteCells (textT [t])) _
          rw [hk0] at hb5
          rw [text_one, ← HXx.out]
          exact hb5
        have HB5 := Lib.hid hb5'
        clear hb5 hl5 hb5'
        go_wp2_with fail
        refine (Tryz.Builder_Len_f w.heap.size w.heap.size _ _ HB5.out).mono ?_
        rintro e w6 ⟨rfl, rfl⟩
        rw [Lib.byteCells_length]
        obtain ⟨L, hL⟩ : ∃ L, L = (textT (ts.take (k + 1))).length := ⟨_, rfl⟩
        rw [← hL]
        have HLL := Lib.hid hL
        clear hL
        by_cases h20 : L ≤ 20000
        · have j1 : ¬ (20000 : Int) < L := by omega
          go_wp2_with fail
          exact ⟨⟨k + 1, by omega, by go_num, HB5.out, by rw [← HLL.out]; exact h20, HG5.out⟩, by simp [intOf]; omega⟩
        · have j1 : (20000 : Int) < L := by omega
          go_wp2_with fail
          go_ret2
          refine ⟨?_, HG5.out⟩
          have h3 := text_take ts (k + 1)
          have h4 := HLL.out
          unfold textV
          rw [if_neg (by omega)]
          rfl
      · have e0 : ((k : Int) == 0) = false := by simp [hk0]
        have i3 : (0 : Int) < k := by omega
        go_upto_region 8 with (go_at_call 12; refine (written_any _ _ _ _ _ HFt.out HX1.out HS1.out HU1.out).mono ?_; rintro e w2 ⟨rfl, hg2⟩)
        have HB2 := Lib.hid (builder_kept HB1.out (grown_row hg2 0) h0)
        have HG2 : Hid (Below w.heap.size w w2) := HG1.out.grown hg2 hz1 (by intro r hr; cases hr)
        have hz2 := HG2.out.size
        have d0 := cell_grown b0 hg2 (by simp)
        have d1 := cell_grown b1 hg2 (by simp)
        have d2 := cell_grown b2 hg2 (by simp)
        have d3 := cell_grown b3 hg2 (by simp)
        clear b0 b1 b2 b3 hg2
        obtain ⟨x, hx⟩ : ∃ x, x = wtx t.kind t.text := ⟨_, rfl⟩
        rw [← hx] at hzx ⊢
        have HXx := Lib.hid hx
        clear hx
        go_wp2_with fail
        refine (gap_any _ _ _ _ _).mono ?_
        rintro e w3 ⟨rfl, hg3⟩
        have HB3 := Lib.hid (builder_kept HB2.out (grown_row hg3 0) h0)
        have HG3 : Hid (Below w.heap.size w w3) := HG2.out.grown hg3 hz2 (by intro r hr; cases hr)
        have hz3 := HG3.out.size
        clear d0 d1 d2 d3 hg3
        obtain ⟨y, hy⟩ : ∃ y, y = gapS t.line := ⟨_, rfl⟩
        have hys : y.size = 1 := by rw [hy]; exact gapS_size _
        rw [← hy]
        have HY := Lib.hid hy
        have HYs := Lib.hid hys
        clear hy hys
        go_wp2_with fail
        refine (writeString_any w.heap.size w.heap.size (Lib.byteCells (textT (ts.take k))) y _ HB3.out (by have := HLk.out; have := HYs.out; rw [Lib.byteCells_length]; omega) hz3).mono ?_
        rintro e w4 ⟨rfl, hb4, hl4, _⟩
        have HG4 : Hid (Below w.heap.size w w4) := HG3.out.trans hl4
        have hz4 := HG4.out.size
        have HB4 : Hid (Lib.IsBuilderF 46 5 w.heap.size w.heap.size (Lib.byteCells (textT (ts.take k) ++ [gapB t.line])) w4) := by
          show Lib.IsBuilderF _ _ _ _ _ _
          rw [Lib.byteCells_append, ← gapS_cells, ← HY.out]
          exact .inr hb4
        clear hb4 hl4
        go_wp2_with fail
        refine (writeString_any w.heap.size w.heap.size (Lib.byteCells (textT (ts.take k) ++ [gapB t.line])) x _ HB4.out (by have := HLk.out; rw [Lib.byteCells_length, List.length_append, List.length_singleton]; omega) hz4).mono ?_
        rintro e w5 ⟨rfl, hb5, hl5, _⟩
        have HG5 : Hid (Below w.heap.size w w5) := HG4.out.trans hl5
        have hb5' : Lib.IsBuilderF 46 5 w.heap.size w.heap.size (Lib.byteCells (textT (ts.take (k + 1)))) w5 := by
          refine .inr ?_
          have hne : ts.take k ≠ [] := by
            intro e
            have := congrArg List.length e
            rw [List.length_take, List.length_nil] at this
            omega
          rw [HTk.out, text_snoc hne, ← HXx.out, show textT (ts.take k) ++ gapB t.line :: x.data.toList = (textT (ts.take k) ++ [gapB t.line]) ++ x.data.toList by simp, Lib.byteCells_append]
          exact hb5
        have HB5 := Lib.hid hb5'
        clear hb5 hl5 hb5'
        go_wp2_with fail
        refine (Tryz.Builder_Len_f w.heap.size w.heap.size _ _ HB5.out).mono ?_
        rintro e w6 ⟨rfl, rfl⟩
        rw [Lib.byteCells_length]
        obtain ⟨L, hL⟩ : ∃ L, L = (textT (ts.take (k + 1))).length := ⟨_, rfl⟩
        rw [← hL]
        have HLL := Lib.hid hL
        clear hL
        by_cases h20 : L ≤ 20000
        · have j1 : ¬ (20000 : Int) < L := by omega
          go_wp2_with fail
          exact ⟨⟨k + 1, by omega, by go_num, HB5.out, by rw [← HLL.out]; exact h20, HG5.out⟩, by simp [intOf]; omega⟩
        · have j1 : (20000 : Int) < L := by omega
          go_wp2_with fail
          go_ret2
          refine ⟨?_, HG5.out⟩
          have h3 := text_take ts (k + 1)
          have h4 := HLL.out
          unfold textV
          rw [if_neg (by omega)]
          rfl
    · obtain rfl : k = N := by omega
      have i1 : ¬ (k : Int) < k := by omega
      have e1 : ts.take k = ts := by rw [HN.out, List.take_length]
      have HE := Lib.hid e1
      clear e1
      go_wp2_with fail
      refine (Tryz.Builder_String_any_k w.heap.size w.heap.size _ _ HBk.out (by omega)).mono ?_
      rintro e w2 ⟨rfl, _, hbl, _⟩
      go_wp2_with fail
      go_ret2
      refine ⟨?_, HGk.out.trans hbl⟩
      have hlen := HLk.out
      rw [HE.out] at hlen ⊢
      unfold textV
      rw [if_pos hlen]
      rfl

end Tk
end Go.Proofs.YtmphkifhnjfkmaaGreatDoor

namespace Go.Proofs.YtmphkifhnjfkmaaGreatDoor
open Go.ChangeShapes Go.WideShapes Go.ChangeAt Go.RowKit
namespace Tk

theorem cells_old {w w' : World} {b j : Nat} {v : Value} (h : w.cell? ⟨b, j, none⟩ = some v) (hb : Below w.heap.size w w') : w'.cell? ⟨b, j, none⟩ = some v :=
  (World.cell?_of_block (hb.block b (lt_cell h))).trans h

/-- The variables that the program's functions read. -/
structure LawEnv (w : World) (mm : Int) : Prop where
  sp : Spaces w
  sy : Syms w
  po : Pow10 w
  u8 : Utf8T w
  ml : w.cell? ⟨5, 0, none⟩ = some (.int .i64 mm)

theorem LawEnv.below {w w' : World} {mm : Int} (h : LawEnv w mm) (hb : Below w.heap.size w w') : LawEnv w' mm :=
  ⟨tabIs_below h.sp hb, syms_below h.sy hb, tabIs_below h.po hb, utf8_below h.u8 hb, cells_old h.ml hb⟩

theorem LawEnv.drew {w : World} {mm : Int} (h : LawEnv w mm) (n : Nat) : LawEnv (w.drewN n) mm := h.below (below_drewN _ _ _)

end Tk
end Go.Proofs.YtmphkifhnjfkmaaGreatDoor

namespace Go.Proofs.YtmphkifhnjfkmaaGreatDoor
open Go.ChangeShapes Go.WideShapes Go.ChangeAt Go.RowKit Go.WideMaps Go.Maps
namespace Tk

theorem toksA_U {s : ByteArray} (hs : s.size ≤ 20000) {p : Nat} {f : Bool} {ts : List Tok} {res : Option (Nat × Int)} (h : ToksA s p f ts res) : ToksU s p f ts res := by
  induction h with
  | last p f h => exact .last p f h
  | badSkip p f q h => exact .badSkip p f q h
  | badRead p f b code h hb hr => exact .badRead p f b code h hb (tokAt_bad hr rfl hs hb)
  | tok p f b k tx q ts res h hb hr h1 h2 hn ih => exact .tok p f b k tx q ts res h hb (tokAt_ok hr rfl hs hb).1 h1 h2 ih

/-- Every text has its tokens, by what stands there. -/
theorem toksA_ex (s : ByteArray) (hs : s.size ≤ 20000) : ∀ (n p : Nat) (f : Bool), s.size < n + p → p ≤ s.size → ∃ ts res, ToksA s p f ts res
  | 0, p, f, h, hp => by omega
  | n + 1, p, f, h, hp => by
    cases hk : skipM s p with
    | inr q => exact ⟨_, _, .badSkip p f q hk⟩
    | inl b =>
      have hr := skipM_range hp hk
      rcases Nat.lt_or_ge b s.size with hb | hb
      · obtain ⟨r, ht⟩ := tokAt_ex s b hs hb
        cases r with
        | inr code => exact ⟨_, _, .badRead p f b code hk hb ht⟩
        | inl x =>
          obtain ⟨k, tx, q⟩ := x
          obtain ⟨h1, h2, h3⟩ := tokAt_ok ht rfl hs hb
          obtain ⟨ts, res, hn⟩ := toksA_ex s hs n q false (by omega) h3
          exact ⟨_, _, .tok p f b k tx q ts res hk hb ht h2 h3 hn⟩
      · obtain rfl : b = s.size := by omega
        exact ⟨_, _, .last p f hk⟩

theorem toksA_len {s : ByteArray} {p : Nat} {f : Bool} {ts : List Tok} {res : Option (Nat × Int)} (h : ToksA s p f ts res) (hp : p ≤ s.size) : ts.length + p ≤ s.size := by
  induction h with
  | last p f h => simpa using hp
  | badSkip => simpa using hp
  | badRead => simpa using hp
  | tok p f b k tx q ts res h hb hr h1 h2 hn ih =>
    have := skipM_range hp h
    have := ih h2
    rw [List.length_cons]
    omega

/-- Scan of a text whose tokens are known. -/
theorem scan_A (w : World) (s : ByteArray) (mm : Int) (ts : List Tok) (res : Option (Nat × Int)) (hs : s.size ≤ 20000) (hT : ToksA s 0 true ts res) (hE : LawEnv w mm) :
    Calls Tryz.prog 4 #[.string s] w fun e w' =>
      ((res = none ∧ ∃ v, e = .returned (.tuple #[v, .int .i64 0, .int .i64 0]) ∧ w'.ownsRow w.heap.size 31 4 v ts.length (cellsOf ts)) ∨
        (∃ (q : Nat) (code : Int), res = some (q, code) ∧ e = .returned (.tuple #[.slice none 0 0, .int .i64 q, .int .i64 code]))) ∧ Below w.heap.size w w' :=
  scan_total w s ts res hs (toksA_U hs hT) hE.sp hE.sy hE.po hE.u8 ⟨_, hE.ml⟩

set_option maxHeartbeats 4000000 in
set_option maxRecDepth 100000 in
/-- Scan of a text that is too large. -/
theorem scan_large (w : World) (s : ByteArray) (hs : 20000 < s.size) :
    Calls Tryz.prog 4 #[.string s] w fun e w' => e = .returned (.tuple #[.slice none 0 0, .int .i64 0, .int .i64 16]) ∧ Below w.heap.size w w' := by
  have hsi : (20000 : Int) < s.size := by omega
  have hb3 : Below w.heap.size w (((w.alloc (.cells #[.slice none 0 0] 22)).alloc (.cells #[.int .i64 0] 3)).alloc (.cells #[.int .i64 0] 23)) :=
    (((Below.refl _ _).alloc (Nat.le_refl _) _).alloc (by simp) _).alloc (by simp; omega) _
  have HB := Lib.hid hb3
  clear hb3
  go_enter_defers Tryz.func4, Tryz.ntmps4
  go_wp2_with fail
  refine ⟨.tuple #[.slice none 0 0, .int .i64 0, .int .i64 16], by simp [results, Tryz.results4, go_sem], rfl, ?_⟩
  exact (((Below.refl _ _).alloc (Nat.le_refl _) _).alloc (by simp) _).alloc (by simp; omega) _

end Tk
end Go.Proofs.YtmphkifhnjfkmaaGreatDoor

namespace Go.Proofs.YtmphkifhnjfkmaaGreatDoor
open Go.ChangeShapes Go.WideShapes Go.ChangeAt Go.RowKit Go.WideMaps Go.Maps
namespace Tk

/-- A row of tokens that a call owns is a list in memory. -/
theorem row_mem {w : World} {base : Nat} {v : Value} {ts : List Tok} (h : w.ownsRow base 31 4 v ts.length (cellsOf ts)) : ∃ ao cap g, v = .slice ao ts.length cap ∧ TokMem w ao g ts ∧ ts.length ≤ cap := by
  cases ts with
  | nil =>
    rcases h.2 with ⟨h1, h2⟩ | ⟨g, cap, cur, h1, _⟩
    · exact ⟨none, 0, 0, h1, ⟨fun h => (by cases h), fun j u hj => (by cases hj)⟩, Nat.le_refl _⟩
    · exact ⟨_, cap, 0, h1, ⟨fun h => (by cases h), fun j u hj => (by cases hj)⟩, Nat.zero_le _⟩
  | cons t r =>
    rcases h.2 with ⟨h1, h2⟩ | ⟨g, cap, cur, rfl, hg⟩
    · cases h2
    · exact ⟨_, cap, g, rfl, ⟨fun _ => rfl, fun j u hj => row_cell h j u hj⟩, hg.2.2.1⟩

set_option maxHeartbeats 4000000 in
set_option maxRecDepth 100000 in
theorem same_any (w : World) (ao bo : Option Addr) (g g2 cap cap2 : Nat) (ts us : List Tok) (hM : TokMem w ao g ts) (hM2 : TokMem w bo g2 us) (heq : us.map Tok.bareT = ts.map Tok.bareT) (hn : ts.length ≤ 20000) :
    Calls Tryz.prog 7 #[.slice ao ts.length cap, .slice bo us.length cap2] w fun e w' => e = .returned (.bool true) ∧ Below w.heap.size w w' := by
  have hlen : us.length = ts.length := by
    have := congrArg List.length heq
    rwa [List.length_map, List.length_map] at this
  have HM := Lib.hid hM
  have HM2 := Lib.hid hM2
  have HEq := Lib.hid heq
  have HL := Lib.hid hlen
  clear hM hM2 heq hlen
  go_enter Tryz.func7, Tryz.ntmps7
  go_wp2_with fail
  refine (bare_any w ao g cap ts HM.out hn).mono ?_
  rintro e w1 ⟨v1, rfl, hr1, hb1⟩
  have HR1 := Lib.hid hr1
  have HB1 := Lib.hid hb1
  have hn2 : us.length ≤ 20000 := by rw [HL.out]; exact hn
  clear hr1 hb1
  go_wp2_with fail
  refine (bare_any w1 bo g2 cap2 us (HM2.out.below HB1.out) hn2).mono ?_
  rintro e w2 ⟨v2, rfl, hr2, hb2⟩
  have l1 : (ts.map Tok.bareT).length = ts.length := List.length_map _
  obtain ⟨xs, hxs⟩ : ∃ xs, xs = ts.map Tok.bareT := ⟨_, rfl⟩
  rw [HEq.out, HL.out, ← hxs, ← l1, ← hxs] at hr2
  have hr1 := HR1.out
  rw [← hxs, ← l1, ← hxs] at hr1
  obtain ⟨a1, c1, g1, rfl, m1, _⟩ := row_mem hr1
  obtain ⟨a2, c2, g3, rfl, m2, _⟩ := row_mem hr2
  have hxn : xs.length ≤ 20000 := by rw [hxs, l1]; exact hn
  have HM1 : Hid (TokMem w2 a1 g1 xs) := m1.below hb2
  have HMB : Hid (TokMem w2 a2 g3 xs) := m2
  have HB2 : Hid (Below w.heap.size w w2) := HB1.out.trans (hb2.mono HB1.out.size)
  clear hr1 hr2 m1 m2 hb2 hxs l1 HR1 HEq HL HM HM2 HB1 hn hn2
  obtain ⟨N, hN⟩ : ∃ N, N = xs.length := ⟨_, rfl⟩
  have HN := Lib.hid hN
  rw [← hN] at hxn ⊢
  clear hN
  go_wp2_with fail
  go_loopw [19] (fun iv wr => ∃ k : Nat, k ≤ N ∧ iv = .int .i64 k ∧ ∃ q, wr = w2.drewN q) (fun iv _ => N - (intOf iv).toNat)
  case atStart => exact ⟨0, Nat.zero_le _, rfl, 0, rfl⟩
  case round =>
    obtain ⟨k, hk, rfl, q, hq⟩ := hrel
    by_cases hlt : k < N
    · have i1 : (k : Int) < N := by omega
      have hkl : k < xs.length := by rw [← HN.out]; exact hlt
      have i2 : IntKind.i64.wrap ((k : Int) + 1) = (k : Int) + 1 := IntWalk.i64_in _ (by omega)
      have HQ := Lib.hid hq
      have hM1 : TokMem wr a1 g1 xs := by rw [hq]; exact ⟨HM1.out.at0, HM1.out.cells⟩
      have hM2 : TokMem wr a2 g3 xs := by rw [hq]; exact ⟨HMB.out.at0, HMB.out.cells⟩
      clear hq
      obtain rfl : a1 = some ⟨g1, 0, none⟩ := hM1.at0 (by omega)
      obtain rfl : a2 = some ⟨g3, 0, none⟩ := hM2.at0 (by omega)
      obtain ⟨t, ht⟩ : ∃ t, t = xs[k]'hkl := ⟨_, rfl⟩
      have a0 : wr.cell? ⟨g1, k * 4, none⟩ = some (.int .i64 t.kind) := hM1.cell k hkl 0 (by decide) (u := .int .i64 t.kind) (by rw [ht]; rfl)
      have a1 := hM1.cell k hkl 1 (by decide) (u := .string t.text) (by rw [ht]; rfl)
      have a2 := hM1.cell k hkl 2 (by decide) (u := .int .i64 t.pos) (by rw [ht]; rfl)
      have a3 := hM1.cell k hkl 3 (by decide) (u := .bool t.line) (by rw [ht]; rfl)
      have b0 : wr.cell? ⟨g3, k * 4, none⟩ = some (.int .i64 t.kind) := hM2.cell k hkl 0 (by decide) (u := .int .i64 t.kind) (by rw [ht]; rfl)
      have b1 := hM2.cell k hkl 1 (by decide) (u := .string t.text) (by rw [ht]; rfl)
      have b2 := hM2.cell k hkl 2 (by decide) (u := .int .i64 t.pos) (by rw [ht]; rfl)
      have b3 := hM2.cell k hkl 3 (by decide) (u := .bool t.line) (by rw [ht]; rfl)
      clear hM1 hM2 ht
      go_wp2_with fail
      go_quiet (fail)
      go_wp2_with fail
      refine ⟨⟨k + 1, by omega, by go_num, ?_⟩, by simp [intOf]; omega⟩
      rw [HQ.out]
      exact ⟨q + nq, by simp⟩
    · obtain rfl : k = N := by omega
      have i1 : ¬ (k : Int) < k := by omega
      have HQ := Lib.hid hq
      clear hq
      go_wp2_with fail
      go_ret
      refine ⟨rfl, ?_⟩
      rw [HQ.out]
      exact HB2.out.trans (below_drewN _ _ _)

end Tk
end Go.Proofs.YtmphkifhnjfkmaaGreatDoor

namespace Go.Proofs.YtmphkifhnjfkmaaGreatDoor
open Go.ChangeShapes Go.WideShapes Go.ChangeAt Go.RowKit Go.WideMaps Go.Maps
namespace Tk

set_option maxHeartbeats 4000000 in
set_option maxRecDepth 100000 in
theorem back_big (s : ByteArray) (w : World) (mm : Int) (hs : 2000 < s.size) (hE : LawEnv w mm)
    (hS : Calls Tryz.prog 4 #[.string s] w fun e w' => (∃ v a c, e = .returned (.tuple #[v, .int .i64 a, .int .i64 c])) ∧ Below w.heap.size w w') :
    Calls Tryz.prog 3 #[.string s] w fun e w' => e = .returned (.bool true) ∧ Below w.heap.size w w' := by
  have l1 : (2000 : Int) < s.size := by omega
  have HE := Lib.hid hE
  have HS := Lib.hid hS
  clear hE hS
  go_enter Tryz.func3, Tryz.ntmps3
  go_wp2_with fail
  refine HS.out.mono ?_
  rintro e w1 ⟨⟨v, a, c, rfl⟩, hb1⟩
  have HE1 := Lib.hid (HE.out.below hb1)
  have HB1 := Lib.hid hb1
  clear hb1
  go_wp2_with fail
  refine (awake_any _ HE1.out.sp HE1.out.sy HE1.out.po HE1.out.u8 ⟨_, HE1.out.ml⟩).mono ?_
  rintro e w2 ⟨rfl, hb2⟩
  go_wp2_with fail
  go_ret
  exact ⟨rfl, HB1.out.trans (hb2.mono HB1.out.size)⟩

set_option maxHeartbeats 4000000 in
set_option maxRecDepth 100000 in
theorem back_err (s : ByteArray) (w : World) (mm : Int) (q : Nat) (code : Int) (hs : s.size ≤ 2000) (hc : 30 ≤ code) (hE : LawEnv w mm)
    (hS : Calls Tryz.prog 4 #[.string s] w fun e w' => e = .returned (.tuple #[.slice none 0 0, .int .i64 q, .int .i64 code]) ∧ Below w.heap.size w w') :
    Calls Tryz.prog 3 #[.string s] w fun e w' => e = .returned (.bool true) ∧ Below w.heap.size w w' := by
  have l1 : ¬ (2000 : Int) < s.size := by omega
  have l2 : (code == 0) = false := by simp; omega
  have l2' : (code != 0) = true := by simp; omega
  have HE := Lib.hid hE
  have HS := Lib.hid hS
  clear hE hS hc hs
  go_enter Tryz.func3, Tryz.ntmps3
  go_wp2_with fail
  refine HS.out.mono ?_
  rintro e w1 ⟨rfl, hb1⟩
  have HE1 := Lib.hid (HE.out.below hb1)
  have HB1 := Lib.hid hb1
  clear hb1
  go_wp2_with fail
  refine (awake_any _ HE1.out.sp HE1.out.sy HE1.out.po HE1.out.u8 ⟨_, HE1.out.ml⟩).mono ?_
  rintro e w2 ⟨rfl, hb2⟩
  go_wp2_with fail
  go_ret
  exact ⟨rfl, HB1.out.trans (hb2.mono HB1.out.size)⟩

/-- Text of a list of tokens answers r. -/
def Texts (ts : List Tok) (mm : Int) (r : Value) : Prop :=
  ∀ (w : World) (ao : Option Addr) (g cap : Nat), TokMem w ao g ts → LawEnv w mm → Calls Tryz.prog 6 #[.slice ao ts.length cap] w fun e w' => e = .returned r ∧ Below w.heap.size w w'

set_option maxHeartbeats 4000000 in
set_option maxRecDepth 100000 in
theorem back_large (s : ByteArray) (w : World) (mm : Int) (ts : List Tok) (hs : s.size ≤ 2000) (hE : LawEnv w mm)
    (hS : Calls Tryz.prog 4 #[.string s] w fun e w' => (∃ v, e = .returned (.tuple #[v, .int .i64 0, .int .i64 0]) ∧ w'.ownsRow w.heap.size 31 4 v ts.length (cellsOf ts)) ∧ Below w.heap.size w w')
    (hT : Texts ts mm (.tuple #[.string ⟨#[]⟩, .int .i64 16])) :
    Calls Tryz.prog 3 #[.string s] w fun e w' => e = .returned (.bool true) ∧ Below w.heap.size w w' := by
  have l1 : ¬ (2000 : Int) < s.size := by omega
  have HE := Lib.hid hE
  have HS := Lib.hid hS
  have HT := Lib.hid hT
  clear hE hS hT hs
  go_enter Tryz.func3, Tryz.ntmps3
  go_wp2_with fail
  refine HS.out.mono ?_
  rintro e w1 ⟨⟨v, rfl, hr1⟩, hb1⟩
  obtain ⟨ao, cap, g, rfl, hm1, _⟩ := row_mem hr1
  have HE1 := Lib.hid (HE.out.below hb1)
  have HB1 := Lib.hid hb1
  have HM1 := Lib.hid hm1
  clear hb1 hr1 hm1
  go_wp2_with fail
  refine (HT.out _ _ _ _ HM1.out HE1.out).mono ?_
  rintro e w2 ⟨rfl, hb2⟩
  have HE2 := Lib.hid (HE1.out.below hb2)
  have HB2 : Hid (Below w.heap.size w w2) := HB1.out.trans (hb2.mono HB1.out.size)
  clear hb2
  go_wp2_with fail
  refine (awake_any _ HE2.out.sp HE2.out.sy HE2.out.po HE2.out.u8 ⟨_, HE2.out.ml⟩).mono ?_
  rintro e w3 ⟨rfl, hb3⟩
  go_wp2_with fail
  go_ret
  exact ⟨rfl, HB2.out.trans (hb3.mono HB2.out.size)⟩

set_option maxHeartbeats 4000000 in
set_option maxRecDepth 100000 in
theorem back_some (s T : ByteArray) (w : World) (mm : Int) (ts us : List Tok) (hs : s.size ≤ 2000) (hE : LawEnv w mm) (hlen : ts.length ≤ 20000) (hul : us.length = ts.length)
    (hbare : us.map Tok.bareT = ts.map Tok.bareT) (hline : ∀ (k : Nat) (h : k < us.length) (h' : k < ts.length), (us[k]'h).line = (ts[k]'h').line)
    (hS : Calls Tryz.prog 4 #[.string s] w fun e w' => (∃ v, e = .returned (.tuple #[v, .int .i64 0, .int .i64 0]) ∧ w'.ownsRow w.heap.size 31 4 v ts.length (cellsOf ts)) ∧ Below w.heap.size w w')
    (hT : Texts ts mm (.tuple #[.string T, .int .i64 0]))
    (hS2 : ∀ w, LawEnv w mm → Calls Tryz.prog 4 #[.string T] w fun e w' => (∃ v, e = .returned (.tuple #[v, .int .i64 0, .int .i64 0]) ∧ w'.ownsRow w.heap.size 31 4 v us.length (cellsOf us)) ∧ Below w.heap.size w w')
    (hT2 : Texts us mm (.tuple #[.string T, .int .i64 0])) :
    Calls Tryz.prog 3 #[.string s] w fun e w' => e = .returned (.bool true) ∧ Below w.heap.size w w' := by
  have l1 : ¬ (2000 : Int) < s.size := by omega
  have HE := Lib.hid hE
  have HS := Lib.hid hS
  have HT := Lib.hid hT
  have HS2 := Lib.hid hS2
  have HT2 := Lib.hid hT2
  have HBare := Lib.hid hbare
  have HLine := Lib.hid hline
  obtain ⟨N, hN⟩ : ∃ N, N = ts.length := ⟨_, rfl⟩
  have hU : us.length = N := by rw [hul, hN]
  have HN := Lib.hid hN
  have HUl := Lib.hid hU
  rw [← hN] at hlen
  clear hE hS hT hS2 hT2 hbare hline hs hul hN hU
  go_enter Tryz.func3, Tryz.ntmps3
  go_wp2_with fail
  refine HS.out.mono ?_
  rintro e w1 ⟨⟨v, rfl, hr1⟩, hb1⟩
  obtain ⟨ao, cap, g, rfl, hm1, _⟩ := row_mem hr1
  have HE1 := Lib.hid (HE.out.below hb1)
  have HB1 := Lib.hid hb1
  have HM1 := Lib.hid hm1
  clear hb1 hr1 hm1
  go_wp2_with fail
  refine (HT.out _ _ _ _ HM1.out HE1.out).mono ?_
  rintro e w2 ⟨rfl, hb2⟩
  have HE2 := Lib.hid (HE1.out.below hb2)
  have HB2 : Hid (Below w.heap.size w w2) := HB1.out.trans (hb2.mono HB1.out.size)
  have HM2 : Hid (TokMem w2 ao g ts) := HM1.out.below hb2
  clear hb2
  go_wp2_with fail
  refine (HS2.out _ HE2.out).mono ?_
  rintro e w3 ⟨⟨v, rfl, hr3⟩, hb3⟩
  obtain ⟨bo, cap2, g2, rfl, hm3, _⟩ := row_mem hr3
  have HE3 := Lib.hid (HE2.out.below hb3)
  have HB3 : Hid (Below w.heap.size w w3) := HB2.out.trans (hb3.mono HB2.out.size)
  have HM3 : Hid (TokMem w3 ao g ts) := HM2.out.below hb3
  have HU3 := Lib.hid hm3
  clear hb3 hr3 hm3
  go_wp2_with fail
  refine (HT2.out _ _ _ _ HU3.out HE3.out).mono ?_
  rintro e w4 ⟨rfl, hb4⟩
  have HE4 := Lib.hid (HE3.out.below hb4)
  have HB4 : Hid (Below w.heap.size w w4) := HB3.out.trans (hb4.mono HB3.out.size)
  have HM4 : Hid (TokMem w4 ao g ts) := HM3.out.below hb4
  have HU4 : Hid (TokMem w4 bo g2 us) := HU3.out.below hb4
  clear hb4
  go_wp2_with fail
  refine (same_any w4 ao bo g g2 cap cap2 ts us HM4.out HU4.out HBare.out (by rw [← HN.out]; exact hlen)).mono ?_
  rintro e w5 ⟨rfl, hb5⟩
  have HE5 := Lib.hid (HE4.out.below hb5)
  have HB5 : Hid (Below w.heap.size w w5) := HB4.out.trans (hb5.mono HB4.out.size)
  have HM5 : Hid (TokMem w5 ao g ts) := HM4.out.below hb5
  have HU5 : Hid (TokMem w5 bo g2 us) := HU4.out.below hb5
  clear hb5
  rw [← HN.out, HUl.out]
  go_wp2_with fail
  go_loopw [69] (fun iv wr => ∃ k : Nat, k ≤ N ∧ iv = .int .i64 k ∧ ∃ q, wr = w5.drewN q) (fun iv _ => N - (intOf iv).toNat)
  case atStart => exact ⟨0, Nat.zero_le _, rfl, 0, rfl⟩
  case round =>
    obtain ⟨k, hk, rfl, q, hq⟩ := hrel
    have HQ := Lib.hid hq
    by_cases hlt : k < N
    · have hkt : k < ts.length := by rw [← HN.out]; exact hlt
      have hku : k < us.length := by rw [HUl.out]; exact hlt
      have i1 : (k : Int) < N := by omega
      have i2 : IntKind.i64.wrap ((k : Int) + 1) = (k : Int) + 1 := IntWalk.i64_in _ (by omega)
      have hMr : TokMem wr ao g ts := by rw [hq]; exact ⟨HM5.out.at0, HM5.out.cells⟩
      have hUr : TokMem wr bo g2 us := by rw [hq]; exact ⟨HU5.out.at0, HU5.out.cells⟩
      obtain rfl : ao = some ⟨g, 0, none⟩ := hMr.at0 (by omega)
      obtain rfl : bo = some ⟨g2, 0, none⟩ := hUr.at0 (by omega)
      obtain ⟨b, hb⟩ : ∃ b, b = (ts[k]'hkt).line := ⟨_, rfl⟩
      have a3 : wr.cell? ⟨g, k * 4 + 3, none⟩ = some (.bool b) := hMr.cell k hkt 3 (by decide) (u := .bool b) (by rw [hb]; rfl)
      have b3 : wr.cell? ⟨g2, k * 4 + 3, none⟩ = some (.bool b) := hUr.cell k hku 3 (by decide) (u := .bool b) (by rw [hb, ← HLine.out k hku hkt]; rfl)
      clear hq hMr hUr hb
      go_wp2_with fail
      go_quiet (fail)
      go_wp2_with fail
      exact ⟨⟨k + 1, by omega, by go_num, q + nq, by rw [HQ.out]; simp⟩, by simp [intOf]; omega⟩
    · obtain rfl : k = N := by omega
      have i1 : ¬ (k : Int) < k := by omega
      have HEr : Hid (LawEnv wr mm) := by rw [HQ.out]; exact HE5.out.drew q
      have HBr : Hid (Below w.heap.size w wr) := by rw [HQ.out]; exact HB5.out.trans (below_drewN _ _ _)
      clear hq
      go_wp2_with fail
      refine (awake_any _ HEr.out.sp HEr.out.sy HEr.out.po HEr.out.u8 ⟨_, HEr.out.ml⟩).mono ?_
      rintro e w6 ⟨rfl, hb6⟩
      go_wp2_with fail
      go_ret
      exact ⟨rfl, HBr.out.trans (hb6.mono HBr.out.size)⟩

end Tk
end Go.Proofs.YtmphkifhnjfkmaaGreatDoor

namespace Go.Proofs.YtmphkifhnjfkmaaGreatDoor
open Go.ChangeShapes Go.WideShapes Go.ChangeAt Go.RowKit Go.WideMaps Go.Maps
namespace Tk

theorem key_bare {r r' : List Tok} (h : r.map Tok.key = r'.map Tok.key) : r.map Tok.bareT = r'.map Tok.bareT := by
  have e : Tok.bareT = (fun k : Int × ByteArray × Bool => (⟨k.1, k.2.1, 0, false⟩ : Tok)) ∘ Tok.key := rfl
  rw [e, ← List.map_map, ← List.map_map, h]

theorem key_line {r r' : List Tok} (h : r.map Tok.key = r'.map Tok.key) (k : Nat) (h1 : k < r.length) (h2 : k < r'.length) : (r[k]'h1).line = (r'[k]'h2).line := by
  have e : (r.map Tok.key)[k]? = (r'.map Tok.key)[k]? := by rw [h]
  rw [List.getElem?_map, List.getElem?_map, List.getElem?_eq_getElem h1, List.getElem?_eq_getElem h2] at e
  exact congrArg (fun x => x.2.2) (Option.some.inj e)

theorem texts_of {ts : List Tok} {mm : Int} {r : Value} (hn : ts.length ≤ 20000) (hF : ∀ t ∈ ts, Fine t.kind t.text) (hl : ∀ t, ts.head? = some t → t.line = true) (hr : textV ts = r) : Texts ts mm r := by
  intro w ao g cap hM hE
  rw [← hr]
  exact text_tokens w ao g cap ts hM hn hF hl ⟨_, hE.ml⟩ hE.sy hE.u8

theorem first_line {s : ByteArray} {p : Nat} {ts : List Tok} {res : Option (Nat × Int)} (h : ToksA s p true ts res) : ∀ t, ts.head? = some t → t.line = true := by
  intro t ht
  cases ts with
  | nil => cases ht
  | cons u r =>
    cases ht
    exact toksA_first h

theorem back_any (s : ByteArray) (w : World) (mm : Int) (hE : LawEnv w mm) :
    Calls Tryz.prog 3 #[.string s] w fun e w' => e = .returned (.bool true) ∧ Below w.heap.size w w' := by
  rcases Nat.lt_or_ge 20000 s.size with hl | hs
  · refine back_big s w mm (by omega) hE ((scan_large w s hl).mono ?_)
    rintro e w' ⟨rfl, hb⟩
    exact ⟨⟨_, _, _, rfl⟩, hb⟩
  · obtain ⟨ts, res, hT⟩ := toksA_ex s hs (s.size + 1) 0 true (by omega) (Nat.zero_le _)
    have hS := scan_A w s mm ts res hs hT hE
    rcases Nat.lt_or_ge 2000 s.size with h5 | h5
    · refine back_big s w mm h5 hE (hS.mono ?_)
      rintro e w' ⟨⟨_, v, rfl, _⟩ | ⟨q, code, _, rfl⟩, hb⟩
      · exact ⟨⟨_, _, _, rfl⟩, hb⟩
      · exact ⟨⟨_, _, _, rfl⟩, hb⟩
    · cases res with
      | some x =>
        obtain ⟨q, code⟩ := x
        obtain ⟨_, _, hc, _⟩ := toksA_err hT (Nat.zero_le _) q code rfl
        refine back_err s w mm q code h5 hc hE (hS.mono ?_)
        rintro e w' ⟨⟨h, _⟩ | ⟨q', code', h, rfl⟩, hb⟩
        · cases h
        · cases h
          exact ⟨rfl, hb⟩
      | none =>
        have hlen := toksA_len hT (Nat.zero_le _)
        have hF := toksA_fine hT hs
        have hS' : Calls Tryz.prog 4 #[.string s] w fun e w' => (∃ v, e = .returned (.tuple #[v, .int .i64 0, .int .i64 0]) ∧ w'.ownsRow w.heap.size 31 4 v ts.length (cellsOf ts)) ∧ Below w.heap.size w w' := by
          refine hS.mono ?_
          rintro e w' ⟨⟨_, v, rfl, hr⟩ | ⟨q, code, h, _⟩, hb⟩
          · exact ⟨⟨v, rfl, hr⟩, hb⟩
          · cases h
        by_cases hz : (textT ts).length ≤ 20000
        · obtain ⟨us, hU, hK⟩ := toksA_text hT
          have hul : us.length = ts.length := by
            have := congrArg List.length hK
            rwa [List.length_map, List.length_map] at this
          have hFu := fine_key hK.symm hF
          have hv : textV ts = .tuple #[.string (lB (textT ts)), .int .i64 0] := by unfold textV; rw [if_pos hz]
          have hvu : textV us = .tuple #[.string (lB (textT ts)), .int .i64 0] := by
            unfold textV
            rw [text_key hK, if_pos hz]
          refine back_some s (lB (textT ts)) w mm ts us h5 hE (by omega) hul (key_bare hK) (fun k h h' => key_line hK k h h') hS' (texts_of (by omega) hF (first_line hT) hv) (fun w2 hE2 => ?_) (texts_of (by omega) hFu (first_line hU) hvu)
          refine (scan_A w2 _ mm _ none (by rw [lB_size]; exact hz) hU hE2).mono ?_
          rintro e w' ⟨⟨_, v, rfl, hr⟩ | ⟨q, code, h, _⟩, hb⟩
          · exact ⟨⟨v, rfl, hr⟩, hb⟩
          · cases h
        · exact back_large s w mm ts h5 hE hS' (texts_of (by omega) hF (first_line hT) (by unfold textV; rw [if_neg hz]))

end Tk
end Go.Proofs.YtmphkifhnjfkmaaGreatDoor

namespace Go.Proofs.YtmphkifhnjfkmaaGreatDoor
open Go.ChangeShapes Go.WideShapes Go.ChangeAt Go.RowKit
namespace Tk

theorem tabIs_of {P : Program} {w : World} {name : String} {k : IntKind} {zs : List Int} {g t e n : Nat} (hg : P.globalNamed name = some g) (hty : (P.globals[g]?).map (·.type) = some t)
    (ht : P.underlying t = some (.array n e)) (he : P.underlying e = some (.int k)) (hce : P.cellsOf e = 1) (hct : P.cellsOf t = n) (h : Lib.VarReads P w name (Lib.tabData k zs)) : Lib.TabIs P w name k zs := by
  obtain ⟨g', t', cs, fuel, p, h1, h2, h3, h4⟩ := h
  obtain rfl := Option.some.inj (hg.symm.trans h1)
  obtain rfl := Option.some.inj (hty.symm.trans h2)
  unfold Lib.TabIs
  rw [h3, ← Lib.cells_of_tab ht he hce hct h4]

theorem symData_eq : (Rows.laid_hackamore_token_symbols : DataW Unit) = .agg (symL.map fun l => .lit (.string l)) := by kernel_rfl

theorem syms_of {w : World} (h : Lib.VarReads Tryz.prog w "hackamore/token.symbols" Rows.laid_hackamore_token_symbols) : Syms w := by
  obtain ⟨g, t, cs, fuel, p, h1, h2, h3, h4⟩ := h
  have hg : Tryz.prog.globalNamed "hackamore/token.symbols" = some 1 := by kernel_rfl
  have hty : (Tryz.prog.globals[1]?).map (·.type) = some 81 := by kernel_rfl
  obtain rfl := Option.some.inj (hg.symm.trans h1)
  obtain rfl := Option.some.inj (hty.symm.trans h2)
  rw [symData_eq] at h4
  obtain ⟨xs, k, rfl, hx, hlen, hn, hel⟩ := DataW.trod_array Tryz.underlying81 h4
  have c9 : Tryz.prog.cellsOf 9 = 1 := by kernel_rfl
  have c50 : Tryz.prog.cellsOf 81 = 43 := by kernel_rfl
  rw [c9] at hel
  rw [c50] at hlen
  simp only [Prod.mk.injEq, DataW.agg.injEq] at hx
  have key : ∀ i, i < 43 → cs[i]? = symCells[i]? := fun i hi => by
    obtain ⟨y, hy⟩ : ∃ y, xs[i]? = some y := ⟨xs[i], by simp [hn, hi]⟩
    have h5 := hel i hi
    rw [hy] at h5
    obtain ⟨s, hs, hys, _⟩ := DataW.trod_string Tryz.underlying9 h5
    have h6 : (xs.map (·.1))[i]? = some y.1 := by simp [hy]
    rw [← hx.1, hys] at h6
    have h7 : cs[i]? = some (.string s) := by
      have := congrArg (·[0]?) hs
      simpa [List.getElem?_take, List.getElem?_drop] using this
    have h8 : symL[i]? = some s.data.toList := by
      simp only [List.getElem?_map, Option.map_eq_some_iff] at h6
      obtain ⟨l, hl, he⟩ := h6
      simp only [DataW.lit.injEq, Lit.string.injEq] at he
      rw [hl, he]
    rw [h7]
    unfold symCells symB
    rw [← Array.getElem?_toList]
    simp only [List.getElem?_map, h8, Option.map_some]
  have hcs : cs = symCells := by
    have hsz : symCells.size = 43 := by kernel_rfl
    apply Array.ext_getElem?
    intro i
    by_cases hi : i < 43
    · exact key i hi
    · rw [Array.getElem?_eq_none (by rw [← Array.length_toList, hlen]; omega), Array.getElem?_eq_none (by rw [hsz]; omega)]
  subst hcs
  simp only [World.var?, hg, Option.bind_some] at h3
  split at h3
  · rename_i c t fr hh
    cases h3
    exact ⟨t, fr, hh⟩
  · cases h3

theorem u8Extra : Proofs.U8Extra Tryz.prog Tryz.lays196_ren := ⟨by kernel_rfl, by kernel_rfl, by kernel_rfl, by kernel_rfl, by kernel_rfl, by kernel_rfl, by kernel_rfl⟩

theorem asciiData_eq : (Rows.laid_strings_asciiSpace : DataW Unit) = Lib.tabData .u8 Lib.asciiSpaceTab := by kernel_rfl
theorem powData_eq : (Rows.laid_internal_strconv_uint64pow10 : DataW Unit) = Lib.tabData .u64 Lib.pow10Tab := by kernel_rfl
theorem accData_eq : (Rows.laid_unicode_utf8_acceptRanges : DataW Unit) = Lib.acceptData := by kernel_rfl


end Tk
end Go.Proofs.YtmphkifhnjfkmaaGreatDoor

namespace Go.Proofs.YtmphkifhnjfkmaaGreatDoor
open Go.ChangeShapes Go.WideShapes Go.ChangeAt Go.RowKit
namespace Tk
section
variable {H : Type} {enc : TypeId × Value → H}

theorem handed_and_shaped {a : Assume} {C : Checked} {os : Os} {f : FuncId} {fn : Func} {s : ChangeSpec} {conds : List PathCond} {apart fresh handsOn again : Bool} {X : World → Array Value → Prop}
    (hX : ∀ (w w' : World) (args : Array Value), w.heap = w'.heap → X w args → X w' args)
    (own : ownKnob C.prog.godebug = none) (started : os.Started) (noInit : C.prog.inits.idxOf? f = none) (hfn : C.prog.funcs[f]? = some fn)
    (witness : ∃ (w : World) (tape : Tape) (i : Input), w.os = os ∧ (w.forCall tape i).Shaped C.prog ∧ i.vars = [] ∧ Input.okWide C.prog (w.forCall tape i) .any w.heap.size f i ∧
      ((s.pre enc C.prog fn conds apart (w.forCall tape i).memory i.args ∧ X (w.forCall tape i).memory i.args) ∧ sizedMet enc C.prog fn (OpenSpec.ofChange s) apart (w.forCall tape i).memory i.args) ∧ a.holds C.prog (lone (Frame.enter C.prog f i.args .normal) [] (w.forCall tape i)))
    (contract : ∀ (W : World) (base : Nat) (args : Array Value) (ds gs : List (DataW H)) (before : List MemPlace),
      (∀ (j : Nat) t v, fn.params[j]? = some t → args[j]? = some v → Value.okWide C.prog W .any base t v) →
      DataW.Whole enc C.prog fn.params.toList s.vars apart W args.toList ds gs before →
      X W args → W.ShapedOpen C.prog →
      Calls C.prog f args W fun e W' => ∃ v, e = .returned v ∧ s.post enc C.prog fn apart fresh handsOn again W args v W') :
    ReturnsInHanded a C os f .any (fun w args => (s.pre enc C.prog fn conds apart w args ∧ X w args) ∧ sizedMet enc C.prog fn (OpenSpec.ofChange s) apart w args) (s.post enc C.prog fn apart fresh handsOn again) := by
  refine returnsInHanded_of_calls own started noInit witness ?_
  intro w tape i _ hsh _ hok hpre _
  obtain ⟨_, _, _, fn', hfn', _, _, _, _, hval⟩ := hok
  have e : fn' = fn := Option.some.inj (hfn'.symm.trans hfn)
  subst e
  obtain ⟨⟨⟨ds, gs, before, hw, _⟩, hx⟩, _⟩ := hpre
  have hw' := DataW.Whole.of_heap (w' := w.forCall tape i) (by rfl) hw
  refine (contract (w.forCall tape i) w.heap.size i.args ds gs before hval hw' (hX _ _ _ (by rfl) hx) hsh).mono fun e W' ⟨v, he, hp⟩ => ?_
  subst he
  exact ChangeSpec.post_blind hp
end
end Tk
end Go.Proofs.YtmphkifhnjfkmaaGreatDoor

namespace Go.Proofs.YtmphkifhnjfkmaaGreatDoor
open Go.ChangeShapes Go.WideShapes Go.ChangeAt Go.RowKit Go.ChangeMaps
namespace TkBack
open Tk

theorem law_env {w : World} (hL : laidMet Tryz.prog Rows.tokenBackRow.laid w) (hsh : w.ShapedOpen Tryz.prog) : ∃ mm, LawEnv w mm := by
  obtain ⟨mm, hm⟩ := Tryz.laysM144.s1_3 w hsh
  refine ⟨mm, ?_, ?_, ?_, ?_, hm⟩
  · exact tabIs_of (g := 0) (t := 66) (e := 5) (n := 256) (by kernel_rfl) (by kernel_rfl) (by kernel_rfl) (by kernel_rfl) (by kernel_rfl) (by kernel_rfl) (asciiData_eq ▸ Lib.laidMet.reads hL (.tail _ (.tail _ (.tail _ (.tail _ (.tail _ (.head _)))))))
  · exact syms_of (Lib.laidMet.reads hL (.tail _ (.tail _ (.tail _ (.tail _ (.tail _ (.tail _ (.head _))))))))
  · exact tabIs_of (g := 8) (t := 150) (e := 72) (n := 20) (by kernel_rfl) (by kernel_rfl) (by kernel_rfl) (by kernel_rfl) (by kernel_rfl) (by kernel_rfl) (powData_eq ▸ Lib.laidMet.reads hL (.tail _ (.tail _ (.head _))))
  · exact Proofs.utf8Tabs_of_readsT (Proofs.U8Types.of196 Tryz.lays196) u8Extra (Pinned.utf8First_eq ▸ Lib.laidMet.reads hL (.tail _ (.tail _ (.tail _ (.tail _ (.tail _ (.tail _ (.tail _ (.head _))))))))) (accData_eq ▸ Lib.laidMet.reads hL (.tail _ (.tail _ (.tail _ (.head _)))))

theorem own : ownKnob Tryz.prog.godebug = none := by kernel_rfl

theorem laid_met (os : Os) (args : Array Value) : laidMetH Tryz.prog Rows.tokenBackRow.laid ((World.laidAll Tryz.prog os Rows.tokenBackRow.laid).forCall (fun _ _ => 0) ⟨#[], args, []⟩).memory := by
  rw [MakeChecks.laidMetH_plain _ _ _ (by kernel_rfl)]
  exact laidMet_laidAll _ (by kernel_rfl) (by kernel_rfl)

set_option maxRecDepth 100000 in
theorem lifted (os : Os) (started : os.Started) (H : Type) (enc : TypeId × Value → H) :
    ReturnsInHanded {} Tryz.checked os 3 .any (fun w args => (Rows.tokenBackSpec.pre enc Tryz.prog Tryz.f3 [] false w args ∧ laidMetH Tryz.prog Rows.tokenBackRow.laid w) ∧ sizedMet enc Tryz.prog Tryz.f3 (OpenSpec.ofChange Rows.tokenBackSpec) false w args)
      (Rows.tokenBackSpec.post enc Tryz.prog Tryz.f3 false true false false) := by
  refine handed_and_shaped (C := Tryz.checked) (X := fun w _ => laidMetH Tryz.prog Rows.tokenBackRow.laid w) (fun _ _ _ hh h => h.of_heap hh) own started (by kernel_rfl) Tryz.func3
    (ChangeSpec.witness_shaped (enc := enc) (C := Tryz.checked) (os := os) (X := fun w _ => laidMetH Tryz.prog Rows.tokenBackRow.laid w) false (World.laidAll Tryz.prog os Rows.tokenBackRow.laid) #[.string ⟨#[]⟩] 8 (World.laidAll_os _ _ _)
      (World.shaped_of_ZipB (by kernel_rfl) (by kernel_rfl)) (by kernel_rfl) (by kernel_rfl) (by kernel_rfl) (laid_met os _)) ?_
  intro W base args ds gs before hval0 hW hL hsh
  have hval : ∀ (j : Nat) t v, Tryz.f3.params[j]? = some t → args[j]? = some v → Value.okWide Tryz.prog W .any base t v := hval0
  have hW' := hW
  obtain ⟨p, q, hA0, hV, rfl, hfz, hnd⟩ := hW
  have hA : DataW.TrodAll enc Tryz.prog W 0 (fun _ => true) true Tryz.f3.params.toList args.toList ds p := hA0
  rw [Tryz.params3] at hA hval
  obtain ⟨v0, d0, rfl, rfl, h0⟩ := trodAll_one hA
  obtain ⟨rfl, rfl⟩ := trodVars_none hV
  obtain ⟨a0, rfl, rfl, rfl, w0⟩ := open_string Tryz.underlying9 (hval 0 9 v0 rfl rfl) h0
  clear hA0 hval0
  simp only [List.append_nil] at hW'
  rw [MakeChecks.laidMetH_plain _ _ _ (by kernel_rfl)] at hL
  obtain ⟨mm, hE⟩ := law_env hL hsh
  refine (back_any a0 W mm hE).mono fun e W' ⟨he, hb⟩ => ?_
  subst he
  exact ⟨_, rfl, _, _, _, [], [], [], hW', trodAll_mk1 (shut_bool Tryz.underlying4 _), trodAll_mk1 (shut_string Tryz.underlying9 w0), rfl, hb.frame _, fun h => by cases h⟩

theorem over : Rows.TokenBackSaid :=
  OpenClaim.holds_of_wide 3 Tryz.f3 rfl rfl rfl rfl rfl rfl rfl ⟨rfl, rfl, rfl, rfl, rfl⟩ rfl rfl rfl rfl rfl (by kernel_rfl) Tryz.func3 (by kernel_rfl)
    (of_decide_eq_true (by kernel_rfl)) (by unfold Func.isWrapper; first | (rw [if_pos (by decide +kernel)]; kernel_rfl) | (rw [if_neg (by decide +kernel)]; exact ⟨rfl, rfl⟩))
    (fun os started H enc _ => lifted os started H enc)

/-- The statement. -/
theorem proved : Rows.TokenBackCardSaid :=
  Claim7.holds_tied_plain_at .later [] [.data, .data, .data, .data, .listed, .data, .data, .pinned] true Rows.tokenBackCard.stood.harness true
    over (fun _ h => by cases h) (by kernel_rfl) (fun _ h => by cases h) tokenBack_row_tie rfl ⟨rfl, rfl⟩ (by kernel_rfl) rfl
    (fun f fn hf hfn => by
      obtain rfl : f = 3 := Option.some.inj ((show Tryz.prog.funcNamed "hackamore/hackamorelaw01.TokenBack" = some 3 by kernel_rfl).symm.trans hf) |>.symm
      obtain rfl : fn = Tryz.f3 := (Option.some.inj (Tryz.func3.symm.trans hfn)).symm
      exact ⟨by kernel_rfl, fun j t ht => by
        rw [Tryz.params3] at ht
        have hm : t ∈ [9] := by simpa using Array.mem_of_getElem? ht
        have hall : ([9].all fun u => !Tryz.prog.wantsStandIn u) = true := by kernel_rfl
        exact (show Tryz.prog.wantsStandIn t = false by simpa using List.all_eq_true.1 hall t hm)⟩)
    (by kernel_rfl)
#print axioms proved
end TkBack
end Go.Proofs.YtmphkifhnjfkmaaGreatDoor
