/- The blanks of the law, and the tokens behind them. The law TokenBlanks, given what Scan answers. The law TokenBlanks where the text has tokens, given what Scan answers. The law TokenBlanks, whatever the text and the numbers. -/
import Derived.Test.YtmfcopbffnfnfaaGreatDoorM7
namespace Go.Proofs.YtmfcopbffnfnfaaGreatDoor
open Go.ChangeShapes Go.WideShapes Go.ChangeAt Go.RowKit Go.WideMaps Go.Maps
namespace Tk

/-- The blanks of the law. -/
def blankL : List (List UInt8) := [[32], [10], [9, 13], [32, 47, 42, 32, 97, 32, 47, 42, 32, 98, 32, 42, 47, 32, 99, 32, 42, 47, 32], [32, 47, 47, 32, 120, 10], [32]]
def blankB (i : Nat) : ByteArray := ⟨(blankL.getD i []).toArray⟩
def blankNl (i : Nat) : Bool := (blankL.getD i []).contains 10

theorem blank_skip : ∀ i, i < 6 → skipM ⟨((blankB i).data.toList ++ [120]).toArray⟩ 0 = .inl (blankB i).size := by
  intro i hi
  rcases (by omega : i = 0 ∨ i = 1 ∨ i = 2 ∨ i = 3 ∨ i = 4 ∨ i = 5) with rfl | rfl | rfl | rfl | rfl | rfl <;> decide +kernel

theorem blank_head : ∀ i, i < 6 → Neu (byteAt (blankB i) 0) ∧ 1 ≤ (blankB i).size ∧ (blankB i).size ≤ 19 := by
  intro i hi
  rcases (by omega : i = 0 ∨ i = 1 ∨ i = 2 ∨ i = 3 ∨ i = 4 ∨ i = 5) with rfl | rfl | rfl | rfl | rfl | rfl <;> (unfold Neu; decide +kernel)

theorem byteAt_left {a b : ByteArray} {x : Nat} (h : x < a.size) : byteAt (a ++ b) x = byteAt a x := by
  rw [byteAt_list, byteAt_list, ByteArray.data_append, Array.toList_append, List.getD_eq_getElem?_getD, List.getD_eq_getElem?_getD, List.getElem?_append_left (by rw [size_list]; exact h)]

theorem byteAt_right {a b : ByteArray} {x : Nat} (h : a.size ≤ x) : byteAt (a ++ b) x = byteAt b (x - a.size) := by
  rw [byteAt_list, byteAt_list, ByteArray.data_append, Array.toList_append, List.getD_eq_getElem?_getD, List.getD_eq_getElem?_getD, List.getElem?_append_right (by rw [size_list]; exact h), size_list]

/-- The tokens of a text with one of the law's blanks ahead of one of its tokens. -/
theorem toksA_blank {s : ByteArray} {ts : List Tok} (h : ToksA s 0 true ts none) (k : Nat) (hk : k < ts.length) (i : Nat) (hi : i < 6) (u : ByteArray)
    (hu : u = s.extract 0 (ts[k]'hk).pos ++ blankB i ++ s.extract (ts[k]'hk).pos s.size) : ToksA u 0 true (wid (blankB i).size (blankNl i) k ts) none ∧ u.size = s.size + (blankB i).size := by
  have hpos := (toksA_pos h (Nat.zero_le _)).1 _ (List.getElem_mem hk)
  obtain ⟨P, hP⟩ : ∃ P, P = (ts[k]'hk).pos := ⟨_, rfl⟩
  rw [← hP] at hpos hu
  obtain ⟨h1, h2, h3⟩ := blank_head i hi
  have hsk := blank_skip i hi
  obtain ⟨D, hD⟩ : ∃ D, D = (blankB i).size := ⟨_, rfl⟩
  have z1 : (s.extract 0 P).size = P := by rw [ByteArray.size_extract]; omega
  have z2 : (s.extract 0 P ++ blankB i).size = P + D := by rw [ByteArray.size_append, z1, hD]
  have hz : u.size = s.size + D := by rw [hu, ByteArray.size_append, z2, ByteArray.size_extract]; omega
  have V1 : Vw s u 0 0 P := ⟨by omega, by omega, fun x _ hx => by
    rw [hu, byteAt_left (by omega), byteAt_left (by omega), Nat.add_zero, byteAt_cut (by omega) hx]⟩
  have V2 : Vw s u D P s.size := ⟨Nat.le_refl _, by omega, fun x h1 h2 => by
    rw [hu, byteAt_right (by omega), z2, byteAt_ext (by omega) (Nat.le_refl _)]
    congr 1
    omega⟩
  have hbl : ∀ x, x < D → byteAt u (P + x) = byteAt (blankB i) x := fun x hx => by
    rw [hu, byteAt_left (by omega), byteAt_right (by omega), z1]
    congr 1
    omega
  have hex : u.extract P (P + D) = blankB i := by
    apply bytes_eq
    · rw [ByteArray.size_extract]; omega
    · intro x hx
      rw [byteAt_ext (by omega) (by omega)]
      exact hbl x (by omega)
  have n1 : Neu (byteAt u P) := by
    have := hbl 0 (by omega)
    rw [Nat.add_zero] at this
    rw [this]
    exact h1
  have hover : skipM u P = skipM u (P + D) := by
    have := blank_over (b := blankB i) _ rfl hsk (u := u) (P := P) (by omega) (by rw [← hD]; exact hex)
    rwa [← hD] at this
  have hnl : blankNl i = decide (0 ≤ Lib.indexByte (u.extract P (P + D)).data.toList 10) := by
    rw [hex, indexB_mem]
    rfl
  refine ⟨?_, by rw [hz, hD]⟩
  rw [← hD]
  exact toksA_wid V1 V2 hz n1 hover (blankNl i) hnl h rfl (Nat.zero_le _) k hk hP

theorem wid_len (D : Nat) (nl : Bool) : ∀ (k : Nat) (ts : List Tok), (wid D nl k ts).length = ts.length
  | _, [] => by cases ‹Nat› <;> rfl
  | 0, t :: r => by show (_ :: r.map _).length = _; simp
  | k + 1, t :: r => by show (t :: wid D nl k r).length = _; rw [List.length_cons, List.length_cons, wid_len D nl k r]

theorem wid_bare (D : Nat) (nl : Bool) : ∀ (k : Nat) (ts : List Tok), (wid D nl k ts).map Tok.bareT = ts.map Tok.bareT
  | k, [] => by cases k <;> rfl
  | 0, t :: r => by
    show (⟨t.kind, t.text, t.pos + D, t.line || nl⟩ : Tok).bareT :: (r.map (Tok.move D)).map Tok.bareT = t.bareT :: r.map Tok.bareT
    rw [List.map_map]
    rfl
  | k + 1, t :: r => by
    show t.bareT :: (wid D nl k r).map Tok.bareT = _
    rw [wid_bare D nl k r]
    rfl

theorem wid_line (D : Nat) (nl : Bool) : ∀ (k : Nat) (ts : List Tok) (i : Nat) (h : i < ts.length) (h' : i < (wid D nl k ts).length), ((wid D nl k ts)[i]'h').line = if i = k then ((ts[i]'h).line || nl) else (ts[i]'h).line
  | k, [], i, h, _ => by cases h
  | 0, t :: r, 0, h, h' => by rfl
  | 0, t :: r, i + 1, h, h' => by
    show ((r.map (Tok.move D))[i]'_).line = _
    rw [List.getElem_map]
    rfl
  | k + 1, t :: r, 0, h, h' => by rfl
  | k + 1, t :: r, i + 1, h, h' => by
    have := wid_line D nl k r i (by simpa using h) (by simpa [wid] using h')
    show ((wid D nl k r)[i]'_).line = if i + 1 = k + 1 then ((r[i]'_).line || nl) else (r[i]'_).line
    rw [this]
    by_cases hik : i = k
    · rw [if_pos hik, if_pos (by omega)]
    · rw [if_neg hik, if_neg (by omega)]

end Tk
end Go.Proofs.YtmfcopbffnfnfaaGreatDoor

namespace Go.Proofs.YtmfcopbffnfnfaaGreatDoor
open Go.ChangeShapes Go.WideShapes Go.ChangeAt Go.RowKit Go.WideMaps Go.Maps
namespace Tk

set_option maxHeartbeats 4000000 in
set_option maxRecDepth 100000 in
theorem blanks_big (s : ByteArray) (n which : Int) (w : World) (mm : Int) (hs : 500 < s.size) (hE : LawEnv w mm)
    (hS : Calls Tryz.prog 5 #[.string s] w fun e w' => (∃ v a c, e = .returned (.tuple #[v, .int .i64 a, .int .i64 c])) ∧ Below w.heap.size w w') :
    Calls Tryz.prog 4 #[.string s, .int .u16 n, .int .u16 which] w fun e w' => e = .returned (.bool true) ∧ Below w.heap.size w w' := by
  have l1 : (500 : Int) < s.size := by omega
  have HE := Lib.hid hE
  have HS := Lib.hid hS
  clear hE hS
  go_enter Tryz.func4, Tryz.ntmps4
  go_wp2_with fail
  refine HS.out.mono ?_
  rintro e w1 ⟨⟨v, a, c, rfl⟩, hb1⟩
  have HE1 := Lib.hid (HE.out.below hb1)
  have HB1 := Lib.hid hb1
  clear hb1
  go_wp2_with fail
  refine (awake_any _ HE1.out.sp HE1.out.sy HE1.out.po HE1.out.u8 ⟨_, HE1.out.ml⟩).mono ?_
  rintro e w2 ⟨rfl, hb2⟩
  go_wp2_with fail
  go_ret
  exact ⟨rfl, HB1.out.trans (hb2.mono HB1.out.size)⟩

set_option maxHeartbeats 4000000 in
set_option maxRecDepth 100000 in
theorem blanks_err (s : ByteArray) (n which : Int) (w : World) (mm : Int) (q : Nat) (code : Int) (hs : s.size ≤ 500) (hc : 30 ≤ code) (hE : LawEnv w mm)
    (hS : Calls Tryz.prog 5 #[.string s] w fun e w' => e = .returned (.tuple #[.slice none 0 0, .int .i64 q, .int .i64 code]) ∧ Below w.heap.size w w') :
    Calls Tryz.prog 4 #[.string s, .int .u16 n, .int .u16 which] w fun e w' => e = .returned (.bool true) ∧ Below w.heap.size w w' := by
  have l1 : ¬ (500 : Int) < s.size := by omega
  have l1' : decide ((500 : Int) < s.size) = false := decide_eq_false l1
  have l2' : (code != 0) = true := by simp; omega
  have HE := Lib.hid hE
  have HS := Lib.hid hS
  clear hE hS hc hs
  go_enter Tryz.func4, Tryz.ntmps4
  go_wp2_with fail
  refine HS.out.mono ?_
  rintro e w1 ⟨rfl, hb1⟩
  have HE1 := Lib.hid (HE.out.below hb1)
  have HB1 := Lib.hid hb1
  clear hb1
  go_wp2_with fail
  refine (awake_any _ HE1.out.sp HE1.out.sy HE1.out.po HE1.out.u8 ⟨_, HE1.out.ml⟩).mono ?_
  rintro e w2 ⟨rfl, hb2⟩
  go_wp2_with fail
  go_ret
  exact ⟨rfl, HB1.out.trans (hb2.mono HB1.out.size)⟩

set_option maxHeartbeats 4000000 in
set_option maxRecDepth 100000 in
theorem blanks_none (s : ByteArray) (n which : Int) (w : World) (mm : Int) (hs : s.size ≤ 500) (hE : LawEnv w mm)
    (hS : Calls Tryz.prog 5 #[.string s] w fun e w' => (∃ ao cap, e = .returned (.tuple #[.slice ao 0 cap, .int .i64 0, .int .i64 0])) ∧ Below w.heap.size w w') :
    Calls Tryz.prog 4 #[.string s, .int .u16 n, .int .u16 which] w fun e w' => e = .returned (.bool true) ∧ Below w.heap.size w w' := by
  have l1 : ¬ (500 : Int) < s.size := by omega
  have l1' : decide ((500 : Int) < s.size) = false := decide_eq_false l1
  have HE := Lib.hid hE
  have HS := Lib.hid hS
  clear hE hS hs
  go_enter Tryz.func4, Tryz.ntmps4
  go_wp2_with fail
  refine HS.out.mono ?_
  rintro e w1 ⟨⟨ao, cap, rfl⟩, hb1⟩
  have HE1 := Lib.hid (HE.out.below hb1)
  have HB1 := Lib.hid hb1
  clear hb1
  go_wp2_with fail
  refine (awake_any _ HE1.out.sp HE1.out.sy HE1.out.po HE1.out.u8 ⟨_, HE1.out.ml⟩).mono ?_
  rintro e w2 ⟨rfl, hb2⟩
  go_wp2_with fail
  go_ret
  exact ⟨rfl, HB1.out.trans (hb2.mono HB1.out.size)⟩

end Tk
end Go.Proofs.YtmfcopbffnfnfaaGreatDoor

namespace Go.Proofs.YtmfcopbffnfnfaaGreatDoor
open Go.ChangeShapes Go.WideShapes Go.ChangeAt Go.RowKit Go.WideMaps Go.Maps
namespace Tk

set_option maxHeartbeats 2000000 in
set_option maxRecDepth 100000 in
theorem blanks_some (s : ByteArray) (n which : Int) (w : World) (mm : Int) (ts us : List Tok) (kk : Nat) (hn0 : 0 ≤ n) (hn1 : n < 65536) (hw0 : 0 ≤ which) (i : Nat) (hi : i < 6) (hw : which % 6 = i) (hs : s.size ≤ 500) (hE : LawEnv w mm) (hlen : ts.length ≤ 500) (h1 : 0 < ts.length)
    (hkk : n.toNat % ts.length = kk) (hkl : kk < ts.length) (hpos : (ts[kk]'hkl).pos < s.size) (heq : us.map Tok.bareT = ts.map Tok.bareT)
    (hline : ∀ (j : Nat) (h : j < ts.length) (h' : j < us.length), (us[j]'h').line = if j = kk then ((ts[j]'h).line || blankNl i) else (ts[j]'h).line)
    (hS : Calls Tryz.prog 5 #[.string s] w fun e w' => (∃ v, e = .returned (.tuple #[v, .int .i64 0, .int .i64 0]) ∧ w'.ownsRow w.heap.size 29 4 v ts.length (cellsOf ts)) ∧ Below w.heap.size w w')
    (hS2 : ∀ w, LawEnv w mm → Calls Tryz.prog 5 #[.string (s.extract 0 (ts[kk]'hkl).pos ++ blankB i ++ s.extract (ts[kk]'hkl).pos s.size)] w fun e w' => (∃ v, e = .returned (.tuple #[v, .int .i64 0, .int .i64 0]) ∧ w'.ownsRow w.heap.size 29 4 v us.length (cellsOf us)) ∧ Below w.heap.size w w') :
    Calls Tryz.prog 4 #[.string s, .int .u16 n, .int .u16 which] w fun e w' => e = .returned (.bool true) ∧ Below w.heap.size w w' := by
  have l1 : ¬ (500 : Int) < s.size := by omega
  have l1' : decide ((500 : Int) < s.size) = false := decide_eq_false l1
  obtain ⟨P, hP⟩ : ∃ P, P = (ts[kk]'hkl).pos := ⟨_, rfl⟩
  rw [← hP] at hS2 hpos
  have HP := Lib.hid hP
  have HE := Lib.hid hE
  have HS := Lib.hid hS
  have HS2 := Lib.hid hS2
  have HLine := Lib.hid hline
  have HEq := Lib.hid heq
  have hsz : s.size ≤ 500 := hs
  clear hE hS hS2 hline heq hs hP
  go_enter Tryz.func4, Tryz.ntmps4
  go_wp2_with fail
  refine HS.out.mono ?_
  rintro e w1 ⟨⟨v, rfl, hr1⟩, hb1⟩
  obtain ⟨ao, cap, g, rfl, hm1, hcap⟩ := row_mem hr1
  obtain rfl : ao = some ⟨g, 0, none⟩ := hm1.at0 h1
  have HE1 := Lib.hid (HE.out.below hb1)
  have HB1 := Lib.hid hb1
  have HM1 := Lib.hid hm1
  clear hb1 hr1 hm1
  obtain ⟨N, hN⟩ : ∃ N, N = ts.length := ⟨_, rfl⟩
  have HN := Lib.hid hN
  rw [← hN] at hlen h1 hcap ⊢
  have hkN : kk < N := by omega
  have hnk : n % (N : Int) = kk := by
    have e := Int.toNat_of_nonneg hn0
    rw [← hkk, ← hN, Int.natCast_emod, e]
  have r0 : (0 : Int) ≤ kk := by omega
  have r1 : (kk : Int) < N := by omega
  have p0 : (0 : Int) ≤ P := by omega
  have p1 : (P : Int) ≤ s.size := by omega
  have nz : ¬ (N : Int) = 0 := by omega
  have nz' : ((N : Int) == 0) = false := by simp; omega
  have HKK := Lib.hid hkk
  clear hN hkk
  -- the world with the list of blanks
  have a2 : w1.cell? ⟨g, kk * 4 + 2, none⟩ = some (.int .i64 P) := HM1.out.cell kk hkl 2 (by decide) (u := .int .i64 P) (by rw [HP.out]; rfl)
  have hgl := lt_cell a2
  have a2' : ∀ o, (w1.alloc o).cell? ⟨g, kk * 4 + 2, none⟩ = some (.int .i64 P) := fun o => (World.cell?_of_block (Below.heap_alloc _ _ _ hgl)).trans a2
  have HG := Lib.hid hgl
  clear a2 hgl hpos
  obtain ⟨w2, hw2⟩ : ∃ w2, w2 = w1.alloc (.cells #[.string ⟨#[32]⟩, .string ⟨#[10]⟩, .string ⟨#[9, 13]⟩, .string ⟨#[32, 47, 42, 32, 97, 32, 47, 42, 32, 98, 32, 42, 47, 32, 99, 32, 42, 47, 32]⟩, .string ⟨#[32, 47, 47, 32, 120, 10]⟩, .string ⟨#[32]⟩] 9) := ⟨_, rfl⟩
  have HB2 : Hid (Below w.heap.size w w2) := by rw [hw2]; exact HB1.out.alloc HB1.out.size _
  have hb12 : Below w1.heap.size w1 w2 := by rw [hw2]; exact (Below.refl _ _).alloc (Nat.le_refl _) _
  have HE2 : Hid (LawEnv w2 mm) := HE1.out.below hb12
  have HM2 : Hid (TokMem w2 (some ⟨g, 0, none⟩) g ts) := HM1.out.below hb12
  have HW2 := Lib.hid hw2
  clear hb12 hw2
  have fin : ∀ (b : ByteArray) (nl : Bool), b = blankB i → nl = blankNl i → b.size ≤ 19 ∧
      (∀ w, LawEnv w mm → Calls Tryz.prog 5 #[.string (s.extract 0 P ++ b ++ s.extract P s.size)] w fun e w' => (∃ v, e = .returned (.tuple #[v, .int .i64 0, .int .i64 0]) ∧ w'.ownsRow w.heap.size 29 4 v us.length (cellsOf us)) ∧ Below w.heap.size w w') ∧
      (∀ (j : Nat) (h : j < ts.length) (h' : j < us.length), (us[j]'h').line = if j = kk then ((ts[j]'h).line || nl) else (ts[j]'h).line) ∧
      (∀ w, Calls Tryz.prog 8 #[.string b, .string ⟨#[10]⟩] w fun e w' => e = .returned (.bool nl) ∧ w' = w) := by
    rintro b nl rfl rfl
    refine ⟨(blank_head i hi).2.2, HS2.out, HLine.out, fun w => ?_⟩
    have h := Tryz.strings_Contains_one (blankB i) 10 w
    have e : decide (0 ≤ Lib.indexByte (blankB i).data.toList 10) = blankNl i := by rw [indexB_mem]; rfl
    rw [← e]
    exact h
  have HFin := Lib.hid fin
  clear fin HS2 HLine
  rcases (by omega : i = 0 ∨ i = 1 ∨ i = 2 ∨ i = 3 ∨ i = 4 ∨ i = 5) with rfl | rfl | rfl | rfl | rfl | rfl
  · have hw' : which % 6 = 0 := hw
    clear hw
    go_wp2_with fail
    rw [← HW2.out, hnk]
    obtain ⟨b, hb⟩ : ∃ b : ByteArray, b = ⟨#[32]⟩ := ⟨_, rfl⟩
    rw [← hb]
    obtain ⟨hbz, hs2, hln, hcn⟩ := HFin.out b false (hb.trans rfl) rfl
    have HS3 := Lib.hid hs2
    have HLn := Lib.hid hln
    have HCn := Lib.hid hcn
    clear hs2 hln hcn hb HFin
    have m1 : min P s.size = P := by omega
    have c1 : ¬ 9223372036854775807 < (s.extract 0 P).size + b.size := by rw [ByteArray.size_extract]; omega
    have c2 : ¬ 9223372036854775807 < P + b.size := by omega
    have c3 : ¬ 9223372036854775807 < (s.extract 0 P ++ b).size + (s.extract P s.size).size := by rw [ByteArray.size_append, ByteArray.size_extract, ByteArray.size_extract]; omega
    have c4 : ¬ 9223372036854775807 < P + b.size + (s.size - P) := by omega
    have c5 : P + b.size ≤ 9223372036854775807 := by omega
    have c6 : P + b.size + (s.size - P) ≤ 9223372036854775807 := by omega
    go_region_held3 (fun _ => True) (first | trivial) (first | (go_at_call 5; refine (HS3.out _ ?_).mono ?_; exact HE2.out.drew 1; rintro e w3 ⟨⟨v3, rfl, hr3⟩, hb3⟩; go_simp))
    have hb3w : Below w.heap.size w w3 := HB2.out.trans ((below_drewN _ w2 1).trans (hb3.mono HB2.out.size))
    have HB3 := Lib.hid hb3w
    have HE3 : Hid (LawEnv w3 mm) := (HE2.out.drew 1).below hb3
    have HM3 : Hid (TokMem w3 (some ⟨g, 0, none⟩) g ts) := (show TokMem (w2.drewN 1) (some ⟨g, 0, none⟩) g ts from ⟨HM2.out.at0, HM2.out.cells⟩).below hb3
    obtain ⟨ao3, cap3, g3, hv3, hm3, _⟩ := row_mem hr3
    have hul : us.length = N := by
      have := congrArg List.length HEq.out
      rw [List.length_map, List.length_map] at this
      rw [this, HN.out]
    obtain rfl : ao3 = some ⟨g3, 0, none⟩ := hm3.at0 (by omega)
    rw [hul] at hv3
    have HU3 := Lib.hid hm3
    have hsame := same_any w3 (some ⟨g, 0, none⟩) (some ⟨g3, 0, none⟩) g g3 cap cap3 ts us HM3.out hm3 HEq.out (by rw [← HN.out]; omega)
    rw [hul, ← HN.out] at hsame
    have HSame := Lib.hid hsame
    have HUl := Lib.hid hul
    subst hv3
    clear hb3w hb3 hr3 hm3 hul hsame
    go_wp2_with fail
    refine HSame.out.mono ?_
    rintro e w4 ⟨rfl, hb4⟩
    have HB4 : Hid (Below w.heap.size w w4) := HB3.out.trans (hb4.mono HB3.out.size)
    have HE4 : Hid (LawEnv w4 mm) := HE3.out.below hb4
    have HM4 : Hid (TokMem w4 (some ⟨g, 0, none⟩) g ts) := HM3.out.below hb4
    have HU4 : Hid (TokMem w4 (some ⟨g3, 0, none⟩) g3 us) := HU3.out.below hb4
    clear hb4
    go_wp2_with fail
    go_loopw [75] (fun iv wr => ∃ k : Nat, k ≤ N ∧ iv = .int .i64 k ∧ ∃ q, wr = w4.drewN q) (fun iv _ => N - (intOf iv).toNat)
    case atStart => exact ⟨0, Nat.zero_le _, rfl, 0, rfl⟩
    case round =>
      obtain ⟨k, hk, rfl, q, hq⟩ := hrel
      have hMr : TokMem wr (some ⟨g, 0, none⟩) g ts := by rw [hq]; exact ⟨HM4.out.at0, HM4.out.cells⟩
      have hUr : TokMem wr (some ⟨g3, 0, none⟩) g3 us := by rw [hq]; exact ⟨HU4.out.at0, HU4.out.cells⟩
      have HQ := Lib.hid hq
      clear hq
      by_cases hlt : k < N
      · have hkl' : k < ts.length := by rw [← HN.out]; exact hlt
        have hku : k < us.length := by rw [HUl.out]; exact hlt
        have hll := HLn.out k hkl' hku
        obtain ⟨la, hla⟩ : ∃ la, la = (ts[k]'hkl').line := ⟨_, rfl⟩
        obtain ⟨lb, hlb⟩ : ∃ lb, lb = (us[k]'hku).line := ⟨_, rfl⟩
        rw [← hla, ← hlb] at hll
        have a3 : wr.cell? ⟨g, k * 4 + 3, none⟩ = some (.bool la) := hMr.cell k hkl' 3 (by decide) (u := .bool la) (by rw [hla]; rfl)
        have b3 : wr.cell? ⟨g3, k * 4 + 3, none⟩ = some (.bool lb) := hUr.cell k hku 3 (by decide) (u := .bool lb) (by rw [hlb]; rfl)
        have i1 : (k : Int) < N := by omega
        have i2 : IntKind.i64.wrap ((k : Int) + 1) = (k : Int) + 1 := IntWalk.i64_in _ (by omega)
        have HEnd : Hid (∀ nq, (wr.drewN nq) = w4.drewN (q + nq)) := fun nq => by rw [HQ.out]; simp
        clear hMr hUr HLn hla hlb
        by_cases hke : k = kk
        · rw [if_pos hke] at hll
          have e1 : ((k : Int) != (kk : Int)) = false := by simp [hke]
          have e2 : ((k : Int) == (kk : Int)) = true := by simp [hke]
          have HKe := Lib.hid hke
          clear hke
          cases la
          all_goals
            obtain rfl : lb = _ := hll
            go_wp2_with fail
            go_quiet ((go_at_call 8; exact Calls.quiet_of_same (HCn.out _)))
            go_wp2_with fail
            exact ⟨⟨k + 1, by omega, by go_num, q + nq, HEnd.out nq⟩, by simp [intOf]; omega⟩
        · rw [if_neg hke] at hll
          obtain rfl : lb = la := hll
          have e1 : ((k : Int) != (kk : Int)) = true := by simp; omega
          have e2 : ((k : Int) == (kk : Int)) = false := by simp; omega
          have HKe := Lib.hid hke
          clear hke
          cases lb
          all_goals
            go_wp2_with fail
            go_quiet (fail)
            go_wp2_with fail
            exact ⟨⟨k + 1, by omega, by go_num, q + nq, HEnd.out nq⟩, by simp [intOf]; omega⟩
      · obtain rfl : k = N := by omega
        have i1 : ¬ (k : Int) < k := by omega
        have HEr : Hid (LawEnv wr mm) := by rw [HQ.out]; exact HE4.out.drew q
        have HBr : Hid (Below w.heap.size w wr) := by rw [HQ.out]; exact HB4.out.trans (below_drewN _ _ _)
        clear hMr hUr
        go_wp2_with fail
        refine (awake_any _ HEr.out.sp HEr.out.sy HEr.out.po HEr.out.u8 ⟨_, HEr.out.ml⟩).mono ?_
        rintro e w5 ⟨rfl, hb5⟩
        go_wp2_with fail
        go_ret
        exact ⟨rfl, HBr.out.trans (hb5.mono HBr.out.size)⟩
  · have hw' : which % 6 = 1 := hw
    clear hw
    go_wp2_with fail
    rw [← HW2.out, hnk]
    obtain ⟨b, hb⟩ : ∃ b : ByteArray, b = ⟨#[10]⟩ := ⟨_, rfl⟩
    rw [← hb]
    obtain ⟨hbz, hs2, hln, hcn⟩ := HFin.out b true (hb.trans rfl) rfl
    have HS3 := Lib.hid hs2
    have HLn := Lib.hid hln
    have HCn := Lib.hid hcn
    clear hs2 hln hcn hb HFin
    have m1 : min P s.size = P := by omega
    have c1 : ¬ 9223372036854775807 < (s.extract 0 P).size + b.size := by rw [ByteArray.size_extract]; omega
    have c2 : ¬ 9223372036854775807 < P + b.size := by omega
    have c3 : ¬ 9223372036854775807 < (s.extract 0 P ++ b).size + (s.extract P s.size).size := by rw [ByteArray.size_append, ByteArray.size_extract, ByteArray.size_extract]; omega
    have c4 : ¬ 9223372036854775807 < P + b.size + (s.size - P) := by omega
    have c5 : P + b.size ≤ 9223372036854775807 := by omega
    have c6 : P + b.size + (s.size - P) ≤ 9223372036854775807 := by omega
    go_region_held3 (fun _ => True) (first | trivial) (first | (go_at_call 5; refine (HS3.out _ ?_).mono ?_; exact HE2.out.drew 1; rintro e w3 ⟨⟨v3, rfl, hr3⟩, hb3⟩; go_simp))
    have hb3w : Below w.heap.size w w3 := HB2.out.trans ((below_drewN _ w2 1).trans (hb3.mono HB2.out.size))
    have HB3 := Lib.hid hb3w
    have HE3 : Hid (LawEnv w3 mm) := (HE2.out.drew 1).below hb3
    have HM3 : Hid (TokMem w3 (some ⟨g, 0, none⟩) g ts) := (show TokMem (w2.drewN 1) (some ⟨g, 0, none⟩) g ts from ⟨HM2.out.at0, HM2.out.cells⟩).below hb3
    obtain ⟨ao3, cap3, g3, hv3, hm3, _⟩ := row_mem hr3
    have hul : us.length = N := by
      have := congrArg List.length HEq.out
      rw [List.length_map, List.length_map] at this
      rw [this, HN.out]
    obtain rfl : ao3 = some ⟨g3, 0, none⟩ := hm3.at0 (by omega)
    rw [hul] at hv3
    have HU3 := Lib.hid hm3
    have hsame := same_any w3 (some ⟨g, 0, none⟩) (some ⟨g3, 0, none⟩) g g3 cap cap3 ts us HM3.out hm3 HEq.out (by rw [← HN.out]; omega)
    rw [hul, ← HN.out] at hsame
    have HSame := Lib.hid hsame
    have HUl := Lib.hid hul
    subst hv3
    clear hb3w hb3 hr3 hm3 hul hsame
    go_wp2_with fail
    refine HSame.out.mono ?_
    rintro e w4 ⟨rfl, hb4⟩
    have HB4 : Hid (Below w.heap.size w w4) := HB3.out.trans (hb4.mono HB3.out.size)
    have HE4 : Hid (LawEnv w4 mm) := HE3.out.below hb4
    have HM4 : Hid (TokMem w4 (some ⟨g, 0, none⟩) g ts) := HM3.out.below hb4
    have HU4 : Hid (TokMem w4 (some ⟨g3, 0, none⟩) g3 us) := HU3.out.below hb4
    clear hb4
    go_wp2_with fail
    go_loopw [75] (fun iv wr => ∃ k : Nat, k ≤ N ∧ iv = .int .i64 k ∧ ∃ q, wr = w4.drewN q) (fun iv _ => N - (intOf iv).toNat)
    case atStart => exact ⟨0, Nat.zero_le _, rfl, 0, rfl⟩
    case round =>
      obtain ⟨k, hk, rfl, q, hq⟩ := hrel
      have hMr : TokMem wr (some ⟨g, 0, none⟩) g ts := by rw [hq]; exact ⟨HM4.out.at0, HM4.out.cells⟩
      have hUr : TokMem wr (some ⟨g3, 0, none⟩) g3 us := by rw [hq]; exact ⟨HU4.out.at0, HU4.out.cells⟩
      have HQ := Lib.hid hq
      clear hq
      by_cases hlt : k < N
      · have hkl' : k < ts.length := by rw [← HN.out]; exact hlt
        have hku : k < us.length := by rw [HUl.out]; exact hlt
        have hll := HLn.out k hkl' hku
        obtain ⟨la, hla⟩ : ∃ la, la = (ts[k]'hkl').line := ⟨_, rfl⟩
        obtain ⟨lb, hlb⟩ : ∃ lb, lb = (us[k]'hku).line := ⟨_, rfl⟩
        rw [← hla, ← hlb] at hll
        have a3 : wr.cell? ⟨g, k * 4 + 3, none⟩ = some (.bool la) := hMr.cell k hkl' 3 (by decide) (u := .bool la) (by rw [hla]; rfl)
        have b3 : wr.cell? ⟨g3, k * 4 + 3, none⟩ = some (.bool lb) := hUr.cell k hku 3 (by decide) (u := .bool lb) (by rw [hlb]; rfl)
        have i1 : (k : Int) < N := by omega
        have i2 : IntKind.i64.wrap ((k : Int) + 1) = (k : Int) + 1 := IntWalk.i64_in _ (by omega)
        have HEnd : Hid (∀ nq, (wr.drewN nq) = w4.drewN (q + nq)) := fun nq => by rw [HQ.out]; simp
        clear hMr hUr HLn hla hlb
        by_cases hke : k = kk
        · rw [if_pos hke] at hll
          have e1 : ((k : Int) != (kk : Int)) = false := by simp [hke]
          have e2 : ((k : Int) == (kk : Int)) = true := by simp [hke]
          have HKe := Lib.hid hke
          clear hke
          cases la
          all_goals
            obtain rfl : lb = _ := hll
            go_wp2_with fail
            go_quiet ((go_at_call 8; exact Calls.quiet_of_same (HCn.out _)))
            go_wp2_with fail
            exact ⟨⟨k + 1, by omega, by go_num, q + nq, HEnd.out nq⟩, by simp [intOf]; omega⟩
        · rw [if_neg hke] at hll
          obtain rfl : lb = la := hll
          have e1 : ((k : Int) != (kk : Int)) = true := by simp; omega
          have e2 : ((k : Int) == (kk : Int)) = false := by simp; omega
          have HKe := Lib.hid hke
          clear hke
          cases lb
          all_goals
            go_wp2_with fail
            go_quiet (fail)
            go_wp2_with fail
            exact ⟨⟨k + 1, by omega, by go_num, q + nq, HEnd.out nq⟩, by simp [intOf]; omega⟩
      · obtain rfl : k = N := by omega
        have i1 : ¬ (k : Int) < k := by omega
        have HEr : Hid (LawEnv wr mm) := by rw [HQ.out]; exact HE4.out.drew q
        have HBr : Hid (Below w.heap.size w wr) := by rw [HQ.out]; exact HB4.out.trans (below_drewN _ _ _)
        clear hMr hUr
        go_wp2_with fail
        refine (awake_any _ HEr.out.sp HEr.out.sy HEr.out.po HEr.out.u8 ⟨_, HEr.out.ml⟩).mono ?_
        rintro e w5 ⟨rfl, hb5⟩
        go_wp2_with fail
        go_ret
        exact ⟨rfl, HBr.out.trans (hb5.mono HBr.out.size)⟩
  · have hw' : which % 6 = 2 := hw
    clear hw
    go_wp2_with fail
    rw [← HW2.out, hnk]
    obtain ⟨b, hb⟩ : ∃ b : ByteArray, b = ⟨#[9, 13]⟩ := ⟨_, rfl⟩
    rw [← hb]
    obtain ⟨hbz, hs2, hln, hcn⟩ := HFin.out b false (hb.trans rfl) rfl
    have HS3 := Lib.hid hs2
    have HLn := Lib.hid hln
    have HCn := Lib.hid hcn
    clear hs2 hln hcn hb HFin
    have m1 : min P s.size = P := by omega
    have c1 : ¬ 9223372036854775807 < (s.extract 0 P).size + b.size := by rw [ByteArray.size_extract]; omega
    have c2 : ¬ 9223372036854775807 < P + b.size := by omega
    have c3 : ¬ 9223372036854775807 < (s.extract 0 P ++ b).size + (s.extract P s.size).size := by rw [ByteArray.size_append, ByteArray.size_extract, ByteArray.size_extract]; omega
    have c4 : ¬ 9223372036854775807 < P + b.size + (s.size - P) := by omega
    have c5 : P + b.size ≤ 9223372036854775807 := by omega
    have c6 : P + b.size + (s.size - P) ≤ 9223372036854775807 := by omega
    go_region_held3 (fun _ => True) (first | trivial) (first | (go_at_call 5; refine (HS3.out _ ?_).mono ?_; exact HE2.out.drew 1; rintro e w3 ⟨⟨v3, rfl, hr3⟩, hb3⟩; go_simp))
    have hb3w : Below w.heap.size w w3 := HB2.out.trans ((below_drewN _ w2 1).trans (hb3.mono HB2.out.size))
    have HB3 := Lib.hid hb3w
    have HE3 : Hid (LawEnv w3 mm) := (HE2.out.drew 1).below hb3
    have HM3 : Hid (TokMem w3 (some ⟨g, 0, none⟩) g ts) := (show TokMem (w2.drewN 1) (some ⟨g, 0, none⟩) g ts from ⟨HM2.out.at0, HM2.out.cells⟩).below hb3
    obtain ⟨ao3, cap3, g3, hv3, hm3, _⟩ := row_mem hr3
    have hul : us.length = N := by
      have := congrArg List.length HEq.out
      rw [List.length_map, List.length_map] at this
      rw [this, HN.out]
    obtain rfl : ao3 = some ⟨g3, 0, none⟩ := hm3.at0 (by omega)
    rw [hul] at hv3
    have HU3 := Lib.hid hm3
    have hsame := same_any w3 (some ⟨g, 0, none⟩) (some ⟨g3, 0, none⟩) g g3 cap cap3 ts us HM3.out hm3 HEq.out (by rw [← HN.out]; omega)
    rw [hul, ← HN.out] at hsame
    have HSame := Lib.hid hsame
    have HUl := Lib.hid hul
    subst hv3
    clear hb3w hb3 hr3 hm3 hul hsame
    go_wp2_with fail
    refine HSame.out.mono ?_
    rintro e w4 ⟨rfl, hb4⟩
    have HB4 : Hid (Below w.heap.size w w4) := HB3.out.trans (hb4.mono HB3.out.size)
    have HE4 : Hid (LawEnv w4 mm) := HE3.out.below hb4
    have HM4 : Hid (TokMem w4 (some ⟨g, 0, none⟩) g ts) := HM3.out.below hb4
    have HU4 : Hid (TokMem w4 (some ⟨g3, 0, none⟩) g3 us) := HU3.out.below hb4
    clear hb4
    go_wp2_with fail
    go_loopw [75] (fun iv wr => ∃ k : Nat, k ≤ N ∧ iv = .int .i64 k ∧ ∃ q, wr = w4.drewN q) (fun iv _ => N - (intOf iv).toNat)
    case atStart => exact ⟨0, Nat.zero_le _, rfl, 0, rfl⟩
    case round =>
      obtain ⟨k, hk, rfl, q, hq⟩ := hrel
      have hMr : TokMem wr (some ⟨g, 0, none⟩) g ts := by rw [hq]; exact ⟨HM4.out.at0, HM4.out.cells⟩
      have hUr : TokMem wr (some ⟨g3, 0, none⟩) g3 us := by rw [hq]; exact ⟨HU4.out.at0, HU4.out.cells⟩
      have HQ := Lib.hid hq
      clear hq
      by_cases hlt : k < N
      · have hkl' : k < ts.length := by rw [← HN.out]; exact hlt
        have hku : k < us.length := by rw [HUl.out]; exact hlt
        have hll := HLn.out k hkl' hku
        obtain ⟨la, hla⟩ : ∃ la, la = (ts[k]'hkl').line := ⟨_, rfl⟩
        obtain ⟨lb, hlb⟩ : ∃ lb, lb = (us[k]'hku).line := ⟨_, rfl⟩
        rw [← hla, ← hlb] at hll
        have a3 : wr.cell? ⟨g, k * 4 + 3, none⟩ = some (.bool la) := hMr.cell k hkl' 3 (by decide) (u := .bool la) (by rw [hla]; rfl)
        have b3 : wr.cell? ⟨g3, k * 4 + 3, none⟩ = some (.bool lb) := hUr.cell k hku 3 (by decide) (u := .bool lb) (by rw [hlb]; rfl)
        have i1 : (k : Int) < N := by omega
        have i2 : IntKind.i64.wrap ((k : Int) + 1) = (k : Int) + 1 := IntWalk.i64_in _ (by omega)
        have HEnd : Hid (∀ nq, (wr.drewN nq) = w4.drewN (q + nq)) := fun nq => by rw [HQ.out]; simp
        clear hMr hUr HLn hla hlb
        by_cases hke : k = kk
        · rw [if_pos hke] at hll
          have e1 : ((k : Int) != (kk : Int)) = false := by simp [hke]
          have e2 : ((k : Int) == (kk : Int)) = true := by simp [hke]
          have HKe := Lib.hid hke
          clear hke
          cases la
          all_goals
            obtain rfl : lb = _ := hll
            go_wp2_with fail
            go_quiet ((go_at_call 8; exact Calls.quiet_of_same (HCn.out _)))
            go_wp2_with fail
            exact ⟨⟨k + 1, by omega, by go_num, q + nq, HEnd.out nq⟩, by simp [intOf]; omega⟩
        · rw [if_neg hke] at hll
          obtain rfl : lb = la := hll
          have e1 : ((k : Int) != (kk : Int)) = true := by simp; omega
          have e2 : ((k : Int) == (kk : Int)) = false := by simp; omega
          have HKe := Lib.hid hke
          clear hke
          cases lb
          all_goals
            go_wp2_with fail
            go_quiet (fail)
            go_wp2_with fail
            exact ⟨⟨k + 1, by omega, by go_num, q + nq, HEnd.out nq⟩, by simp [intOf]; omega⟩
      · obtain rfl : k = N := by omega
        have i1 : ¬ (k : Int) < k := by omega
        have HEr : Hid (LawEnv wr mm) := by rw [HQ.out]; exact HE4.out.drew q
        have HBr : Hid (Below w.heap.size w wr) := by rw [HQ.out]; exact HB4.out.trans (below_drewN _ _ _)
        clear hMr hUr
        go_wp2_with fail
        refine (awake_any _ HEr.out.sp HEr.out.sy HEr.out.po HEr.out.u8 ⟨_, HEr.out.ml⟩).mono ?_
        rintro e w5 ⟨rfl, hb5⟩
        go_wp2_with fail
        go_ret
        exact ⟨rfl, HBr.out.trans (hb5.mono HBr.out.size)⟩
  · have hw' : which % 6 = 3 := hw
    clear hw
    go_wp2_with fail
    rw [← HW2.out, hnk]
    obtain ⟨b, hb⟩ : ∃ b : ByteArray, b = ⟨#[32, 47, 42, 32, 97, 32, 47, 42, 32, 98, 32, 42, 47, 32, 99, 32, 42, 47, 32]⟩ := ⟨_, rfl⟩
    rw [← hb]
    obtain ⟨hbz, hs2, hln, hcn⟩ := HFin.out b false (hb.trans rfl) rfl
    have HS3 := Lib.hid hs2
    have HLn := Lib.hid hln
    have HCn := Lib.hid hcn
    clear hs2 hln hcn hb HFin
    have m1 : min P s.size = P := by omega
    have c1 : ¬ 9223372036854775807 < (s.extract 0 P).size + b.size := by rw [ByteArray.size_extract]; omega
    have c2 : ¬ 9223372036854775807 < P + b.size := by omega
    have c3 : ¬ 9223372036854775807 < (s.extract 0 P ++ b).size + (s.extract P s.size).size := by rw [ByteArray.size_append, ByteArray.size_extract, ByteArray.size_extract]; omega
    have c4 : ¬ 9223372036854775807 < P + b.size + (s.size - P) := by omega
    have c5 : P + b.size ≤ 9223372036854775807 := by omega
    have c6 : P + b.size + (s.size - P) ≤ 9223372036854775807 := by omega
    go_region_held3 (fun _ => True) (first | trivial) (first | (go_at_call 5; refine (HS3.out _ ?_).mono ?_; exact HE2.out.drew 1; rintro e w3 ⟨⟨v3, rfl, hr3⟩, hb3⟩; go_simp))
    have hb3w : Below w.heap.size w w3 := HB2.out.trans ((below_drewN _ w2 1).trans (hb3.mono HB2.out.size))
    have HB3 := Lib.hid hb3w
    have HE3 : Hid (LawEnv w3 mm) := (HE2.out.drew 1).below hb3
    have HM3 : Hid (TokMem w3 (some ⟨g, 0, none⟩) g ts) := (show TokMem (w2.drewN 1) (some ⟨g, 0, none⟩) g ts from ⟨HM2.out.at0, HM2.out.cells⟩).below hb3
    obtain ⟨ao3, cap3, g3, hv3, hm3, _⟩ := row_mem hr3
    have hul : us.length = N := by
      have := congrArg List.length HEq.out
      rw [List.length_map, List.length_map] at this
      rw [this, HN.out]
    obtain rfl : ao3 = some ⟨g3, 0, none⟩ := hm3.at0 (by omega)
    rw [hul] at hv3
    have HU3 := Lib.hid hm3
    have hsame := same_any w3 (some ⟨g, 0, none⟩) (some ⟨g3, 0, none⟩) g g3 cap cap3 ts us HM3.out hm3 HEq.out (by rw [← HN.out]; omega)
    rw [hul, ← HN.out] at hsame
    have HSame := Lib.hid hsame
    have HUl := Lib.hid hul
    subst hv3
    clear hb3w hb3 hr3 hm3 hul hsame
    go_wp2_with fail
    refine HSame.out.mono ?_
    rintro e w4 ⟨rfl, hb4⟩
    have HB4 : Hid (Below w.heap.size w w4) := HB3.out.trans (hb4.mono HB3.out.size)
    have HE4 : Hid (LawEnv w4 mm) := HE3.out.below hb4
    have HM4 : Hid (TokMem w4 (some ⟨g, 0, none⟩) g ts) := HM3.out.below hb4
    have HU4 : Hid (TokMem w4 (some ⟨g3, 0, none⟩) g3 us) := HU3.out.below hb4
    clear hb4
    go_wp2_with fail
    go_loopw [75] (fun iv wr => ∃ k : Nat, k ≤ N ∧ iv = .int .i64 k ∧ ∃ q, wr = w4.drewN q) (fun iv _ => N - (intOf iv).toNat)
    case atStart => exact ⟨0, Nat.zero_le _, rfl, 0, rfl⟩
    case round =>
      obtain ⟨k, hk, rfl, q, hq⟩ := hrel
      have hMr : TokMem wr (some ⟨g, 0, none⟩) g ts := by rw [hq]; exact ⟨HM4.out.at0, HM4.out.cells⟩
      have hUr : TokMem wr (some ⟨g3, 0, none⟩) g3 us := by rw [hq]; exact ⟨HU4.out.at0, HU4.out.cells⟩
      have HQ := Lib.hid hq
      clear hq
      by_cases hlt : k < N
      · have hkl' : k < ts.length := by rw [← HN.out]; exact hlt
        have hku : k < us.length := by rw [HUl.out]; exact hlt
        have hll := HLn.out k hkl' hku
        obtain ⟨la, hla⟩ : ∃ la, la = (ts[k]'hkl').line := ⟨_, rfl⟩
        obtain ⟨lb, hlb⟩ : ∃ lb, lb = (us[k]'hku).line := ⟨_, rfl⟩
        rw [← hla, ← hlb] at hll
        have a3 : wr.cell? ⟨g, k * 4 + 3, none⟩ = some (.bool la) := hMr.cell k hkl' 3 (by decide) (u := .bool la) (by rw [hla]; rfl)
        have b3 : wr.cell? ⟨g3, k * 4 + 3, none⟩ = some (.bool lb) := hUr.cell k hku 3 (by decide) (u := .bool lb) (by rw [hlb]; rfl)
        have i1 : (k : Int) < N := by omega
        have i2 : IntKind.i64.wrap ((k : Int) + 1) = (k : Int) + 1 := IntWalk.i64_in _ (by omega)
        have HEnd : Hid (∀ nq, (wr.drewN nq) = w4.drewN (q + nq)) := fun nq => by rw [HQ.out]; simp
        clear hMr hUr HLn hla hlb
        by_cases hke : k = kk
        · rw [if_pos hke] at hll
          have e1 : ((k : Int) != (kk : Int)) = false := by simp [hke]
          have e2 : ((k : Int) == (kk : Int)) = true := by simp [hke]
          have HKe := Lib.hid hke
          clear hke
          cases la
          all_goals
            obtain rfl : lb = _ := hll
            go_wp2_with fail
            go_quiet ((go_at_call 8; exact Calls.quiet_of_same (HCn.out _)))
            go_wp2_with fail
            exact ⟨⟨k + 1, by omega, by go_num, q + nq, HEnd.out nq⟩, by simp [intOf]; omega⟩
        · rw [if_neg hke] at hll
          obtain rfl : lb = la := hll
          have e1 : ((k : Int) != (kk : Int)) = true := by simp; omega
          have e2 : ((k : Int) == (kk : Int)) = false := by simp; omega
          have HKe := Lib.hid hke
          clear hke
          cases lb
          all_goals
            go_wp2_with fail
            go_quiet (fail)
            go_wp2_with fail
            exact ⟨⟨k + 1, by omega, by go_num, q + nq, HEnd.out nq⟩, by simp [intOf]; omega⟩
      · obtain rfl : k = N := by omega
        have i1 : ¬ (k : Int) < k := by omega
        have HEr : Hid (LawEnv wr mm) := by rw [HQ.out]; exact HE4.out.drew q
        have HBr : Hid (Below w.heap.size w wr) := by rw [HQ.out]; exact HB4.out.trans (below_drewN _ _ _)
        clear hMr hUr
        go_wp2_with fail
        refine (awake_any _ HEr.out.sp HEr.out.sy HEr.out.po HEr.out.u8 ⟨_, HEr.out.ml⟩).mono ?_
        rintro e w5 ⟨rfl, hb5⟩
        go_wp2_with fail
        go_ret
        exact ⟨rfl, HBr.out.trans (hb5.mono HBr.out.size)⟩
  · have hw' : which % 6 = 4 := hw
    clear hw
    go_wp2_with fail
    rw [← HW2.out, hnk]
    obtain ⟨b, hb⟩ : ∃ b : ByteArray, b = ⟨#[32, 47, 47, 32, 120, 10]⟩ := ⟨_, rfl⟩
    rw [← hb]
    obtain ⟨hbz, hs2, hln, hcn⟩ := HFin.out b true (hb.trans rfl) rfl
    have HS3 := Lib.hid hs2
    have HLn := Lib.hid hln
    have HCn := Lib.hid hcn
    clear hs2 hln hcn hb HFin
    have m1 : min P s.size = P := by omega
    have c1 : ¬ 9223372036854775807 < (s.extract 0 P).size + b.size := by rw [ByteArray.size_extract]; omega
    have c2 : ¬ 9223372036854775807 < P + b.size := by omega
    have c3 : ¬ 9223372036854775807 < (s.extract 0 P ++ b).size + (s.extract P s.size).size := by rw [ByteArray.size_append, ByteArray.size_extract, ByteArray.size_extract]; omega
    have c4 : ¬ 9223372036854775807 < P + b.size + (s.size - P) := by omega
    have c5 : P + b.size ≤ 9223372036854775807 := by omega
    have c6 : P + b.size + (s.size - P) ≤ 9223372036854775807 := by omega
    go_region_held3 (fun _ => True) (first | trivial) (first | (go_at_call 5; refine (HS3.out _ ?_).mono ?_; exact HE2.out.drew 1; rintro e w3 ⟨⟨v3, rfl, hr3⟩, hb3⟩; go_simp))
    have hb3w : Below w.heap.size w w3 := HB2.out.trans ((below_drewN _ w2 1).trans (hb3.mono HB2.out.size))
    have HB3 := Lib.hid hb3w
    have HE3 : Hid (LawEnv w3 mm) := (HE2.out.drew 1).below hb3
    have HM3 : Hid (TokMem w3 (some ⟨g, 0, none⟩) g ts) := (show TokMem (w2.drewN 1) (some ⟨g, 0, none⟩) g ts from ⟨HM2.out.at0, HM2.out.cells⟩).below hb3
    obtain ⟨ao3, cap3, g3, hv3, hm3, _⟩ := row_mem hr3
    have hul : us.length = N := by
      have := congrArg List.length HEq.out
      rw [List.length_map, List.length_map] at this
      rw [this, HN.out]
    obtain rfl : ao3 = some ⟨g3, 0, none⟩ := hm3.at0 (by omega)
    rw [hul] at hv3
    have HU3 := Lib.hid hm3
    have hsame := same_any w3 (some ⟨g, 0, none⟩) (some ⟨g3, 0, none⟩) g g3 cap cap3 ts us HM3.out hm3 HEq.out (by rw [← HN.out]; omega)
    rw [hul, ← HN.out] at hsame
    have HSame := Lib.hid hsame
    have HUl := Lib.hid hul
    subst hv3
    clear hb3w hb3 hr3 hm3 hul hsame
    go_wp2_with fail
    refine HSame.out.mono ?_
    rintro e w4 ⟨rfl, hb4⟩
    have HB4 : Hid (Below w.heap.size w w4) := HB3.out.trans (hb4.mono HB3.out.size)
    have HE4 : Hid (LawEnv w4 mm) := HE3.out.below hb4
    have HM4 : Hid (TokMem w4 (some ⟨g, 0, none⟩) g ts) := HM3.out.below hb4
    have HU4 : Hid (TokMem w4 (some ⟨g3, 0, none⟩) g3 us) := HU3.out.below hb4
    clear hb4
    go_wp2_with fail
    go_loopw [75] (fun iv wr => ∃ k : Nat, k ≤ N ∧ iv = .int .i64 k ∧ ∃ q, wr = w4.drewN q) (fun iv _ => N - (intOf iv).toNat)
    case atStart => exact ⟨0, Nat.zero_le _, rfl, 0, rfl⟩
    case round =>
      obtain ⟨k, hk, rfl, q, hq⟩ := hrel
      have hMr : TokMem wr (some ⟨g, 0, none⟩) g ts := by rw [hq]; exact ⟨HM4.out.at0, HM4.out.cells⟩
      have hUr : TokMem wr (some ⟨g3, 0, none⟩) g3 us := by rw [hq]; exact ⟨HU4.out.at0, HU4.out.cells⟩
      have HQ := Lib.hid hq
      clear hq
      by_cases hlt : k < N
      · have hkl' : k < ts.length := by rw [← HN.out]; exact hlt
        have hku : k < us.length := by rw [HUl.out]; exact hlt
        have hll := HLn.out k hkl' hku
        obtain ⟨la, hla⟩ : ∃ la, la = (ts[k]'hkl').line := ⟨_, rfl⟩
        obtain ⟨lb, hlb⟩ : ∃ lb, lb = (us[k]'hku).line := ⟨_, rfl⟩
        rw [← hla, ← hlb] at hll
        have a3 : wr.cell? ⟨g, k * 4 + 3, none⟩ = some (.bool la) := hMr.cell k hkl' 3 (by decide) (u := .bool la) (by rw [hla]; rfl)
        have b3 : wr.cell? ⟨g3, k * 4 + 3, none⟩ = some (.bool lb) := hUr.cell k hku 3 (by decide) (u := .bool lb) (by rw [hlb]; rfl)
        have i1 : (k : Int) < N := by omega
        have i2 : IntKind.i64.wrap ((k : Int) + 1) = (k : Int) + 1 := IntWalk.i64_in _ (by omega)
        have HEnd : Hid (∀ nq, (wr.drewN nq) = w4.drewN (q + nq)) := fun nq => by rw [HQ.out]; simp
        clear hMr hUr HLn hla hlb
        by_cases hke : k = kk
        · rw [if_pos hke] at hll
          have e1 : ((k : Int) != (kk : Int)) = false := by simp [hke]
          have e2 : ((k : Int) == (kk : Int)) = true := by simp [hke]
          have HKe := Lib.hid hke
          clear hke
          cases la
          all_goals
            obtain rfl : lb = _ := hll
            go_wp2_with fail
            go_quiet ((go_at_call 8; exact Calls.quiet_of_same (HCn.out _)))
            go_wp2_with fail
            exact ⟨⟨k + 1, by omega, by go_num, q + nq, HEnd.out nq⟩, by simp [intOf]; omega⟩
        · rw [if_neg hke] at hll
          obtain rfl : lb = la := hll
          have e1 : ((k : Int) != (kk : Int)) = true := by simp; omega
          have e2 : ((k : Int) == (kk : Int)) = false := by simp; omega
          have HKe := Lib.hid hke
          clear hke
          cases lb
          all_goals
            go_wp2_with fail
            go_quiet (fail)
            go_wp2_with fail
            exact ⟨⟨k + 1, by omega, by go_num, q + nq, HEnd.out nq⟩, by simp [intOf]; omega⟩
      · obtain rfl : k = N := by omega
        have i1 : ¬ (k : Int) < k := by omega
        have HEr : Hid (LawEnv wr mm) := by rw [HQ.out]; exact HE4.out.drew q
        have HBr : Hid (Below w.heap.size w wr) := by rw [HQ.out]; exact HB4.out.trans (below_drewN _ _ _)
        clear hMr hUr
        go_wp2_with fail
        refine (awake_any _ HEr.out.sp HEr.out.sy HEr.out.po HEr.out.u8 ⟨_, HEr.out.ml⟩).mono ?_
        rintro e w5 ⟨rfl, hb5⟩
        go_wp2_with fail
        go_ret
        exact ⟨rfl, HBr.out.trans (hb5.mono HBr.out.size)⟩
  · have hw' : which % 6 = 5 := hw
    clear hw
    go_wp2_with fail
    rw [← HW2.out, hnk]
    obtain ⟨b, hb⟩ : ∃ b : ByteArray, b = ⟨#[32]⟩ := ⟨_, rfl⟩
    rw [← hb]
    obtain ⟨hbz, hs2, hln, hcn⟩ := HFin.out b false (hb.trans rfl) rfl
    have HS3 := Lib.hid hs2
    have HLn := Lib.hid hln
    have HCn := Lib.hid hcn
    clear hs2 hln hcn hb HFin
    have m1 : min P s.size = P := by omega
    have c1 : ¬ 9223372036854775807 < (s.extract 0 P).size + b.size := by rw [ByteArray.size_extract]; omega
    have c2 : ¬ 9223372036854775807 < P + b.size := by omega
    have c3 : ¬ 9223372036854775807 < (s.extract 0 P ++ b).size + (s.extract P s.size).size := by rw [ByteArray.size_append, ByteArray.size_extract, ByteArray.size_extract]; omega
    have c4 : ¬ 9223372036854775807 < P + b.size + (s.size - P) := by omega
    have c5 : P + b.size ≤ 9223372036854775807 := by omega
    have c6 : P + b.size + (s.size - P) ≤ 9223372036854775807 := by omega
    go_region_held3 (fun _ => True) (first | trivial) (first | (go_at_call 5; refine (HS3.out _ ?_).mono ?_; exact HE2.out.drew 1; rintro e w3 ⟨⟨v3, rfl, hr3⟩, hb3⟩; go_simp))
    have hb3w : Below w.heap.size w w3 := HB2.out.trans ((below_drewN _ w2 1).trans (hb3.mono HB2.out.size))
    have HB3 := Lib.hid hb3w
    have HE3 : Hid (LawEnv w3 mm) := (HE2.out.drew 1).below hb3
    have HM3 : Hid (TokMem w3 (some ⟨g, 0, none⟩) g ts) := (show TokMem (w2.drewN 1) (some ⟨g, 0, none⟩) g ts from ⟨HM2.out.at0, HM2.out.cells⟩).below hb3
    obtain ⟨ao3, cap3, g3, hv3, hm3, _⟩ := row_mem hr3
    have hul : us.length = N := by
      have := congrArg List.length HEq.out
      rw [List.length_map, List.length_map] at this
      rw [this, HN.out]
    obtain rfl : ao3 = some ⟨g3, 0, none⟩ := hm3.at0 (by omega)
    rw [hul] at hv3
    have HU3 := Lib.hid hm3
    have hsame := same_any w3 (some ⟨g, 0, none⟩) (some ⟨g3, 0, none⟩) g g3 cap cap3 ts us HM3.out hm3 HEq.out (by rw [← HN.out]; omega)
    rw [hul, ← HN.out] at hsame
    have HSame := Lib.hid hsame
    have HUl := Lib.hid hul
    subst hv3
    clear hb3w hb3 hr3 hm3 hul hsame
    go_wp2_with fail
    refine HSame.out.mono ?_
    rintro e w4 ⟨rfl, hb4⟩
    have HB4 : Hid (Below w.heap.size w w4) := HB3.out.trans (hb4.mono HB3.out.size)
    have HE4 : Hid (LawEnv w4 mm) := HE3.out.below hb4
    have HM4 : Hid (TokMem w4 (some ⟨g, 0, none⟩) g ts) := HM3.out.below hb4
    have HU4 : Hid (TokMem w4 (some ⟨g3, 0, none⟩) g3 us) := HU3.out.below hb4
    clear hb4
    go_wp2_with fail
    go_loopw [75] (fun iv wr => ∃ k : Nat, k ≤ N ∧ iv = .int .i64 k ∧ ∃ q, wr = w4.drewN q) (fun iv _ => N - (intOf iv).toNat)
    case atStart => exact ⟨0, Nat.zero_le _, rfl, 0, rfl⟩
    case round =>
      obtain ⟨k, hk, rfl, q, hq⟩ := hrel
      have hMr : TokMem wr (some ⟨g, 0, none⟩) g ts := by rw [hq]; exact ⟨HM4.out.at0, HM4.out.cells⟩
      have hUr : TokMem wr (some ⟨g3, 0, none⟩) g3 us := by rw [hq]; exact ⟨HU4.out.at0, HU4.out.cells⟩
      have HQ := Lib.hid hq
      clear hq
      by_cases hlt : k < N
      · have hkl' : k < ts.length := by rw [← HN.out]; exact hlt
        have hku : k < us.length := by rw [HUl.out]; exact hlt
        have hll := HLn.out k hkl' hku
        obtain ⟨la, hla⟩ : ∃ la, la = (ts[k]'hkl').line := ⟨_, rfl⟩
        obtain ⟨lb, hlb⟩ : ∃ lb, lb = (us[k]'hku).line := ⟨_, rfl⟩
        rw [← hla, ← hlb] at hll
        have a3 : wr.cell? ⟨g, k * 4 + 3, none⟩ = some (.bool la) := hMr.cell k hkl' 3 (by decide) (u := .bool la) (by rw [hla]; rfl)
        have b3 : wr.cell? ⟨g3, k * 4 + 3, none⟩ = some (.bool lb) := hUr.cell k hku 3 (by decide) (u := .bool lb) (by rw [hlb]; rfl)
        have i1 : (k : Int) < N := by omega
        have i2 : IntKind.i64.wrap ((k : Int) + 1) = (k : Int) + 1 := IntWalk.i64_in _ (by omega)
        have HEnd : Hid (∀ nq, (wr.drewN nq) = w4.drewN (q + nq)) := fun nq => by rw [HQ.out]; simp
        clear hMr hUr HLn hla hlb
        by_cases hke : k = kk
        · rw [if_pos hke] at hll
          have e1 : ((k : Int) != (kk : Int)) = false := by simp [hke]
          have e2 : ((k : Int) == (kk : Int)) = true := by simp [hke]
          have HKe := Lib.hid hke
          clear hke
          cases la
          all_goals
            obtain rfl : lb = _ := hll
            go_wp2_with fail
            go_quiet ((go_at_call 8; exact Calls.quiet_of_same (HCn.out _)))
            go_wp2_with fail
            exact ⟨⟨k + 1, by omega, by go_num, q + nq, HEnd.out nq⟩, by simp [intOf]; omega⟩
        · rw [if_neg hke] at hll
          obtain rfl : lb = la := hll
          have e1 : ((k : Int) != (kk : Int)) = true := by simp; omega
          have e2 : ((k : Int) == (kk : Int)) = false := by simp; omega
          have HKe := Lib.hid hke
          clear hke
          cases lb
          all_goals
            go_wp2_with fail
            go_quiet (fail)
            go_wp2_with fail
            exact ⟨⟨k + 1, by omega, by go_num, q + nq, HEnd.out nq⟩, by simp [intOf]; omega⟩
      · obtain rfl : k = N := by omega
        have i1 : ¬ (k : Int) < k := by omega
        have HEr : Hid (LawEnv wr mm) := by rw [HQ.out]; exact HE4.out.drew q
        have HBr : Hid (Below w.heap.size w wr) := by rw [HQ.out]; exact HB4.out.trans (below_drewN _ _ _)
        clear hMr hUr
        go_wp2_with fail
        refine (awake_any _ HEr.out.sp HEr.out.sy HEr.out.po HEr.out.u8 ⟨_, HEr.out.ml⟩).mono ?_
        rintro e w5 ⟨rfl, hb5⟩
        go_wp2_with fail
        go_ret
        exact ⟨rfl, HBr.out.trans (hb5.mono HBr.out.size)⟩

end Tk
end Go.Proofs.YtmfcopbffnfnfaaGreatDoor

namespace Go.Proofs.YtmfcopbffnfnfaaGreatDoor
open Go.ChangeShapes Go.WideShapes Go.ChangeAt Go.RowKit Go.WideMaps Go.Maps
namespace Tk

theorem blanks_any (s : ByteArray) (n which : Int) (hn0 : 0 ≤ n) (hn1 : n < 65536) (hw0 : 0 ≤ which) (w : World) (mm : Int) (hE : LawEnv w mm) :
    Calls Tryz.prog 4 #[.string s, .int .u16 n, .int .u16 which] w fun e w' => e = .returned (.bool true) ∧ Below w.heap.size w w' := by
  rcases Nat.lt_or_ge 20000 s.size with hl | hs
  · refine blanks_big s n which w mm (by omega) hE ((scan_large w s hl).mono ?_)
    rintro e w' ⟨rfl, hb⟩
    exact ⟨⟨_, _, _, rfl⟩, hb⟩
  · obtain ⟨ts, res, hT⟩ := toksA_ex s hs (s.size + 1) 0 true (by omega) (Nat.zero_le _)
    have hS := scan_A w s mm ts res hs hT hE
    rcases Nat.lt_or_ge 500 s.size with h5 | h5
    · refine blanks_big s n which w mm h5 hE (hS.mono ?_)
      rintro e w' ⟨⟨_, v, rfl, _⟩ | ⟨q, code, _, rfl⟩, hb⟩
      · exact ⟨⟨_, _, _, rfl⟩, hb⟩
      · exact ⟨⟨_, _, _, rfl⟩, hb⟩
    · cases res with
      | some x =>
        obtain ⟨q, code⟩ := x
        obtain ⟨_, _, hc, _⟩ := toksA_err hT (Nat.zero_le _) q code rfl
        refine blanks_err s n which w mm q code h5 hc hE (hS.mono ?_)
        rintro e w' ⟨⟨h, _⟩ | ⟨q', code', h, rfl⟩, hb⟩
        · cases h
        · cases h
          exact ⟨rfl, hb⟩
      | none =>
        obtain ⟨hp1, _⟩ := toksA_pos hT (Nat.zero_le _)
        have hlen := toksA_len hT (Nat.zero_le _)
        by_cases h0 : ts.length = 0
        · refine blanks_none s n which w mm h5 hE (hS.mono ?_)
          rintro e w' ⟨⟨_, v, rfl, hr⟩ | ⟨q, code, h, _⟩, hb⟩
          · obtain ⟨ao, cap, g, rfl, _, _⟩ := row_mem hr
            rw [h0]
            exact ⟨⟨ao, cap, rfl⟩, hb⟩
          · cases h
        · have hkl : n.toNat % ts.length < ts.length := Nat.mod_lt _ (by omega)
          have hi : (which % 6).toNat < 6 := by omega
          have hw : which % 6 = (((which % 6).toNat : Nat) : Int) := by omega
          obtain ⟨hB, hz⟩ := toksA_blank hT _ hkl _ hi _ rfl
          have hbz := (blank_head _ hi).2.2
          refine blanks_some s n which w mm ts _ _ hn0 hn1 hw0 _ hi hw h5 hE (by omega) (by omega) rfl hkl (hp1 _ (List.getElem_mem hkl)).2 (wid_bare (blankB (which % 6).toNat).size (blankNl (which % 6).toNat) (n.toNat % ts.length) ts) (fun j h h' => wid_line _ _ _ ts j h h') (hS.mono ?_) (fun w2 hE2 => ?_)
          · rintro e w' ⟨⟨_, v, rfl, hr⟩ | ⟨q, code, h, _⟩, hb⟩
            · exact ⟨⟨v, rfl, hr⟩, hb⟩
            · cases h
          · refine (scan_A w2 _ mm _ none (by omega) hB hE2).mono ?_
            rintro e w' ⟨⟨_, v, rfl, hr⟩ | ⟨q, code, h, _⟩, hb⟩
            · exact ⟨⟨v, rfl, hr⟩, hb⟩
            · cases h

end Tk
end Go.Proofs.YtmfcopbffnfnfaaGreatDoor
