/- A string between quotes. Where a line ends. A symbol: the longest one that stands at the cursor. The closures that read a token. Numbers: behind them stands no letter, digit or underscore. Which closure reads the token at the cursor. ValidString of a short text of bytes below 128. A comment of a few bytes below 128. Passing over blanks and short line comments. Scan of a text that has no error: its tokens. Scan of a text that has no error: the walk. Tokens at a place, by their kinds. What fails: the panic of the cursor, and where a nested comment ends. -/
import Derived.Test.YtmphkifhnjfkmaaGreatDoorM1
import Derived.Lib.IndexLaws
import Derived.Laws.Rows
import Derived.Lib.ValidAsc
import Derived.Defers
import Derived.Recover
import Derived.Deep.OwnRows
namespace Go.Proofs.YtmphkifhnjfkmaaGreatDoor
open Go.ChangeShapes Go.WideShapes Go.ChangeAt Go.RowKit Go.WideMaps Go.Maps
namespace Tk

/-- A character at place p, which ends at p2. -/
def CharAt (s : ByteArray) (p : Nat) (r : Int) (p2 : Nat) : Prop :=
  ∀ (w : World) (c st m : Nat), Cur w c s st p m → Utf8T w → 3 ≠ c → 4 ≠ c → Calls Tryz.prog 61 #[.pointer (some ⟨c, 0, none⟩)] w fun e w' => e = .returned (.int .i32 r) ∧ Cur w' c s st p2 m ∧ w.grownBy w' (some c)

/-- Characters up to a quote. -/
inductive Lit (s : ByteArray) : Nat → List Int → Nat → Prop
  | done (p : Nat) (h : byteAt s p = 34) : Lit s p [] p
  | step (p : Nat) (r : Int) (p2 : Nat) (rs : List Int) (q : Nat) (h : byteAt s p ≠ 34) (hc : CharAt s p r p2) (hlt : p < p2) (hle : p2 ≤ s.size) (h0 : 0 ≤ r) (h1 : r ≤ 1114111) (hn : Lit s p2 rs q) : Lit s p (r :: rs) q

def textOf (rs : List Int) : List UInt8 := rs.flatMap Lib.encodeRune

theorem lit_end {s : ByteArray} {p q : Nat} {rs : List Int} (h : Lit s p rs q) : p ≤ q ∧ q < s.size := by
  induction h with
  | done p h => exact ⟨Nat.le_refl _, part_in (p := fun b => b == 34) (by decide) (by rw [h]; rfl)⟩
  | step p r p2 rs q h hc hlt hle h0 h1 hn ih => exact ⟨by omega, ih.2⟩

set_option maxHeartbeats 2000000 in
theorem line_any (w : World) (c : Nat) (s : ByteArray) (st a m q : Nat) (rs : List Int) (hc : Cur w c s st a m) (hs : s.size ≤ 20000) (ha : a < s.size) (hL : Lit s (a + 1) rs q) (hu : Utf8T w) (h1c : 3 ≠ c) (h2c : 4 ≠ c) :
    Calls Tryz.prog 37 #[.pointer (some ⟨c, 0, none⟩)] w fun e w' => e = .returned (.string ⟨(textOf rs).toArray⟩) ∧ Cur w' c s st (q + 1) m ∧ w.grownBy w' (some c) := by
  have hlt := hc.lt
  have hq := (lit_end hL).2
  obtain ⟨wx, hwx⟩ : ∃ wx, wx = w.alloc (.cells #[.pointer none, .slice none 0 0] 46) := ⟨_, rfl⟩
  have hsx : wx.heap.size = w.heap.size + 1 := by rw [hwx]; simp
  have HGx : Hid (w.grownBy wx (some c)) := by rw [hwx]; exact World.grownBy_alloc w _ _
  have HCx : Hid (Cur wx c s st a m) := by rw [hwx]; exact hc.kept (World.grownBy_alloc w _ none) (by simp)
  have HBx : Hid (Lib.IsBuilderF 46 5 w.heap.size w.heap.size (Lib.byteCells []) wx) := by
    rw [hwx]
    exact .inl ⟨Nat.le_refl _, .slice none 0 0, World.alloc_heap_new w _, World.ownsRowF_nil _ _ _ _, by simp [Value.ownBlock]⟩
  have HWx := Lib.hid hwx
  have HL := Lib.hid hL
  have HU := Lib.hid hu
  have H1c := Lib.hid h1c
  have H2c := Lib.hid h2c
  clear hc hwx hL hu h1c h2c
  have c2 := HCx.out.pos
  have f2 := HCx.out.free 2
  have e1 : IntKind.i64.wrap ((a : Int) + 1) = (a : Int) + 1 := IntWalk.i64_in _ (by omega)
  go_enter Tryz.func37, Tryz.ntmps37
  go_upto_region 2 with (fail)
  rw [← HWx.out]
  go_wp2_with fail
  obtain ⟨wy, hwy⟩ : ∃ wy, wy = wx.setCell ⟨c, 2, none⟩ (.int .i64 ((a : Int) + 1)) := ⟨_, rfl⟩
  have HCy : Hid (Cur wy c s st (a + 1) m) := by rw [hwy]; exact HCx.out.move (a + 1) _ (by omega)
  have HGy : Hid (wx.grownBy wy (some c)) := by rw [hwy]; exact grown_set _ ⟨c, 2, none⟩ _
  have HBy := Lib.hid (builder_kept HBx.out HGy.out hlt)
  rw [← hwy]
  clear hwy c2 f2 e1
  go_loopw [] (fun wr => ∃ (p : Nat) (r1 : List Int) (bs : List UInt8), Cur wr c s st p m ∧ Lit s p r1 q ∧ Lib.IsBuilderF 46 5 w.heap.size w.heap.size (Lib.byteCells bs) wr ∧ bs ++ textOf r1 = textOf rs ∧ bs.length ≤ 4 * p ∧ w.grownBy wr (some c)) (fun wr => s.size - posOf wr c)
  case atStart => exact ⟨a + 1, rs, [], HCy.out, HL.out, HBy.out, rfl, by simp, HGx.out.trans HGy.out⟩
  case round =>
    obtain ⟨p, r1, bs, hcp, hlp, hbp, htx, hln, hg⟩ := hrel
    have HCP := Lib.hid hcp
    have HBP := Lib.hid hbp
    have HTX := Lib.hid htx
    have HG := Lib.hid hg
    have hpq := lit_end hlp
    clear hcp hbp htx hg HCy HGy HBy
    have hgs := HG.out.size
    cases hlp with
    | done _ h =>
      have HB := Lib.hid h
      clear h
      have c2 := HCP.out.pos
      have f2 := HCP.out.free 2
      have e1 : IntKind.i64.wrap ((q : Int) + 1) = (q : Int) + 1 := IntWalk.i64_in _ (by omega)
      go_wp2_with (go_at_call 55; refine (peek0 s q c _ hs (by omega) HCP.out.text HCP.out.pos).mono ?_; rintro e w' ⟨he, n, rfl⟩; rw [HB.out] at he; subst he)
      have hgm : wr.grownBy ((wr.drewN n).setCell ⟨c, 2, none⟩ (.int .i64 ((q : Int) + 1))) (some c) := (grown_drewN wr n _).trans (grown_set _ ⟨c, 2, none⟩ _)
      have htx := HTX.out
      rw [show textOf [] = [] from rfl, List.append_nil] at htx
      refine (Tryz.Builder_String_any_k w.heap.size w.heap.size bs _ (builder_kept HBP.out hgm hlt) (by have := hgm.size; omega)).mono ?_
      rintro e w2 ⟨rfl, _, hbl, _⟩
      go_wp2_with fail
      go_ret
      exact ⟨rfl, ((HCP.out.drew n).move (q + 1) _ (by omega)).below hbl hlt, grown_below (HG.out.trans hgm) hbl⟩
    | step _ r p2 rs' _ h hch hlt2 hle h0 h1 hn =>
      have hB : (byteAt s p == 34) = false := by simpa using h
      have HCh := Lib.hid hch
      have HN := Lib.hid hn
      clear h hch hn
      go_wp2_with (go_at_call 55; refine (peek0 s p c _ hs (by omega) HCP.out.text HCP.out.pos).mono ?_; rintro e w' ⟨rfl, n, rfl⟩)
      refine (HCh.out _ c st m (HCP.out.drew n) (utf8_grown HU.out (HG.out.trans (grown_drewN wr n _)) (fun e => H1c.out (Option.some.inj e)) (fun e => H2c.out (Option.some.inj e))) H1c.out H2c.out).mono ?_
      rintro e w2 ⟨rfl, hC2, hg2⟩
      have hgm : wr.grownBy w2 (some c) := (grown_drewN wr n _).trans hg2
      have HBB := Lib.hid (builder_kept HBP.out hgm hlt)
      have HC2 := Lib.hid hC2
      have HG2 := Lib.hid hgm
      have hz2 := hgm.size
      clear hC2 hg2 hgm
      have hr4 := Lib.runeCells_le r
      rw [Lib.runeCells_length] at hr4
      go_wp2_with fail
      refine (writeRune_any w.heap.size w.heap.size (Lib.byteCells bs) r (by omega) (by omega) _ HBB.out (by rw [Lib.byteCells_length]; omega) (by omega)).mono ?_
      rintro e w3 ⟨rfl, hb3, hbl, _⟩
      have htx := HTX.out
      rw [show textOf (r :: rs') = Lib.encodeRune r ++ textOf rs' from rfl] at htx
      have hC3 := HC2.out.below hbl hlt
      go_wp2_with fail
      refine ⟨⟨p2, rs', bs ++ Lib.encodeRune r, hC3, HN.out, .inr ?_, ?_, ?_, ?_⟩, ?_⟩
      · rw [Lib.byteCells_append, Lib.byteCells_encodeRune]
        exact hb3
      · rw [List.append_assoc]
        exact htx
      · rw [List.length_append]
        omega
      · exact grown_below (HG.out.trans HG2.out) hbl
      · rw [hC3.posOf, HCP.out.posOf]
        omega

end Tk
end Go.Proofs.YtmphkifhnjfkmaaGreatDoor

namespace Go.Proofs.YtmphkifhnjfkmaaGreatDoor
open Go.ChangeShapes Go.WideShapes Go.ChangeAt Go.RowKit Go.WideMaps Go.Maps
namespace Tk

theorem index_below (l : List UInt8) (c : UInt8) : Lib.indexByte l c < l.length ∨ Lib.indexByte l c = -1 := by
  induction l with
  | nil => exact .inr rfl
  | cons b l ih =>
    have hg := Lib.indexByte_ge l c
    unfold Lib.indexByte
    by_cases hb : (b == c) = true
    · rw [if_pos hb]; left; simp
    · rw [if_neg hb]
      by_cases h1 : (Lib.indexByte l c == -1) = true
      · rw [if_pos h1]; exact .inr rfl
      · rw [if_neg h1]
        left
        rcases ih with h | h
        · simp; omega
        · rw [h] at h1; exact absurd rfl h1

theorem ext_len (s : ByteArray) (a b : Nat) : (s.extract a b).data.toList.length = min b s.size - a := by
  rw [Array.length_toList]
  exact ByteArray.size_extract

/-- The byte c behind place a. -/
def findAt (s : ByteArray) (a : Nat) (c : UInt8) : Int := Lib.indexByte (s.extract a s.size).data.toList c
def lineEndZ (s : ByteArray) (a : Nat) : Int := if 0 ≤ findAt s a 10 then a + findAt s a 10 else s.size

set_option maxHeartbeats 400000 in
theorem lineEnd_any (w : World) (c : Nat) (s : ByteArray) (st a m : Nat) (hc : Cur w c s st a m) (hs : s.size ≤ 20000) (ha : a ≤ s.size) :
    Calls Tryz.prog 22 #[.pointer (some ⟨c, 0, none⟩)] w fun e w' => e = .returned (.int .i64 (lineEndZ s a)) ∧ ∃ n, w' = w.drewN n := by
  have c0 := hc.text
  have c2 := hc.pos
  have b1 : (a : Int) ≤ s.size := by omega
  have b2 : (0 : Int) ≤ a := by omega
  obtain ⟨z, hz⟩ : ∃ z, z = findAt s a 10 := ⟨_, rfl⟩
  have hz' : Lib.indexByte (s.extract a s.size).data.toList (Int.toNat 10).toUInt8 = z := hz.symm
  have HZ := Lib.hid hz
  have HZ' := Lib.hid hz'
  have hb := index_below (s.extract a s.size).data.toList (Int.toNat 10).toUInt8
  rw [hz', ext_len, Nat.min_self] at hb
  clear hz hz'
  by_cases h : 0 ≤ z
  · have hw : IntKind.i64.wrap ((a : Int) + z) = (a : Int) + z := IntWalk.i64_in _ (by omega)
    have HE : Hid (lineEndZ s a = a + z) := by show _ = _; unfold lineEndZ; rw [← HZ.out, if_pos h]
    clear hb
    go_enter Tryz.func22, Tryz.ntmps22
    go_wp2
    go_quiet ((go_at_call 19; exact Calls.quiet_of_same (Tryz.strings_IndexByte _ _ _)))
    rw [HZ'.out]
    go_wp2
    go_ret
    exact ⟨ret_int HE.out.symm, _, rfl⟩
  · have HE : Hid (lineEndZ s a = s.size) := by show _ = _; unfold lineEndZ; rw [← HZ.out, if_neg h]
    clear hb
    go_enter Tryz.func22, Tryz.ntmps22
    go_wp2
    go_quiet ((go_at_call 19; exact Calls.quiet_of_same (Tryz.strings_IndexByte _ _ _)))
    rw [HZ'.out]
    go_wp2
    go_ret
    exact ⟨ret_int HE.out.symm, _, rfl⟩

end Tk
end Go.Proofs.YtmphkifhnjfkmaaGreatDoor

namespace Go.Proofs.YtmphkifhnjfkmaaGreatDoor
open Go.ChangeShapes Go.WideShapes Go.ChangeAt Go.RowKit Go.WideMaps Go.Maps
namespace Tk

def symL : List (List UInt8) := [[60, 60], [62, 62], [61, 61], [33, 61], [60, 61], [62, 61], [61, 62], [45, 62], [46, 62], [43, 63], [45, 63], [42, 63], [47, 63], [37, 63], [35, 114, 101, 97, 100], [35, 115, 101, 110, 100], [35, 115, 104, 97, 114, 101], [35, 97, 108, 105, 97, 115], [35, 97, 110, 121], [40], [41], [91], [93], [123], [125], [44], [46], [58], [59], [63], [61], [60], [62], [43], [45], [42], [47], [37], [124], [38], [94], [33], [126]]
def symB : List ByteArray := symL.map fun l => ⟨l.toArray⟩
def symCells : Array Value := (symB.map Value.string).toArray

/-- The table of the symbols. -/
structure Syms (w : World) : Prop where
  block : ∃ t fr, w.heap[1]? = some (.cells symCells t fr)

theorem Syms.drew {w : World} (h : Syms w) (n : Nat) : Syms (w.drewN n) := ⟨h.block⟩

def hasB (s : ByteArray) (a : Nat) (x : ByteArray) : Bool := Lib.hasPrefix (s.extract a s.size).data.toList x.data.toList
def wholeB (s : ByteArray) (a : Nat) (x : ByteArray) : Bool := !letB (byteAt x (x.size - 1)) || !partB (byteAt s (a + x.size))

/-- The longest of the first k symbols. -/
def bestN (s : ByteArray) (a : Nat) : Nat → ByteArray
  | 0 => ⟨#[]⟩
  | k + 1 => if decide ((bestN s a k).size < (symB.getD k ⟨#[]⟩).size) && hasB s a (symB.getD k ⟨#[]⟩) && wholeB s a (symB.getD k ⟨#[]⟩) then symB.getD k ⟨#[]⟩ else bestN s a k

theorem bytes_some {y : ByteArray} (h : 1 ≤ y.size) : y.toList.isEmpty = false := by
  obtain ⟨d⟩ := y
  have h' : 1 ≤ d.size := h
  rw [ByteArray.toList_mk]
  cases hd : d.toList with
  | nil => rw [← Array.length_toList, hd] at h'; cases h'
  | cons _ _ => rfl

theorem symB_len : symB.length = 43 := by decide
theorem sym_size (k : Nat) (hk : k < 43) : 1 ≤ (symB.getD k ⟨#[]⟩).size ∧ (symB.getD k ⟨#[]⟩).size ≤ 6 := by
  have hall : (symB.all fun l => decide (1 ≤ l.size) && decide (l.size ≤ 6)) = true := by decide +kernel
  have hm : symB.getD k ⟨#[]⟩ ∈ symB := by
    rw [List.getD_eq_getElem?_getD, List.getElem?_eq_getElem (by rw [symB_len]; exact hk)]
    exact List.getElem_mem _
  have := List.all_eq_true.1 hall _ hm
  simp only [Bool.and_eq_true, decide_eq_true_eq] at this
  exact this

theorem sym_idx : ∀ (k : Nat), k < 43 → ∀ (w : World), (Instr.index 81 (.agg symCells) (.int .i64 k)).run Tryz.prog w = .ok (.string (symB.getD k ⟨#[]⟩)) w
  | 0, _, _ => by kernel_rfl
  | 1, _, _ => by kernel_rfl
  | 2, _, _ => by kernel_rfl
  | 3, _, _ => by kernel_rfl
  | 4, _, _ => by kernel_rfl
  | 5, _, _ => by kernel_rfl
  | 6, _, _ => by kernel_rfl
  | 7, _, _ => by kernel_rfl
  | 8, _, _ => by kernel_rfl
  | 9, _, _ => by kernel_rfl
  | 10, _, _ => by kernel_rfl
  | 11, _, _ => by kernel_rfl
  | 12, _, _ => by kernel_rfl
  | 13, _, _ => by kernel_rfl
  | 14, _, _ => by kernel_rfl
  | 15, _, _ => by kernel_rfl
  | 16, _, _ => by kernel_rfl
  | 17, _, _ => by kernel_rfl
  | 18, _, _ => by kernel_rfl
  | 19, _, _ => by kernel_rfl
  | 20, _, _ => by kernel_rfl
  | 21, _, _ => by kernel_rfl
  | 22, _, _ => by kernel_rfl
  | 23, _, _ => by kernel_rfl
  | 24, _, _ => by kernel_rfl
  | 25, _, _ => by kernel_rfl
  | 26, _, _ => by kernel_rfl
  | 27, _, _ => by kernel_rfl
  | 28, _, _ => by kernel_rfl
  | 29, _, _ => by kernel_rfl
  | 30, _, _ => by kernel_rfl
  | 31, _, _ => by kernel_rfl
  | 32, _, _ => by kernel_rfl
  | 33, _, _ => by kernel_rfl
  | 34, _, _ => by kernel_rfl
  | 35, _, _ => by kernel_rfl
  | 36, _, _ => by kernel_rfl
  | 37, _, _ => by kernel_rfl
  | 38, _, _ => by kernel_rfl
  | 39, _, _ => by kernel_rfl
  | 40, _, _ => by kernel_rfl
  | 41, _, _ => by kernel_rfl
  | 42, _, _ => by kernel_rfl
  | k + 43, h, _ => absurd h (by omega)

theorem best_size (s : ByteArray) (a : Nat) : ∀ k, k ≤ 43 → (bestN s a k).size ≤ 6
  | 0, _ => Nat.zero_le _
  | k + 1, hk => by
    unfold bestN
    split
    · exact (sym_size k (by omega)).2
    · exact best_size s a k (by omega)

set_option maxHeartbeats 1000000 in
theorem symbol_any (w : World) (c : Nat) (s : ByteArray) (st a m : Nat) (hc : Cur w c s st a m) (hs : s.size ≤ 20000) (ha : a ≤ s.size) (hS : Syms w) (hc0 : c ≠ 1) (hne : 1 ≤ (bestN s a 43).size) :
    Calls Tryz.prog 39 #[.pointer (some ⟨c, 0, none⟩)] w fun e w' => e = .returned (.agg #[.int .i64 6, .string (bestN s a 43), .int .i64 0, .bool false]) ∧ Cur w' c s st (a + (bestN s a 43).size) m ∧ w.grownBy w' (some c) := by
  obtain ⟨tt, fr, hblk⟩ := hS.block
  have HC := Lib.hid hc
  have HNE := Lib.hid hne
  have h0w : 1 < w.heap.size := by
    rcases Nat.lt_or_ge 1 w.heap.size with h1 | h1
    · exact h1
    · rw [Array.getElem?_eq_none h1] at hblk; cases hblk
  have G : Hid ((w.alloc (.cells #[.int .i64 0, .string ⟨#[]⟩, .int .i64 0, .bool false] 31)).heap[1]? = some (.cells symCells tt fr)) := by
    show _ = _
    rw [heap_alloc_old _ _ h0w]
    exact hblk
  obtain ⟨V, hV⟩ : ∃ V, V = symCells := ⟨_, rfl⟩
  have hidx : ∀ (k : Nat), k < 43 → ∀ (w : World), (Instr.index 81 (.agg V) (.int .i64 k)).run Tryz.prog w = .ok (.string (symB.getD k ⟨#[]⟩)) w := by rw [hV]; exact sym_idx
  have HIdx := Lib.hid hidx
  have hVs : (Tryz.prog.info? 81).map (·.size) = some V.size := by rw [hV]; kernel_rfl
  rw [← hV] at G
  have HV := Lib.hid hVs
  clear hidx hV hVs h0w
  have hlc : c < w.heap.size := HC.out.lt
  have hcB' : w.heap.size ≠ c := by omega
  have hcB : some w.heap.size ≠ some c := by intro h; cases h; omega
  obtain ⟨w0, hw0⟩ : ∃ w0, w0 = w.alloc (.cells #[.int .i64 0, .string ⟨#[]⟩, .int .i64 0, .bool false] 31) := ⟨_, rfl⟩
  have HC0 : Hid (Cur w0 c s st a m) := by rw [hw0]; exact HC.out.kept (World.grownBy_alloc w _ none) (by simp)
  have HG0 : Hid (w.grownBy w0 (some c)) := by rw [hw0]; exact World.grownBy_alloc w _ _
  have HB0 : Hid (Res w0 w.heap.size) := by rw [hw0]; exact Res.new w
  have HW := Lib.hid hw0
  clear hc hS hne hblk hw0
  go_enter Tryz.func39, Tryz.ntmps39
  go_wp2_with (refine wpList_load_row rfl 81 (.global 1) rfl 1 rfl _ _ _ _ G.out Tryz.underlying81 rfl HV.out ?_)
  go_loopw [3, 8] (fun best i wr => ∃ k : Nat, k ≤ 43 ∧ i = .int .i64 k ∧ best = .string (bestN s a k) ∧ ∃ n, wr = w0.drewN n) (fun _ i _ => 43 - (intOf i).toNat)
  case atStart => exact ⟨0, by omega, rfl, rfl, 0, HW.out ▸ rfl⟩
  case round =>
    obtain ⟨k, hk, rfl, rfl, n, rfl⟩ := hrel
    by_cases hlt : k < 43
    · have hi := HIdx.out k hlt
      obtain ⟨hx1, hx2⟩ := sym_size k hlt
      have hnext : bestN s a (k + 1) = if decide ((bestN s a k).size < (symB.getD k ⟨#[]⟩).size) && hasB s a (symB.getD k ⟨#[]⟩) && wholeB s a (symB.getD k ⟨#[]⟩) then symB.getD k ⟨#[]⟩ else bestN s a k := rfl
      have hbs := best_size s a k hk
      have HN := Lib.hid hnext
      clear hnext
      generalize symB.getD k ⟨#[]⟩ = x at hi hx1 hx2 HN
      have HN0 : ∃ b, b = bestN s a k := ⟨_, rfl⟩
      obtain ⟨b, hb⟩ := HN0
      rw [← hb] at hbs HN ⊢
      have HB := Lib.hid hb
      clear hb
      have z1 : IntKind.i64.wrap ((x.size : Int) - 1) = (x.size : Int) - 1 := IntWalk.i64_in _ (by omega)
      have z2 : (1 : Int) ≤ (x.size : Int) := by omega
      have z3 : (x.size : Int) - 1 < x.size := by omega
      have z4 : ((x.size : Int) - 1).toNat = x.size - 1 := by omega
      have z5 : x.size - 1 < x.size := by omega
      have HBT : Hid (byteAt x (x.size - 1) = (x[x.size - 1]'z5).toNat) := by show _ = _; simp [byteAt, z5]
      have l43 : (k : Int) < 43 := by omega
      cases hL : letB ((x[x.size - 1]'z5).toNat : Int)
      · have HWh : Hid (wholeB s a x = true) := by show _ = _; unfold wholeB; rw [HBT.out, hL]; rfl
        by_cases hS : b.size < x.size
        · have i1 : (b.size : Int) < x.size := by omega
          cases hH : Lib.hasPrefix (s.extract a s.size).data.toList x.data.toList
          · have hh : hasB s a x = false := hH
            have HE : Hid (bestN s a (k + 1) = b) := by show _ = _; rw [HN.out, hh]; simp
            have HHp := Lib.hid hH
            clear hh hS hH
            go_wp2_with (first | (go_at_call 55; refine (peek_any s a x.size c _ hs (by omega) (by omega) (HC0.out.drew _).text (HC0.out.drew _).pos).mono ?_; rintro e w' ⟨rfl, n1, rfl⟩) | (go_at_call 54; refine (isPart_any _ _).mono ?_; rintro e w' ⟨rfl, rfl⟩) | (go_at_call 25; refine (isLetter_any _ _).mono ?_; rintro e w' ⟨rfl, rfl⟩) | (go_at_call 20; refine (has_any s x c a _ ha (HC0.out.drew _).text (HC0.out.drew _).pos).mono ?_; rintro e w' ⟨he, n2, rfl⟩; rw [HHp.out] at he; subst he))
            exact ⟨⟨k + 1, by omega, by go_num, by rw [HE.out], _, rfl⟩, by simp [intOf]; omega⟩
          · have hh : hasB s a x = true := hH
            have HE : Hid (bestN s a (k + 1) = x) := by show _ = _; rw [HN.out, hh, HWh.out, decide_eq_true hS]; rfl
            have HHp := Lib.hid hH
            clear hh hS hH
            go_wp2_with (first | (go_at_call 55; refine (peek_any s a x.size c _ hs (by omega) (by omega) (HC0.out.drew _).text (HC0.out.drew _).pos).mono ?_; rintro e w' ⟨rfl, n1, rfl⟩) | (go_at_call 54; refine (isPart_any _ _).mono ?_; rintro e w' ⟨rfl, rfl⟩) | (go_at_call 25; refine (isLetter_any _ _).mono ?_; rintro e w' ⟨rfl, rfl⟩) | (go_at_call 20; refine (has_any s x c a _ ha (HC0.out.drew _).text (HC0.out.drew _).pos).mono ?_; rintro e w' ⟨he, n2, rfl⟩; rw [HHp.out] at he; subst he))
            exact ⟨⟨k + 1, by omega, by go_num, by rw [HE.out], _, rfl⟩, by simp [intOf]; omega⟩
        · have i1 : ¬ (b.size : Int) < x.size := by omega
          have i2 : decide ((b.size : Int) < x.size) = false := decide_eq_false i1
          have HE : Hid (bestN s a (k + 1) = b) := by show _ = _; rw [HN.out, decide_eq_false hS]; rfl
          have i4 : (x.size : Int) ≤ b.size := by omega
          go_wp2_with (first | (go_at_call 55; refine (peek_any s a x.size c _ hs (by omega) (by omega) (HC0.out.drew _).text (HC0.out.drew _).pos).mono ?_; rintro e w' ⟨rfl, n1, rfl⟩) | (go_at_call 54; refine (isPart_any _ _).mono ?_; rintro e w' ⟨rfl, rfl⟩) | (go_at_call 25; refine (isLetter_any _ _).mono ?_; rintro e w' ⟨rfl, rfl⟩))
          exact ⟨⟨k + 1, by omega, by go_num, by rw [HE.out], _, rfl⟩, by simp [intOf]; omega⟩
      · cases hP : partB (byteAt s (a + x.size))
        · have HWh : Hid (wholeB s a x = true) := by show _ = _; unfold wholeB; rw [HBT.out, hL, hP]; rfl
          by_cases hS : b.size < x.size
          · have i1 : (b.size : Int) < x.size := by omega
            cases hH : Lib.hasPrefix (s.extract a s.size).data.toList x.data.toList
            · have hh : hasB s a x = false := hH
              have HE : Hid (bestN s a (k + 1) = b) := by show _ = _; rw [HN.out, hh]; simp
              have HHp := Lib.hid hH
              clear hh hS hH
              go_wp2_with (first | (go_at_call 55; refine (peek_any s a x.size c _ hs (by omega) (by omega) (HC0.out.drew _).text (HC0.out.drew _).pos).mono ?_; rintro e w' ⟨rfl, n1, rfl⟩) | (go_at_call 54; refine (isPart_any _ _).mono ?_; rintro e w' ⟨rfl, rfl⟩) | (go_at_call 25; refine (isLetter_any _ _).mono ?_; rintro e w' ⟨rfl, rfl⟩) | (go_at_call 20; refine (has_any s x c a _ ha (HC0.out.drew _).text (HC0.out.drew _).pos).mono ?_; rintro e w' ⟨he, n2, rfl⟩; rw [HHp.out] at he; subst he))
              exact ⟨⟨k + 1, by omega, by go_num, by rw [HE.out], _, rfl⟩, by simp [intOf]; omega⟩
            · have hh : hasB s a x = true := hH
              have HE : Hid (bestN s a (k + 1) = x) := by show _ = _; rw [HN.out, hh, HWh.out, decide_eq_true hS]; rfl
              have HHp := Lib.hid hH
              clear hh hS hH
              go_wp2_with (first | (go_at_call 55; refine (peek_any s a x.size c _ hs (by omega) (by omega) (HC0.out.drew _).text (HC0.out.drew _).pos).mono ?_; rintro e w' ⟨rfl, n1, rfl⟩) | (go_at_call 54; refine (isPart_any _ _).mono ?_; rintro e w' ⟨rfl, rfl⟩) | (go_at_call 25; refine (isLetter_any _ _).mono ?_; rintro e w' ⟨rfl, rfl⟩) | (go_at_call 20; refine (has_any s x c a _ ha (HC0.out.drew _).text (HC0.out.drew _).pos).mono ?_; rintro e w' ⟨he, n2, rfl⟩; rw [HHp.out] at he; subst he))
              exact ⟨⟨k + 1, by omega, by go_num, by rw [HE.out], _, rfl⟩, by simp [intOf]; omega⟩
          · have i1 : ¬ (b.size : Int) < x.size := by omega
            have i2 : decide ((b.size : Int) < x.size) = false := decide_eq_false i1
            have HE : Hid (bestN s a (k + 1) = b) := by show _ = _; rw [HN.out, decide_eq_false hS]; rfl
            have i4 : (x.size : Int) ≤ b.size := by omega
            go_wp2_with (first | (go_at_call 55; refine (peek_any s a x.size c _ hs (by omega) (by omega) (HC0.out.drew _).text (HC0.out.drew _).pos).mono ?_; rintro e w' ⟨rfl, n1, rfl⟩) | (go_at_call 54; refine (isPart_any _ _).mono ?_; rintro e w' ⟨rfl, rfl⟩) | (go_at_call 25; refine (isLetter_any _ _).mono ?_; rintro e w' ⟨rfl, rfl⟩))
            exact ⟨⟨k + 1, by omega, by go_num, by rw [HE.out], _, rfl⟩, by simp [intOf]; omega⟩
        · have HWh : Hid (wholeB s a x = false) := by show _ = _; unfold wholeB; rw [HBT.out, hL, hP]; rfl
          by_cases hS : b.size < x.size
          · have i1 : (b.size : Int) < x.size := by omega
            cases hH : Lib.hasPrefix (s.extract a s.size).data.toList x.data.toList
            · have hh : hasB s a x = false := hH
              have HE : Hid (bestN s a (k + 1) = b) := by show _ = _; rw [HN.out, hh]; simp
              have HHp := Lib.hid hH
              clear hh hS hH
              go_wp2_with (first | (go_at_call 55; refine (peek_any s a x.size c _ hs (by omega) (by omega) (HC0.out.drew _).text (HC0.out.drew _).pos).mono ?_; rintro e w' ⟨rfl, n1, rfl⟩) | (go_at_call 54; refine (isPart_any _ _).mono ?_; rintro e w' ⟨rfl, rfl⟩) | (go_at_call 25; refine (isLetter_any _ _).mono ?_; rintro e w' ⟨rfl, rfl⟩) | (go_at_call 20; refine (has_any s x c a _ ha (HC0.out.drew _).text (HC0.out.drew _).pos).mono ?_; rintro e w' ⟨he, n2, rfl⟩; rw [HHp.out] at he; subst he))
              exact ⟨⟨k + 1, by omega, by go_num, by rw [HE.out], _, rfl⟩, by simp [intOf]; omega⟩
            · have HE : Hid (bestN s a (k + 1) = b) := by show _ = _; rw [HN.out, HWh.out]; simp
              have HHp := Lib.hid hH
              clear hS hH
              go_wp2_with (first | (go_at_call 55; refine (peek_any s a x.size c _ hs (by omega) (by omega) (HC0.out.drew _).text (HC0.out.drew _).pos).mono ?_; rintro e w' ⟨rfl, n1, rfl⟩) | (go_at_call 54; refine (isPart_any _ _).mono ?_; rintro e w' ⟨rfl, rfl⟩) | (go_at_call 25; refine (isLetter_any _ _).mono ?_; rintro e w' ⟨rfl, rfl⟩) | (go_at_call 20; refine (has_any s x c a _ ha (HC0.out.drew _).text (HC0.out.drew _).pos).mono ?_; rintro e w' ⟨he, n2, rfl⟩; rw [HHp.out] at he; subst he))
              exact ⟨⟨k + 1, by omega, by go_num, by rw [HE.out], _, rfl⟩, by simp [intOf]; omega⟩
          · have i1 : ¬ (b.size : Int) < x.size := by omega
            have i2 : decide ((b.size : Int) < x.size) = false := decide_eq_false i1
            have HE : Hid (bestN s a (k + 1) = b) := by show _ = _; rw [HN.out, decide_eq_false hS]; rfl
            have i4 : (x.size : Int) ≤ b.size := by omega
            go_wp2_with (first | (go_at_call 55; refine (peek_any s a x.size c _ hs (by omega) (by omega) (HC0.out.drew _).text (HC0.out.drew _).pos).mono ?_; rintro e w' ⟨rfl, n1, rfl⟩) | (go_at_call 54; refine (isPart_any _ _).mono ?_; rintro e w' ⟨rfl, rfl⟩) | (go_at_call 25; refine (isLetter_any _ _).mono ?_; rintro e w' ⟨rfl, rfl⟩))
            exact ⟨⟨k + 1, by omega, by go_num, by rw [HE.out], _, rfl⟩, by simp [intOf]; omega⟩
    · obtain rfl : k = 43 := by omega
      have hne := HNE.out
      have hbs := best_size s a 43 hk
      obtain ⟨y, hy⟩ : ∃ y, y = bestN s a 43 := ⟨_, rfl⟩
      rw [← hy] at hne hbs ⊢
      have HY := Lib.hid hy
      clear hy
      have hyb := bytes_some hne
      obtain ⟨wr, hwr⟩ : ∃ wr, wr = w0.drewN n := ⟨_, rfl⟩
      have HCr : Hid (Cur wr c s st a m) := by rw [hwr]; exact HC0.out.drew n
      have HGr : Hid (w.grownBy wr (some c)) := by rw [hwr]; exact HG0.out.trans (grown_drewN _ _ _)
      have HRr : Hid (Res wr w.heap.size) := by rw [hwr]; exact HB0.out.kept (grown_drewN _ _ _) hcB
      rw [← hwr]
      clear hwr
      have c2 := HCr.out.pos
      have f2 := HCr.out.free 2
      have hw : IntKind.i64.wrap ((a : Int) + y.size) = (a : Int) + y.size := IntWalk.i64_in _ (by omega)
      go_upto_region 12 with (fail)
      obtain ⟨wx, hwx⟩ : ∃ wx, wx = wr.setCell ⟨c, 2, none⟩ (.int .i64 ((a : Int) + y.size)) := ⟨_, rfl⟩
      have HCx : Hid (Cur wx c s st (a + y.size) m) := by rw [hwx]; exact HCr.out.move (a + y.size) _ (by omega)
      have HGx : Hid (w.grownBy wx (some c)) := by rw [hwx]; exact HGr.out.trans (grown_set _ ⟨c, 2, none⟩ _)
      have HRx : Hid (Res wx w.heap.size) := by rw [hwx]; exact HRr.out.kept (grown_set _ ⟨c, 2, none⟩ _) hcB
      rw [← hwx]
      clear hwx c2 f2 hw HCr HGr HRr
      have r0 := HRx.out.c0
      have r1 := HRx.out.c1
      have r2 := HRx.out.c2
      have r3 := HRx.out.c3
      have g0 := HRx.out.free 0
      have g1 := HRx.out.free 1
      have g2 := HRx.out.free 2
      have g3 := HRx.out.free 3
      go_wp2_with fail
      refine bodyPost_ret (v := .agg #[.int .i64 6, .string y, .int .i64 0, .bool false]) (by simp [results, Tryz.results39, go_sem, r0, r1, r2, r3]) rfl ⟨?_, ?_, ?_⟩
      · rw [← HY.out]
      · rw [← HY.out]
        exact (((HCx.out.other hcB' _).other hcB' _).other hcB' _).other hcB' _
      · exact grown_new (grown_new (grown_new (grown_new HGx.out (Nat.le_refl _) _) (Nat.le_refl _) _) (Nat.le_refl _) _) (Nat.le_refl _) _

end Tk
end Go.Proofs.YtmphkifhnjfkmaaGreatDoor

namespace Go.Proofs.YtmphkifhnjfkmaaGreatDoor
open Go.ChangeShapes Go.WideShapes Go.ChangeAt Go.RowKit Go.WideMaps Go.Maps
namespace Tk

/-- A token of a kind, with a text, as a reader hands it back. -/
def tokV (k : Int) (tx : ByteArray) : Value := .agg #[.int .i64 k, .string tx, .int .i64 0, .bool false]

theorem res_start {w : World} {bc c : Nat} {s : ByteArray} {st a m : Nat} (hb : w.cell? ⟨bc, 0, none⟩ = some (.pointer (some ⟨c, 0, none⟩))) (hc : Cur w c s st a m) :
    ∃ wx, wx = w.alloc (.cells #[.int .i64 0, .string ⟨#[]⟩, .int .i64 0, .bool false] 31) ∧ wx.cell? ⟨bc, 0, none⟩ = some (.pointer (some ⟨c, 0, none⟩)) ∧ Cur wx c s st a m ∧ Res wx w.heap.size ∧ w.grownBy wx none :=
  ⟨_, rfl, cell_grown hb (World.grownBy_alloc w _ none) (by simp), hc.kept (World.grownBy_alloc w _ none) (by simp), Res.new w, World.grownBy_alloc w _ none⟩

set_option maxHeartbeats 1000000 in
/-- The closure that reads a word. -/
theorem closure1 (w : World) (bc c : Nat) (s : ByteArray) (st a m q : Nat) (k : Int) (tx : ByteArray) (hb : w.cell? ⟨bc, 0, none⟩ = some (.pointer (some ⟨c, 0, none⟩))) (hc : Cur w c s st a m)
    (hcall : ∀ w1 : World, w.grownBy w1 none → Cur w1 c s st a m → Calls Tryz.prog 27 #[.pointer (some ⟨c, 0, none⟩)] w1 fun e w' => e = .returned (tokV k tx) ∧ Cur w' c s st q m ∧ w1.grownBy w' (some c)) :
    Calls Tryz.prog 26 #[.pointer (some ⟨bc, 0, none⟩)] w fun e w' => e = .returned (tokV k tx) ∧ Cur w' c s st q m ∧ w.grownBy w' (some c) := by
  have hlt := hc.lt
  obtain ⟨wx, hwx, hbx, hcx, hrx, hgx⟩ := res_start hb hc
  have HX := Lib.hid (hcall wx hgx hcx)
  have HRx := Lib.hid hrx
  have HGx := Lib.hid hgx
  have HWx := Lib.hid hwx
  clear hcall hb hc hwx hcx hrx hgx
  go_enter Tryz.func26, Tryz.ntmps26
  go_upto_region 1 with (fail)
  rw [← HWx.out]
  go_wp2_with fail
  refine HX.out.mono ?_
  rintro e w2 ⟨rfl, hc2, hg2⟩
  have HC2 := Lib.hid hc2
  have HG2 := Lib.hid hg2
  have HR2 : Hid (Res w2 w.heap.size) := HRx.out.kept hg2 (by intro e; have := Option.some.inj e; omega)
  clear hc2 hg2
  have r0 := HR2.out.c0
  have r1 := HR2.out.c1
  have r2 := HR2.out.c2
  have r3 := HR2.out.c3
  have g0 := HR2.out.free 0
  have g1 := HR2.out.free 1
  have g2 := HR2.out.free 2
  have g3 := HR2.out.free 3
  have ht : tokV k tx = .agg #[.int .i64 k, .string tx, .int .i64 0, .bool false] := rfl
  try rw [ht]
  go_wp2_with fail
  exact bodyPost_ret (v := .agg #[.int .i64 k, .string tx, .int .i64 0, .bool false]) (by simp [results, Tryz.results26, go_sem, r0, r1, r2, r3]) rfl ⟨rfl, cur_res HC2.out (by omega) _ _ _ _, grown_res ((grown_row HGx.out c).trans HG2.out) _ _ _ _⟩

set_option maxHeartbeats 1000000 in
/-- The closure that reads a number. -/
theorem closure2 (w : World) (bc c : Nat) (s : ByteArray) (st a m q : Nat) (k : Int) (tx : ByteArray) (hb : w.cell? ⟨bc, 0, none⟩ = some (.pointer (some ⟨c, 0, none⟩))) (hc : Cur w c s st a m)
    (hcall : ∀ w1 : World, w.grownBy w1 none → Cur w1 c s st a m → Calls Tryz.prog 31 #[.pointer (some ⟨c, 0, none⟩)] w1 fun e w' => e = .returned (tokV k tx) ∧ Cur w' c s st q m ∧ w1.grownBy w' (some c)) :
    Calls Tryz.prog 30 #[.pointer (some ⟨bc, 0, none⟩)] w fun e w' => e = .returned (tokV k tx) ∧ Cur w' c s st q m ∧ w.grownBy w' (some c) := by
  have hlt := hc.lt
  obtain ⟨wx, hwx, hbx, hcx, hrx, hgx⟩ := res_start hb hc
  have HX := Lib.hid (hcall wx hgx hcx)
  have HRx := Lib.hid hrx
  have HGx := Lib.hid hgx
  have HWx := Lib.hid hwx
  clear hcall hb hc hwx hcx hrx hgx
  go_enter Tryz.func30, Tryz.ntmps30
  go_upto_region 1 with (fail)
  rw [← HWx.out]
  go_wp2_with fail
  refine HX.out.mono ?_
  rintro e w2 ⟨rfl, hc2, hg2⟩
  have HC2 := Lib.hid hc2
  have HG2 := Lib.hid hg2
  have HR2 : Hid (Res w2 w.heap.size) := HRx.out.kept hg2 (by intro e; have := Option.some.inj e; omega)
  clear hc2 hg2
  have r0 := HR2.out.c0
  have r1 := HR2.out.c1
  have r2 := HR2.out.c2
  have r3 := HR2.out.c3
  have g0 := HR2.out.free 0
  have g1 := HR2.out.free 1
  have g2 := HR2.out.free 2
  have g3 := HR2.out.free 3
  have ht : tokV k tx = .agg #[.int .i64 k, .string tx, .int .i64 0, .bool false] := rfl
  try rw [ht]
  go_wp2_with fail
  exact bodyPost_ret (v := .agg #[.int .i64 k, .string tx, .int .i64 0, .bool false]) (by simp [results, Tryz.results30, go_sem, r0, r1, r2, r3]) rfl ⟨rfl, cur_res HC2.out (by omega) _ _ _ _, grown_res ((grown_row HGx.out c).trans HG2.out) _ _ _ _⟩

set_option maxHeartbeats 1000000 in
/-- The closure that reads a symbol. -/
theorem closure6 (w : World) (bc c : Nat) (s : ByteArray) (st a m q : Nat) (k : Int) (tx : ByteArray) (hb : w.cell? ⟨bc, 0, none⟩ = some (.pointer (some ⟨c, 0, none⟩))) (hc : Cur w c s st a m)
    (hcall : ∀ w1 : World, w.grownBy w1 none → Cur w1 c s st a m → Calls Tryz.prog 39 #[.pointer (some ⟨c, 0, none⟩)] w1 fun e w' => e = .returned (tokV k tx) ∧ Cur w' c s st q m ∧ w1.grownBy w' (some c)) :
    Calls Tryz.prog 38 #[.pointer (some ⟨bc, 0, none⟩)] w fun e w' => e = .returned (tokV k tx) ∧ Cur w' c s st q m ∧ w.grownBy w' (some c) := by
  have hlt := hc.lt
  obtain ⟨wx, hwx, hbx, hcx, hrx, hgx⟩ := res_start hb hc
  have HX := Lib.hid (hcall wx hgx hcx)
  have HRx := Lib.hid hrx
  have HGx := Lib.hid hgx
  have HWx := Lib.hid hwx
  clear hcall hb hc hwx hcx hrx hgx
  go_enter Tryz.func38, Tryz.ntmps38
  go_upto_region 1 with (fail)
  rw [← HWx.out]
  go_wp2_with fail
  refine HX.out.mono ?_
  rintro e w2 ⟨rfl, hc2, hg2⟩
  have HC2 := Lib.hid hc2
  have HG2 := Lib.hid hg2
  have HR2 : Hid (Res w2 w.heap.size) := HRx.out.kept hg2 (by intro e; have := Option.some.inj e; omega)
  clear hc2 hg2
  have r0 := HR2.out.c0
  have r1 := HR2.out.c1
  have r2 := HR2.out.c2
  have r3 := HR2.out.c3
  have g0 := HR2.out.free 0
  have g1 := HR2.out.free 1
  have g2 := HR2.out.free 2
  have g3 := HR2.out.free 3
  have ht : tokV k tx = .agg #[.int .i64 k, .string tx, .int .i64 0, .bool false] := rfl
  try rw [ht]
  go_wp2_with fail
  exact bodyPost_ret (v := .agg #[.int .i64 k, .string tx, .int .i64 0, .bool false]) (by simp [results, Tryz.results38, go_sem, r0, r1, r2, r3]) rfl ⟨rfl, cur_res HC2.out (by omega) _ _ _ _, grown_res ((grown_row HGx.out c).trans HG2.out) _ _ _ _⟩

set_option maxHeartbeats 1000000 in
/-- The closure that reads a string on one line. -/
theorem closure5 (w : World) (bc c : Nat) (s : ByteArray) (st a m q : Nat) (tx : ByteArray) (hb : w.cell? ⟨bc, 0, none⟩ = some (.pointer (some ⟨c, 0, none⟩))) (hc : Cur w c s st a m)
    (hcall : ∀ w1 : World, w.grownBy w1 none → Cur w1 c s st a m → Calls Tryz.prog 37 #[.pointer (some ⟨c, 0, none⟩)] w1 fun e w' => e = .returned (.string tx) ∧ Cur w' c s st q m ∧ w1.grownBy w' (some c)) :
    Calls Tryz.prog 36 #[.pointer (some ⟨bc, 0, none⟩)] w fun e w' => e = .returned (tokV 5 tx) ∧ Cur w' c s st q m ∧ w.grownBy w' (some c) := by
  have hlt := hc.lt
  obtain ⟨wx, hwx, hbx, hcx, hrx, hgx⟩ := res_start hb hc
  have HX := Lib.hid (hcall wx hgx hcx)
  have HRx := Lib.hid hrx
  have HGx := Lib.hid hgx
  have HWx := Lib.hid hwx
  clear hcall hb hc hwx hcx hrx hgx
  go_enter Tryz.func36, Tryz.ntmps36
  go_upto_region 1 with (fail)
  rw [← HWx.out]
  go_wp2_with fail
  refine HX.out.mono ?_
  rintro e w2 ⟨rfl, hc2, hg2⟩
  have HC2 := Lib.hid hc2
  have HG2 := Lib.hid hg2
  have HR2 : Hid (Res w2 w.heap.size) := HRx.out.kept hg2 (by intro e; have := Option.some.inj e; omega)
  clear hc2 hg2
  have r0 := HR2.out.c0
  have r1 := HR2.out.c1
  have r2 := HR2.out.c2
  have r3 := HR2.out.c3
  have g0 := HR2.out.free 0
  have g1 := HR2.out.free 1
  have g2 := HR2.out.free 2
  have g3 := HR2.out.free 3
  have ht : tokV 5 tx = .agg #[.int .i64 5, .string tx, .int .i64 0, .bool false] := rfl
  try rw [ht]
  go_wp2_with fail
  exact bodyPost_ret (v := .agg #[.int .i64 5, .string tx, .int .i64 0, .bool false]) (by simp [results, Tryz.results36, go_sem, r0, r1, r2, r3]) rfl ⟨rfl, cur_res HC2.out (by omega) _ _ _ _, grown_res ((grown_row HGx.out c).trans HG2.out) _ _ _ _⟩

end Tk
end Go.Proofs.YtmphkifhnjfkmaaGreatDoor

namespace Go.Proofs.YtmphkifhnjfkmaaGreatDoor
open Go.ChangeShapes Go.WideShapes Go.ChangeAt Go.RowKit Go.WideMaps Go.Maps
namespace Tk

theorem closed_any (w : World) (c : Nat) (f : Fn) (lb : Array Value) :
    Calls Tryz.prog 29 #[.pointer (some ⟨c, 0, none⟩), .func f #[] lb] w fun e w' =>
      e = .returned (.func (.func 56) #[] #[.pointer (some ⟨w.heap.size + 1, 0, none⟩), .pointer (some ⟨w.heap.size, 0, none⟩)]) ∧
      w'.cell? ⟨w.heap.size + 1, 0, none⟩ = some (.func f #[] lb) ∧ w'.cell? ⟨w.heap.size, 0, none⟩ = some (.pointer (some ⟨c, 0, none⟩)) ∧ w'.heap.size = w.heap.size + 2 ∧ w.grownBy w' none := by
  have hmf : ∀ (fn : Fn) (first cap : Array Value) (w : World), (Instr.makeFunc fn first cap).run Tryz.prog w = .ok (.func fn first cap) w := fun _ _ _ _ => rfl
  go_enter Tryz.func29, Tryz.ntmps29
  go_wp2
  go_ret
  have h0 : Boxed ((w.alloc (.cells #[.pointer (some ⟨c, 0, none⟩)] 36)).alloc (.cells #[.func f #[] lb] 41)) w.heap.size 36 (.pointer (some ⟨c, 0, none⟩)) := (Boxed.new w _ _).alloc _
  have h1 := Boxed.new (w.alloc (.cells #[.pointer (some ⟨c, 0, none⟩)] 36)) 41 (.func f #[] lb)
  rw [World.size_alloc] at h1
  exact ⟨rfl, h1.cell, h0.cell, by simp, (World.grownBy_alloc w _ none).trans (World.grownBy_alloc _ _ none)⟩

set_option maxHeartbeats 2000000 in
theorem closedNumber (w : World) (bf bc b2 c : Nat) (s : ByteArray) (st a m q : Nat) (k : Int) (tx : ByteArray) (hs : s.size ≤ 20000) (hq : q ≤ s.size)
    (hf : w.cell? ⟨bf, 0, none⟩ = some (.func (.func 30) #[] #[.pointer (some ⟨b2, 0, none⟩)])) (hb : w.cell? ⟨bc, 0, none⟩ = some (.pointer (some ⟨c, 0, none⟩))) (h2 : w.cell? ⟨b2, 0, none⟩ = some (.pointer (some ⟨c, 0, none⟩))) (hbc : bc ≠ c) (hc : Cur w c s st a m)
    (hp : partB (byteAt s q) = false)
    (hcall : ∀ w1 : World, w.grownBy w1 none → Cur w1 c s st a m → Calls Tryz.prog 31 #[.pointer (some ⟨c, 0, none⟩)] w1 fun e w' => e = .returned (tokV k tx) ∧ Cur w' c s st q m ∧ w1.grownBy w' (some c)) :
    Calls Tryz.prog 56 #[.pointer (some ⟨bf, 0, none⟩), .pointer (some ⟨bc, 0, none⟩)] w fun e w' => e = .returned (tokV k tx) ∧ Cur w' c s st q m ∧ w.grownBy w' (some c) := by
  have hlt := hc.lt
  have hbl := lt_cell hb
  obtain ⟨wx, hwx, hbx, hcx, hrx, hgx⟩ := res_start hb hc
  have hfx : wx.cell? ⟨bf, 0, none⟩ = some (.func (.func 30) #[] #[.pointer (some ⟨b2, 0, none⟩)]) := cell_grown hf hgx (by simp)
  have HX := Lib.hid (closure2 wx b2 c s st a m q k tx (cell_grown h2 hgx (by simp)) hcx (fun w1 g1 c1 => hcall w1 (hgx.trans g1) c1))
  have HRx := Lib.hid hrx
  have HGx := Lib.hid hgx
  have HWx := Lib.hid hwx
  have HBx := Lib.hid hbx
  have HP := Lib.hid hp
  have hsx : wx.heap.size = w.heap.size + 1 := by rw [hwx]; simp
  clear hcall hb hc hwx hcx hrx hgx h2 hf hbx hp
  go_enter Tryz.func56, Tryz.ntmps56
  go_upto_region 1 with (fail)
  rw [← HWx.out]
  go_wp2_with fail
  refine HX.out.mono ?_
  rintro e w2 ⟨rfl, hc2, hg2⟩
  have HC2 := Lib.hid hc2
  have HG2 := Lib.hid hg2
  have HR2 : Hid (Res w2 w.heap.size) := HRx.out.kept hg2 (by intro e; have := Option.some.inj e; omega)
  have hb2 : w2.cell? ⟨bc, 0, none⟩ = some (.pointer (some ⟨c, 0, none⟩)) := cell_grown HBx.out hg2 (by intro e; exact hbc (Option.some.inj e))
  have hz2 := hg2.size
  clear hc2 hg2 hfx
  obtain ⟨wy, hwy⟩ : ∃ wy, wy = w2.alloc (.cells #[.int .i64 k, .string tx, .int .i64 0, .bool false] 31) := ⟨_, rfl⟩
  have hgy : w2.grownBy wy none := by rw [hwy]; exact World.grownBy_alloc w2 _ none
  have hby : wy.heap[w2.heap.size]? = some (.cells #[.int .i64 k, .string tx, .int .i64 0, .bool false] 31) := by rw [hwy]; exact World.alloc_heap_new w2 _
  have HCy := Lib.hid (HC2.out.kept hgy (by simp))
  have HRy : Hid (Res wy w.heap.size) := HR2.out.kept hgy (by simp)
  have b2 : wy.cell? ⟨bc, 0, none⟩ = some (.pointer (some ⟨c, 0, none⟩)) := cell_grown hb2 hgy (by simp)
  have s0 : wy.cell? ⟨w2.heap.size, 0, none⟩ = some (.int .i64 k) := by rw [Lib.cell_of_heap hby]; rfl
  have s1 : wy.cell? ⟨w2.heap.size, 1, none⟩ = some (.string tx) := by rw [Lib.cell_of_heap hby]; rfl
  have s2 : wy.cell? ⟨w2.heap.size, 2, none⟩ = some (.int .i64 0) := by rw [Lib.cell_of_heap hby]; rfl
  have s3 : wy.cell? ⟨w2.heap.size, 3, none⟩ = some (.bool false) := by rw [Lib.cell_of_heap hby]; rfl
  have HGy := Lib.hid (((grown_row HGx.out c).trans HG2.out).trans (grown_row hgy c))
  have HWy := Lib.hid hwy
  clear hwy hgy hby hb2
  have r0 := HRy.out.c0
  have r1 := HRy.out.c1
  have r2 := HRy.out.c2
  have r3 := HRy.out.c3
  have g0 := HRy.out.free 0
  have g1 := HRy.out.free 1
  have g2 := HRy.out.free 2
  have g3 := HRy.out.free 3
  have ht : tokV k tx = .agg #[.int .i64 k, .string tx, .int .i64 0, .bool false] := rfl
  rw [ht]
  go_upto_region 2 with (fail)
  rw [← HWy.out]
  go_wp2_with (first | (go_at_call 55; refine (peek0 s q c _ hs (by omega) HCy.out.text HCy.out.pos).mono ?_; rintro e w' ⟨rfl, n, rfl⟩) | (go_at_call 54; refine (isPart_any _ _).mono ?_; rintro e w' ⟨he, rfl⟩; rw [HP.out] at he; subst he))
  exact bodyPost_ret (v := .agg #[.int .i64 k, .string tx, .int .i64 0, .bool false]) (by simp [results, Tryz.results56, go_sem, r0, r1, r2, r3]) rfl ⟨rfl, cur_res (HCy.out.drew n) (by omega) _ _ _ _, grown_res (HGy.out.trans (grown_drewN _ _ _)) _ _ _ _⟩

end Tk
end Go.Proofs.YtmphkifhnjfkmaaGreatDoor

namespace Go.Proofs.YtmphkifhnjfkmaaGreatDoor
open Go.ChangeShapes Go.WideShapes Go.ChangeAt Go.RowKit Go.WideMaps Go.Maps
namespace Tk

def quote3 : ByteArray := ⟨#[34, 34, 34]⟩

theorem reader_start (w : World) (c : Nat) (s : ByteArray) (st p m : Nat) (hc : Cur w c s st p m) :
    ∃ wx wy, wx = w.alloc (.cells #[.pointer (some ⟨c, 0, none⟩)] 36) ∧ wx.cell? ⟨w.heap.size, 0, none⟩ = some (.pointer (some ⟨c, 0, none⟩)) ∧ Cur wx c s st p m ∧
      wy = wx.setCell ⟨c, 1, none⟩ (.int .i64 p) ∧ wy.cell? ⟨w.heap.size, 0, none⟩ = some (.pointer (some ⟨c, 0, none⟩)) ∧ Cur wy c s p p m ∧ w.grownBy wy (some c) := by
  have hlt := hc.lt
  have hb := (Boxed.new w 36 (.pointer (some ⟨c, 0, none⟩))).cell
  have hx := hc.kept (World.grownBy_alloc w (.cells #[.pointer (some ⟨c, 0, none⟩)] 36) none) (by simp)
  have hg : (w.alloc (.cells #[.pointer (some ⟨c, 0, none⟩)] 36)).grownBy ((w.alloc (.cells #[.pointer (some ⟨c, 0, none⟩)] 36)).setCell ⟨c, 1, none⟩ (.int .i64 p)) (some c) := grown_set _ ⟨c, 1, none⟩ _
  exact ⟨_, _, rfl, hb, hx, rfl, cell_grown hb hg (by intro e; have := Option.some.inj e; simp at this; omega), hx.begin p, (World.grownBy_alloc w _ _).trans hg⟩

set_option maxHeartbeats 2000000 in
theorem reader_word (w : World) (c : Nat) (s : ByteArray) (st p m : Nat) (hc : Cur w c s st p m) (_ : s.size ≤ 20000) (hp : p < s.size) (hl : letB (byteAt s p) = true) :
    Calls Tryz.prog 11 #[.pointer (some ⟨c, 0, none⟩)] w fun e w' => e = .returned (.func (.func 26) #[] #[.pointer (some ⟨w.heap.size, 0, none⟩)]) ∧ w'.cell? ⟨w.heap.size, 0, none⟩ = some (.pointer (some ⟨c, 0, none⟩)) ∧ Cur w' c s p p m ∧ w.grownBy w' (some c) := by
  have hlt := hc.lt
  obtain ⟨wx, wy, hwx, hbx, hcx, hwy, hby, hcy, hgy⟩ := reader_start w c s st p m hc
  have hmf : ∀ (fn : Fn) (first cap : Array Value) (w : World), (Instr.makeFunc fn first cap).run Tryz.prog w = .ok (.func fn first cap) w := fun _ _ _ _ => rfl
  have HB : Hid (byteAt s p = (s[p]'hp).toNat) := by show _ = _; simp [byteAt, hp]
  have HL : Hid (letB ((s[p]'hp).toNat : Int) = true) := by show _ = _; rw [← HB.out]; exact hl
  clear hl
  have HCy := Lib.hid hcy
  have HGy := Lib.hid hgy
  have HWx := Lib.hid hwx
  have HWy := Lib.hid hwy
  have HBy := Lib.hid hby
  have i1 : (p : Int) < s.size := by omega
  have i0 : (0 : Int) ≤ p := by omega
  have c2 := hcx.pos
  have f1 := hcx.free 1
  have c1 := hcx.start
  clear hc hwx hwy hcx hcy hgy hby
  go_enter Tryz.func11, Tryz.ntmps11
  go_upto_region 1 with (fail)
  rw [← HWx.out]
  go_region
  rw [← HWy.out]
  obtain ⟨wz, hwz⟩ : ∃ wz, wz = wy.drew := ⟨_, rfl⟩
  have HCz : Hid (Cur wz c s p p m) := by rw [hwz]; exact HCy.out.drew 1
  have HGz : Hid (w.grownBy wz (some c)) := by rw [hwz]; exact HGy.out.trans (grown_drewN _ 1 _)
  have HBz : Hid (wz.cell? ⟨w.heap.size, 0, none⟩ = some (.pointer (some ⟨c, 0, none⟩))) := by rw [hwz]; exact HBy.out
  rw [← hwz]
  clear hwz c2 f1 c1 hbx
  have c0 := HCz.out.text
  have c2 := HCz.out.pos
  have hbz := HBz.out
  have hsz := HGz.out.size
  go_wp2_with fail
  go_quiet (fail)
  clear c0
  go_wp2_with (go_at_call 25; refine (isLetter_any _ _).mono ?_; rintro e w' ⟨he, rfl⟩; rw [HL.out] at he; subst he)
  go_ret
  exact ⟨rfl, HBz.out, HCz.out.drew _, HGz.out.trans (grown_drewN _ _ _)⟩

set_option maxHeartbeats 2000000 in
theorem reader_line (w : World) (c : Nat) (s : ByteArray) (st p m : Nat) (hc : Cur w c s st p m) (_ : s.size ≤ 20000) (hp : p < s.size) (hl : letB (byteAt s p) = false) (hd : digB (byteAt s p) = false) (h95 : byteAt s p ≠ 95) (h39 : byteAt s p ≠ 39) (h34 : byteAt s p = 34) (h3 : Lib.hasPrefix (s.extract p s.size).data.toList quote3.data.toList = false) :
    Calls Tryz.prog 11 #[.pointer (some ⟨c, 0, none⟩)] w fun e w' => e = .returned (.func (.func 36) #[] #[.pointer (some ⟨w.heap.size, 0, none⟩)]) ∧ w'.cell? ⟨w.heap.size, 0, none⟩ = some (.pointer (some ⟨c, 0, none⟩)) ∧ Cur w' c s p p m ∧ w.grownBy w' (some c) := by
  have hlt := hc.lt
  obtain ⟨wx, wy, hwx, hbx, hcx, hwy, hby, hcy, hgy⟩ := reader_start w c s st p m hc
  have hmf : ∀ (fn : Fn) (first cap : Array Value) (w : World), (Instr.makeFunc fn first cap).run Tryz.prog w = .ok (.func fn first cap) w := fun _ _ _ _ => rfl
  have HB : Hid (byteAt s p = (s[p]'hp).toNat) := by show _ = _; simp [byteAt, hp]
  have HL : Hid (letB ((s[p]'hp).toNat : Int) = false) := by show _ = _; rw [← HB.out]; exact hl
  have HD : Hid (digB ((s[p]'hp).toNat : Int) = false) := by show _ = _; rw [← HB.out]; exact hd
  have n95 : (((s[p]'hp).toNat : Int) == 95) = false := by rw [← HB.out]; simpa using h95
  have n39 : (((s[p]'hp).toNat : Int) == 39) = false := by rw [← HB.out]; simpa using h39
  have n34 : (((s[p]'hp).toNat : Int) == 34) = true := by rw [← HB.out]; rw [h34]; rfl
  have H3 := Lib.hid h3
  clear hl hd h95 h39 h34 h3
  have HCy := Lib.hid hcy
  have HGy := Lib.hid hgy
  have HWx := Lib.hid hwx
  have HWy := Lib.hid hwy
  have HBy := Lib.hid hby
  have i1 : (p : Int) < s.size := by omega
  have i0 : (0 : Int) ≤ p := by omega
  have c2 := hcx.pos
  have f1 := hcx.free 1
  have c1 := hcx.start
  clear hc hwx hwy hcx hcy hgy hby
  go_enter Tryz.func11, Tryz.ntmps11
  go_upto_region 1 with (fail)
  rw [← HWx.out]
  go_region
  rw [← HWy.out]
  obtain ⟨wz, hwz⟩ : ∃ wz, wz = wy.drew := ⟨_, rfl⟩
  have HCz : Hid (Cur wz c s p p m) := by rw [hwz]; exact HCy.out.drew 1
  have HGz : Hid (w.grownBy wz (some c)) := by rw [hwz]; exact HGy.out.trans (grown_drewN _ 1 _)
  have HBz : Hid (wz.cell? ⟨w.heap.size, 0, none⟩ = some (.pointer (some ⟨c, 0, none⟩))) := by rw [hwz]; exact HBy.out
  rw [← hwz]
  clear hwz c2 f1 c1 hbx
  have c0 := HCz.out.text
  have c2 := HCz.out.pos
  have hbz := HBz.out
  have hsz := HGz.out.size
  go_wp2_with fail
  go_quiet (fail)
  clear c0
  go_wp2_with (first | (go_at_call 25; refine (isLetter_any _ _).mono ?_; rintro e w' ⟨he, rfl⟩; rw [HL.out] at he; subst he) | (go_at_call 28; refine (isDigit_any _ _).mono ?_; rintro e w' ⟨he, rfl⟩; rw [HD.out] at he; subst he) | (go_at_call 20; refine (has_any s quote3 c p _ (by omega) (HCz.out.drew _).text (HCz.out.drew _).pos).mono ?_; rintro e w' ⟨he, n3, rfl⟩; rw [H3.out] at he; subst he))
  go_ret
  exact ⟨rfl, HBz.out, HCz.out.drew _, HGz.out.trans (grown_drewN _ _ _)⟩

set_option maxHeartbeats 2000000 in
theorem reader_symbol (w : World) (c : Nat) (s : ByteArray) (st p m : Nat) (hc : Cur w c s st p m) (_ : s.size ≤ 20000) (hp : p < s.size) (hl : letB (byteAt s p) = false) (hd : digB (byteAt s p) = false) (h95 : byteAt s p ≠ 95) (h39 : byteAt s p ≠ 39) (h34 : byteAt s p ≠ 34) (h3 : Lib.hasPrefix (s.extract p s.size).data.toList quote3.data.toList = false) :
    Calls Tryz.prog 11 #[.pointer (some ⟨c, 0, none⟩)] w fun e w' => e = .returned (.func (.func 38) #[] #[.pointer (some ⟨w.heap.size, 0, none⟩)]) ∧ w'.cell? ⟨w.heap.size, 0, none⟩ = some (.pointer (some ⟨c, 0, none⟩)) ∧ Cur w' c s p p m ∧ w.grownBy w' (some c) := by
  have hlt := hc.lt
  obtain ⟨wx, wy, hwx, hbx, hcx, hwy, hby, hcy, hgy⟩ := reader_start w c s st p m hc
  have hmf : ∀ (fn : Fn) (first cap : Array Value) (w : World), (Instr.makeFunc fn first cap).run Tryz.prog w = .ok (.func fn first cap) w := fun _ _ _ _ => rfl
  have HB : Hid (byteAt s p = (s[p]'hp).toNat) := by show _ = _; simp [byteAt, hp]
  have HL : Hid (letB ((s[p]'hp).toNat : Int) = false) := by show _ = _; rw [← HB.out]; exact hl
  have HD : Hid (digB ((s[p]'hp).toNat : Int) = false) := by show _ = _; rw [← HB.out]; exact hd
  have n95 : (((s[p]'hp).toNat : Int) == 95) = false := by rw [← HB.out]; simpa using h95
  have n39 : (((s[p]'hp).toNat : Int) == 39) = false := by rw [← HB.out]; simpa using h39
  have n34 : (((s[p]'hp).toNat : Int) == 34) = false := by rw [← HB.out]; simpa using h34
  have H3 := Lib.hid h3
  clear hl hd h95 h39 h34 h3
  have HCy := Lib.hid hcy
  have HGy := Lib.hid hgy
  have HWx := Lib.hid hwx
  have HWy := Lib.hid hwy
  have HBy := Lib.hid hby
  have i1 : (p : Int) < s.size := by omega
  have i0 : (0 : Int) ≤ p := by omega
  have c2 := hcx.pos
  have f1 := hcx.free 1
  have c1 := hcx.start
  clear hc hwx hwy hcx hcy hgy hby
  go_enter Tryz.func11, Tryz.ntmps11
  go_upto_region 1 with (fail)
  rw [← HWx.out]
  go_region
  rw [← HWy.out]
  obtain ⟨wz, hwz⟩ : ∃ wz, wz = wy.drew := ⟨_, rfl⟩
  have HCz : Hid (Cur wz c s p p m) := by rw [hwz]; exact HCy.out.drew 1
  have HGz : Hid (w.grownBy wz (some c)) := by rw [hwz]; exact HGy.out.trans (grown_drewN _ 1 _)
  have HBz : Hid (wz.cell? ⟨w.heap.size, 0, none⟩ = some (.pointer (some ⟨c, 0, none⟩))) := by rw [hwz]; exact HBy.out
  rw [← hwz]
  clear hwz c2 f1 c1 hbx
  have c0 := HCz.out.text
  have c2 := HCz.out.pos
  have hbz := HBz.out
  have hsz := HGz.out.size
  go_wp2_with fail
  go_quiet (fail)
  clear c0
  go_wp2_with (first | (go_at_call 25; refine (isLetter_any _ _).mono ?_; rintro e w' ⟨he, rfl⟩; rw [HL.out] at he; subst he) | (go_at_call 28; refine (isDigit_any _ _).mono ?_; rintro e w' ⟨he, rfl⟩; rw [HD.out] at he; subst he) | (go_at_call 20; refine (has_any s quote3 c p _ (by omega) (HCz.out.drew _).text (HCz.out.drew _).pos).mono ?_; rintro e w' ⟨he, n3, rfl⟩; rw [H3.out] at he; subst he))
  go_ret
  exact ⟨rfl, HBz.out, HCz.out.drew _, HGz.out.trans (grown_drewN _ _ _)⟩

set_option maxHeartbeats 2000000 in
theorem reader_number (w : World) (c : Nat) (s : ByteArray) (st p m : Nat) (hc : Cur w c s st p m) (_ : s.size ≤ 20000) (hp : p < s.size) (hl : letB (byteAt s p) = false) (hd : digB (byteAt s p) = true) (h95 : byteAt s p ≠ 95) :
    Calls Tryz.prog 11 #[.pointer (some ⟨c, 0, none⟩)] w fun e w' => ∃ bf bc : Nat, e = .returned (.func (.func 56) #[] #[.pointer (some ⟨bf, 0, none⟩), .pointer (some ⟨bc, 0, none⟩)]) ∧ w'.cell? ⟨bf, 0, none⟩ = some (.func (.func 30) #[] #[.pointer (some ⟨w.heap.size, 0, none⟩)]) ∧ w'.cell? ⟨bc, 0, none⟩ = some (.pointer (some ⟨c, 0, none⟩)) ∧ w.heap.size ≤ bc ∧ w'.cell? ⟨w.heap.size, 0, none⟩ = some (.pointer (some ⟨c, 0, none⟩)) ∧ Cur w' c s p p m ∧ w.grownBy w' (some c) := by
  have hlt := hc.lt
  obtain ⟨wx, wy, hwx, hbx, hcx, hwy, hby, hcy, hgy⟩ := reader_start w c s st p m hc
  have hmf : ∀ (fn : Fn) (first cap : Array Value) (w : World), (Instr.makeFunc fn first cap).run Tryz.prog w = .ok (.func fn first cap) w := fun _ _ _ _ => rfl
  have HB : Hid (byteAt s p = (s[p]'hp).toNat) := by show _ = _; simp [byteAt, hp]
  have HL : Hid (letB ((s[p]'hp).toNat : Int) = false) := by show _ = _; rw [← HB.out]; exact hl
  have HD : Hid (digB ((s[p]'hp).toNat : Int) = true) := by show _ = _; rw [← HB.out]; exact hd
  have n95 : (((s[p]'hp).toNat : Int) == 95) = false := by rw [← HB.out]; simpa using h95
  clear hl hd h95
  have HCy := Lib.hid hcy
  have HGy := Lib.hid hgy
  have HWx := Lib.hid hwx
  have HWy := Lib.hid hwy
  have HBy := Lib.hid hby
  have i1 : (p : Int) < s.size := by omega
  have i0 : (0 : Int) ≤ p := by omega
  have c2 := hcx.pos
  have f1 := hcx.free 1
  have c1 := hcx.start
  clear hc hwx hwy hcx hcy hgy hby
  go_enter Tryz.func11, Tryz.ntmps11
  go_upto_region 1 with (fail)
  rw [← HWx.out]
  go_region
  rw [← HWy.out]
  obtain ⟨wz, hwz⟩ : ∃ wz, wz = wy.drew := ⟨_, rfl⟩
  have HCz : Hid (Cur wz c s p p m) := by rw [hwz]; exact HCy.out.drew 1
  have HGz : Hid (w.grownBy wz (some c)) := by rw [hwz]; exact HGy.out.trans (grown_drewN _ 1 _)
  have HBz : Hid (wz.cell? ⟨w.heap.size, 0, none⟩ = some (.pointer (some ⟨c, 0, none⟩))) := by rw [hwz]; exact HBy.out
  rw [← hwz]
  clear hwz c2 f1 c1 hbx
  have c0 := HCz.out.text
  have c2 := HCz.out.pos
  have hbz := HBz.out
  have hsz := HGz.out.size
  go_wp2_with fail
  go_quiet (fail)
  clear c0
  go_wp2_with (first | (go_at_call 25; refine (isLetter_any _ _).mono ?_; rintro e w' ⟨he, rfl⟩; rw [HL.out] at he; subst he) | (go_at_call 28; refine (isDigit_any _ _).mono ?_; rintro e w' ⟨he, rfl⟩; rw [HD.out] at he; subst he) | (go_at_call 29; refine (closed_any _ c _ _).mono ?_; rintro e w2 ⟨rfl, q1, q2, q3, q4⟩))
  go_ret
  exact ⟨_, _, rfl, q1, q2, hsz, cell_grown HBz.out ((grown_drewN wz _ none).trans q4) (by simp), (HCz.out.drew _).kept q4 (by simp), (HGz.out.trans (grown_drewN _ _ _)).trans (grown_row q4 c)⟩

end Tk
end Go.Proofs.YtmphkifhnjfkmaaGreatDoor

namespace Go.Proofs.YtmphkifhnjfkmaaGreatDoor
open Go.ChangeShapes Go.WideShapes Go.ChangeAt Go.RowKit
namespace Tk

def strSize : Value → Nat
  | .string s => s.size
  | _ => 0

def AscS (s : ByteArray) : Prop := ∀ b ∈ s.data.toList, b.toNat < 128

theorem AscS.tail {s : ByteArray} (h : AscS s) : AscS (s.extract 1 s.size) := fun b hb => by
  rw [Lib.ext_list] at hb
  exact h b (List.mem_of_mem_drop hb)

theorem AscS.first {s : ByteArray} (h : AscS s) (h0 : 0 < s.size) : (s[0]'h0).toNat < 128 := by
  refine h _ ?_
  obtain ⟨d⟩ := s
  exact Array.mem_toList_iff.2 (Array.getElem_mem (xs := d) (i := 0) h0)

set_option maxHeartbeats 1000000 in
set_option maxRecDepth 3000 in
theorem valid_short (s : ByteArray) (w : World) (hs : s.size ≤ 8) (ha : AscS s) :
    Calls Tryz.prog 51 #[.string s] w fun e w' => e = .returned (.bool true) ∧ w' = w := by
  have HA := Lib.hid ha
  clear ha
  go_enter Tryz.func51, Tryz.ntmps51
  go_wp2_with fail
  go_loopw [0] (fun v wr => ∃ t : ByteArray, v = .string t ∧ t.size ≤ 8 ∧ AscS t ∧ wr = w) (fun v _ => strSize v)
  case atStart => exact ⟨s, rfl, hs, HA.out, rfl⟩
  case round =>
    obtain ⟨t, rfl, ht, hat, rfl⟩ := hrel
    have HT := Lib.hid hat
    clear hat
    by_cases h0 : 0 < t.size
    · have i0 : (0 : Int) < t.size := by omega
      have i1 : (1 : Int) ≤ t.size := by omega
      have hlt : ((t[0]'h0).toNat : Int) < 128 := by have := HT.out.first h0; omega
      have hsz : (t.extract 1 t.size).size = t.size - 1 := Lib.ext_size t 1
      have hs8 : ¬ (8 : Int) < ((t.extract 1 t.size).size : Int) := by omega
      have HN := Lib.hid HT.out.tail
      go_wp2_with fail
      refine ⟨⟨_, rfl, by omega, HN.out, trivial⟩, ?_⟩
      show (t.extract 1 t.size).size < t.size
      omega
    · have i0 : ¬ (0 : Int) < t.size := by omega
      have i1 : (t.size : Int) ≤ 0 := by omega
      go_wp2_with fail
      go_ret
      exact ⟨rfl, rfl⟩

end Tk
end Go.Proofs.YtmphkifhnjfkmaaGreatDoor

namespace Go.Proofs.YtmphkifhnjfkmaaGreatDoor
open Go.ChangeShapes Go.WideShapes Go.ChangeAt Go.RowKit Go.WideMaps Go.Maps
namespace Tk

set_option maxHeartbeats 1000000 in
theorem comment_short (w : World) (c : Nat) (s : ByteArray) (st a b m : Nat) (hc : Cur w c s st a m) (hab : a ≤ b) (hb : b ≤ s.size) (h8 : b - a ≤ 8) (hA : AscS (s.extract a b)) :
    Calls Tryz.prog 21 #[.pointer (some ⟨c, 0, none⟩), .int .i64 b] w fun e w' => e = .returned (.tuple #[]) ∧ Cur w' c s a b m ∧ w.grownBy w' (some c) := by
  have HC := Lib.hid hc
  have HA := Lib.hid hA
  have h8' : (s.extract a b).size ≤ 8 := by rw [ByteArray.size_extract]; omega
  clear hc hA
  have c1 := HC.out.start
  have c2 := HC.out.pos
  have f1 := HC.out.free 1
  go_enter Tryz.func21, Tryz.ntmps21
  go_upto_region 1 with (fail)
  obtain ⟨wx, hwx⟩ : ∃ wx, wx = w.setCell ⟨c, 1, none⟩ (.int .i64 a) := ⟨_, rfl⟩
  have HCx : Hid (Cur wx c s a a m) := by rw [hwx]; exact HC.out.begin a
  have HGx : Hid (w.grownBy wx (some c)) := by rw [hwx]; exact grown_set _ ⟨c, 1, none⟩ _
  rw [← hwx]
  clear hwx c1 c2 f1 HC
  have c0 := HCx.out.text
  have c2 := HCx.out.pos
  have f2 := HCx.out.free 2
  have i0 : (0 : Int) ≤ b := by omega
  have i1 : (a : Int) ≤ b := by omega
  have i2 : (b : Int) ≤ s.size := by omega
  have i3 : (0 : Int) ≤ a := by omega
  have i4 : ¬ (b : Int) < 0 := by omega
  go_quiet ((go_at_call 51; exact Calls.quiet_of_same (valid_short _ _ h8' HA.out)))
  go_wp2_with fail
  refine bodyPost_end (v := .tuple #[]) (by simp [results, Tryz.results21]) rfl ?_
  exact ⟨rfl, (HCx.out.drew nq).move b _ rfl, (HGx.out.trans (grown_drewN _ _ _)).trans (grown_set _ ⟨c, 2, none⟩ _)⟩

end Tk
end Go.Proofs.YtmphkifhnjfkmaaGreatDoor

namespace Go.Proofs.YtmphkifhnjfkmaaGreatDoor
open Go.ChangeShapes Go.WideShapes Go.ChangeAt Go.RowKit Go.WideMaps Go.Maps
namespace Tk

def blankI (b : Int) : Int := Lib.indexByte [32, 9, 13, 10] b.toNat.toUInt8
def slash2 : ByteArray := ⟨#[47, 47]⟩
def slashS : ByteArray := ⟨#[47, 42]⟩
def hasP (s : ByteArray) (a : Nat) (x : ByteArray) : Bool := Lib.hasPrefix (s.extract a s.size).data.toList x.data.toList

/-- From a on blanks and short line comments lead to b. -/
inductive Skip (s : ByteArray) : Nat → Nat → Prop
  | done : Skip s s.size s.size
  | stop (a : Nat) (h : a < s.size) (h1 : blankI (byteAt s a) < 0) (h2 : hasP s a slash2 = false) (h3 : hasP s a slashS = false) : Skip s a a
  | blank (a b : Nat) (h : a < s.size) (h1 : 0 ≤ blankI (byteAt s a)) (hn : Skip s (a + 1) b) : Skip s a b
  | line (a b e : Nat) (h : a < s.size) (h1 : blankI (byteAt s a) < 0) (h2 : hasP s a slash2 = true) (he : lineEndZ s a = e) (h4 : a < e) (h5 : e ≤ s.size) (h8 : e - a ≤ 8) (hA : AscS (s.extract a e)) (hn : Skip s e b) : Skip s a b

theorem Skip.le {s : ByteArray} {a b : Nat} (h : Skip s a b) : a ≤ b := by
  induction h with
  | done => exact Nat.le_refl _
  | stop => exact Nat.le_refl _
  | blank => omega
  | line => omega

def feedB (s : ByteArray) (a b : Nat) : Bool := decide (b = s.size) || decide (0 ≤ Lib.indexByte (s.extract a b).data.toList 10)

set_option maxHeartbeats 2000000 in
theorem skip_any (w : World) (c : Nat) (s : ByteArray) (st a b m : Nat) (hc : Cur w c s st a m) (hs : s.size ≤ 20000) (ha : a ≤ s.size) (hk : Skip s a b) :
    Calls Tryz.prog 10 #[.pointer (some ⟨c, 0, none⟩)] w fun e w' => e = .returned (.bool (feedB s a b)) ∧ (∃ st', Cur w' c s st' b m) ∧ w.grownBy w' (some c) := by
  have HC := Lib.hid hc
  have HK := Lib.hid hk
  have hab := hk.le
  have c2 := hc.pos
  clear hc hk
  go_enter Tryz.func10, Tryz.ntmps10
  go_wp2_with fail
  clear c2
  go_loopw [] (fun wr => ∃ p st', p ≤ s.size ∧ Cur wr c s st' p m ∧ Skip s p b ∧ w.grownBy wr (some c)) (fun wr => s.size - posOf wr c)
  case atStart => exact ⟨a, st, ha, HC.out, HK.out, World.grownBy.refl _ _⟩
  case round =>
    obtain ⟨p, st', hp, hcp, hsk, hg⟩ := hrel
    have HCP := Lib.hid hcp
    have HG := Lib.hid hg
    clear hcp hg HC HK
    have c0 := HCP.out.text
    have c2 := HCP.out.pos
    have f2 := HCP.out.free 2
    have p0 : (0 : Int) ≤ p := by omega
    cases hsk with
    | done =>
      have HE : Hid (feedB s a s.size = true) := by show _ = _; unfold feedB; simp
      go_wp2_with fail
      go_quiet (fail)
      go_wp2_with fail
      go_ret
      exact ⟨ret_bool HE.out.symm, ⟨st', HCP.out.drew _⟩, HG.out.trans (grown_drewN _ _ _)⟩
    | stop _ h h1 h2 h3 =>
      have HHp : Hid (Lib.hasPrefix (s.extract b s.size).data.toList slash2.data.toList = false) := h2
      have HHq : Hid (Lib.hasPrefix (s.extract b s.size).data.toList slashS.data.toList = false) := h3
      clear h2 h3
      have i1 : (b : Int) < s.size := by omega
      have HB : Hid (byteAt s b = (s[b]'h).toNat) := by show _ = _; simp [byteAt, h]
      obtain ⟨z, hz⟩ : ∃ z, z = blankI (byteAt s b) := ⟨_, rfl⟩
      have hz' : Lib.indexByte (⟨#[32, 9, 13, 10]⟩ : ByteArray).data.toList (((s[b]'h).toNat : Int)).toNat.toUInt8 = z := by rw [hz, HB.out]; rfl
      have z0 : ¬ 0 ≤ z := by rw [hz]; omega
      have z1 : z < 0 := by omega
      have hIB : ∀ w : World, Calls Tryz.prog 19 #[.string ⟨#[32, 9, 13, 10]⟩, .int .u8 ((s[b]'h).toNat : Int)] w fun e w' => e = .returned (.int .i64 z) ∧ w' = w := fun w => hz' ▸ Tryz.strings_IndexByte ⟨#[32, 9, 13, 10]⟩ _ w
      have HIB := Lib.hid hIB
      clear hz hz' h1 hIB
      go_wp2_with fail
      go_quiet (fail)
      go_upto_region 4 with (fail)
      obtain ⟨wo, hwo⟩ : ∃ wo, wo = wr.drewN nq := ⟨_, rfl⟩
      have HCo : Hid (Cur wo c s st' b m) := by rw [hwo]; exact HCP.out.drew nq
      have HGo : Hid (w.grownBy wo (some c)) := by rw [hwo]; exact HG.out.trans (grown_drewN _ _ _)
      rw [← hwo]
      clear hwo c0 c2 f2
      have c0 := HCo.out.text
      have c2 := HCo.out.pos
      have f2 := HCo.out.free 2
      go_quiet ((go_at_call 19; exact Calls.quiet_of_same (HIB.out _)))
      go_upto_region 8 with (go_at_call 20; refine (has_any s slash2 c b _ hp (HCo.out.drew _).text (HCo.out.drew _).pos).mono ?_; rintro e1 w' ⟨he1, n2, rfl⟩; rw [HHp.out] at he1; subst he1)
      go_wp2_with (go_at_call 20; refine (has_any s slashS c b _ hp (HCo.out.drew _).text (HCo.out.drew _).pos).mono ?_; rintro e1 w' ⟨he1, n3, rfl⟩; rw [HHq.out] at he1; subst he1)
      go_upto_region 3 with (fail)
      obtain ⟨nn, hnn⟩ : ∃ nn, nn = nq + n2 + n3 := ⟨_, rfl⟩
      rw [← hnn]
      obtain ⟨wy, hwy⟩ : ∃ wy, wy = wo.drewN nn := ⟨_, rfl⟩
      have HCy : Hid (Cur wy c s st' b m) := by rw [hwy]; exact HCo.out.drew nn
      have HGy : Hid (w.grownBy wy (some c)) := by rw [hwy]; exact HGo.out.trans (grown_drewN _ _ _)
      rw [← hwy]
      clear hwy c0 c2 f2
      have c0 := HCy.out.text
      have c2 := HCy.out.pos
      have j1 : (a : Int) ≤ b := by omega
      have j2 : (b : Int) ≤ s.size := by omega
      have j3 : (0 : Int) ≤ a := by omega
      go_quiet ((go_at_call 24; exact Calls.quiet_of_same (Tryz.strings_Contains_one _ 10 _)))
      go_wp2_with fail
      go_ret
      refine ⟨ret_bool ?_, ⟨st', HCy.out.drew _⟩, HGy.out.trans (grown_drewN _ _ _)⟩
      unfold feedB
      rw [decide_eq_false (show ¬ b = s.size by omega), Bool.false_or]
    | blank _ _ h h1 hn =>
      have HN := Lib.hid hn
      clear hn
      have i1 : (p : Int) < s.size := by omega
      have HB : Hid (byteAt s p = (s[p]'h).toNat) := by show _ = _; simp [byteAt, h]
      obtain ⟨z, hz⟩ : ∃ z, z = blankI (byteAt s p) := ⟨_, rfl⟩
      have hz' : Lib.indexByte (⟨#[32, 9, 13, 10]⟩ : ByteArray).data.toList (((s[p]'h).toNat : Int)).toNat.toUInt8 = z := by rw [hz, HB.out]; rfl
      have z0 : 0 ≤ z := by rw [hz]; exact h1
      have hIB : ∀ w : World, Calls Tryz.prog 19 #[.string ⟨#[32, 9, 13, 10]⟩, .int .u8 ((s[p]'h).toNat : Int)] w fun e w' => e = .returned (.int .i64 z) ∧ w' = w := fun w => hz' ▸ Tryz.strings_IndexByte ⟨#[32, 9, 13, 10]⟩ _ w
      have HIB := Lib.hid hIB
      clear hz hz' h1 hIB
      have hw : IntKind.i64.wrap ((p : Int) + 1) = (p : Int) + 1 := IntWalk.i64_in _ (by omega)
      go_wp2_with fail
      go_quiet (fail)
      go_upto_region 4 with (fail)
      obtain ⟨wo, hwo⟩ : ∃ wo, wo = wr.drewN nq := ⟨_, rfl⟩
      have HCo : Hid (Cur wo c s st' p m) := by rw [hwo]; exact HCP.out.drew nq
      have HGo : Hid (w.grownBy wo (some c)) := by rw [hwo]; exact HG.out.trans (grown_drewN _ _ _)
      rw [← hwo]
      clear hwo c0 c2 f2
      have c0 := HCo.out.text
      have c2 := HCo.out.pos
      have f2 := HCo.out.free 2
      go_quiet ((go_at_call 19; exact Calls.quiet_of_same (HIB.out _)))
      go_wp2_with fail
      have hC1 : Cur ((wo.drewN nq).setCell ⟨c, 2, none⟩ (.int .i64 ((p : Int) + 1))) c s st' (p + 1) m := (HCo.out.drew nq).move (p + 1) _ (by omega)
      refine ⟨⟨p + 1, st', by omega, hC1, HN.out, (HGo.out.trans (grown_drewN _ _ _)).trans (grown_set _ ⟨c, 2, none⟩ _)⟩, ?_⟩
      rw [hC1.posOf, HCP.out.posOf]
      omega
    | line _ _ e h h1 h2 he h4 h5 h8 hA hn =>
      have HN := Lib.hid hn
      have HHp : Hid (Lib.hasPrefix (s.extract p s.size).data.toList slash2.data.toList = true) := h2
      have HL := Lib.hid he
      have HAs := Lib.hid hA
      clear hn h2 he hA
      have i1 : (p : Int) < s.size := by omega
      have HB : Hid (byteAt s p = (s[p]'h).toNat) := by show _ = _; simp [byteAt, h]
      obtain ⟨z, hz⟩ : ∃ z, z = blankI (byteAt s p) := ⟨_, rfl⟩
      have hz' : Lib.indexByte (⟨#[32, 9, 13, 10]⟩ : ByteArray).data.toList (((s[p]'h).toNat : Int)).toNat.toUInt8 = z := by rw [hz, HB.out]; rfl
      have z0 : ¬ 0 ≤ z := by rw [hz]; omega
      have z1 : z < 0 := by omega
      have hIB : ∀ w : World, Calls Tryz.prog 19 #[.string ⟨#[32, 9, 13, 10]⟩, .int .u8 ((s[p]'h).toNat : Int)] w fun e w' => e = .returned (.int .i64 z) ∧ w' = w := fun w => hz' ▸ Tryz.strings_IndexByte ⟨#[32, 9, 13, 10]⟩ _ w
      have HIB := Lib.hid hIB
      clear hz hz' h1 hIB
      go_wp2_with fail
      go_quiet (fail)
      go_upto_region 4 with (fail)
      obtain ⟨wo, hwo⟩ : ∃ wo, wo = wr.drewN nq := ⟨_, rfl⟩
      have HCo : Hid (Cur wo c s st' p m) := by rw [hwo]; exact HCP.out.drew nq
      have HGo : Hid (w.grownBy wo (some c)) := by rw [hwo]; exact HG.out.trans (grown_drewN _ _ _)
      rw [← hwo]
      clear hwo c0 c2 f2
      have c0 := HCo.out.text
      have c2 := HCo.out.pos
      have f2 := HCo.out.free 2
      go_quiet ((go_at_call 19; exact Calls.quiet_of_same (HIB.out _)))
      go_wp2_with (first | (go_at_call 20; refine (has_any s slash2 c p _ hp (HCo.out.drew _).text (HCo.out.drew _).pos).mono ?_; rintro e1 w' ⟨he1, n2, rfl⟩; rw [HHp.out] at he1; subst he1) | (go_at_call 22; refine (lineEnd_any _ c s st' p m (HCo.out.drew _) hs hp).mono ?_; rintro e1 w' ⟨he1, n3, rfl⟩; rw [HL.out] at he1; subst he1) | (go_at_call 21; refine (comment_short _ c s st' p e m (HCo.out.drew _) (by omega) h5 h8 HAs.out).mono ?_; rintro e1 w' ⟨rfl, hcw, hgw⟩))
      refine ⟨⟨e, p, h5, hcw, HN.out, (HGo.out.trans (grown_drewN _ _ _)).trans hgw⟩, ?_⟩
      rw [hcw.posOf, HCP.out.posOf]
      omega

end Tk
end Go.Proofs.YtmphkifhnjfkmaaGreatDoor

namespace Go.Proofs.YtmphkifhnjfkmaaGreatDoor
open Go.ChangeShapes Go.WideShapes Go.ChangeAt Go.RowKit Go.WideMaps Go.Maps
namespace Tk

theorem caught_idle (a b c : Addr) (w : World) :
    CallsD Tryz.prog 8 #[.pointer (some a), .pointer (some b), .pointer (some c)] .returning w fun e u' w' => e = .returned (.tuple #[]) ∧ u' = .returning ∧ w' = w := by
  refine callsD_of_wpS Tryz.func8 rfl fun c₀ cs hu => ?_
  apply wpS_seq
  apply wpS_region
  simp [wpOpsS, go_sem, recoverD, hu, Tryz.ntmps8, Exit.thenS]
  apply wpS_seq
  apply wpS_seq
  apply wpS_region
  simp [wpOpsS, go_sem, Exit.thenS]
  refine wpS_cond (t := true) (by simp [Act.eval, Array.replicate]) ?_
  simp only [if_true]
  refine wpS_of_wp (wp_ret ?_)
  cases c₀
  simp_all [Exit.thenS, bodyPostS, results, Tryz.results8]

/-- The library's variable that tells how long a text strings.Index looks for bytewise: some number. -/
abbrev MaxL (w : World) : Prop := ∃ mm, w.cell? ⟨5, 0, none⟩ = some (.int .i64 mm)

theorem maxL_grown {w w' : World} {row : Option Nat} (h : MaxL w) (hg : w.grownBy w' row) (h1 : some 5 ≠ row) : MaxL w' := by
  obtain ⟨mm, hm⟩ := h
  exact ⟨mm, cell_grown hm hg h1⟩

theorem maxL_below {w w' : World} (h : MaxL w) (hb : Below w.heap.size w w') : MaxL w' := by
  obtain ⟨mm, hm⟩ := h
  exact ⟨mm, (World.cell?_of_block (hb.block _ (lt_cell hm))).trans hm⟩

theorem maxL_lt {w : World} (h : MaxL w) : 5 < w.heap.size := by
  obtain ⟨mm, hm⟩ := h
  exact lt_cell hm

/-- The tables and the set of keywords that reading wants. -/
structure Env (w : World) (c m : Nat) : Prop where
  syms : Syms w
  pow : Pow10 w
  kw : w.ownsMap Tryz.prog 9 (plainElem (H := Unit) Tryz.prog 4) m 51 (kwSet Unit 51)
  mc : m < c
  m0 : 1 < m
  m8 : 8 < m
  u8 : Utf8T w
  m1 : 3 < m
  m2 : 4 < m
  ml : MaxL w
  m5 : 5 < m

theorem Env.kept {w w' : World} {c m : Nat} {row : Option Nat} (h : Env w c m) (hg : w.grownBy w' row) (hr : ∀ r, row = some r → r ≠ 1 ∧ r ≠ 8 ∧ r ≠ 3 ∧ r ≠ 4 ∧ r ≠ m ∧ r ≠ 5) : Env w' c m where
  syms := by
    obtain ⟨t, fr, hb⟩ := h.syms.block
    exact ⟨t, fr, (hg.block _ (Array.getElem?_eq_some_iff.1 hb).1 (fun e => (hr _ e.symm).1 rfl)).trans hb⟩
  pow := tabIs_grown pow10_at h.pow hg (fun e => (hr _ e.symm).2.1 rfl)
  kw := h.kw.kept hg (fun e => (hr _ e.symm).2.2.2.2.1 rfl)
  u8 := utf8_grown h.u8 hg (fun e => (hr _ e.symm).2.2.1 rfl) (fun e => (hr _ e.symm).2.2.2.1 rfl)
  m1 := h.m1
  m2 := h.m2
  ml := maxL_grown h.ml hg (fun e => (hr _ e.symm).2.2.2.2.2 rfl)
  m5 := h.m5
  mc := h.mc
  m0 := h.m0
  m8 := h.m8

theorem Env.up {w w' : World} {c m : Nat} {row : Option Nat} (h : Env w c m) (hg : w.grownBy w' row) (hr : ∀ r, row = some r → m < r) : Env w' c m :=
  h.kept hg fun r e => by
    have h1 := hr r e
    have h2 := h.m0
    have h3 := h.m8
    have h4 := h.m1
    have h5 := h.m2
    have h6 := h.m5
    exact ⟨by omega, by omega, by omega, by omega, by omega, by omega⟩

/-- A token at place p, which ends at q. -/
def ReadAt (s : ByteArray) (p : Nat) (k : Int) (tx : ByteArray) (q : Nat) : Prop :=
  ∀ (w : World) (c st m : Nat), Cur w c s st p m → Env w c m → Calls Tryz.prog 11 #[.pointer (some ⟨c, 0, none⟩)] w fun e w' =>
    ∃ (g : Nat) (lb : Array Value), e = .returned (.func (.func g) #[] lb) ∧ (∀ args w, (callFunc g args).run Tryz.prog w = .ok (.enter g args) w) ∧ w.grownBy w' (some c) ∧
      Calls Tryz.prog g lb w' fun e w2 => e = .returned (tokV k tx) ∧ Cur w2 c s p q m ∧ w'.grownBy w2 (some c)

structure Tok where
  kind : Int
  text : ByteArray
  pos : Nat
  line : Bool

def Tok.cells (t : Tok) : List Value := [.int .i64 t.kind, .string t.text, .int .i64 t.pos, .bool t.line]
def cellsOf (l : List Tok) : List Value := l.flatMap Tok.cells

/-- The tokens from place p on. -/
inductive Toks (s : ByteArray) : Nat → Bool → List Tok → Prop
  | last (p : Nat) (f : Bool) (h : Skip s p s.size) : Toks s p f []
  | tok (p : Nat) (f : Bool) (b : Nat) (k : Int) (tx : ByteArray) (q : Nat) (ts : List Tok) (h : Skip s p b) (hb : b < s.size) (hr : ReadAt s b k tx q) (h1 : b < q) (h2 : q ≤ s.size) (hn : Toks s q false ts) : Toks s p f (⟨k, tx, b, feedB s p b || f⟩ :: ts)

/-- What stands ahead of each round. -/
structure ScanI (w : World) (B c m : Nat) (s : ByteArray) (p : Nat) (done : List Tok) (wr : World) : Prop where
  cur : ∃ st, Cur wr c s st p m
  env : Env wr c m
  list : ∃ v, Boxed wr B 22 v ∧ wr.ownsRow (c + 1) 31 4 v done.length (cellsOf done)
  place : Boxed wr (B + 1) 3 (.int .i64 0)
  code : Boxed wr (B + 1 + 1) 23 (.int .i64 0)
  below : Below B w wr
  bm : B + 1 + 1 < m
  b0 : 1 < B
  b8 : 8 < B
  b1 : 3 < B
  b2 : 4 < B
  b5 : 5 < B

theorem ScanI.kept {w U V : World} {B c m p q : Nat} {s : ByteArray} {done : List Tok} (h : ScanI w B c m s p done U) (hg : U.grownBy V (some c)) (hcur : ∃ st, Cur V c s st q m) : ScanI w B c m s q done V := by
  have h1 := h.env.mc
  have h2 := h.bm
  obtain ⟨v, hv, hrow⟩ := h.list
  refine ⟨hcur, h.env.up hg (fun r e => by cases e; exact h1), ⟨v, hv.kept hg (by intro e; have := Option.some.inj e; omega), hrow.kept hg ?_⟩, h.place.kept hg (by intro e; have := Option.some.inj e; omega), h.code.kept hg (by intro e; have := Option.some.inj e; omega), h.below.grown hg (by have := (Array.getElem?_eq_some_iff.1 hv).1; omega) (fun k e => by cases e; omega), h.bm, h.b0, h.b8, h.b1, h.b2, h.b5⟩
  cases ho : v.ownBlock with
  | none => exact .inl rfl
  | some k =>
    right
    have := (hrow.lt k ho).1
    intro e
    have := Option.some.inj e
    omega

theorem ScanI.alloc {w U : World} {B c m p : Nat} {s : ByteArray} {done : List Tok} (h : ScanI w B c m s p done U) (o : Obj) : ScanI w B c m s p done (U.alloc o) := by
  obtain ⟨st, hc⟩ := h.cur
  exact h.kept (World.grownBy_alloc U o _) ⟨st, hc.kept (World.grownBy_alloc U o none) (by simp)⟩

theorem cellsOf_snoc (l : List Tok) (t : Tok) : cellsOf (l ++ [t]) = cellsOf l ++ t.cells := by simp [cellsOf]

theorem ScanI.put {w U V : World} {B c m p : Nat} {s : ByteArray} {done : List Tok} {v v' : Value} {t : Tok} (h : ScanI w B c m s p done U) (hv : Boxed U B 22 v) (hrow : U.ownsRow (c + 1) 31 4 v done.length (cellsOf done))
    (hg : U.grownBy V v.ownBlock) (hrow' : V.ownsRow (c + 1) 31 4 v' (done.length + 1) (cellsOf done ++ t.cells)) : ScanI w B c m s p (done ++ [t]) (V.setCell ⟨B, 0, none⟩ v') := by
  have h1 := h.env.mc
  have h2 := h.bm
  have h3 := h.b0
  have h4 := h.b8
  have h5 := h.b1
  have h6 := h.b2
  have h7 := h.b5
  obtain ⟨st, hc⟩ := h.cur
  have hk : ∀ r, v.ownBlock = some r → c + 1 ≤ r := fun r e => (hrow.lt r e).1
  have gs : V.grownBy (V.setCell ⟨B, 0, none⟩ v') (some B) := grown_set V ⟨B, 0, none⟩ v'
  have hvV : Boxed V B 22 v := hv.kept hg (by intro e; have := hk _ e.symm; omega)
  have hbV : Below B w V := h.below.grown hg (by have := (Array.getElem?_eq_some_iff.1 hv).1; omega) (fun k e => by have := hk _ e; omega)
  refine ⟨⟨st, (hc.kept hg (by intro e; have := hk _ e.symm; omega)).kept gs (by intro e; have := Option.some.inj e; omega)⟩, (h.env.up hg (fun r e => by have := hk _ e; omega)).kept gs (fun r e => by cases e; exact ⟨by omega, by omega, by omega, by omega, by omega, by omega⟩), ⟨v', hvV.set v', ?_⟩,
    (h.place.kept hg (by intro e; have := hk _ e.symm; omega)).other (by omega) _, (h.code.kept hg (by intro e; have := hk _ e.symm; omega)).other (by omega) _, hbV.setCell (p := ⟨B, 0, none⟩) (Nat.le_refl _) _, h.bm, h.b0, h.b8, h.b1, h.b2, h.b5⟩
  rw [cellsOf_snoc, List.length_append]
  refine hrow'.kept gs ?_
  cases ho : v'.ownBlock with
  | none => exact .inl rfl
  | some k =>
    right
    have := (hrow'.lt k ho).1
    intro e
    have := Option.some.inj e
    omega

theorem ScanI.shape {w U : World} {B c m p : Nat} {s : ByteArray} {done : List Tok} (h : ScanI w B c m s p done U) :
    ∃ ao cap, Boxed U B 22 (.slice ao done.length cap) ∧ U.ownsRow (c + 1) 31 4 (.slice ao done.length cap) done.length (cellsOf done) := by
  obtain ⟨v, hv, hrow⟩ := h.list
  have hrow2 := hrow
  rcases hrow.2 with ⟨h1, h2⟩ | ⟨g, cap, cur, h1, _⟩
  · rw [h1] at hv hrow2
    exact ⟨none, 0, by rw [h2]; exact hv, by rw [h2] at hrow2 ⊢; exact hrow2⟩
  · rw [h1] at hv hrow2
    exact ⟨_, cap, hv, hrow2⟩

def zeroTok : Value := .agg #[.int .i64 0, .string ⟨#[]⟩, .int .i64 0, .bool false]
theorem infoTok : (Tryz.prog.info? 31).map (fun i => (i.zero, i.size, i.bytes)) = some (some zeroTok, 4, 40) := by kernel_rfl

theorem boxed_below {W W' : World} {B b : Nat} {t : TypeId} {v : Value} (h : Boxed W b t v) (hb : Below B W W') (hlt : b < B) : Boxed W' b t v := (hb.block b hlt).trans h

/-- The world in which the loop begins. -/
theorem scan_start (w : World) (s : ByteArray) (hspace : Lib.TabIs Tryz.prog w "strings.asciiSpace" .u8 Lib.asciiSpaceTab) (hsy : Syms w) (hpo : Pow10 w) (hu : Utf8T w) (hml : MaxL w) :
    ∃ w3, w3 = ((w.alloc (.cells #[.slice none 0 0] 22)).alloc (.cells #[.int .i64 0] 3)).alloc (.cells #[.int .i64 0] 23) ∧ w3.heap.size = w.heap.size + 1 + 1 + 1 ∧
      Lib.TabIs Tryz.prog w3 "strings.asciiSpace" .u8 Lib.asciiSpaceTab ∧
      ∀ w4 m, m = w3.heap.size → Below w3.heap.size w3 w4 → w4.ownsMap Tryz.prog 9 (plainElem (H := Unit) Tryz.prog 4) m 51 (kwSet Unit 51) →
        ScanI w w.heap.size w4.heap.size m s 0 [] (w4.alloc (.cells #[.string s, .int .i64 0, .int .i64 0, .map (some m)] 40)) := by
  have hb3 : Below w.heap.size w (((w.alloc (.cells #[.slice none 0 0] 22)).alloc (.cells #[.int .i64 0] 3)).alloc (.cells #[.int .i64 0] 23)) :=
    (((Below.refl _ _).alloc (Nat.le_refl _) _).alloc (by simp) _).alloc (by simp; omega) _
  refine ⟨_, rfl, by simp, tabIs_below hspace hb3, ?_⟩
  intro w4 m hmm hb hm
  have hmB : w.heap.size + 1 + 1 < m := by rw [hmm]; simp
  have q0 : Boxed (((w.alloc (.cells #[.slice none 0 0] 22)).alloc (.cells #[.int .i64 0] 3)).alloc (.cells #[.int .i64 0] 23)) w.heap.size 22 (.slice none 0 0) := ((Boxed.new w _ _).alloc _).alloc _
  have q1 := ((Boxed.new (w.alloc (.cells #[.slice none 0 0] 22)) 3 (.int .i64 0)).alloc (.cells #[.int .i64 0] 23))
  have q2 := Boxed.new ((w.alloc (.cells #[.slice none 0 0] 22)).alloc (.cells #[.int .i64 0] 3)) 23 (.int .i64 0)
  rw [World.size_alloc] at q1
  rw [World.size_alloc, World.size_alloc] at q2
  have hz : w.heap.size + 1 + 1 + 1 ≤ w4.heap.size := by have := hb.size; simpa using this
  have hbw : Below w.heap.size w w4 := hb3.trans (hb.mono (by simp; omega))
  have hc : (w4.alloc (.cells #[.string s, .int .i64 0, .int .i64 0, .map (some m)] 40)).heap[w4.heap.size]? = some (.cells #[.string s, .int .i64 0, .int .i64 0, .map (some m)] 40) := World.alloc_heap_new w4 _
  have g4 := World.grownBy_alloc w4 (.cells #[.string s, .int .i64 0, .int .i64 0, .map (some m)] 40) none
  have hlm : m < w4.heap.size := by
    obtain ⟨es, clock, hb, _⟩ := hm
    exact (Array.getElem?_eq_some_iff.1 hb).1
  obtain ⟨t0, f0, hs0⟩ := hsy.block
  have hl0 : 1 < w.heap.size := (Array.getElem?_eq_some_iff.1 hs0).1
  have hlu := utf8_lt hu
  have hlm5 := maxL_lt hml
  have hl8 : 8 < w.heap.size := by
    have h := hpo
    unfold Pow10 Lib.TabIs World.var? at h
    rw [pow10_at] at h
    simp only [Option.bind_some] at h
    rcases Nat.lt_or_ge 8 w.heap.size with h1 | h1
    · exact h1
    · rw [Array.getElem?_eq_none h1] at h
      cases h
  refine ⟨⟨0, by rw [Lib.cell_of_heap hc]; rfl, by rw [Lib.cell_of_heap hc]; rfl, by rw [Lib.cell_of_heap hc]; rfl, by rw [Lib.cell_of_heap hc]; rfl, fun j => Lib.frozen_of_heap hc j⟩,
    ⟨?_, ?_, hm.alloc _, hlm, by omega, by omega, ?_, by omega, by omega, ?_, by omega⟩, ⟨.slice none 0 0, (boxed_below q0 hb (by simp; omega)).alloc _, World.ownsRow_nil _ _ _ _⟩, (boxed_below q1 hb (by simp)).alloc _, (boxed_below q2 hb (by simp)).alloc _, hbw.alloc (by omega) _, hmB, hl0, hl8, (utf8_lt hu).1, (utf8_lt hu).2, maxL_lt hml⟩
  · exact ⟨t0, f0, ((hbw.alloc (by omega) _).block _ hl0).trans hs0⟩
  · exact tabIs_below hpo (hbw.alloc (by omega) _)
  · exact utf8_below hu (hbw.alloc (by omega) _)
  · exact maxL_below hml (hbw.alloc (by omega) _)

end Tk
end Go.Proofs.YtmphkifhnjfkmaaGreatDoor

namespace Go.Proofs.YtmphkifhnjfkmaaGreatDoor
open Go.ChangeShapes Go.WideShapes Go.ChangeAt Go.RowKit Go.WideMaps Go.Maps
namespace Tk

theorem new_cells (W : World) (o1 : Obj) (vs : List Value) (t : TypeId) : ∀ j u, vs[j]? = some u → ((W.alloc o1).alloc (.cells vs.toArray t)).cell? ((⟨W.heap.size + 1, 0, none⟩ : Addr).add j) = some u := by
  intro j u h
  have hb := World.alloc_heap_new (W.alloc o1) (.cells vs.toArray t)
  rw [World.size_alloc] at hb
  rw [show ((⟨W.heap.size + 1, 0, none⟩ : Addr).add j) = ⟨W.heap.size + 1, j, none⟩ by simp [Addr.add]; exact fun h => h.symm, Lib.cell_of_heap hb]
  simpa using h

theorem ownsRow_base {w : World} {base base' : Nat} {e : TypeId} {size n : Nat} {v : Value} {xs : List Value} (h : w.ownsRow base e size v n xs) (hb : base' ≤ base) : w.ownsRow base' e size v n xs := by
  refine ⟨h.1, ?_⟩
  rcases h.2 with h1 | ⟨g, cap, cur, h1, h2, h3⟩
  · exact .inl h1
  · exact .inr ⟨g, cap, cur, h1, Nat.le_trans hb h2, h3⟩

theorem row_kept {w w' : World} {base : Nat} {e : TypeId} {size n : Nat} {v : Value} {xs : List Value} {r : Nat} (h : w.ownsRow base e size v n xs) (hg : w.grownBy w' (some r)) (hr : r < base) : w'.ownsRow base e size v n xs := by
  refine h.kept hg ?_
  cases ho : v.ownBlock with
  | none => exact .inl rfl
  | some k =>
    right
    have := (h.lt k ho).1
    intro e
    have := Option.some.inj e
    omega

theorem feedB_end (s : ByteArray) (p : Nat) : feedB s p s.size = true := by unfold feedB; simp

set_option maxHeartbeats 4000000 in
set_option maxRecDepth 100000 in
theorem scan_any (w : World) (s : ByteArray) (ts : List Tok) (hs : s.size ≤ 20000) (hT : Toks s 0 true ts) (hspace : Lib.TabIs Tryz.prog w "strings.asciiSpace" .u8 Lib.asciiSpaceTab) (hsy : Syms w) (hpo : Pow10 w) (hu : Utf8T w) (hml : MaxL w) :
    Calls Tryz.prog 4 #[.string s] w fun e w' => ∃ v, e = .returned (.tuple #[v, .int .i64 0, .int .i64 0]) ∧ w'.ownsRow w.heap.size 31 4 v ts.length (cellsOf ts) ∧ Below w.heap.size w w' := by
  have hmf : ∀ (fn : Fn) (first cap : Array Value) (w : World), (Instr.makeFunc fn first cap).run Tryz.prog w = .ok (.func fn first cap) w := fun _ _ _ _ => rfl
  have hsi : (s.size : Int) ≤ 20000 := by omega
  obtain ⟨w3, hw3, hs3, hsp3, hstart⟩ := scan_start w s hspace hsy hpo hu hml
  have HW3 := Lib.hid hw3
  have HS3 := Lib.hid hs3
  have HT := Lib.hid hT
  have HSt := Lib.hid hstart
  clear hw3 hspace hsy hpo hu hml hT hs3 hstart
  go_enter_defers Tryz.func4, Tryz.ntmps4
  go_wp2_with (go_at_call 9; rw [← HW3.out]; refine (keywordSet_any w3 hsp3).mono ?_; rintro e w4 ⟨rfl, hown4, hb4⟩)
  have HS0 := Lib.hid (HSt.out w4 _ rfl hb4 hown4)
  have hz4 := hb4.size
  clear hown4 hb4 hsp3
  obtain ⟨c, hc⟩ : ∃ c, c = w4.heap.size := ⟨_, rfl⟩
  obtain ⟨m, hm⟩ : ∃ m, m = w3.heap.size := ⟨_, rfl⟩
  obtain ⟨w5, hw5⟩ : ∃ w5, w5 = w4.alloc (.cells #[.string s, .int .i64 0, .int .i64 0, .map (some w3.heap.size)] 40) := ⟨_, rfl⟩
  rw [← hw5, ← hc, ← hm] at HS0
  rw [← hw5, ← hc]
  clear hw5 hc hm
  go_loopw [] (fun wr => ∃ (p : Nat) (done ts' : List Tok), p ≤ s.size ∧ done.length ≤ p ∧ ScanI w w.heap.size c m s p done wr ∧ Toks s p done.isEmpty ts' ∧ done ++ ts' = ts) (fun wr => s.size - posOf wr c)
  case atStart => exact ⟨0, [], ts, Nat.zero_le _, Nat.le_refl _, HS0.out, HT.out, rfl⟩
  case round =>
    obtain ⟨p, done, ts', hp, hdp, hI, htk, hts⟩ := hrel
    clear HS0 HT
    obtain ⟨st, hcur⟩ := hI.cur
    obtain ⟨ao, cap, hv, hrow⟩ := hI.shape
    have HI := Lib.hid hI
    have HC := Lib.hid hcur
    have HTS := Lib.hid hts
    have hmc := hI.env.mc
    have hbm := hI.bm
    clear hI hcur hts
    cases htk with
    | last _ _ h =>
      have HV := Lib.hid hv
      have HRow := Lib.hid hrow
      have HK := Lib.hid h
      clear hv hrow h
      go_wp2_with fail
      refine (skip_any _ c s st p s.size m HC.out hs hp HK.out).mono ?_
      rintro e w1 ⟨he, ⟨st1, hc1⟩, hg1⟩
      rw [feedB_end] at he
      subst he
      have HI1 := Lib.hid (HI.out.kept hg1 ⟨st1, hc1⟩)
      have HV1 : Hid (Boxed w1 w.heap.size 22 (.slice ao done.length cap)) := HV.out.kept hg1 (by intro e; have := Option.some.inj e; omega)
      have HR1 : Hid (w1.ownsRow (c + 1) 31 4 (.slice ao done.length cap) done.length (cellsOf done)) := row_kept HRow.out hg1 (by omega)
      have c2 := hc1.pos
      have x0 := HV1.out.cell
      have f0 := HV1.out.frozen
      have x1 := HI1.out.place.cell
      have f1 := HI1.out.place.frozen
      have x2 := HI1.out.code.cell
      have f2 := HI1.out.code.frozen
      clear hc1 hg1
      go_wp2_with fail
      obtain ⟨wa, hwa⟩ : ∃ wa, wa = w1.setCell ⟨w.heap.size, 0, none⟩ (.slice ao done.length cap) := ⟨_, rfl⟩
      obtain ⟨wb, hwb⟩ : ∃ wb, wb = wa.setCell ⟨w.heap.size + 1, 0, none⟩ (.int .i64 0) := ⟨_, rfl⟩
      obtain ⟨wf, hwf⟩ : ∃ wf, wf = wb.setCell ⟨w.heap.size + 1 + 1, 0, none⟩ (.int .i64 0) := ⟨_, rfl⟩
      rw [← hwa, ← hwb, ← hwf]
      have g1 : w1.grownBy wa (some w.heap.size) := by rw [hwa]; exact grown_set w1 ⟨w.heap.size, 0, none⟩ _
      have g2 : wa.grownBy wb (some (w.heap.size + 1)) := by rw [hwb]; exact grown_set wa ⟨w.heap.size + 1, 0, none⟩ _
      have g3 : wb.grownBy wf (some (w.heap.size + 1 + 1)) := by rw [hwf]; exact grown_set wb ⟨w.heap.size + 1 + 1, 0, none⟩ _
      have q0 : Boxed wa w.heap.size 22 (.slice ao done.length cap) := by rw [hwa]; exact HV1.out.set _
      have q1 : Boxed wb (w.heap.size + 1) 3 (.int .i64 0) := by rw [hwb]; exact (HI1.out.place.kept g1 (by simp)).set _
      have q2 : Boxed wf (w.heap.size + 1 + 1) 23 (.int .i64 0) := by rw [hwf]; exact ((HI1.out.code.kept g1 (by simp; omega)).kept g2 (by simp)).set _
      have y0 := ((q0.kept g2 (by simp)).kept g3 (by simp; omega)).cell
      have y1 := (q1.kept g3 (by simp)).cell
      have y2 := q2.cell
      have hbl : Below w.heap.size w wf := by
        rw [hwf, hwb, hwa]
        exact ((HI1.out.below.setCell (p := ⟨w.heap.size, 0, none⟩) (Nat.le_refl _) _).setCell (p := ⟨w.heap.size + 1, 0, none⟩) (by simp) _).setCell (p := ⟨w.heap.size + 1 + 1, 0, none⟩) (by simp; omega) _
      have hrf := ownsRow_base (row_kept (row_kept (row_kept HR1.out g1 (by omega)) g2 (by omega)) g3 (by omega)) (show w.heap.size ≤ c + 1 by omega)
      have hdone : done = ts := by have := HTS.out; rwa [List.append_nil] at this
      refine leaves_cons (f := 8) (args := #[.pointer (some ⟨w.heap.size, 0, none⟩), .pointer (some ⟨w.heap.size + 1, 0, none⟩), .pointer (some ⟨w.heap.size + 1 + 1, 0, none⟩)]) (by simp) (by simp [go_sem]) ?_
      refine (caught_idle ⟨w.heap.size, 0, none⟩ ⟨w.heap.size + 1, 0, none⟩ ⟨w.heap.size + 1 + 1, 0, none⟩ _).mono ?_
      rintro e u' w'' ⟨rfl, rfl, rfl⟩
      refine ⟨.tuple #[.slice ao done.length cap, .int .i64 0, .int .i64 0], by simp [results, Tryz.results4, go_sem, y0, y1, y2], _, rfl, ?_, hbl⟩
      rw [← hdone]
      exact hrf
    | tok _ _ b k tx q ts'' h hb hr h1 h2 hn =>
      have HV := Lib.hid hv
      have HRow := Lib.hid hrow
      have HK := Lib.hid h
      have hpb := h.le
      have HR := Lib.hid hr
      have HN := Lib.hid hn
      clear hv hrow h hr hn
      have hfl : ((done.length : Int) == 0) = done.isEmpty := by cases done <;> simp; omega
      obtain ⟨fb, hfb⟩ : ∃ fb, fb = feedB s p b := ⟨_, rfl⟩
      have HFB := Lib.hid hfb
      have i1 : ((b : Int) == s.size) = false := by simp; omega
      go_wp2_with fail
      refine (skip_any _ c s st p b m HC.out hs hp HK.out).mono ?_
      rintro e w1 ⟨he, ⟨st1, hc1⟩, hg1⟩
      rw [← hfb] at he
      subst he
      clear hfb
      have HI1 := Lib.hid (HI.out.kept hg1 ⟨st1, hc1⟩)
      have HV1 : Hid (Boxed w1 w.heap.size 22 (.slice ao done.length cap)) := HV.out.kept hg1 (by intro e; have := Option.some.inj e; omega)
      have HR1 : Hid (w1.ownsRow (c + 1) 31 4 (.slice ao done.length cap) done.length (cellsOf done)) := row_kept HRow.out hg1 (by omega)
      have HC1 := Lib.hid hc1
      have c2 := hc1.pos
      have x0 := HV1.out.cell
      clear hc1 hg1
      obtain ⟨ln, hln⟩ : ∃ ln : Bool, ln = (fb || done.isEmpty) := ⟨_, rfl⟩
      have HLN := Lib.hid hln
      obtain ⟨i0, hi, hz0, hz1, hz2⟩ := info_parts infoTok
      cases fb
      case true =>
        simp only [Bool.true_or] at hln
        subst hln
        go_wp2_with (go_at_call 11; refine (HR.out _ c st1 m HC1.out HI1.out.env).mono ?_; rintro e w2 ⟨g, lb, rfl, eg, hg2, hcl⟩)
        refine hcl.mono ?_
        rintro e w3' ⟨rfl, hC3, hg3⟩
        have hg23 := hg2.trans hg3
        have HI3 := Lib.hid (HI1.out.kept hg23 ⟨b, hC3⟩)
        have HV3 : Hid (Boxed w3' w.heap.size 22 (.slice ao done.length cap)) := HV1.out.kept hg23 (by intro e; have := Option.some.inj e; omega)
        have HR3 : Hid (w3'.ownsRow (c + 1) 31 4 (.slice ao done.length cap) done.length (cellsOf done)) := row_kept HR1.out hg23 (by omega)
        have HC3 := Lib.hid hC3
        have hlt3 := hC3.lt
        clear hcl eg hC3 hg2 hg3 hg23 c2 x0 hfl
        have x1 : ∀ o1, (w3'.alloc o1).cell? ⟨w.heap.size, 0, none⟩ = some (.slice ao done.length cap) := fun o1 => (HV3.out.alloc o1).cell
        have x2 : ∀ o1 o2, ((w3'.alloc o1).alloc o2).cell? ⟨w.heap.size, 0, none⟩ = some (.slice ao done.length cap) := fun o1 o2 => ((HV3.out.alloc o1).alloc o2).cell
        have ht : tokV k tx = .agg #[.int .i64 k, .string tx, .int .i64 0, .bool false] := rfl
        rw [ht]
        go_wp2_with (at_builtin; refine wpList_append_own _ rfl _ _ 22 rfl (c + 1) 31 i0 zeroTok 4 40 Tryz.underlying22 hi hz0 hz1 hz2 rfl (by decide) _ _ _ rfl ((HR3.out.alloc _).alloc _) ⟨w3'.heap.size + 1, 0, none⟩ 1 1 [.int .i64 k, .string tx, .int .i64 b, .bool true] rfl rfl (new_cells w3' _ _ _) (by intro u hu; simp at hu; rcases hu with rfl | rfl | rfl | rfl <;> rfl) (by unfold maxLen; omega) (by omega) (by simp; omega) ?_)
        intro v' w5 hown' hgrow _
        obtain ⟨g', cap', rfl⟩ := ownsRow_succ hown'
        have hU := (HI3.out.alloc (.cells #[.int .i64 k, .string tx, .int .i64 b, .bool true] 31)).alloc (.cells #[.int .i64 k, .string tx, .int .i64 b, .bool true] 31)
        have hP := hU.put (t := ⟨k, tx, b, true⟩) ((HV3.out.alloc _).alloc _) ((HR3.out.alloc _).alloc _) hgrow hown'
        have hv5 : Boxed w5 w.heap.size 22 (.slice ao done.length cap) := ((HV3.out.alloc _).alloc _).kept hgrow (by intro e; have := (HR3.out.lt _ e.symm).1; omega)
        have HP := Lib.hid hP
        have x5 := hv5.cell
        have f5 := hv5.frozen
        clear hown' hgrow hU hP hv5 x1 x2
        go_wp2_with fail
        obtain ⟨st5, hc5⟩ := HP.out.cur
        refine ⟨⟨q, done ++ [⟨k, tx, b, true⟩], ts'', h2, ?_, HP.out, ?_, ?_⟩, ?_⟩
        · rw [List.length_append]
          simp
          omega
        · rw [show (done ++ [(⟨k, tx, b, true⟩ : Tok)]).isEmpty = false by cases done <;> rfl]
          exact HN.out
        · rw [List.append_assoc]
          have := HTS.out
          rw [← HFB.out] at this
          exact this
        · rw [hc5.posOf, HC.out.posOf]
          omega
      case false =>
        simp only [Bool.false_or] at hln
        rw [← hln] at hfl
        clear hln
        go_wp2_with (go_at_call 11; refine (HR.out _ c st1 m HC1.out HI1.out.env).mono ?_; rintro e w2 ⟨g, lb, rfl, eg, hg2, hcl⟩)
        refine hcl.mono ?_
        rintro e w3' ⟨rfl, hC3, hg3⟩
        have hg23 := hg2.trans hg3
        have HI3 := Lib.hid (HI1.out.kept hg23 ⟨b, hC3⟩)
        have HV3 : Hid (Boxed w3' w.heap.size 22 (.slice ao done.length cap)) := HV1.out.kept hg23 (by intro e; have := Option.some.inj e; omega)
        have HR3 : Hid (w3'.ownsRow (c + 1) 31 4 (.slice ao done.length cap) done.length (cellsOf done)) := row_kept HR1.out hg23 (by omega)
        have HC3 := Lib.hid hC3
        have hlt3 := hC3.lt
        clear hcl eg hC3 hg2 hg3 hg23 c2 x0 hfl
        have x1 : ∀ o1, (w3'.alloc o1).cell? ⟨w.heap.size, 0, none⟩ = some (.slice ao done.length cap) := fun o1 => (HV3.out.alloc o1).cell
        have x2 : ∀ o1 o2, ((w3'.alloc o1).alloc o2).cell? ⟨w.heap.size, 0, none⟩ = some (.slice ao done.length cap) := fun o1 o2 => ((HV3.out.alloc o1).alloc o2).cell
        have ht : tokV k tx = .agg #[.int .i64 k, .string tx, .int .i64 0, .bool false] := rfl
        rw [ht]
        go_wp2_with (at_builtin; refine wpList_append_own _ rfl _ _ 22 rfl (c + 1) 31 i0 zeroTok 4 40 Tryz.underlying22 hi hz0 hz1 hz2 rfl (by decide) _ _ _ rfl ((HR3.out.alloc _).alloc _) ⟨w3'.heap.size + 1, 0, none⟩ 1 1 [.int .i64 k, .string tx, .int .i64 b, .bool ln] rfl rfl (new_cells w3' _ _ _) (by intro u hu; simp at hu; rcases hu with rfl | rfl | rfl | rfl <;> rfl) (by unfold maxLen; omega) (by omega) (by simp; omega) ?_)
        intro v' w5 hown' hgrow _
        obtain ⟨g', cap', rfl⟩ := ownsRow_succ hown'
        have hU := (HI3.out.alloc (.cells #[.int .i64 k, .string tx, .int .i64 b, .bool ln] 31)).alloc (.cells #[.int .i64 k, .string tx, .int .i64 b, .bool ln] 31)
        have hP := hU.put (t := ⟨k, tx, b, ln⟩) ((HV3.out.alloc _).alloc _) ((HR3.out.alloc _).alloc _) hgrow hown'
        have hv5 : Boxed w5 w.heap.size 22 (.slice ao done.length cap) := ((HV3.out.alloc _).alloc _).kept hgrow (by intro e; have := (HR3.out.lt _ e.symm).1; omega)
        have HP := Lib.hid hP
        have x5 := hv5.cell
        have f5 := hv5.frozen
        clear hown' hgrow hU hP hv5 x1 x2
        go_wp2_with fail
        obtain ⟨st5, hc5⟩ := HP.out.cur
        refine ⟨⟨q, done ++ [⟨k, tx, b, ln⟩], ts'', h2, ?_, HP.out, ?_, ?_⟩, ?_⟩
        · rw [List.length_append]
          simp
          omega
        · rw [show (done ++ [(⟨k, tx, b, ln⟩ : Tok)]).isEmpty = false by cases done <;> rfl]
          exact HN.out
        · rw [List.append_assoc]
          have := HTS.out
          rw [← HFB.out] at this
          rw [← HLN.out] at this
          exact this
        · rw [hc5.posOf, HC.out.posOf]
          omega

end Tk
end Go.Proofs.YtmphkifhnjfkmaaGreatDoor

namespace Go.Proofs.YtmphkifhnjfkmaaGreatDoor
open Go.ChangeShapes Go.WideShapes Go.ChangeAt Go.RowKit Go.WideMaps Go.Maps
namespace Tk

theorem read_word (s : ByteArray) (p q : Nat) (k : Int) (tx : ByteArray) (hs : s.size ≤ 20000) (hp : p < s.size) (hl : letB (byteAt s p) = true) (hq : wordEnd s p = q) (hx : s.extract p q = tx) (hk : wordKind tx.data.toList = k) : ReadAt s p k tx q := by
  intro w c st m hc he
  refine (reader_word w c s st p m hc hs hp hl).mono ?_
  rintro e w' ⟨rfl, hb, hC, hg⟩
  have he' := he.up hg (fun r e => by cases e; exact he.mc)
  refine ⟨_, _, rfl, enters_of Tryz.func26 (by kernel_rfl) rfl, hg, closure1 w' _ c s p p m q k tx hb hC ?_⟩
  intro w1 g1 c1
  refine (word_any w1 c s p p m c1 hs (by omega) (Nat.le_refl _) (he'.up g1 (fun r e => by cases e)).kw (by have := he.mc; omega)).mono ?_
  rintro e w2 ⟨rfl, h1, h2⟩
  rw [hq, hx, hk] at *
  exact ⟨rfl, h1, h2⟩

theorem read_symbol (s : ByteArray) (p : Nat) (tx : ByteArray) (hs : s.size ≤ 20000) (hp : p < s.size) (hl : letB (byteAt s p) = false) (hd : digB (byteAt s p) = false) (h95 : byteAt s p ≠ 95) (h39 : byteAt s p ≠ 39) (h34 : byteAt s p ≠ 34) (h3 : Lib.hasPrefix (s.extract p s.size).data.toList quote3.data.toList = false)
    (hx : bestN s p 43 = tx) (hn : 1 ≤ tx.size) : ReadAt s p 6 tx (p + tx.size) := by
  intro w c st m hc he
  refine (reader_symbol w c s st p m hc hs hp hl hd h95 h39 h34 h3).mono ?_
  rintro e w' ⟨rfl, hb, hC, hg⟩
  have he' := he.up hg (fun r e => by cases e; exact he.mc)
  refine ⟨_, _, rfl, enters_of Tryz.func38 (by kernel_rfl) rfl, hg, closure6 w' _ c s p p m (p + tx.size) 6 tx hb hC ?_⟩
  intro w1 g1 c1
  have hne : 1 ≤ (bestN s p 43).size := by rw [hx]; exact hn
  refine (symbol_any w1 c s p p m c1 hs (by omega) (he'.up g1 (fun r e => by cases e)).syms (by have := he.mc; have := he.m0; omega) hne).mono ?_
  rintro e w2 ⟨rfl, h1, h2⟩
  rw [hx] at *
  exact ⟨rfl, h1, h2⟩

theorem read_line (s : ByteArray) (p q : Nat) (rs : List Int) (tx : ByteArray) (hs : s.size ≤ 20000) (hp : p < s.size) (h34 : byteAt s p = 34) (h3 : Lib.hasPrefix (s.extract p s.size).data.toList quote3.data.toList = false) (hL : Lit s (p + 1) rs q) (hx : (⟨(textOf rs).toArray⟩ : ByteArray) = tx) : ReadAt s p 5 tx (q + 1) := by
  intro w c st m hc he
  refine (reader_line w c s st p m hc hs hp (by rw [h34]; decide) (by rw [h34]; decide) (by rw [h34]; decide) (by rw [h34]; decide) h34 h3).mono ?_
  rintro e w' ⟨rfl, hb, hC, hg⟩
  refine ⟨_, _, rfl, enters_of Tryz.func36 (by kernel_rfl) rfl, hg, closure5 w' _ c s p p m (q + 1) tx hb hC ?_⟩
  intro w1 g1 c1
  have he' := (he.up hg (fun r e => by cases e; exact he.mc)).up g1 (fun r e => by cases e)
  refine (line_any w1 c s p p m q rs c1 hs hp hL he'.u8 (by have := he.mc; have := he.m1; omega) (by have := he.mc; have := he.m2; omega)).mono ?_
  rintro e w2 ⟨rfl, h1, h2⟩
  rw [hx]
  exact ⟨rfl, h1, h2⟩

theorem read_number (s : ByteArray) (p q : Nat) (k : Int) (tx : ByteArray) (hs : s.size ≤ 20000) (hp : p < s.size) (hl : letB (byteAt s p) = false) (hd : digB (byteAt s p) = true) (h95 : byteAt s p ≠ 95) (hq : q ≤ s.size) (he : partB (byteAt s q) = false)
    (hcall : ∀ (w : World) (c m : Nat), Cur w c s p p m → Pow10 w → c ≠ 8 → Calls Tryz.prog 31 #[.pointer (some ⟨c, 0, none⟩)] w fun e w' => e = .returned (tokV k tx) ∧ Cur w' c s p q m ∧ w.grownBy w' (some c)) : ReadAt s p k tx q := by
  intro w c st m hc hen
  refine (reader_number w c s st p m hc hs hp hl hd h95).mono ?_
  rintro e w' ⟨bf, bc, rfl, q1, q2, q3, q4, hC, hg⟩
  have he' := hen.up hg (fun r e => by cases e; exact hen.mc)
  have hlt := hc.lt
  refine ⟨_, _, rfl, enters_of Tryz.func56 (by kernel_rfl) rfl, hg, closedNumber w' bf bc _ c s p p m q k tx hs hq q1 q2 q4 (by omega) hC he ?_⟩
  intro w1 g1 c1
  exact hcall w1 c m c1 (he'.up g1 (fun r e => by cases e)).pow (by have := hen.mc; have := hen.m8; omega)

theorem char_plain (s : ByteArray) (p : Nat) (x : UInt8) (hs : s.size ≤ 20000) (hp : p < s.size) (hb : Lib.hasPrefix (s.extract p s.size).data.toList back1.data.toList = false) (hx : (s.extract p s.size).data.toList[0]? = some x) (h1 : x.toNat < 128) (h2 : x.toNat ≠ 10) : CharAt s p x.toNat (p + 1) :=
  fun w c st m hc _ _ _ => char_ascii w c s st p m x hc hs hp hb hx h1 h2

theorem char_hex (s : ByteArray) (p : Nat) (r : Int) (hs : s.size ≤ 20000) (hb : Lib.hasPrefix (s.extract p s.size).data.toList back1.data.toList = true) (hx : byteAt s (p + 1) = 120) (h0 : digitV (byteAt s (p + 2)) 16 < 8) (h1 : digitV (byteAt s (p + 2 + 1)) 16 < 16) (hz : p + 4 ≤ s.size) (hr : hexV s (p + 2) 2 = r) : CharAt s p r (p + 4) := by
  intro w c st m hc _ _ _
  rw [← hr]
  exact char_x w c s st p m hc hs hb hx h0 h1 hz

/-! ### The two texts of the chapter -/
def text1 : ByteArray := ⟨#[108, 101, 116, 32, 120, 39, 32, 61, 32, 48, 120, 70, 70, 32, 47, 47, 32, 97]⟩
def text2 : ByteArray := ⟨#[49, 46, 101, 32, 97, 46, 62, 98, 32, 34, 97, 92, 120, 52, 49, 34]⟩
def toks1 : List Tok := [⟨2, ⟨#[108, 101, 116]⟩, 0, true⟩, ⟨1, ⟨#[120, 39]⟩, 4, false⟩, ⟨6, ⟨#[61]⟩, 7, false⟩, ⟨3, ⟨#[50, 53, 53]⟩, 9, false⟩]
def toks2 : List Tok := [⟨3, ⟨#[49]⟩, 0, true⟩, ⟨6, ⟨#[46]⟩, 1, false⟩, ⟨1, ⟨#[101]⟩, 2, false⟩, ⟨1, ⟨#[97]⟩, 4, false⟩, ⟨6, ⟨#[46, 62]⟩, 5, false⟩, ⟨1, ⟨#[98]⟩, 7, false⟩, ⟨5, ⟨#[97, 65]⟩, 9, false⟩]

theorem skip1_0 : Skip text1 0 0 := .stop 0 (by decide) (by decide +kernel) (by decide +kernel) (by decide +kernel)
theorem skip1_3 : Skip text1 3 4 := .blank 3 4 (by decide) (by decide +kernel) (.stop 4 (by decide) (by decide +kernel) (by decide +kernel) (by decide +kernel))
theorem skip1_6 : Skip text1 6 7 := .blank 6 7 (by decide) (by decide +kernel) (.stop 7 (by decide) (by decide +kernel) (by decide +kernel) (by decide +kernel))
theorem skip1_8 : Skip text1 8 9 := .blank 8 9 (by decide) (by decide +kernel) (.stop 9 (by decide) (by decide +kernel) (by decide +kernel) (by decide +kernel))
theorem skip1_13 : Skip text1 13 18 := .blank 13 18 (by decide) (by decide +kernel) (.line 14 18 18 (by decide) (by decide +kernel) (by decide +kernel) (by decide +kernel) (by decide) (by decide) (by decide) (show ∀ b ∈ (text1.extract 14 18).data.toList, b.toNat < 128 by decide +kernel) .done)

theorem read1_0 : ReadAt text1 0 2 ⟨#[108, 101, 116]⟩ 3 := read_word text1 0 3 2 _ (by decide) (by decide) (by decide +kernel) (by decide +kernel) (by kernel_rfl) (by decide +kernel)
theorem read1_4 : ReadAt text1 4 1 ⟨#[120, 39]⟩ 6 := read_word text1 4 6 1 _ (by decide) (by decide) (by decide +kernel) (by decide +kernel) (by kernel_rfl) (by decide +kernel)
theorem read1_7 : ReadAt text1 7 6 ⟨#[61]⟩ 8 := read_symbol text1 7 ⟨#[61]⟩ (by decide) (by decide) (by decide +kernel) (by decide +kernel) (by decide +kernel) (by decide +kernel) (by decide +kernel) (by decide +kernel) (by kernel_rfl) (by decide)
theorem run1 : Run text1 11 2 16 := ⟨by decide +kernel, by decide +kernel, by decide +kernel, by decide⟩
theorem read1_9 : ReadAt text1 9 3 ⟨#[50, 53, 53]⟩ 13 := by
  refine read_number text1 9 13 3 _ (by decide) (by decide) (by decide +kernel) (by decide +kernel) (by decide +kernel) (by decide) (by decide +kernel) ?_
  intro w c m hc hp h8
  have h := number_hex w c text1 9 9 m 2 hc (by decide) (by decide +kernel) run1 (by decide) (by decide +kernel) (by decide +kernel) hp h8
  have hv : (⟨(Lib.decDigits (numV text1 (9 + 2) 16 2)).toArray⟩ : ByteArray) = ⟨#[50, 53, 53]⟩ := by kernel_rfl
  rw [hv] at h
  exact h

theorem toks1_ok : Toks text1 0 true toks1 :=
  .tok 0 true 0 2 _ 3 _ skip1_0 (by decide) read1_0 (by decide) (by decide) (.tok 3 false 4 1 _ 6 _ skip1_3 (by decide) read1_4 (by decide) (by decide) (.tok 6 false 7 6 _ 8 _ skip1_6 (by decide) read1_7 (by decide) (by decide) (.tok 8 false 9 3 _ 13 _ skip1_8 (by decide) read1_9 (by decide) (by decide) (.last 13 false skip1_13))))

theorem skip2_stop (p : Nat) (h : p ∈ [0, 1, 2, 4, 5, 7, 9]) : Skip text2 p p := by
  have hall : ([0, 1, 2, 4, 5, 7, 9].all fun p => decide (p < text2.size) && decide (blankI (byteAt text2 p) < 0) && !(hasP text2 p slash2) && !(hasP text2 p slashS)) = true := by decide +kernel
  have := List.all_eq_true.1 hall p h
  simp only [Bool.and_eq_true, decide_eq_true_eq, Bool.not_eq_true'] at this
  exact .stop p this.1.1.1 this.1.1.2 this.1.2 this.2
theorem skip2_3 : Skip text2 3 4 := .blank 3 4 (by decide) (by decide +kernel) (skip2_stop 4 (by decide))
theorem skip2_8 : Skip text2 8 9 := .blank 8 9 (by decide) (by decide +kernel) (skip2_stop 9 (by decide))
theorem run2 : Run text2 0 1 10 := ⟨by decide +kernel, by decide +kernel, by decide +kernel, by decide⟩
theorem read2_0 : ReadAt text2 0 3 ⟨#[49]⟩ 1 := by
  refine read_number text2 0 1 3 _ (by decide) (by decide) (by decide +kernel) (by decide +kernel) (by decide +kernel) (by decide) (by decide +kernel) ?_
  intro w c m hc hp h8
  have h := number_dec w c text2 0 0 m 1 hc (by decide) (by decide +kernel) (by decide +kernel) run2 (by decide) (by decide +kernel) (by decide +kernel) (by decide +kernel) (by decide +kernel) hp h8
  have hv : (⟨(Lib.decDigits (numV text2 0 10 1)).toArray⟩ : ByteArray) = ⟨#[49]⟩ := by kernel_rfl
  rw [hv] at h
  exact h
theorem read2_1 : ReadAt text2 1 6 ⟨#[46]⟩ 2 := read_symbol text2 1 ⟨#[46]⟩ (by decide) (by decide) (by decide +kernel) (by decide +kernel) (by decide +kernel) (by decide +kernel) (by decide +kernel) (by decide +kernel) (by kernel_rfl) (by decide)
theorem read2_2 : ReadAt text2 2 1 ⟨#[101]⟩ 3 := read_word text2 2 3 1 _ (by decide) (by decide) (by decide +kernel) (by decide +kernel) (by kernel_rfl) (by decide +kernel)
theorem read2_4 : ReadAt text2 4 1 ⟨#[97]⟩ 5 := read_word text2 4 5 1 _ (by decide) (by decide) (by decide +kernel) (by decide +kernel) (by kernel_rfl) (by decide +kernel)
theorem read2_5 : ReadAt text2 5 6 ⟨#[46, 62]⟩ 7 := read_symbol text2 5 ⟨#[46, 62]⟩ (by decide) (by decide) (by decide +kernel) (by decide +kernel) (by decide +kernel) (by decide +kernel) (by decide +kernel) (by decide +kernel) (by kernel_rfl) (by decide)
theorem read2_7 : ReadAt text2 7 1 ⟨#[98]⟩ 8 := read_word text2 7 8 1 _ (by decide) (by decide) (by decide +kernel) (by decide +kernel) (by kernel_rfl) (by decide +kernel)
theorem lit2 : Lit text2 10 [97, 65] 15 :=
  .step 10 97 11 [65] 15 (by decide +kernel) (char_plain text2 10 97 (by decide) (by decide) (by decide +kernel) (by decide +kernel) (by decide) (by decide)) (by decide) (by decide) (by decide) (by decide)
    (.step 11 65 15 [] 15 (by decide +kernel) (char_hex text2 11 65 (by decide) (by decide +kernel) (by decide +kernel) (by decide +kernel) (by decide +kernel) (by decide) (by decide +kernel)) (by decide) (by decide) (by decide) (by decide) (.done 15 (by decide +kernel)))
theorem read2_9 : ReadAt text2 9 5 ⟨#[97, 65]⟩ 16 := read_line text2 9 15 [97, 65] _ (by decide) (by decide) (by decide +kernel) (by decide +kernel) lit2 (by kernel_rfl)

theorem toks2_ok : Toks text2 0 true toks2 :=
  .tok 0 true 0 3 _ 1 _ (skip2_stop 0 (by decide)) (by decide) read2_0 (by decide) (by decide) (.tok 1 false 1 6 _ 2 _ (skip2_stop 1 (by decide)) (by decide) read2_1 (by decide) (by decide) (.tok 2 false 2 1 _ 3 _ (skip2_stop 2 (by decide)) (by decide) read2_2 (by decide) (by decide)
    (.tok 3 false 4 1 _ 5 _ skip2_3 (by decide) read2_4 (by decide) (by decide) (.tok 5 false 5 6 _ 7 _ (skip2_stop 5 (by decide)) (by decide) read2_5 (by decide) (by decide) (.tok 7 false 7 1 _ 8 _ (skip2_stop 7 (by decide)) (by decide) read2_7 (by decide) (by decide)
      (.tok 8 false 9 5 _ 16 _ skip2_8 (by decide) read2_9 (by decide) (by decide) (.last 16 false .done)))))))

end Tk
end Go.Proofs.YtmphkifhnjfkmaaGreatDoor

namespace Go.Proofs.YtmphkifhnjfkmaaGreatDoor
open Go.ChangeShapes Go.WideShapes Go.ChangeAt Go.RowKit Go.WideMaps Go.Maps
namespace Tk

/-- The panic with a place and a code. -/
def faultC (st : Nat) (code : Int) : List PanicEntry := [{ v := .iface 34 (.agg #[.int .i64 st, .int .i64 code]), recovered := false }]

theorem fail_any (w : World) (c : Nat) (s : ByteArray) (st a m : Nat) (code : Int) (hc : Cur w c s st a m) :
    Calls Tryz.prog 52 #[.pointer (some ⟨c, 0, none⟩), .int .i64 code] w fun e w' => e = .panicked (faultC st code) ∧ w' = w := by
  have c1 := hc.start
  clear hc
  go_enter Tryz.func52, Tryz.ntmps52
  go_wp2_with fail
  exact ⟨rfl, rfl, rfl⟩

/-- Where a nested comment ends that is open d times at place i; -1 where it does not. -/
def ceF (s : ByteArray) : Nat → Nat → Int → Int
  | 0, _, _ => -1
  | n + 1, i, d =>
    if i + 1 < s.size then
      (if ((s.extract i (i + 2)).toList == [47, 42]) = true then (if d + 1 = 0 then (i : Int) + 2 else ceF s n (i + 2) (d + 1))
       else if ((s.extract i (i + 2)).toList == [42, 47]) = true then (if d - 1 = 0 then (i : Int) + 2 else ceF s n (i + 2) (d - 1))
       else (if d = 0 then (i : Int) + 1 else ceF s n (i + 1) d))
    else -1

def commentEndZ (s : ByteArray) (a : Nat) : Int := ceF s (s.size + 1) a 0

theorem ceF_range (s : ByteArray) : ∀ (n i : Nat) (d : Int), ceF s n i d = -1 ∨ ((i : Int) < ceF s n i d ∧ ceF s n i d ≤ s.size)
  | 0, _, _ => .inl rfl
  | n + 1, i, d => by
    have h2 : ∀ d, ceF s n (i + 2) d = -1 ∨ ((i : Int) < ceF s n (i + 2) d ∧ ceF s n (i + 2) d ≤ s.size) := fun d => by
      rcases ceF_range s n (i + 2) d with h | ⟨h, h'⟩
      · exact .inl h
      · exact .inr ⟨by omega, h'⟩
    have h1 : ∀ d, ceF s n (i + 1) d = -1 ∨ ((i : Int) < ceF s n (i + 1) d ∧ ceF s n (i + 1) d ≤ s.size) := fun d => by
      rcases ceF_range s n (i + 1) d with h | ⟨h, h'⟩
      · exact .inl h
      · exact .inr ⟨by omega, h'⟩
    unfold ceF
    split
    · split
      · split
        · exact .inr ⟨by omega, by omega⟩
        · exact h2 _
      · split
        · split
          · exact .inr ⟨by omega, by omega⟩
          · exact h2 _
        · split
          · exact .inr ⟨by omega, by omega⟩
          · exact h1 _
    · exact .inl rfl

set_option maxHeartbeats 4000000 in
theorem commentEnd_any (w : World) (c : Nat) (s : ByteArray) (st a m : Nat) (hc : Cur w c s st a m) (hs : s.size ≤ 20000) (ha : a ≤ s.size) :
    Calls Tryz.prog 23 #[.pointer (some ⟨c, 0, none⟩)] w fun e w' => e = .returned (.int .i64 (commentEndZ s a)) ∧ w = w' := by
  have c0 := hc.text
  have c2 := hc.pos
  obtain ⟨R, hR⟩ : ∃ R, R = commentEndZ s a := ⟨_, rfl⟩
  rw [← hR]
  have HR := Lib.hid hR
  clear hR hc
  go_enter Tryz.func23, Tryz.ntmps23
  go_wp2_with fail
  go_loopw [3, 4] (fun dv iv wr => ∃ (n k : Nat) (d : Int), k ≤ s.size + 1 ∧ s.size + 1 ≤ n + k ∧ dv = .int .i64 d ∧ iv = .int .i64 k ∧ -k ≤ d ∧ d ≤ k ∧ Hid (ceF s n k d = R) ∧ wr = w) (fun _ iv _ => s.size + 3 - (intOf iv).toNat)
  case atStart => exact ⟨s.size + 1, a, 0, by omega, by omega, rfl, rfl, by omega, by omega, HR.out.symm, rfl⟩
  case round =>
    obtain ⟨n, k, d, hk, hn, rfl, rfl, hd0, hd1, HF, rfl⟩ := hrel
    have e1 : IntKind.i64.wrap ((k : Int) + 1) = (k : Int) + 1 := IntWalk.i64_in _ (by omega)
    have e2 : IntKind.i64.wrap ((k : Int) + 2) = (k : Int) + 2 := IntWalk.i64_in _ (by omega)
    have e3 : IntKind.i64.wrap ((k : Int) + 1 + 1) = (k : Int) + 1 + 1 := IntWalk.i64_in _ (by omega)
    have e4 : IntKind.i64.wrap (d + 1) = d + 1 := IntWalk.i64_in _ (by omega)
    have e5 : IntKind.i64.wrap (d - 1) = d - 1 := IntWalk.i64_in _ (by omega)
    by_cases hlt : k + 1 < s.size
    · have l1 : (k : Int) + 1 < s.size := by omega
      have l2 : (0 : Int) ≤ k := by omega
      have l3 : (k : Int) ≤ (k : Int) + 2 := by omega
      have l4 : (k : Int) + 2 ≤ s.size := by omega
      obtain ⟨n, rfl⟩ : ∃ n', n = n' + 1 := ⟨n - 1, by omega⟩
      have hF := HF.out
      unfold ceF at hF
      rw [if_pos hlt] at hF
      clear HF
      cases b1 : ((s.extract k (k + 2)).toList == [47, 42])
      · rw [b1, if_neg (by decide)] at hF
        cases b2 : ((s.extract k (k + 2)).toList == [42, 47])
        · rw [b2, if_neg (by decide)] at hF
          by_cases hd : d = 0
          · rw [if_pos hd] at hF
            have HF := Lib.hid hF
            clear hF
            go_wp2_with fail
            go_ret
            exact ⟨ret_int HF.out, rfl⟩
          · rw [if_neg hd] at hF
            have HF := Lib.hid hF
            have hd' : (d == 0) = false := by simpa using hd
            clear hF
            go_wp2_with fail
            exact ⟨⟨n, k + 1, d, by omega, by omega, rfl, by go_num, by omega, by omega, HF, trivial⟩, by simp [intOf]; omega⟩
        · rw [b2, if_pos rfl] at hF
          by_cases hd : d - 1 = 0
          · rw [if_pos hd] at hF
            have HF := Lib.hid hF
            have hd' : (d - 1 == 0) = true := by simpa using hd
            clear hF hd
            go_wp2_with fail
            go_ret
            exact ⟨ret_int (by rw [← HF.out]; omega), rfl⟩
          · rw [if_neg hd] at hF
            have HF := Lib.hid hF
            have hd' : (d - 1 == 0) = false := by simpa using hd
            clear hF hd
            go_wp2_with fail
            exact ⟨⟨n, k + 2, d - 1, by omega, by omega, rfl, by go_num, by omega, by omega, HF, trivial⟩, by simp [intOf]; omega⟩
      · rw [b1, if_pos rfl] at hF
        by_cases hd : d + 1 = 0
        · rw [if_pos hd] at hF
          have HF := Lib.hid hF
          have hd' : (d + 1 == 0) = true := by simpa using hd
          clear hF hd
          go_wp2_with fail
          go_ret
          exact ⟨ret_int (by rw [← HF.out]; omega), rfl⟩
        · rw [if_neg hd] at hF
          have HF := Lib.hid hF
          have hd' : (d + 1 == 0) = false := by simpa using hd
          clear hF hd
          go_wp2_with fail
          exact ⟨⟨n, k + 2, d + 1, by omega, by omega, rfl, by go_num, by omega, by omega, HF, trivial⟩, by simp [intOf]; omega⟩
    · have l1 : ¬ (k : Int) + 1 < s.size := by omega
      have hF : R = -1 := by
        have := HF.out
        rw [← this]
        cases n with
        | zero => rfl
        | succ n =>
          unfold ceF
          rw [if_neg hlt]
      have HF2 := Lib.hid hF
      clear hF
      go_wp2_with fail
      go_ret
      exact ⟨ret_int HF2.out.symm, rfl⟩

end Tk
end Go.Proofs.YtmphkifhnjfkmaaGreatDoor
