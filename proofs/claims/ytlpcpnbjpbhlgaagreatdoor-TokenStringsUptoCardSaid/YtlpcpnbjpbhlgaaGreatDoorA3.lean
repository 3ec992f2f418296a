/- The contract of token.keywordSet: the map holds the keywords, each with true. -/
import Derived.Test.YtlpcpnbjpbhlgaaGreatDoorA2
import Derived.Test.YtlpcpnbjpbhlgaaGreatDoorSh
import Derived.Maps.Own
import Derived.Maps.OwnOps
import Derived.Maps.Views
namespace Go.Proofs.YtlpcpnbjpbhlgaaGreatDoor
open Go.ChangeShapes Go.WideShapes Go.ChangeAt Go.RowKit Go.WideMaps Go.Maps
namespace Tk

def kwText : List UInt8 := [32, 97, 99, 116, 111, 114, 32, 97, 110, 100, 32, 97, 115, 32, 98, 101, 32, 98, 111, 120, 32, 98, 114, 101, 97, 107, 32, 99, 108, 97, 115, 115, 32, 99, 111, 110, 115, 117, 109, 101, 32, 99, 111, 110, 116, 105, 110, 117, 101, 32, 100, 111, 32, 101, 108, 115, 101, 32, 101, 108, 115, 101, 105, 102, 32, 101, 110, 100, 32, 101, 114, 114, 111, 114, 32, 102, 97, 108, 115, 101, 32, 102, 111, 114, 32, 102, 117, 110, 32, 105, 102, 32, 105, 102, 100, 101, 102, 32, 105, 110, 32, 105, 110, 116, 101, 114, 102, 97, 99, 101, 32, 105, 115, 32, 105, 115, 110, 116, 32, 105, 115, 111, 32, 108, 101, 116, 32, 109, 97, 116, 99, 104, 32, 110, 101, 119, 32, 110, 111, 116, 32, 111, 98, 106, 101, 99, 116, 32, 111, 114, 32, 112, 114, 105, 109, 105, 116, 105, 118, 101, 32, 114, 101, 99, 111, 118, 101, 114, 32, 114, 101, 102, 32, 114, 101, 112, 101, 97, 116, 32, 114, 101, 116, 117, 114, 110, 32, 116, 97, 103, 32, 116, 104, 101, 110, 32, 116, 104, 105, 115, 32, 116, 114, 97, 105, 116, 32, 116, 114, 110, 32, 116, 114, 117, 101, 32, 116, 114, 121, 32, 116, 121, 112, 101, 32, 117, 110, 116, 105, 108, 32, 117, 115, 101, 32, 118, 97, 108, 32, 118, 97, 114, 32, 119, 104, 101, 114, 101, 32, 119, 104, 105, 108, 101, 32, 119, 105, 116, 104, 32, 120, 111, 114, 32]
def kwWords : List (List UInt8) := [[97, 99, 116, 111, 114], [97, 110, 100], [97, 115], [98, 101], [98, 111, 120], [98, 114, 101, 97, 107], [99, 108, 97, 115, 115], [99, 111, 110, 115, 117, 109, 101], [99, 111, 110, 116, 105, 110, 117, 101], [100, 111], [101, 108, 115, 101], [101, 108, 115, 101, 105, 102], [101, 110, 100], [101, 114, 114, 111, 114], [102, 97, 108, 115, 101], [102, 111, 114], [102, 117, 110], [105, 102], [105, 102, 100, 101, 102], [105, 110], [105, 110, 116, 101, 114, 102, 97, 99, 101], [105, 115], [105, 115, 110, 116], [105, 115, 111], [108, 101, 116], [109, 97, 116, 99, 104], [110, 101, 119], [110, 111, 116], [111, 98, 106, 101, 99, 116], [111, 114], [112, 114, 105, 109, 105, 116, 105, 118, 101], [114, 101, 99, 111, 118, 101, 114], [114, 101, 102], [114, 101, 112, 101, 97, 116], [114, 101, 116, 117, 114, 110], [116, 97, 103], [116, 104, 101, 110], [116, 104, 105, 115], [116, 114, 97, 105, 116], [116, 114, 110], [116, 114, 117, 101], [116, 114, 121], [116, 121, 112, 101], [117, 110, 116, 105, 108], [117, 115, 101], [118, 97, 108], [118, 97, 114], [119, 104, 101, 114, 101], [119, 104, 105, 108, 101], [119, 105, 116, 104], [120, 111, 114]]

theorem kw_fields : Lib.fields kwText = kwWords := by kernel_rfl
theorem kw_ascii : ∀ (j : Nat) b, kwText[j]? = some b → b.toNat < 128 := fun j b h => by
  have hm : b ∈ kwText := List.mem_of_getElem? h
  have hall : (kwText.all fun b => decide (b.toNat < 128)) = true := by decide +kernel
  exact of_decide_eq_true (List.all_eq_true.1 hall b hm)

/-- The set of the first k keywords. -/
def kwSet (H : Type) : Nat → DataW H
  | 0 => .map []
  | k + 1 => (kwSet H k).put (.string (kwWords.getD k [])) (.lit (.bool true))

theorem law9 : Keyed Tryz.prog 9 := string_keyed Tryz.underlying9
theorem zero4 (w : World) : (zeroValue 4).run Tryz.prog w = .ok (.bool false) w := by kernel_rfl

theorem kw_key (k : Nat) : keyOf Tryz.prog 9 (.string ⟨(kwWords.getD k []).toArray⟩) = some (.string (kwWords.getD k [])) := by
  refine keyOf_string_mk Tryz.underlying9 ?_
  have hall : (kwWords.all fun l => decide (l.length ≤ maxLen)) = true := by decide +kernel
  by_cases hk : k < kwWords.length
  · have : kwWords.getD k [] ∈ kwWords := by
      rw [List.getD_eq_getElem?_getD, List.getElem?_eq_getElem hk]
      exact List.getElem_mem hk
    have := of_decide_eq_true (List.all_eq_true.1 hall _ this)
    simpa [ByteArray.size] using this
  · rw [List.getD_eq_getElem?_getD, List.getElem?_eq_none (by omega)]
    exact Nat.zero_le _

theorem tabIs_below {w w' : World} {name : String} {k : IntKind} {zs : List Int} (h : Lib.TabIs Tryz.prog w name k zs) (hb : Below w.heap.size w w') : Lib.TabIs Tryz.prog w' name k zs := by
  unfold Lib.TabIs at h ⊢
  unfold World.var? at h ⊢
  cases hg : Tryz.prog.globalNamed name with
  | none => rw [hg] at h; cases h
  | some g =>
    rw [hg] at h
    simp only [Option.bind_some] at h ⊢
    have hlt : g < w.heap.size := by
      rcases Nat.lt_or_ge g w.heap.size with h1 | h1
      · exact h1
      · rw [Array.getElem?_eq_none h1] at h
        cases h
    rw [hb.block g hlt]
    exact h

theorem kwWords_len : kwWords.length = 51 := by decide

set_option maxHeartbeats 2000000 in
set_option maxRecDepth 100000 in
theorem keywordSet_any (w : World) (htab : Lib.TabIs Tryz.prog w "strings.asciiSpace" .u8 Lib.asciiSpaceTab) :
    Calls Tryz.prog 27 #[] w fun e w' => e = .returned (.map (some w.heap.size)) ∧ w'.ownsMap Tryz.prog 9 (plainElem (H := Unit) Tryz.prog 4) w.heap.size 51 (kwSet Unit 51) ∧ Below w.heap.size w w' := by
  have hmm := @run_makeMap Tryz.prog
  have TT := Lib.hid htab
  clear htab
  go_enter Tryz.func27, Tryz.ntmps27
  go_wp2_with fail
  refine (Tryz.strings_Fields ⟨kwText.toArray⟩ _ (by decide) kw_ascii (tabIs_below TT.out ((Below.refl _ _).alloc (Nat.le_refl _) _))).mono ?_
  rintro e w' ⟨rfl, rfl⟩
  rw [kw_fields, kwWords_len]
  have hcells : ∀ j, j < 51 → ((w.alloc (.map #[] 0)).alloc (.cells (kwWords.map fun l => Value.string ⟨l.toArray⟩).toArray 9)).cell? ⟨w.heap.size + 1, j, none⟩ = some (.string ⟨(kwWords.getD j []).toArray⟩) := fun j hj => by
    rw [World.cell?_alloc_at _ _ _ _ (by simp)]
    have : j < kwWords.length := by rw [kwWords_len]; exact hj
    simp [List.getD, this]
  have HC := Lib.hid hcells
  clear hcells
  have hb0 : Below w.heap.size w ((w.alloc (.map #[] 0)).alloc (.cells (kwWords.map fun l => Value.string ⟨l.toArray⟩).toArray 9)) := ((Below.refl _ _).alloc (Nat.le_refl _) _).alloc (by simp) _
  have HB0 := Lib.hid hb0
  clear hb0
  go_wp2_with fail
  go_loopw [7] (fun i wr => ∃ k : Nat, k ≤ 51 ∧ i = .int .i64 k ∧ wr.ownsMap Tryz.prog 9 (plainElem (H := Unit) Tryz.prog 4) w.heap.size k (kwSet Unit k) ∧ (∀ j, j < 51 → wr.cell? ⟨w.heap.size + 1, j, none⟩ = some (.string ⟨(kwWords.getD j []).toArray⟩)) ∧ Below w.heap.size w wr) (fun i _ => 51 - (intOf i).toNat)
  case atStart => exact ⟨0, by omega, rfl, (World.ownsMap_made _ _ _ _).alloc _, HC.out, HB0.out⟩
  case round =>
    obtain ⟨k, hk, rfl, hown, hcs, hb⟩ := hrel
    have HO := Lib.hid hown
    have HS := Lib.hid hcs
    have HB := Lib.hid hb
    clear hown hcs hb
    by_cases hlt : k < 51
    · obtain ⟨s, hs⟩ : ∃ s, s = (⟨(kwWords.getD k []).toArray⟩ : ByteArray) := ⟨_, rfl⟩
      have hcx : wr.cell? ⟨w.heap.size + 1, k, none⟩ = some (.string s) := by rw [hs]; exact HS.out k hlt
      have hkey : keyOf Tryz.prog 9 (.string s) = some (.string (kwWords.getD k [])) := by rw [hs]; exact kw_key k
      have HK := Lib.hid hkey
      clear hs hkey
      have l51 : (k : Int) < 51 := by omega
      go_wp2_with (at_mapUpdate; refine wpList_mapUpdate_own _ rfl _ _ _ 55 rfl 9 4 law9 Tryz.underlying55 _ w.heap.size k _ rfl HO.out (by unfold maxLen; omega) _ _ _ rfl rfl HK.out _ [] (plainElem_bool Tryz.underlying4 _) ?_)
      intro w1 hown1 hgrow1
      have HO1 := Lib.hid hown1
      have HS1 : Hid (∀ j, j < 51 → w1.cell? ⟨w.heap.size + 1, j, none⟩ = some (.string ⟨(kwWords.getD j []).toArray⟩)) := fun j hj => hgrow1.cell (HS.out j hj) (by simp)
      have HB1 : Hid (Below w.heap.size w w1) := HB.out.grown hgrow1 HB.out.size (fun j hj => by cases hj; exact Nat.le_refl _)
      clear hown1 hgrow1
      go_wp2
      go_roundw
      case rel => exact ⟨k + 1, by omega, by go_num, HO1.out, HS1.out, HB1.out⟩
      case measure => simp [intOf]; omega
    · obtain rfl : k = 51 := by omega
      go_wp2
      go_ret
      exact ⟨rfl, HO.out, HB.out⟩

theorem kwSet_isMap : ∀ k, IsMap (kwSet Unit k)
  | 0 => isMap_empty
  | k + 1 => (kwSet_isMap k).put _ _

theorem kwSet_at (x : List UInt8) : ∀ k, k ≤ 51 → (kwSet Unit k).atKey (.string x) (.lit (.bool false)) = .lit (.bool ((kwWords.take k).contains x))
  | 0, _ => rfl
  | k + 1, hk => by
    have hlt : k < kwWords.length := by rw [kwWords_len]; omega
    have ht : kwWords.take (k + 1) = kwWords.take k ++ [kwWords.getD k []] := by
      rw [List.take_succ_eq_append_getElem hlt, List.getD_eq_getElem?_getD, List.getElem?_eq_getElem hlt]
      rfl
    rw [ht, List.contains_append]
    show ((kwSet Unit k).put (.string (kwWords.getD k [])) (.lit (.bool true))).atKey (.string x) (.lit (.bool false)) = _
    by_cases he : x = kwWords.getD k []
    · subst he
      rw [atKey_put_same (k := .string (kwWords.getD k [])) (kwSet_isMap k) trivial]
      simp
    · rw [atKey_put_other (by intro h; cases h; exact he rfl), kwSet_at x k (by omega)]
      have h1 : [kwWords.getD k []].contains x = false := by
        rw [Bool.eq_false_iff]
        intro hc
        rw [List.contains_iff_mem, List.mem_singleton] at hc
        exact he hc
      rw [h1, Bool.or_false]

set_option maxRecDepth 100000 in
/-- What asking the set of keywords gives. -/
theorem kw_lookup {w : World} {b : Nat} (h : w.ownsMap Tryz.prog 9 (plainElem (H := Unit) Tryz.prog 4) b 51 (kwSet Unit 51)) (s : ByteArray) (hs : s.size ≤ maxLen) :
    (Instr.lookup 55 (.map (some b)) (.string s) false).run Tryz.prog w = .ok (.bool (kwWords.contains s.data.toList)) w := by
  obtain ⟨v, ps, hrun, hv⟩ := h.lookup law9 Tryz.underlying55 (zero4 w) (plainElem_bool Tryz.underlying4 false) (keyOf_string_mk Tryz.underlying9 hs)
  rw [kwSet_at _ 51 (Nat.le_refl _), show kwWords.take 51 = kwWords from List.take_of_length_le (by rw [kwWords_len]; omega)] at hv
  rw [hrun]
  generalize kwWords.contains s.data.toList = r at hv ⊢
  unfold plainElem at hv
  rw [Tryz.underlying4] at hv
  cases v <;> simp at hv
  rw [hv.1]

end Tk
end Go.Proofs.YtlpcpnbjpbhlgaaGreatDoor
