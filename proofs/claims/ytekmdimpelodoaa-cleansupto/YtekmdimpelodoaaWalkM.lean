import Derived.Test.YtekmdimpelodoaaShelf
import Derived.Test.YtekmdimpelodoaaSpec
import Derived.WalkKit
import Derived.BigCall
namespace Go.Proofs.Ytekmdimpelodoaa
open Go.RowKit

set_option maxHeartbeats 4000000 in
set_option maxRecDepth 1000000 in
theorem markup_clean (s : ByteArray) (w : World) (hs : s.size ≤ 35184372088832) :
    Calls Try.prog 6 #[.string s] w fun e w' => e = .returned (.string ⟨(cleanB s).toArray⟩) ∧ Below w.heap.size w w' := by
  have hbk : (w.alloc (.cells #[.pointer none, .slice none 0 0] 30)).heap[w.heap.size]? = some (.cells #[.pointer none, .slice none 0 0] 30 (0, 0)) := heap_alloc_new w _
  have hb0 : Below w.heap.size w (w.alloc (.cells #[.pointer none, .slice none 0 0] 30)) := (Below.refl _ w).alloc (Nat.le_refl _) _
  go_enter Try.func6, Try.ntmps6
  go_wp2_with (go_at_call 9; refine (Try.Builder_Grow_fresh w.heap.size w.heap.size s.size _ (Nat.le_refl _) hbk (by simp) (by omega)).mono ?_)
  rintro e W0 ⟨rfl, hA, hbw0⟩
  have hlt : w.heap.size < W0.heap.size := Lib.BuilderAt.lt hA
  have hbw : Below w.heap.size w W0 := hb0.trans hbw0
  have hI0 : Lib.IsBuilderF 30 5 w.heap.size w.heap.size (Lib.byteCells []) W0 := Lib.IsBuilderF.of (Or.inr hA)
  clear hA hbw0 hb0 hbk
  go_wp2
  go_loopw [] (fun wr => ∃ (pos fuel : Nat) (acc : List UInt8), Lib.IsBuilderF 30 5 w.heap.size w.heap.size (Lib.byteCells acc) wr ∧ wr.heap[W0.heap.size]? = some (.stringIter s pos) ∧ Below w.heap.size w wr ∧ acc ++ cleanFrom s fuel pos = cleanB s ∧ s.size ≤ pos + fuel ∧ acc.length ≤ 4 * pos) (fun wr => s.size - wr.iterPos W0.heap.size)
  case atStart =>
    exact ⟨0, s.size, [], hI0.alloc _, World.iter_heap W0 s 0, hbw.alloc (by omega) _, rfl, by omega, by simp⟩
  case round =>
    obtain ⟨pos, fuel, acc, hI, hit, hbw2, hacc, hfu, hal⟩ := hrel
    clear hI0 hbw
    have hsz : W0.heap.size < wr.heap.size := (Array.getElem?_eq_some_iff.1 hit).1
    by_cases hp : pos < s.size
    · have hnx : ∀ ty, (Instr.next (.pointer (some ⟨W0.heap.size, 0, none⟩)) true ty).run Try.prog wr = _ := fun ty => Lib.run_next_any_at wr W0.heap.size s pos ty hit hp
      have hwd := width_pos s pos hp
      have hd1 := decode_le s pos
      have hI2 := hI.iterAt hit (pos + (Utf8.decode s pos).2)
      have hit2 := Lib.iterAt_heap wr W0.heap.size s pos (pos + (Utf8.decode s pos).2) hit
      have hbw3 := Lib.below_iterAt hbw2 (k := W0.heap.size) (by omega) s (pos + (Utf8.decode s pos).2)
      have hsz2 : w.heap.size ≤ (wr.iterAt W0.heap.size s (pos + (Utf8.decode s pos).2)).heap.size := by rw [Lib.iterAt_size]; omega
      obtain ⟨f, rfl⟩ : ∃ f, fuel = f + 1 := ⟨fuel - 1, by omega⟩
      by_cases h0 : (Utf8.decode s pos).1 = 0
      · go_wp2_with (go_at_call 10; refine (Try.Builder_WriteRune_k w.heap.size w.heap.size _ 65533 (by omega) (by omega) _ hI2 (by rw [Lib.byteCells_length]; omega) hsz2).mono ?_)
        rintro e W1 ⟨rfl, h1, b1, k1⟩
        go_wp2
        go_roundw
        case rel =>
          have hl4 : (Lib.encodeRune 65533).length = 3 := rfl
          refine ⟨pos + (Utf8.decode s pos).2, f, acc ++ Lib.encodeRune 65533, ?_, k1.iter hit2 (by omega), hbw3.trans b1, ?_, by omega, by simp; omega⟩
          · rw [Lib.byteCells_append, Lib.byteCells_encodeRune]; exact Or.inr h1
          · rw [← hacc, cleanFrom_zero s f pos hp h0]; simp
        case measure =>
          simp only [World.iterPos, k1.iter hit2 (by omega), hit]
          omega
      · by_cases h13 : (Utf8.decode s pos).1 = 13
        · have hx := extract_list s (pos + 1)
          cases hpx : Lib.hasPrefix (List.take (s.size - (pos + 1)) (List.drop (pos + 1) s.data.toList)) [10] with
          | true =>
            have hcl := cleanFrom_cr_nl s f pos hp h13 hfu (by rw [hx]; exact hpx)
            clear hx
            go_wp2_with (go_at_call 11; refine (Try.strings_HasPrefix _ _ _).mono ?_; rintro e W1 ⟨rfl, rfl⟩)
            go_roundw
            case rel =>
              exact ⟨pos + (Utf8.decode s pos).2, f, acc, hI2, hit2, hbw3, by rw [← hacc, hcl], by omega, by omega⟩
            case measure =>
              simp only [World.iterPos, hit2, hit]
              omega
          | false =>
            have hcl := cleanFrom_cr s f pos hp h13 hfu (by rw [hx]; exact hpx)
            clear hx
            go_wp2_with (first | (go_at_call 11; refine (Try.strings_HasPrefix _ _ _).mono ?_; rintro e W1 ⟨rfl, rfl⟩) | (go_at_call 12; refine (Try.Builder_WriteByte_k w.heap.size w.heap.size _ 10 _ hI2 (by rw [Lib.byteCells_length]; omega) hsz2).mono ?_))
            rintro e W1 ⟨rfl, h1, b1, k1⟩
            go_wp2
            go_roundw
            case rel =>
              refine ⟨pos + (Utf8.decode s pos).2, f, acc ++ [10], ?_, k1.iter hit2 (by omega), hbw3.trans b1, ?_, by omega, by simp; omega⟩
              · rw [Lib.byteCells_append]; exact Or.inr h1
              · rw [← hacc, hcl]; simp
            case measure =>
              simp only [World.iterPos, k1.iter hit2 (by omega), hit]
              omega
        · go_wp2_with (go_at_call 10; refine (Try.Builder_WriteRune_k w.heap.size w.heap.size _ _ (by omega) (by omega) _ hI2 (by rw [Lib.byteCells_length]; omega) hsz2).mono ?_)
          rintro e W1 ⟨rfl, h1, b1, k1⟩
          go_wp2
          go_roundw
          case rel =>
            have hl4 := Lib.runeCells_le ((Utf8.decode s pos).1 : Int)
            rw [Lib.runeCells_length] at hl4
            refine ⟨pos + (Utf8.decode s pos).2, f, acc ++ Lib.encodeRune (Utf8.decode s pos).1, ?_, k1.iter hit2 (by omega), hbw3.trans b1, ?_, by omega, by simp; omega⟩
            · rw [Lib.byteCells_append, Lib.byteCells_encodeRune]; exact Or.inr h1
            · rw [← hacc, cleanFrom_plain s f pos hp h0 h13]; simp
          case measure =>
            simp only [World.iterPos, k1.iter hit2 (by omega), hit]
            omega
    · have hnx : ∀ ty, (Instr.next (.pointer (some ⟨W0.heap.size, 0, none⟩)) true ty).run Try.prog wr = _ := fun ty => Lib.run_next_end_at wr W0.heap.size s pos ty hit hp
      go_wp2_with (go_at_call 13; refine (Try.Builder_String_any_k w.heap.size w.heap.size acc _ hI (by omega)).mono ?_)
      rintro e W1 ⟨rfl, _, b1, _⟩
      go_wp2
      go_ret
      rw [cleanFrom_end s fuel pos hp, List.append_nil] at hacc
      subst hacc
      exact ⟨rfl, hbw2.trans b1⟩
end Go.Proofs.Ytekmdimpelodoaa
