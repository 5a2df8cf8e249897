import Derived.Test.YtekmdimpelodoaaProg
import Derived.Test.YtekmdimpelodoaaSpec
import Derived.WalkKit
import Derived.WalkSmall
import Derived.BigCall
namespace Go.Proofs.Ytekmdimpelodoaa
open Go.RowKit

theorem info21 : (Try.prog.info? 21).map (fun i => (i.zero, i.size, i.bytes)) = some (some (.int .i32 0), 1, 4) := by kernel_rfl

/-- Behind an append onto a row of the call's own, the iterator below its base stands. -/
theorem rel_letters {K : Nat} {w wr w1 : World} {v v' : Value} {o : Obj} {acc : List Int} {s : ByteArray} {p : Nat} {r : Int}
    (hK : K + 1 ≤ wr.heap.size) (hit : wr.heap[K]? = some (.stringIter s p)) (hown : wr.ownsRow (K + 1) 21 1 v acc.length (acc.map (Value.int .i32))) (hnx : Below K w wr)
    (hown' : w1.ownsRow (K + 1) 21 1 v' (acc.length + 1) (acc.map (Value.int .i32) ++ [.int .i32 r])) (hgrow : (wr.alloc o).grownBy w1 v.ownBlock) :
    w1.ownsRow (K + 1) 21 1 v' (acc ++ [r]).length ((acc ++ [r]).map (Value.int .i32)) ∧ w1.heap[K]? = some (.stringIter s p) ∧ Below K w w1 := by
  have hne : some K ≠ v.ownBlock := fun h => by have := hown.lt K h.symm; omega
  refine ⟨by simpa using hown', ?_, (hnx.alloc (by omega) o).grown hgrow (by simp; omega) (fun j hj => by have := (hown.lt j hj).1; omega)⟩
  rw [hgrow.block K (by simp; omega) hne, Below.heap_alloc _ _ _ (by omega)]
  exact hit

set_option maxHeartbeats 4000000 in
set_option maxRecDepth 1000000 in
theorem letters (s : ByteArray) (w : World) (hs : s.size ≤ 35184372088832) :
    Calls Try.prog 8 #[.string s] w fun e w' => ∃ v, e = .returned v ∧ w'.ownsRow (w.heap.size + 1) 21 1 v (runes s).length ((runes s).map (Value.int .i32)) ∧ Below w.heap.size w w' := by
  obtain ⟨i0, hi, hz0, hz1, hz2⟩ := info_parts info21
  go_enter Try.func8, Try.ntmps8
  go_wp2
  go_loopw [3] (fun v wr => ∃ (pos fuel : Nat) (acc : List Int), wr.ownsRow (w.heap.size + 1) 21 1 v acc.length (acc.map (Value.int .i32)) ∧ wr.heap[w.heap.size]? = some (.stringIter s pos) ∧ Below w.heap.size w wr ∧ acc ++ runesFrom s fuel pos = runes s ∧ s.size ≤ pos + fuel ∧ acc.length ≤ pos) (fun _ wr => s.size - wr.iterPos w.heap.size)
  case atStart =>
    exact ⟨0, s.size, [], World.ownsRow_nil _ _ _ _, World.iter_heap w s 0, (Below.refl _ w).alloc (Nat.le_refl _) _, rfl, by omega, by simp⟩
  case round =>
    obtain ⟨pos, fuel, acc, hown, hit, hbw, hacc, hfu, hal⟩ := hrel
    have hsz : w.heap.size < wr.heap.size := (Array.getElem?_eq_some_iff.1 hit).1
    by_cases hp : pos < s.size
    · have hnx : ∀ ty, (Instr.next (.pointer (some ⟨w.heap.size, 0, none⟩)) true ty).run Try.prog wr = _ := fun ty => Lib.run_next_any_at wr w.heap.size s pos ty hit hp
      have hwd := width_pos s pos hp
      have hd1 := decode_le s pos
      have hown2 := ownsRow_iterAt hown (k := w.heap.size) (by omega) s (pos + (Utf8.decode s pos).2)
      have hit2 := Lib.iterAt_heap wr w.heap.size s pos (pos + (Utf8.decode s pos).2) hit
      have hbw2 := Lib.below_iterAt hbw (k := w.heap.size) (by omega) s (pos + (Utf8.decode s pos).2)
      have hsz2 : w.heap.size + 1 ≤ (wr.iterAt w.heap.size s (pos + (Utf8.decode s pos).2)).heap.size := by rw [Lib.iterAt_size]; omega
      have hmu : wr.iterPos w.heap.size = pos := iterPos_of hit
      obtain ⟨f, rfl⟩ : ∃ f, fuel = f + 1 := ⟨fuel - 1, by omega⟩
      have hst := runesFrom_step s f pos hp
      generalize hW : wr.iterAt w.heap.size s (pos + (Utf8.decode s pos).2) = W1 at hnx hown2 hit2 hbw2 hsz2
      clear hW
      go_wp2_with (at_builtin; refine wpList_append_own _ rfl _ _ 24 rfl (w.heap.size + 1) 21 i0 (.int .i32 0) 1 4 Try.underlying24 hi hz0 hz1 hz2 rfl (by decide) _ _ _ rfl (hown2.alloc _) ⟨W1.heap.size, 0, none⟩ 1 1 [.int .i32 (Utf8.decode s pos).1] rfl rfl ?c1 ?c2 ?c3 ?c4 ?c5 ?_)
      case c1 =>
        intro j u hj
        match j, hj with
        | 0, hj => simp at hj; subst hj; simp [Addr.add]
      case c2 => intro u hu; simp at hu; subst hu; rfl
      case c3 => unfold maxLen; omega
      case c4 => omega
      case c5 => simp; omega
      intro v' w1 hown' hgrow _
      have R := rel_letters hsz2 hit2 hown2 hbw2 hown' hgrow
      clear hown' hgrow hown hown2 hit hit2 hbw hbw2
      go_wp2
      go_roundw
      case rel =>
        exact ⟨pos + (Utf8.decode s pos).2, f, acc ++ [((Utf8.decode s pos).1 : Int)], R.1, R.2.1, R.2.2, by rw [← hacc, hst]; simp, by omega, by simp; omega⟩
      case measure =>
        have := iterPos_of R.2.1
        omega
    · have hnx : ∀ ty, (Instr.next (.pointer (some ⟨w.heap.size, 0, none⟩)) true ty).run Try.prog wr = _ := fun ty => Lib.run_next_end_at wr w.heap.size s pos ty hit hp
      rw [runesFrom_end s fuel pos hp, List.append_nil] at hacc
      subst hacc
      go_wp2
      go_ret
      exact ⟨_, rfl, hown, hbw⟩
end Go.Proofs.Ytekmdimpelodoaa
