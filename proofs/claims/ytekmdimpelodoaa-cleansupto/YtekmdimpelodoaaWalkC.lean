import Derived.Test.YtekmdimpelodoaaWalkL
namespace Go.Proofs.Ytekmdimpelodoaa
open Go.RowKit

theorem rel_cleaned {w wr w1 : World} {v v' : Value} {o : Obj} {acc : List Int} {r : Int}
    (hB : w.heap.size ≤ wr.heap.size) (hown : wr.ownsRow w.heap.size 21 1 v acc.length (acc.map (Value.int .i32))) (hnx : Below w.heap.size w wr)
    (hown' : w1.ownsRow w.heap.size 21 1 v' (acc.length + 1) (acc.map (Value.int .i32) ++ [.int .i32 r])) (hgrow : (wr.alloc o).grownBy w1 v.ownBlock) :
    w1.ownsRow w.heap.size 21 1 v' (acc ++ [r]).length ((acc ++ [r]).map (Value.int .i32)) ∧ Below w.heap.size w w1 :=
  ⟨by simpa using hown', (hnx.alloc hB o).grown hgrow (by simp; omega) (fun j hj => (hown.lt j hj).1)⟩

theorem cell_one_new (w : World) (a : Value) (t : TypeId) : ∀ j u, [a][j]? = some u → (w.alloc (.cells #[a] t)).cell? ((⟨w.heap.size, 0, none⟩ : Addr).add j) = some u := by
  intro j u hj
  match j, hj with
  | 0, hj => simp at hj; subst hj; simp [Addr.add]
  | j + 1, hj => simp at hj

theorem one_int (r : Int) : ∀ u ∈ [Value.int .i32 r], u.oneCell' = true := by
  intro u hu
  simp at hu
  subst hu
  rfl

theorem drop_step (L : List Int) (k : Nat) (h : k < L.length) : cleanL (L.drop k) = piece (L.getD k 0) (L.drop (k + 1)) ++ cleanL (L.drop (k + 1)) := by
  rw [List.drop_eq_getElem_cons h, cleanL]
  simp [List.getD, List.getElem?_eq_getElem h]

theorem head_drop (L : List Int) (k : Nat) : (L.drop k).head? = if k < L.length then some (L.getD k 0) else none := by
  by_cases h : k < L.length
  · rw [List.drop_eq_getElem_cons h]
    simp [h, List.getD]
  · rw [List.drop_of_length_le (by omega)]
    simp [h]

set_option maxHeartbeats 4000000 in
set_option maxRecDepth 1000000 in
theorem cleaned (g off n cap : Nat) (L : List Int) (w : World) (hn : n = L.length) (hs : n ≤ 35184372088832) (hg : g < w.heap.size)
    (hc : ∀ j, j < n → w.cell? ⟨g, off + j, none⟩ = some (.int .i32 (L.getD j 0))) :
    Calls Try.prog 7 #[.slice (some ⟨g, off, none⟩) n cap] w fun e w' => ∃ v, e = .returned v ∧ w'.ownsRow w.heap.size 21 1 v (cleanL L).length ((cleanL L).map (Value.int .i32)) ∧ Below w.heap.size w w' := by
  obtain ⟨i0, hi, hz0, hz1, hz2⟩ := info_parts info21
  have HN : Hid (n = L.length) := hn
  clear hn
  go_enter Try.func7, Try.ntmps7
  go_wp2
  go_loopw [3, 4] (fun v i wr => ∃ (k : Nat) (acc : List Int), k ≤ n ∧ i = .int .i64 k ∧ wr.ownsRow w.heap.size 21 1 v acc.length (acc.map (Value.int .i32)) ∧ Below w.heap.size w wr ∧ acc ++ cleanL (L.drop k) = cleanL L ∧ acc.length ≤ k)
    (fun _ i _ => n - (intOf i).toNat)
  case atStart => exact ⟨0, [], Nat.zero_le _, rfl, World.ownsRow_nil _ _ _ _, Below.refl _ _, rfl, Nat.le_refl _⟩
  case round =>
    obtain ⟨k, acc, hk, rfl, hown, hbw, hacc, hal⟩ := hrel
    have hBw := hbw.size
    by_cases hlt : k < n
    · have hst := drop_step L k (by have := HN.out; omega)
      have hhd := head_drop L (k + 1)
      rw [← HN.out] at hhd
      have hm1 : acc.length + 1 ≤ maxLen := by unfold maxLen; omega
      have hm2 : (acc.length + 1) * 4 ≤ 140737488355328 := by omega
      have hck := (hbw.cell (p := ⟨g, off + k, none⟩) hg).trans (hc k hlt)
      have hck1 : k + 1 < n → wr.cell? ⟨g, off + (k + 1), none⟩ = some (.int .i32 (L.getD (k + 1) 0)) := fun h => (hbw.cell (p := ⟨g, off + (k + 1), none⟩) hg).trans (hc (k + 1) h)
      generalize L.getD k 0 = r at hck hst
      generalize L.getD (k + 1) 0 = q at hck1 hhd
      clear hc
      by_cases h13 : r = 13
      · subst h13
        by_cases hn1 : k + 1 < n
        · have hc1 := hck1 hn1
          clear hck1
          rw [if_pos hn1] at hhd
          by_cases h10 : q = 10
          · subst h10
            rw [piece, if_pos rfl, if_pos hhd, List.nil_append] at hst
            have HR : Hid (acc ++ cleanL (L.drop (k + 1)) = cleanL L) := by unfold Hid; rw [← hacc, hst]
            clear hhd hst hacc
            go_wp2
            go_roundw
            case rel => exact ⟨k + 1, acc, by omega, by go_num, hown, hbw, HR.out, by omega⟩
            case measure => simp [intOf]; omega
          · have hb10 : (q == 10) = false := by simpa using h10
            rw [piece, if_pos rfl, if_neg (by rw [hhd]; simpa using h10)] at hst
            clear hhd
            have HR : Hid (acc ++ [10] ++ cleanL (L.drop (k + 1)) = cleanL L) := by unfold Hid; rw [← hacc, hst]; simp
            clear hst hacc
            go_wp2_with (at_builtin; refine wpList_append_own _ rfl _ _ 24 rfl w.heap.size 21 i0 (.int .i32 0) 1 4 Try.underlying24 hi hz0 hz1 hz2 rfl (by decide) _ _ _ rfl (hown.alloc _) ⟨wr.heap.size, 0, none⟩ 1 1 [.int .i32 10] rfl rfl (cell_one_new _ _ _) (one_int _) hm1 hm2 (by simp; omega) ?_)
            intro v' w1 hown' hgrow _
            have R := rel_cleaned hBw hown hbw hown' hgrow
            clear hown' hgrow hown hbw
            go_wp2
            go_roundw
            case rel => exact ⟨k + 1, acc ++ [10], by omega, by go_num, R.1, R.2, HR.out, by simp; omega⟩
            case measure => simp [intOf]; omega

        · rw [if_neg hn1] at hhd
          rw [piece, if_pos rfl, if_neg (by rw [hhd]; simp)] at hst
          clear hck1 hhd
          have HR : Hid (acc ++ [10] ++ cleanL (L.drop (k + 1)) = cleanL L) := by unfold Hid; rw [← hacc, hst]; simp
          clear hst hacc
          go_wp2_with (at_builtin; refine wpList_append_own _ rfl _ _ 24 rfl w.heap.size 21 i0 (.int .i32 0) 1 4 Try.underlying24 hi hz0 hz1 hz2 rfl (by decide) _ _ _ rfl (hown.alloc _) ⟨wr.heap.size, 0, none⟩ 1 1 [.int .i32 10] rfl rfl (cell_one_new _ _ _) (one_int _) hm1 hm2 (by simp; omega) ?_)
          intro v' w1 hown' hgrow _
          have R := rel_cleaned hBw hown hbw hown' hgrow
          clear hown' hgrow hown hbw
          go_wp2
          go_roundw
          case rel => exact ⟨k + 1, acc ++ [10], by omega, by go_num, R.1, R.2, HR.out, by simp; omega⟩
          case measure => simp [intOf]; omega

      · have hb13 : (r == 13) = false := by simpa using h13
        clear hck1 hhd
        by_cases h0 : r = 0
        · subst h0
          rw [piece, if_neg h13, if_pos rfl] at hst
          clear h13 hb13
          have HR : Hid (acc ++ [65533] ++ cleanL (L.drop (k + 1)) = cleanL L) := by unfold Hid; rw [← hacc, hst]; simp
          clear hst hacc
          go_wp2_with (at_builtin; refine wpList_append_own _ rfl _ _ 24 rfl w.heap.size 21 i0 (.int .i32 0) 1 4 Try.underlying24 hi hz0 hz1 hz2 rfl (by decide) _ _ _ rfl (hown.alloc _) ⟨wr.heap.size, 0, none⟩ 1 1 [.int .i32 65533] rfl rfl (cell_one_new _ _ _) (one_int _) hm1 hm2 (by simp; omega) ?_)
          intro v' w1 hown' hgrow _
          have R := rel_cleaned hBw hown hbw hown' hgrow
          clear hown' hgrow hown hbw
          go_wp2
          go_roundw
          case rel => exact ⟨k + 1, acc ++ [65533], by omega, by go_num, R.1, R.2, HR.out, by simp; omega⟩
          case measure => simp [intOf]; omega

        · have hb0 : (r == 0) = false := by simpa using h0
          rw [piece, if_neg h13, if_neg h0] at hst
          clear h13 h0
          have HR : Hid (acc ++ [r] ++ cleanL (L.drop (k + 1)) = cleanL L) := by unfold Hid; rw [← hacc, hst]; simp
          clear hst hacc
          go_wp2_with (at_builtin; refine wpList_append_own _ rfl _ _ 24 rfl w.heap.size 21 i0 (.int .i32 0) 1 4 Try.underlying24 hi hz0 hz1 hz2 rfl (by decide) _ _ _ rfl (hown.alloc _) ⟨wr.heap.size, 0, none⟩ 1 1 [.int .i32 r] rfl rfl (cell_one_new _ _ _) (one_int _) hm1 hm2 (by simp; omega) ?_)
          intro v' w1 hown' hgrow _
          have R := rel_cleaned hBw hown hbw hown' hgrow
          clear hown' hgrow hown hbw
          go_wp2
          go_roundw
          case rel => exact ⟨k + 1, acc ++ [r], by omega, by go_num, R.1, R.2, HR.out, by simp; omega⟩
          case measure => simp [intOf]; omega

    · have hkn : k = L.length := by have := HN.out; omega
      rw [List.drop_of_length_le (by omega)] at hacc
      have hacc2 : acc = cleanL L := by simpa [cleanL] using hacc
      clear hacc hkn
      subst hacc2
      go_wp2
      go_ret
      exact ⟨_, rfl, hown, hbw⟩
end Go.Proofs.Ytekmdimpelodoaa
