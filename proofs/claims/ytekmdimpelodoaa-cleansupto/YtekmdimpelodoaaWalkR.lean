import Derived.Test.YtekmdimpelodoaaWalkC
namespace Go.Proofs.Ytekmdimpelodoaa
open Go.RowKit

set_option maxHeartbeats 4000000 in
set_option maxRecDepth 1000000 in
theorem cleaned_nil (w : World) :
    Calls Try.prog 7 #[.slice none 0 0] w fun e w' => e = .returned (.slice none 0 0) ∧ w' = w := by
  go_enter Try.func7, Try.ntmps7
  go_wp2
  refine wp_loop_rounds 1 ?_
  rw [rounds_succ]
  go_wp2
  go_ret
  exact ⟨rfl, rfl⟩

theorem add_zero (g j : Nat) : (⟨g, 0, none⟩ : Addr).add j = ⟨g, j, none⟩ := by
  unfold Addr.add
  split
  · rename_i h
    simp_all
  · simp

/-- What an owned row of letters gives: nil, or its cells. -/
theorem owned_forms {w : World} {B : Nat} {v : Value} {L : List Int} (h : w.ownsRow B 21 1 v L.length (L.map (Value.int .i32))) :
    (v = .slice none 0 0 ∧ L = []) ∨ ∃ g cap, v = .slice (some ⟨g, 0, none⟩) L.length cap ∧ g < w.heap.size ∧ ∀ j, j < L.length → w.cell? ⟨g, 0 + j, none⟩ = some (.int .i32 (L.getD j 0)) := by
  have hcs : ∀ g, v.ownBlock = some g → ∀ j u, (L.map (Value.int .i32))[j]? = some u → w.cell? ((⟨g, 0, none⟩ : Addr).add j) = some u := fun g hg => h.cells hg
  have hlt := h.lt
  rcases h.2 with ⟨rfl, h0⟩ | ⟨g, cap, cur, rfl, _⟩
  · exact .inl ⟨rfl, List.length_eq_zero_iff.1 h0⟩
  · refine .inr ⟨g, cap, rfl, (hlt g rfl).2, fun j hj => ?_⟩
    have := hcs g rfl j (.int .i32 (L.getD j 0)) (by simp [List.getD, List.getElem?_eq_getElem hj])
    rw [add_zero] at this
    rw [Nat.zero_add]
    exact this

theorem convert_owned {w : World} {B : Nat} {v : Value} {L : List Int} (h : w.ownsRow B 21 1 v L.length (L.map (Value.int .i32))) :
    (convert 24 9 v).run Try.prog w = .ok (.string ⟨(encAll L).toArray⟩) w := by
  have hb : ∀ b : ByteArray, ∀ l : List UInt8, b.data.toList = l → b = ⟨l.toArray⟩ := by
    intro b l e
    subst e
    rfl
  rcases owned_forms h with ⟨rfl, rfl⟩ | ⟨g, cap, rfl, _, hc⟩
  · rw [run_convert_runes_nil w 24 9 21 0 0 Try.underlying24 Try.underlying21 Try.underlying9]
    rfl
  · rw [run_convert_runes w 24 9 21 ⟨g, 0, none⟩ L.length cap L (Nat.le_refl _) Try.underlying24 Try.underlying21 Try.underlying9 (fun j hj => by have := hc j hj; rw [Nat.zero_add] at this; rw [add_zero]; exact this), List.take_length,
      hb _ _ (runesBytes_eq L)]

theorem cleaned_owned {w : World} {B : Nat} {v : Value} {L : List Int} (hs : L.length ≤ 35184372088832) (h : w.ownsRow B 21 1 v L.length (L.map (Value.int .i32))) :
    Calls Try.prog 7 #[v] w fun e w' => ∃ v, e = .returned v ∧ w'.ownsRow w.heap.size 21 1 v (cleanL L).length ((cleanL L).map (Value.int .i32)) ∧ Below w.heap.size w w' := by
  rcases owned_forms h with ⟨rfl, rfl⟩ | ⟨g, cap, rfl, hg, hc⟩
  · refine (cleaned_nil w).mono ?_
    rintro e W1 ⟨rfl, rfl⟩
    exact ⟨_, rfl, World.ownsRow_nil _ _ _ _, Below.refl _ _⟩
  · exact cleaned g 0 L.length cap L w rfl hs hg hc

set_option maxHeartbeats 4000000 in
set_option maxRecDepth 1000000 in
theorem ref_clean (s : ByteArray) (w : World) (hs : s.size ≤ 35184372088832) :
    Calls Try.prog 5 #[.string s] w fun e w' => e = .returned (.string ⟨(cleanB s).toArray⟩) ∧ Below w.heap.size w w' := by
  have hlen : (runes s).length ≤ 35184372088832 := Nat.le_trans (runesFrom_length s s.size 0) hs
  go_enter Try.func5, Try.ntmps5
  go_wp2_with (go_at_call 8; refine (letters s w hs).mono ?_)
  rintro e W1 ⟨v, rfl, hown, hb1⟩
  go_wp2_with (go_at_call 7; refine (cleaned_owned hlen hown).mono ?_)
  rintro e W2 ⟨v2, rfl, hown2, hb2⟩
  have hcv := convert_owned hown2
  have hb : Below w.heap.size w W2 := hb1.trans (hb2.mono hb1.size)
  clear hown2 hown hb1 hb2
  go_wp2
  go_ret
  exact ⟨rfl, hb⟩
end Go.Proofs.Ytekmdimpelodoaa
