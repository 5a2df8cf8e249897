import Derived.Lib.RuneBytes
import Derived.Laws.Cover4
import Derived.Laws.RangeString
import Derived.Laws.RangeAny
import Derived.Lib.Strings
namespace Go.Proofs.Ytekmdimpelodoaa
open Go

/-- The letters of s from place pos on, at most 'fuel' of them. -/
def runesFrom (s : ByteArray) : Nat → Nat → List Int
  | 0, _ => []
  | fuel + 1, pos => if pos < s.size then ((Utf8.decode s pos).1 : Int) :: runesFrom s fuel (pos + (Utf8.decode s pos).2) else []

def runes (s : ByteArray) : List Int := runesFrom s s.size 0

/-- What one letter becomes, by the letters behind it. -/
def piece (r : Int) (t : List Int) : List Int :=
  if r = 13 then (if t.head? = some 10 then [] else [10]) else if r = 0 then [65533] else [r]

def cleanL : List Int → List Int
  | [] => []
  | r :: t => piece r t ++ cleanL t

def encAll (l : List Int) : List UInt8 := l.flatMap Lib.encodeRune

def cleanB (s : ByteArray) : List UInt8 := encAll (cleanL (runes s))

theorem runesFrom_end (s : ByteArray) (fuel pos : Nat) (h : ¬ pos < s.size) : runesFrom s fuel pos = [] := by
  cases fuel with
  | zero => rfl
  | succ f => simp [runesFrom, h]

theorem runesFrom_step (s : ByteArray) (fuel pos : Nat) (h : pos < s.size) :
    runesFrom s (fuel + 1) pos = ((Utf8.decode s pos).1 : Int) :: runesFrom s fuel (pos + (Utf8.decode s pos).2) := by
  simp [runesFrom, h]

theorem runesFrom_length (s : ByteArray) : ∀ fuel pos, (runesFrom s fuel pos).length ≤ fuel := by
  intro fuel
  induction fuel with
  | zero => intro pos; simp [runesFrom]
  | succ f ih =>
    intro pos
    unfold runesFrom
    split
    · have := ih (pos + (Utf8.decode s pos).2); simp; omega
    · simp

theorem width_pos (s : ByteArray) (pos : Nat) (h : pos < s.size) : 1 ≤ (Utf8.decode s pos).2 := by
  by_cases ha : (s[pos]'h).toNat < 128
  · rw [decode_ascii s pos h ha]
    exact Nat.le_refl _
  · exact (decode_high s pos h (by omega)).2

/-- A letter below 128 is its byte, and one byte wide. -/
theorem decode_small (s : ByteArray) (pos : Nat) (h : pos < s.size) (hr : (Utf8.decode s pos).1 < 128) :
    Utf8.decode s pos = ((s[pos]'h).toNat, 1) := by
  by_cases ha : (s[pos]'h).toNat < 128
  · exact decode_ascii s pos h ha
  · have := (decode_high s pos h (by omega)).1
    omega

theorem decode_ten (s : ByteArray) (pos : Nat) (h : pos < s.size) : (Utf8.decode s pos).1 = 10 ↔ s[pos]'h = 10 := by
  constructor
  · intro hr
    have := decode_small s pos h (by omega)
    rw [this] at hr
    simp at hr
    exact UInt8.toNat_inj.1 (by rw [hr]; rfl)
  · intro hb
    rw [decode_ascii s pos h (by rw [hb]; decide), hb]
    rfl

theorem head_ten (s : ByteArray) (fuel pos : Nat) (hf : s.size ≤ pos + fuel) :
    (runesFrom s fuel pos).head? = some 10 ↔ ∃ h : pos < s.size, s[pos]'h = 10 := by
  by_cases h : pos < s.size
  · obtain ⟨f, rfl⟩ : ∃ f, fuel = f + 1 := ⟨fuel - 1, by omega⟩
    rw [runesFrom_step s f pos h]
    simp only [List.head?_cons, Option.some.injEq]
    constructor
    · intro e
      exact ⟨h, (decode_ten s pos h).1 (by omega)⟩
    · rintro ⟨_, e⟩
      have := (decode_ten s pos h).2 e
      omega
  · rw [runesFrom_end s fuel pos h]
    simp [h]

theorem encode_eq (r : Int) : (Utf8.encode r).data.toList = Lib.encodeRune r := by
  have hb : ∀ (x : Int) (n : Nat), x.toNat = n → UInt8.ofNat n = x.toNat.toUInt8 := by intro x n h; subst h; rfl
  by_cases h1 : 0 ≤ r ∧ r ≤ 127
  · obtain ⟨n, rfl⟩ : ∃ n : Nat, r = n := ⟨r.toNat, by omega⟩
    have hv : Utf8.valid (n : Int) = true := by simp [Utf8.valid]; omega
    have hc : n < 128 := by omega
    simp only [Utf8.encode, hv, if_true, Lib.encodeRune, Lib.encodeRuneZ_one h1.1 h1.2, Int.toNat_natCast]
    rw [if_pos (show n < 0x80 by omega)]
    simp
  by_cases h2 : 128 ≤ r ∧ r ≤ 2047
  · obtain ⟨n, rfl⟩ : ∃ n : Nat, r = n := ⟨r.toNat, by omega⟩
    have hv : Utf8.valid (n : Int) = true := by simp [Utf8.valid]; omega
    simp only [Utf8.encode, hv, if_true, Lib.encodeRune, Lib.encodeRuneZ_two h2.1 h2.2, Int.toNat_natCast]
    rw [if_neg (show ¬ n < 0x80 by omega), if_pos (show n < 0x800 by omega)]
    simp only [List.map_cons, List.map_nil]
    rw [hb (192 + (n : Int) / 64) (0xC0 + n / 64) (by omega), hb (128 + (n : Int) % 64) (0x80 + n % 64) (by omega)]
  by_cases h3 : (2048 ≤ r ∧ r < 55296) ∨ (57343 < r ∧ r ≤ 65535)
  · obtain ⟨n, rfl⟩ : ∃ n : Nat, r = n := ⟨r.toNat, by omega⟩
    have hv : Utf8.valid (n : Int) = true := by simp [Utf8.valid]; omega
    simp only [Utf8.encode, hv, if_true, Lib.encodeRune, Lib.encodeRuneZ_three h3, Int.toNat_natCast]
    rw [if_neg (show ¬ n < 0x80 by omega), if_neg (show ¬ n < 0x800 by omega), if_pos (show n < 0x10000 by omega)]
    simp only [List.map_cons, List.map_nil]
    rw [hb (224 + (n : Int) / 4096) (0xE0 + n / 4096) (by omega), hb (128 + (n : Int) / 64 % 64) (0x80 + n / 64 % 64) (by omega), hb (128 + (n : Int) % 64) (0x80 + n % 64) (by omega)]
  by_cases h4 : 65536 ≤ r ∧ r ≤ 1114111
  · obtain ⟨n, rfl⟩ : ∃ n : Nat, r = n := ⟨r.toNat, by omega⟩
    have hv : Utf8.valid (n : Int) = true := by simp [Utf8.valid]; omega
    simp only [Utf8.encode, hv, if_true, Lib.encodeRune, Lib.encodeRuneZ_four h4.1 h4.2, Int.toNat_natCast]
    rw [if_neg (show ¬ n < 0x80 by omega), if_neg (show ¬ n < 0x800 by omega), if_neg (show ¬ n < 0x10000 by omega)]
    simp only [List.map_cons, List.map_nil]
    rw [hb (240 + (n : Int) / 262144) (0xF0 + n / 262144) (by omega), hb (128 + (n : Int) / 4096 % 64) (0x80 + n / 4096 % 64) (by omega), hb (128 + (n : Int) / 64 % 64) (0x80 + n / 64 % 64) (by omega), hb (128 + (n : Int) % 64) (0x80 + n % 64) (by omega)]
  · have hv : Utf8.valid r = false := by simp [Utf8.valid]; omega
    simp only [Utf8.encode, hv, Lib.encodeRune, Lib.encodeRuneZ_bad (show r < 0 ∨ (55296 ≤ r ∧ r ≤ 57343) ∨ 1114111 < r by omega), Bool.false_eq_true, if_false, Utf8.runeError]
    decide

theorem runesBytes_eq (l : List Int) : (runesBytes l).data.toList = encAll l := by
  have h : ∀ (l : List Int) (b : ByteArray), (l.foldl (fun r n => r ++ Utf8.encode n) b).data.toList = b.data.toList ++ encAll l := by
    intro l
    induction l with
    | nil => intro b; simp [encAll]
    | cons n l ih =>
      intro b
      rw [List.foldl_cons, ih]
      simp [encAll, ByteArray.data_append, encode_eq]
  have := h l ByteArray.empty
  simpa [runesBytes] using this

theorem encAll_append (a b : List Int) : encAll (a ++ b) = encAll a ++ encAll b := by simp [encAll]

def cleanFrom (s : ByteArray) (fuel pos : Nat) : List UInt8 := encAll (cleanL (runesFrom s fuel pos))

theorem cleanFrom_end (s : ByteArray) (fuel pos : Nat) (h : ¬ pos < s.size) : cleanFrom s fuel pos = [] := by
  unfold cleanFrom
  rw [runesFrom_end s fuel pos h]
  rfl

theorem cleanFrom_step (s : ByteArray) (fuel pos : Nat) (h : pos < s.size) :
    cleanFrom s (fuel + 1) pos = encAll (piece (Utf8.decode s pos).1 (runesFrom s fuel (pos + (Utf8.decode s pos).2))) ++ cleanFrom s fuel (pos + (Utf8.decode s pos).2) := by
  unfold cleanFrom
  rw [runesFrom_step s fuel pos h, cleanL, encAll_append]

theorem encAll_one (r : Int) : encAll [r] = Lib.encodeRune r := by simp [encAll]

theorem cleanFrom_zero (s : ByteArray) (fuel pos : Nat) (h : pos < s.size) (h0 : (Utf8.decode s pos).1 = 0) :
    cleanFrom s (fuel + 1) pos = Lib.encodeRune 65533 ++ cleanFrom s fuel (pos + (Utf8.decode s pos).2) := by
  rw [cleanFrom_step s fuel pos h]
  simp only [piece, h0]
  rw [if_neg (by decide), if_pos (by decide), encAll_one]

theorem cleanFrom_plain (s : ByteArray) (fuel pos : Nat) (h : pos < s.size) (h0 : (Utf8.decode s pos).1 ≠ 0) (h13 : (Utf8.decode s pos).1 ≠ 13) :
    cleanFrom s (fuel + 1) pos = Lib.encodeRune (Utf8.decode s pos).1 ++ cleanFrom s fuel (pos + (Utf8.decode s pos).2) := by
  rw [cleanFrom_step s fuel pos h]
  simp only [piece]
  rw [if_neg (by omega), if_neg (by omega), encAll_one]

/-- Behind a carriage return: is a newline the next letter? -/
theorem behind_cr (s : ByteArray) (fuel pos : Nat) (h : pos < s.size) (h13 : (Utf8.decode s pos).1 = 13) (hf : s.size ≤ pos + (fuel + 1)) :
    (Utf8.decode s pos).2 = 1 ∧ ((runesFrom s fuel (pos + 1)).head? = some 10 ↔ Lib.hasPrefix (s.extract (pos + 1) s.size).data.toList [10] = true) := by
  have hd := decode_small s pos h (by omega)
  refine ⟨by rw [hd], ?_⟩
  rw [head_ten s fuel (pos + 1) (by omega)]
  have hl : (s.extract (pos + 1) s.size).data.toList = s.data.toList.drop (pos + 1) := by
    rw [ByteArray.data_extract]
    simp only [Array.toList_extract, List.extract_eq_take_drop]
    rw [List.take_of_length_le (by simp)]
  rw [hl]
  unfold Lib.hasPrefix
  by_cases hp : pos + 1 < s.size
  · have hp' : pos + 1 < s.data.toList.length := by simpa using hp
    rw [List.drop_eq_getElem_cons hp']
    simp only [List.isPrefixOf, Bool.and_true, beq_iff_eq]
    constructor
    · rintro ⟨_, e⟩
      rw [← e]; rfl
    · intro e
      exact ⟨hp, e.symm⟩
  · have hp' : s.data.toList.length ≤ pos + 1 := by
      have : s.data.toList.length = s.size := by simp
      omega
    rw [List.drop_of_length_le hp']
    simp [List.isPrefixOf, hp]

theorem extract_list (s : ByteArray) (p : Nat) : (s.extract p s.size).data.toList = List.take (s.size - p) (List.drop p s.data.toList) := by
  rw [ByteArray.data_extract]
  simp only [Array.toList_extract, List.extract_eq_take_drop]

theorem cleanFrom_cr_nl (s : ByteArray) (fuel pos : Nat) (h : pos < s.size) (h13 : (Utf8.decode s pos).1 = 13) (hf : s.size ≤ pos + (fuel + 1))
    (hp : Lib.hasPrefix (s.extract (pos + 1) s.size).data.toList [10] = true) :
    cleanFrom s (fuel + 1) pos = cleanFrom s fuel (pos + (Utf8.decode s pos).2) := by
  obtain ⟨hw, hh⟩ := behind_cr s fuel pos h h13 hf
  rw [cleanFrom_step s fuel pos h]
  simp only [piece, hw, h13]
  rw [if_pos (by rfl), if_pos (hh.2 hp)]
  rfl

theorem cleanFrom_cr (s : ByteArray) (fuel pos : Nat) (h : pos < s.size) (h13 : (Utf8.decode s pos).1 = 13) (hf : s.size ≤ pos + (fuel + 1))
    (hp : Lib.hasPrefix (s.extract (pos + 1) s.size).data.toList [10] = false) :
    cleanFrom s (fuel + 1) pos = [10] ++ cleanFrom s fuel (pos + (Utf8.decode s pos).2) := by
  obtain ⟨hw, hh⟩ := behind_cr s fuel pos h h13 hf
  rw [cleanFrom_step s fuel pos h]
  simp only [piece, hw, h13]
  rw [if_pos (by rfl), if_neg (fun e => by rw [hh.1 e] at hp; cases hp), encAll_one]
  rfl
end Go.Proofs.Ytekmdimpelodoaa
