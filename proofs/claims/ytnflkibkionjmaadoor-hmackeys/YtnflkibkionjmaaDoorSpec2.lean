/- SHA-256 on words and bytes, and the operations of words as the model has them, of no program. -/
import Derived.Test.YtnflkibkionjmaaDoorBase
import Derived.Laws.BitsAllLaws
namespace Go.Proofs.YtnflkibkionjmaaDoor
open Go.RowKit

/-- A word as the model's number. -/
def nt (x : UInt32) : Int := (x.toNat : Int)
theorem nt_lo (x : UInt32) : 0 ≤ nt x := by unfold nt; omega
theorem nt_hi (x : UInt32) : nt x ≤ 4294967295 := by unfold nt; have := x.toNat_lt; omega

/-- Words as cells. -/
def U (l : List UInt32) : List Value := l.map fun x => Value.int .u32 (nt x)

theorem U_length (l : List UInt32) : (U l).length = l.length := by simp [U]
theorem U_append (l m : List UInt32) : U (l ++ m) = U l ++ U m := by simp [U]
theorem U_get (l : List UInt32) (j : Nat) : (U l)[j]? = l[j]?.map fun b => Value.int .u32 (nt b) := by simp [U]
theorem U_one (l : List UInt32) : ∀ u ∈ U l, u.oneCell' = true := by
  intro u hu
  simp only [U, List.mem_map] at hu
  obtain ⟨b, _, rfl⟩ := hu
  rfl
theorem U_getD (l : List UInt32) (j : Nat) (h : j < l.length) : (U l)[j]? = some (.int .u32 (nt (l.getD j 0))) := by
  rw [U_get, List.getElem?_eq_getElem h, List.getD_eq_getElem?_getD, List.getElem?_eq_getElem h]; rfl
theorem B_getD (l : List UInt8) (j : Nat) (h : j < l.length) : (B l)[j]? = some (.int .u8 (l.getD j 0).toNat) := by
  rw [B_get, List.getElem?_eq_getElem h, List.getD_eq_getElem?_getD, List.getElem?_eq_getElem h]; rfl

def rotr (x : UInt32) (n : Nat) : UInt32 := UInt32.ofNat (x.toNat / 2 ^ n ||| x.toNat * 2 ^ (32 - n) % 4294967296)
def shr (x : UInt32) (n : Nat) : UInt32 := UInt32.ofNat (x.toNat / 2 ^ n)
def big0 (x : UInt32) : UInt32 := rotr x 2 ^^^ rotr x 13 ^^^ rotr x 22
def big1 (x : UInt32) : UInt32 := rotr x 6 ^^^ rotr x 11 ^^^ rotr x 25
def sml0 (x : UInt32) : UInt32 := rotr x 7 ^^^ rotr x 18 ^^^ shr x 3
def sml1 (x : UInt32) : UInt32 := rotr x 17 ^^^ rotr x 19 ^^^ shr x 10
def chs (e f g : UInt32) : UInt32 := (e &&& f) ^^^ (~~~e &&& g)
def maj (a b c : UInt32) : UInt32 := (a &&& b) ^^^ (a &&& c) ^^^ (b &&& c)

structure S8 where
  a : UInt32
  b : UInt32
  c : UInt32
  d : UInt32
  e : UInt32
  f : UInt32
  g : UInt32
  h : UInt32

def S8.l (s : S8) : List UInt32 := [s.a, s.b, s.c, s.d, s.e, s.f, s.g, s.h]

def one (s : S8) (k w : UInt32) : UInt32 := s.h + big1 s.e + chs s.e s.f s.g + k + w
def two (s : S8) : UInt32 := big0 s.a + maj s.a s.b s.c
def rnd (s : S8) (k w : UInt32) : S8 := ⟨one s k w + two s, s.a, s.b, s.c, s.d + one s k w, s.e, s.f, s.g⟩

def K : List UInt32 := [1116352408, 1899447441, 3049323471, 3921009573, 961987163, 1508970993, 2453635748, 2870763221, 3624381080, 310598401, 607225278, 1426881987, 1925078388, 2162078206, 2614888103, 3248222580, 3835390401, 4022224774, 264347078, 604807628, 770255983, 1249150122, 1555081692, 1996064986, 2554220882, 2821834349, 2952996808, 3210313671, 3336571891, 3584528711, 113926993, 338241895, 666307205, 773529912, 1294757372, 1396182291, 1695183700, 1986661051, 2177026350, 2456956037, 2730485921, 2820302411, 3259730800, 3345764771, 3516065817, 3600352804, 4094571909, 275423344, 430227734, 506948616, 659060556, 883997877, 958139571, 1322822218, 1537002063, 1747873779, 1955562222, 2024104815, 2227730452, 2361852424, 2428436474, 2756734187, 3204031479, 3329325298]
def H0 : S8 := ⟨1779033703, 3144134277, 1013904242, 2773480762, 1359893119, 2600822924, 528734635, 1541459225⟩
theorem K_len : K.length = 64 := rfl

def rnds (ws : List UInt32) (s : S8) : Nat → S8
  | 0 => s
  | i + 1 => rnd (rnds ws s i) (K.getD i 0) (ws.getD i 0)

def S8.add (s r : S8) : S8 := ⟨s.a + r.a, s.b + r.b, s.c + r.c, s.d + r.d, s.e + r.e, s.f + r.f, s.g + r.g, s.h + r.h⟩
def stirS (s : S8) (ws : List UInt32) : S8 := s.add (rnds ws s 64)

/-- One byte more at a word's end. -/
def byteOn (x : UInt32) (b : UInt8) : UInt32 := UInt32.ofNat (x.toNat * 256 % 4294967296 ||| b.toNat)
/-- What of the bytes m, of which i are there, makes word j. -/
def part (m : List UInt8) (i j : Nat) : UInt32 := (((m.take i).drop (4 * j)).take 4).foldl byteOn 0
def parts (m : List UInt8) (i n : Nat) : List UInt32 := (List.range n).map (part m i)
def ext (l : List UInt32) : List UInt32 := l ++ [l.getD (l.length - 16) 0 + sml0 (l.getD (l.length - 15) 0) + l.getD (l.length - 7) 0 + sml1 (l.getD (l.length - 2) 0)]
def extN (l : List UInt32) : Nat → List UInt32
  | 0 => l
  | k + 1 => ext (extN l k)
def spreadS (m : List UInt8) : List UInt32 := extN (parts m 64 16) 48

theorem parts_len (m : List UInt8) (i n : Nat) : (parts m i n).length = n := by simp [parts]
theorem ext_len (l : List UInt32) : (ext l).length = l.length + 1 := by simp [ext]
theorem extN_len (l : List UInt32) : ∀ k, (extN l k).length = l.length + k
  | 0 => rfl
  | k + 1 => by rw [extN, ext_len, extN_len l k]; omega
theorem spreadS_len (m : List UInt8) : (spreadS m).length = 64 := by rw [spreadS, extN_len, parts_len]

theorem part_step (m : List UInt8) (i j : Nat) (h : i < m.length) : part m (i + 1) j = if j = i / 4 then byteOn (part m i j) (m.getD i 0) else part m i j := by
  have e : m.take (i + 1) = m.take i ++ [m.getD i 0] := by
    rw [List.take_succ_eq_append_getElem h, List.getD_eq_getElem?_getD, List.getElem?_eq_getElem h]; rfl
  have hl : (m.take i).length = i := by rw [List.length_take]; omega
  unfold part
  rw [e]
  by_cases h1 : 4 * j ≤ i
  · rw [List.drop_append_of_le_length (by omega)]
    by_cases h2 : i < 4 * j + 4
    · have hd : (List.drop (4 * j) (List.take i m)).length = i - 4 * j := by rw [List.length_drop, hl]
      rw [if_pos (by omega), List.take_of_length_le (l := List.drop (4 * j) (List.take i m) ++ [m.getD i 0]) (by rw [List.length_append, hd, List.length_singleton]; omega), List.take_of_length_le (l := List.drop (4 * j) (List.take i m)) (by omega), List.foldl_append, List.foldl_cons, List.foldl_nil]
    · rw [if_neg (by omega), List.take_append_of_le_length (by rw [List.length_drop, hl]; omega)]
  · rw [if_neg (by omega), List.drop_eq_nil_of_le (by simp; omega), List.drop_eq_nil_of_le (by omega)]

theorem part_zero (m : List UInt8) (j : Nat) : part m 0 j = 0 := by simp [part]
theorem part_past (m : List UInt8) (i j : Nat) (h : i ≤ 4 * j) : part m i j = 0 := by
  unfold part
  rw [List.drop_eq_nil_of_le (by simp; omega)]
  rfl

theorem parts_step (m : List UInt8) (i n : Nat) (h : i < m.length) (hn : i / 4 < n) : parts m (i + 1) n = (parts m i n).set (i / 4) (byteOn ((parts m i n).getD (i / 4) 0) (m.getD i 0)) := by
  apply List.ext_getElem?
  intro j
  have hg : (parts m i n).getD (i / 4) 0 = part m i (i / 4) := by simp [parts, List.getD_eq_getElem?_getD, hn]
  rw [hg, List.getElem?_set]
  by_cases hj : j < n
  · by_cases e : i / 4 = j
    · subst e
      simp [parts, hn, part_step m i _ h]
    · rw [if_neg e]
      simp [parts, hj, part_step m i j h, Ne.symm e]
  · have hj' : n ≤ j := by omega
    rw [if_neg (by omega), List.getElem?_eq_none (by rw [parts_len]; exact hj'), List.getElem?_eq_none (by rw [parts_len]; exact hj')]

theorem parts_zero (m : List UInt8) (n : Nat) : parts m 0 n = List.replicate n 0 := by
  apply List.ext_getElem?
  intro j
  by_cases hj : j < n
  · simp [parts, hj, part_zero]
  · rw [List.getElem?_eq_none (by rw [parts_len]; omega), List.getElem?_eq_none (by simp; omega)]

theorem parts_pre (m : List UInt8) : ∃ z, parts m 64 64 = parts m 64 16 ++ z := by
  refine ⟨(List.range' 16 48).map (part m 64), ?_⟩
  unfold parts
  rw [← List.map_append]
  rfl

/-! ### The operations of words -/
theorem tn (x : UInt32) : x.toNat < 4294967296 := x.toNat_lt
theorem of_lt {n : Nat} (h : n < 4294967296) : (UInt32.ofNat n).toNat = n := by rw [UInt32.toNat_ofNat']; omega
theorem wadd (x y : UInt32) : IntKind.u32.wrap (nt x + nt y) = nt (x + y) := by
  unfold nt
  rw [IntKind.wrap_u32', UInt32.toNat_add]; omega
theorem wadd' (x y : UInt32) : (nt x + nt y) % 4294967296 = nt (x + y) := by rw [← wadd, IntKind.wrap_u32']
theorem wxor (x y : UInt32) : bits .xor .u32 (nt x) (nt y) = nt (x ^^^ y) := by
  unfold nt
  rw [u32_xor_nat _ _ (tn x) (tn y), UInt32.toNat_xor]
theorem wand (x y : UInt32) : bits .and .u32 (nt x) (nt y) = nt (x &&& y) := by
  unfold nt
  rw [u32_and_nat _ _ (tn x) (tn y), UInt32.toNat_and]
theorem wnot' (x : UInt32) : bits .xor .u32 4294967295 (nt x) = nt (~~~x) := by
  have hx := tn x
  unfold nt
  rw [show (4294967295 : Int) = ((4294967295 : Nat) : Int) from rfl, u32_xor_nat _ _ (by omega) hx]
  have : 4294967295 ^^^ x.toNat = (~~~x).toNat := by
    have e : (~~~x) = 4294967295 ^^^ x := by
      apply UInt32.toBitVec_inj.1
      simp only [UInt32.toBitVec_not, UInt32.toBitVec_xor]
      rw [show (4294967295 : UInt32).toBitVec = BitVec.allOnes 32 from rfl, BitVec.allOnes_xor]
    rw [e, UInt32.toNat_xor]
    rfl
  rw [this]
theorem wnot (x : UInt32) : bits .xor .u32 (if IntKind.u32.signed = true then -1 else IntKind.u32.max) (nt x) = nt (~~~x) := wnot' x
theorem wshr (x : UInt32) (n : Nat) : nt x / 2 ^ n = nt (shr x n) := by
  unfold nt shr
  rw [of_lt (Nat.lt_of_le_of_lt (Nat.div_le_self _ _) (tn x))]
  simp
theorem wrotr (x : UInt32) (n : Nat) : bits .or .u32 (nt x / 2 ^ n) (nt x * 2 ^ (32 - n) % 4294967296) = nt (rotr x n) := by
  have h1 : x.toNat / 2 ^ n < 4294967296 := Nat.lt_of_le_of_lt (Nat.div_le_self _ _) (tn x)
  have h2 : x.toNat * 2 ^ (32 - n) % 4294967296 < 4294967296 := Nat.mod_lt _ (by omega)
  have e1 : ((x.toNat : Int) * 2 ^ (32 - n) % 4294967296) = ((x.toNat * 2 ^ (32 - n) % 4294967296 : Nat) : Int) := by simp
  have e2 : ((x.toNat : Int) / 2 ^ n) = ((x.toNat / 2 ^ n : Nat) : Int) := by simp
  unfold nt rotr
  rw [e1, e2, u32_or_nat _ _ h1 h2, of_lt (Nat.or_lt_two_pow (n := 32) h1 h2)]
theorem wrotl (x : UInt32) (n : Nat) : bits .or .u32 (nt x * 2 ^ (32 - n) % 4294967296) (nt x / 2 ^ n) = nt (rotr x n) := by
  have h1 : x.toNat / 2 ^ n < 4294967296 := Nat.lt_of_le_of_lt (Nat.div_le_self _ _) (tn x)
  have h2 : x.toNat * 2 ^ (32 - n) % 4294967296 < 4294967296 := Nat.mod_lt _ (by omega)
  have e1 : ((x.toNat : Int) * 2 ^ (32 - n) % 4294967296) = ((x.toNat * 2 ^ (32 - n) % 4294967296 : Nat) : Int) := by simp
  have e2 : ((x.toNat : Int) / 2 ^ n) = ((x.toNat / 2 ^ n : Nat) : Int) := by simp
  unfold nt rotr
  rw [e1, e2, u32_or_nat _ _ h2 h1, Nat.or_comm, of_lt (Nat.or_lt_two_pow (n := 32) h1 h2)]
theorem wbyte (x : UInt32) (b : UInt8) : bits .or .u32 (nt x * 256 % 4294967296) (b.toNat : Int) = nt (byteOn x b) := by
  have h1 : b.toNat < 4294967296 := by have := b.toNat_lt; omega
  have h2 : x.toNat * 256 % 4294967296 < 4294967296 := Nat.mod_lt _ (by omega)
  have e1 : ((x.toNat : Int) * 256 % 4294967296) = ((x.toNat * 256 % 4294967296 : Nat) : Int) := by simp
  unfold nt byteOn
  rw [e1, u32_or_nat _ _ h2 h1, of_lt (Nat.or_lt_two_pow (n := 32) h2 h1)]
end Go.Proofs.YtnflkibkionjmaaDoor
