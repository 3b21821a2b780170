/- Texts laid together: Spec2, Rot, Spec3, BigE. -/
import Derived.Test.YtinifnpajkldbaaDoorPk0
import Derived.Laws.BitsAllLaws
import Derived.Test.YtinifnpajkldbaaDoorRows
import Derived.WalkLawsBesides
import Derived.Test.YtinifnpajkldbaaDoorPk4

/- SHA-256 on words and bytes, and the operations of words as the model has them, of no program. -/
namespace Go.Proofs.YtinifnpajkldbaaDoor
open Go.RowKit

/-- A word as the model's number. -/
def nt (x : UInt32) : Int := (x.toNat : Int)
theorem nt_lo (x : UInt32) : 0 ≤ nt x := by unfold nt; omega
theorem nt_hi (x : UInt32) : nt x ≤ 4294967295 := by unfold nt; have := x.toNat_lt; omega

/-- Words as cells. -/
def U (l : List UInt32) : List Value := l.map fun x => Value.int .u32 (nt x)

theorem U_length (l : List UInt32) : (U l).length = l.length := by simp [U]
theorem U_append (l m : List UInt32) : U (l ++ m) = U l ++ U m := by simp [U]
theorem U_get (l : List UInt32) (j : Nat) : (U l)[j]? = l[j]?.map fun b => Value.int .u32 (nt b) := by simp [U]
theorem U_one (l : List UInt32) : ∀ u ∈ U l, u.oneCell' = true := by
  intro u hu
  simp only [U, List.mem_map] at hu
  obtain ⟨b, _, rfl⟩ := hu
  rfl
theorem U_getD (l : List UInt32) (j : Nat) (h : j < l.length) : (U l)[j]? = some (.int .u32 (nt (l.getD j 0))) := by
  rw [U_get, List.getElem?_eq_getElem h, List.getD_eq_getElem?_getD, List.getElem?_eq_getElem h]; rfl
theorem B_getD (l : List UInt8) (j : Nat) (h : j < l.length) : (B l)[j]? = some (.int .u8 (l.getD j 0).toNat) := by
  rw [B_get, List.getElem?_eq_getElem h, List.getD_eq_getElem?_getD, List.getElem?_eq_getElem h]; rfl

def rotr (x : UInt32) (n : Nat) : UInt32 := UInt32.ofNat (x.toNat / 2 ^ n ||| x.toNat * 2 ^ (32 - n) % 4294967296)
def shr (x : UInt32) (n : Nat) : UInt32 := UInt32.ofNat (x.toNat / 2 ^ n)
def big0 (x : UInt32) : UInt32 := rotr x 2 ^^^ rotr x 13 ^^^ rotr x 22
def big1 (x : UInt32) : UInt32 := rotr x 6 ^^^ rotr x 11 ^^^ rotr x 25
def sml0 (x : UInt32) : UInt32 := rotr x 7 ^^^ rotr x 18 ^^^ shr x 3
def sml1 (x : UInt32) : UInt32 := rotr x 17 ^^^ rotr x 19 ^^^ shr x 10
def chs (e f g : UInt32) : UInt32 := (e &&& f) ^^^ (~~~e &&& g)
def maj (a b c : UInt32) : UInt32 := (a &&& b) ^^^ (a &&& c) ^^^ (b &&& c)

structure S8 where
  a : UInt32
  b : UInt32
  c : UInt32
  d : UInt32
  e : UInt32
  f : UInt32
  g : UInt32
  h : UInt32

def S8.l (s : S8) : List UInt32 := [s.a, s.b, s.c, s.d, s.e, s.f, s.g, s.h]

def one (s : S8) (k w : UInt32) : UInt32 := s.h + big1 s.e + chs s.e s.f s.g + k + w
def two (s : S8) : UInt32 := big0 s.a + maj s.a s.b s.c
def rnd (s : S8) (k w : UInt32) : S8 := ⟨one s k w + two s, s.a, s.b, s.c, s.d + one s k w, s.e, s.f, s.g⟩

def K : List UInt32 := [1116352408, 1899447441, 3049323471, 3921009573, 961987163, 1508970993, 2453635748, 2870763221, 3624381080, 310598401, 607225278, 1426881987, 1925078388, 2162078206, 2614888103, 3248222580, 3835390401, 4022224774, 264347078, 604807628, 770255983, 1249150122, 1555081692, 1996064986, 2554220882, 2821834349, 2952996808, 3210313671, 3336571891, 3584528711, 113926993, 338241895, 666307205, 773529912, 1294757372, 1396182291, 1695183700, 1986661051, 2177026350, 2456956037, 2730485921, 2820302411, 3259730800, 3345764771, 3516065817, 3600352804, 4094571909, 275423344, 430227734, 506948616, 659060556, 883997877, 958139571, 1322822218, 1537002063, 1747873779, 1955562222, 2024104815, 2227730452, 2361852424, 2428436474, 2756734187, 3204031479, 3329325298]
def H0 : S8 := ⟨1779033703, 3144134277, 1013904242, 2773480762, 1359893119, 2600822924, 528734635, 1541459225⟩
theorem K_len : K.length = 64 := rfl

def rnds (ws : List UInt32) (s : S8) : Nat → S8
  | 0 => s
  | i + 1 => rnd (rnds ws s i) (K.getD i 0) (ws.getD i 0)

def S8.add (s r : S8) : S8 := ⟨s.a + r.a, s.b + r.b, s.c + r.c, s.d + r.d, s.e + r.e, s.f + r.f, s.g + r.g, s.h + r.h⟩
def stirS (s : S8) (ws : List UInt32) : S8 := s.add (rnds ws s 64)

/-- One byte more at a word's end. -/
def byteOn (x : UInt32) (b : UInt8) : UInt32 := UInt32.ofNat (x.toNat * 256 % 4294967296 ||| b.toNat)
/-- What of the bytes m, of which i are there, makes word j. -/
def part (m : List UInt8) (i j : Nat) : UInt32 := (((m.take i).drop (4 * j)).take 4).foldl byteOn 0
def parts (m : List UInt8) (i n : Nat) : List UInt32 := (List.range n).map (part m i)
def ext (l : List UInt32) : List UInt32 := l ++ [l.getD (l.length - 16) 0 + sml0 (l.getD (l.length - 15) 0) + l.getD (l.length - 7) 0 + sml1 (l.getD (l.length - 2) 0)]
def extN (l : List UInt32) : Nat → List UInt32
  | 0 => l
  | k + 1 => ext (extN l k)
def spreadS (m : List UInt8) : List UInt32 := extN (parts m 64 16) 48

theorem parts_len (m : List UInt8) (i n : Nat) : (parts m i n).length = n := by simp [parts]
theorem ext_len2 (l : List UInt32) : (ext l).length = l.length + 1 := by simp [ext]
theorem extN_len (l : List UInt32) : ∀ k, (extN l k).length = l.length + k
  | 0 => rfl
  | k + 1 => by rw [extN, ext_len2, extN_len l k]; omega
theorem spreadS_len (m : List UInt8) : (spreadS m).length = 64 := by rw [spreadS, extN_len, parts_len]

theorem part_step (m : List UInt8) (i j : Nat) (h : i < m.length) : part m (i + 1) j = if j = i / 4 then byteOn (part m i j) (m.getD i 0) else part m i j := by
  have e : m.take (i + 1) = m.take i ++ [m.getD i 0] := by
    rw [List.take_succ_eq_append_getElem h, List.getD_eq_getElem?_getD, List.getElem?_eq_getElem h]; rfl
  have hl : (m.take i).length = i := by rw [List.length_take]; omega
  unfold part
  rw [e]
  by_cases h1 : 4 * j ≤ i
  · rw [List.drop_append_of_le_length (by omega)]
    by_cases h2 : i < 4 * j + 4
    · have hd : (List.drop (4 * j) (List.take i m)).length = i - 4 * j := by rw [List.length_drop, hl]
      rw [if_pos (by omega), List.take_of_length_le (l := List.drop (4 * j) (List.take i m) ++ [m.getD i 0]) (by rw [List.length_append, hd, List.length_singleton]; omega), List.take_of_length_le (l := List.drop (4 * j) (List.take i m)) (by omega), List.foldl_append, List.foldl_cons, List.foldl_nil]
    · rw [if_neg (by omega), List.take_append_of_le_length (by rw [List.length_drop, hl]; omega)]
  · rw [if_neg (by omega), List.drop_eq_nil_of_le (by simp; omega), List.drop_eq_nil_of_le (by omega)]

theorem part_zero (m : List UInt8) (j : Nat) : part m 0 j = 0 := by simp [part]
theorem part_past (m : List UInt8) (i j : Nat) (h : i ≤ 4 * j) : part m i j = 0 := by
  unfold part
  rw [List.drop_eq_nil_of_le (by simp; omega)]
  rfl

theorem parts_step (m : List UInt8) (i n : Nat) (h : i < m.length) (hn : i / 4 < n) : parts m (i + 1) n = (parts m i n).set (i / 4) (byteOn ((parts m i n).getD (i / 4) 0) (m.getD i 0)) := by
  apply List.ext_getElem?
  intro j
  have hg : (parts m i n).getD (i / 4) 0 = part m i (i / 4) := by simp [parts, List.getD_eq_getElem?_getD, hn]
  rw [hg, List.getElem?_set]
  by_cases hj : j < n
  · by_cases e : i / 4 = j
    · subst e
      simp [parts, hn, part_step m i _ h]
    · rw [if_neg e]
      simp [parts, hj, part_step m i j h, Ne.symm e]
  · have hj' : n ≤ j := by omega
    rw [if_neg (by omega), List.getElem?_eq_none (by rw [parts_len]; exact hj'), List.getElem?_eq_none (by rw [parts_len]; exact hj')]

theorem parts_zero (m : List UInt8) (n : Nat) : parts m 0 n = List.replicate n 0 := by
  apply List.ext_getElem?
  intro j
  by_cases hj : j < n
  · simp [parts, hj, part_zero]
  · rw [List.getElem?_eq_none (by rw [parts_len]; omega), List.getElem?_eq_none (by simp; omega)]

theorem parts_pre (m : List UInt8) : ∃ z, parts m 64 64 = parts m 64 16 ++ z := by
  refine ⟨(List.range' 16 48).map (part m 64), ?_⟩
  unfold parts
  rw [← List.map_append]
  rfl

/-! ### The operations of words -/
theorem tn (x : UInt32) : x.toNat < 4294967296 := x.toNat_lt
theorem of_lt {n : Nat} (h : n < 4294967296) : (UInt32.ofNat n).toNat = n := by rw [UInt32.toNat_ofNat']; omega
theorem wadd (x y : UInt32) : IntKind.u32.wrap (nt x + nt y) = nt (x + y) := by
  unfold nt
  rw [IntKind.wrap_u32', UInt32.toNat_add]; omega
theorem wadd' (x y : UInt32) : (nt x + nt y) % 4294967296 = nt (x + y) := by rw [← wadd, IntKind.wrap_u32']
theorem wxor (x y : UInt32) : bits .xor .u32 (nt x) (nt y) = nt (x ^^^ y) := by
  unfold nt
  rw [u32_xor_nat _ _ (tn x) (tn y), UInt32.toNat_xor]
theorem wand (x y : UInt32) : bits .and .u32 (nt x) (nt y) = nt (x &&& y) := by
  unfold nt
  rw [u32_and_nat _ _ (tn x) (tn y), UInt32.toNat_and]
theorem wnot' (x : UInt32) : bits .xor .u32 4294967295 (nt x) = nt (~~~x) := by
  have hx := tn x
  unfold nt
  rw [show (4294967295 : Int) = ((4294967295 : Nat) : Int) from rfl, u32_xor_nat _ _ (by omega) hx]
  have : 4294967295 ^^^ x.toNat = (~~~x).toNat := by
    have e : (~~~x) = 4294967295 ^^^ x := by
      apply UInt32.toBitVec_inj.1
      simp only [UInt32.toBitVec_not, UInt32.toBitVec_xor]
      rw [show (4294967295 : UInt32).toBitVec = BitVec.allOnes 32 from rfl, BitVec.allOnes_xor]
    rw [e, UInt32.toNat_xor]
    rfl
  rw [this]
theorem wnot (x : UInt32) : bits .xor .u32 (if IntKind.u32.signed = true then -1 else IntKind.u32.max) (nt x) = nt (~~~x) := wnot' x
theorem wshr (x : UInt32) (n : Nat) : nt x / 2 ^ n = nt (shr x n) := by
  unfold nt shr
  rw [of_lt (Nat.lt_of_le_of_lt (Nat.div_le_self _ _) (tn x))]
  simp
theorem wrotr (x : UInt32) (n : Nat) : bits .or .u32 (nt x / 2 ^ n) (nt x * 2 ^ (32 - n) % 4294967296) = nt (rotr x n) := by
  have h1 : x.toNat / 2 ^ n < 4294967296 := Nat.lt_of_le_of_lt (Nat.div_le_self _ _) (tn x)
  have h2 : x.toNat * 2 ^ (32 - n) % 4294967296 < 4294967296 := Nat.mod_lt _ (by omega)
  have e1 : ((x.toNat : Int) * 2 ^ (32 - n) % 4294967296) = ((x.toNat * 2 ^ (32 - n) % 4294967296 : Nat) : Int) := by simp
  have e2 : ((x.toNat : Int) / 2 ^ n) = ((x.toNat / 2 ^ n : Nat) : Int) := by simp
  unfold nt rotr
  rw [e1, e2, u32_or_nat _ _ h1 h2, of_lt (Nat.or_lt_two_pow (n := 32) h1 h2)]
theorem wrotl (x : UInt32) (n : Nat) : bits .or .u32 (nt x * 2 ^ (32 - n) % 4294967296) (nt x / 2 ^ n) = nt (rotr x n) := by
  have h1 : x.toNat / 2 ^ n < 4294967296 := Nat.lt_of_le_of_lt (Nat.div_le_self _ _) (tn x)
  have h2 : x.toNat * 2 ^ (32 - n) % 4294967296 < 4294967296 := Nat.mod_lt _ (by omega)
  have e1 : ((x.toNat : Int) * 2 ^ (32 - n) % 4294967296) = ((x.toNat * 2 ^ (32 - n) % 4294967296 : Nat) : Int) := by simp
  have e2 : ((x.toNat : Int) / 2 ^ n) = ((x.toNat / 2 ^ n : Nat) : Int) := by simp
  unfold nt rotr
  rw [e1, e2, u32_or_nat _ _ h2 h1, Nat.or_comm, of_lt (Nat.or_lt_two_pow (n := 32) h1 h2)]
theorem wbyte (x : UInt32) (b : UInt8) : bits .or .u32 (nt x * 256 % 4294967296) (b.toNat : Int) = nt (byteOn x b) := by
  have h1 : b.toNat < 4294967296 := by have := b.toNat_lt; omega
  have h2 : x.toNat * 256 % 4294967296 < 4294967296 := Nat.mod_lt _ (by omega)
  have e1 : ((x.toNat : Int) * 256 % 4294967296) = ((x.toNat * 256 % 4294967296 : Nat) : Int) := by simp
  unfold nt byteOn
  rw [e1, u32_or_nat _ _ h2 h1, of_lt (Nat.or_lt_two_pow (n := 32) h2 h1)]
end Go.Proofs.YtinifnpajkldbaaDoor

/- The contracts of RotateLeft32, turn, rot and words. -/
namespace Go.Proofs.YtinifnpajkldbaaDoor
open Go.RowKit
set_option linter.unusedSimpArgs false
set_option linter.unusedVariables false

attribute [local go_sem] wadd wadd' wxor wand wnot

theorem ret_int {k : IntKind} {a b : Int} (h : a = b) : Ending.returned (.int k a) = .returned (.int k b) := by rw [h]

theorem and31 (n : Nat) (h0 : 1 ≤ n) (h1 : n ≤ 31) : bits .and .u64 (IntKind.u64.wrap (-(n : Int))) 31 = ((32 - n : Nat) : Int) := by
  have e : IntKind.u64.wrap (-(n : Int)) = ((18446744073709551616 - n : Nat) : Int) := by rw [IntKind.wrap_u64]; omega
  rw [e]
  rw [show (31 : Int) = ((31 : Nat) : Int) from rfl, bits_and_u64_nat _ _ (by omega) (by omega)]
  have := Nat.and_two_pow_sub_one_eq_mod (18446744073709551616 - n) 5
  rw [show (2 : Nat) ^ 5 - 1 = 31 from rfl] at this
  rw [this]
  omega

theorem rotl_any (x : UInt32) (k : Int) (n : Nat) (hk : k = -(n : Int)) (h0 : 1 ≤ n) (h1 : n ≤ 31) (w : World) :
    Calls Tryd.prog 101 #[.int .u32 (nt x), .int .i64 k] w fun e w' => e = .returned (.int .u32 (nt (rotr x n))) ∧ w' = w := by
  subst hk
  have hx0 := nt_lo x
  have hx1 := nt_hi x
  have ha := and31 n h0 h1
  obtain ⟨j, hj⟩ : ∃ j : Nat, 32 - n = j := ⟨_, rfl⟩
  rw [hj] at ha
  have hj2 : j ≤ 31 := by omega
  have HW := hid (wrotl x n)
  rw [hj] at HW
  have HJ := hid (show 32 - j = n by omega)
  clear hj
  go_enter Tryd.func101, Tryd.ntmps101
  go_wp2
  go_ret
  refine ⟨ret_int ?_, rfl⟩
  rw [HJ.out]
  exact HW.out

theorem turn_any (x : UInt32) (i j k : Int) (a b c : Nat) (ha : i = (a : Int)) (hb : j = (b : Int)) (hc : k = (c : Int)) (a0 : 1 ≤ a) (a1 : a ≤ 31) (b0 : 1 ≤ b) (b1 : b ≤ 31) (c0 : 1 ≤ c) (c1 : c ≤ 31) (w : World) :
    Calls Tryd.prog 100 #[.int .u32 (nt x), .int .i64 i, .int .i64 j, .int .i64 k] w fun e w' => e = .returned (.int .u32 (nt (rotr x a ^^^ rotr x b ^^^ rotr x c))) ∧ w' = w := by
  subst ha hb hc
  have h1 := wxor (rotr x a) (rotr x b)
  have h2 := wxor (rotr x a ^^^ rotr x b) (rotr x c)
  go_enter Tryd.func100, Tryd.ntmps100
  go_wp2_with fail
  refine (rotl_any x _ a (by omega) a0 a1 _).mono ?_
  rintro e w' ⟨rfl, rfl⟩
  go_wp2_with fail
  refine (rotl_any x _ b (by omega) b0 b1 _).mono ?_
  rintro e w' ⟨rfl, rfl⟩
  go_wp2_with fail
  refine (rotl_any x _ c (by omega) c0 c1 _).mono ?_
  rintro e w' ⟨rfl, rfl⟩
  go_wp2_with fail
  go_ret
  exact ⟨rfl, rfl⟩

theorem rot_any (x : UInt32) (k : Int) (n : Nat) (hk : k = (n : Int)) (h0 : 1 ≤ n) (h1 : n ≤ 31) (w : World) :
    Calls Tryd.prog 72 #[.int .u32 (nt x), .int .u64 k] w fun e w' => e = .returned (.int .u32 (nt (rotr x n))) ∧ w' = w := by
  subst hk
  have hx0 := nt_lo x
  have hx1 := nt_hi x
  have HW := hid (wrotr x n)
  go_enter Tryd.func72, Tryd.ntmps72
  go_wp2
  go_ret
  refine ⟨ret_int ?_, rfl⟩
  exact HW.out
end Go.Proofs.YtinifnpajkldbaaDoor

/- Bytes into blocks, blocks into the state, the padding and the sum, of no program. -/
namespace Go.Proofs.YtinifnpajkldbaaDoor
open Go.RowKit
set_option linter.unusedSimpArgs false
set_option linter.unusedVariables false

theorem S8.len (s : S8) : s.l.length = 8 := rfl

def blkAt (m : List UInt8) (i : Nat) : List UInt8 := (m.drop (64 * i)).take 64
/-- The state behind n blocks of m. -/
def runS (m : List UInt8) : Nat → S8
  | 0 => H0
  | n + 1 => stirS (runS m n) (spreadS (blkAt m n))

theorem blkAt_append (m x : List UInt8) (i : Nat) (h : 64 * i + 64 ≤ m.length) : blkAt (m ++ x) i = blkAt m i := by
  unfold blkAt
  rw [List.drop_append_of_le_length (by omega), List.take_append_of_le_length (by rw [List.length_drop]; omega)]
theorem runS_append (m x : List UInt8) : ∀ n, 64 * n ≤ m.length → runS (m ++ x) n = runS m n
  | 0, _ => rfl
  | n + 1, h => by rw [runS, runS, runS_append m x n (by omega), blkAt_append m x n (by omega)]

/-- n bytes of rest into the block, behind what it holds of m. -/
def into (blk rest : List UInt8) (held n : Nat) : List UInt8 := blk.take held ++ rest.take n ++ blk.drop (held + n)

section
variable (m rest blk : List UInt8) (n : Nat)
theorem into_len (held : Nat) (hb : blk.length = 64) (hn : n ≤ rest.length) (hf : held + n ≤ 64) : (into blk rest held n).length = 64 := by
  simp only [into, List.length_append, List.length_take, List.length_drop]
  omega
theorem into_part (hb : blk.length = 64) (hp : blk.take (m.length % 64) = m.drop (64 * (m.length / 64))) (hn : n ≤ rest.length) (hf : m.length % 64 + n < 64) :
    (m ++ rest.take n).length % 64 = m.length % 64 + n ∧ (m ++ rest.take n).length / 64 = m.length / 64 ∧
      (into blk rest (m.length % 64) n).take (m.length % 64 + n) = (m ++ rest.take n).drop (64 * (m.length / 64)) ∧ runS (m ++ rest.take n) (m.length / 64) = runS m (m.length / 64) := by
  have hl : (m ++ rest.take n).length = m.length + n := by rw [List.length_append, List.length_take]; omega
  refine ⟨by omega, by omega, ?_, runS_append _ _ _ (by omega)⟩
  rw [List.drop_append_of_le_length (by omega), ← hp]
  unfold into
  exact List.take_left' (by simp only [List.length_append, List.length_take]; omega)
theorem into_full (hb : blk.length = 64) (hp : blk.take (m.length % 64) = m.drop (64 * (m.length / 64))) (hn : n ≤ rest.length) (hf : m.length % 64 + n = 64) :
    (m ++ rest.take n).length % 64 = 0 ∧ (m ++ rest.take n).length / 64 = m.length / 64 + 1 ∧
      runS (m ++ rest.take n) (m.length / 64 + 1) = stirS (runS m (m.length / 64)) (spreadS (into blk rest (m.length % 64) n)) := by
  have hl : (m ++ rest.take n).length = m.length + n := by rw [List.length_append, List.length_take]; omega
  refine ⟨by omega, by omega, ?_⟩
  rw [runS, runS_append _ _ _ (by omega)]
  congr 2
  unfold blkAt into
  rw [List.drop_append_of_le_length (by omega), ← hp, hf, List.drop_of_length_le (by omega), List.append_nil]
  exact List.take_of_length_le (by simp only [List.length_append, List.length_take]; omega)
end

def be : Nat → Nat → List UInt8
  | 0, _ => []
  | k + 1, u => UInt8.ofNat (u / 2 ^ (8 * k)) :: be k u

theorem be_len : ∀ k u, (be k u).length = k
  | 0, _ => rfl
  | k + 1, u => by simp [be, be_len k u]

/-- The bytes with the filling: a mark, noughts, and how many bits. -/
def fill (m : List UInt8) : List UInt8 := m ++ [128] ++ List.replicate ((120 - (m.length + 1) % 64) % 64) 0 ++ be 8 (m.length * 8 % 18446744073709551616)
theorem fill_len (m : List UInt8) : (fill m).length % 64 = 0 := by
  simp only [fill, List.length_append, List.length_replicate, be_len, List.length_singleton]
  omega
/-- SHA-256. -/
def shaS (m : List UInt8) : List UInt8 := (runS (fill m) ((fill m).length / 64)).l.flatMap fun x => be 4 x.toNat
theorem shaS_len (m : List UInt8) : (shaS m).length = 32 := by
  simp [shaS, S8.l, be_len]
end Go.Proofs.YtinifnpajkldbaaDoor

/- The contract of bigEndian: so many bytes of a number behind a slice, the highest first. -/
namespace Go.Proofs.YtinifnpajkldbaaDoor
open Go.RowKit
set_option linter.unusedSimpArgs false
set_option linter.unusedVariables false

set_option maxRecDepth 100000 in
set_option maxHeartbeats 400000 in
theorem be_any (Bd : Nat) (v : Value) (n : Nat) (xs : List Value) (u k : Nat) (hu : u < 18446744073709551616) (hk : k ≤ 8) (hb : n + k ≤ 1000) (w : World) (hown : Has w 5 Bd v n xs) (hBd : Bd ≤ w.heap.size) :
    Calls Tryd.prog 93 #[v, .int .u64 u, .int .i64 k] w fun e w' => ∃ v', e = .returned v' ∧ Has w' 5 Bd v' (n + k) (xs ++ B (be k u)) ∧ Below Bd w w' := by
  obtain ⟨i0, hi, hz0, hz1, hz2⟩ := info_parts Tryd.infoByte
  go_enter Tryd.func93, Tryd.ntmps93
  go_wp2
  refine wp_scope_both 0 (fun a' w' => ∃ (v1 : Value) (n1 : Nat) (xs1 : List Value) (k1 : Nat) (t7 t8 t9 t10 t11 t12 t13 t14 t15 t16 t17 t18 t19 : Value),
      a' = { tmps := #[v1, .int .u64 u, .int .i64 k1, undef, undef, undef, .slice none 0 0, t7, t8, t9, t10, t11, t12, t13, t14, t15, t16, t17, t18, t19], defers := [] } ∧
      Has w' 5 Bd v1 n1 xs1 ∧ Below Bd w w' ∧ n1 + k1 = n + k ∧ xs1 ++ B (be k1 u) = xs ++ B (be k u) ∧ k1 ≤ 8)
    (fun a' _ => (intOf (a'.tmps.getD 2 undef)).toNat) rfl ⟨v, n, xs, k, _, _, _, _, _, _, _, _, _, _, _, _, _, rfl, hown, Below.refl _ _, rfl, rfl, hk⟩ ?_
  rintro x hx a' w' ⟨v1, n1, xs1, k1, t7, t8, t9, t10, t11, t12, t13, t14, t15, t16, t17, t18, t19, rfl, hG, hB, hn, hx1, hk1⟩
  have HN := hid hn
  have HX := hid hx1
  have hb1 : n1 + k1 ≤ 1000 := by omega
  have hBd' : Bd ≤ w'.heap.size := Nat.le_trans hBd hB.size
  have HG := hid hG
  have HB := hid hB
  clear hn hx1 hk hb hown hG hB hBd
  cases k1 with
  | zero =>
    have hn := HN.out
    have hx2 := HX.out
    simp only [be, B, List.map_nil, List.append_nil, Nat.add_zero] at hn hx2
    have HG2 : Hid (Has w' 5 Bd v1 (n + k) (xs ++ B (be k u))) := by rw [← hn]; exact hx2 ▸ HG.out
    clear hn hx2
    rcases hx with rfl | rfl <;> go_wp2 <;> try (go_step3; go_wp2)
    all_goals
      simp only [Exit.jump]
      go_ret
      exact ⟨v1, rfl, HG2.out, HB.out⟩
  | succ k1 =>
    have HY : Hid ((xs1 ++ [Value.int IntKind.u8 ((u : Int) / 2 ^ (8 * k1) % 256)]) ++ B (be k1 u) = xs ++ B (be k u)) := by
      have := HX.out
      simp only [be, B, List.map_cons] at this
      rw [← byte_of] at this
      show (xs1 ++ [Value.int IntKind.u8 ((u : Int) / 2 ^ (8 * k1) % 256)]) ++ B (be k1 u) = xs ++ B (be k u)
      simpa [B] using this
    clear HX
    rcases hx with rfl | rfl
    · go_wp2_with fail
      go_step3
      go_wp2_with (at_builtin; go_must (refine wpList_append_has _ rfl _ _ 22 22 rfl 5 i0 (.int .u8 0) Tryd.underlying22 hi hz0 hz1 hz2 rfl Bd v1 n1 xs1 rfl (HG.out.alloc _) (by simp; omega) _ 1 _ rfl (Src.ofSlice _ Tryd.underlying22 ⟨w'.heap.size, 0, none⟩ 1 1 [_] rfl (cell_one_new _ _ _) (by intro u hu; simp at hu; subst hu; rfl)) (by omega) (by omega) ?_); intro v2 w2 hG2 hB2)
      go_step3
      exact ⟨rfl, ⟨v2, n1 + 1, _, k1, _, _, _, _, _, _, _, _, _, _, _, _, _, rfl, hG2, (HB.out.alloc hBd' _).trans hB2, by have := HN.out; omega, HY.out, by omega⟩, by simp [intOf]⟩
    · go_wp2_with (at_builtin; go_must (refine wpList_append_has _ rfl _ _ 22 22 rfl 5 i0 (.int .u8 0) Tryd.underlying22 hi hz0 hz1 hz2 rfl Bd v1 n1 xs1 rfl (HG.out.alloc _) (by simp; omega) _ 1 _ rfl (Src.ofSlice _ Tryd.underlying22 ⟨w'.heap.size, 0, none⟩ 1 1 [_] rfl (cell_one_new _ _ _) (by intro u hu; simp at hu; subst hu; rfl)) (by omega) (by omega) ?_); intro v2 w2 hG2 hB2)
      go_step3
      exact ⟨rfl, ⟨v2, n1 + 1, _, k1, _, _, _, _, _, _, _, _, _, _, _, _, _, rfl, hG2, (HB.out.alloc hBd' _).trans hB2, by have := HN.out; omega, HY.out, by omega⟩, by simp [intOf]⟩
end Go.Proofs.YtinifnpajkldbaaDoor
