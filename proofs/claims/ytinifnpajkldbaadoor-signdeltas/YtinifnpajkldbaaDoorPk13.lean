/- Texts laid together: RefFns, Ref3. -/
import Derived.Test.YtinifnpajkldbaaDoorPk12
import Derived.BigQuiet

/- The second say's words and Hex, and what its Sum's loops are. -/
namespace Go.Proofs.YtinifnpajkldbaaDoor
open Go.RowKit
set_option linter.unusedSimpArgs false
set_option linter.unusedVariables false
attribute [local go_sem] wadd wadd' wxor wand wnot

def loopsOf : Code → List Code
  | .loop c => c :: loopsOf c
  | .seq a b => loopsOf a ++ loopsOf b
  | .block _ c => loopsOf c
  | .scope c => loopsOf c
  | .cond _ a b => loopsOf a ++ loopsOf b
  | _ => []
def rb (b : Option Code) (k : Nat) : Code := (loopsOf (b.getD .skip)).getD k .skip

theorem keysZ_eq : (U K) = (K.map nt).map (Value.int .u32) := by simp [U]

set_option maxRecDepth 100000 in
set_option maxHeartbeats 1000000 in
theorem words_any (w : World) : Calls Tryd.prog 71 #[] w fun e w' => e = .returned (.agg (U K).toArray) ∧ Below w.heap.size w w' := by
  obtain ⟨L, hL⟩ : ∃ L, w.heap.size = L := ⟨_, rfl⟩
  obtain ⟨us, hus⟩ : ∃ us, U K = us := ⟨_, rfl⟩
  have hul : us.length = 64 := by rw [← hus, U_length, K_len]
  have hi := hid (show (Tryd.prog.info? 109).map (·.size) = some us.length by rw [hul]; kernel_rfl)
  have ho := hid (show ∀ v ∈ us, v.oneCell' = true by rw [← hus]; exact U_one K)
  have HE := hid hus
  have HUL := hid hul
  clear hus hul
  go_enter Tryd.func71, Tryd.ntmps71
  go_wp2_with (first
    | (show wpList _ _ _ (⟨some 0, Op.alloc _, _, _, _, _⟩ :: _) _ _; go_must (refine wpList_alloc_blk rfl 109 rfl _ zero64 L hL ?_); intro w1 hB1 hb1 hs1; replace hB1 := hid hB1; replace hb1 := hid hb1; have ht1 := hid (show w1.there L 0 us.length from hB1.out.there (by rw [U_length, List.length_replicate, HUL.out]; omega)))
    | (show wpList _ _ _ (⟨some 1, Op.build _ _, _, _, _, _⟩ :: _) _ _; go_must (refine wpList_buildFlatArrTo rfl 109 108 64 _ rfl .u32 (K.map nt) (some 1) rfl Tryd.underlying109 Tryd.sizeWord (by kernel_rfl) (by kernel_rfl) ?_); rw [← keysZ_eq, HE.out])
    | (show wpList _ _ _ (⟨none, Op.store _ _ _, _, _, _, _⟩ :: _) _ _; go_must (refine wpList_store_list rfl 109 _ _ rfl L 0 us rfl rfl ht1.out hi.out ho.out ?_); intro w2 hw2; replace hw2 := hid hw2))
  refine ret_cell 0 109 rfl L rfl us _ ?_ Tryd.underlying109 rfl hi.out rfl ⟨by rw [HE.out], ?_⟩
  · rw [hw2.out]
    exact World.rangeAt_setCells_same w1 L 0 us ht1.out
  · rw [hw2.out, hL]
    exact below_setCells (Nat.le_refl _) _ _ hb1.out

theorem four (m : List UInt8) (i : Nat) (h : 4 * i + 4 ≤ m.length) (h64 : 4 * i + 4 ≤ 64) :
    part m 64 i = byteOn (byteOn (byteOn (byteOn 0 (m.getD (4 * i) 0)) (m.getD (4 * i + 1) 0)) (m.getD (4 * i + 2) 0)) (m.getD (4 * i + 3) 0) := by
  have e : ((m.take 64).drop (4 * i)).take 4 = [m.getD (4 * i) 0, m.getD (4 * i + 1) 0, m.getD (4 * i + 2) 0, m.getD (4 * i + 3) 0] := by
    apply List.ext_getElem?
    intro j
    rw [List.getElem?_take, List.getElem?_drop, List.getElem?_take]
    match j with
    | 0 | 1 | 2 | 3 =>
      rw [if_pos (by omega), if_pos (by omega)]
      try simp only [Nat.add_zero]
      rw [List.getElem?_eq_getElem (by omega)]
      simp [List.getD_eq_getElem?_getD, List.getElem?_eq_getElem (show 4 * i < m.length by omega), List.getElem?_eq_getElem (show 4 * i + 1 < m.length by omega), List.getElem?_eq_getElem (show 4 * i + 2 < m.length by omega), List.getElem?_eq_getElem (show 4 * i + 3 < m.length by omega)]
    | j + 4 =>
      rw [if_neg (by omega)]
      simp
  unfold part
  rw [e]
  rfl
end Go.Proofs.YtinifnpajkldbaaDoor

/- The second say's Sum: sixteen words of a block. -/
namespace Go.Proofs.YtinifnpajkldbaaDoor
open Go.RowKit
set_option linter.unusedSimpArgs false
set_option linter.unusedVariables false
attribute [local go_sem] wadd wadd' wxor wand wnot

theorem or_add (a b k : Nat) (h : b < 2 ^ k) : a * 2 ^ k ||| b = a * 2 ^ k + b := by
  rw [Nat.mul_comm, ← Nat.two_pow_add_eq_or_of_lt h]
theorem byteOn_nat (x : UInt32) (b : UInt8) (h : x.toNat < 16777216) : (byteOn x b).toNat = x.toNat * 256 + b.toNat := by
  have hb := b.toNat_lt
  unfold byteOn
  rw [Nat.mod_eq_of_lt (by omega), show (256 : Nat) = 2 ^ 8 from rfl, or_add _ _ 8 (by omega), of_lt (by omega)]
theorem four_int (a b c d : UInt8) :
    bits .or .u32 (bits .or .u32 (bits .or .u32 ((a.toNat : Int) * 16777216 % 4294967296) ((b.toNat : Int) * 65536 % 4294967296)) ((c.toNat : Int) * 256 % 4294967296)) (d.toNat : Int) = nt (byteOn (byteOn (byteOn (byteOn 0 a) b) c) d) := by
  have ha := a.toNat_lt
  have hb := b.toNat_lt
  have hc := c.toNat_lt
  have hd := d.toNat_lt
  have z : (0 : UInt32).toNat = 0 := rfl
  have e1 := byteOn_nat 0 a (by rw [z]; omega)
  rw [z] at e1
  have e2 := byteOn_nat (byteOn 0 a) b (by omega)
  have e3 := byteOn_nat (byteOn (byteOn 0 a) b) c (by omega)
  have e4 := byteOn_nat (byteOn (byteOn (byteOn 0 a) b) c) d (by omega)
  have f1 : bits .or .u32 ((a.toNat : Int) * 16777216 % 4294967296) ((b.toNat : Int) * 65536 % 4294967296) = ((a.toNat * 16777216 + b.toNat * 65536 : Nat) : Int) := by
    rw [show ((a.toNat : Int) * 16777216 % 4294967296) = ((a.toNat * 16777216 : Nat) : Int) by omega, show ((b.toNat : Int) * 65536 % 4294967296) = ((b.toNat * 65536 : Nat) : Int) by omega, u32_or_nat _ _ (by omega) (by omega), show (16777216 : Nat) = 2 ^ 24 from rfl, or_add _ _ 24 (by omega)]
  have f2 : bits .or .u32 ((a.toNat * 16777216 + b.toNat * 65536 : Nat) : Int) ((c.toNat : Int) * 256 % 4294967296) = ((a.toNat * 16777216 + b.toNat * 65536 + c.toNat * 256 : Nat) : Int) := by
    rw [show ((c.toNat : Int) * 256 % 4294967296) = ((c.toNat * 256 : Nat) : Int) by omega, u32_or_nat _ _ (by omega) (by omega), show a.toNat * 16777216 + b.toNat * 65536 = (a.toNat * 256 + b.toNat) * 2 ^ 16 by omega, or_add _ _ 16 (by omega)]
  have f3 : bits .or .u32 ((a.toNat * 16777216 + b.toNat * 65536 + c.toNat * 256 : Nat) : Int) (d.toNat : Int) = ((a.toNat * 16777216 + b.toNat * 65536 + c.toNat * 256 + d.toNat : Nat) : Int) := by
    rw [u32_or_nat _ _ (by omega) (by omega), show a.toNat * 16777216 + b.toNat * 65536 + c.toNat * 256 = (a.toNat * 65536 + b.toNat * 256 + c.toNat) * 2 ^ 8 by omega, or_add _ _ 8 (by omega)]
  rw [f1, f2, f3]
  unfold nt
  rw [e4, e3, e2, e1]
  omega

theorem four_int' (a b c d : UInt8) :
    bits .or .u32 (bits .or .u32 (bits .or .u32 ((a.toNat : Int) * 16777216) ((b.toNat : Int) * 65536)) ((c.toNat : Int) * 256)) (d.toNat : Int) = nt (byteOn (byteOn (byteOn (byteOn 0 a) b) c) d) := by
  have ha := a.toNat_lt
  have hb := b.toNat_lt
  have hc := c.toNat_lt
  have h := four_int a b c d
  rw [Int.emod_eq_of_lt (by omega) (by omega), Int.emod_eq_of_lt (by omega) (by omega), Int.emod_eq_of_lt (by omega) (by omega)] at h
  exact h

set_option maxRecDepth 1000000 in
def I3 (L Lk Ls gt n ct Lw p : Nat) (t : List UInt8) (w1 : World) (a' : Act) (w' : World) : Prop :=
  ∃ (i : Nat) (z : List UInt32), a' = ⟨#[a'.tmps.getD 0 undef, a'.tmps.getD 1 undef, .pointer (some ⟨L, 0, none⟩), .pointer (some ⟨Lk, 0, none⟩), .pointer (some ⟨Ls, 0, none⟩), .slice (some ⟨gt, 0, none⟩) n ct, a'.tmps.getD 6 undef, a'.tmps.getD 7 undef, .pointer (some ⟨Lw, 0, none⟩), .int .i64 (p : Nat), .int .i64 (i : Nat), a'.tmps.getD 11 undef, a'.tmps.getD 12 undef, a'.tmps.getD 13 undef, a'.tmps.getD 14 undef, a'.tmps.getD 15 undef, a'.tmps.getD 16 undef, a'.tmps.getD 17 undef, a'.tmps.getD 18 undef, a'.tmps.getD 19 undef, a'.tmps.getD 20 undef, a'.tmps.getD 21 undef, a'.tmps.getD 22 undef, a'.tmps.getD 23 undef, a'.tmps.getD 24 undef, a'.tmps.getD 25 undef, a'.tmps.getD 26 undef, a'.tmps.getD 27 undef, a'.tmps.getD 28 undef, a'.tmps.getD 29 undef, a'.tmps.getD 30 undef, a'.tmps.getD 31 undef, a'.tmps.getD 32 undef, a'.tmps.getD 33 undef, a'.tmps.getD 34 undef, a'.tmps.getD 35 undef, a'.tmps.getD 36 undef, a'.tmps.getD 37 undef, a'.tmps.getD 38 undef, a'.tmps.getD 39 undef, a'.tmps.getD 40 undef, a'.tmps.getD 41 undef, a'.tmps.getD 42 undef, a'.tmps.getD 43 undef, a'.tmps.getD 44 undef, a'.tmps.getD 45 undef, a'.tmps.getD 46 undef, a'.tmps.getD 47 undef, a'.tmps.getD 48 undef, a'.tmps.getD 49 undef, a'.tmps.getD 50 undef, a'.tmps.getD 51 undef, a'.tmps.getD 52 undef, a'.tmps.getD 53 undef, a'.tmps.getD 54 undef, a'.tmps.getD 55 undef, a'.tmps.getD 56 undef, a'.tmps.getD 57 undef, a'.tmps.getD 58 undef, a'.tmps.getD 59 undef, a'.tmps.getD 60 undef, a'.tmps.getD 61 undef, a'.tmps.getD 62 undef, a'.tmps.getD 63 undef, a'.tmps.getD 64 undef, a'.tmps.getD 65 undef, a'.tmps.getD 66 undef, a'.tmps.getD 67 undef, a'.tmps.getD 68 undef, a'.tmps.getD 69 undef, a'.tmps.getD 70 undef, a'.tmps.getD 71 undef, a'.tmps.getD 72 undef, a'.tmps.getD 73 undef, a'.tmps.getD 74 undef, a'.tmps.getD 75 undef, a'.tmps.getD 76 undef, a'.tmps.getD 77 undef, a'.tmps.getD 78 undef, a'.tmps.getD 79 undef, a'.tmps.getD 80 undef, a'.tmps.getD 81 undef, a'.tmps.getD 82 undef, a'.tmps.getD 83 undef, a'.tmps.getD 84 undef, a'.tmps.getD 85 undef, a'.tmps.getD 86 undef, a'.tmps.getD 87 undef, a'.tmps.getD 88 undef, a'.tmps.getD 89 undef, a'.tmps.getD 90 undef, a'.tmps.getD 91 undef, a'.tmps.getD 92 undef, a'.tmps.getD 93 undef, a'.tmps.getD 94 undef, a'.tmps.getD 95 undef, a'.tmps.getD 96 undef, a'.tmps.getD 97 undef, a'.tmps.getD 98 undef, a'.tmps.getD 99 undef, a'.tmps.getD 100 undef, a'.tmps.getD 101 undef, a'.tmps.getD 102 undef, a'.tmps.getD 103 undef, a'.tmps.getD 104 undef, a'.tmps.getD 105 undef, a'.tmps.getD 106 undef, a'.tmps.getD 107 undef, a'.tmps.getD 108 undef, a'.tmps.getD 109 undef, a'.tmps.getD 110 undef, a'.tmps.getD 111 undef, a'.tmps.getD 112 undef, a'.tmps.getD 113 undef, a'.tmps.getD 114 undef, a'.tmps.getD 115 undef, a'.tmps.getD 116 undef, a'.tmps.getD 117 undef, a'.tmps.getD 118 undef, a'.tmps.getD 119 undef, a'.tmps.getD 120 undef, a'.tmps.getD 121 undef, a'.tmps.getD 122 undef, a'.tmps.getD 123 undef, a'.tmps.getD 124 undef, a'.tmps.getD 125 undef, a'.tmps.getD 126 undef, a'.tmps.getD 127 undef, a'.tmps.getD 128 undef, a'.tmps.getD 129 undef, a'.tmps.getD 130 undef, a'.tmps.getD 131 undef, a'.tmps.getD 132 undef, a'.tmps.getD 133 undef, a'.tmps.getD 134 undef, a'.tmps.getD 135 undef, a'.tmps.getD 136 undef, a'.tmps.getD 137 undef, a'.tmps.getD 138 undef, a'.tmps.getD 139 undef, a'.tmps.getD 140 undef, a'.tmps.getD 141 undef, a'.tmps.getD 142 undef, a'.tmps.getD 143 undef, a'.tmps.getD 144 undef, a'.tmps.getD 145 undef, a'.tmps.getD 146 undef, a'.tmps.getD 147 undef, a'.tmps.getD 148 undef, a'.tmps.getD 149 undef, a'.tmps.getD 150 undef, a'.tmps.getD 151 undef, a'.tmps.getD 152 undef, a'.tmps.getD 153 undef, a'.tmps.getD 154 undef, a'.tmps.getD 155 undef, a'.tmps.getD 156 undef, a'.tmps.getD 157 undef, a'.tmps.getD 158 undef, a'.tmps.getD 159 undef, a'.tmps.getD 160 undef, a'.tmps.getD 161 undef, a'.tmps.getD 162 undef, a'.tmps.getD 163 undef, a'.tmps.getD 164 undef, a'.tmps.getD 165 undef, a'.tmps.getD 166 undef, a'.tmps.getD 167 undef, a'.tmps.getD 168 undef, a'.tmps.getD 169 undef, a'.tmps.getD 170 undef, a'.tmps.getD 171 undef, a'.tmps.getD 172 undef, a'.tmps.getD 173 undef, a'.tmps.getD 174 undef, a'.tmps.getD 175 undef, a'.tmps.getD 176 undef, a'.tmps.getD 177 undef, a'.tmps.getD 178 undef, a'.tmps.getD 179 undef, a'.tmps.getD 180 undef, a'.tmps.getD 181 undef, a'.tmps.getD 182 undef, a'.tmps.getD 183 undef, a'.tmps.getD 184 undef, a'.tmps.getD 185 undef, a'.tmps.getD 186 undef, a'.tmps.getD 187 undef, a'.tmps.getD 188 undef, a'.tmps.getD 189 undef, a'.tmps.getD 190 undef, a'.tmps.getD 191 undef, a'.tmps.getD 192 undef, a'.tmps.getD 193 undef, a'.tmps.getD 194 undef, a'.tmps.getD 195 undef, a'.tmps.getD 196 undef, a'.tmps.getD 197 undef, a'.tmps.getD 198 undef, a'.tmps.getD 199 undef, a'.tmps.getD 200 undef, a'.tmps.getD 201 undef, a'.tmps.getD 202 undef, a'.tmps.getD 203 undef, a'.tmps.getD 204 undef, a'.tmps.getD 205 undef, a'.tmps.getD 206 undef, a'.tmps.getD 207 undef, a'.tmps.getD 208 undef, a'.tmps.getD 209 undef, a'.tmps.getD 210 undef, a'.tmps.getD 211 undef, a'.tmps.getD 212 undef, a'.tmps.getD 213 undef, a'.tmps.getD 214 undef, a'.tmps.getD 215 undef, a'.tmps.getD 216 undef, a'.tmps.getD 217 undef, a'.tmps.getD 218 undef, a'.tmps.getD 219 undef, a'.tmps.getD 220 undef, a'.tmps.getD 221 undef, a'.tmps.getD 222 undef, a'.tmps.getD 223 undef, a'.tmps.getD 224 undef, a'.tmps.getD 225 undef, a'.tmps.getD 226 undef, a'.tmps.getD 227 undef, a'.tmps.getD 228 undef, a'.tmps.getD 229 undef, a'.tmps.getD 230 undef, a'.tmps.getD 231 undef, a'.tmps.getD 232 undef, a'.tmps.getD 233 undef, a'.tmps.getD 234 undef, a'.tmps.getD 235 undef, a'.tmps.getD 236 undef, a'.tmps.getD 237 undef, a'.tmps.getD 238 undef, a'.tmps.getD 239 undef, a'.tmps.getD 240 undef, a'.tmps.getD 241 undef, a'.tmps.getD 242 undef, a'.tmps.getD 243 undef, a'.tmps.getD 244 undef, a'.tmps.getD 245 undef, a'.tmps.getD 246 undef, a'.tmps.getD 247 undef, a'.tmps.getD 248 undef, a'.tmps.getD 249 undef, a'.tmps.getD 250 undef, a'.tmps.getD 251 undef, a'.tmps.getD 252 undef, a'.tmps.getD 253 undef, a'.tmps.getD 254 undef, a'.tmps.getD 255 undef, a'.tmps.getD 256 undef, a'.tmps.getD 257 undef, a'.tmps.getD 258 undef, a'.tmps.getD 259 undef, a'.tmps.getD 260 undef, a'.tmps.getD 261 undef, a'.tmps.getD 262 undef, a'.tmps.getD 263 undef, a'.tmps.getD 264 undef, a'.tmps.getD 265 undef, a'.tmps.getD 266 undef, a'.tmps.getD 267 undef, a'.tmps.getD 268 undef, a'.tmps.getD 269 undef, a'.tmps.getD 270 undef, a'.tmps.getD 271 undef, a'.tmps.getD 272 undef, a'.tmps.getD 273 undef, a'.tmps.getD 274 undef, a'.tmps.getD 275 undef, a'.tmps.getD 276 undef, a'.tmps.getD 277 undef], []⟩ ∧ i ≤ 16 ∧ z.length = 64 - i ∧ Blk w' 109 Lw (U ((parts ((t.drop p).take 64) 64 16).take i ++ z)) ∧ w1.grownBy w' (some Lw)
set_option maxRecDepth 1000000 in
def X3 (L Lk Ls gt n ct Lw p : Nat) (t : List UInt8) (w1 : World) (a' : Act) (w' : World) : Prop :=
  ∃ z : List UInt32, a' = ⟨#[a'.tmps.getD 0 undef, a'.tmps.getD 1 undef, .pointer (some ⟨L, 0, none⟩), .pointer (some ⟨Lk, 0, none⟩), .pointer (some ⟨Ls, 0, none⟩), .slice (some ⟨gt, 0, none⟩) n ct, a'.tmps.getD 6 undef, a'.tmps.getD 7 undef, .pointer (some ⟨Lw, 0, none⟩), .int .i64 (p : Nat), a'.tmps.getD 10 undef, a'.tmps.getD 11 undef, a'.tmps.getD 12 undef, a'.tmps.getD 13 undef, a'.tmps.getD 14 undef, a'.tmps.getD 15 undef, a'.tmps.getD 16 undef, a'.tmps.getD 17 undef, a'.tmps.getD 18 undef, a'.tmps.getD 19 undef, a'.tmps.getD 20 undef, a'.tmps.getD 21 undef, a'.tmps.getD 22 undef, a'.tmps.getD 23 undef, a'.tmps.getD 24 undef, a'.tmps.getD 25 undef, a'.tmps.getD 26 undef, a'.tmps.getD 27 undef, a'.tmps.getD 28 undef, a'.tmps.getD 29 undef, a'.tmps.getD 30 undef, a'.tmps.getD 31 undef, a'.tmps.getD 32 undef, a'.tmps.getD 33 undef, a'.tmps.getD 34 undef, a'.tmps.getD 35 undef, a'.tmps.getD 36 undef, a'.tmps.getD 37 undef, a'.tmps.getD 38 undef, a'.tmps.getD 39 undef, a'.tmps.getD 40 undef, a'.tmps.getD 41 undef, a'.tmps.getD 42 undef, a'.tmps.getD 43 undef, a'.tmps.getD 44 undef, a'.tmps.getD 45 undef, a'.tmps.getD 46 undef, a'.tmps.getD 47 undef, a'.tmps.getD 48 undef, a'.tmps.getD 49 undef, a'.tmps.getD 50 undef, a'.tmps.getD 51 undef, a'.tmps.getD 52 undef, a'.tmps.getD 53 undef, a'.tmps.getD 54 undef, a'.tmps.getD 55 undef, a'.tmps.getD 56 undef, a'.tmps.getD 57 undef, a'.tmps.getD 58 undef, a'.tmps.getD 59 undef, a'.tmps.getD 60 undef, a'.tmps.getD 61 undef, a'.tmps.getD 62 undef, a'.tmps.getD 63 undef, a'.tmps.getD 64 undef, a'.tmps.getD 65 undef, a'.tmps.getD 66 undef, a'.tmps.getD 67 undef, a'.tmps.getD 68 undef, a'.tmps.getD 69 undef, a'.tmps.getD 70 undef, a'.tmps.getD 71 undef, a'.tmps.getD 72 undef, a'.tmps.getD 73 undef, a'.tmps.getD 74 undef, a'.tmps.getD 75 undef, a'.tmps.getD 76 undef, a'.tmps.getD 77 undef, a'.tmps.getD 78 undef, a'.tmps.getD 79 undef, a'.tmps.getD 80 undef, a'.tmps.getD 81 undef, a'.tmps.getD 82 undef, a'.tmps.getD 83 undef, a'.tmps.getD 84 undef, a'.tmps.getD 85 undef, a'.tmps.getD 86 undef, a'.tmps.getD 87 undef, a'.tmps.getD 88 undef, a'.tmps.getD 89 undef, a'.tmps.getD 90 undef, a'.tmps.getD 91 undef, a'.tmps.getD 92 undef, a'.tmps.getD 93 undef, a'.tmps.getD 94 undef, a'.tmps.getD 95 undef, a'.tmps.getD 96 undef, a'.tmps.getD 97 undef, a'.tmps.getD 98 undef, a'.tmps.getD 99 undef, a'.tmps.getD 100 undef, a'.tmps.getD 101 undef, a'.tmps.getD 102 undef, a'.tmps.getD 103 undef, a'.tmps.getD 104 undef, a'.tmps.getD 105 undef, a'.tmps.getD 106 undef, a'.tmps.getD 107 undef, a'.tmps.getD 108 undef, a'.tmps.getD 109 undef, a'.tmps.getD 110 undef, a'.tmps.getD 111 undef, a'.tmps.getD 112 undef, a'.tmps.getD 113 undef, a'.tmps.getD 114 undef, a'.tmps.getD 115 undef, a'.tmps.getD 116 undef, a'.tmps.getD 117 undef, a'.tmps.getD 118 undef, a'.tmps.getD 119 undef, a'.tmps.getD 120 undef, a'.tmps.getD 121 undef, a'.tmps.getD 122 undef, a'.tmps.getD 123 undef, a'.tmps.getD 124 undef, a'.tmps.getD 125 undef, a'.tmps.getD 126 undef, a'.tmps.getD 127 undef, a'.tmps.getD 128 undef, a'.tmps.getD 129 undef, a'.tmps.getD 130 undef, a'.tmps.getD 131 undef, a'.tmps.getD 132 undef, a'.tmps.getD 133 undef, a'.tmps.getD 134 undef, a'.tmps.getD 135 undef, a'.tmps.getD 136 undef, a'.tmps.getD 137 undef, a'.tmps.getD 138 undef, a'.tmps.getD 139 undef, a'.tmps.getD 140 undef, a'.tmps.getD 141 undef, a'.tmps.getD 142 undef, a'.tmps.getD 143 undef, a'.tmps.getD 144 undef, a'.tmps.getD 145 undef, a'.tmps.getD 146 undef, a'.tmps.getD 147 undef, a'.tmps.getD 148 undef, a'.tmps.getD 149 undef, a'.tmps.getD 150 undef, a'.tmps.getD 151 undef, a'.tmps.getD 152 undef, a'.tmps.getD 153 undef, a'.tmps.getD 154 undef, a'.tmps.getD 155 undef, a'.tmps.getD 156 undef, a'.tmps.getD 157 undef, a'.tmps.getD 158 undef, a'.tmps.getD 159 undef, a'.tmps.getD 160 undef, a'.tmps.getD 161 undef, a'.tmps.getD 162 undef, a'.tmps.getD 163 undef, a'.tmps.getD 164 undef, a'.tmps.getD 165 undef, a'.tmps.getD 166 undef, a'.tmps.getD 167 undef, a'.tmps.getD 168 undef, a'.tmps.getD 169 undef, a'.tmps.getD 170 undef, a'.tmps.getD 171 undef, a'.tmps.getD 172 undef, a'.tmps.getD 173 undef, a'.tmps.getD 174 undef, a'.tmps.getD 175 undef, a'.tmps.getD 176 undef, a'.tmps.getD 177 undef, a'.tmps.getD 178 undef, a'.tmps.getD 179 undef, a'.tmps.getD 180 undef, a'.tmps.getD 181 undef, a'.tmps.getD 182 undef, a'.tmps.getD 183 undef, a'.tmps.getD 184 undef, a'.tmps.getD 185 undef, a'.tmps.getD 186 undef, a'.tmps.getD 187 undef, a'.tmps.getD 188 undef, a'.tmps.getD 189 undef, a'.tmps.getD 190 undef, a'.tmps.getD 191 undef, a'.tmps.getD 192 undef, a'.tmps.getD 193 undef, a'.tmps.getD 194 undef, a'.tmps.getD 195 undef, a'.tmps.getD 196 undef, a'.tmps.getD 197 undef, a'.tmps.getD 198 undef, a'.tmps.getD 199 undef, a'.tmps.getD 200 undef, a'.tmps.getD 201 undef, a'.tmps.getD 202 undef, a'.tmps.getD 203 undef, a'.tmps.getD 204 undef, a'.tmps.getD 205 undef, a'.tmps.getD 206 undef, a'.tmps.getD 207 undef, a'.tmps.getD 208 undef, a'.tmps.getD 209 undef, a'.tmps.getD 210 undef, a'.tmps.getD 211 undef, a'.tmps.getD 212 undef, a'.tmps.getD 213 undef, a'.tmps.getD 214 undef, a'.tmps.getD 215 undef, a'.tmps.getD 216 undef, a'.tmps.getD 217 undef, a'.tmps.getD 218 undef, a'.tmps.getD 219 undef, a'.tmps.getD 220 undef, a'.tmps.getD 221 undef, a'.tmps.getD 222 undef, a'.tmps.getD 223 undef, a'.tmps.getD 224 undef, a'.tmps.getD 225 undef, a'.tmps.getD 226 undef, a'.tmps.getD 227 undef, a'.tmps.getD 228 undef, a'.tmps.getD 229 undef, a'.tmps.getD 230 undef, a'.tmps.getD 231 undef, a'.tmps.getD 232 undef, a'.tmps.getD 233 undef, a'.tmps.getD 234 undef, a'.tmps.getD 235 undef, a'.tmps.getD 236 undef, a'.tmps.getD 237 undef, a'.tmps.getD 238 undef, a'.tmps.getD 239 undef, a'.tmps.getD 240 undef, a'.tmps.getD 241 undef, a'.tmps.getD 242 undef, a'.tmps.getD 243 undef, a'.tmps.getD 244 undef, a'.tmps.getD 245 undef, a'.tmps.getD 246 undef, a'.tmps.getD 247 undef, a'.tmps.getD 248 undef, a'.tmps.getD 249 undef, a'.tmps.getD 250 undef, a'.tmps.getD 251 undef, a'.tmps.getD 252 undef, a'.tmps.getD 253 undef, a'.tmps.getD 254 undef, a'.tmps.getD 255 undef, a'.tmps.getD 256 undef, a'.tmps.getD 257 undef, a'.tmps.getD 258 undef, a'.tmps.getD 259 undef, a'.tmps.getD 260 undef, a'.tmps.getD 261 undef, a'.tmps.getD 262 undef, a'.tmps.getD 263 undef, a'.tmps.getD 264 undef, a'.tmps.getD 265 undef, a'.tmps.getD 266 undef, a'.tmps.getD 267 undef, a'.tmps.getD 268 undef, a'.tmps.getD 269 undef, a'.tmps.getD 270 undef, a'.tmps.getD 271 undef, a'.tmps.getD 272 undef, a'.tmps.getD 273 undef, a'.tmps.getD 274 undef, a'.tmps.getD 275 undef, a'.tmps.getD 276 undef, a'.tmps.getD 277 undef], []⟩ ∧ z.length = 48 ∧ Blk w' 109 Lw (U (parts ((t.drop p).take 64) 64 16 ++ z)) ∧ w1.grownBy w' (some Lw)

set_option maxRecDepth 1000000 in
set_option maxHeartbeats 4000000 in
theorem ref3 (L Lk Ls gt n ct Lw p : Nat) (t : List UInt8) (hp : p + 64 ≤ n) (hn : n ≤ 100000) (hg : gt ≠ Lw) (w1 : World) (hO : Owns w1 5 gt ct n (B t)) (Q : Exit → Act → World → Prop)
    (hexit : ∀ a' w', X3 L Lk Ls gt n ct Lw p t w1 a' w' → Q (.exit 6) a' w')
    (a : Act) (w : World) (h0 : I3 L Lk Ls gt n ct Lw p t w1 a w) :
    (Code.loop (rb Tryd.f46.body 3)).wp Tryd.prog Q a w := by
  refine wp_loop (I3 L Lk Ls gt n ct Lw p t w1) (fun a' _ => 16 - (intOf (a'.tmps.getD 10 undef)).toNat) h0 ?_
  rintro a' w' ⟨i, z, ha, hi, hz, hB, hgr⟩
  obtain ⟨f, ha2⟩ : ∃ f : Nat → Value, a' = ⟨#[f 0, f 1, .pointer (some ⟨L, 0, none⟩), .pointer (some ⟨Lk, 0, none⟩), .pointer (some ⟨Ls, 0, none⟩), .slice (some ⟨gt, 0, none⟩) n ct, f 6, f 7, .pointer (some ⟨Lw, 0, none⟩), .int .i64 (p : Nat), .int .i64 (i : Nat), f 11, f 12, f 13, f 14, f 15, f 16, f 17, f 18, f 19, f 20, f 21, f 22, f 23, f 24, f 25, f 26, f 27, f 28, f 29, f 30, f 31, f 32, f 33, f 34, f 35, f 36, f 37, f 38, f 39, f 40, f 41, f 42, f 43, f 44, f 45, f 46, f 47, f 48, f 49, f 50, f 51, f 52, f 53, f 54, f 55, f 56, f 57, f 58, f 59, f 60, f 61, f 62, f 63, f 64, f 65, f 66, f 67, f 68, f 69, f 70, f 71, f 72, f 73, f 74, f 75, f 76, f 77, f 78, f 79, f 80, f 81, f 82, f 83, f 84, f 85, f 86, f 87, f 88, f 89, f 90, f 91, f 92, f 93, f 94, f 95, f 96, f 97, f 98, f 99, f 100, f 101, f 102, f 103, f 104, f 105, f 106, f 107, f 108, f 109, f 110, f 111, f 112, f 113, f 114, f 115, f 116, f 117, f 118, f 119, f 120, f 121, f 122, f 123, f 124, f 125, f 126, f 127, f 128, f 129, f 130, f 131, f 132, f 133, f 134, f 135, f 136, f 137, f 138, f 139, f 140, f 141, f 142, f 143, f 144, f 145, f 146, f 147, f 148, f 149, f 150, f 151, f 152, f 153, f 154, f 155, f 156, f 157, f 158, f 159, f 160, f 161, f 162, f 163, f 164, f 165, f 166, f 167, f 168, f 169, f 170, f 171, f 172, f 173, f 174, f 175, f 176, f 177, f 178, f 179, f 180, f 181, f 182, f 183, f 184, f 185, f 186, f 187, f 188, f 189, f 190, f 191, f 192, f 193, f 194, f 195, f 196, f 197, f 198, f 199, f 200, f 201, f 202, f 203, f 204, f 205, f 206, f 207, f 208, f 209, f 210, f 211, f 212, f 213, f 214, f 215, f 216, f 217, f 218, f 219, f 220, f 221, f 222, f 223, f 224, f 225, f 226, f 227, f 228, f 229, f 230, f 231, f 232, f 233, f 234, f 235, f 236, f 237, f 238, f 239, f 240, f 241, f 242, f 243, f 244, f 245, f 246, f 247, f 248, f 249, f 250, f 251, f 252, f 253, f 254, f 255, f 256, f 257, f 258, f 259, f 260, f 261, f 262, f 263, f 264, f 265, f 266, f 267, f 268, f 269, f 270, f 271, f 272, f 273, f 274, f 275, f 276, f 277], []⟩ := ⟨fun j => a'.tmps.getD j undef, ha⟩
  clear ha h0
  subst ha2
  conv => arg 2; whnf
  obtain ⟨pl, hpl⟩ : ∃ pl, parts ((t.drop p).take 64) 64 16 = pl := ⟨_, rfl⟩
  rw [hpl] at hB
  have hpll : pl.length = 16 := by rw [← hpl, parts_len]
  by_cases hlt : i < 16
  · have hlt' : (i : Int) < 16 := by omega
    have hnl : t.length = n := by have := hO.1; rwa [B_length] at this
    have hct : n ≤ ct := hO.2.1
    have hO' : Owns w' 5 gt ct n (B t) := hO.kept (hgr.block gt hO.lt (by intro e; injection e; omega))
    obtain ⟨b0, e0⟩ : ∃ b, t.getD (p + 4 * i) 0 = b := ⟨_, rfl⟩
    obtain ⟨b1, e1⟩ : ∃ b, t.getD (p + 4 * i + 1) 0 = b := ⟨_, rfl⟩
    obtain ⟨b2, e2⟩ : ∃ b, t.getD (p + 4 * i + 2) 0 = b := ⟨_, rfl⟩
    obtain ⟨b3, e3⟩ : ∃ b, t.getD (p + 4 * i + 3) 0 = b := ⟨_, rfl⟩
    have c0 := hO'.cell (B_getD t (p + 4 * i) (by omega))
    have c1 := hO'.cell (B_getD t (p + 4 * i + 1) (by omega))
    have c2 := hO'.cell (B_getD t (p + 4 * i + 2) (by omega))
    have c3 := hO'.cell (B_getD t (p + 4 * i + 3) (by omega))
    rw [e0] at c0
    rw [e1] at c1
    rw [e2] at c2
    rw [e3] at c3
    cases z with
    | nil => simp at hz; omega
    | cons z0 z =>
    have hpi : (pl.take i).length = i := by rw [List.length_take]; omega
    have cw := hB.cell (j := i) (u := .int .u32 (nt z0)) (by rw [U_append, List.getElem?_append_right (by rw [U_length]; omega), U_length, hpi, Nat.sub_self]; rfl)
    have fw := hB.frozen i
    have hm : ∀ k, k < 64 → ((t.drop p).take 64).getD k 0 = t.getD (p + k) 0 := by
      intro k hk
      simp only [List.getD_eq_getElem?_getD, List.getElem?_take, List.getElem?_drop, if_pos hk]
    have HST := hid (show pl.take (i + 1) = pl.take i ++ [byteOn (byteOn (byteOn (byteOn 0 b0) b1) b2) b3] by
      have hg : pl[i]? = some (part ((t.drop p).take 64) 64 i) := by rw [← hpl]; simp [parts, hlt]
      rw [List.take_add_one, hg, four _ i (by rw [List.length_take, List.length_drop]; omega) (by omega), hm _ (by omega), hm _ (by omega), hm _ (by omega), hm _ (by omega), e0, ← Nat.add_assoc, e1, ← Nat.add_assoc, e2, ← Nat.add_assoc, e3]
      rfl)
    have HSB := hid (show ∀ w2 : World, w2.heap[Lw]? = w'.heap[Lw]? → ∀ x, Blk (w2.setCell ⟨Lw, i, none⟩ (.int .u32 (nt x))) 109 Lw (U ((pl.take i ++ [x]) ++ z)) by
      intro w2 he x
      have := (hB.kept he).setCell i (.int .u32 (nt x))
      rw [U_append, List.set_append_right _ _ (by rw [U_length]; omega), U_length, hpi, Nat.sub_self] at this
      simpa [U] using this)
    have Hgr := hid hgr
    have Hz := hid hz
    have h0 : (b0.toNat : Int) ≤ 255 := by have := b0.toNat_lt; omega
    have h1 : (b1.toNat : Int) ≤ 255 := by have := b1.toNat_lt; omega
    have h2 : (b2.toNat : Int) ≤ 255 := by have := b2.toNat_lt; omega
    have h3 : (b3.toNat : Int) ≤ 255 := by have := b3.toNat_lt; omega
    have hF := four_int' b0 b1 b2 b3
    clear hB hgr hO hO' e0 e1 e2 e3 hz hm hpll hpi hexit
    replace cw := cellD_of cw
    have HS : Hid (∀ (w'' : World) (v : Value), (w''.cell? ⟨gt, p + 4 * i, none⟩ = some (.int .u8 b0.toNat) ∧ w''.cell? ⟨gt, p + 4 * i + 1, none⟩ = some (.int .u8 b1.toNat) ∧ w''.cell? ⟨gt, p + 4 * i + 2, none⟩ = some (.int .u8 b2.toNat) ∧ w''.cell? ⟨gt, p + 4 * i + 3, none⟩ = some (.int .u8 b3.toNat) ∧ w''.cell? ⟨Lw, i, none⟩ = some (cellD w'' ⟨Lw, i, none⟩) ∧ w''.frozen? ⟨Lw, i, none⟩ = false) → (w''.setCell ⟨Lw, i, none⟩ v).cell? ⟨gt, p + 4 * i, none⟩ = some (.int .u8 b0.toNat) ∧ (w''.setCell ⟨Lw, i, none⟩ v).cell? ⟨gt, p + 4 * i + 1, none⟩ = some (.int .u8 b1.toNat) ∧ (w''.setCell ⟨Lw, i, none⟩ v).cell? ⟨gt, p + 4 * i + 2, none⟩ = some (.int .u8 b2.toNat) ∧ (w''.setCell ⟨Lw, i, none⟩ v).cell? ⟨gt, p + 4 * i + 3, none⟩ = some (.int .u8 b3.toNat) ∧ (w''.setCell ⟨Lw, i, none⟩ v).cell? ⟨Lw, i, none⟩ = some (cellD (w''.setCell ⟨Lw, i, none⟩ v) ⟨Lw, i, none⟩) ∧ (w''.setCell ⟨Lw, i, none⟩ v).frozen? ⟨Lw, i, none⟩ = false) := by
      rintro w'' v ⟨a1, a2, a3, a4, a5, a6⟩
      refine ⟨?_, ?_, ?_, ?_, cellD_set a5, by rw [World.frozen?_setCell]; exact a6⟩
      · rw [World.cell?_setCell_other _ _ _ _ (by intro h; injection h; omega)]; exact a1
      · rw [World.cell?_setCell_other _ _ _ _ (by intro h; injection h; omega)]; exact a2
      · rw [World.cell?_setCell_other _ _ _ _ (by intro h; injection h; omega)]; exact a3
      · rw [World.cell?_setCell_other _ _ _ _ (by intro h; injection h; omega)]; exact a4
    have hi0 : (0 : Int) ≤ (i : Int) := by omega
    have hi64 : (i : Int) < 64 := by omega
    have u0 : (0 : Int) ≤ (p : Int) + 4 * (i : Int) := by omega
    have u1 : (0 : Int) ≤ (p : Int) + 4 * (i : Int) + 1 := by omega
    have u2 : (0 : Int) ≤ (p : Int) + 4 * (i : Int) + 2 := by omega
    have u3 : (0 : Int) ≤ (p : Int) + 4 * (i : Int) + 3 := by omega
    have l0 : (p : Int) + 4 * (i : Int) < (n : Int) := by omega
    have l1 : (p : Int) + 4 * (i : Int) + 1 < (n : Int) := by omega
    have l2 : (p : Int) + 4 * (i : Int) + 2 < (n : Int) := by omega
    have l3 : (p : Int) + 4 * (i : Int) + 3 < (n : Int) := by omega
    have t0 : ((p : Int) + 4 * (i : Int)).toNat = p + 4 * i := by omega
    have t1 : ((p : Int) + 4 * (i : Int) + 1).toNat = p + 4 * i + 1 := by omega
    have t2 : ((p : Int) + 4 * (i : Int) + 2).toNat = p + 4 * i + 2 := by omega
    have t3 : ((p : Int) + 4 * (i : Int) + 3).toNat = p + 4 * i + 3 := by omega
    have v1 : IntKind.i64.wrap ((p : Int) + 4 * (i : Int) + 1) = (p : Int) + 4 * (i : Int) + 1 := IntWalk.i64_in _ (by omega)
    have v2 : IntKind.i64.wrap ((p : Int) + 4 * (i : Int) + 2) = (p : Int) + 4 * (i : Int) + 2 := IntWalk.i64_in _ (by omega)
    have v3 : IntKind.i64.wrap ((p : Int) + 4 * (i : Int) + 3) = (p : Int) + 4 * (i : Int) + 3 := IntWalk.i64_in _ (by omega)
    go_wp2_with fail
    go_region_held3 (fun w'' => w''.cell? ⟨gt, p + 4 * i, none⟩ = some (.int .u8 b0.toNat) ∧ w''.cell? ⟨gt, p + 4 * i + 1, none⟩ = some (.int .u8 b1.toNat) ∧ w''.cell? ⟨gt, p + 4 * i + 2, none⟩ = some (.int .u8 b2.toNat) ∧ w''.cell? ⟨gt, p + 4 * i + 3, none⟩ = some (.int .u8 b3.toNat) ∧ w''.cell? ⟨Lw, i, none⟩ = some (cellD w'' ⟨Lw, i, none⟩) ∧ w''.frozen? ⟨Lw, i, none⟩ = false) (first | (refine HS.out _ _ ?_; go_split_ands; refine ⟨?_, ?_, ?_, ?_, ?_, ?_⟩ <;> first | assumption | go_keep) | (go_split_ands; refine ⟨?_, ?_, ?_, ?_, ?_, ?_⟩ <;> first | assumption | go_keep)) (fail)
    go_wp2_with fail
    refine ⟨⟨i + 1, z, by kernel_rfl, by omega, by have := Hz.out; simp at this; omega, ?_, grown_drew (grown_setCell Hgr.out Lw i _ (.inl rfl))⟩, by simp [intOf]; omega⟩
    rw [hpl, HST.out, hF]
    exact (HSB.out w' rfl _).kept rfl
  · have hi16 : i = 16 := by omega
    subst hi16
    rw [← hpl, List.take_of_length_le (by rw [parts_len]; omega)] at hB
    have HB := hid hB
    have Hgr := hid hgr
    have Hz := hid hz
    clear hB hgr hO hz hpl hpll
    go_wp2_with fail
    exact ⟨z, by kernel_rfl, Hz.out, HB.out, Hgr.out⟩
end Go.Proofs.YtinifnpajkldbaaDoor
