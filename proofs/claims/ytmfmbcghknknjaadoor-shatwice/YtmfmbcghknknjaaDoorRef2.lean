/- The second say's Sum: the blocks, one behind the other. -/
import Derived.Test.YtmfmbcghknknjaaDoorRef6
namespace Go.Proofs.YtmfmbcghknknjaaDoor
open Go.RowKit
set_option linter.unusedSimpArgs false
set_option linter.unusedVariables false
attribute [local go_sem] wadd wadd' wxor wand wnot

theorem zero8 : (Tryd.prog.info? 39).bind (fun i => i.zero.map fun z => z.cells.toList) = some (U (List.replicate 8 0)) := by kernel_rfl

/-- What lies in memory while the blocks are taken: t the filled bytes, q how many blocks. -/
structure RW (L Lk Ls gt n ct Lw : Nat) (t : List UInt8) (w0 : World) (q : Nat) (ws : List UInt32) (w' : World) : Prop where
  out : Blk w' 24 L (B (List.replicate 32 0))
  k : Blk w' 42 Lk (U K)
  s : Blk w' 39 Ls (U (runS t q).l)
  wl : ws.length = 64
  wd : Blk w' 42 Lw (U ws)
  t : Owns w' 5 gt ct n (B t)
  b : Below L w0 w'

set_option maxRecDepth 1000000 in
def I2 (L Lk Ls gt n ct Lw : Nat) (t : List UInt8) (w0 : World) (a' : Act) (w' : World) : Prop :=
  ∃ (q p : Nat) (ws : List UInt32), a' = ⟨#[a'.tmps.getD 0 undef, a'.tmps.getD 1 undef, .pointer (some ⟨L, 0, none⟩), .pointer (some ⟨Lk, 0, none⟩), .pointer (some ⟨Ls, 0, none⟩), .slice (some ⟨gt, 0, none⟩) n ct, a'.tmps.getD 6 undef, a'.tmps.getD 7 undef, .pointer (some ⟨Lw, 0, none⟩), .int .i64 (p : Nat), a'.tmps.getD 10 undef, a'.tmps.getD 11 undef, a'.tmps.getD 12 undef, a'.tmps.getD 13 undef, a'.tmps.getD 14 undef, a'.tmps.getD 15 undef, a'.tmps.getD 16 undef, a'.tmps.getD 17 undef, a'.tmps.getD 18 undef, a'.tmps.getD 19 undef, a'.tmps.getD 20 undef, a'.tmps.getD 21 undef, a'.tmps.getD 22 undef, a'.tmps.getD 23 undef, a'.tmps.getD 24 undef, a'.tmps.getD 25 undef, a'.tmps.getD 26 undef, a'.tmps.getD 27 undef, a'.tmps.getD 28 undef, a'.tmps.getD 29 undef, a'.tmps.getD 30 undef, a'.tmps.getD 31 undef, a'.tmps.getD 32 undef, a'.tmps.getD 33 undef, a'.tmps.getD 34 undef, a'.tmps.getD 35 undef, a'.tmps.getD 36 undef, a'.tmps.getD 37 undef, a'.tmps.getD 38 undef, a'.tmps.getD 39 undef, a'.tmps.getD 40 undef, a'.tmps.getD 41 undef, a'.tmps.getD 42 undef, a'.tmps.getD 43 undef, a'.tmps.getD 44 undef, a'.tmps.getD 45 undef, a'.tmps.getD 46 undef, a'.tmps.getD 47 undef, a'.tmps.getD 48 undef, a'.tmps.getD 49 undef, a'.tmps.getD 50 undef, a'.tmps.getD 51 undef, a'.tmps.getD 52 undef, a'.tmps.getD 53 undef, a'.tmps.getD 54 undef, a'.tmps.getD 55 undef, a'.tmps.getD 56 undef, a'.tmps.getD 57 undef, a'.tmps.getD 58 undef, a'.tmps.getD 59 undef, a'.tmps.getD 60 undef, a'.tmps.getD 61 undef, a'.tmps.getD 62 undef, a'.tmps.getD 63 undef, a'.tmps.getD 64 undef, a'.tmps.getD 65 undef, a'.tmps.getD 66 undef, a'.tmps.getD 67 undef, a'.tmps.getD 68 undef, a'.tmps.getD 69 undef, a'.tmps.getD 70 undef, a'.tmps.getD 71 undef, a'.tmps.getD 72 undef, a'.tmps.getD 73 undef, a'.tmps.getD 74 undef, a'.tmps.getD 75 undef, a'.tmps.getD 76 undef, a'.tmps.getD 77 undef, a'.tmps.getD 78 undef, a'.tmps.getD 79 undef, a'.tmps.getD 80 undef, a'.tmps.getD 81 undef, a'.tmps.getD 82 undef, a'.tmps.getD 83 undef, a'.tmps.getD 84 undef, a'.tmps.getD 85 undef, a'.tmps.getD 86 undef, a'.tmps.getD 87 undef, a'.tmps.getD 88 undef, a'.tmps.getD 89 undef, a'.tmps.getD 90 undef, a'.tmps.getD 91 undef, a'.tmps.getD 92 undef, a'.tmps.getD 93 undef, a'.tmps.getD 94 undef, a'.tmps.getD 95 undef, a'.tmps.getD 96 undef, a'.tmps.getD 97 undef, a'.tmps.getD 98 undef, a'.tmps.getD 99 undef, a'.tmps.getD 100 undef, a'.tmps.getD 101 undef, a'.tmps.getD 102 undef, a'.tmps.getD 103 undef, a'.tmps.getD 104 undef, a'.tmps.getD 105 undef, a'.tmps.getD 106 undef, a'.tmps.getD 107 undef, a'.tmps.getD 108 undef, a'.tmps.getD 109 undef, a'.tmps.getD 110 undef, a'.tmps.getD 111 undef, a'.tmps.getD 112 undef, a'.tmps.getD 113 undef, a'.tmps.getD 114 undef, a'.tmps.getD 115 undef, a'.tmps.getD 116 undef, a'.tmps.getD 117 undef, a'.tmps.getD 118 undef, a'.tmps.getD 119 undef, a'.tmps.getD 120 undef, a'.tmps.getD 121 undef, a'.tmps.getD 122 undef, a'.tmps.getD 123 undef, a'.tmps.getD 124 undef, a'.tmps.getD 125 undef, a'.tmps.getD 126 undef, a'.tmps.getD 127 undef, a'.tmps.getD 128 undef, a'.tmps.getD 129 undef, a'.tmps.getD 130 undef, a'.tmps.getD 131 undef, a'.tmps.getD 132 undef, a'.tmps.getD 133 undef, a'.tmps.getD 134 undef, a'.tmps.getD 135 undef, a'.tmps.getD 136 undef, a'.tmps.getD 137 undef, a'.tmps.getD 138 undef, a'.tmps.getD 139 undef, a'.tmps.getD 140 undef, a'.tmps.getD 141 undef, a'.tmps.getD 142 undef, a'.tmps.getD 143 undef, a'.tmps.getD 144 undef, a'.tmps.getD 145 undef, a'.tmps.getD 146 undef, a'.tmps.getD 147 undef, a'.tmps.getD 148 undef, a'.tmps.getD 149 undef, a'.tmps.getD 150 undef, a'.tmps.getD 151 undef, a'.tmps.getD 152 undef, a'.tmps.getD 153 undef, a'.tmps.getD 154 undef, a'.tmps.getD 155 undef, a'.tmps.getD 156 undef, a'.tmps.getD 157 undef, a'.tmps.getD 158 undef, a'.tmps.getD 159 undef, a'.tmps.getD 160 undef, a'.tmps.getD 161 undef, a'.tmps.getD 162 undef, a'.tmps.getD 163 undef, a'.tmps.getD 164 undef, a'.tmps.getD 165 undef, a'.tmps.getD 166 undef, a'.tmps.getD 167 undef, a'.tmps.getD 168 undef, a'.tmps.getD 169 undef, a'.tmps.getD 170 undef, a'.tmps.getD 171 undef, a'.tmps.getD 172 undef, a'.tmps.getD 173 undef, a'.tmps.getD 174 undef, a'.tmps.getD 175 undef, a'.tmps.getD 176 undef, a'.tmps.getD 177 undef, a'.tmps.getD 178 undef, a'.tmps.getD 179 undef, a'.tmps.getD 180 undef, a'.tmps.getD 181 undef, a'.tmps.getD 182 undef, a'.tmps.getD 183 undef, a'.tmps.getD 184 undef, a'.tmps.getD 185 undef, a'.tmps.getD 186 undef, a'.tmps.getD 187 undef, a'.tmps.getD 188 undef, a'.tmps.getD 189 undef, a'.tmps.getD 190 undef, a'.tmps.getD 191 undef, a'.tmps.getD 192 undef, a'.tmps.getD 193 undef, a'.tmps.getD 194 undef, a'.tmps.getD 195 undef, a'.tmps.getD 196 undef, a'.tmps.getD 197 undef, a'.tmps.getD 198 undef, a'.tmps.getD 199 undef, a'.tmps.getD 200 undef, a'.tmps.getD 201 undef, a'.tmps.getD 202 undef, a'.tmps.getD 203 undef, a'.tmps.getD 204 undef, a'.tmps.getD 205 undef, a'.tmps.getD 206 undef, a'.tmps.getD 207 undef, a'.tmps.getD 208 undef, a'.tmps.getD 209 undef, a'.tmps.getD 210 undef, a'.tmps.getD 211 undef, a'.tmps.getD 212 undef, a'.tmps.getD 213 undef, a'.tmps.getD 214 undef, a'.tmps.getD 215 undef, a'.tmps.getD 216 undef, a'.tmps.getD 217 undef, a'.tmps.getD 218 undef, a'.tmps.getD 219 undef, a'.tmps.getD 220 undef, a'.tmps.getD 221 undef, a'.tmps.getD 222 undef, a'.tmps.getD 223 undef, a'.tmps.getD 224 undef, a'.tmps.getD 225 undef, a'.tmps.getD 226 undef, a'.tmps.getD 227 undef, a'.tmps.getD 228 undef, a'.tmps.getD 229 undef, a'.tmps.getD 230 undef, a'.tmps.getD 231 undef, a'.tmps.getD 232 undef, a'.tmps.getD 233 undef, a'.tmps.getD 234 undef, a'.tmps.getD 235 undef, a'.tmps.getD 236 undef, a'.tmps.getD 237 undef, a'.tmps.getD 238 undef, a'.tmps.getD 239 undef, a'.tmps.getD 240 undef, a'.tmps.getD 241 undef, a'.tmps.getD 242 undef, a'.tmps.getD 243 undef, a'.tmps.getD 244 undef, a'.tmps.getD 245 undef, a'.tmps.getD 246 undef, a'.tmps.getD 247 undef, a'.tmps.getD 248 undef, a'.tmps.getD 249 undef, a'.tmps.getD 250 undef, a'.tmps.getD 251 undef, a'.tmps.getD 252 undef, a'.tmps.getD 253 undef, a'.tmps.getD 254 undef, a'.tmps.getD 255 undef, a'.tmps.getD 256 undef, a'.tmps.getD 257 undef, a'.tmps.getD 258 undef, a'.tmps.getD 259 undef, a'.tmps.getD 260 undef, a'.tmps.getD 261 undef, a'.tmps.getD 262 undef, a'.tmps.getD 263 undef, a'.tmps.getD 264 undef, a'.tmps.getD 265 undef, a'.tmps.getD 266 undef, a'.tmps.getD 267 undef, a'.tmps.getD 268 undef, a'.tmps.getD 269 undef, a'.tmps.getD 270 undef, a'.tmps.getD 271 undef, a'.tmps.getD 272 undef, a'.tmps.getD 273 undef, a'.tmps.getD 274 undef, a'.tmps.getD 275 undef, a'.tmps.getD 276 undef, a'.tmps.getD 277 undef], []⟩ ∧ p = 64 * q ∧ p ≤ n ∧ RW L Lk Ls gt n ct Lw t w0 q ws w'
set_option maxRecDepth 1000000 in
def X2 (L Lk Ls gt n ct Lw : Nat) (t : List UInt8) (w0 : World) (a' : Act) (w' : World) : Prop :=
  ∃ ws, a' = ⟨#[a'.tmps.getD 0 undef, a'.tmps.getD 1 undef, .pointer (some ⟨L, 0, none⟩), .pointer (some ⟨Lk, 0, none⟩), .pointer (some ⟨Ls, 0, none⟩), .slice (some ⟨gt, 0, none⟩) n ct, a'.tmps.getD 6 undef, a'.tmps.getD 7 undef, .pointer (some ⟨Lw, 0, none⟩), a'.tmps.getD 9 undef, a'.tmps.getD 10 undef, a'.tmps.getD 11 undef, a'.tmps.getD 12 undef, a'.tmps.getD 13 undef, a'.tmps.getD 14 undef, a'.tmps.getD 15 undef, a'.tmps.getD 16 undef, a'.tmps.getD 17 undef, a'.tmps.getD 18 undef, a'.tmps.getD 19 undef, a'.tmps.getD 20 undef, a'.tmps.getD 21 undef, a'.tmps.getD 22 undef, a'.tmps.getD 23 undef, a'.tmps.getD 24 undef, a'.tmps.getD 25 undef, a'.tmps.getD 26 undef, a'.tmps.getD 27 undef, a'.tmps.getD 28 undef, a'.tmps.getD 29 undef, a'.tmps.getD 30 undef, a'.tmps.getD 31 undef, a'.tmps.getD 32 undef, a'.tmps.getD 33 undef, a'.tmps.getD 34 undef, a'.tmps.getD 35 undef, a'.tmps.getD 36 undef, a'.tmps.getD 37 undef, a'.tmps.getD 38 undef, a'.tmps.getD 39 undef, a'.tmps.getD 40 undef, a'.tmps.getD 41 undef, a'.tmps.getD 42 undef, a'.tmps.getD 43 undef, a'.tmps.getD 44 undef, a'.tmps.getD 45 undef, a'.tmps.getD 46 undef, a'.tmps.getD 47 undef, a'.tmps.getD 48 undef, a'.tmps.getD 49 undef, a'.tmps.getD 50 undef, a'.tmps.getD 51 undef, a'.tmps.getD 52 undef, a'.tmps.getD 53 undef, a'.tmps.getD 54 undef, a'.tmps.getD 55 undef, a'.tmps.getD 56 undef, a'.tmps.getD 57 undef, a'.tmps.getD 58 undef, a'.tmps.getD 59 undef, a'.tmps.getD 60 undef, a'.tmps.getD 61 undef, a'.tmps.getD 62 undef, a'.tmps.getD 63 undef, a'.tmps.getD 64 undef, a'.tmps.getD 65 undef, a'.tmps.getD 66 undef, a'.tmps.getD 67 undef, a'.tmps.getD 68 undef, a'.tmps.getD 69 undef, a'.tmps.getD 70 undef, a'.tmps.getD 71 undef, a'.tmps.getD 72 undef, a'.tmps.getD 73 undef, a'.tmps.getD 74 undef, a'.tmps.getD 75 undef, a'.tmps.getD 76 undef, a'.tmps.getD 77 undef, a'.tmps.getD 78 undef, a'.tmps.getD 79 undef, a'.tmps.getD 80 undef, a'.tmps.getD 81 undef, a'.tmps.getD 82 undef, a'.tmps.getD 83 undef, a'.tmps.getD 84 undef, a'.tmps.getD 85 undef, a'.tmps.getD 86 undef, a'.tmps.getD 87 undef, a'.tmps.getD 88 undef, a'.tmps.getD 89 undef, a'.tmps.getD 90 undef, a'.tmps.getD 91 undef, a'.tmps.getD 92 undef, a'.tmps.getD 93 undef, a'.tmps.getD 94 undef, a'.tmps.getD 95 undef, a'.tmps.getD 96 undef, a'.tmps.getD 97 undef, a'.tmps.getD 98 undef, a'.tmps.getD 99 undef, a'.tmps.getD 100 undef, a'.tmps.getD 101 undef, a'.tmps.getD 102 undef, a'.tmps.getD 103 undef, a'.tmps.getD 104 undef, a'.tmps.getD 105 undef, a'.tmps.getD 106 undef, a'.tmps.getD 107 undef, a'.tmps.getD 108 undef, a'.tmps.getD 109 undef, a'.tmps.getD 110 undef, a'.tmps.getD 111 undef, a'.tmps.getD 112 undef, a'.tmps.getD 113 undef, a'.tmps.getD 114 undef, a'.tmps.getD 115 undef, a'.tmps.getD 116 undef, a'.tmps.getD 117 undef, a'.tmps.getD 118 undef, a'.tmps.getD 119 undef, a'.tmps.getD 120 undef, a'.tmps.getD 121 undef, a'.tmps.getD 122 undef, a'.tmps.getD 123 undef, a'.tmps.getD 124 undef, a'.tmps.getD 125 undef, a'.tmps.getD 126 undef, a'.tmps.getD 127 undef, a'.tmps.getD 128 undef, a'.tmps.getD 129 undef, a'.tmps.getD 130 undef, a'.tmps.getD 131 undef, a'.tmps.getD 132 undef, a'.tmps.getD 133 undef, a'.tmps.getD 134 undef, a'.tmps.getD 135 undef, a'.tmps.getD 136 undef, a'.tmps.getD 137 undef, a'.tmps.getD 138 undef, a'.tmps.getD 139 undef, a'.tmps.getD 140 undef, a'.tmps.getD 141 undef, a'.tmps.getD 142 undef, a'.tmps.getD 143 undef, a'.tmps.getD 144 undef, a'.tmps.getD 145 undef, a'.tmps.getD 146 undef, a'.tmps.getD 147 undef, a'.tmps.getD 148 undef, a'.tmps.getD 149 undef, a'.tmps.getD 150 undef, a'.tmps.getD 151 undef, a'.tmps.getD 152 undef, a'.tmps.getD 153 undef, a'.tmps.getD 154 undef, a'.tmps.getD 155 undef, a'.tmps.getD 156 undef, a'.tmps.getD 157 undef, a'.tmps.getD 158 undef, a'.tmps.getD 159 undef, a'.tmps.getD 160 undef, a'.tmps.getD 161 undef, a'.tmps.getD 162 undef, a'.tmps.getD 163 undef, a'.tmps.getD 164 undef, a'.tmps.getD 165 undef, a'.tmps.getD 166 undef, a'.tmps.getD 167 undef, a'.tmps.getD 168 undef, a'.tmps.getD 169 undef, a'.tmps.getD 170 undef, a'.tmps.getD 171 undef, a'.tmps.getD 172 undef, a'.tmps.getD 173 undef, a'.tmps.getD 174 undef, a'.tmps.getD 175 undef, a'.tmps.getD 176 undef, a'.tmps.getD 177 undef, a'.tmps.getD 178 undef, a'.tmps.getD 179 undef, a'.tmps.getD 180 undef, a'.tmps.getD 181 undef, a'.tmps.getD 182 undef, a'.tmps.getD 183 undef, a'.tmps.getD 184 undef, a'.tmps.getD 185 undef, a'.tmps.getD 186 undef, a'.tmps.getD 187 undef, a'.tmps.getD 188 undef, a'.tmps.getD 189 undef, a'.tmps.getD 190 undef, a'.tmps.getD 191 undef, a'.tmps.getD 192 undef, a'.tmps.getD 193 undef, a'.tmps.getD 194 undef, a'.tmps.getD 195 undef, a'.tmps.getD 196 undef, a'.tmps.getD 197 undef, a'.tmps.getD 198 undef, a'.tmps.getD 199 undef, a'.tmps.getD 200 undef, a'.tmps.getD 201 undef, a'.tmps.getD 202 undef, a'.tmps.getD 203 undef, a'.tmps.getD 204 undef, a'.tmps.getD 205 undef, a'.tmps.getD 206 undef, a'.tmps.getD 207 undef, a'.tmps.getD 208 undef, a'.tmps.getD 209 undef, a'.tmps.getD 210 undef, a'.tmps.getD 211 undef, a'.tmps.getD 212 undef, a'.tmps.getD 213 undef, a'.tmps.getD 214 undef, a'.tmps.getD 215 undef, a'.tmps.getD 216 undef, a'.tmps.getD 217 undef, a'.tmps.getD 218 undef, a'.tmps.getD 219 undef, a'.tmps.getD 220 undef, a'.tmps.getD 221 undef, a'.tmps.getD 222 undef, a'.tmps.getD 223 undef, a'.tmps.getD 224 undef, a'.tmps.getD 225 undef, a'.tmps.getD 226 undef, a'.tmps.getD 227 undef, a'.tmps.getD 228 undef, a'.tmps.getD 229 undef, a'.tmps.getD 230 undef, a'.tmps.getD 231 undef, a'.tmps.getD 232 undef, a'.tmps.getD 233 undef, a'.tmps.getD 234 undef, a'.tmps.getD 235 undef, a'.tmps.getD 236 undef, a'.tmps.getD 237 undef, a'.tmps.getD 238 undef, a'.tmps.getD 239 undef, a'.tmps.getD 240 undef, a'.tmps.getD 241 undef, a'.tmps.getD 242 undef, a'.tmps.getD 243 undef, a'.tmps.getD 244 undef, a'.tmps.getD 245 undef, a'.tmps.getD 246 undef, a'.tmps.getD 247 undef, a'.tmps.getD 248 undef, a'.tmps.getD 249 undef, a'.tmps.getD 250 undef, a'.tmps.getD 251 undef, a'.tmps.getD 252 undef, a'.tmps.getD 253 undef, a'.tmps.getD 254 undef, a'.tmps.getD 255 undef, a'.tmps.getD 256 undef, a'.tmps.getD 257 undef, a'.tmps.getD 258 undef, a'.tmps.getD 259 undef, a'.tmps.getD 260 undef, a'.tmps.getD 261 undef, a'.tmps.getD 262 undef, a'.tmps.getD 263 undef, a'.tmps.getD 264 undef, a'.tmps.getD 265 undef, a'.tmps.getD 266 undef, a'.tmps.getD 267 undef, a'.tmps.getD 268 undef, a'.tmps.getD 269 undef, a'.tmps.getD 270 undef, a'.tmps.getD 271 undef, a'.tmps.getD 272 undef, a'.tmps.getD 273 undef, a'.tmps.getD 274 undef, a'.tmps.getD 275 undef, a'.tmps.getD 276 undef, a'.tmps.getD 277 undef], []⟩ ∧ RW L Lk Ls gt n ct Lw t w0 (n / 64) ws w'

set_option maxRecDepth 1000000 in
set_option maxHeartbeats 8000000 in
theorem ref2 (L Lk Ls gt n ct Lw : Nat) (t : List UInt8) (w0 : World) (h64 : n % 64 = 0) (hn : n ≤ 100000) (d1 : L < Lk) (d2 : Lk < Ls) (d3 : Ls < gt) (d4 : gt < Lw) (Q : Exit → Act → World → Prop)
    (hexit : ∀ a' w', X2 L Lk Ls gt n ct Lw t w0 a' w' → Q (.exit 4) a' w')
    (a : Act) (w : World) (h0 : I2 L Lk Ls gt n ct Lw t w0 a w) :
    (Code.loop (rb Tryd.f11.body 2)).wp Tryd.prog Q a w := by
  refine wp_loop (I2 L Lk Ls gt n ct Lw t w0) (fun a' _ => n - (intOf (a'.tmps.getD 9 undef)).toNat) h0 ?_
  rintro a' w' ⟨q, p, ws, ha, hp, hpn, R⟩
  obtain ⟨f, ha2⟩ : ∃ f : Nat → Value, a' = ⟨#[f 0, f 1, .pointer (some ⟨L, 0, none⟩), .pointer (some ⟨Lk, 0, none⟩), .pointer (some ⟨Ls, 0, none⟩), .slice (some ⟨gt, 0, none⟩) n ct, f 6, f 7, .pointer (some ⟨Lw, 0, none⟩), .int .i64 (p : Nat), f 10, f 11, f 12, f 13, f 14, f 15, f 16, f 17, f 18, f 19, f 20, f 21, f 22, f 23, f 24, f 25, f 26, f 27, f 28, f 29, f 30, f 31, f 32, f 33, f 34, f 35, f 36, f 37, f 38, f 39, f 40, f 41, f 42, f 43, f 44, f 45, f 46, f 47, f 48, f 49, f 50, f 51, f 52, f 53, f 54, f 55, f 56, f 57, f 58, f 59, f 60, f 61, f 62, f 63, f 64, f 65, f 66, f 67, f 68, f 69, f 70, f 71, f 72, f 73, f 74, f 75, f 76, f 77, f 78, f 79, f 80, f 81, f 82, f 83, f 84, f 85, f 86, f 87, f 88, f 89, f 90, f 91, f 92, f 93, f 94, f 95, f 96, f 97, f 98, f 99, f 100, f 101, f 102, f 103, f 104, f 105, f 106, f 107, f 108, f 109, f 110, f 111, f 112, f 113, f 114, f 115, f 116, f 117, f 118, f 119, f 120, f 121, f 122, f 123, f 124, f 125, f 126, f 127, f 128, f 129, f 130, f 131, f 132, f 133, f 134, f 135, f 136, f 137, f 138, f 139, f 140, f 141, f 142, f 143, f 144, f 145, f 146, f 147, f 148, f 149, f 150, f 151, f 152, f 153, f 154, f 155, f 156, f 157, f 158, f 159, f 160, f 161, f 162, f 163, f 164, f 165, f 166, f 167, f 168, f 169, f 170, f 171, f 172, f 173, f 174, f 175, f 176, f 177, f 178, f 179, f 180, f 181, f 182, f 183, f 184, f 185, f 186, f 187, f 188, f 189, f 190, f 191, f 192, f 193, f 194, f 195, f 196, f 197, f 198, f 199, f 200, f 201, f 202, f 203, f 204, f 205, f 206, f 207, f 208, f 209, f 210, f 211, f 212, f 213, f 214, f 215, f 216, f 217, f 218, f 219, f 220, f 221, f 222, f 223, f 224, f 225, f 226, f 227, f 228, f 229, f 230, f 231, f 232, f 233, f 234, f 235, f 236, f 237, f 238, f 239, f 240, f 241, f 242, f 243, f 244, f 245, f 246, f 247, f 248, f 249, f 250, f 251, f 252, f 253, f 254, f 255, f 256, f 257, f 258, f 259, f 260, f 261, f 262, f 263, f 264, f 265, f 266, f 267, f 268, f 269, f 270, f 271, f 272, f 273, f 274, f 275, f 276, f 277], []⟩ := ⟨fun j => a'.tmps.getD j undef, ha⟩
  clear ha h0
  subst ha2
  conv => arg 2; whnf
  by_cases hlt : p < n
  · have hlt' : (p : Int) < (n : Int) := by omega
    have HR := hid R
    have HP := hid hp
    have htl : t.length = n := by have := R.t.1; rwa [B_length] at this
    have hws := R.wl
    clear R hp
    go_wp2_with fail
    trace "A"
    refine ref3 L Lk Ls gt n ct Lw p t (by have := HP.out; omega) hn (by omega) w' HR.out.t _ ?ex3 _ _ ⟨0, ws, by kernel_rfl, by omega, by omega, HR.out.wd, World.grownBy.refl _ _⟩
    case ex3 =>
      rintro a3 w3 ⟨z3, ha3, hz3, hB3, hg3⟩
      obtain ⟨f3, hf3⟩ : ∃ f : Nat → Value, a3 = ⟨#[f 0, f 1, .pointer (some ⟨L, 0, none⟩), .pointer (some ⟨Lk, 0, none⟩), .pointer (some ⟨Ls, 0, none⟩), .slice (some ⟨gt, 0, none⟩) n ct, f 6, f 7, .pointer (some ⟨Lw, 0, none⟩), .int .i64 (p : Nat), f 10, f 11, f 12, f 13, f 14, f 15, f 16, f 17, f 18, f 19, f 20, f 21, f 22, f 23, f 24, f 25, f 26, f 27, f 28, f 29, f 30, f 31, f 32, f 33, f 34, f 35, f 36, f 37, f 38, f 39, f 40, f 41, f 42, f 43, f 44, f 45, f 46, f 47, f 48, f 49, f 50, f 51, f 52, f 53, f 54, f 55, f 56, f 57, f 58, f 59, f 60, f 61, f 62, f 63, f 64, f 65, f 66, f 67, f 68, f 69, f 70, f 71, f 72, f 73, f 74, f 75, f 76, f 77, f 78, f 79, f 80, f 81, f 82, f 83, f 84, f 85, f 86, f 87, f 88, f 89, f 90, f 91, f 92, f 93, f 94, f 95, f 96, f 97, f 98, f 99, f 100, f 101, f 102, f 103, f 104, f 105, f 106, f 107, f 108, f 109, f 110, f 111, f 112, f 113, f 114, f 115, f 116, f 117, f 118, f 119, f 120, f 121, f 122, f 123, f 124, f 125, f 126, f 127, f 128, f 129, f 130, f 131, f 132, f 133, f 134, f 135, f 136, f 137, f 138, f 139, f 140, f 141, f 142, f 143, f 144, f 145, f 146, f 147, f 148, f 149, f 150, f 151, f 152, f 153, f 154, f 155, f 156, f 157, f 158, f 159, f 160, f 161, f 162, f 163, f 164, f 165, f 166, f 167, f 168, f 169, f 170, f 171, f 172, f 173, f 174, f 175, f 176, f 177, f 178, f 179, f 180, f 181, f 182, f 183, f 184, f 185, f 186, f 187, f 188, f 189, f 190, f 191, f 192, f 193, f 194, f 195, f 196, f 197, f 198, f 199, f 200, f 201, f 202, f 203, f 204, f 205, f 206, f 207, f 208, f 209, f 210, f 211, f 212, f 213, f 214, f 215, f 216, f 217, f 218, f 219, f 220, f 221, f 222, f 223, f 224, f 225, f 226, f 227, f 228, f 229, f 230, f 231, f 232, f 233, f 234, f 235, f 236, f 237, f 238, f 239, f 240, f 241, f 242, f 243, f 244, f 245, f 246, f 247, f 248, f 249, f 250, f 251, f 252, f 253, f 254, f 255, f 256, f 257, f 258, f 259, f 260, f 261, f 262, f 263, f 264, f 265, f 266, f 267, f 268, f 269, f 270, f 271, f 272, f 273, f 274, f 275, f 276, f 277], []⟩ := ⟨fun j => a3.tmps.getD j undef, ha3⟩
      clear ha3
      subst hf3
      have HB3 := hid hB3
      have Hg3 := hid hg3
      clear hB3 hg3
      go_wp2_with fail
      trace "B"
      refine ref4 L Lk Ls gt n ct Lw p (parts ((t.drop p).take 64) 64 16) (parts_len _ _ _) w' _ ?ex4 _ _ ⟨16, z3, by kernel_rfl, by omega, by omega, by omega, HB3.out, Hg3.out⟩
      case ex4 =>
        rintro a4 w4 ⟨ha4, hB4, hg4⟩
        obtain ⟨f4, hf4⟩ : ∃ f : Nat → Value, a4 = ⟨#[f 0, f 1, .pointer (some ⟨L, 0, none⟩), .pointer (some ⟨Lk, 0, none⟩), .pointer (some ⟨Ls, 0, none⟩), .slice (some ⟨gt, 0, none⟩) n ct, f 6, f 7, .pointer (some ⟨Lw, 0, none⟩), .int .i64 (p : Nat), f 10, f 11, f 12, f 13, f 14, f 15, f 16, f 17, f 18, f 19, f 20, f 21, f 22, f 23, f 24, f 25, f 26, f 27, f 28, f 29, f 30, f 31, f 32, f 33, f 34, f 35, f 36, f 37, f 38, f 39, f 40, f 41, f 42, f 43, f 44, f 45, f 46, f 47, f 48, f 49, f 50, f 51, f 52, f 53, f 54, f 55, f 56, f 57, f 58, f 59, f 60, f 61, f 62, f 63, f 64, f 65, f 66, f 67, f 68, f 69, f 70, f 71, f 72, f 73, f 74, f 75, f 76, f 77, f 78, f 79, f 80, f 81, f 82, f 83, f 84, f 85, f 86, f 87, f 88, f 89, f 90, f 91, f 92, f 93, f 94, f 95, f 96, f 97, f 98, f 99, f 100, f 101, f 102, f 103, f 104, f 105, f 106, f 107, f 108, f 109, f 110, f 111, f 112, f 113, f 114, f 115, f 116, f 117, f 118, f 119, f 120, f 121, f 122, f 123, f 124, f 125, f 126, f 127, f 128, f 129, f 130, f 131, f 132, f 133, f 134, f 135, f 136, f 137, f 138, f 139, f 140, f 141, f 142, f 143, f 144, f 145, f 146, f 147, f 148, f 149, f 150, f 151, f 152, f 153, f 154, f 155, f 156, f 157, f 158, f 159, f 160, f 161, f 162, f 163, f 164, f 165, f 166, f 167, f 168, f 169, f 170, f 171, f 172, f 173, f 174, f 175, f 176, f 177, f 178, f 179, f 180, f 181, f 182, f 183, f 184, f 185, f 186, f 187, f 188, f 189, f 190, f 191, f 192, f 193, f 194, f 195, f 196, f 197, f 198, f 199, f 200, f 201, f 202, f 203, f 204, f 205, f 206, f 207, f 208, f 209, f 210, f 211, f 212, f 213, f 214, f 215, f 216, f 217, f 218, f 219, f 220, f 221, f 222, f 223, f 224, f 225, f 226, f 227, f 228, f 229, f 230, f 231, f 232, f 233, f 234, f 235, f 236, f 237, f 238, f 239, f 240, f 241, f 242, f 243, f 244, f 245, f 246, f 247, f 248, f 249, f 250, f 251, f 252, f 253, f 254, f 255, f 256, f 257, f 258, f 259, f 260, f 261, f 262, f 263, f 264, f 265, f 266, f 267, f 268, f 269, f 270, f 271, f 272, f 273, f 274, f 275, f 276, f 277], []⟩ := ⟨fun j => a4.tmps.getD j undef, ha4⟩
        clear ha4
        subst hf4
        obtain ⟨st, hst⟩ : ∃ st, runS t q = st := ⟨_, rfl⟩
        obtain ⟨W, hWd⟩ : ∃ W, extN (parts ((t.drop p).take 64) 64 16) 48 = W := ⟨_, rfl⟩
        rw [hWd] at hB4
        have hWl : W.length = 64 := by rw [← hWd, extN_len, parts_len]
        have lo := HR.out.out.lt
        have lk := HR.out.k.lt
        have ls := HR.out.s.lt
        have lg := HR.out.t.lt
        have lw := HR.out.wd.lt
        have kS : Blk w4 39 Ls (U st.l) := by rw [← hst]; exact HR.out.s.kept (hg4.block Ls ls (by intro e; injection e; omega))
        have hsz4 := hg4.size
        obtain ⟨La, hLa⟩ : ∃ La, w4.heap.size = La := ⟨_, rfl⟩
        have HWl := hid hWl
        have HWd := hid hWd
        have Hst := hid hst
        have HB4 := hid hB4
        have Hg4 := hid hg4
        have HkS := hid kS
        have hr4 := hid (show w4.rangeAt Ls 0 (U st.l) from kS.range fun j v hv => by rw [Nat.zero_add]; exact hv)
        have hi8 := hid (show (Tryd.prog.info? 39).map (·.size) = some (U st.l).length by rw [U_length, S8.len]; kernel_rfl)
        have ho8 := hid (U_one st.l)
        clear hWl hWd hst hB4 hg4 kS HB3 Hg3
        go_wp2_with (first
          | (show wpList _ _ _ (⟨some 141, Op.load _ _, _, _, _, _⟩ :: _) _ _; go_must (refine wpList_load_mid rfl 39 _ rfl Ls 0 rfl (U st.l) _ hr4.out Tryd.underlying39 rfl hi8.out ?_))
          | (show wpList _ _ _ (⟨some 15, Op.alloc _, _, _, _, _⟩ :: _) _ _; go_must (refine wpList_alloc_blk rfl 39 rfl _ zero8 La hLa ?_); intro w5 hB5 hb5 hs5; replace hB5 := hid hB5; replace hb5 := hid hb5; have ht5 := hid (show w5.there La 0 (U st.l).length from hB5.out.there (by rw [U_length, U_length, S8.len, List.length_replicate]; omega)))
          | (show wpList _ _ _ (⟨none, Op.store _ _ _, _, _, _, _⟩ :: _) _ _; go_must (refine wpList_store_list rfl 39 _ _ rfl La 0 (U st.l) rfl rfl ht5.out hi8.out ho8.out ?_); intro w6 hw6; replace hw6 := hid hw6))
        have hA6 : Blk w6 39 La (U st.l) := by
          rw [hw6.out]
          have := Blk.setCells (t := 39) (g := La) (U st.l) [] (U (List.replicate 8 0)) [] (w := w5) (o := 0) (by rw [List.nil_append, List.append_nil]; exact hB5.out) (by rw [U_length, U_length, S8.len, List.length_replicate]) rfl
          rw [List.nil_append, List.append_nil] at this
          exact this
        have hb6 : Below La w4 w6 := by rw [hw6.out]; exact below_setCells (Nat.le_refl _) _ _ hb5.out
        have HA6 := hid hA6
        have Hb6 := hid hb6
        clear hA6 hb6 hw6 hB5 hb5 ht5 hs5 hr4
        refine ref5 L Lk Ls gt n ct Lw p La W HWl.out st w6 ((HR.out.k.kept (Hg4.out.block Lk lk (by intro e; injection e; omega))).kept (Hb6.out.block Lk (by omega))) (HB4.out.kept (Hb6.out.block Lw (by omega))) (by omega) (by omega) _ ?ex5 _ _ ⟨0, by kernel_rfl, by omega, HA6.out, World.grownBy.refl _ _⟩
        case ex5 =>
          rintro a5 w7 ⟨ha5, hB7, hg7⟩
          obtain ⟨f5, hf5⟩ : ∃ f : Nat → Value, a5 = ⟨#[f 0, f 1, .pointer (some ⟨L, 0, none⟩), .pointer (some ⟨Lk, 0, none⟩), .pointer (some ⟨Ls, 0, none⟩), .slice (some ⟨gt, 0, none⟩) n ct, f 6, f 7, .pointer (some ⟨Lw, 0, none⟩), .int .i64 (p : Nat), f 10, f 11, f 12, f 13, f 14, .pointer (some ⟨La, 0, none⟩), f 16, f 17, f 18, f 19, f 20, f 21, f 22, f 23, f 24, f 25, f 26, f 27, f 28, f 29, f 30, f 31, f 32, f 33, f 34, f 35, f 36, f 37, f 38, f 39, f 40, f 41, f 42, f 43, f 44, f 45, f 46, f 47, f 48, f 49, f 50, f 51, f 52, f 53, f 54, f 55, f 56, f 57, f 58, f 59, f 60, f 61, f 62, f 63, f 64, f 65, f 66, f 67, f 68, f 69, f 70, f 71, f 72, f 73, f 74, f 75, f 76, f 77, f 78, f 79, f 80, f 81, f 82, f 83, f 84, f 85, f 86, f 87, f 88, f 89, f 90, f 91, f 92, f 93, f 94, f 95, f 96, f 97, f 98, f 99, f 100, f 101, f 102, f 103, f 104, f 105, f 106, f 107, f 108, f 109, f 110, f 111, f 112, f 113, f 114, f 115, f 116, f 117, f 118, f 119, f 120, f 121, f 122, f 123, f 124, f 125, f 126, f 127, f 128, f 129, f 130, f 131, f 132, f 133, f 134, f 135, f 136, f 137, f 138, f 139, f 140, f 141, f 142, f 143, f 144, f 145, f 146, f 147, f 148, f 149, f 150, f 151, f 152, f 153, f 154, f 155, f 156, f 157, f 158, f 159, f 160, f 161, f 162, f 163, f 164, f 165, f 166, f 167, f 168, f 169, f 170, f 171, f 172, f 173, f 174, f 175, f 176, f 177, f 178, f 179, f 180, f 181, f 182, f 183, f 184, f 185, f 186, f 187, f 188, f 189, f 190, f 191, f 192, f 193, f 194, f 195, f 196, f 197, f 198, f 199, f 200, f 201, f 202, f 203, f 204, f 205, f 206, f 207, f 208, f 209, f 210, f 211, f 212, f 213, f 214, f 215, f 216, f 217, f 218, f 219, f 220, f 221, f 222, f 223, f 224, f 225, f 226, f 227, f 228, f 229, f 230, f 231, f 232, f 233, f 234, f 235, f 236, f 237, f 238, f 239, f 240, f 241, f 242, f 243, f 244, f 245, f 246, f 247, f 248, f 249, f 250, f 251, f 252, f 253, f 254, f 255, f 256, f 257, f 258, f 259, f 260, f 261, f 262, f 263, f 264, f 265, f 266, f 267, f 268, f 269, f 270, f 271, f 272, f 273, f 274, f 275, f 276, f 277], []⟩ := ⟨fun j => a5.tmps.getD j undef, ha5⟩
          clear ha5
          subst hf5
          obtain ⟨r, hr⟩ : ∃ r, rnds W st 64 = r := ⟨_, rfl⟩
          rw [hr] at hB7
          have hs6 := Hb6.out.size
          have Hr := hid hr
          have HB7 := hid hB7
          have Hg7 := hid hg7
          clear hr hB7 hg7
          go_wp2_with fail
          refine ref6 L Lk Ls gt n ct Lw p La st r w7 HB7.out (by omega) _ ?ex6 _ _ ⟨0, by kernel_rfl, by omega, (HkS.out.kept (Hb6.out.block Ls (by omega))).kept (Hg7.out.block Ls (by omega) (by intro e; injection e; omega)), World.grownBy.refl _ _⟩
          case ex6 =>
            rintro a6 w8 ⟨ha6, hB8, hg8⟩
            obtain ⟨f6, hf6⟩ : ∃ f : Nat → Value, a6 = ⟨#[f 0, f 1, .pointer (some ⟨L, 0, none⟩), .pointer (some ⟨Lk, 0, none⟩), .pointer (some ⟨Ls, 0, none⟩), .slice (some ⟨gt, 0, none⟩) n ct, f 6, f 7, .pointer (some ⟨Lw, 0, none⟩), .int .i64 (p : Nat), f 10, f 11, f 12, f 13, f 14, .pointer (some ⟨La, 0, none⟩), f 16, f 17, f 18, f 19, f 20, f 21, f 22, f 23, f 24, f 25, f 26, f 27, f 28, f 29, f 30, f 31, f 32, f 33, f 34, f 35, f 36, f 37, f 38, f 39, f 40, f 41, f 42, f 43, f 44, f 45, f 46, f 47, f 48, f 49, f 50, f 51, f 52, f 53, f 54, f 55, f 56, f 57, f 58, f 59, f 60, f 61, f 62, f 63, f 64, f 65, f 66, f 67, f 68, f 69, f 70, f 71, f 72, f 73, f 74, f 75, f 76, f 77, f 78, f 79, f 80, f 81, f 82, f 83, f 84, f 85, f 86, f 87, f 88, f 89, f 90, f 91, f 92, f 93, f 94, f 95, f 96, f 97, f 98, f 99, f 100, f 101, f 102, f 103, f 104, f 105, f 106, f 107, f 108, f 109, f 110, f 111, f 112, f 113, f 114, f 115, f 116, f 117, f 118, f 119, f 120, f 121, f 122, f 123, f 124, f 125, f 126, f 127, f 128, f 129, f 130, f 131, f 132, f 133, f 134, f 135, f 136, f 137, f 138, f 139, f 140, f 141, f 142, f 143, f 144, f 145, f 146, f 147, f 148, f 149, f 150, f 151, f 152, f 153, f 154, f 155, f 156, f 157, f 158, f 159, f 160, f 161, f 162, f 163, f 164, f 165, f 166, f 167, f 168, f 169, f 170, f 171, f 172, f 173, f 174, f 175, f 176, f 177, f 178, f 179, f 180, f 181, f 182, f 183, f 184, f 185, f 186, f 187, f 188, f 189, f 190, f 191, f 192, f 193, f 194, f 195, f 196, f 197, f 198, f 199, f 200, f 201, f 202, f 203, f 204, f 205, f 206, f 207, f 208, f 209, f 210, f 211, f 212, f 213, f 214, f 215, f 216, f 217, f 218, f 219, f 220, f 221, f 222, f 223, f 224, f 225, f 226, f 227, f 228, f 229, f 230, f 231, f 232, f 233, f 234, f 235, f 236, f 237, f 238, f 239, f 240, f 241, f 242, f 243, f 244, f 245, f 246, f 247, f 248, f 249, f 250, f 251, f 252, f 253, f 254, f 255, f 256, f 257, f 258, f 259, f 260, f 261, f 262, f 263, f 264, f 265, f 266, f 267, f 268, f 269, f 270, f 271, f 272, f 273, f 274, f 275, f 276, f 277], []⟩ := ⟨fun j => a6.tmps.getD j undef, ha6⟩
            clear ha6
            subst hf6
            have hs7 := Hg7.out.size
            have hkeep : ∀ X, X < La → X ≠ Ls → w8.heap[X]? = w4.heap[X]? := by
              intro X hX hne
              rw [hg8.block X (by omega) (by intro e; injection e; omega), Hg7.out.block X (by omega) (by intro e; injection e; omega), Hb6.out.block X hX]
            have hk4 : ∀ X, X < w'.heap.size → X ≠ Lw → X ≠ Ls → w8.heap[X]? = w'.heap[X]? := by
              intro X hX h1 h2
              rw [hkeep X (by omega) h2, Hg4.out.block X hX (by intro e; injection e; omega)]
            have HN := hid (show RW L Lk Ls gt n ct Lw t w0 (q + 1) W w8 from
              { out := HR.out.out.kept (hk4 L lo (by omega) (by omega))
                k := HR.out.k.kept (hk4 Lk lk (by omega) (by omega))
                s := by
                  have e : runS t (q + 1) = st.add r := by
                    rw [runS, stirS, Hst.out, spreadS, blkAt, ← HP.out, HWd.out, Hr.out]
                  rw [e]
                  exact hB8
                wl := HWl.out
                wd := HB4.out.kept (hkeep Lw (by omega) (by omega))
                t := HR.out.t.kept (hk4 gt lg (by omega) (by omega))
                b := by
                  have hb := HR.out.b
                  refine ⟨?_, ?_, ?_, ?_, ?_⟩
                  · exact hg8.os.trans (Hg7.out.os.trans (Hb6.out.os.trans (Hg4.out.os.trans hb.os)))
                  · exact hg8.tape.trans (Hg7.out.tape.trans (Hb6.out.tape.trans (Hg4.out.tape.trans hb.tape)))
                  · exact hg8.output.trans (Hg7.out.output.trans (Hb6.out.output.trans (Hg4.out.output.trans hb.output)))
                  · have := hg8.size
                    have := hb.size
                    omega
                  · intro k hk
                    rw [hk4 k (by omega) (by omega) (by omega), hb.block k hk] })
            clear hkeep hk4 hB8 hg8 HR
            go_wp2_with fail
            exact ⟨⟨q + 1, p + 64, W, by kernel_rfl, by have := HP.out; omega, by have := HP.out; omega, HN.out⟩, by simp [intOf]; omega⟩
  · have hpn' : p = n := by omega
    have HR := hid (show RW L Lk Ls gt n ct Lw t w0 (n / 64) ws w' by
      have e : n / 64 = q := by omega
      rw [e]
      exact R)
    have hge' : ¬ (p : Int) < (n : Int) := by omega
    clear R hp hpn'
    go_wp2_with fail
    exact ⟨ws, by kernel_rfl, HR.out⟩
end Go.Proofs.YtmfmbcghknknjaaDoor
