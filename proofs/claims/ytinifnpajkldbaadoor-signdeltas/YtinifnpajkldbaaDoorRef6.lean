/- The second say's Sum: the state added to, and written out. -/
import Derived.Test.YtinifnpajkldbaaDoorRef5
namespace Go.Proofs.YtinifnpajkldbaaDoor
open Go.RowKit
set_option linter.unusedSimpArgs false
set_option linter.unusedVariables false
attribute [local go_sem] wadd wadd' wxor wand wnot

set_option maxRecDepth 1000000 in
def I6 (L Lk Ls gt n ct Lw p La : Nat) (s r : S8) (w1 : World) (a' : Act) (w' : World) : Prop :=
  ∃ (i : Nat), a' = ⟨#[a'.tmps.getD 0 undef, a'.tmps.getD 1 undef, .pointer (some ⟨L, 0, none⟩), .pointer (some ⟨Lk, 0, none⟩), .pointer (some ⟨Ls, 0, none⟩), .slice (some ⟨gt, 0, none⟩) n ct, a'.tmps.getD 6 undef, a'.tmps.getD 7 undef, .pointer (some ⟨Lw, 0, none⟩), .int .i64 (p : Nat), a'.tmps.getD 10 undef, a'.tmps.getD 11 undef, a'.tmps.getD 12 undef, a'.tmps.getD 13 undef, a'.tmps.getD 14 undef, .pointer (some ⟨La, 0, none⟩), a'.tmps.getD 16 undef, a'.tmps.getD 17 undef, a'.tmps.getD 18 undef, a'.tmps.getD 19 undef, .int .i64 (i : Nat), a'.tmps.getD 21 undef, a'.tmps.getD 22 undef, a'.tmps.getD 23 undef, a'.tmps.getD 24 undef, a'.tmps.getD 25 undef, a'.tmps.getD 26 undef, a'.tmps.getD 27 undef, a'.tmps.getD 28 undef, a'.tmps.getD 29 undef, a'.tmps.getD 30 undef, a'.tmps.getD 31 undef, a'.tmps.getD 32 undef, a'.tmps.getD 33 undef, a'.tmps.getD 34 undef, a'.tmps.getD 35 undef, a'.tmps.getD 36 undef, a'.tmps.getD 37 undef, a'.tmps.getD 38 undef, a'.tmps.getD 39 undef, a'.tmps.getD 40 undef, a'.tmps.getD 41 undef, a'.tmps.getD 42 undef, a'.tmps.getD 43 undef, a'.tmps.getD 44 undef, a'.tmps.getD 45 undef, a'.tmps.getD 46 undef, a'.tmps.getD 47 undef, a'.tmps.getD 48 undef, a'.tmps.getD 49 undef, a'.tmps.getD 50 undef, a'.tmps.getD 51 undef, a'.tmps.getD 52 undef, a'.tmps.getD 53 undef, a'.tmps.getD 54 undef, a'.tmps.getD 55 undef, a'.tmps.getD 56 undef, a'.tmps.getD 57 undef, a'.tmps.getD 58 undef, a'.tmps.getD 59 undef, a'.tmps.getD 60 undef, a'.tmps.getD 61 undef, a'.tmps.getD 62 undef, a'.tmps.getD 63 undef, a'.tmps.getD 64 undef, a'.tmps.getD 65 undef, a'.tmps.getD 66 undef, a'.tmps.getD 67 undef, a'.tmps.getD 68 undef, a'.tmps.getD 69 undef, a'.tmps.getD 70 undef, a'.tmps.getD 71 undef, a'.tmps.getD 72 undef, a'.tmps.getD 73 undef, a'.tmps.getD 74 undef, a'.tmps.getD 75 undef, a'.tmps.getD 76 undef, a'.tmps.getD 77 undef, a'.tmps.getD 78 undef, a'.tmps.getD 79 undef, a'.tmps.getD 80 undef, a'.tmps.getD 81 undef, a'.tmps.getD 82 undef, a'.tmps.getD 83 undef, a'.tmps.getD 84 undef, a'.tmps.getD 85 undef, a'.tmps.getD 86 undef, a'.tmps.getD 87 undef, a'.tmps.getD 88 undef, a'.tmps.getD 89 undef, a'.tmps.getD 90 undef, a'.tmps.getD 91 undef, a'.tmps.getD 92 undef, a'.tmps.getD 93 undef, a'.tmps.getD 94 undef, a'.tmps.getD 95 undef, a'.tmps.getD 96 undef, a'.tmps.getD 97 undef, a'.tmps.getD 98 undef, a'.tmps.getD 99 undef, a'.tmps.getD 100 undef, a'.tmps.getD 101 undef, a'.tmps.getD 102 undef, a'.tmps.getD 103 undef, a'.tmps.getD 104 undef, a'.tmps.getD 105 undef, a'.tmps.getD 106 undef, a'.tmps.getD 107 undef, a'.tmps.getD 108 undef, a'.tmps.getD 109 undef, a'.tmps.getD 110 undef, a'.tmps.getD 111 undef, a'.tmps.getD 112 undef, a'.tmps.getD 113 undef, a'.tmps.getD 114 undef, a'.tmps.getD 115 undef, a'.tmps.getD 116 undef, a'.tmps.getD 117 undef, a'.tmps.getD 118 undef, a'.tmps.getD 119 undef, a'.tmps.getD 120 undef, a'.tmps.getD 121 undef, a'.tmps.getD 122 undef, a'.tmps.getD 123 undef, a'.tmps.getD 124 undef, a'.tmps.getD 125 undef, a'.tmps.getD 126 undef, a'.tmps.getD 127 undef, a'.tmps.getD 128 undef, a'.tmps.getD 129 undef, a'.tmps.getD 130 undef, a'.tmps.getD 131 undef, a'.tmps.getD 132 undef, a'.tmps.getD 133 undef, a'.tmps.getD 134 undef, a'.tmps.getD 135 undef, a'.tmps.getD 136 undef, a'.tmps.getD 137 undef, a'.tmps.getD 138 undef, a'.tmps.getD 139 undef, a'.tmps.getD 140 undef, a'.tmps.getD 141 undef, a'.tmps.getD 142 undef, a'.tmps.getD 143 undef, a'.tmps.getD 144 undef, a'.tmps.getD 145 undef, a'.tmps.getD 146 undef, a'.tmps.getD 147 undef, a'.tmps.getD 148 undef, a'.tmps.getD 149 undef, a'.tmps.getD 150 undef, a'.tmps.getD 151 undef, a'.tmps.getD 152 undef, a'.tmps.getD 153 undef, a'.tmps.getD 154 undef, a'.tmps.getD 155 undef, a'.tmps.getD 156 undef, a'.tmps.getD 157 undef, a'.tmps.getD 158 undef, a'.tmps.getD 159 undef, a'.tmps.getD 160 undef, a'.tmps.getD 161 undef, a'.tmps.getD 162 undef, a'.tmps.getD 163 undef, a'.tmps.getD 164 undef, a'.tmps.getD 165 undef, a'.tmps.getD 166 undef, a'.tmps.getD 167 undef, a'.tmps.getD 168 undef, a'.tmps.getD 169 undef, a'.tmps.getD 170 undef, a'.tmps.getD 171 undef, a'.tmps.getD 172 undef, a'.tmps.getD 173 undef, a'.tmps.getD 174 undef, a'.tmps.getD 175 undef, a'.tmps.getD 176 undef, a'.tmps.getD 177 undef, a'.tmps.getD 178 undef, a'.tmps.getD 179 undef, a'.tmps.getD 180 undef, a'.tmps.getD 181 undef, a'.tmps.getD 182 undef, a'.tmps.getD 183 undef, a'.tmps.getD 184 undef, a'.tmps.getD 185 undef, a'.tmps.getD 186 undef, a'.tmps.getD 187 undef, a'.tmps.getD 188 undef, a'.tmps.getD 189 undef, a'.tmps.getD 190 undef, a'.tmps.getD 191 undef, a'.tmps.getD 192 undef, a'.tmps.getD 193 undef, a'.tmps.getD 194 undef, a'.tmps.getD 195 undef, a'.tmps.getD 196 undef, a'.tmps.getD 197 undef, a'.tmps.getD 198 undef, a'.tmps.getD 199 undef, a'.tmps.getD 200 undef, a'.tmps.getD 201 undef, a'.tmps.getD 202 undef, a'.tmps.getD 203 undef, a'.tmps.getD 204 undef, a'.tmps.getD 205 undef, a'.tmps.getD 206 undef, a'.tmps.getD 207 undef, a'.tmps.getD 208 undef, a'.tmps.getD 209 undef, a'.tmps.getD 210 undef, a'.tmps.getD 211 undef, a'.tmps.getD 212 undef, a'.tmps.getD 213 undef, a'.tmps.getD 214 undef, a'.tmps.getD 215 undef, a'.tmps.getD 216 undef, a'.tmps.getD 217 undef, a'.tmps.getD 218 undef, a'.tmps.getD 219 undef, a'.tmps.getD 220 undef, a'.tmps.getD 221 undef, a'.tmps.getD 222 undef, a'.tmps.getD 223 undef, a'.tmps.getD 224 undef, a'.tmps.getD 225 undef, a'.tmps.getD 226 undef, a'.tmps.getD 227 undef, a'.tmps.getD 228 undef, a'.tmps.getD 229 undef, a'.tmps.getD 230 undef, a'.tmps.getD 231 undef, a'.tmps.getD 232 undef, a'.tmps.getD 233 undef, a'.tmps.getD 234 undef, a'.tmps.getD 235 undef, a'.tmps.getD 236 undef, a'.tmps.getD 237 undef, a'.tmps.getD 238 undef, a'.tmps.getD 239 undef, a'.tmps.getD 240 undef, a'.tmps.getD 241 undef, a'.tmps.getD 242 undef, a'.tmps.getD 243 undef, a'.tmps.getD 244 undef, a'.tmps.getD 245 undef, a'.tmps.getD 246 undef, a'.tmps.getD 247 undef, a'.tmps.getD 248 undef, a'.tmps.getD 249 undef, a'.tmps.getD 250 undef, a'.tmps.getD 251 undef, a'.tmps.getD 252 undef, a'.tmps.getD 253 undef, a'.tmps.getD 254 undef, a'.tmps.getD 255 undef, a'.tmps.getD 256 undef, a'.tmps.getD 257 undef, a'.tmps.getD 258 undef, a'.tmps.getD 259 undef, a'.tmps.getD 260 undef, a'.tmps.getD 261 undef, a'.tmps.getD 262 undef, a'.tmps.getD 263 undef, a'.tmps.getD 264 undef, a'.tmps.getD 265 undef, a'.tmps.getD 266 undef, a'.tmps.getD 267 undef, a'.tmps.getD 268 undef, a'.tmps.getD 269 undef, a'.tmps.getD 270 undef, a'.tmps.getD 271 undef, a'.tmps.getD 272 undef, a'.tmps.getD 273 undef, a'.tmps.getD 274 undef, a'.tmps.getD 275 undef, a'.tmps.getD 276 undef, a'.tmps.getD 277 undef], []⟩ ∧ i ≤ 8 ∧ Blk w' 111 Ls (U (addK s r i)) ∧ w1.grownBy w' (some Ls)
set_option maxRecDepth 1000000 in
def X6 (L Lk Ls gt n ct Lw p La : Nat) (s r : S8) (w1 : World) (a' : Act) (w' : World) : Prop :=
  a' = ⟨#[a'.tmps.getD 0 undef, a'.tmps.getD 1 undef, .pointer (some ⟨L, 0, none⟩), .pointer (some ⟨Lk, 0, none⟩), .pointer (some ⟨Ls, 0, none⟩), .slice (some ⟨gt, 0, none⟩) n ct, a'.tmps.getD 6 undef, a'.tmps.getD 7 undef, .pointer (some ⟨Lw, 0, none⟩), .int .i64 (p : Nat), a'.tmps.getD 10 undef, a'.tmps.getD 11 undef, a'.tmps.getD 12 undef, a'.tmps.getD 13 undef, a'.tmps.getD 14 undef, .pointer (some ⟨La, 0, none⟩), a'.tmps.getD 16 undef, a'.tmps.getD 17 undef, a'.tmps.getD 18 undef, a'.tmps.getD 19 undef, a'.tmps.getD 20 undef, a'.tmps.getD 21 undef, a'.tmps.getD 22 undef, a'.tmps.getD 23 undef, a'.tmps.getD 24 undef, a'.tmps.getD 25 undef, a'.tmps.getD 26 undef, a'.tmps.getD 27 undef, a'.tmps.getD 28 undef, a'.tmps.getD 29 undef, a'.tmps.getD 30 undef, a'.tmps.getD 31 undef, a'.tmps.getD 32 undef, a'.tmps.getD 33 undef, a'.tmps.getD 34 undef, a'.tmps.getD 35 undef, a'.tmps.getD 36 undef, a'.tmps.getD 37 undef, a'.tmps.getD 38 undef, a'.tmps.getD 39 undef, a'.tmps.getD 40 undef, a'.tmps.getD 41 undef, a'.tmps.getD 42 undef, a'.tmps.getD 43 undef, a'.tmps.getD 44 undef, a'.tmps.getD 45 undef, a'.tmps.getD 46 undef, a'.tmps.getD 47 undef, a'.tmps.getD 48 undef, a'.tmps.getD 49 undef, a'.tmps.getD 50 undef, a'.tmps.getD 51 undef, a'.tmps.getD 52 undef, a'.tmps.getD 53 undef, a'.tmps.getD 54 undef, a'.tmps.getD 55 undef, a'.tmps.getD 56 undef, a'.tmps.getD 57 undef, a'.tmps.getD 58 undef, a'.tmps.getD 59 undef, a'.tmps.getD 60 undef, a'.tmps.getD 61 undef, a'.tmps.getD 62 undef, a'.tmps.getD 63 undef, a'.tmps.getD 64 undef, a'.tmps.getD 65 undef, a'.tmps.getD 66 undef, a'.tmps.getD 67 undef, a'.tmps.getD 68 undef, a'.tmps.getD 69 undef, a'.tmps.getD 70 undef, a'.tmps.getD 71 undef, a'.tmps.getD 72 undef, a'.tmps.getD 73 undef, a'.tmps.getD 74 undef, a'.tmps.getD 75 undef, a'.tmps.getD 76 undef, a'.tmps.getD 77 undef, a'.tmps.getD 78 undef, a'.tmps.getD 79 undef, a'.tmps.getD 80 undef, a'.tmps.getD 81 undef, a'.tmps.getD 82 undef, a'.tmps.getD 83 undef, a'.tmps.getD 84 undef, a'.tmps.getD 85 undef, a'.tmps.getD 86 undef, a'.tmps.getD 87 undef, a'.tmps.getD 88 undef, a'.tmps.getD 89 undef, a'.tmps.getD 90 undef, a'.tmps.getD 91 undef, a'.tmps.getD 92 undef, a'.tmps.getD 93 undef, a'.tmps.getD 94 undef, a'.tmps.getD 95 undef, a'.tmps.getD 96 undef, a'.tmps.getD 97 undef, a'.tmps.getD 98 undef, a'.tmps.getD 99 undef, a'.tmps.getD 100 undef, a'.tmps.getD 101 undef, a'.tmps.getD 102 undef, a'.tmps.getD 103 undef, a'.tmps.getD 104 undef, a'.tmps.getD 105 undef, a'.tmps.getD 106 undef, a'.tmps.getD 107 undef, a'.tmps.getD 108 undef, a'.tmps.getD 109 undef, a'.tmps.getD 110 undef, a'.tmps.getD 111 undef, a'.tmps.getD 112 undef, a'.tmps.getD 113 undef, a'.tmps.getD 114 undef, a'.tmps.getD 115 undef, a'.tmps.getD 116 undef, a'.tmps.getD 117 undef, a'.tmps.getD 118 undef, a'.tmps.getD 119 undef, a'.tmps.getD 120 undef, a'.tmps.getD 121 undef, a'.tmps.getD 122 undef, a'.tmps.getD 123 undef, a'.tmps.getD 124 undef, a'.tmps.getD 125 undef, a'.tmps.getD 126 undef, a'.tmps.getD 127 undef, a'.tmps.getD 128 undef, a'.tmps.getD 129 undef, a'.tmps.getD 130 undef, a'.tmps.getD 131 undef, a'.tmps.getD 132 undef, a'.tmps.getD 133 undef, a'.tmps.getD 134 undef, a'.tmps.getD 135 undef, a'.tmps.getD 136 undef, a'.tmps.getD 137 undef, a'.tmps.getD 138 undef, a'.tmps.getD 139 undef, a'.tmps.getD 140 undef, a'.tmps.getD 141 undef, a'.tmps.getD 142 undef, a'.tmps.getD 143 undef, a'.tmps.getD 144 undef, a'.tmps.getD 145 undef, a'.tmps.getD 146 undef, a'.tmps.getD 147 undef, a'.tmps.getD 148 undef, a'.tmps.getD 149 undef, a'.tmps.getD 150 undef, a'.tmps.getD 151 undef, a'.tmps.getD 152 undef, a'.tmps.getD 153 undef, a'.tmps.getD 154 undef, a'.tmps.getD 155 undef, a'.tmps.getD 156 undef, a'.tmps.getD 157 undef, a'.tmps.getD 158 undef, a'.tmps.getD 159 undef, a'.tmps.getD 160 undef, a'.tmps.getD 161 undef, a'.tmps.getD 162 undef, a'.tmps.getD 163 undef, a'.tmps.getD 164 undef, a'.tmps.getD 165 undef, a'.tmps.getD 166 undef, a'.tmps.getD 167 undef, a'.tmps.getD 168 undef, a'.tmps.getD 169 undef, a'.tmps.getD 170 undef, a'.tmps.getD 171 undef, a'.tmps.getD 172 undef, a'.tmps.getD 173 undef, a'.tmps.getD 174 undef, a'.tmps.getD 175 undef, a'.tmps.getD 176 undef, a'.tmps.getD 177 undef, a'.tmps.getD 178 undef, a'.tmps.getD 179 undef, a'.tmps.getD 180 undef, a'.tmps.getD 181 undef, a'.tmps.getD 182 undef, a'.tmps.getD 183 undef, a'.tmps.getD 184 undef, a'.tmps.getD 185 undef, a'.tmps.getD 186 undef, a'.tmps.getD 187 undef, a'.tmps.getD 188 undef, a'.tmps.getD 189 undef, a'.tmps.getD 190 undef, a'.tmps.getD 191 undef, a'.tmps.getD 192 undef, a'.tmps.getD 193 undef, a'.tmps.getD 194 undef, a'.tmps.getD 195 undef, a'.tmps.getD 196 undef, a'.tmps.getD 197 undef, a'.tmps.getD 198 undef, a'.tmps.getD 199 undef, a'.tmps.getD 200 undef, a'.tmps.getD 201 undef, a'.tmps.getD 202 undef, a'.tmps.getD 203 undef, a'.tmps.getD 204 undef, a'.tmps.getD 205 undef, a'.tmps.getD 206 undef, a'.tmps.getD 207 undef, a'.tmps.getD 208 undef, a'.tmps.getD 209 undef, a'.tmps.getD 210 undef, a'.tmps.getD 211 undef, a'.tmps.getD 212 undef, a'.tmps.getD 213 undef, a'.tmps.getD 214 undef, a'.tmps.getD 215 undef, a'.tmps.getD 216 undef, a'.tmps.getD 217 undef, a'.tmps.getD 218 undef, a'.tmps.getD 219 undef, a'.tmps.getD 220 undef, a'.tmps.getD 221 undef, a'.tmps.getD 222 undef, a'.tmps.getD 223 undef, a'.tmps.getD 224 undef, a'.tmps.getD 225 undef, a'.tmps.getD 226 undef, a'.tmps.getD 227 undef, a'.tmps.getD 228 undef, a'.tmps.getD 229 undef, a'.tmps.getD 230 undef, a'.tmps.getD 231 undef, a'.tmps.getD 232 undef, a'.tmps.getD 233 undef, a'.tmps.getD 234 undef, a'.tmps.getD 235 undef, a'.tmps.getD 236 undef, a'.tmps.getD 237 undef, a'.tmps.getD 238 undef, a'.tmps.getD 239 undef, a'.tmps.getD 240 undef, a'.tmps.getD 241 undef, a'.tmps.getD 242 undef, a'.tmps.getD 243 undef, a'.tmps.getD 244 undef, a'.tmps.getD 245 undef, a'.tmps.getD 246 undef, a'.tmps.getD 247 undef, a'.tmps.getD 248 undef, a'.tmps.getD 249 undef, a'.tmps.getD 250 undef, a'.tmps.getD 251 undef, a'.tmps.getD 252 undef, a'.tmps.getD 253 undef, a'.tmps.getD 254 undef, a'.tmps.getD 255 undef, a'.tmps.getD 256 undef, a'.tmps.getD 257 undef, a'.tmps.getD 258 undef, a'.tmps.getD 259 undef, a'.tmps.getD 260 undef, a'.tmps.getD 261 undef, a'.tmps.getD 262 undef, a'.tmps.getD 263 undef, a'.tmps.getD 264 undef, a'.tmps.getD 265 undef, a'.tmps.getD 266 undef, a'.tmps.getD 267 undef, a'.tmps.getD 268 undef, a'.tmps.getD 269 undef, a'.tmps.getD 270 undef, a'.tmps.getD 271 undef, a'.tmps.getD 272 undef, a'.tmps.getD 273 undef, a'.tmps.getD 274 undef, a'.tmps.getD 275 undef, a'.tmps.getD 276 undef, a'.tmps.getD 277 undef], []⟩ ∧ Blk w' 111 Ls (U (s.add r).l) ∧ w1.grownBy w' (some Ls)

set_option maxRecDepth 1000000 in
set_option maxHeartbeats 8000000 in
theorem ref6 (L Lk Ls gt n ct Lw p La : Nat) (s r : S8) (w1 : World) (hA : Blk w1 111 La (U r.l)) (hne : La ≠ Ls) (Q : Exit → Act → World → Prop)
    (hexit : ∀ a' w', X6 L Lk Ls gt n ct Lw p La s r w1 a' w' → Q (.exit 12) a' w')
    (a : Act) (w : World) (h0 : I6 L Lk Ls gt n ct Lw p La s r w1 a w) :
    (Code.loop (rb Tryd.f46.body 6)).wp Tryd.prog Q a w := by
  refine wp_loop (I6 L Lk Ls gt n ct Lw p La s r w1) (fun a' _ => 8 - (intOf (a'.tmps.getD 20 undef)).toNat) h0 ?_
  rintro a' w' ⟨i, ha, hi, hB, hgr⟩
  obtain ⟨f, ha2⟩ : ∃ f : Nat → Value, a' = ⟨#[f 0, f 1, .pointer (some ⟨L, 0, none⟩), .pointer (some ⟨Lk, 0, none⟩), .pointer (some ⟨Ls, 0, none⟩), .slice (some ⟨gt, 0, none⟩) n ct, f 6, f 7, .pointer (some ⟨Lw, 0, none⟩), .int .i64 (p : Nat), f 10, f 11, f 12, f 13, f 14, .pointer (some ⟨La, 0, none⟩), f 16, f 17, f 18, f 19, .int .i64 (i : Nat), f 21, f 22, f 23, f 24, f 25, f 26, f 27, f 28, f 29, f 30, f 31, f 32, f 33, f 34, f 35, f 36, f 37, f 38, f 39, f 40, f 41, f 42, f 43, f 44, f 45, f 46, f 47, f 48, f 49, f 50, f 51, f 52, f 53, f 54, f 55, f 56, f 57, f 58, f 59, f 60, f 61, f 62, f 63, f 64, f 65, f 66, f 67, f 68, f 69, f 70, f 71, f 72, f 73, f 74, f 75, f 76, f 77, f 78, f 79, f 80, f 81, f 82, f 83, f 84, f 85, f 86, f 87, f 88, f 89, f 90, f 91, f 92, f 93, f 94, f 95, f 96, f 97, f 98, f 99, f 100, f 101, f 102, f 103, f 104, f 105, f 106, f 107, f 108, f 109, f 110, f 111, f 112, f 113, f 114, f 115, f 116, f 117, f 118, f 119, f 120, f 121, f 122, f 123, f 124, f 125, f 126, f 127, f 128, f 129, f 130, f 131, f 132, f 133, f 134, f 135, f 136, f 137, f 138, f 139, f 140, f 141, f 142, f 143, f 144, f 145, f 146, f 147, f 148, f 149, f 150, f 151, f 152, f 153, f 154, f 155, f 156, f 157, f 158, f 159, f 160, f 161, f 162, f 163, f 164, f 165, f 166, f 167, f 168, f 169, f 170, f 171, f 172, f 173, f 174, f 175, f 176, f 177, f 178, f 179, f 180, f 181, f 182, f 183, f 184, f 185, f 186, f 187, f 188, f 189, f 190, f 191, f 192, f 193, f 194, f 195, f 196, f 197, f 198, f 199, f 200, f 201, f 202, f 203, f 204, f 205, f 206, f 207, f 208, f 209, f 210, f 211, f 212, f 213, f 214, f 215, f 216, f 217, f 218, f 219, f 220, f 221, f 222, f 223, f 224, f 225, f 226, f 227, f 228, f 229, f 230, f 231, f 232, f 233, f 234, f 235, f 236, f 237, f 238, f 239, f 240, f 241, f 242, f 243, f 244, f 245, f 246, f 247, f 248, f 249, f 250, f 251, f 252, f 253, f 254, f 255, f 256, f 257, f 258, f 259, f 260, f 261, f 262, f 263, f 264, f 265, f 266, f 267, f 268, f 269, f 270, f 271, f 272, f 273, f 274, f 275, f 276, f 277], []⟩ := ⟨fun j => a'.tmps.getD j undef, ha⟩
  clear ha h0
  subst ha2
  conv => arg 2; whnf
  by_cases hlt : i < 8
  · have hjc : i = 0 ∨ i = 1 ∨ i = 2 ∨ i = 3 ∨ i = 4 ∨ i = 5 ∨ i = 6 ∨ i = 7 := by omega
    rcases hjc with rfl | rfl | rfl | rfl | rfl | rfl | rfl | rfl
    · have c1 : w'.cell? ⟨Ls, 0, none⟩ = some (.int .u32 (nt s.a)) := hB.cell (by rfl)
      have c2 : w'.cell? ⟨La, 0, none⟩ = some (.int .u32 (nt r.a)) := (hA.kept (hgr.block La hA.lt (by intro e; injection e; omega))).cell (by rfl)
      have fr := hB.frozen 0
      have HB := hid hB
      have Hgr := hid hgr
      clear hB hgr hA
      go_wp2_with fail
      go_region
      go_wp2_with fail
      exact ⟨⟨1, by kernel_rfl, by omega, (HB.out.setCell 0 (.int .u32 (nt (s.a + r.a)))).kept rfl, grown_drew (grown_setCell Hgr.out Ls 0 _ (.inl rfl))⟩, by simp [intOf]⟩
    · have c1 : w'.cell? ⟨Ls, 1, none⟩ = some (.int .u32 (nt s.b)) := hB.cell (by rfl)
      have c2 : w'.cell? ⟨La, 1, none⟩ = some (.int .u32 (nt r.b)) := (hA.kept (hgr.block La hA.lt (by intro e; injection e; omega))).cell (by rfl)
      have fr := hB.frozen 1
      have HB := hid hB
      have Hgr := hid hgr
      clear hB hgr hA
      go_wp2_with fail
      go_region
      go_wp2_with fail
      exact ⟨⟨2, by kernel_rfl, by omega, (HB.out.setCell 1 (.int .u32 (nt (s.b + r.b)))).kept rfl, grown_drew (grown_setCell Hgr.out Ls 1 _ (.inl rfl))⟩, by simp [intOf]⟩
    · have c1 : w'.cell? ⟨Ls, 2, none⟩ = some (.int .u32 (nt s.c)) := hB.cell (by rfl)
      have c2 : w'.cell? ⟨La, 2, none⟩ = some (.int .u32 (nt r.c)) := (hA.kept (hgr.block La hA.lt (by intro e; injection e; omega))).cell (by rfl)
      have fr := hB.frozen 2
      have HB := hid hB
      have Hgr := hid hgr
      clear hB hgr hA
      go_wp2_with fail
      go_region
      go_wp2_with fail
      exact ⟨⟨3, by kernel_rfl, by omega, (HB.out.setCell 2 (.int .u32 (nt (s.c + r.c)))).kept rfl, grown_drew (grown_setCell Hgr.out Ls 2 _ (.inl rfl))⟩, by simp [intOf]⟩
    · have c1 : w'.cell? ⟨Ls, 3, none⟩ = some (.int .u32 (nt s.d)) := hB.cell (by rfl)
      have c2 : w'.cell? ⟨La, 3, none⟩ = some (.int .u32 (nt r.d)) := (hA.kept (hgr.block La hA.lt (by intro e; injection e; omega))).cell (by rfl)
      have fr := hB.frozen 3
      have HB := hid hB
      have Hgr := hid hgr
      clear hB hgr hA
      go_wp2_with fail
      go_region
      go_wp2_with fail
      exact ⟨⟨4, by kernel_rfl, by omega, (HB.out.setCell 3 (.int .u32 (nt (s.d + r.d)))).kept rfl, grown_drew (grown_setCell Hgr.out Ls 3 _ (.inl rfl))⟩, by simp [intOf]⟩
    · have c1 : w'.cell? ⟨Ls, 4, none⟩ = some (.int .u32 (nt s.e)) := hB.cell (by rfl)
      have c2 : w'.cell? ⟨La, 4, none⟩ = some (.int .u32 (nt r.e)) := (hA.kept (hgr.block La hA.lt (by intro e; injection e; omega))).cell (by rfl)
      have fr := hB.frozen 4
      have HB := hid hB
      have Hgr := hid hgr
      clear hB hgr hA
      go_wp2_with fail
      go_region
      go_wp2_with fail
      exact ⟨⟨5, by kernel_rfl, by omega, (HB.out.setCell 4 (.int .u32 (nt (s.e + r.e)))).kept rfl, grown_drew (grown_setCell Hgr.out Ls 4 _ (.inl rfl))⟩, by simp [intOf]⟩
    · have c1 : w'.cell? ⟨Ls, 5, none⟩ = some (.int .u32 (nt s.f)) := hB.cell (by rfl)
      have c2 : w'.cell? ⟨La, 5, none⟩ = some (.int .u32 (nt r.f)) := (hA.kept (hgr.block La hA.lt (by intro e; injection e; omega))).cell (by rfl)
      have fr := hB.frozen 5
      have HB := hid hB
      have Hgr := hid hgr
      clear hB hgr hA
      go_wp2_with fail
      go_region
      go_wp2_with fail
      exact ⟨⟨6, by kernel_rfl, by omega, (HB.out.setCell 5 (.int .u32 (nt (s.f + r.f)))).kept rfl, grown_drew (grown_setCell Hgr.out Ls 5 _ (.inl rfl))⟩, by simp [intOf]⟩
    · have c1 : w'.cell? ⟨Ls, 6, none⟩ = some (.int .u32 (nt s.g)) := hB.cell (by rfl)
      have c2 : w'.cell? ⟨La, 6, none⟩ = some (.int .u32 (nt r.g)) := (hA.kept (hgr.block La hA.lt (by intro e; injection e; omega))).cell (by rfl)
      have fr := hB.frozen 6
      have HB := hid hB
      have Hgr := hid hgr
      clear hB hgr hA
      go_wp2_with fail
      go_region
      go_wp2_with fail
      exact ⟨⟨7, by kernel_rfl, by omega, (HB.out.setCell 6 (.int .u32 (nt (s.g + r.g)))).kept rfl, grown_drew (grown_setCell Hgr.out Ls 6 _ (.inl rfl))⟩, by simp [intOf]⟩
    · have c1 : w'.cell? ⟨Ls, 7, none⟩ = some (.int .u32 (nt s.h)) := hB.cell (by rfl)
      have c2 : w'.cell? ⟨La, 7, none⟩ = some (.int .u32 (nt r.h)) := (hA.kept (hgr.block La hA.lt (by intro e; injection e; omega))).cell (by rfl)
      have fr := hB.frozen 7
      have HB := hid hB
      have Hgr := hid hgr
      clear hB hgr hA
      go_wp2_with fail
      go_region
      go_wp2_with fail
      exact ⟨⟨8, by kernel_rfl, by omega, (HB.out.setCell 7 (.int .u32 (nt (s.h + r.h)))).kept rfl, grown_drew (grown_setCell Hgr.out Ls 7 _ (.inl rfl))⟩, by simp [intOf]⟩
  · have hi8 : i = 8 := by omega
    subst hi8
    have HB := hid hB
    have Hgr := hid hgr
    clear hB hgr hA
    go_wp2_with fail
    exact ⟨by kernel_rfl, HB.out, Hgr.out⟩

theorem cellD_other {w : World} {a b : Addr} {v : Value} (hne : a ≠ b) (h : w.cell? b = some (cellD w b)) : (w.setCell a v).cell? b = some (cellD (w.setCell a v) b) := by
  have e := World.cell?_setCell_other w a b v hne
  exact cellD_of (e.trans h)
theorem set4 (pre z : List Value) (a b c d a' b' c' d' : Value) (n : Nat) (h : pre.length = n) : ((((pre ++ a :: b :: c :: d :: z).set n a').set (n + 1) b').set (n + 2) c').set (n + 3) d' = pre ++ a' :: b' :: c' :: d' :: z := by
  subst h
  rw [List.set_append_right _ _ (Nat.le_refl _), List.set_append_right _ _ (by omega), List.set_append_right _ _ (by omega), List.set_append_right _ _ (by omega), Nat.sub_self, Nat.add_sub_cancel_left, Nat.add_sub_cancel_left, Nat.add_sub_cancel_left]
  rfl

theorem bytesOf_out (l : List UInt32) (i : Nat) (h : i < l.length) : bytesOf (l.take (i + 1)) = bytesOf (l.take i) ++ [UInt8.ofNat ((l.getD i 0).toNat / 16777216), UInt8.ofNat ((l.getD i 0).toNat / 65536), UInt8.ofNat ((l.getD i 0).toNat / 256), UInt8.ofNat (l.getD i 0).toNat] := by
  rw [bytesOf_step l i h]
  simp [be]

set_option maxRecDepth 1000000 in
def I7 (L Ls Lo : Nat) (l : List UInt32) (w1 : World) (a' : Act) (w' : World) : Prop :=
  ∃ (i : Nat) (z : List UInt8), a' = ⟨#[a'.tmps.getD 0 undef, a'.tmps.getD 1 undef, .pointer (some ⟨L, 0, none⟩), a'.tmps.getD 3 undef, .pointer (some ⟨Ls, 0, none⟩), a'.tmps.getD 5 undef, a'.tmps.getD 6 undef, a'.tmps.getD 7 undef, a'.tmps.getD 8 undef, a'.tmps.getD 9 undef, a'.tmps.getD 10 undef, a'.tmps.getD 11 undef, a'.tmps.getD 12 undef, a'.tmps.getD 13 undef, a'.tmps.getD 14 undef, a'.tmps.getD 15 undef, a'.tmps.getD 16 undef, a'.tmps.getD 17 undef, a'.tmps.getD 18 undef, a'.tmps.getD 19 undef, a'.tmps.getD 20 undef, .pointer (some ⟨Lo, 0, none⟩), .int .i64 (i : Nat), a'.tmps.getD 23 undef, a'.tmps.getD 24 undef, a'.tmps.getD 25 undef, a'.tmps.getD 26 undef, a'.tmps.getD 27 undef, a'.tmps.getD 28 undef, a'.tmps.getD 29 undef, a'.tmps.getD 30 undef, a'.tmps.getD 31 undef, a'.tmps.getD 32 undef, a'.tmps.getD 33 undef, a'.tmps.getD 34 undef, a'.tmps.getD 35 undef, a'.tmps.getD 36 undef, a'.tmps.getD 37 undef, a'.tmps.getD 38 undef, a'.tmps.getD 39 undef, a'.tmps.getD 40 undef, a'.tmps.getD 41 undef, a'.tmps.getD 42 undef, a'.tmps.getD 43 undef, a'.tmps.getD 44 undef, a'.tmps.getD 45 undef, a'.tmps.getD 46 undef, a'.tmps.getD 47 undef, a'.tmps.getD 48 undef, a'.tmps.getD 49 undef, a'.tmps.getD 50 undef, a'.tmps.getD 51 undef, a'.tmps.getD 52 undef, a'.tmps.getD 53 undef, a'.tmps.getD 54 undef, a'.tmps.getD 55 undef, a'.tmps.getD 56 undef, a'.tmps.getD 57 undef, a'.tmps.getD 58 undef, a'.tmps.getD 59 undef, a'.tmps.getD 60 undef, a'.tmps.getD 61 undef, a'.tmps.getD 62 undef, a'.tmps.getD 63 undef, a'.tmps.getD 64 undef, a'.tmps.getD 65 undef, a'.tmps.getD 66 undef, a'.tmps.getD 67 undef, a'.tmps.getD 68 undef, a'.tmps.getD 69 undef, a'.tmps.getD 70 undef, a'.tmps.getD 71 undef, a'.tmps.getD 72 undef, a'.tmps.getD 73 undef, a'.tmps.getD 74 undef, a'.tmps.getD 75 undef, a'.tmps.getD 76 undef, a'.tmps.getD 77 undef, a'.tmps.getD 78 undef, a'.tmps.getD 79 undef, a'.tmps.getD 80 undef, a'.tmps.getD 81 undef, a'.tmps.getD 82 undef, a'.tmps.getD 83 undef, a'.tmps.getD 84 undef, a'.tmps.getD 85 undef, a'.tmps.getD 86 undef, a'.tmps.getD 87 undef, a'.tmps.getD 88 undef, a'.tmps.getD 89 undef, a'.tmps.getD 90 undef, a'.tmps.getD 91 undef, a'.tmps.getD 92 undef, a'.tmps.getD 93 undef, a'.tmps.getD 94 undef, a'.tmps.getD 95 undef, a'.tmps.getD 96 undef, a'.tmps.getD 97 undef, a'.tmps.getD 98 undef, a'.tmps.getD 99 undef, a'.tmps.getD 100 undef, a'.tmps.getD 101 undef, a'.tmps.getD 102 undef, a'.tmps.getD 103 undef, a'.tmps.getD 104 undef, a'.tmps.getD 105 undef, a'.tmps.getD 106 undef, a'.tmps.getD 107 undef, a'.tmps.getD 108 undef, a'.tmps.getD 109 undef, a'.tmps.getD 110 undef, a'.tmps.getD 111 undef, a'.tmps.getD 112 undef, a'.tmps.getD 113 undef, a'.tmps.getD 114 undef, a'.tmps.getD 115 undef, a'.tmps.getD 116 undef, a'.tmps.getD 117 undef, a'.tmps.getD 118 undef, a'.tmps.getD 119 undef, a'.tmps.getD 120 undef, a'.tmps.getD 121 undef, a'.tmps.getD 122 undef, a'.tmps.getD 123 undef, a'.tmps.getD 124 undef, a'.tmps.getD 125 undef, a'.tmps.getD 126 undef, a'.tmps.getD 127 undef, a'.tmps.getD 128 undef, a'.tmps.getD 129 undef, a'.tmps.getD 130 undef, a'.tmps.getD 131 undef, a'.tmps.getD 132 undef, a'.tmps.getD 133 undef, a'.tmps.getD 134 undef, a'.tmps.getD 135 undef, a'.tmps.getD 136 undef, a'.tmps.getD 137 undef, a'.tmps.getD 138 undef, a'.tmps.getD 139 undef, a'.tmps.getD 140 undef, a'.tmps.getD 141 undef, a'.tmps.getD 142 undef, a'.tmps.getD 143 undef, a'.tmps.getD 144 undef, a'.tmps.getD 145 undef, a'.tmps.getD 146 undef, a'.tmps.getD 147 undef, a'.tmps.getD 148 undef, a'.tmps.getD 149 undef, a'.tmps.getD 150 undef, a'.tmps.getD 151 undef, a'.tmps.getD 152 undef, a'.tmps.getD 153 undef, a'.tmps.getD 154 undef, a'.tmps.getD 155 undef, a'.tmps.getD 156 undef, a'.tmps.getD 157 undef, a'.tmps.getD 158 undef, a'.tmps.getD 159 undef, a'.tmps.getD 160 undef, a'.tmps.getD 161 undef, a'.tmps.getD 162 undef, a'.tmps.getD 163 undef, a'.tmps.getD 164 undef, a'.tmps.getD 165 undef, a'.tmps.getD 166 undef, a'.tmps.getD 167 undef, a'.tmps.getD 168 undef, a'.tmps.getD 169 undef, a'.tmps.getD 170 undef, a'.tmps.getD 171 undef, a'.tmps.getD 172 undef, a'.tmps.getD 173 undef, a'.tmps.getD 174 undef, a'.tmps.getD 175 undef, a'.tmps.getD 176 undef, a'.tmps.getD 177 undef, a'.tmps.getD 178 undef, a'.tmps.getD 179 undef, a'.tmps.getD 180 undef, a'.tmps.getD 181 undef, a'.tmps.getD 182 undef, a'.tmps.getD 183 undef, a'.tmps.getD 184 undef, a'.tmps.getD 185 undef, a'.tmps.getD 186 undef, a'.tmps.getD 187 undef, a'.tmps.getD 188 undef, a'.tmps.getD 189 undef, a'.tmps.getD 190 undef, a'.tmps.getD 191 undef, a'.tmps.getD 192 undef, a'.tmps.getD 193 undef, a'.tmps.getD 194 undef, a'.tmps.getD 195 undef, a'.tmps.getD 196 undef, a'.tmps.getD 197 undef, a'.tmps.getD 198 undef, a'.tmps.getD 199 undef, a'.tmps.getD 200 undef, a'.tmps.getD 201 undef, a'.tmps.getD 202 undef, a'.tmps.getD 203 undef, a'.tmps.getD 204 undef, a'.tmps.getD 205 undef, a'.tmps.getD 206 undef, a'.tmps.getD 207 undef, a'.tmps.getD 208 undef, a'.tmps.getD 209 undef, a'.tmps.getD 210 undef, a'.tmps.getD 211 undef, a'.tmps.getD 212 undef, a'.tmps.getD 213 undef, a'.tmps.getD 214 undef, a'.tmps.getD 215 undef, a'.tmps.getD 216 undef, a'.tmps.getD 217 undef, a'.tmps.getD 218 undef, a'.tmps.getD 219 undef, a'.tmps.getD 220 undef, a'.tmps.getD 221 undef, a'.tmps.getD 222 undef, a'.tmps.getD 223 undef, a'.tmps.getD 224 undef, a'.tmps.getD 225 undef, a'.tmps.getD 226 undef, a'.tmps.getD 227 undef, a'.tmps.getD 228 undef, a'.tmps.getD 229 undef, a'.tmps.getD 230 undef, a'.tmps.getD 231 undef, a'.tmps.getD 232 undef, a'.tmps.getD 233 undef, a'.tmps.getD 234 undef, a'.tmps.getD 235 undef, a'.tmps.getD 236 undef, a'.tmps.getD 237 undef, a'.tmps.getD 238 undef, a'.tmps.getD 239 undef, a'.tmps.getD 240 undef, a'.tmps.getD 241 undef, a'.tmps.getD 242 undef, a'.tmps.getD 243 undef, a'.tmps.getD 244 undef, a'.tmps.getD 245 undef, a'.tmps.getD 246 undef, a'.tmps.getD 247 undef, a'.tmps.getD 248 undef, a'.tmps.getD 249 undef, a'.tmps.getD 250 undef, a'.tmps.getD 251 undef, a'.tmps.getD 252 undef, a'.tmps.getD 253 undef, a'.tmps.getD 254 undef, a'.tmps.getD 255 undef, a'.tmps.getD 256 undef, a'.tmps.getD 257 undef, a'.tmps.getD 258 undef, a'.tmps.getD 259 undef, a'.tmps.getD 260 undef, a'.tmps.getD 261 undef, a'.tmps.getD 262 undef, a'.tmps.getD 263 undef, a'.tmps.getD 264 undef, a'.tmps.getD 265 undef, a'.tmps.getD 266 undef, a'.tmps.getD 267 undef, a'.tmps.getD 268 undef, a'.tmps.getD 269 undef, a'.tmps.getD 270 undef, a'.tmps.getD 271 undef, a'.tmps.getD 272 undef, a'.tmps.getD 273 undef, a'.tmps.getD 274 undef, a'.tmps.getD 275 undef, a'.tmps.getD 276 undef, a'.tmps.getD 277 undef], []⟩ ∧ i ≤ 8 ∧ z.length = 32 - 4 * i ∧ Blk w' 26 Lo (B (bytesOf (l.take i) ++ z)) ∧ w1.grownBy w' (some Lo)
set_option maxRecDepth 1000000 in
def X7 (L Ls Lo : Nat) (l : List UInt32) (w1 : World) (a' : Act) (w' : World) : Prop :=
  a' = ⟨#[a'.tmps.getD 0 undef, a'.tmps.getD 1 undef, .pointer (some ⟨L, 0, none⟩), a'.tmps.getD 3 undef, .pointer (some ⟨Ls, 0, none⟩), a'.tmps.getD 5 undef, a'.tmps.getD 6 undef, a'.tmps.getD 7 undef, a'.tmps.getD 8 undef, a'.tmps.getD 9 undef, a'.tmps.getD 10 undef, a'.tmps.getD 11 undef, a'.tmps.getD 12 undef, a'.tmps.getD 13 undef, a'.tmps.getD 14 undef, a'.tmps.getD 15 undef, a'.tmps.getD 16 undef, a'.tmps.getD 17 undef, a'.tmps.getD 18 undef, a'.tmps.getD 19 undef, a'.tmps.getD 20 undef, .pointer (some ⟨Lo, 0, none⟩), a'.tmps.getD 22 undef, a'.tmps.getD 23 undef, a'.tmps.getD 24 undef, a'.tmps.getD 25 undef, a'.tmps.getD 26 undef, a'.tmps.getD 27 undef, a'.tmps.getD 28 undef, a'.tmps.getD 29 undef, a'.tmps.getD 30 undef, a'.tmps.getD 31 undef, a'.tmps.getD 32 undef, a'.tmps.getD 33 undef, a'.tmps.getD 34 undef, a'.tmps.getD 35 undef, a'.tmps.getD 36 undef, a'.tmps.getD 37 undef, a'.tmps.getD 38 undef, a'.tmps.getD 39 undef, a'.tmps.getD 40 undef, a'.tmps.getD 41 undef, a'.tmps.getD 42 undef, a'.tmps.getD 43 undef, a'.tmps.getD 44 undef, a'.tmps.getD 45 undef, a'.tmps.getD 46 undef, a'.tmps.getD 47 undef, a'.tmps.getD 48 undef, a'.tmps.getD 49 undef, a'.tmps.getD 50 undef, a'.tmps.getD 51 undef, a'.tmps.getD 52 undef, a'.tmps.getD 53 undef, a'.tmps.getD 54 undef, a'.tmps.getD 55 undef, a'.tmps.getD 56 undef, a'.tmps.getD 57 undef, a'.tmps.getD 58 undef, a'.tmps.getD 59 undef, a'.tmps.getD 60 undef, a'.tmps.getD 61 undef, a'.tmps.getD 62 undef, a'.tmps.getD 63 undef, a'.tmps.getD 64 undef, a'.tmps.getD 65 undef, a'.tmps.getD 66 undef, a'.tmps.getD 67 undef, a'.tmps.getD 68 undef, a'.tmps.getD 69 undef, a'.tmps.getD 70 undef, a'.tmps.getD 71 undef, a'.tmps.getD 72 undef, a'.tmps.getD 73 undef, a'.tmps.getD 74 undef, a'.tmps.getD 75 undef, a'.tmps.getD 76 undef, a'.tmps.getD 77 undef, a'.tmps.getD 78 undef, a'.tmps.getD 79 undef, a'.tmps.getD 80 undef, a'.tmps.getD 81 undef, a'.tmps.getD 82 undef, a'.tmps.getD 83 undef, a'.tmps.getD 84 undef, a'.tmps.getD 85 undef, a'.tmps.getD 86 undef, a'.tmps.getD 87 undef, a'.tmps.getD 88 undef, a'.tmps.getD 89 undef, a'.tmps.getD 90 undef, a'.tmps.getD 91 undef, a'.tmps.getD 92 undef, a'.tmps.getD 93 undef, a'.tmps.getD 94 undef, a'.tmps.getD 95 undef, a'.tmps.getD 96 undef, a'.tmps.getD 97 undef, a'.tmps.getD 98 undef, a'.tmps.getD 99 undef, a'.tmps.getD 100 undef, a'.tmps.getD 101 undef, a'.tmps.getD 102 undef, a'.tmps.getD 103 undef, a'.tmps.getD 104 undef, a'.tmps.getD 105 undef, a'.tmps.getD 106 undef, a'.tmps.getD 107 undef, a'.tmps.getD 108 undef, a'.tmps.getD 109 undef, a'.tmps.getD 110 undef, a'.tmps.getD 111 undef, a'.tmps.getD 112 undef, a'.tmps.getD 113 undef, a'.tmps.getD 114 undef, a'.tmps.getD 115 undef, a'.tmps.getD 116 undef, a'.tmps.getD 117 undef, a'.tmps.getD 118 undef, a'.tmps.getD 119 undef, a'.tmps.getD 120 undef, a'.tmps.getD 121 undef, a'.tmps.getD 122 undef, a'.tmps.getD 123 undef, a'.tmps.getD 124 undef, a'.tmps.getD 125 undef, a'.tmps.getD 126 undef, a'.tmps.getD 127 undef, a'.tmps.getD 128 undef, a'.tmps.getD 129 undef, a'.tmps.getD 130 undef, a'.tmps.getD 131 undef, a'.tmps.getD 132 undef, a'.tmps.getD 133 undef, a'.tmps.getD 134 undef, a'.tmps.getD 135 undef, a'.tmps.getD 136 undef, a'.tmps.getD 137 undef, a'.tmps.getD 138 undef, a'.tmps.getD 139 undef, a'.tmps.getD 140 undef, a'.tmps.getD 141 undef, a'.tmps.getD 142 undef, a'.tmps.getD 143 undef, a'.tmps.getD 144 undef, a'.tmps.getD 145 undef, a'.tmps.getD 146 undef, a'.tmps.getD 147 undef, a'.tmps.getD 148 undef, a'.tmps.getD 149 undef, a'.tmps.getD 150 undef, a'.tmps.getD 151 undef, a'.tmps.getD 152 undef, a'.tmps.getD 153 undef, a'.tmps.getD 154 undef, a'.tmps.getD 155 undef, a'.tmps.getD 156 undef, a'.tmps.getD 157 undef, a'.tmps.getD 158 undef, a'.tmps.getD 159 undef, a'.tmps.getD 160 undef, a'.tmps.getD 161 undef, a'.tmps.getD 162 undef, a'.tmps.getD 163 undef, a'.tmps.getD 164 undef, a'.tmps.getD 165 undef, a'.tmps.getD 166 undef, a'.tmps.getD 167 undef, a'.tmps.getD 168 undef, a'.tmps.getD 169 undef, a'.tmps.getD 170 undef, a'.tmps.getD 171 undef, a'.tmps.getD 172 undef, a'.tmps.getD 173 undef, a'.tmps.getD 174 undef, a'.tmps.getD 175 undef, a'.tmps.getD 176 undef, a'.tmps.getD 177 undef, a'.tmps.getD 178 undef, a'.tmps.getD 179 undef, a'.tmps.getD 180 undef, a'.tmps.getD 181 undef, a'.tmps.getD 182 undef, a'.tmps.getD 183 undef, a'.tmps.getD 184 undef, a'.tmps.getD 185 undef, a'.tmps.getD 186 undef, a'.tmps.getD 187 undef, a'.tmps.getD 188 undef, a'.tmps.getD 189 undef, a'.tmps.getD 190 undef, a'.tmps.getD 191 undef, a'.tmps.getD 192 undef, a'.tmps.getD 193 undef, a'.tmps.getD 194 undef, a'.tmps.getD 195 undef, a'.tmps.getD 196 undef, a'.tmps.getD 197 undef, a'.tmps.getD 198 undef, a'.tmps.getD 199 undef, a'.tmps.getD 200 undef, a'.tmps.getD 201 undef, a'.tmps.getD 202 undef, a'.tmps.getD 203 undef, a'.tmps.getD 204 undef, a'.tmps.getD 205 undef, a'.tmps.getD 206 undef, a'.tmps.getD 207 undef, a'.tmps.getD 208 undef, a'.tmps.getD 209 undef, a'.tmps.getD 210 undef, a'.tmps.getD 211 undef, a'.tmps.getD 212 undef, a'.tmps.getD 213 undef, a'.tmps.getD 214 undef, a'.tmps.getD 215 undef, a'.tmps.getD 216 undef, a'.tmps.getD 217 undef, a'.tmps.getD 218 undef, a'.tmps.getD 219 undef, a'.tmps.getD 220 undef, a'.tmps.getD 221 undef, a'.tmps.getD 222 undef, a'.tmps.getD 223 undef, a'.tmps.getD 224 undef, a'.tmps.getD 225 undef, a'.tmps.getD 226 undef, a'.tmps.getD 227 undef, a'.tmps.getD 228 undef, a'.tmps.getD 229 undef, a'.tmps.getD 230 undef, a'.tmps.getD 231 undef, a'.tmps.getD 232 undef, a'.tmps.getD 233 undef, a'.tmps.getD 234 undef, a'.tmps.getD 235 undef, a'.tmps.getD 236 undef, a'.tmps.getD 237 undef, a'.tmps.getD 238 undef, a'.tmps.getD 239 undef, a'.tmps.getD 240 undef, a'.tmps.getD 241 undef, a'.tmps.getD 242 undef, a'.tmps.getD 243 undef, a'.tmps.getD 244 undef, a'.tmps.getD 245 undef, a'.tmps.getD 246 undef, a'.tmps.getD 247 undef, a'.tmps.getD 248 undef, a'.tmps.getD 249 undef, a'.tmps.getD 250 undef, a'.tmps.getD 251 undef, a'.tmps.getD 252 undef, a'.tmps.getD 253 undef, a'.tmps.getD 254 undef, a'.tmps.getD 255 undef, a'.tmps.getD 256 undef, a'.tmps.getD 257 undef, a'.tmps.getD 258 undef, a'.tmps.getD 259 undef, a'.tmps.getD 260 undef, a'.tmps.getD 261 undef, a'.tmps.getD 262 undef, a'.tmps.getD 263 undef, a'.tmps.getD 264 undef, a'.tmps.getD 265 undef, a'.tmps.getD 266 undef, a'.tmps.getD 267 undef, a'.tmps.getD 268 undef, a'.tmps.getD 269 undef, a'.tmps.getD 270 undef, a'.tmps.getD 271 undef, a'.tmps.getD 272 undef, a'.tmps.getD 273 undef, a'.tmps.getD 274 undef, a'.tmps.getD 275 undef, a'.tmps.getD 276 undef, a'.tmps.getD 277 undef], []⟩ ∧ Blk w' 26 Lo (B (bytesOf l)) ∧ w1.grownBy w' (some Lo)

set_option maxRecDepth 1000000 in
set_option maxHeartbeats 8000000 in
theorem ref7 (L Ls Lo : Nat) (l : List UInt32) (hl : l.length = 8) (w1 : World) (hA : Blk w1 111 Ls (U l)) (hne : Ls ≠ Lo) (Q : Exit → Act → World → Prop)
    (hexit : ∀ a' w', X7 L Ls Lo l w1 a' w' → Q (.exit 14) a' w')
    (a : Act) (w : World) (h0 : I7 L Ls Lo l w1 a w) :
    (Code.loop (rb Tryd.f46.body 7)).wp Tryd.prog Q a w := by
  refine wp_loop (I7 L Ls Lo l w1) (fun a' _ => 8 - (intOf (a'.tmps.getD 22 undef)).toNat) h0 ?_
  rintro a' w' ⟨i, z, ha, hi, hz, hB, hgr⟩
  obtain ⟨f, ha2⟩ : ∃ f : Nat → Value, a' = ⟨#[f 0, f 1, .pointer (some ⟨L, 0, none⟩), f 3, .pointer (some ⟨Ls, 0, none⟩), f 5, f 6, f 7, f 8, f 9, f 10, f 11, f 12, f 13, f 14, f 15, f 16, f 17, f 18, f 19, f 20, .pointer (some ⟨Lo, 0, none⟩), .int .i64 (i : Nat), f 23, f 24, f 25, f 26, f 27, f 28, f 29, f 30, f 31, f 32, f 33, f 34, f 35, f 36, f 37, f 38, f 39, f 40, f 41, f 42, f 43, f 44, f 45, f 46, f 47, f 48, f 49, f 50, f 51, f 52, f 53, f 54, f 55, f 56, f 57, f 58, f 59, f 60, f 61, f 62, f 63, f 64, f 65, f 66, f 67, f 68, f 69, f 70, f 71, f 72, f 73, f 74, f 75, f 76, f 77, f 78, f 79, f 80, f 81, f 82, f 83, f 84, f 85, f 86, f 87, f 88, f 89, f 90, f 91, f 92, f 93, f 94, f 95, f 96, f 97, f 98, f 99, f 100, f 101, f 102, f 103, f 104, f 105, f 106, f 107, f 108, f 109, f 110, f 111, f 112, f 113, f 114, f 115, f 116, f 117, f 118, f 119, f 120, f 121, f 122, f 123, f 124, f 125, f 126, f 127, f 128, f 129, f 130, f 131, f 132, f 133, f 134, f 135, f 136, f 137, f 138, f 139, f 140, f 141, f 142, f 143, f 144, f 145, f 146, f 147, f 148, f 149, f 150, f 151, f 152, f 153, f 154, f 155, f 156, f 157, f 158, f 159, f 160, f 161, f 162, f 163, f 164, f 165, f 166, f 167, f 168, f 169, f 170, f 171, f 172, f 173, f 174, f 175, f 176, f 177, f 178, f 179, f 180, f 181, f 182, f 183, f 184, f 185, f 186, f 187, f 188, f 189, f 190, f 191, f 192, f 193, f 194, f 195, f 196, f 197, f 198, f 199, f 200, f 201, f 202, f 203, f 204, f 205, f 206, f 207, f 208, f 209, f 210, f 211, f 212, f 213, f 214, f 215, f 216, f 217, f 218, f 219, f 220, f 221, f 222, f 223, f 224, f 225, f 226, f 227, f 228, f 229, f 230, f 231, f 232, f 233, f 234, f 235, f 236, f 237, f 238, f 239, f 240, f 241, f 242, f 243, f 244, f 245, f 246, f 247, f 248, f 249, f 250, f 251, f 252, f 253, f 254, f 255, f 256, f 257, f 258, f 259, f 260, f 261, f 262, f 263, f 264, f 265, f 266, f 267, f 268, f 269, f 270, f 271, f 272, f 273, f 274, f 275, f 276, f 277], []⟩ := ⟨fun j => a'.tmps.getD j undef, ha⟩
  clear ha h0
  subst ha2
  conv => arg 2; whnf
  by_cases hlt : i < 8
  · have hlt' : (i : Int) < 8 := by omega
    have hge' : (0 : Int) ≤ (i : Int) := by omega
    obtain ⟨x, hxv⟩ : ∃ x, l.getD i 0 = x := ⟨_, rfl⟩
    have cs : w'.cell? ⟨Ls, i, none⟩ = some (.int .u32 (nt x)) := by
      rw [← hxv]
      exact (hA.kept (hgr.block Ls hA.lt (by intro e; injection e; omega))).cell (U_getD l i (by rw [hl]; exact hlt))
    obtain ⟨z0, z1, z2, z3, zz, rfl⟩ : ∃ z0 z1 z2 z3 zz, z = z0 :: z1 :: z2 :: z3 :: zz := by
      match z, hz with
      | z0 :: z1 :: z2 :: z3 :: zz, _ => exact ⟨z0, z1, z2, z3, zz, rfl⟩
      | [], h => simp at h; omega
      | [_], h => simp at h; omega
      | [_, _], h => simp at h; omega
      | [_, _, _], h => simp at h; omega
    have hpl : (bytesOf (l.take i)).length = 4 * i := by rw [bytesOf_len, List.length_take, hl]; omega
    have hat : ∀ k, k < 4 → ∃ u, (B (bytesOf (l.take i) ++ z0 :: z1 :: z2 :: z3 :: zz))[4 * i + k]? = some u := by
      intro k hk
      exact ⟨_, List.getElem?_eq_getElem (by rw [B_length, List.length_append, hpl]; simp only [List.length_cons]; omega)⟩
    obtain ⟨u0, g0⟩ := hat 0 (by omega)
    obtain ⟨u1, g1⟩ := hat 1 (by omega)
    obtain ⟨u2, g2⟩ := hat 2 (by omega)
    obtain ⟨u3, g3⟩ := hat 3 (by omega)
    have o0 := cellD_of (hB.cell g0)
    have o1 := cellD_of (hB.cell g1)
    have o2 := cellD_of (hB.cell g2)
    have o3 := cellD_of (hB.cell g3)
    rw [Nat.add_zero] at o0
    have f0 := hB.frozen (4 * i)
    have f1 := hB.frozen (4 * i + 1)
    have f2 := hB.frozen (4 * i + 2)
    have f3 := hB.frozen (4 * i + 3)
    have lox := nt_lo x
    have hix := nt_hi x
    clear hat g0 g1 g2 g3
    have HB := hid hB
    have Hgr := hid hgr
    have Hz := hid hz
    have HA := hid hA
    have HST := hid (show bytesOf (l.take (i + 1)) = bytesOf (l.take i) ++ [UInt8.ofNat (x.toNat / 16777216), UInt8.ofNat (x.toNat / 65536), UInt8.ofNat (x.toNat / 256), UInt8.ofNat x.toNat] by rw [← hxv]; exact bytesOf_out l i (by rw [hl]; exact hlt))
    have hx0 := hid (show Value.int .u8 (nt x / 16777216) = .int .u8 (UInt8.ofNat (x.toNat / 16777216)).toNat by have := tn x; rw [UInt8.toNat_ofNat']; unfold nt; congr 1; omega)
    have hx1 := hid (show Value.int .u8 (nt x / 65536 % 256) = .int .u8 (UInt8.ofNat (x.toNat / 65536)).toNat by rw [UInt8.toNat_ofNat']; unfold nt; congr 1)
    have hx2 := hid (show Value.int .u8 (nt x / 256 % 256) = .int .u8 (UInt8.ofNat (x.toNat / 256)).toNat by rw [UInt8.toNat_ofNat']; unfold nt; congr 1)
    have hx3 := hid (show Value.int .u8 (nt x % 256) = .int .u8 (UInt8.ofNat x.toNat).toNat by rw [UInt8.toNat_ofNat']; unfold nt; congr 1)
    have Hpl := hid hpl
    have HS0 : Hid (∀ (w'' : World) (v : Value), (w''.cell? ⟨Ls, i, none⟩ = some (.int .u32 (nt x)) ∧ w''.cell? ⟨Lo, 4 * i, none⟩ = some (cellD w'' ⟨Lo, 4 * i, none⟩) ∧ w''.frozen? ⟨Lo, 4 * i, none⟩ = false ∧ w''.cell? ⟨Lo, 4 * i + 1, none⟩ = some (cellD w'' ⟨Lo, 4 * i + 1, none⟩) ∧ w''.frozen? ⟨Lo, 4 * i + 1, none⟩ = false ∧ w''.cell? ⟨Lo, 4 * i + 2, none⟩ = some (cellD w'' ⟨Lo, 4 * i + 2, none⟩) ∧ w''.frozen? ⟨Lo, 4 * i + 2, none⟩ = false ∧ w''.cell? ⟨Lo, 4 * i + 3, none⟩ = some (cellD w'' ⟨Lo, 4 * i + 3, none⟩) ∧ w''.frozen? ⟨Lo, 4 * i + 3, none⟩ = false) → (w''.setCell ⟨Lo, 4 * i, none⟩ v).cell? ⟨Ls, i, none⟩ = some (.int .u32 (nt x)) ∧ (w''.setCell ⟨Lo, 4 * i, none⟩ v).cell? ⟨Lo, 4 * i, none⟩ = some (cellD (w''.setCell ⟨Lo, 4 * i, none⟩ v) ⟨Lo, 4 * i, none⟩) ∧ (w''.setCell ⟨Lo, 4 * i, none⟩ v).frozen? ⟨Lo, 4 * i, none⟩ = false ∧ (w''.setCell ⟨Lo, 4 * i, none⟩ v).cell? ⟨Lo, 4 * i + 1, none⟩ = some (cellD (w''.setCell ⟨Lo, 4 * i, none⟩ v) ⟨Lo, 4 * i + 1, none⟩) ∧ (w''.setCell ⟨Lo, 4 * i, none⟩ v).frozen? ⟨Lo, 4 * i + 1, none⟩ = false ∧ (w''.setCell ⟨Lo, 4 * i, none⟩ v).cell? ⟨Lo, 4 * i + 2, none⟩ = some (cellD (w''.setCell ⟨Lo, 4 * i, none⟩ v) ⟨Lo, 4 * i + 2, none⟩) ∧ (w''.setCell ⟨Lo, 4 * i, none⟩ v).frozen? ⟨Lo, 4 * i + 2, none⟩ = false ∧ (w''.setCell ⟨Lo, 4 * i, none⟩ v).cell? ⟨Lo, 4 * i + 3, none⟩ = some (cellD (w''.setCell ⟨Lo, 4 * i, none⟩ v) ⟨Lo, 4 * i + 3, none⟩) ∧ (w''.setCell ⟨Lo, 4 * i, none⟩ v).frozen? ⟨Lo, 4 * i + 3, none⟩ = false) := by
      rintro w'' v ⟨a1, p0, q0, p1, q1, p2, q2, p3, q3⟩
      refine ⟨?_, cellD_set p0, by rw [World.frozen?_setCell]; exact q0, cellD_other (by intro h; injection h; omega) p1, by rw [World.frozen?_setCell]; exact q1, cellD_other (by intro h; injection h; omega) p2, by rw [World.frozen?_setCell]; exact q2, cellD_other (by intro h; injection h; omega) p3, by rw [World.frozen?_setCell]; exact q3⟩
      · rw [World.cell?_setCell_other _ _ _ _ (by intro h; injection h; omega)]; exact a1
    have HS1 : Hid (∀ (w'' : World) (v : Value), (w''.cell? ⟨Ls, i, none⟩ = some (.int .u32 (nt x)) ∧ w''.cell? ⟨Lo, 4 * i, none⟩ = some (cellD w'' ⟨Lo, 4 * i, none⟩) ∧ w''.frozen? ⟨Lo, 4 * i, none⟩ = false ∧ w''.cell? ⟨Lo, 4 * i + 1, none⟩ = some (cellD w'' ⟨Lo, 4 * i + 1, none⟩) ∧ w''.frozen? ⟨Lo, 4 * i + 1, none⟩ = false ∧ w''.cell? ⟨Lo, 4 * i + 2, none⟩ = some (cellD w'' ⟨Lo, 4 * i + 2, none⟩) ∧ w''.frozen? ⟨Lo, 4 * i + 2, none⟩ = false ∧ w''.cell? ⟨Lo, 4 * i + 3, none⟩ = some (cellD w'' ⟨Lo, 4 * i + 3, none⟩) ∧ w''.frozen? ⟨Lo, 4 * i + 3, none⟩ = false) → (w''.setCell ⟨Lo, 4 * i + 1, none⟩ v).cell? ⟨Ls, i, none⟩ = some (.int .u32 (nt x)) ∧ (w''.setCell ⟨Lo, 4 * i + 1, none⟩ v).cell? ⟨Lo, 4 * i, none⟩ = some (cellD (w''.setCell ⟨Lo, 4 * i + 1, none⟩ v) ⟨Lo, 4 * i, none⟩) ∧ (w''.setCell ⟨Lo, 4 * i + 1, none⟩ v).frozen? ⟨Lo, 4 * i, none⟩ = false ∧ (w''.setCell ⟨Lo, 4 * i + 1, none⟩ v).cell? ⟨Lo, 4 * i + 1, none⟩ = some (cellD (w''.setCell ⟨Lo, 4 * i + 1, none⟩ v) ⟨Lo, 4 * i + 1, none⟩) ∧ (w''.setCell ⟨Lo, 4 * i + 1, none⟩ v).frozen? ⟨Lo, 4 * i + 1, none⟩ = false ∧ (w''.setCell ⟨Lo, 4 * i + 1, none⟩ v).cell? ⟨Lo, 4 * i + 2, none⟩ = some (cellD (w''.setCell ⟨Lo, 4 * i + 1, none⟩ v) ⟨Lo, 4 * i + 2, none⟩) ∧ (w''.setCell ⟨Lo, 4 * i + 1, none⟩ v).frozen? ⟨Lo, 4 * i + 2, none⟩ = false ∧ (w''.setCell ⟨Lo, 4 * i + 1, none⟩ v).cell? ⟨Lo, 4 * i + 3, none⟩ = some (cellD (w''.setCell ⟨Lo, 4 * i + 1, none⟩ v) ⟨Lo, 4 * i + 3, none⟩) ∧ (w''.setCell ⟨Lo, 4 * i + 1, none⟩ v).frozen? ⟨Lo, 4 * i + 3, none⟩ = false) := by
      rintro w'' v ⟨a1, p0, q0, p1, q1, p2, q2, p3, q3⟩
      refine ⟨?_, cellD_other (by intro h; injection h; omega) p0, by rw [World.frozen?_setCell]; exact q0, cellD_set p1, by rw [World.frozen?_setCell]; exact q1, cellD_other (by intro h; injection h; omega) p2, by rw [World.frozen?_setCell]; exact q2, cellD_other (by intro h; injection h; omega) p3, by rw [World.frozen?_setCell]; exact q3⟩
      · rw [World.cell?_setCell_other _ _ _ _ (by intro h; injection h; omega)]; exact a1
    have HS2 : Hid (∀ (w'' : World) (v : Value), (w''.cell? ⟨Ls, i, none⟩ = some (.int .u32 (nt x)) ∧ w''.cell? ⟨Lo, 4 * i, none⟩ = some (cellD w'' ⟨Lo, 4 * i, none⟩) ∧ w''.frozen? ⟨Lo, 4 * i, none⟩ = false ∧ w''.cell? ⟨Lo, 4 * i + 1, none⟩ = some (cellD w'' ⟨Lo, 4 * i + 1, none⟩) ∧ w''.frozen? ⟨Lo, 4 * i + 1, none⟩ = false ∧ w''.cell? ⟨Lo, 4 * i + 2, none⟩ = some (cellD w'' ⟨Lo, 4 * i + 2, none⟩) ∧ w''.frozen? ⟨Lo, 4 * i + 2, none⟩ = false ∧ w''.cell? ⟨Lo, 4 * i + 3, none⟩ = some (cellD w'' ⟨Lo, 4 * i + 3, none⟩) ∧ w''.frozen? ⟨Lo, 4 * i + 3, none⟩ = false) → (w''.setCell ⟨Lo, 4 * i + 2, none⟩ v).cell? ⟨Ls, i, none⟩ = some (.int .u32 (nt x)) ∧ (w''.setCell ⟨Lo, 4 * i + 2, none⟩ v).cell? ⟨Lo, 4 * i, none⟩ = some (cellD (w''.setCell ⟨Lo, 4 * i + 2, none⟩ v) ⟨Lo, 4 * i, none⟩) ∧ (w''.setCell ⟨Lo, 4 * i + 2, none⟩ v).frozen? ⟨Lo, 4 * i, none⟩ = false ∧ (w''.setCell ⟨Lo, 4 * i + 2, none⟩ v).cell? ⟨Lo, 4 * i + 1, none⟩ = some (cellD (w''.setCell ⟨Lo, 4 * i + 2, none⟩ v) ⟨Lo, 4 * i + 1, none⟩) ∧ (w''.setCell ⟨Lo, 4 * i + 2, none⟩ v).frozen? ⟨Lo, 4 * i + 1, none⟩ = false ∧ (w''.setCell ⟨Lo, 4 * i + 2, none⟩ v).cell? ⟨Lo, 4 * i + 2, none⟩ = some (cellD (w''.setCell ⟨Lo, 4 * i + 2, none⟩ v) ⟨Lo, 4 * i + 2, none⟩) ∧ (w''.setCell ⟨Lo, 4 * i + 2, none⟩ v).frozen? ⟨Lo, 4 * i + 2, none⟩ = false ∧ (w''.setCell ⟨Lo, 4 * i + 2, none⟩ v).cell? ⟨Lo, 4 * i + 3, none⟩ = some (cellD (w''.setCell ⟨Lo, 4 * i + 2, none⟩ v) ⟨Lo, 4 * i + 3, none⟩) ∧ (w''.setCell ⟨Lo, 4 * i + 2, none⟩ v).frozen? ⟨Lo, 4 * i + 3, none⟩ = false) := by
      rintro w'' v ⟨a1, p0, q0, p1, q1, p2, q2, p3, q3⟩
      refine ⟨?_, cellD_other (by intro h; injection h; omega) p0, by rw [World.frozen?_setCell]; exact q0, cellD_other (by intro h; injection h; omega) p1, by rw [World.frozen?_setCell]; exact q1, cellD_set p2, by rw [World.frozen?_setCell]; exact q2, cellD_other (by intro h; injection h; omega) p3, by rw [World.frozen?_setCell]; exact q3⟩
      · rw [World.cell?_setCell_other _ _ _ _ (by intro h; injection h; omega)]; exact a1
    have HS3 : Hid (∀ (w'' : World) (v : Value), (w''.cell? ⟨Ls, i, none⟩ = some (.int .u32 (nt x)) ∧ w''.cell? ⟨Lo, 4 * i, none⟩ = some (cellD w'' ⟨Lo, 4 * i, none⟩) ∧ w''.frozen? ⟨Lo, 4 * i, none⟩ = false ∧ w''.cell? ⟨Lo, 4 * i + 1, none⟩ = some (cellD w'' ⟨Lo, 4 * i + 1, none⟩) ∧ w''.frozen? ⟨Lo, 4 * i + 1, none⟩ = false ∧ w''.cell? ⟨Lo, 4 * i + 2, none⟩ = some (cellD w'' ⟨Lo, 4 * i + 2, none⟩) ∧ w''.frozen? ⟨Lo, 4 * i + 2, none⟩ = false ∧ w''.cell? ⟨Lo, 4 * i + 3, none⟩ = some (cellD w'' ⟨Lo, 4 * i + 3, none⟩) ∧ w''.frozen? ⟨Lo, 4 * i + 3, none⟩ = false) → (w''.setCell ⟨Lo, 4 * i + 3, none⟩ v).cell? ⟨Ls, i, none⟩ = some (.int .u32 (nt x)) ∧ (w''.setCell ⟨Lo, 4 * i + 3, none⟩ v).cell? ⟨Lo, 4 * i, none⟩ = some (cellD (w''.setCell ⟨Lo, 4 * i + 3, none⟩ v) ⟨Lo, 4 * i, none⟩) ∧ (w''.setCell ⟨Lo, 4 * i + 3, none⟩ v).frozen? ⟨Lo, 4 * i, none⟩ = false ∧ (w''.setCell ⟨Lo, 4 * i + 3, none⟩ v).cell? ⟨Lo, 4 * i + 1, none⟩ = some (cellD (w''.setCell ⟨Lo, 4 * i + 3, none⟩ v) ⟨Lo, 4 * i + 1, none⟩) ∧ (w''.setCell ⟨Lo, 4 * i + 3, none⟩ v).frozen? ⟨Lo, 4 * i + 1, none⟩ = false ∧ (w''.setCell ⟨Lo, 4 * i + 3, none⟩ v).cell? ⟨Lo, 4 * i + 2, none⟩ = some (cellD (w''.setCell ⟨Lo, 4 * i + 3, none⟩ v) ⟨Lo, 4 * i + 2, none⟩) ∧ (w''.setCell ⟨Lo, 4 * i + 3, none⟩ v).frozen? ⟨Lo, 4 * i + 2, none⟩ = false ∧ (w''.setCell ⟨Lo, 4 * i + 3, none⟩ v).cell? ⟨Lo, 4 * i + 3, none⟩ = some (cellD (w''.setCell ⟨Lo, 4 * i + 3, none⟩ v) ⟨Lo, 4 * i + 3, none⟩) ∧ (w''.setCell ⟨Lo, 4 * i + 3, none⟩ v).frozen? ⟨Lo, 4 * i + 3, none⟩ = false) := by
      rintro w'' v ⟨a1, p0, q0, p1, q1, p2, q2, p3, q3⟩
      refine ⟨?_, cellD_other (by intro h; injection h; omega) p0, by rw [World.frozen?_setCell]; exact q0, cellD_other (by intro h; injection h; omega) p1, by rw [World.frozen?_setCell]; exact q1, cellD_other (by intro h; injection h; omega) p2, by rw [World.frozen?_setCell]; exact q2, cellD_set p3, by rw [World.frozen?_setCell]; exact q3⟩
      · rw [World.cell?_setCell_other _ _ _ _ (by intro h; injection h; omega)]; exact a1
    clear hB hgr hz hA hxv hpl
    have ni0 : (0 : Int) ≤ 4 * (i : Int) := by omega
    have ni1 : (0 : Int) ≤ 4 * (i : Int) + 1 := by omega
    have ni2 : (0 : Int) ≤ 4 * (i : Int) + 2 := by omega
    have ni3 : (0 : Int) ≤ 4 * (i : Int) + 3 := by omega
    have nl0 : 4 * (i : Int) < 32 := by omega
    have nl1 : 4 * (i : Int) + 1 < 32 := by omega
    have nl2 : 4 * (i : Int) + 2 < 32 := by omega
    have nl3 : 4 * (i : Int) + 3 < 32 := by omega
    have nt0 : (4 * (i : Int)).toNat = 4 * i := by omega
    have nt1 : (4 * (i : Int) + 1).toNat = 4 * i + 1 := by omega
    have nt2 : (4 * (i : Int) + 2).toNat = 4 * i + 2 := by omega
    have nt3 : (4 * (i : Int) + 3).toNat = 4 * i + 3 := by omega
    have nw0 : IntKind.i64.wrap (4 * (i : Int)) = 4 * (i : Int) := IntWalk.i64_in _ (by omega)
    have nw1 : IntKind.i64.wrap (4 * (i : Int) + 1) = 4 * (i : Int) + 1 := IntWalk.i64_in _ (by omega)
    have nw2 : IntKind.i64.wrap (4 * (i : Int) + 2) = 4 * (i : Int) + 2 := IntWalk.i64_in _ (by omega)
    have nw3 : IntKind.i64.wrap (4 * (i : Int) + 3) = 4 * (i : Int) + 3 := IntWalk.i64_in _ (by omega)
    have nu0 : IntKind.u8.wrap (nt x / 16777216) = nt x / 16777216 := by rw [IntKind.wrap_u8']; omega
    have nu1 : IntKind.u8.wrap (nt x / 65536) = nt x / 65536 % 256 := IntKind.wrap_u8' _
    have nu2 : IntKind.u8.wrap (nt x / 256) = nt x / 256 % 256 := IntKind.wrap_u8' _
    have nu3 : IntKind.u8.wrap (nt x) = nt x % 256 := IntKind.wrap_u8' _
    go_wp2_with fail
    refine wp_region_noPanic ?_
    refine wp_region_held_drew (S := fun w' => w'.cell? ⟨Ls, i, none⟩ = some (.int .u32 (nt x)) ∧ w'.cell? ⟨Lo, 4 * i, none⟩ = some (cellD w' ⟨Lo, 4 * i, none⟩) ∧ w'.frozen? ⟨Lo, 4 * i, none⟩ = false ∧ w'.cell? ⟨Lo, 4 * i + 1, none⟩ = some (cellD w' ⟨Lo, 4 * i + 1, none⟩) ∧ w'.frozen? ⟨Lo, 4 * i + 1, none⟩ = false ∧ w'.cell? ⟨Lo, 4 * i + 2, none⟩ = some (cellD w' ⟨Lo, 4 * i + 2, none⟩) ∧ w'.frozen? ⟨Lo, 4 * i + 2, none⟩ = false ∧ w'.cell? ⟨Lo, 4 * i + 3, none⟩ = some (cellD w' ⟨Lo, 4 * i + 3, none⟩) ∧ w'.frozen? ⟨Lo, 4 * i + 3, none⟩ = false) (by kernel_rfl) (⟨cs, o0, f0, o1, f1, o2, f2, o3, f3⟩) (fun hHeld => ?_)
    refine wpAnyH_take (i := 0) (v := .int .i64 (i : Nat)) rfl (by kernel_rfl) (by kernel_rfl) (by kernel_rfl) (fun _ _ _ h => h) (Or.inl ⟨by rfl, by intro w hSw; go_simp⟩) hHeld ?_
    try simp only [Act.put, List.setIfInBounds_toArray, List.set_cons_zero, List.set_cons_succ, List.getElem_toArray, List.getElem_cons_zero, List.getElem_cons_succ]
    refine wpAnyH_take (i := 1) (v := .int .i64 (4 * (i : Int))) rfl (by kernel_rfl) (by kernel_rfl) (by kernel_rfl) (fun _ _ _ h => h) (Or.inl ⟨by rfl, by intro w hSw; go_simp⟩) hHeld ?_
    try simp only [Act.put, List.setIfInBounds_toArray, List.set_cons_zero, List.set_cons_succ, List.getElem_toArray, List.getElem_cons_zero, List.getElem_cons_succ]
    refine wpAnyH_take (i := 2) (v := .int .i64 (i : Nat)) rfl (by kernel_rfl) (by kernel_rfl) (by kernel_rfl) (fun _ _ _ h => h) (Or.inl ⟨by rfl, by intro w hSw; go_simp⟩) hHeld ?_
    try simp only [Act.put, List.setIfInBounds_toArray, List.set_cons_zero, List.set_cons_succ, List.getElem_toArray, List.getElem_cons_zero, List.getElem_cons_succ]
    refine wpAnyH_take (i := 3) (v := .int .i64 (4 * (i : Int))) rfl (by kernel_rfl) (by kernel_rfl) (by kernel_rfl) (fun _ _ _ h => h) (Or.inl ⟨by rfl, by intro w hSw; go_simp⟩) hHeld ?_
    try simp only [Act.put, List.setIfInBounds_toArray, List.set_cons_zero, List.set_cons_succ, List.getElem_toArray, List.getElem_cons_zero, List.getElem_cons_succ]
    refine wpAnyH_take (i := 4) (v := .int .i64 (4 * (i : Int) + 1)) rfl (by kernel_rfl) (by kernel_rfl) (by kernel_rfl) (fun _ _ _ h => h) (Or.inl ⟨by rfl, by intro w hSw; go_simp⟩) hHeld ?_
    try simp only [Act.put, List.setIfInBounds_toArray, List.set_cons_zero, List.set_cons_succ, List.getElem_toArray, List.getElem_cons_zero, List.getElem_cons_succ]
    refine wpAnyH_take (i := 5) (v := .int .i64 (i : Nat)) rfl (by kernel_rfl) (by kernel_rfl) (by kernel_rfl) (fun _ _ _ h => h) (Or.inl ⟨by rfl, by intro w hSw; go_simp⟩) hHeld ?_
    try simp only [Act.put, List.setIfInBounds_toArray, List.set_cons_zero, List.set_cons_succ, List.getElem_toArray, List.getElem_cons_zero, List.getElem_cons_succ]
    refine wpAnyH_take (i := 6) (v := .int .i64 (4 * (i : Int))) rfl (by kernel_rfl) (by kernel_rfl) (by kernel_rfl) (fun _ _ _ h => h) (Or.inl ⟨by rfl, by intro w hSw; go_simp⟩) hHeld ?_
    try simp only [Act.put, List.setIfInBounds_toArray, List.set_cons_zero, List.set_cons_succ, List.getElem_toArray, List.getElem_cons_zero, List.getElem_cons_succ]
    refine wpAnyH_take (i := 7) (v := .int .i64 (4 * (i : Int) + 2)) rfl (by kernel_rfl) (by kernel_rfl) (by kernel_rfl) (fun _ _ _ h => h) (Or.inl ⟨by rfl, by intro w hSw; go_simp⟩) hHeld ?_
    try simp only [Act.put, List.setIfInBounds_toArray, List.set_cons_zero, List.set_cons_succ, List.getElem_toArray, List.getElem_cons_zero, List.getElem_cons_succ]
    refine wpAnyH_take (i := 8) (v := .int .i64 (i : Nat)) rfl (by kernel_rfl) (by kernel_rfl) (by kernel_rfl) (fun _ _ _ h => h) (Or.inl ⟨by rfl, by intro w hSw; go_simp⟩) hHeld ?_
    try simp only [Act.put, List.setIfInBounds_toArray, List.set_cons_zero, List.set_cons_succ, List.getElem_toArray, List.getElem_cons_zero, List.getElem_cons_succ]
    refine wpAnyH_take (i := 9) (v := .int .i64 (4 * (i : Int))) rfl (by kernel_rfl) (by kernel_rfl) (by kernel_rfl) (fun _ _ _ h => h) (Or.inl ⟨by rfl, by intro w hSw; go_simp⟩) hHeld ?_
    try simp only [Act.put, List.setIfInBounds_toArray, List.set_cons_zero, List.set_cons_succ, List.getElem_toArray, List.getElem_cons_zero, List.getElem_cons_succ]
    refine wpAnyH_take (i := 10) (v := .int .i64 (4 * (i : Int) + 3)) rfl (by kernel_rfl) (by kernel_rfl) (by kernel_rfl) (fun _ _ _ h => h) (Or.inl ⟨by rfl, by intro w hSw; go_simp⟩) hHeld ?_
    try simp only [Act.put, List.setIfInBounds_toArray, List.set_cons_zero, List.set_cons_succ, List.getElem_toArray, List.getElem_cons_zero, List.getElem_cons_succ]
    refine wpAnyH_take (i := 11) (v := .int .i64 (i : Nat)) rfl (by kernel_rfl) (by kernel_rfl) (by kernel_rfl) (fun _ _ _ h => h) (Or.inl ⟨by rfl, by intro w hSw; go_simp⟩) hHeld ?_
    try simp only [Act.put, List.setIfInBounds_toArray, List.set_cons_zero, List.set_cons_succ, List.getElem_toArray, List.getElem_cons_zero, List.getElem_cons_succ]
    refine wpAnyH_take (i := 12) (v := .pointer (some ⟨Ls, i, none⟩)) rfl (by kernel_rfl) (by kernel_rfl) (by kernel_rfl) (fun _ _ _ h => h) (Or.inl ⟨by rfl, by intro w hSw; go_simp⟩) hHeld ?_
    try simp only [Act.put, List.setIfInBounds_toArray, List.set_cons_zero, List.set_cons_succ, List.getElem_toArray, List.getElem_cons_zero, List.getElem_cons_succ]
    refine wpAnyH_take (i := 13) (v := .int .u32 (nt x)) rfl (by kernel_rfl) (by kernel_rfl) (by kernel_rfl) (fun _ _ _ h => h) (Or.inl ⟨by rfl, by intro w hSw; go_simp⟩) hHeld ?_
    try simp only [Act.put, List.setIfInBounds_toArray, List.set_cons_zero, List.set_cons_succ, List.getElem_toArray, List.getElem_cons_zero, List.getElem_cons_succ]
    refine wpAnyH_take (i := 14) (v := .int .u32 (nt x / 16777216)) rfl (by kernel_rfl) (by kernel_rfl) (by kernel_rfl) (fun _ _ _ h => h) (Or.inl ⟨by rfl, by intro w hSw; go_simp⟩) hHeld ?_
    try simp only [Act.put, List.setIfInBounds_toArray, List.set_cons_zero, List.set_cons_succ, List.getElem_toArray, List.getElem_cons_zero, List.getElem_cons_succ]
    refine wpAnyH_take (i := 15) (v := .int .u8 (nt x / 16777216)) rfl (by kernel_rfl) (by kernel_rfl) (by kernel_rfl) (fun _ _ _ h => h) (Or.inl ⟨by rfl, by intro w hSw; go_simp⟩) hHeld ?_
    try simp only [Act.put, List.setIfInBounds_toArray, List.set_cons_zero, List.set_cons_succ, List.getElem_toArray, List.getElem_cons_zero, List.getElem_cons_succ]
    refine wpAnyH_take (i := 16) (v := .int .i64 (i : Nat)) rfl (by kernel_rfl) (by kernel_rfl) (by kernel_rfl) (fun _ _ _ h => h) (Or.inl ⟨by rfl, by intro w hSw; go_simp⟩) hHeld ?_
    try simp only [Act.put, List.setIfInBounds_toArray, List.set_cons_zero, List.set_cons_succ, List.getElem_toArray, List.getElem_cons_zero, List.getElem_cons_succ]
    refine wpAnyH_take (i := 17) (v := .pointer (some ⟨Ls, i, none⟩)) rfl (by kernel_rfl) (by kernel_rfl) (by kernel_rfl) (fun _ _ _ h => h) (Or.inl ⟨by rfl, by intro w hSw; go_simp⟩) hHeld ?_
    try simp only [Act.put, List.setIfInBounds_toArray, List.set_cons_zero, List.set_cons_succ, List.getElem_toArray, List.getElem_cons_zero, List.getElem_cons_succ]
    refine wpAnyH_take (i := 18) (v := .int .u32 (nt x)) rfl (by kernel_rfl) (by kernel_rfl) (by kernel_rfl) (fun _ _ _ h => h) (Or.inl ⟨by rfl, by intro w hSw; go_simp⟩) hHeld ?_
    try simp only [Act.put, List.setIfInBounds_toArray, List.set_cons_zero, List.set_cons_succ, List.getElem_toArray, List.getElem_cons_zero, List.getElem_cons_succ]
    refine wpAnyH_take (i := 19) (v := .int .u32 (nt x / 65536)) rfl (by kernel_rfl) (by kernel_rfl) (by kernel_rfl) (fun _ _ _ h => h) (Or.inl ⟨by rfl, by intro w hSw; go_simp⟩) hHeld ?_
    try simp only [Act.put, List.setIfInBounds_toArray, List.set_cons_zero, List.set_cons_succ, List.getElem_toArray, List.getElem_cons_zero, List.getElem_cons_succ]
    refine wpAnyH_take (i := 20) (v := .int .u8 (nt x / 65536 % 256)) rfl (by kernel_rfl) (by kernel_rfl) (by kernel_rfl) (fun _ _ _ h => h) (Or.inl ⟨by rfl, by intro w hSw; go_simp⟩) hHeld ?_
    try simp only [Act.put, List.setIfInBounds_toArray, List.set_cons_zero, List.set_cons_succ, List.getElem_toArray, List.getElem_cons_zero, List.getElem_cons_succ]
    refine wpAnyH_take (i := 21) (v := .int .i64 (i : Nat)) rfl (by kernel_rfl) (by kernel_rfl) (by kernel_rfl) (fun _ _ _ h => h) (Or.inl ⟨by rfl, by intro w hSw; go_simp⟩) hHeld ?_
    try simp only [Act.put, List.setIfInBounds_toArray, List.set_cons_zero, List.set_cons_succ, List.getElem_toArray, List.getElem_cons_zero, List.getElem_cons_succ]
    refine wpAnyH_take (i := 22) (v := .pointer (some ⟨Ls, i, none⟩)) rfl (by kernel_rfl) (by kernel_rfl) (by kernel_rfl) (fun _ _ _ h => h) (Or.inl ⟨by rfl, by intro w hSw; go_simp⟩) hHeld ?_
    try simp only [Act.put, List.setIfInBounds_toArray, List.set_cons_zero, List.set_cons_succ, List.getElem_toArray, List.getElem_cons_zero, List.getElem_cons_succ]
    refine wpAnyH_take (i := 23) (v := .int .u32 (nt x)) rfl (by kernel_rfl) (by kernel_rfl) (by kernel_rfl) (fun _ _ _ h => h) (Or.inl ⟨by rfl, by intro w hSw; go_simp⟩) hHeld ?_
    try simp only [Act.put, List.setIfInBounds_toArray, List.set_cons_zero, List.set_cons_succ, List.getElem_toArray, List.getElem_cons_zero, List.getElem_cons_succ]
    refine wpAnyH_take (i := 24) (v := .int .u32 (nt x / 256)) rfl (by kernel_rfl) (by kernel_rfl) (by kernel_rfl) (fun _ _ _ h => h) (Or.inl ⟨by rfl, by intro w hSw; go_simp⟩) hHeld ?_
    try simp only [Act.put, List.setIfInBounds_toArray, List.set_cons_zero, List.set_cons_succ, List.getElem_toArray, List.getElem_cons_zero, List.getElem_cons_succ]
    refine wpAnyH_take (i := 25) (v := .int .u8 (nt x / 256 % 256)) rfl (by kernel_rfl) (by kernel_rfl) (by kernel_rfl) (fun _ _ _ h => h) (Or.inl ⟨by rfl, by intro w hSw; go_simp⟩) hHeld ?_
    try simp only [Act.put, List.setIfInBounds_toArray, List.set_cons_zero, List.set_cons_succ, List.getElem_toArray, List.getElem_cons_zero, List.getElem_cons_succ]
    refine wpAnyH_take (i := 26) (v := .int .i64 (i : Nat)) rfl (by kernel_rfl) (by kernel_rfl) (by kernel_rfl) (fun _ _ _ h => h) (Or.inl ⟨by rfl, by intro w hSw; go_simp⟩) hHeld ?_
    try simp only [Act.put, List.setIfInBounds_toArray, List.set_cons_zero, List.set_cons_succ, List.getElem_toArray, List.getElem_cons_zero, List.getElem_cons_succ]
    refine wpAnyH_take (i := 27) (v := .pointer (some ⟨Ls, i, none⟩)) rfl (by kernel_rfl) (by kernel_rfl) (by kernel_rfl) (fun _ _ _ h => h) (Or.inl ⟨by rfl, by intro w hSw; go_simp⟩) hHeld ?_
    try simp only [Act.put, List.setIfInBounds_toArray, List.set_cons_zero, List.set_cons_succ, List.getElem_toArray, List.getElem_cons_zero, List.getElem_cons_succ]
    refine wpAnyH_take (i := 28) (v := .int .u32 (nt x)) rfl (by kernel_rfl) (by kernel_rfl) (by kernel_rfl) (fun _ _ _ h => h) (Or.inl ⟨by rfl, by intro w hSw; go_simp⟩) hHeld ?_
    try simp only [Act.put, List.setIfInBounds_toArray, List.set_cons_zero, List.set_cons_succ, List.getElem_toArray, List.getElem_cons_zero, List.getElem_cons_succ]
    refine wpAnyH_take (i := 29) (v := .int .u8 (nt x % 256)) rfl (by kernel_rfl) (by kernel_rfl) (by kernel_rfl) (fun _ _ _ h => h) (Or.inl ⟨by rfl, by intro w hSw; go_simp⟩) hHeld ?_
    try simp only [Act.put, List.setIfInBounds_toArray, List.set_cons_zero, List.set_cons_succ, List.getElem_toArray, List.getElem_cons_zero, List.getElem_cons_succ]
    refine wpAnyH_take (i := 30) (v := .pointer (some ⟨Lo, 4 * i, none⟩)) rfl (by kernel_rfl) (by kernel_rfl) (by kernel_rfl) (fun _ _ _ h => h) (Or.inl ⟨by rfl, by intro w hSw; go_simp⟩) hHeld ?_
    try simp only [Act.put, List.setIfInBounds_toArray, List.set_cons_zero, List.set_cons_succ, List.getElem_toArray, List.getElem_cons_zero, List.getElem_cons_succ]
    refine wpAnyH_ready (rs := [31]) (by kernel_rfl) (by simp) ?_
    refine AllReadyH.cons rfl (fun K hK => ?_) AllReadyH.nil
    go_simp
    refine hK.out _ _ (HS0.out _ _ hHeld) (fun hHeld => ?_)
    clear hK K
    try simp only [Act.put, List.setIfInBounds_toArray, List.set_cons_zero, List.set_cons_succ, List.getElem_toArray, List.getElem_cons_zero, List.getElem_cons_succ]
    refine wpAnyH_take (i := 32) (v := .pointer (some ⟨Lo, 4 * i + 1, none⟩)) rfl (by kernel_rfl) (by kernel_rfl) (by kernel_rfl) (fun _ _ _ h => h) (Or.inl ⟨by rfl, by intro w hSw; go_simp⟩) hHeld ?_
    try simp only [Act.put, List.setIfInBounds_toArray, List.set_cons_zero, List.set_cons_succ, List.getElem_toArray, List.getElem_cons_zero, List.getElem_cons_succ]
    refine wpAnyH_ready (rs := [33]) (by kernel_rfl) (by simp) ?_
    refine AllReadyH.cons rfl (fun K hK => ?_) AllReadyH.nil
    go_simp
    refine hK.out _ _ (HS1.out _ _ hHeld) (fun hHeld => ?_)
    clear hK K
    try simp only [Act.put, List.setIfInBounds_toArray, List.set_cons_zero, List.set_cons_succ, List.getElem_toArray, List.getElem_cons_zero, List.getElem_cons_succ]
    refine wpAnyH_take (i := 34) (v := .pointer (some ⟨Lo, 4 * i + 2, none⟩)) rfl (by kernel_rfl) (by kernel_rfl) (by kernel_rfl) (fun _ _ _ h => h) (Or.inl ⟨by rfl, by intro w hSw; go_simp⟩) hHeld ?_
    try simp only [Act.put, List.setIfInBounds_toArray, List.set_cons_zero, List.set_cons_succ, List.getElem_toArray, List.getElem_cons_zero, List.getElem_cons_succ]
    refine wpAnyH_ready (rs := [35]) (by kernel_rfl) (by simp) ?_
    refine AllReadyH.cons rfl (fun K hK => ?_) AllReadyH.nil
    go_simp
    refine hK.out _ _ (HS2.out _ _ hHeld) (fun hHeld => ?_)
    clear hK K
    try simp only [Act.put, List.setIfInBounds_toArray, List.set_cons_zero, List.set_cons_succ, List.getElem_toArray, List.getElem_cons_zero, List.getElem_cons_succ]
    refine wpAnyH_take (i := 36) (v := .pointer (some ⟨Lo, 4 * i + 3, none⟩)) rfl (by kernel_rfl) (by kernel_rfl) (by kernel_rfl) (fun _ _ _ h => h) (Or.inl ⟨by rfl, by intro w hSw; go_simp⟩) hHeld ?_
    try simp only [Act.put, List.setIfInBounds_toArray, List.set_cons_zero, List.set_cons_succ, List.getElem_toArray, List.getElem_cons_zero, List.getElem_cons_succ]
    refine wpAnyH_ready (rs := [37]) (by kernel_rfl) (by simp) ?_
    refine AllReadyH.cons rfl (fun K hK => ?_) AllReadyH.nil
    go_simp
    refine hK.out _ _ (HS3.out _ _ hHeld) (fun hHeld => ?_)
    clear hK K
    try simp only [Act.put, List.setIfInBounds_toArray, List.set_cons_zero, List.set_cons_succ, List.getElem_toArray, List.getElem_cons_zero, List.getElem_cons_succ]
    refine wpAnyH_done (by kernel_rfl) ?_ _
    refine NoPanic.normal ?_
    go_wp2_with fail
    refine ⟨⟨i + 1, zz, by kernel_rfl, by omega, by have := Hz.out; simp at this; omega, ?_, ?_⟩, by simp [intOf]; omega⟩
    · rw [HST.out, hx0.out, hx1.out, hx2.out, hx3.out]
      have h4 := (((HB.out.setCell (4 * i) (.int .u8 (UInt8.ofNat (x.toNat / 16777216)).toNat)).setCell (4 * i + 1) (.int .u8 (UInt8.ofNat (x.toNat / 65536)).toNat)).setCell (4 * i + 2) (.int .u8 (UInt8.ofNat (x.toNat / 256)).toNat)).setCell (4 * i + 3) (.int .u8 (UInt8.ofNat x.toNat).toNat)
      rw [B_append, show B (z0 :: z1 :: z2 :: z3 :: zz) = .int .u8 z0.toNat :: .int .u8 z1.toNat :: .int .u8 z2.toNat :: .int .u8 z3.toNat :: B zz from rfl, set4 _ _ _ _ _ _ _ _ _ _ (4 * i) (by rw [B_length]; exact Hpl.out)] at h4
      rw [List.append_assoc, B_append]
      exact h4
    · exact grown_setCell (grown_setCell (grown_setCell (grown_setCell (grown_drewN Hgr.out 1) Lo _ _ (.inl rfl)) Lo _ _ (.inl rfl)) Lo _ _ (.inl rfl)) Lo _ _ (.inl rfl)
  · have hi8 : i = 8 := by omega
    subst hi8
    have hz0 : z = [] := List.eq_nil_of_length_eq_zero (by omega)
    subst hz0
    rw [List.append_nil, List.take_of_length_le (by omega)] at hB
    have HB := hid hB
    have Hgr := hid hgr
    clear hB hgr hA
    go_wp2_with fail
    exact ⟨by kernel_rfl, HB.out, Hgr.out⟩
end Go.Proofs.YtinifnpajkldbaaDoor
