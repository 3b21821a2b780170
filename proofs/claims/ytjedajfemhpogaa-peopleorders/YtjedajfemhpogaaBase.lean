/- Laws on a row of bytes that a call owns, on what reads as bytes, and on append, of no program. -/
import Derived.WalkKit
import Derived.WalkSpells
import Derived.Deep.AppendSrc
namespace Go.Proofs.Ytjedajfemhpogaa
open Go.RowKit

theorem hid {p : Prop} (h : p) : Hid p := h

/-- Bytes as cells. -/
def B (l : List UInt8) : List Value := l.map fun b => Value.int .u8 b.toNat

theorem B_length (l : List UInt8) : (B l).length = l.length := by simp [B]
theorem B_append (l m : List UInt8) : B (l ++ m) = B l ++ B m := by simp [B]
theorem B_get (l : List UInt8) (j : Nat) : (B l)[j]? = l[j]?.map fun b => Value.int .u8 b.toNat := by simp [B]
theorem B_one (l : List UInt8) : ∀ u ∈ B l, u.oneCell' = true := by
  intro u hu
  simp only [B, List.mem_map] at hu
  obtain ⟨b, _, rfl⟩ := hu
  rfl

/-- Block g is a row of cap cells of type e whose first n are xs. -/
def Owns (w : World) (e : TypeId) (g cap n : Nat) (xs : List Value) : Prop :=
  xs.length = n ∧ n ≤ cap ∧ cap ≤ maxLen ∧ ∃ cur, w.heap[g]? = some (.cells cur e (0, 0)) ∧ cur.size = cap ∧ cur.toList.take n = xs

/-- A slice that reads as xs. -/
def Reads (w : World) (v : Value) (xs : List Value) : Prop :=
  ∃ ao cap, v = .slice ao xs.length cap ∧ xs.length ≤ cap ∧ (ao = none → cap = 0) ∧ ∀ ad, ao = some ad → ∀ j u, xs[j]? = some u → w.cell? (ad.add j) = some u

section
variable {w w' : World} {e : TypeId} {g cap n : Nat} {xs : List Value}

theorem Owns.lt (h : Owns w e g cap n xs) : g < w.heap.size := by
  obtain ⟨_, _, _, cur, hg, _⟩ := h
  exact (Array.getElem?_eq_some_iff.1 hg).1

theorem Owns.kept (h : Owns w e g cap n xs) (hb : w'.heap[g]? = w.heap[g]?) : Owns w' e g cap n xs := by
  obtain ⟨h1, h2, h3, cur, hg, h4⟩ := h
  exact ⟨h1, h2, h3, cur, by rw [hb]; exact hg, h4⟩

theorem Owns.alloc (h : Owns w e g cap n xs) (o : Obj) : Owns (w.alloc o) e g cap n xs := h.kept (Below.heap_alloc w o g h.lt)
theorem Owns.drew (h : Owns w e g cap n xs) : Owns w.drew e g cap n xs := h

theorem Owns.pre {ys : List Value} {m : Nat} (h : Owns w e g cap (n + m) (xs ++ ys)) (hx : xs.length = n) : Owns w e g cap n xs := by
  obtain ⟨h1, h2, h3, cur, hg, h4, h5⟩ := h
  refine ⟨hx, by omega, h3, cur, hg, h4, ?_⟩
  have h6 := congrArg (List.take n) h5
  rw [List.take_take, Nat.min_eq_left (by omega), List.take_append_of_le_length (by omega), List.take_of_length_le (l := xs) (by omega)] at h6
  exact h6

theorem Owns.cell (h : Owns w e g cap n xs) {j : Nat} {u : Value} (hj : xs[j]? = some u) : w.cell? ⟨g, j, none⟩ = some u := by
  obtain ⟨h1, h2, h3, cur, hg, h4, h5⟩ := h
  rw [cell_of_row w g j cur e (0, 0) hg]
  rw [← h5, List.getElem?_take] at hj
  split at hj
  · simpa using hj
  · cases hj

theorem Owns.frozen (h : Owns w e g cap n xs) (j : Nat) : w.frozen? ⟨g, j, none⟩ = false := by
  obtain ⟨_, _, _, cur, hg, _⟩ := h
  simp [World.frozen?, hg]

theorem Owns.reads (h : Owns w e g cap n xs) : Reads w (.slice (some ⟨g, 0, none⟩) n cap) xs := by
  have h0 := h
  obtain ⟨h1, h2, h3, _⟩ := h0
  subst h1
  refine ⟨_, cap, rfl, h2, (fun h => by cases h), ?_⟩
  intro ad he j u hj
  cases he
  rw [Addr.add_lit, Nat.zero_add]
  exact h.cell hj
end

theorem Reads.later {w w1 : World} {v : Value} {xs : List Value} (h : Reads w v xs) (hb : Below w.heap.size w w1) : Reads w1 v xs := by
  obtain ⟨ao, c, rfl, hc, hn, hcell⟩ := h
  exact ⟨ao, c, rfl, hc, hn, fun ad he j u hj => cell_later hb (hcell ad he j u hj)⟩

theorem below_seq {a w w' : World} (h : Below a.heap.size a w) (k : Below w.heap.size w w') : Below a.heap.size a w' := h.trans (k.mono h.size)

theorem Owns.later {w w1 : World} {e : TypeId} {g cap n : Nat} {xs : List Value} (h : Owns w e g cap n xs) (hb : Below w.heap.size w w1) : Owns w1 e g cap n xs := h.kept (hb.block g h.lt)

/-- By appends the row g became the row g'. -/
structure Grew (e : TypeId) (w : World) (g cap n : Nat) (xs : List Value) (w' : World) (g' cap' n' : Nat) (xs' : List Value) : Prop where
  own : Owns w' e g' cap' n' xs'
  old : Owns w' e g cap n xs
  grown : w.grownBy w' (some g)
  blk : (g' = g ∧ cap' = cap) ∨ w.heap.size ≤ g'
  lt : g < w.heap.size
  pre : ∃ more, xs' = xs ++ more

theorem Grew.trans {e : TypeId} {w w1 w2 : World} {g cap n g1 cap1 n1 g2 cap2 n2 : Nat} {xs xs1 xs2 : List Value}
    (a : Grew e w g cap n xs w1 g1 cap1 n1 xs1) (b : Grew e w1 g1 cap1 n1 xs1 w2 g2 cap2 n2 xs2) : Grew e w g cap n xs w2 g2 cap2 n2 xs2 := by
  have hxs : xs.length = n := a.old.1
  obtain ⟨m1, e1⟩ := a.pre
  obtain ⟨m2, e2⟩ := b.pre
  have hs := a.grown.size
  refine ⟨b.own, ?_, ⟨b.grown.os.trans a.grown.os, b.grown.tape.trans a.grown.tape, b.grown.output.trans a.grown.output, Nat.le_trans a.grown.size b.grown.size, ?_⟩, ?_, a.lt, ⟨m1 ++ m2, by rw [e2, e1, List.append_assoc]⟩⟩
  · rcases a.blk with ⟨rfl, rfl⟩ | hb
    · have ho := b.old
      subst e1
      have hl : n1 = n + m1.length := by have := ho.1; simp at this; omega
      subst hl
      exact ho.pre hxs
    · refine a.old.kept (b.grown.block g a.old.lt ?_)
      have := a.lt
      intro h
      cases h
      omega
  · intro k hk hne
    rw [b.grown.block k (by omega) ?_, a.grown.block k hk hne]
    rcases a.blk with ⟨rfl, rfl⟩ | hb
    · exact hne
    · intro h
      cases h
      omega
  · rcases a.blk with ⟨rfl, rfl⟩ | hb
    · rcases b.blk with h | h
      · exact .inl h
      · exact .inr (by omega)
    · rcases b.blk with ⟨rfl, rfl⟩ | h
      · exact .inr hb
      · exact .inr (by omega)

theorem Grew.refl {e : TypeId} {w : World} {g cap n : Nat} {xs : List Value} (h : Owns w e g cap n xs) : Grew e w g cap n xs w g cap n xs :=
  ⟨h, h, World.grownBy.refl _ _, .inl ⟨rfl, rfl⟩, h.lt, [], by simp⟩

theorem Grew.below {e : TypeId} {w w' a : World} {g cap n g' cap' n' Bd : Nat} {xs xs' : List Value} (h : Grew e w g cap n xs w' g' cap' n' xs') (hb : Below Bd a w) (h1 : Bd ≤ g) : Below Bd a w' :=
  hb.grown h.grown (by have := h.lt; omega) (fun k hk => by cases hk; exact h1)

section
variable {P : Program} (w : World)

theorem run_append_src (t tx ty e : TypeId) (i : TypeInfo) (z : Value) (ht : P.underlying t = some (.slice e)) (hi : P.info? e = some i) (hz : i.zero = some z)
    (hsize : i.size = 1) (hby : i.bytes = 1) (hzs : z.cells.size = 1)
    (g cap n : Nat) (xs : List Value) (hown : Owns w e g cap n xs) (x : Value) (m : Nat) (news : List Value) (hs : Src P 1 tx x m news w)
    (hb : n + m ≤ 140737488355328) :
    ∃ g' cap' w', (Builtin.append_ #[t, tx] ty #[.slice (some ⟨g, 0, none⟩) n cap, x]).run P w = .ok (.slice (some ⟨g', 0, none⟩) (n + m) cap') w' ∧
      Grew e w g cap n xs w' g' cap' (n + m) (xs ++ news) := by
  have h0 := hown
  obtain ⟨h1, h2, h3, cur, hg, hcs, htake⟩ := h0
  have hl : news.length = m := by simpa using hs.newsLen
  have h63 : n + m ≤ maxLen := by unfold maxLen; omega
  have hlen : (xs ++ news).length = n + m := by rw [List.length_append, h1, hl]
  by_cases hroom : n + m ≤ cap
  · have hst := run_storeCells_at P g n e news 0 cur w hg (by rw [hl]; omega) hs.one
    simp only [Nat.add_zero] at hst
    have hr : (Builtin.append_ #[t, tx] ty #[.slice (some ⟨g, 0, none⟩) n cap, x]).run P w = .ok (.slice (some ⟨g, 0, none⟩) (n + m) cap) (w.setRow g (cur.toList.take n ++ news ++ cur.toList.drop (n + news.length)).toArray) := by
      rcases hs.kind with ⟨e', hk⟩ | hk <;> simp [Builtin.append_, run_underlying ht, run_underlying hk, sizeOf, typeInfo, hi, hsize, hs.len, hroom, hs.cells, Addr.add_lit, hst]
    have hnew : Owns (w.setRow g (cur.toList.take n ++ news ++ cur.toList.drop (n + news.length)).toArray) e g cap (n + m) (xs ++ news) := by
      refine ⟨hlen, hroom, h3, _, setRow_heap w g cur _ e _ hg, ?_, ?_⟩
      · simp only [List.size_toArray, List.length_append, List.length_take, List.length_drop, Array.length_toList]
        omega
      · rw [htake]
        simp only [List.append_assoc]
        rw [← List.append_assoc, ← hlen]
        exact List.take_left
    exact ⟨g, cap, _, hr, ⟨hnew, hnew.pre h1, ⟨rfl, rfl, rfl, by simp, fun k _ hk => setRow_other w g k _ (fun e => hk (by simp [e]))⟩, .inl ⟨rfl, rfl⟩, hown.lt, news, rfl⟩⟩
  · have hgc := grownCap_ge w (n + m) cap e
    have hcm := grownCap_le_maxLen w (n + m) cap e h63
    have hf : (Builtin.firstCells i.size n (.slice (some ⟨g, 0, none⟩) n cap)).run P w.drew = .ok xs.toArray w.drew :=
      run_firstCells_some (P := P) w.drew i.size n ⟨g, 0, none⟩ n cap xs (by rw [hsize, h1, Nat.mul_one]) (by intro j u hj; rw [Addr.add_lit, Nat.zero_add]; exact hown.drew.cell hj)
    have hr := run_append_grow_src (P := P) w t tx ty e i z ht hi hz (some ⟨g, 0, none⟩) n cap xs hf x m news (by rw [hsize]; exact hs) (by omega) (by omega) (growslice_fits (by omega) (by rw [hby]; omega))
    refine ⟨w.heap.size, grownCap w (n + m) cap e, _, hr, ⟨⟨hlen, hgc, hcm, _, heap_alloc_new w.drew _, ?_, ?_⟩, hown.drew.alloc _, ⟨rfl, rfl, rfl, by simp, fun k hk _ => Below.heap_alloc w.drew _ k hk⟩, .inr (Nat.le_refl _), hown.lt, news, rfl⟩⟩
    · simp only [Array.size_append, List.size_toArray, size_zeroCells, hzs, hlen]
      omega
    · simp only [Array.toList_append]
      rw [← hlen]
      exact List.take_left

/-- The operation, for the walk. -/
theorem wpList_append_src {ops : Array Oper} {rest : List Oper} {o : Oper} {a : Act} {Q : Exit → Act → World → Prop} (hgd : o.guard = none) (s x : Operand) (t tx : TypeId)
    (ho : o.op = .call { callee := .builtin .append, args := #[s, x], argTypes := #[t, tx] })
    (e : TypeId) (i : TypeInfo) (z : Value) (ht : P.underlying t = some (.slice e)) (hi : P.info? e = some i) (hz : i.zero = some z) (hsize : i.size = 1) (hby : i.bytes = 1) (hzs : z.cells.size = 1)
    (g cap n : Nat) (xs : List Value) (hs : a.eval s = .slice (some ⟨g, 0, none⟩) n cap) (hown : Owns w e g cap n xs)
    (y : Value) (m : Nat) (news : List Value) (hx : a.eval x = y) (hsrc : Src P 1 tx y m news w) (hb : n + m ≤ 140737488355328)
    (h : ∀ g' cap' w', Grew e w g cap n xs w' g' cap' (n + m) (xs ++ news) → wpList P ops Q rest (a.put o.dst (.slice (some ⟨g', 0, none⟩) (n + m) cap')) w') : wpList P ops Q (o :: rest) a w := by
  refine wpList_plain hgd fun K hK => ?_
  obtain ⟨g', cap', w', hr, hG⟩ := run_append_src (P := P) w t tx o.type e i z ht hi hz hsize hby hzs g cap n xs hown y m news hsrc hb
  unfold Oper.wp execOp
  simp only [ho, resolve, invoke, builtin, Sem.run_bind, Sem.run_pure, Result.andThen_ok, List.map_toArray, List.map_cons, List.map_nil, hs, hx, hr]
  exact hK _ _ (h g' cap' w' hG)

theorem Src.ofReads {tx e' : TypeId} (hk : P.underlying tx = some (.slice e')) {v : Value} {xs : List Value} (h : Reads w v xs) (h1 : ∀ u ∈ xs, u.oneCell' = true) : Src P 1 tx v xs.length xs w := by
  obtain ⟨ao, cap, rfl, hc, hn, hcell⟩ := h
  cases ao with
  | none =>
    have h0 := hn rfl
    subst h0
    have hx : xs = [] := List.eq_nil_of_length_eq_zero (by omega)
    subst hx
    exact Src.ofNil w hk 0
  | some ad => exact Src.ofSlice w hk ad xs.length cap xs (by simp) (hcell ad rfl) h1

theorem Owns.empty (e : TypeId) : Owns (w.alloc (.cells #[] e)) e w.heap.size 0 0 [] :=
  ⟨rfl, Nat.le_refl _, Nat.zero_le _, #[], heap_alloc_new w _, rfl, rfl⟩

theorem Owns.two (e : TypeId) (x y : Value) : Owns (w.alloc (.cells #[x, y] e)) e w.heap.size 2 2 [x, y] :=
  ⟨rfl, Nat.le_refl _, by unfold maxLen; omega, #[x, y], heap_alloc_new w _, rfl, rfl⟩

theorem Src.ofBytes {tx e' : TypeId} (hk : P.underlying tx = some (.slice e')) {v : Value} {l : List UInt8} {k : Nat} (hl : l.length = k) (h : Reads w v (B l)) : Src P 1 tx v k (B l) w := by
  have := Src.ofReads w hk h (B_one l)
  rwa [B_length, hl] at this

theorem foldl_push : ∀ (l : List UInt8) (s : ByteArray), (l.map fun b => ((b.toNat : Nat) : Int)).foldl (fun r n => r.push (UInt8.ofNat n.toNat)) s = ⟨s.data ++ l.toArray⟩
  | [], s => by simp
  | b :: l, s => by
    rw [List.map_cons, List.foldl_cons, foldl_push l]
    simp [ByteArray.push]

/-- string(x), x a slice of bytes. -/
theorem run_string (src dst e : TypeId) (hs : P.underlying src = some (.slice e)) (he : P.underlying e = some (.int .u8)) (hd : P.underlying dst = some .string) {v : Value} {l : List UInt8} (h : Reads w v (B l)) :
    (convert src dst v).run P w = .ok (.string ⟨l.toArray⟩) w := by
  obtain ⟨ao, cap, rfl, hc, hn, hcell⟩ := h
  rw [run_convert_bytes_string w src dst e ao _ cap hs he hd]
  have hB : B l = (l.map fun b => ((b.toNat : Nat) : Int)).map (Value.int .u8) := by simp [B]
  cases ao with
  | none =>
    have h0 := hn rfl
    subst h0
    have hl : l = [] := List.eq_nil_of_length_eq_zero (by rw [B_length] at hc; omega)
    subst hl
    simp [Conv.bytesToString]
    rfl
  | some ad =>
    have hload : (loadCells ad (B l).length).run P w = .ok ((l.map fun b => ((b.toNat : Nat) : Int)).map (Value.int .u8)).toArray w := by
      have := run_loadCells_list (P := P) w ad (B l) (hcell ad rfl)
      rwa [← hB]
    rw [run_bytesToString w ad _ cap _ hload, foldl_push]
    rw [show (ByteArray.empty).data = #[] from rfl, Array.empty_append]

/-- x == nil, x a slice. -/
theorem run_isNil (t e : TypeId) (a : Option Addr) (n c : Nat) (h : P.underlying t = some (.slice e)) : (binOp .eql t (.slice a n c) (.slice none 0 0)).run P w = .ok (.bool a.isNone) w := by
  simp only [binOp]
  simp [Op.equal, Op.maxDepth, Lib.run_equalIn_slice_nil w 9999 t e a n c 0 0 h]

/-- make([]byte, n, c). -/
theorem wpList_make_row {ops : Array Oper} {rest : List Oper} {o : Oper} {a : Act} {Q : Exit → Act → World → Prop} (hgd : o.guard = none) (l c : Operand) (t : TypeId) (hop : o.op = Op.makeSlice t l c)
    (e : TypeId) (i : TypeInfo) (z : Value) (ht : P.underlying t = some (.slice e)) (hi : P.info? e = some i) (hz : i.zero = some z) (hsize : i.size = 1) (hby : i.bytes = 1)
    (kl kc : IntKind) (L C : Int) (n cap : Nat) (hl : a.eval l = .int kl L) (hc : a.eval c = .int kc C) (hL : L = (n : Int)) (hC : C = (cap : Int)) (hnc : n ≤ cap) (hb : cap ≤ 140737488355328)
    (h : ∀ w' zs, Owns w' e w.heap.size cap n zs → w.grownBy w' (some w.heap.size) → w'.heap.size = w.heap.size + 1 → wpList P ops Q rest (a.put o.dst (.slice (some ⟨w.heap.size, 0, none⟩) n cap)) w') : wpList P ops Q (o :: rest) a w := by
  refine wpList_plain hgd fun K hK => ?_
  have hr := run_make (P := P) w t e i z ht hi hz kl kc (n : Int) (cap : Int) (by omega) (by omega) (by rw [hby]; omega) (by omega)
  simp only [Int.toNat_natCast] at hr
  subst hL
  subst hC
  unfold Oper.wp
  simp [execOp, hop, hl, hc, hr, Result.andThen]
  refine hK _ _ (h _ ((madeCells z.cells (cap * i.size)).toList.take n) ⟨?_, hnc, by unfold maxLen; omega, _, heap_alloc_new w _, ?_, rfl⟩ (World.grownBy_alloc w _ _) (by simp))
  · rw [List.length_take, Array.length_toList, size_madeCells, hsize]; omega
  · rw [size_madeCells, hsize]; omega

theorem made_bytes (n m : Nat) (h : m ≤ n) : (madeCells (Value.int .u8 0).cells n).toList.take m = B (List.replicate m 0) := by
  apply List.ext_getElem?
  intro j
  rw [B_get, List.getElem?_take, List.getElem?_replicate]
  by_cases hj : j < m
  · rw [if_pos hj, if_pos hj]
    have hn : j < n := by omega
    simp [madeCells, hn, Value.cells, Nat.mod_one]
  · rw [if_neg hj, if_neg hj]
    rfl

/-- make([]byte, n): noughts. -/
theorem wpList_make_bytes {ops : Array Oper} {rest : List Oper} {o : Oper} {a : Act} {Q : Exit → Act → World → Prop} (hgd : o.guard = none) (l c : Operand) (t : TypeId) (hop : o.op = Op.makeSlice t l c)
    (e : TypeId) (i : TypeInfo) (ht : P.underlying t = some (.slice e)) (hi : P.info? e = some i) (hz : i.zero = some (.int .u8 0)) (hsize : i.size = 1) (hby : i.bytes = 1)
    (kl kc : IntKind) (L C : Int) (n : Nat) (hl : a.eval l = .int kl L) (hc : a.eval c = .int kc C) (hL : L = (n : Int)) (hC : C = (n : Int)) (hb : n ≤ 140737488355328)
    (h : ∀ w', Owns w' e w.heap.size n n (B (List.replicate n 0)) → w.grownBy w' (some w.heap.size) → w'.heap.size = w.heap.size + 1 → wpList P ops Q rest (a.put o.dst (.slice (some ⟨w.heap.size, 0, none⟩) n n)) w') : wpList P ops Q (o :: rest) a w := by
  refine wpList_plain hgd fun K hK => ?_
  have hr := run_make (P := P) w t e i _ ht hi hz kl kc (n : Int) (n : Int) (by omega) (by omega) (by rw [hby]; omega) (by omega)
  simp only [Int.toNat_natCast] at hr
  subst hL
  subst hC
  unfold Oper.wp
  simp [execOp, hop, hl, hc, hr, Result.andThen]
  refine hK _ _ (h _ ⟨by rw [B_length, List.length_replicate], Nat.le_refl _, by unfold maxLen; omega, _, heap_alloc_new w _, ?_, ?_⟩ (World.grownBy_alloc w _ _) (by simp))
  · rw [size_madeCells, hsize]; omega
  · rw [hsize, Nat.mul_one]; exact made_bytes n n (Nat.le_refl _)

theorem Owns.set0 {w : World} {e : TypeId} {g cap n : Nat} {x y : UInt8} {l : List UInt8} (h : Owns w e g cap n (B (x :: l))) : Owns (w.setCell ⟨g, 0, none⟩ (.int .u8 y.toNat)) e g cap n (B (y :: l)) := by
  obtain ⟨h1, h2, h3, cur, hg, h4, h5⟩ := h
  rw [setCell_eq_setRow w g 0 cur e (0, 0) _ hg]
  refine ⟨by rw [B_length] at h1 ⊢; exact h1, h2, h3, _, setRow_heap w g cur _ e _ hg, by rw [Array.size_setIfInBounds]; exact h4, ?_⟩
  rw [B_length, List.length_cons] at h1
  subst h1
  rw [Array.toList_setIfInBounds]
  cases hc : cur.toList with
  | nil => rw [hc] at h5; simp [B] at h5
  | cons z r =>
    rw [hc] at h5
    simp only [List.take_succ_cons, B, List.map_cons, List.cons.injEq] at h5
    simp only [List.set_cons_zero, List.take_succ_cons, B, List.map_cons, h5.2]

theorem run_copy_reads (dT sT ty e : TypeId) (i : TypeInfo) (hu : P.underlying dT = some (.slice e)) (hi : P.info? e = some i) (hsize : i.size = 1)
    (g cap n : Nat) (zs : List Value) (ho : Owns w e g cap n zs) (v : Value) (xs : List Value) (hx : Reads w v xs) (hl : xs.length = n) (h1 : ∀ u ∈ xs, u.oneCell' = true) :
    ∃ w', (Builtin.copy_ #[dT, sT] ty #[.slice (some ⟨g, 0, none⟩) n cap, v]).run P w = .ok (goInt n) w' ∧ Owns w' e g cap n xs ∧ w.grownBy w' (some g) ∧ w'.heap.size = w.heap.size := by
  obtain ⟨l1, l2, l3, cur, hg, hcs, htake⟩ := ho
  obtain ⟨ao, c, rfl, hc, hn, hcell⟩ := hx
  cases ao with
  | none =>
    have h0 := hn rfl
    subst h0
    have hx : xs = [] := List.eq_nil_of_length_eq_zero (by omega)
    subst hx
    simp only [List.length_nil] at hl
    subst hl
    refine ⟨w, run_copy_nil P w dT sT ty e ⟨g, 0, none⟩ 0 cap hu (by simp [hi]), ⟨rfl, l2, l3, cur, hg, hcs, by simp⟩, World.grownBy.refl _ _, rfl⟩
  | some ad =>
    have hr := run_copy_row P w dT sT ty e g 0 n cap ad xs.length c cur e xs hu (by simp [hi, hsize]) hg (by rw [hl]; simp) (hcell ad rfl) (by omega) h1
    rw [hl] at hr
    refine ⟨_, by rw [hl]; exact hr, ⟨hl, l2, l3, _, setRow_heap w g cur _ e _ hg, ?_, ?_⟩, ⟨rfl, rfl, rfl, by simp, fun k _ hk => setRow_other w g k _ (fun e => hk (by simp [e]))⟩, by simp⟩
    · simp; omega
    · simp [← hl]

/-- copy(row, x), x as long as the row. -/
theorem wpList_copy_row {ops : Array Oper} {rest : List Oper} {o : Oper} {a : Act} {Q : Exit → Act → World → Prop} (hgd : o.guard = none) (s x : Operand) (t tx : TypeId)
    (ho : o.op = .call { callee := .builtin .copy, args := #[s, x], argTypes := #[t, tx] })
    (e : TypeId) (i : TypeInfo) (ht : P.underlying t = some (.slice e)) (hi : P.info? e = some i) (hsize : i.size = 1)
    (g cap n : Nat) (zs : List Value) (hs : a.eval s = .slice (some ⟨g, 0, none⟩) n cap) (hown : Owns w e g cap n zs)
    (v : Value) (xs : List Value) (hx : a.eval x = v) (hr : Reads w v xs) (hl : xs.length = n) (h1 : ∀ u ∈ xs, u.oneCell' = true)
    (h : ∀ w', Owns w' e g cap n xs → w.grownBy w' (some g) → w'.heap.size = w.heap.size → wpList P ops Q rest (a.put o.dst (goInt n)) w') : wpList P ops Q (o :: rest) a w := by
  refine wpList_plain hgd fun K hK => ?_
  obtain ⟨w', hrun, r1, r2, r3⟩ := run_copy_reads (P := P) w t tx o.type e i ht hi hsize g cap n zs hown v xs hr hl h1
  unfold Oper.wp execOp
  simp only [ho, resolve, invoke, builtin, Sem.run_bind, Sem.run_pure, Result.andThen_ok, List.map_toArray, List.map_cons, List.map_nil, hs, hx, hrun]
  exact hK _ _ (h w' r1 r2 r3)
end
end Go.Proofs.Ytjedajfemhpogaa
