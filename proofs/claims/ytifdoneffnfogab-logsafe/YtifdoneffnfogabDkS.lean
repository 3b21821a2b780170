/- A disk: what each call answers and leaves, and how a disk of the program lies in memory. -/
import Derived.Test.YtifdoneffnfogabRows
import Derived.Test.YtifdoneffnfogabBlk
import Derived.Test.YtifdoneffnfogabHas
import Derived.Test.YtifdoneffnfogabFlSt
namespace Go.Proofs.Ytifdoneffnfogab
open Go.RowKit
set_option linter.unusedSimpArgs false
set_option linter.unusedVariables false

/-- A disk: its bytes, how many are synced, how many it takes, at which call the power goes (0: at none), whether it is gone. -/
structure Dk where
  b : List UInt8
  kept : Nat
  size : Nat
  left : Nat
  gone : Bool

structure Dk.Ok (s : Dk) : Prop where
  kept : s.kept ≤ s.b.length
  len : s.b.length ≤ s.size
  size : s.size ≤ 65536
  left : s.left ≤ 9223372036854775807

def Dk.new (n : Int) : Dk := ⟨[], 0, (max 0 (min n 65536)).toNat, 0, false⟩
/-- Append: the answer, and the disk behind it. -/
def Dk.app (s : Dk) (x : List UInt8) : Int × Dk :=
  if s.gone then (18, s) else if s.size - s.b.length < x.length then (19, s)
  else if s.left = 1 then (18, ⟨s.b ++ x, s.kept, s.size, 0, true⟩) else (0, ⟨s.b ++ x, s.kept, s.size, s.left - 1, false⟩)
def Dk.cut (s : Dk) (n : Int) : Int × Dk :=
  if s.gone then (18, s) else if n < 0 ∨ (s.b.length : Int) < n then (1, s)
  else if s.left = 1 then (18, ⟨s.b, s.kept, s.size, 0, true⟩) else (0, ⟨s.b.take n.toNat, n.toNat, s.size, s.left - 1, false⟩)
def Dk.sync (s : Dk) : Int × Dk := s.cut s.b.length
def Dk.stop (s : Dk) (n : Int) : Dk := ⟨s.b, s.kept, s.size, (max n 0).toNat, s.gone⟩
/-- How many bytes stay behind a Crash. -/
def Dk.stay (s : Dk) (pick : Int) : Nat := s.kept + (pick % ((s.b.length - s.kept + 1 : Nat) : Int)).toNat
def Dk.crash (s : Dk) (pick : Int) : Dk := ⟨s.b.take (s.stay pick), s.stay pick, s.size, 0, false⟩
def Dk.read (s : Dk) : List UInt8 × Int := if s.gone then ([], 18) else (s.b, 0)

theorem Dk.new_ok (n : Int) : (Dk.new n).Ok := ⟨Nat.le_refl _, Nat.zero_le _, by simp only [Dk.new]; omega, by simp [Dk.new]⟩
theorem Dk.stay_le (s : Dk) (h : s.Ok) (pick : Int) : s.stay pick ≤ s.b.length ∧ s.kept ≤ s.stay pick := by
  have h1 := h.kept
  have h2 := Int.emod_lt_of_pos pick (b := ((s.b.length - s.kept + 1 : Nat) : Int)) (by omega)
  have h3 := Int.emod_nonneg pick (b := ((s.b.length - s.kept + 1 : Nat) : Int)) (by omega)
  unfold Dk.stay
  omega
theorem Dk.app_ok (s : Dk) (h : s.Ok) (x : List UInt8) : (s.app x).2.Ok := by
  obtain ⟨h1, h2, h3, h4⟩ := h
  unfold Dk.app
  split
  · exact ⟨h1, h2, h3, h4⟩
  · split
    · exact ⟨h1, h2, h3, h4⟩
    · rename_i hn
      have hb : (s.b ++ x).length ≤ s.size := by rw [List.length_append]; omega
      have hk : s.kept ≤ (s.b ++ x).length := by rw [List.length_append]; omega
      split
      · exact ⟨hk, hb, h3, Nat.zero_le _⟩
      · exact ⟨hk, hb, h3, by show s.left - 1 ≤ _; omega⟩
theorem Dk.cut_ok (s : Dk) (h : s.Ok) (n : Int) : (s.cut n).2.Ok := by
  obtain ⟨h1, h2, h3, h4⟩ := h
  unfold Dk.cut
  split
  · exact ⟨h1, h2, h3, h4⟩
  · split
    · exact ⟨h1, h2, h3, h4⟩
    · split
      · exact ⟨h1, h2, h3, Nat.zero_le _⟩
      · refine ⟨?_, ?_, h3, by show s.left - 1 ≤ _; omega⟩
        · show n.toNat ≤ (s.b.take n.toNat).length
          rw [List.length_take]; omega
        · show (s.b.take n.toNat).length ≤ s.size
          rw [List.length_take]; omega
theorem Dk.crash_ok (s : Dk) (h : s.Ok) (n : Int) : (s.crash n).Ok := by
  have hs := s.stay_le h n
  have h2 := h.len
  refine ⟨?_, ?_, h.size, Nat.zero_le _⟩
  · show s.stay n ≤ (s.b.take (s.stay n)).length
    rw [List.length_take]; omega
  · show (s.b.take (s.stay n)).length ≤ s.size
    rw [List.length_take]; omega
theorem Dk.stop_ok (s : Dk) (h : s.Ok) (n : Int) (hn : n ≤ 9223372036854775807) : (s.stop n).Ok := ⟨h.kept, h.len, h.size, by show (max n 0).toNat ≤ _; omega⟩

/-- Nothing but the blocks p and q has changed, and what is new. -/
structure Only (w w' : World) (p q : Nat) : Prop where
  os : w'.os = w.os
  tape : w'.tape = w.tape
  output : w'.output = w.output
  size : w.heap.size ≤ w'.heap.size
  block : ∀ k, k < w.heap.size → k ≠ p → k ≠ q → w'.heap[k]? = w.heap[k]?

section
variable {w w1 w2 : World} {p q : Nat}
theorem Only.refl (w : World) (p q : Nat) : Only w w p q := ⟨rfl, rfl, rfl, Nat.le_refl _, fun _ _ _ _ => rfl⟩
theorem Only.trans (a : Only w w1 p q) (b : Only w1 w2 p q) : Only w w2 p q :=
  ⟨b.os.trans a.os, b.tape.trans a.tape, b.output.trans a.output, Nat.le_trans a.size b.size, fun k hk h1 h2 => by rw [b.block k (Nat.lt_of_lt_of_le hk a.size) h1 h2, a.block k hk h1 h2]⟩
theorem Only.of_below (h : Below w.heap.size w w1) (p q : Nat) : Only w w1 p q := ⟨h.os, h.tape, h.output, h.size, fun k hk _ _ => h.block k hk⟩
theorem Only.drew (h : Only w w1 p q) : Only w w1.drew p q := ⟨h.os, h.tape, h.output, h.size, h.block⟩
theorem Only.set (w : World) (p q j : Nat) (v : Value) : Only w (w.setCell ⟨p, j, none⟩ v) p q := ⟨rfl, rfl, rfl, by simp [World.setCell], fun k _ h _ => heap_setCell_other _ _ _ _ h⟩
theorem Only.sets (w : World) (p q j : Nat) (vs : List Value) : Only w (w.setCells q j vs) p q :=
  have hb := below_setCells (B := 0) (g := q) (Nat.zero_le _) vs j (Below.refl 0 w)
  ⟨hb.os, hb.tape, hb.output, hb.size, fun k _ _ h => setCells_heap h vs j w⟩
theorem Only.below (h : Only w w1 p q) {Bd : Nat} {w0 : World} (hb : Below Bd w0 w) (hw : Bd ≤ w.heap.size) (hp : Bd ≤ p) (hq : Bd ≤ q) : Below Bd w0 w1 :=
  ⟨h.os.trans hb.os, h.tape.trans hb.tape, h.output.trans hb.output, Nat.le_trans hb.size h.size, fun k hk => by rw [h.block k (by omega) (by omega) (by omega), hb.block k hk]⟩
end

/-- The program's disk s in the block d, its room in the block r. -/
structure DK (w : World) (d r : Nat) (s : Dk) : Prop where
  blk : Blk w 40 d [.slice (some ⟨r, 0, none⟩) s.size s.size, st s.kept (s.b.length - s.kept), .int .i64 s.left, .bool s.gone]
  room : ∃ junk : List UInt8, Blk w 5 r (B (s.b ++ junk)) ∧ s.b.length + junk.length = s.size
  ok : s.Ok
  ne : d ≠ r

section
variable {w w' : World} {d r : Nat} {s : Dk}
theorem DK.lt (h : DK w d r s) : d < w.heap.size := h.blk.lt
theorem DK.ltr (h : DK w d r s) : r < w.heap.size := by obtain ⟨j, hj, _⟩ := h.room; exact hj.lt
theorem DK.kept (h : DK w d r s) (h1 : w'.heap[d]? = w.heap[d]?) (h2 : w'.heap[r]? = w.heap[r]?) : DK w' d r s :=
  ⟨h.blk.kept h1, by obtain ⟨j, hj, e⟩ := h.room; exact ⟨j, hj.kept h2, e⟩, h.ok, h.ne⟩
theorem DK.later (h : DK w d r s) (hb : Below w.heap.size w w') : DK w' d r s := h.kept (hb.block d h.lt) (hb.block r h.ltr)
theorem DK.drew (h : DK w d r s) : DK w.drew d r s := h.kept rfl rfl
theorem DK.c0 (h : DK w d r s) : w.cell? ⟨d, 0, none⟩ = some (.slice (some ⟨r, 0, none⟩) s.size s.size) := h.blk.cell rfl
theorem DK.c1 (h : DK w d r s) : w.cell? ⟨d, 1, none⟩ = some (st s.kept (s.b.length - s.kept)) := h.blk.cell rfl
theorem DK.c2 (h : DK w d r s) : w.cell? ⟨d, 2, none⟩ = some (.int .i64 s.left) := h.blk.cell rfl
theorem DK.c3 (h : DK w d r s) : w.cell? ⟨d, 3, none⟩ = some (.bool s.gone) := h.blk.cell rfl
theorem DK.setLeft (h : DK w d r s) (m : Nat) (hm : m ≤ 9223372036854775807) : DK (w.setCell ⟨d, 2, none⟩ (.int .i64 m)) d r ⟨s.b, s.kept, s.size, m, s.gone⟩ :=
  ⟨h.blk.setCell 2 _, by obtain ⟨j, hj, e⟩ := h.room; exact ⟨j, hj.kept (heap_setCell_other _ _ _ _ h.ne.symm), e⟩, ⟨h.ok.kept, h.ok.len, h.ok.size, hm⟩, h.ne⟩
theorem DK.setGone (h : DK w d r s) (g : Bool) : DK (w.setCell ⟨d, 3, none⟩ (.bool g)) d r ⟨s.b, s.kept, s.size, s.left, g⟩ :=
  ⟨h.blk.setCell 3 _, by obtain ⟨j, hj, e⟩ := h.room; exact ⟨j, hj.kept (heap_setCell_other _ _ _ _ h.ne.symm), e⟩, ⟨h.ok.kept, h.ok.len, h.ok.size, h.ok.left⟩, h.ne⟩
theorem DK.setCut (h : DK w d r s) (n : Nat) (hn : n ≤ s.b.length) : DK (w.setCell ⟨d, 1, none⟩ (st n 0)) d r ⟨s.b.take n, n, s.size, s.left, s.gone⟩ := by
  have hl : (s.b.take n).length = n := by rw [List.length_take]; omega
  refine ⟨?_, ?_, ⟨by show n ≤ (s.b.take n).length; omega, by show (s.b.take n).length ≤ s.size; have := h.ok.len; omega, h.ok.size, h.ok.left⟩, h.ne⟩
  · have := h.blk.setCell 1 (st n 0)
    show Blk _ _ _ [_, st n ((s.b.take n).length - n), _, _]
    rw [hl, Nat.sub_self]
    exact this
  · obtain ⟨j, hj, e⟩ := h.room
    refine ⟨s.b.drop n ++ j, ?_, ?_⟩
    · show Blk _ _ r (B (s.b.take n ++ (s.b.drop n ++ j)))
      rw [← List.append_assoc, List.take_append_drop]
      exact hj.kept (heap_setCell_other _ _ _ _ h.ne.symm)
    · show (s.b.take n).length + (s.b.drop n ++ j).length = s.size
      rw [hl, List.length_append, List.length_drop]; omega
/-- There is room for what is copied behind all bytes. -/
theorem DK.there (h : DK w d r s) (n : Nat) (hn : s.b.length + n ≤ s.size) : w.there r s.b.length n := by
  obtain ⟨j, hj, e⟩ := h.room
  exact hj.there (by rw [B_length, List.length_append]; omega)
theorem DK.setApp (h : DK w d r s) (x : List UInt8) (hx : s.b.length + x.length ≤ s.size) :
    DK ((w.setCells r s.b.length (B x)).setCell ⟨d, 1, none⟩ (st s.kept (s.b.length - s.kept + x.length))) d r ⟨s.b ++ x, s.kept, s.size, s.left, s.gone⟩ := by
  have hk := h.ok.kept
  have hl : (s.b ++ x).length = s.b.length + x.length := List.length_append
  refine ⟨?_, ?_, ⟨by show s.kept ≤ (s.b ++ x).length; omega, by show (s.b ++ x).length ≤ s.size; omega, h.ok.size, h.ok.left⟩, h.ne⟩
  · have := (h.blk.kept (setCells_heap h.ne (B x) s.b.length w)).setCell 1 (st s.kept (s.b.length - s.kept + x.length))
    show Blk _ _ _ [_, st s.kept ((s.b ++ x).length - s.kept), _, _]
    rw [hl, show s.b.length + x.length - s.kept = s.b.length - s.kept + x.length by omega]
    exact this
  · obtain ⟨j, hj, e⟩ := h.room
    refine ⟨j.drop x.length, ?_, ?_⟩
    · refine Blk.kept ?_ (heap_setCell_other _ _ _ _ h.ne.symm)
      have e2 : B (s.b ++ j) = B s.b ++ B (j.take x.length) ++ B (j.drop x.length) := by rw [← B_append, ← B_append, List.append_assoc, List.take_append_drop]
      have h3 := Blk.setCells (B x) (B s.b) (B (j.take x.length)) (B (j.drop x.length)) (o := s.b.length) (by rw [← e2]; exact hj) (by rw [B_length, B_length, List.length_take]; omega) (B_length _)
      show Blk _ _ r (B (s.b ++ x ++ j.drop x.length))
      rw [B_append, B_append]
      exact h3
    · show (s.b ++ x).length + (j.drop x.length).length = s.size
      rw [hl, List.length_drop]; omega
/-- The room reads as the bytes (and more). -/
theorem DK.reads (h : DK w d r s) : ∃ all : List UInt8, all.length = s.size ∧ all.take s.b.length = s.b ∧ Reads w (.slice (some ⟨r, 0, none⟩) s.size s.size) (B all) := by
  obtain ⟨j, hj, e⟩ := h.room
  have hl : (s.b ++ j).length = s.size := by rw [List.length_append]; exact e
  refine ⟨s.b ++ j, hl, List.take_left, some ⟨r, 0, none⟩, s.size, by rw [B_length, hl], by rw [B_length, hl]; exact Nat.le_refl _, (fun h => by cases h), fun ad he k u hk => ?_⟩
  cases he
  rw [Addr.add_lit, Nat.zero_add]
  exact hj.cell hk
end

theorem Has.keptAt {w w' : World} {e : TypeId} {Bd : Nat} {v : Value} {n : Nat} {xs : List Value} (h : Has w e Bd v n xs) (kp : ∀ k, Bd ≤ k → k < w.heap.size → w'.heap[k]? = w.heap[k]?) : Has w' e Bd v n xs := by
  rcases h with h | ⟨g, cap, rfl, h1, h2⟩
  · exact .inl h
  · exact .inr ⟨g, cap, rfl, h1, h2.kept (kp g h1 h2.lt)⟩
end Go.Proofs.Ytifdoneffnfogab
