/- make([]byte, n): a block of noughts. -/
import Derived.Test.YtifdoneffnfogabBlk
namespace Go.Proofs.Ytifdoneffnfogab
open Go.RowKit
set_option linter.unusedSimpArgs false
set_option linter.unusedVariables false

section
variable {P : Program} {w : World}
theorem wp_make_blk {o : Oper} {a : Act} {K : Act → World → Prop} {Q : Exit → Act → World → Prop} (l c : Operand) (t : TypeId) (hop : o.op = Op.makeSlice t l c)
    (e : TypeId) (i : TypeInfo) (ht : P.underlying t = some (.slice e)) (hi : P.info? e = some i) (hz : i.zero = some (.int .u8 0)) (hsize : i.size = 1) (hby : i.bytes = 1)
    (kl kc : IntKind) (n : Nat) (hl : a.eval l = .int kl (n : Int)) (hc : a.eval c = .int kc (n : Int)) (hb : n ≤ 140737488355328) (N : Nat) (hN : w.heap.size = N)
    (h : ∀ w', Blk w' e N (B (List.replicate n 0)) → Below N w w' → w'.heap.size = N + 1 → K (a.put o.dst (.slice (some ⟨N, 0, none⟩) n n)) w') : o.wp P a w K Q := by
  subst hN
  have hr := run_make (P := P) w t e i _ ht hi hz kl kc (n : Int) (n : Int) (by omega) (by omega) (by rw [hby]; omega) (by omega)
  simp only [Int.toNat_natCast] at hr
  have hcells : (madeCells (Value.int .u8 0).cells (n * i.size)) = (B (List.replicate n 0)).toArray := by
    apply Array.ext'
    have h1 := made_bytes (n * i.size) n (by rw [hsize, Nat.mul_one]; exact Nat.le_refl _)
    rw [List.take_of_length_le (by rw [Array.length_toList, size_madeCells, hsize, Nat.mul_one]; exact Nat.le_refl _)] at h1
    rw [h1]
  rw [hcells] at hr
  unfold Oper.wp
  simp [execOp, hop, hl, hc, hr, Result.andThen]
  exact h _ (Blk.new w e _) ((Below.refl _ _).alloc (Nat.le_refl _) _) (by simp)

theorem wpList_make_blk {ops : Array Oper} {rest : List Oper} {o : Oper} {a : Act} {Q : Exit → Act → World → Prop} (hgd : o.guard = none) (l c : Operand) (t : TypeId) (hop : o.op = Op.makeSlice t l c)
    (e : TypeId) (i : TypeInfo) (ht : P.underlying t = some (.slice e)) (hi : P.info? e = some i) (hz : i.zero = some (.int .u8 0)) (hsize : i.size = 1) (hby : i.bytes = 1)
    (kl kc : IntKind) (n : Nat) (hl : a.eval l = .int kl (n : Int)) (hc : a.eval c = .int kc (n : Int)) (hb : n ≤ 140737488355328) (N : Nat) (hN : w.heap.size = N)
    (h : ∀ w', Blk w' e N (B (List.replicate n 0)) → Below N w w' → w'.heap.size = N + 1 → wpList P ops Q rest (a.put o.dst (.slice (some ⟨N, 0, none⟩) n n)) w') : wpList P ops Q (o :: rest) a w :=
  wpList_plain hgd fun _ hK => wp_make_blk l c t hop e i ht hi hz hsize hby kl kc n hl hc hb N hN fun w' h1 h2 h3 => hK _ _ (h w' h1 h2 h3)
/-- The same where a guard asks for it. -/
theorem wpList_make_wb {ops : Array Oper} {rest : List Oper} {o : Oper} {a : Act} {Q : Exit → Act → World → Prop} (hw : Region.wanted o (yielded ops a.tmps) = true) (l c : Operand) (t : TypeId) (hop : o.op = Op.makeSlice t l c)
    (e : TypeId) (i : TypeInfo) (ht : P.underlying t = some (.slice e)) (hi : P.info? e = some i) (hz : i.zero = some (.int .u8 0)) (hsize : i.size = 1) (hby : i.bytes = 1)
    (kl kc : IntKind) (n : Nat) (hl : a.eval l = .int kl (n : Int)) (hc : a.eval c = .int kc (n : Int)) (hb : n ≤ 140737488355328) (N : Nat) (hN : w.heap.size = N)
    (h : ∀ w', Blk w' e N (B (List.replicate n 0)) → Below N w w' → w'.heap.size = N + 1 → wpList P ops Q rest (a.put o.dst (.slice (some ⟨N, 0, none⟩) n n)) w') : wpList P ops Q (o :: rest) a w :=
  wpList_step fun K hK => by rw [if_pos hw]; exact wp_make_blk l c t hop e i ht hi hz hsize hby kl kc n hl hc hb N hN fun w' h1 h2 h3 => hK _ _ (h w' h1 h2 h3)
end
end Go.Proofs.Ytifdoneffnfogab
