/-
  The second form's bound: how long a slice is that came in.
-/
import Derived.Test.YtbiecpejpkgngaaRows
namespace Go.Proofs.Ytbiecpejpkgngaa
theorem bulk_pos {H : Type} : ∀ d : DataW H, 1 ≤ Rows.uptoBulk d
  | .lit l => by cases l <;> simp [Rows.uptoBulk]
  | .nil => by simp [Rows.uptoBulk]
  | .ptr _ => by simp [Rows.uptoBulk]
  | .slice _ _ => by simp [Rows.uptoBulk]
  | .agg _ => by simp [Rows.uptoBulk]
  | .iface _ _ => by simp [Rows.uptoBulk]
  | .map _ => by simp [Rows.uptoBulk]
  | .held _ => by simp [Rows.uptoBulk]
theorem bulk_length {H : Type} : ∀ l : List (DataW H), l.length ≤ Rows.uptoBulkAll l
  | [] => by simp
  | d :: l => by
    have h1 := bulk_pos d
    have h2 := bulk_length l
    simp only [Rows.uptoBulkAll, List.length_cons]; omega
theorem bulk_mem {H : Type} {d : DataW H} : ∀ {l : List (DataW H)}, d ∈ l → Rows.uptoBulk d ≤ Rows.uptoBulkAll l
  | x :: l, h => by
    simp only [Rows.uptoBulkAll]
    rcases List.mem_cons.1 h with rfl | h
    · omega
    · have := bulk_mem h; omega
theorem bulk_slice {H : Type} {l : List (DataW H)} {d : DataW H} {elems spare : List (DataW H)} (h : d ∈ l) (hd : d = .slice elems spare) : elems.length ≤ Rows.uptoBulkAll l := by
  have h1 := bulk_mem h
  have h2 := bulk_length elems
  rw [hd] at h1
  simp only [Rows.uptoBulk] at h1
  omega
end Go.Proofs.Ytbiecpejpkgngaa
