/-
  What the frames of package digest's statements open.
-/
import Derived.Test.YtlhennbimgjohaaFr
import Derived.Test.YtlhennbimgjohaaDgW0
namespace Go.Proofs.Ytlhennbimgjohaa
theorem in64_wf {a b : Int} (ha : (Lit.int .u64 a).wf = true) (hb : (Lit.int .u64 b).wf = true) : In64 (a, b) := by
  have h1 := bounds_u64 ha; have h2 := bounds_u64 hb
  exact ⟨by show 0 ≤ a; omega, by show a < _; omega, by show 0 ≤ b; omega, by show b < _; omega⟩
end Go.Proofs.Ytlhennbimgjohaa
